/-
  Own text. Part 4 of what the claim rests on.
-/
import Derived.Conc.CrowdBase
import Derived.Test.YtdcjnhipenbcfaaGreatDoorPk3
set_option linter.unusedVariables false
set_option linter.unusedSectionVars false
set_option linter.unusedSimpArgs false
set_option maxRecDepth 100000
set_option maxHeartbeats 16000000
open Array renaming getElem?_setIfInBounds_self_of_lt->aee,getElem?_setIfInBounds_ne->aev,mem_of_getElem?->aeA,getElem?_push->aeB,getElem?_map->aeC,getElem?_eq_some_iff->aeD,append_empty->aeH
open Classical renaming choose->aeF
open Go.MemAct renaming ofEvent->aej,touch?->aek
open Go.MemOp renaming ofEvents->aef
open Go.Proofs.YtdcjnhipenbcfaaGreatDoor.Ph.fL renaming closes->aey
open Go.World renaming setChan->aeq
open List renaming getD_eq_getElem?_getD->ael,mem_toArray->aer,not_mem_nil->aes,mem_cons->aew,getElem?_eq_some_iff->aeE,getElem?_eq_getElem->aeG,count_append->aeI,count_cons->aeK
open Nat renaming lt_of_lt_of_le->aeg,zero_le->aeh,le_refl->aei,le_of_lt->aen,le_of_eq->aeo,not_lt_zero->aep,le_add_right->aeu,le_trans->aex,lt_of_not_le->aeJ
open Option renaming map_eq_some_iff->aez
open Option.some renaming injEq->aem
namespace Go.Proofs.YtdcjnhipenbcfaaGreatDoor
noncomputable section
variable {wg:Addr}{es:Array Event}{cl main:Bool}{e:Event}{fn:FuncId}{g0 gk:Goroutine}{L:List Nat}{l:Loc}{B a bl i i' i0 j k n s x:Nat}{fu1:Nat->Nat}{PW XX:Nat->Nat->Prop}{RO S S1 X X1:Nat->Prop}{tok:Option Nat}{pos:String}{v z:Value}{w:World}
namespace Ph
open Conc Ren
open Lock (Word PC Mv bn cB bw dw)
open ConcN (sumTo upd sumTo_upd upd_ne upd_same sumTo_congr le_sumTo sumTo_le)
inductive Md where
 |run
 |blk
 |dU
 |ns
 deriving DecidableEq
inductive cm(E:Env) where
 |no
 |at(pc:E.pX) (md:Md)
 |cX (i n:Nat)
 |qt (q:Nat)
structure fW(E:Env) where
 j:Nat
 L:List Nat
 ks:Nat->cm E
 d:lp
 dm:Md
 m:Word
 c:Nat
 v:Nat
 wt:Nat
 ws:Nat
 γ:E.Γ
 dn:List Nat
 tok:Option Nat
section
variable{E:Env}
def Dt:E.pX->PC
 |.recv=>.out
 |.ld _=>.l0
 |.lk p _=>p
 |.le _=>.cr
 |.la _=>.cr
 |.ur _=>.cr
 |.ud=>.cr
 |.u0=>.cr
 |.un p=>p
 |.ue=>.out
 |.wr=>.out
def iG:cm E->PC
 |.at pc _=>Dt pc
 |_=>.out
def kW(y:Nat):E.pX->Nat
 |.ld x=>if x=y then 1 else 0
 |.lk _ x=>if x=y then 1 else 0
 |.le x=>if x=y then 1 else 0
 |.la x=>if x=y then 1 else 0
 |_=>0
def kX(y:Nat):cm E->Nat
 |.at pc _=>kW y pc
 |_=>0
def Hj:E.pX->Nat
 |.recv=>7
 |.ld _=>17
 |.lk p _=>14+cB p
 |.le _=>14
 |.la _=>13
 |.ur _=>12
 |.ud=>11
 |.u0=>10
 |.un p=>9+cB p
 |.ue=>8
 |.wr=>6
def vZ:cm E->Nat
 |.at pc _=>Hj pc
 |.cX i _=>i+1
 |_=>0
def qs:cm E->Nat
 |.cX i _=>if i<=2 then 1 else 0
 |.qt _=>1
 |_=>0
def kh:cm E->Nat
 |.cX i _=>if i=1\/i=2 then 1 else 0
 |_=>0
def kY:cm E->Nat
 |.cX i _=>if i=0 then 1 else 0
 |_=>0
def Gone:cm E->Prop
 |.at .wr _=>True
 |.at .recv .ns=>True
 |.cX _ _=>True
 |.qt _=>True
 |_=>False
def ry:E.pX->Nat
 |.lk _ _=>1
 |.le _=>1
 |.u0=>1
 |.un _=>1
 |.ue=>1
 |_=>0
def AZ:cm E->Nat
 |.at pc _=>ry pc
 |.cX i _=>if i<=3 then 1 else 0
 |_=>0
end
def jc:lp->Nat
 |.a2 _ _=>1
 |.a3 _ _=>1
 |.a4 _ _=>1
 |.w1=>1
 |.w2 _=>1
 |.wx=>1
 |.w3=>1
 |.w4=>1
 |.ke=>1
 |_=>0
def fB:lp->Nat
 |.a3 _ _=>1
 |.a4 _ _=>1
 |.go _ _=>1
 |_=>0
def nt(J:fL):lp->Nat
 |.st _=>0
 |.a2 _ _=>0
 |.a3 _ _=>0
 |.a4 _ _=>0
 |.go _ _=>0
 |.send _ i=>i
 |_=>J.ao.length
def aD(J:fL):lp->Nat
 |.st _=>0
 |.a2 _ _=>0
 |.a3 _ _=>0
 |.a4 _ _=>0
 |.go _ _=>0
 |.send _ _=>0
 |.close _ i=>i
 |_=>J.n
def fM(J:fL)(v:Nat):lp->Nat
 |.st L=>60+20 *J.ao.length+20 *(J.n-L.length)
 |.a2 L _=>59+20 *J.ao.length+20 *(J.n-L.length)
 |.a3 L _=>58+20 *J.ao.length+20 *(J.n-L.length)
 |.a4 L _=>57+20 *J.ao.length+20 *(J.n-L.length)
 |.go L _=>56+20 *J.ao.length+20 *(J.n-L.length)
 |.send _ i=>40+20 *(J.ao.length-i)
 |.close _ i=>25+(J.n-i)
 |.kd=>24
 |.w1=>7+2 *v
 |.w2 v0=>6+2 *v0
 |.wx=>5
 |.w3=>4
 |.w4=>3
 |.ke=>2
 |.aq=>1
def qu:lp->Prop
 |.wx=>True
 |.w3=>True
 |_=>False
def xG:lp->Prop
 |.w4=>True
 |.ke=>True
 |.aq=>True
 |_=>False
def Xl(J:fL)(Y:List Nat)(j:Nat):lp->Prop
 |.st L=>L=Y/\j<J.n
 |.a2 L _=>L=Y/\j<J.n
 |.a3 L _=>L=Y/\j<J.n
 |.a4 L _=>L=Y/\j<J.n
 |.go L _=>L=Y/\j<J.n
 |.send L i=>L=Y/\j=J.n/\i<J.ao.length
 |.close L i=>L=Y/\j=J.n/\i<J.n
 |_=>j=J.n
def yZ(d:lp)(v wt ws K Y:Nat):=
 (wt=0/\ws=0/\K=0/\Y=0/\¬qu d/\(xG d->v=0))\/
 (qu d/\((wt=1/\ws=0/\0<v/\K=0/\Y=0)\/(wt=1/\ws=0/\v=0/\K=1/\Y=0)\/(wt=0/\ws=0/\v=0/\K=0/\Y=1)\/(wt=0/\ws=1/\v=0/\K=0/\Y=0)))
section
variable{E:Env}
structure CI(J:fL)(bR:E.Γ)(C:fW E):Prop where
 jn:C.j<=J.n
 len:C.L.length=C.j
 T6:C.L.Nodup
 no:∀k,C.j<=k->C.ks k=.no
 yes:∀k,k<C.j->C.ks k≠.no
 lock:Lock.Inv (fun k=>iG (C.ks k)) J.n C.m C.c
 tK:∀k,C.tok=some k->∃md,C.ks k=.at (.ur C.γ) md
 Du:∀k γ md,C.ks k=.at (.ur γ) md->C.tok=some k
 md:∀k pc md,C.ks k=.at pc md->(md=.blk->∃sv x,pc=.lk (.s1 sv) x)/\(md=.dU\/md=.ns->pc=.recv)
 Fu:(C.dm=.blk->C.d=.w3)/\(C.dm=.dU->∃i,C.d=.send C.L i)/\C.dm≠.ns
 num:∀y,C.dn.count y+sumTo J.n (fun k=>kX y (C.ks k))=(J.ao.take (nt J C.d)).count y
 fold:C.γ=C.dn.foldl E.upd bR
 Fv:C.v+sumTo J.n (fun k=>qs (C.ks k))=C.j+fB C.d
 ph:yZ C.d C.v C.wt C.ws (sumTo J.n fun k=>kh (C.ks k)) (sumTo J.n fun k=>kY (C.ks k))
 gone:∀k,Gone (C.ks k)->k<aD J C.d
 A0:Xl J C.L C.j C.d
 IQ:∀k p x md,C.ks k=.at (.lk p x) md->cB p=2
 Dv:∀k p md,C.ks k=.at (.un p) md->cB p=0/\p≠.out
 cX:∀k i n,C.ks k=.cX i n->i<=4
 w2:∀v0,C.d=.w2 v0->0<v0/\C.v<=v0
structure Calm(J:fL)(C:fW E):Prop where
 blk:∀k pc,C.ks k=.at pc .blk->C.c=0
 dU:∀k pc,C.ks k=.at pc .dU->¬k<aD J C.d
 Ri:C.dm=.blk->C.ws=0
 pa:∀i,C.dm=.dU->C.d=.send C.L i->∀pc,C.ks (i%J.n)≠.at pc .dU
def r_(J:fL)(C:fW E):=fM J C.v C.d+sumTo J.n (fun k=>vZ (C.ks k))
def Dw(J:fL)(C:fW E):=sumTo J.n (fun k=>bw (iG (C.ks k)))+7 *C.c
def qv(J:fL)(C:fW E):=sumTo J.n (fun k=>dw C.m (iG (C.ks k)))
def mu(J:fL)(C:fW E):=(r_ J C *128+Dw J C) *128+qv J C
theorem T7(p:PC):bw p<=9:=by
 cases p<;>simp[bw]<;>omega
theorem T8(m:Word)(p:PC):dw m p<=12:=by
 cases p<;>simp[dw]<;>(try split)<;>omega
theorem Rj{J:fL}{C:fW E}(K:J.n<=8)(Y:C.c<=1):Dw J C<128:=by
 have h:=sumTo_le (f:=fun k=>bw (iG (C.ks k))) (j:=J.n) fun i _=>T7 _;unfold Dw;omega
theorem Fw{J:fL}{C:fW E}(Y:J.n<=8):qv J C<128:=by
 have h:=sumTo_le (f:=fun k=>dw C.m (iG (C.ks k))) (j:=J.n) fun i _=>T8 _ _;unfold qv;omega
theorem Dx{J:fL}{C C':fW E}(Y:J.n<=8)(K:C'.c<=1)(h:r_ J C'<r_ J C):mu J C'<mu J C:=by
 have H:=Rj Y K;have D:=Fw (C:=C') Y;unfold mu;omega
theorem YR{J:fL}{C C':fW E}(Y:J.n<=8)(h:r_ J C'=r_ J C)(H:Dw J C'<Dw J C):mu J C'<mu J C:=by
 have K:=Fw (C:=C') Y;unfold mu;omega
theorem YS{J:fL}{C C':fW E}(h:r_ J C'=r_ J C)(Y:Dw J C'=Dw J C)(K:qv J C'<qv J C):mu J C'<mu J C:=by
 unfold mu;omega
theorem xH(f:PC->Nat)(aW:Nat->PC):∀n,Lock.dP f aW n=sumTo n fun k=>f (aW k)
 |0=>rfl
 |n+1=>by rw[Lock.dP,sumTo,xH f aW n]
theorem Nq(ks:Nat->cm E)(k:Nat)(s:cm E):(fun i=>iG (upd ks k s i))=Lock.put (fun i=>iG (ks i)) k (iG s):=by
 funext i;unfold upd Lock.put;split<;>rfl
theorem A1(f g h:PC->Nat)(aW:Nat->PC):∀n,Lock.dP (fun p=>f p+g p+h p) aW n=Lock.dP f aW n+Lock.dP g aW n+Lock.dP h aW n
 |0=>rfl
 |n+1=>by simp[Lock.dP,A1 f g h aW n];omega
theorem n_{aW:Nat->PC}{m:Word}{c:Nat}(h:Lock.Inv aW n m c):c<=1/\m.W<=n:=by
 have one:∀f,(∀p,f p<=1)->Lock.dP f aW n<=n:=by
  intro f R;rw[xH];have:=sumTo_le (f:=fun k=>f (aW k)) (j:=n) fun i _=>R _;omega
 have hb:=Lock.lK m.K;have I:∀p,Lock.ll p+Lock.ei p+Lock.cG p<=1:=by intro p;cases p<;>simp[Lock.ll,Lock.ei,Lock.cG]
 cases Y:m.S with
 |false=>
  obtain⟨H,D,_⟩:=h.calm Y;have:=one Lock.ll (by intro p;cases p<;>simp[Lock.ll]);omega
 |true=>
  obtain⟨H,D,A,U,B,C⟩:=h.hard Y;have:=one _ I;have e:=A1 Lock.ll Lock.ei Lock.cG aW n;omega
end
end Ph
namespace Ph
open Conc Ren
open Lock (Word PC Mv bn cB bw dw)
open ConcN (sumTo upd sumTo_upd upd_ne upd_same sumTo_congr le_sumTo sumTo_le sumTo_upd_out)
section
variable{E:Env}{J:fL}{bR:E.Γ}{C:fW E}
def fW.wk(C:fW E)(k:Nat)(s':cm E)(d':lp)(lM:Md)(m':Word)(c' v' dq dk:Nat)(mG:E.Γ)(mM:List Nat)(dC:Option Nat):=
 {C with ks:=upd C.ks k s',d:=d',dm:=lM,m:=m',c:=c',v:=v',wt:=dq,ws:=dk,γ:=mG,dn:=mM,tok:=dC}
theorem iH{C:fW E}{s s':cm E}(f:cm E->Nat)(n:Nat)(hk:k<n)(e:C.ks k=s):sumTo n (fun i=>f (upd C.ks k s' i))+f s=sumTo n (fun i=>f (C.ks i))+f s':=by
 have:=sumTo_upd C.ks s' f hk;simp_all
theorem CI.wk{s s':cm E}{d':lp}{lM:Md}{m':Word}{c' v' dq dk:Nat}{mG:E.Γ}{mM:List Nat}{dC:Option Nat}(h:CI J bR C)(hk:k<C.j)(e:C.ks k=s)(ne:s'≠.no)
  (lock:Lock.Inv (Lock.put (fun i=>iG (C.ks i)) k (iG s')) J.n m' c')
  (tK:∀i,dC=some i->(i=k/\∃md,s'=.at (.ur mG) md)\/(i≠k/\C.tok=some i/\mG=C.γ))(Du:∀γ md,s'=.at (.ur γ) md->dC=some k)(I:∀i,i≠k->C.tok=some i->dC=some i)
  (md:∀pc md,s'=.at pc md->(md=.blk->∃sv x,pc=.lk (.s1 sv) x)/\(md=.dU\/md=.ns->pc=.recv))
  (Fu:(lM=.blk->d'=.w3)/\(lM=.dU->∃i,d'=.send C.L i)/\lM≠.ns)
  (num:∀y,mM.count y+kX y s'+(J.ao.take (nt J C.d)).count y=C.dn.count y+kX y s+(J.ao.take (nt J d')).count y)
  (fold:mG=mM.foldl E.upd bR)(Fv:v'+qs s'+fB C.d=C.v+qs s+fB d')
  (ph:∀F U,yZ C.d C.v C.wt C.ws (F+kh s) (U+kY s)->yZ d' v' dq dk (F+kh s') (U+kY s'))
  (gone:Gone s'->k<aD J d')(M:aD J C.d<=aD J d')(A0:Xl J C.L C.j d')
  (IQ:∀p x md,s'=.at (.lk p x) md->cB p=2)(Dv:∀p md,s'=.at (.un p) md->cB p=0/\p≠.out)(cX:∀i n,s'=.cX i n->i<=4)(w2:∀v0,d'=.w2 v0->0<v0/\v'<=v0):
  CI J bR (C.wk k s' d' lM m' c' v' dq dk mG mM dC):=by
 have D:k<J.n:=aeg hk h.jn;have us:upd C.ks k s' k=s':=upd_same _ _ _;have un:∀i,i≠k->upd C.ks k s' i=C.ks i:=fun i Y=>upd_ne _ _ Y;refine⟨h.jn,h.len,h.T6,fun i Y=>?_,fun i Y=>?_,?_,fun i Y=>?_,fun i γ H Y=>?_,fun i pc H Y=>?_,Fu,fun y=>?_,fold,?_,?_,fun i Y=>?_,A0,fun i p x H Y=>?_,fun i p H Y=>?_,fun i n0 n1 Y=>?_,w2⟩
 ·have:i≠k:=by have:C.j<=i:=Y;omega
  show upd C.ks k s' i=_
  rw[un i this];exact h.no i Y
 ·show upd C.ks k s' i≠_
  by_cases K:i=k
  ·subst K;rw[us];exact ne
  ·rw[un i K];exact h.yes i Y
 ·show Lock.Inv (fun i=>iG (upd C.ks k s' i)) J.n m' c'
  rw[Nq];exact lock
 ·show∃md,upd C.ks k s' i=_
  rcases tK i Y with⟨rfl,R⟩|⟨R,B,A⟩
  ·rw[us];exact R
  ·rw[un i R];rw[A];exact h.tK i B
 ·change upd C.ks k s' i=_ at Y;show dC=some i
  by_cases K:i=k
  ·subst K;rw[us]at Y;exact Du γ H Y
  ·rw[un i K]at Y;exact I i K (h.Du i γ H Y)
 ·change upd C.ks k s' i=_ at Y;by_cases K:i=k
  ·subst K;rw[us]at Y;exact md pc H Y
  ·rw[un i K]at Y;exact h.md i pc H Y
 ·have R:=h.num y;have B:=num y;have A:=iH (C:=C) (s':=s') (kX y) J.n D e;show mM.count y+sumTo J.n (fun i=>kX y (upd C.ks k s' i))=(J.ao.take (nt J d')).count y
  omega
 ·have R:=h.Fv;have A:=iH (C:=C) (s':=s') qs J.n D e;show v'+sumTo J.n (fun i=>qs (upd C.ks k s' i))=C.j+fB d'
  omega
 ·have R:=h.ph;have A:=iH (C:=C) (s':=s') kh J.n D e;have Q:=iH (C:=C) (s':=s') kY J.n D e;have l2:=le_sumTo (f:=fun i=>kh (C.ks i)) D;have l0:=le_sumTo (f:=fun i=>kY (C.ks i)) D;simp only[e]at l2 l0;have P:=ph (sumTo J.n (fun i=>kh (C.ks i))-kh s) (sumTo J.n (fun i=>kY (C.ks i))-kY s) (by simp_all);show yZ d' v' dq dk (sumTo J.n fun i=>kh (upd C.ks k s' i)) (sumTo J.n fun i=>kY (upd C.ks k s' i))
  have N:sumTo J.n (fun i=>kh (upd C.ks k s' i))=sumTo J.n (fun i=>kh (C.ks i))-kh s+kh s':=by omega
  have O:sumTo J.n (fun i=>kY (upd C.ks k s' i))=sumTo J.n (fun i=>kY (C.ks i))-kY s+kY s':=by omega
  rw[N,O];exact P
 ·change Gone (upd C.ks k s' i)at Y;show i<aD J d'
  by_cases K:i=k
  ·subst K;rw[us]at Y;exact gone Y
  ·rw[un i K]at Y;exact aeg (h.gone i Y) M
 ·change upd C.ks k s' i=_ at Y;by_cases K:i=k
  ·subst K;rw[us]at Y;exact IQ p x H Y
  ·rw[un i K]at Y;exact h.IQ i p x H Y
 ·change upd C.ks k s' i=_ at Y;by_cases K:i=k
  ·subst K;rw[us]at Y;exact Dv p H Y
  ·rw[un i K]at Y;exact h.Dv i p H Y
 ·change upd C.ks k s' i=_ at Y;by_cases K:i=k
  ·subst K;rw[us]at Y;exact cX n0 n1 Y
  ·rw[un i K]at Y;exact h.cX i n0 n1 Y
theorem oa{s s':cm E}{d':lp}{lM:Md}{m':Word}{c' v' dq dk:Nat}{mG:E.Γ}{mM:List Nat}{dC:Option Nat}(hk:k<J.n)(e:C.ks k=s):
  r_ J (C.wk k s' d' lM m' c' v' dq dk mG mM dC)+fM J C.v C.d+vZ s=r_ J C+fM J v' d'+vZ s':=by
 have Y:=iH (s':=s') vZ J.n hk e;show fM J v' d'+sumTo J.n (fun i=>vZ (upd _ k s' i))+fM J C.v C.d+vZ s=fM J C.v C.d+sumTo J.n _+fM J v' d'+vZ s'
 omega
theorem Ka{s s':cm E}{d':lp}{lM:Md}{m':Word}{c' v' dq dk:Nat}{mG:E.Γ}{mM:List Nat}{dC:Option Nat}(hk:k<J.n)(e:C.ks k=s):
  Dw J (C.wk k s' d' lM m' c' v' dq dk mG mM dC)+bw (iG s)+7 *C.c=Dw J C+bw (iG s')+7 *c':=by
 have Y:=iH (s':=s') (fun s=>bw (iG s)) J.n hk e;show sumTo J.n (fun i=>bw (iG (upd _ k s' i)))+7 *c'+bw _+7 *C.c=sumTo J.n _+7 *C.c+bw _+7 *c'
 omega
theorem Fy{s s':cm E}{d':lp}{lM:Md}{c' v' dq dk:Nat}{mG:E.Γ}{mM:List Nat}{dC:Option Nat}(hk:k<J.n)(e:C.ks k=s):
  qv J (C.wk k s' d' lM C.m c' v' dq dk mG mM dC)+dw C.m (iG s)=qv J C+dw C.m (iG s'):=by
 have Y:=iH (s':=s') (fun s=>dw C.m (iG s)) J.n hk e;exact Y
def fW.dd(C:fW E)(d':lp)(lM:Md)(v' dq dk:Nat):={C with d:=d',dm:=lM,v:=v',wt:=dq,ws:=dk}
theorem CI.dd{d':lp}{lM:Md}{v' dq dk:Nat}(h:CI J bR C)(Fu:(lM=.blk->d'=.w3)/\(lM=.dU->∃i,d'=.send C.L i)/\lM≠.ns)(num:J.ao.take (nt J d')=J.ao.take (nt J C.d))(Fv:v'+fB C.d=C.v+fB d')
  (ph:∀K Y,yZ C.d C.v C.wt C.ws K Y->yZ d' v' dq dk K Y)(H:aD J C.d<=aD J d')(A0:Xl J C.L C.j d')(w2:∀v0,d'=.w2 v0->0<v0/\v'<=v0):CI J bR (C.dd d' lM v' dq dk):=by
 refine⟨h.jn,h.len,h.T6,h.no,h.yes,h.lock,h.tK,h.Du,h.md,Fu,fun y=>?_,h.fold,?_,ph _ _ h.ph,fun k hk=>aeg (h.gone k hk) H,A0,h.IQ,h.Dv,h.cX,w2⟩
 ·have:=h.num y;rw[<-num]at this;exact this
 ·have:=h.Fv;show v'+sumTo J.n (fun k=>qs (C.ks k))=C.j+fB d'
  omega
theorem Fz{d':lp}{lM:Md}{v' dq dk:Nat}(h:fM J v' d'<fM J C.v C.d):mu J (C.dd d' lM v' dq dk)<mu J C:=by
 unfold mu;have Y:r_ J (C.dd d' lM v' dq dk)+fM J C.v C.d=r_ J C+fM J v' d':=by
  show fM J v' d'+sumTo J.n (fun k=>vZ (C.ks k))+fM J C.v C.d=fM J C.v C.d+sumTo J.n _+fM J v' d'
  omega
 have K:Dw J (C.dd d' lM v' dq dk)=Dw J C:=rfl;have H:qv J (C.dd d' lM v' dq dk)=qv J C:=rfl;omega
def fW.spawn(J:fL)(C:fW E)(c:Nat):={C with j:=C.j+1,L:=C.L++[c],ks:=upd C.ks C.j (.at .recv .run),d:=J.bK (C.L++[c]),dm:=.run}
theorem pd(f:cm E->Nat)(s':cm E)(h:CI J bR C)(Y:C.j<J.n)(f0:f .no=0):sumTo J.n (fun i=>f (upd C.ks C.j s' i))=sumTo J.n (fun i=>f (C.ks i))+f s':=by
 have:=iH (s':=s') f J.n Y (h.no C.j (aei _));omega
theorem e9:(L.length<J.n/\J.bK L=.st L)\/(¬L.length<J.n/\0<J.ao.length/\J.bK L=.send L 0)\/(¬L.length<J.n/\J.ao.length=0/\J.bK L=.close L 0):=by
 unfold fL.bK fL.sends;by_cases Y:L.length<J.n
 ·simp_all
 ·by_cases K:0<J.ao.length
  ·simp_all
  ·simp_all
theorem CI.spawn{c:Nat}(h:CI J bR C)(T:0<J.n)(V:J.n<=8)(hd:C.d=.go C.L c)(O:c∉C.L):CI J bR (C.spawn J c)/\r_ J (C.spawn J c)<r_ J C:=by
 have H:C.j<J.n:=by have:=h.A0;rw[hd]at this;exact this.2
 have us:upd C.ks C.j (.at .recv .run) C.j=.at .recv .run:=upd_same _ _ _;have un:∀i,i≠C.j->upd C.ks C.j (.at .recv .run) i=C.ks i:=fun i P=>upd_ne _ _ P;have I:C.wt=0/\C.ws=0/\sumTo J.n (fun k=>kh (C.ks k))=0/\sumTo J.n (fun k=>kY (C.ks k))=0:=by
  rcases h.ph with y|y
  ·exact⟨y.1,y.2.1,y.2.2.1,y.2.2.2.1⟩
  ·rw[hd]at y;exact y.1.elim
 have R:(C.L++[c]).length=C.j+1:=by simp[h.len]
 have S:nt J (J.bK (C.L++[c]))=0:=by
  rcases e9 (J:=J) (L:=C.L++[c])with⟨_,e⟩|⟨_,_,e⟩|⟨_,D,e⟩<;>rw[e]
  ·rfl
  ·rfl
  ·exact D
 have B:fB (J.bK (C.L++[c]))=0:=by
  rcases e9 (J:=J) (L:=C.L++[c])with⟨_,e⟩|⟨_,_,e⟩|⟨_,D,e⟩<;>rw[e]<;>rfl
 have U:¬qu (J.bK (C.L++[c]))/\¬xG (J.bK (C.L++[c])):=by
  rcases e9 (J:=J) (L:=C.L++[c])with⟨_,e⟩|⟨_,_,e⟩|⟨_,D,e⟩<;>rw[e]<;>exact⟨id,id⟩
 have Q:∀k,¬Gone (C.ks k):=fun k hk=>by
  have:=h.gone k hk;rw[hd]at this;exact absurd this (aep _)
 refine⟨⟨H,R,?_,fun k hk=>?_,fun k hk=>?_,?_,fun k hk=>?_,fun k γ md hk=>?_,fun k pc md hk=>?_,⟨nofun,nofun,nofun⟩,fun y=>?_,h.fold,?_,?_,fun k hk=>?_,?_,fun k p x md hk=>?_,fun k p md hk=>?_,fun k i n hk=>?_,fun v0 A=>?_⟩,?_⟩
 ·show(C.L++[c]).Nodup
  rw[List.nodup_append];exact⟨h.T6,by simp,fun a N b hb=>by
   simp at hb;subst hb;exact fun e=>O (e▸N)⟩
 ·have:k≠C.j:=by have:C.j+1<=k:=hk;omega
  show upd C.ks C.j _ k=_
  rw[un k this];exact h.no k (by have:C.j+1<=k:=hk;omega)
 ·show upd C.ks C.j _ k≠_
  by_cases e:k=C.j
  ·subst e;rw[us];exact nofun
  ·rw[un k e];exact h.yes k (by have:k<C.j+1:=hk;omega)
 ·show Lock.Inv (fun i=>iG (upd C.ks C.j (.at .recv .run) i)) J.n C.m C.c
  have:(fun i=>iG (upd C.ks C.j (cm.at Env.pX.recv Md.run:cm E) i))=fun i=>iG (C.ks i):=by
   funext i;by_cases e:i=C.j
   ·subst e;rw[us,h.no C.j (aei _)];rfl
   ·rw[un i e]
  rw[this];exact h.lock
 ·obtain⟨md,e⟩:=h.tK k hk;have:k≠C.j:=fun e'=>by rw[e',h.no C.j (aei _)]at e;cases e
  exact⟨md,by show upd C.ks C.j _ k=_;rw[un k this];exact e⟩
 ·change upd C.ks C.j _ k=_ at hk;by_cases e:k=C.j
  ·subst e;rw[us]at hk;cases hk
  ·rw[un k e]at hk;exact h.Du k γ md hk
 ·change upd C.ks C.j _ k=_ at hk;by_cases e:k=C.j
  ·subst e;rw[us]at hk;cases hk;exact⟨nofun,fun _=>rfl⟩
  ·rw[un k e]at hk;exact h.md k pc md hk
 ·have Y:=h.num y;rw[hd]at Y;have K:=pd (kX y) (.at .recv .run) h H rfl;show C.dn.count y+sumTo J.n (fun i=>kX y (upd C.ks C.j (.at .recv .run) i))=(J.ao.take (nt J (J.bK (C.L++[c])))).count y
  rw[S,K];exact Y
 ·have Y:=h.Fv;rw[hd]at Y;have K:=pd qs (.at .recv .run) h H rfl;show C.v+sumTo J.n (fun i=>qs (upd C.ks C.j (.at .recv .run) i))=C.j+1+fB (J.bK (C.L++[c]))
  rw[B,K];exact Y
 ·have K:=pd kh (.at .recv .run) h H rfl;have M:=pd kY (.at .recv .run) h H rfl;show yZ (J.bK (C.L++[c])) C.v C.wt C.ws (sumTo J.n fun i=>kh (upd C.ks C.j (.at .recv .run) i)) (sumTo J.n fun i=>kY (upd C.ks C.j (.at .recv .run) i))
  rw[K,M];exact .inl ⟨I.1,I.2.1,I.2.2.1,I.2.2.2,U.1,fun y=>absurd y U.2⟩
 ·change Gone (upd C.ks C.j _ k)at hk;by_cases e:k=C.j
  ·subst e;rw[us]at hk;exact hk.elim
  ·rw[un k e]at hk;exact absurd hk (Q k)
 ·show Xl J (C.L++[c]) (C.j+1) (J.bK (C.L++[c]))
  rcases e9 (J:=J) (L:=C.L++[c])with⟨Y,e⟩|⟨Y,K,e⟩|⟨Y,D,e⟩<;>rw[e]<;>rw[R]at Y
  ·exact⟨rfl,Y⟩
  ·exact⟨rfl,by omega,K⟩
  ·exact⟨rfl,by omega,T⟩
 ·change upd C.ks C.j _ k=_ at hk;by_cases e:k=C.j
  ·subst e;rw[us]at hk;cases hk
  ·rw[un k e]at hk;exact h.IQ k p x md hk
 ·change upd C.ks C.j _ k=_ at hk;by_cases e:k=C.j
  ·subst e;rw[us]at hk;cases hk
  ·rw[un k e]at hk;exact h.Dv k p md hk
 ·change upd C.ks C.j _ k=_ at hk;by_cases e:k=C.j
  ·subst e;rw[us]at hk;cases hk
  ·rw[un k e]at hk;exact h.cX k i n hk
 ·change J.bK (C.L++[c])=_ at A;rcases e9 (J:=J) (L:=C.L++[c])with⟨_,e⟩|⟨_,_,e⟩|⟨_,_,e⟩<;>rw[e]at A<;>cases A
 ·have K:=pd vZ (.at .recv .run) h H rfl;show fM J C.v (J.bK (C.L++[c]))+sumTo J.n (fun i=>vZ (upd C.ks C.j (.at .recv .run) i))<fM J C.v C.d+sumTo J.n (fun k=>vZ (C.ks k))
  rw[K,hd];have F:vZ (cm.at Env.pX.recv Md.run:cm E)=7:=rfl;have X:=h.len;rcases e9 (J:=J) (L:=C.L++[c])with⟨Y,e⟩|⟨Y,K,e⟩|⟨Y,D,e⟩<;>rw[e]<;>rw[R]at Y<;>simp only[fM,R,F]<;>omega
def jG(b:Bool):cm E->cm E
 |.at pc .blk=>.at pc .run
 |.at pc .dU=>if b then .at pc .ns else .at pc .dU
 |s=>s
def tL:Md->Md
 |.blk=>.run
 |x=>x
def fW.ob(J:fL)(C:fW E):={C with ks:=fun k=>jG (decide (k<aD J C.d)) (C.ks k),dm:=tL C.dm}
theorem iI{α:Type}(f:cm E->α)(Y:∀pc md mN,f (.at pc md)=f (.at pc mN))(b:Bool)(s:cm E):f (jG b s)=f s:=by
 cases s with
 |«at» pc md=>
  cases md with
  |run=>rfl
  |blk=>exact Y _ _ _
  |dU=>
   cases b
   ·rfl
   ·exact Y _ _ _
  |ns=>rfl
 |_=>rfl
theorem iJ{b:Bool}{s:cm E}{pc:E.pX}{md:Md}(h:jG b s=.at pc md):∃Y,s=.at pc Y/\(Y=md\/(Y=.blk/\md=.run)\/(Y=.dU/\md=.ns/\b=true))/\md≠.blk/\(md=.dU->b=false):=by
 cases s with
 |«at» K Y=>
  cases Y with
  |run=>cases h;simp_all
  |blk=>cases h;simp_all
  |dU=>
   cases b
   ·cases h;simp_all
   ·cases h;simp_all
  |ns=>cases h;simp_all
 |_=>cases h
theorem CI.ob(h:CI J bR C):CI J bR (C.ob J):=by
 have H:∀{α:Type} (f:cm E->α),(∀pc md U,f _=f _)->(fun k=>f ((C.ob J).ks k))=fun k=>f (C.ks k):=fun f A=>funext fun k=>iI f A _ _;refine⟨h.jn,h.len,h.T6,fun k hk=>?_,fun k hk e=>?_,?_,fun k hk=>?_,fun k γ md hk=>?_,fun k pc md hk=>?_,?_,fun y=>?_,h.fold,?_,?_,fun k hk=>?_,h.A0,fun k p x md hk=>?_,fun k p md hk=>?_,fun k i n hk=>?_,h.w2⟩
 ·show jG _ (C.ks k)=_
  rw[h.no k hk];rfl
 ·change jG _ (C.ks k)=_ at e;have:=h.yes k hk;cases Y:C.ks k with
  |«at» pc md=>
   rw[Y]at e;cases md with
   |dU=>revert e;simp only[jG];split<;>intro e<;>cases e
   |_=>cases e
  |no=>exact this Y
  |cX i n=>rw[Y]at e;cases e
  |qt q=>rw[Y]at e;cases e
 ·rw[H iG fun _ _ _=>rfl];exact h.lock
 ·obtain⟨md,e⟩:=h.tK k hk;show∃md,jG _ (C.ks k)=_
  rw[e];cases md with
  |run=>exact⟨_,rfl⟩
  |blk=>exact⟨_,rfl⟩
  |dU=>
   have:=(h.md k _ _ e).2 (.inl rfl);cases this
  |ns=>exact⟨_,rfl⟩
 ·obtain⟨K,e,_⟩:=iJ hk;exact h.Du k γ K e
 ·obtain⟨K,e,R,I,B⟩:=iJ hk;refine⟨fun y=>absurd y I,fun y=>?_⟩;rcases R with rfl|⟨_,rfl⟩|⟨rfl,rfl,_⟩
  ·exact(h.md k _ _ e).2 y
  ·simp_all
  ·exact(h.md k _ _ e).2 (.inl rfl)
 ·have hd:=h.Fu;show(tL C.dm=.blk->C.d=.w3)/\(tL C.dm=.dU->∃i,C.d=.send C.L i)/\tL C.dm≠.ns
  cases hm:C.dm with
  |run=>exact⟨nofun,nofun,nofun⟩
  |blk=>exact⟨nofun,nofun,nofun⟩
  |dU=>exact⟨nofun,fun _=>hd.2.1 hm,nofun⟩
  |ns=>exact absurd hm hd.2.2
 ·rw[H _ fun _ _ _=>rfl];exact h.num y
 ·rw[H qs fun _ _ _=>rfl];exact h.Fv
 ·rw[H kh fun _ _ _=>rfl,H kY fun _ _ _=>rfl];exact h.ph
 ·change Gone (jG _ (C.ks k))at hk;cases Y:C.ks k with
  |«at» pc md=>
   rw[Y]at hk;cases md with
   |dU=>
    by_cases D:k<aD J C.d
    ·exact D
    ·rw[decide_eq_false D]at hk;have e:=(h.md k _ _ Y).2 (.inl rfl);subst e;exact hk.elim
   |blk=>
    obtain⟨sv,x,e⟩:=(h.md k _ _ Y).1 rfl;subst e;exact hk.elim
   |run=>exact h.gone k (by rw[Y];exact hk)
   |ns=>exact h.gone k (by rw[Y];exact hk)
  |no=>rw[Y]at hk;exact hk.elim
  |cX i n=>exact h.gone k (by rw[Y];trivial)
  |qt q=>exact h.gone k (by rw[Y];trivial)
 ·obtain⟨K,e,_⟩:=iJ hk;exact h.IQ k p x K e
 ·obtain⟨K,e,_⟩:=iJ hk;exact h.Dv k p K e
 ·change jG _ _=_ at hk;cases Y:C.ks k with
  |«at» pc md=>
   rw[Y]at hk;cases md with
   |dU=>revert hk;simp only[jG];split<;>intro e<;>cases e
   |_=>cases hk
  |no=>rw[Y]at hk;cases hk
  |cX i' F=>rw[Y]at hk;cases hk;exact h.cX k _ _ Y
  |qt q=>rw[Y]at hk;cases hk
theorem FA:mu J (C.ob J)=mu J C:=by
 have Y:∀{α:Type} (f:cm E->α),(∀pc md H,f _=f _)->(fun k=>f ((C.ob J).ks k))=fun k=>f _:=fun f K=>funext fun k=>iI f K _ _;unfold mu r_ Dw qv;rw[Y vZ fun _ _ _=>rfl,Y (fun s=>bw (iG s)) fun _ _ _=>rfl,Y (fun s=>dw _ (iG s)) fun _ _ _=>rfl];rfl
theorem Hk(h:∀i,C.dm=.dU->C.d=.send C.L i->∀pc,C.ks (i%J.n)≠.at pc .dU):Calm J (C.ob J):=by
 refine⟨fun k pc hk=>?_,fun k pc hk D=>?_,fun hd=>?_,fun i hm hd pc hk=>?_⟩
 ·obtain⟨_,_,_,I,_⟩:=iJ hk;simp_all
 ·obtain⟨_,_,_,_,H⟩:=iJ hk;have:=H rfl;simp only[decide_eq_false_iff_not]at this;exact this D
 ·revert hd;show tL _=.blk->_
  cases C.dm<;>intro e<;>cases e
 ·have K:C.dm=.dU:=by
   revert hm;show tL _=.dU->_
   cases C.dm<;>intro e<;>first|rfl|cases e
  obtain⟨R,e,Y,_⟩:=iJ hk;rcases Y with rfl|⟨_,Y⟩|⟨_,Y,_⟩
  ·exact h i K hd pc e
  ·cases Y
  ·cases Y
end
theorem pe(f:Nat->PC)(k:Nat):Lock.put f k (f k)=f:=by
 funext i;unfold Lock.put;simp_all
theorem Rk{p p':PC}{m m':Word}{c c':Nat}(h:Mv p m c p' m' c')(Y:cB p=2):p'=.cr\/cB p'=2:=by
 cases h with
 |Xi=>exact .inl rfl
 |rd=>right;unfold Lock.hr;split<;>rfl
 |hw=>right;unfold Lock.hd;split<;>(try split)<;>rfl
 |Xj=>
  split
  ·simp
  ·exact .inr rfl
 |Xk=>right;unfold Lock.hr;split<;>rfl
 |a1=>exact .inl rfl
 |u0=>cases Y
 |T2=>cases Y
 |T3=>cases Y
 |ur=>cases Y
 |us=>cases Y
 |uh=>cases Y
 |_=>exact .inr rfl
theorem Nr{p p':PC}{m m':Word}{c c':Nat}(h:Mv p m c p' m' c')(Y:cB p=0/\p≠.out\/p=.cr):p'=.out\/(cB p'=0/\p'≠.out):=by
 have hd:∀m,Lock.dec m=.out\/(cB (Lock.dec m)=0/\Lock.dec m≠.out):=by
  intro m;unfold Lock.dec;split
  ·simp
  ·exact .inr ⟨rfl,nofun⟩
 cases h with
 |u0=>
  split
  ·exact .inr ⟨rfl,nofun⟩
  simp_all
 |T2=>exact .inr ⟨rfl,nofun⟩
 |T3=>exact .inr ⟨rfl,nofun⟩
 |ur=>exact hd _
 |us=>exact .inl rfl
 |uh=>exact .inl rfl
 |_=>rcases Y with⟨Y,_⟩|Y<;>cases Y
section
variable{E:Env}{J:fL}{bR:E.Γ}{C:fW E}
def fW.w1(C:fW E)(k:Nat)(s':cm E):=C.wk k s' C.d C.dm C.m C.c C.v C.wt C.ws C.γ C.dn C.tok
theorem CI.c1(h:CI J bR C):C.c<=1:=(n_ h.lock).1
theorem CI.Kb(h:CI J bR C){pc:E.pX}{md:Md}(e:C.ks k=.at pc md)(n1:∀γ,pc≠.ur γ)(Y:C.tok=some i):i≠k:=by
 rintro rfl;obtain⟨K,e'⟩:=h.tK i Y;rw[e]at e';simp_all
theorem CI.quiet{pc Y:E.pX}{md mN:Md}(h:CI J bR C)(hk:k<C.j)(e:C.ks k=.at pc md)(A:Dt Y=Dt pc)(I:∀y,kW y Y=kW y pc)(n1:∀γ,pc≠.ur γ)(n2:∀γ,Y≠.ur γ)
  (U:(mN=.blk->∃sv x,Y=.lk (.s1 sv) x)/\(mN=.dU\/mN=.ns->Y=.recv))(R:Gone (.at Y mN)->k<aD J C.d)(IQ:∀p x,Y=.lk p x->cB p=2)(Dv:∀p,Y=.un p->cB p=0/\p≠.out):CI J bR (C.w1 k (.at Y mN)):=by
 refine h.wk hk e nofun ?_ (fun i D=>.inr ⟨h.Kb e n1 D,D,rfl⟩) (fun γ md e'=>by simp_all) (fun i _ D=>D) (fun F H K=>by cases K;omega) h.Fu (fun y=>?_) h.fold rfl (fun L K B=>B) R (aei _) h.A0 (fun p x H K=>by simp_all) (fun p H K=>by simp_all) (fun i n K=>by cases K) h.w2
 ·have:iG (cm.at Y mN)=(fun i=>iG (C.ks i)) k:=by
   show Dt Y=iG (C.ks k)
   rw[e];exact A
  rw[this,pe];exact h.lock
 ·show C.dn.count y+kW y Y+_=C.dn.count y+kW y pc+_
  rw[I]
theorem FC{s s':cm E}(K:J.n<=8)(Y:C.c<=1)(hk:k<J.n)(e:C.ks k=s)(hr:vZ s'<vZ s):mu J (C.w1 k s')<mu J C:=by
 refine Dx K Y ?_;have:=oa (s':=s') (d':=C.d) (lM:=C.dm) (m':=C.m) (c':=C.c) (v':=C.v) (dq:=C.wt) (dk:=C.ws) (mG:=C.γ) (mM:=C.dn) (dC:=C.tok) hk e;change r_ J (C.w1 k s')+_+_=_ at this;omega
theorem FD{s s':cm E}(hk:k<J.n)(e:C.ks k=s)(hr:vZ s'=vZ s)(D:iG s'=iG s):mu J (C.w1 k s')=mu J C:=by
 have H:=oa (s':=s') (d':=C.d) (lM:=C.dm) (m':=C.m) (c':=C.c) (v':=C.v) (dq:=C.wt) (dk:=C.ws) (mG:=C.γ) (mM:=C.dn) (dC:=C.tok) hk e;have Y:=Ka (s':=s') (d':=C.d) (lM:=C.dm) (m':=C.m) (c':=C.c) (v':=C.v) (dq:=C.wt) (dk:=C.ws) (mG:=C.γ) (mM:=C.dn) (dC:=C.tok) hk e;have K:=Fy (s':=s') (d':=C.d) (lM:=C.dm) (c':=C.c) (v':=C.v) (dq:=C.wt) (dk:=C.ws) (mG:=C.γ) (mM:=C.dn) (dC:=C.tok) hk e;change r_ J (C.w1 k s')+_+_=_ at H;change Dw J (C.w1 k s')+_+_=_ at Y;change qv J (C.w1 k s')+_=_ at K;rw[D]at Y K;unfold mu;omega
def fW.mv(C:fW E)(k:Nat)(Y:E.pX)(m':Word)(c':Nat):=C.wk k (.at Y .run) C.d C.dm m' c' C.v C.wt C.ws C.γ C.dn C.tok
theorem CI.mv{pc Y:E.pX}{p p':PC}{m':Word}{c':Nat}(h:CI J bR C)(O:J.n<=8)(hk:k<C.j)(e:C.ks k=.at pc .run)(R:Dt pc=p)(H:Dt Y=p')(hm:Mv p C.m C.c p' m' c')(T:∀y,kW y Y=kW y pc)(n1:∀γ,pc≠.ur γ)(n2:∀γ,Y≠.ur γ)(n3:Y≠.wr)
  (hr:Hj Y<Hj pc\/(Hj Y=Hj pc/\cB p'=cB p))(IQ:∀p x,Y=.lk p x->cB p=2)(Dv:∀p,Y=.un p->cB p=0/\p≠.out):CI J bR (C.mv k Y m' c')/\mu J (C.mv k Y m' c')<mu J C:=by
 have K:k<J.n:=aeg hk h.jn;have P:=by
  show iG (C.ks k)=p
  rw[e];exact R
 have N:=by
  show Lock.Inv (Lock.put (fun i=>iG (C.ks i)) k (Dt Y)) J.n m' c'
  rw[H];exact h.lock.step K P hm
 refine⟨?_,?_⟩
 ·refine h.wk hk e nofun N (fun i A=>.inr ⟨h.Kb e n1 A,A,rfl⟩) (fun γ md e'=>by simp_all) (fun i _ A=>A) (fun V I D=>by cases D;simp_all) h.Fu (fun y=>?_) h.fold rfl (fun X D R=>R) (fun S=>?_) (aei _) h.A0 (fun p x I D=>by simp_all) (fun p I D=>by simp_all) (fun i n D=>by cases D) h.w2
  ·show C.dn.count y+kW y Y+_=C.dn.count y+kW y pc+_
   rw[T]
  ·cases Y with
   |wr=>exact absurd rfl n3
   |_=>exact S.elim
 ·have Q:=oa (C:=C) (J:=J) (s':=.at Y .run) (d':=C.d) (lM:=C.dm) (m':=m') (c':=c') (v':=C.v) (dq:=C.wt) (dk:=C.ws) (mG:=C.γ) (mM:=C.dn) (dC:=C.tok) K e;have F:=Ka (C:=C) (J:=J) (s':=.at Y .run) (d':=C.d) (lM:=C.dm) (m':=m') (c':=c') (v':=C.v) (dq:=C.wt) (dk:=C.ws) (mG:=C.γ) (mM:=C.dn) (dC:=C.tok) K e;change r_ J (C.mv k Y m' c')+fM J C.v C.d+Hj pc=r_ J C+fM J C.v C.d+Hj Y at Q;change Dw J (C.mv k Y m' c')+bw (Dt pc)+7 *C.c=Dw J C+bw (Dt Y)+7 *c' at F;rw[R,H]at F;have U:=(n_ N).1;have B:Lock.Ok C.m p:=by
   have:=h.lock.ok k K;simp_all
  rcases hr with hr|⟨hr,G⟩
  ·exact Dx O U (by omega)
  ·rcases hm.down B with L|⟨_,L⟩|⟨_,L,rfl,rfl,Z⟩
   ·omega
   ·exact YR O (by omega) (by omega)
   ·have M:=Fy (C:=C) (J:=J) (s':=.at Y .run) (d':=C.d) (lM:=C.dm) (c':=C.c) (v':=C.v) (dq:=C.wt) (dk:=C.ws) (mG:=C.γ) (mM:=C.dn) (dC:=C.tok) K e;change qv J (C.mv k Y C.m C.c)+dw C.m (Dt pc)=qv J C+dw C.m (Dt Y)at M;rw[R,H]at M;exact YS (by omega) (by omega) (by omega)
theorem CI.mvL{p p':PC}{m':Word}{c':Nat}(h:CI J bR C)(K:J.n<=8)(hk:k<C.j)(e:C.ks k=.at (.lk p x) .run)(hm:Mv p C.m C.c p' m' c'):CI J bR (C.mv k (Env.behind p' x) m' c')/\mu J (C.mv k (Env.behind p' x) m' c')<mu J C:=by
 have R:=h.IQ k p x _ e;rcases Rk hm R with rfl|Y
 ·exact h.mv K hk e rfl rfl hm (fun y=>rfl) nofun nofun nofun (.inl (by show 14<14+cB p;omega)) nofun nofun
 ·have D:Env.behind (E:=E) p' x=.lk p' x:=by
   cases p'<;>first|rfl|(cases Y;done)
  rw[D];exact h.mv K hk e rfl rfl hm (fun y=>rfl) nofun nofun nofun (.inr ⟨by show 14+cB p'=14+cB p;omega,by show cB p'=cB p;omega⟩) (fun I x0 H=>by cases H;exact Y) nofun
theorem CI.mvU{pc:E.pX}{p p':PC}{m':Word}{c':Nat}(h:CI J bR C)(A:J.n<=8)(hk:k<C.j)(e:C.ks k=.at pc .run)(Y:(pc=.u0/\p=.cr)\/pc=.un p)(hm:Mv p C.m C.c p' m' c'):CI J bR (C.mv k (Env.j_ p') m' c')/\mu J (C.mv k (Env.j_ p') m' c')<mu J C:=by
 have F:cB p=0/\p≠.out\/p=.cr:=by
  rcases Y with⟨rfl,rfl⟩|rfl
  ·exact .inr rfl
  ·exact .inl (h.Dv k p _ e)
 have I:Dt pc=p:=by rcases Y with⟨rfl,rfl⟩|rfl<;>rfl
 have R:∀y,kW y pc=0:=by rcases Y with⟨rfl,rfl⟩|rfl<;>exact fun y=>rfl
 have n1:∀γ,pc≠.ur γ:=by rcases Y with⟨rfl,rfl⟩|rfl<;>nofun
 have K:9<=Hj pc/\(pc=.un p->Hj pc=9)/\(pc=.u0->Hj pc=10):=by
  rcases Y with⟨rfl,rfl⟩|rfl
  ·exact⟨by show 9<=10;omega,nofun,fun _=>rfl⟩
  ·have:=h.Dv k p _ e;exact⟨by show 9<=9+cB p;omega,fun _=>by show 9+cB p=9;omega,nofun⟩
 rcases Nr hm F with rfl|⟨H,D⟩
 ·exact h.mv A hk e I rfl hm (fun y=>by rw[R];rfl) n1 nofun nofun (.inl (by have:=K.1;show 8<Hj pc;omega)) nofun nofun
 ·have B:Env.j_ (E:=E) p'=.un p':=by
   cases p'<;>first|rfl|exact absurd rfl D
  rw[B];refine h.mv A hk e I rfl hm (fun y=>by rw[R];rfl) n1 nofun nofun ?_ nofun (fun L U=>by cases U;exact⟨H,D⟩);rcases Y with⟨rfl,rfl⟩|rfl
  ·exact .inl (by show 9+cB p'<10;omega)
  ·exact .inr ⟨by rw[K.2.1 rfl];show 9+cB p'=9;omega,by show cB p'=cB p;rw[H];exact(h.Dv k p _ e).1.symm⟩
def fW.take(C:fW E)(k x:Nat):=C.wk k (.at (.ur (E.upd C.γ x)) .run) C.d C.dm C.m C.c C.v C.wt C.ws (E.upd C.γ x) (C.dn++[x]) (some k)
theorem CI.free{md:Md}(h:CI J bR C)(hk:k<C.j)(e:C.ks k=.at (.la x) md):C.tok=none:=by
 cases K:C.tok with
 |none=>rfl
 |some i=>
  obtain⟨H,e'⟩:=h.tK i K;have Y:=aeg (aeJ fun y=>by rw[h.no i y]at e';cases e') h.jn;have:=h.lock.one Y (aeg hk h.jn) (by rw[e'];rfl) (by rw[e];rfl);simp_all
theorem CI.take(h:CI J bR C)(I:J.n<=8)(hk:k<C.j)(e:C.ks k=.at (.la x) .run):CI J bR (C.take k x)/\mu J (C.take k x)<mu J C:=by
 have K:k<J.n:=aeg hk h.jn;have U:=h.free hk e;refine⟨h.wk hk e nofun ?_ (fun i Y=>.inl ⟨(Option.some.inj Y).symm,_,rfl⟩) (fun γ md e'=>rfl) (fun i _ Y=>by rw[U]at Y;cases Y) (fun F B H=>by cases H;exact⟨nofun,fun y=>by rcases y with y|y<;>cases y⟩) h.Fu (fun y=>?_) ?_ rfl (fun L H A=>A) (fun R=>R.elim) (aei _) h.A0 nofun nofun nofun h.w2,Dx I h.c1 ?_⟩
 ·have:iG (cm.at (.ur (E.upd C.γ x)) .run:cm E)=(fun i=>iG (C.ks i)) k:=by
   show PC.cr=iG (C.ks k)
   rw[e];rfl
  rw[this,pe];exact h.lock
 ·show(C.dn++[x]).count y+0+_=C.dn.count y+(if x=y then 1 else 0)+_
  rw[aeI,aeK,List.count_nil];simp only[beq_iff_eq];omega
 ·rw[List.foldl_append,<-h.fold];rfl
 ·have D:=oa (C:=C) (J:=J) (s':=.at (.ur (E.upd C.γ x)) .run) (d':=C.d) (lM:=C.dm) (m':=C.m) (c':=C.c) (v':=C.v) (dq:=C.wt) (dk:=C.ws) (mG:=E.upd C.γ x) (mM:=C.dn++[x]) (dC:=some k) K e;change r_ J (C.take k x)+fM J C.v C.d+13=r_ J C+fM J C.v C.d+12 at D;omega
def fW.give(C:fW E)(k:Nat):=C.wk k (.at .ud .run) C.d C.dm C.m C.c C.v C.wt C.ws C.γ C.dn none
theorem CI.give{γ:E.Γ}(h:CI J bR C)(U:J.n<=8)(hk:k<C.j)(e:C.ks k=.at (.ur γ) .run):CI J bR (C.give k)/\mu J (C.give k)<mu J C/\C.tok=some k/\C.γ=γ:=by
 have K:k<J.n:=aeg hk h.jn;have H:=h.Du k γ _ e;refine⟨h.wk hk e nofun ?_ nofun (fun γ md e'=>by cases e') (fun i A Y=>by rw[H]at Y;exact absurd (Option.some.inj Y).symm A) (fun L F D=>by cases D;exact⟨nofun,fun y=>by rcases y with y|y<;>cases y⟩) h.Fu (fun y=>rfl) h.fold rfl (fun M D B=>B) (fun I=>I.elim) (aei _) h.A0 nofun nofun nofun h.w2,Dx U h.c1 ?_,H,?_⟩
 ·have:iG (cm.at .ud .run:cm E)=(fun i=>iG (C.ks i)) k:=by
   show PC.cr=iG (C.ks k)
   rw[e];rfl
  rw[this,pe];exact h.lock
 ·have R:=oa (C:=C) (J:=J) (s':=.at .ud .run) (d':=C.d) (lM:=C.dm) (m':=C.m) (c':=C.c) (v':=C.v) (dq:=C.wt) (dk:=C.ws) (mG:=C.γ) (mM:=C.dn) (dC:=none) K e;change r_ J (C.give k)+fM J C.v C.d+12=r_ J C+fM J C.v C.d+11 at R;omega
 ·obtain⟨md,e'⟩:=h.tK k H;rw[e]at e';cases e';rfl
def fW.hand(J:fL)(C:fW E)(k x i:Nat):=C.wk k (.at (.ld x) .run) (J.sends C.L (i+1)) .run C.m C.c C.v C.wt C.ws C.γ C.dn C.tok
theorem gM:(i<J.ao.length/\J.sends L i=.send L i)\/(¬i<J.ao.length/\J.sends L i=.close L 0):=by
 unfold fL.sends;by_cases Y:i<J.ao.length
 ·simp_all
 ·simp_all
theorem yZ.early{d:lp}{v wt ws K Y:Nat}(h:yZ d v wt ws K Y)(hw:¬qu d):wt=0/\ws=0/\K=0/\Y=0:=by
 rcases h with y|y
 ·omega
 ·simp_all
theorem CI.hand{md:Md}(h:CI J bR C)(A:0<J.n)(N:J.n<=8)(hk:k<C.j)(e:C.ks k=.at .recv md)(hd:C.d=.send C.L i)(O:J.ao[i]?=some x):CI J bR (C.hand J k x i)/\mu J (C.hand J k x i)<mu J C:=by
 have R:k<J.n:=aeg hk h.jn;have H:=h.A0;rw[hd]at H;have F:Lock.Inv (Lock.put (fun i=>iG (C.ks i)) k (iG (cm.at (.ld x) .run:cm E))) J.n C.m C.c:=
  Lock.dB h.lock R (p:=.out) (by show iG (C.ks k)=.out;rw[e];rfl) trivial rfl rfl rfl rfl rfl rfl rfl rfl
 refine⟨h.wk hk e nofun F (fun i I=>.inr ⟨h.Kb e nofun I,I,rfl⟩) nofun (fun i _ I=>I) (fun Q P D=>by cases D;exact⟨nofun,fun y=>by rcases y with y|y<;>cases y⟩) ⟨nofun,nofun,nofun⟩ (fun y=>?_) h.fold ?_ (fun S D B=>?_) (fun M=>M.elim) ?_ ?_ nofun nofun nofun (fun v0 D=>by rcases gM (J:=J) (L:=C.L) (i:=i+1)with⟨_,Y⟩|⟨_,Y⟩<;>rw[Y]at D<;>cases D),Dx N h.c1 ?_⟩
 ·have s1:nt J (J.sends C.L (i+1))=i+1:=by
   rcases gM (J:=J) (L:=C.L) (i:=i+1)with⟨K,Y⟩|⟨K,Y⟩<;>rw[Y]
   ·rfl
   ·show J.ao.length=i+1
    have:=H.2.2;omega
  rw[s1,hd];show C.dn.count y+(if x=y then 1 else 0)+(J.ao.take i).count y=C.dn.count y+0+(J.ao.take (i+1)).count y
  rw[List.take_add_one,O,aeI];show _=_+(_+List.count y [x])
  rw[aeK,List.count_nil];simp only[beq_iff_eq];omega
 ·rw[hd];rcases gM (J:=J) (L:=C.L) (i:=i+1)with⟨K,Y⟩|⟨K,Y⟩<;>rw[Y]<;>rfl
 ·rw[hd]at B;obtain⟨a1,a2,a3,a4⟩:=B.early id;rcases gM (J:=J) (L:=C.L) (i:=i+1)with⟨K,Y⟩|⟨K,Y⟩<;>rw[Y]<;>exact .inl ⟨a1,a2,a3,a4,id,fun y=>y.elim⟩
 ·rw[hd];exact aeh _
 ·rcases gM (J:=J) (L:=C.L) (i:=i+1)with⟨K,Y⟩|⟨K,Y⟩<;>rw[Y]
  ·exact⟨rfl,H.2.1,K⟩
  ·exact⟨rfl,H.2.1,A⟩
 ·have K:=oa (C:=C) (J:=J) (s':=.at (.ld x) .run) (d':=J.sends C.L (i+1)) (lM:=.run) (m':=C.m) (c':=C.c) (v':=C.v) (dq:=C.wt) (dk:=C.ws) (mG:=C.γ) (mM:=C.dn) (dC:=C.tok) R e;change r_ J (C.hand J k x i)+fM J C.v C.d+7=r_ J C+fM J C.v (J.sends C.L (i+1))+17 at K;have:=H.2.2;rw[hd]at K;rcases gM (J:=J) (L:=C.L) (i:=i+1)with⟨Y,U⟩|⟨Y,U⟩<;>rw[U]at K<;>simp only[fM]at K<;>omega
theorem CI.shut{md:Md}(h:CI J bR C)(K:J.n<=8)(hk:k<C.j)(e:C.ks k=.at .recv md)(Y:k<aD J C.d):CI J bR (C.w1 k (.at .wr .run))/\mu J (C.w1 k (.at .wr .run))<mu J C:=
 ⟨h.quiet hk e rfl (fun y=>rfl) nofun nofun ⟨nofun,fun y=>by simp_all⟩ (fun _=>Y) nofun nofun,FC K h.c1 (aeg hk h.jn) e (by show 6<7;omega)⟩
theorem CI.slip{s s':cm E}{v' dq dk:Nat}(h:CI J bR C)(hk:k<C.j)(e:C.ks k=s)(N:iG s=.out)(R:iG s'=.out)(ne:s'≠.no)(K:∀pc md,s'≠.at pc md)(M:∀y,kX y s=0)(hu:∀γ md,s≠.at (.ur γ) md)
  (Fv:v'+qs s'=C.v+qs s)(ph:∀D Y,yZ C.d C.v C.wt C.ws (D+kh s) (Y+kY s)->yZ C.d v' dq dk (D+kh s') (Y+kY s'))(F:Gone s)(I:∀i n,s'=.cX i n->i<=4)(A:v'<=C.v):CI J bR (C.wk k s' C.d C.dm C.m C.c v' dq dk C.γ C.dn C.tok):=by
 refine h.wk hk e ne ?_ (fun i H=>.inr ⟨?_,H,rfl⟩) (fun γ md e'=>absurd e' (K _ _)) (fun i _ H=>H) (fun pc md e'=>absurd e' (K _ _)) h.Fu (fun y=>?_) h.fold (by omega) ph (fun _=>h.gone k (by simp_all)) (aei _) h.A0 (fun p x md e'=>absurd e' (K _ _)) (fun p md e'=>absurd e' (K _ _)) I (fun v0 Y=>⟨(h.w2 v0 Y).1,aex A (h.w2 v0 Y).2⟩)
 ·have:iG s'=(fun i=>iG (C.ks i)) k:=by simp_all
  rw[this,pe];exact h.lock
 ·rintro rfl;obtain⟨U,e'⟩:=h.tK i H;rw[e]at e';simp_all
 ·have:kX y s'=0:=by
   cases s' with
   |«at» pc md=>exact absurd rfl (K pc md)
   |_=>rfl
  simp_all
end
end Ph
namespace Ph
open Conc Ren
section
variable(E:Env)(RO:Nat->Prop)(b:Nat)
def Seen(B:Nat)(op:MemOp):=op.act.low B/\∀a,op.act≠.mark (.release a)
def gi(b:Nat)
 |0=>0
 |k+1=>b+k
open Classical in
def jH (XX:Nat->Nat->Prop) (a:Nat):M7:=if RO a then .ro else if a=E.Mp then .pr else if h:∃i,XX i a then .own (gi b (aeF h))else .no
open Classical in
def fC (XX:Nat->Nat->Prop):Loc->M7
 |.cell a=>if E.U a.block a.off then .at else jH E RO b XX a.block
 |.obj a=>jH E RO b XX a
 |_=>.no
end
section
variable{E:Env}{RO:Nat->Prop}{b:Nat}{XX PW:Nat->Nat->Prop}
theorem Ns(h:RO a):jH E RO b XX a=.ro:=by unfold jH;simp_all
theorem y0(h:¬RO E.Mp):jH E RO b XX E.Mp=.pr:=by unfold jH;simp_all
theorem A2(h:¬RO a)(hm:a≠E.Mp)(Y:XX i a)(hu:∀i',XX i' a->i'=i):jH E RO b XX a=.own (gi b i):=by
 unfold jH;rw[if_neg h,if_neg hm,dif_pos ⟨i,Y⟩,hu _ (Classical.choose_spec (⟨i,Y⟩:∃i,XX i a))]
theorem qw(h:∀i,PW i a↔XX i a):jH E RO b PW a=jH E RO b XX a:=by
 have:=funext fun i=>propext (h i);have key:∀p p':Nat->Prop,p'=p->(open Classical in(if RO a then M7.ro else if a=E.Mp then .pr else if h:∃i,p' i then .own (gi b (aeF h))else .no))=(open Classical in(if RO a then M7.ro else if a=E.Mp then .pr else if h:∃i,p i then .own (gi b (aeF h))else .no)):=by simp
 exact key _ _ this
theorem tM(h:∀i a,a<B->(PW i a↔XX i a))(Y:l.low B):fC E RO b PW l=fC E RO b XX l:=by
 cases l with
 |cell a=>simp[fC];rw[qw fun i=>h i _ Y]
 |obj a=>exact qw fun i=>h i _ Y
 |_=>rfl
theorem xI:∀l,l.isMemory=false->fC E RO b XX l=.no
 |.cell _,h=>by cases h
 |.obj _,h=>by cases h
 |.output,_=>rfl
 |.goroutines,_=>rfl
 |.mark _,_=>rfl
def tN(E:Env):Loc->Prop
 |.cell a=>E.U a.block a.off
 |_=>False
theorem FE(a:Nat):jH E RO b XX a≠.at:=by
 unfold jH;split
 ·nofun
 ·split
  ·nofun
  ·split<;>nofun
theorem A3(h:fC E RO b XX l=.at):tN E l:=by
 cases l with
 |cell a=>
  simp only[fC]at h;split at h
  ·assumption
  ·exact absurd h (FE _)
 |obj a=>exact absurd h (FE _)
 |_=>cases h
theorem y5{op:MemOp}{x:Touch}(h:op.act.low B)(Y:op.act.touch?=some x):x.loc.low B:=by
 obtain⟨g,fn,pos,act⟩:=op;cases act with
 |access e=>simp[aek,aem]at Y;subst Y;exact h
 |mark m=>
  cases m<;>simp[aek,aem]at Y<;>first|(subst Y;exact h)|cases Y
 |_=>simp[aek]at Y
variable{j:Nat}{cW:Loc->Prop}{t:Trace}{tok:Option Nat}{rel:Nat->Option Nat}{w w1:World}{S X S1 X1:Nat->Prop}{es:Array Event}{i:Nat}{fn:FuncId}{pos:String}
theorem di{g:Nat}{op:MemOp}(h:op∈aef g fn pos es):∃e∈es,op={g,fn,pos,act:=.ofEvent e}:=by
 rw[ofEvents_eq]at h;obtain⟨e,he,rfl⟩:=Array.mem_map.1 h;exact⟨e,he,rfl⟩
theorem Kc{mu:Addr}(hd:fj E.U S X w w1 es S1 X1)(g:Nat)(cls:Loc->M7)(A:∀a:Nat,S a->(cls (.obj a)=.ro/\¬X a)\/(cls (.obj a)=.pr/\tok=some g)\/cls (.obj a)=.own g)(F:∀a:Addr,¬E.U a.block a.off->cls (.cell a)=cls (.obj a.block))(M:∀a,w.heap.size<=a->a<w1.heap.size->cls (.obj a)=.own g):
  ∀op∈aef g fn pos es,OkOp mu wg cls tok g op:=by
 intro op aM;obtain⟨e,he,rfl⟩:=di aM;obtain⟨loc,wr,C⟩:=e;have fin:∀{a:Nat} {l:Loc},cls l=cls (.obj a)->((S a/\(wr=true->X a))\/(w.heap.size<=a/\a<w1.heap.size))->(cls l=.ro/\wr=false)\/(cls l=.pr/\tok=some g)\/cls l=.own g:=by
  intro a l B h;rw[B];rcases h with⟨D,I⟩|⟨D,I⟩
  ·rcases A a D with⟨y,z⟩|y|y
   ·simp_all
   ·exact .inr (.inl y)
   ·exact .inr (.inr y)
  ·exact .inr (.inr (M a D I))
 rcases hd.ev _ he with⟨a,Y,H,h⟩|⟨a,Y,H,h⟩|⟨m,Y,h⟩|Y
 ·simp only at Y H;subst Y H;refine⟨rfl,nofun,nofun,fun x K=>?_⟩;simp only[aej,aek,aem]at K;subst K;rcases fin (F a (hd.Yx _ he a rfl)) h with y|y|y
  ·simp_all
  ·exact .inr (.inr (.inr (.inr (.inl y))))
  ·simp_all
 ·simp only at Y H;subst Y H;have R:aej ⟨.obj a,wr,false⟩=.access ⟨.obj a,wr,false⟩:=by cases wr<;>rfl
  refine⟨rfl,by rw[R];nofun,by rw[R];nofun,fun x K=>?_⟩;simp only[R,aek,aem]at K;subst K;rcases fin rfl h with y|y|y
  ·exact .inr (.inr (.inr (.inl y)))
  ·exact .inr (.inr (.inr (.inr (.inl y))))
  ·simp_all
 ·simp only at Y;subst Y;refine⟨rfl,?_,?_,fun x K=>?_⟩
  ·rcases h with rfl|⟨f,rfl⟩<;>nofun
  ·rcases h with rfl|⟨f,rfl⟩<;>nofun
  ·rcases h with rfl|⟨f,rfl⟩<;>simp[aej,aek]at K
 ·simp only at Y;subst Y;refine⟨rfl,nofun,nofun,fun x K=>?_⟩;simp only[aej,aek,aem]at K;subst K;exact .inl rfl
theorem Kd(hd:fj E.U S X w w1 es S1 X1)(g:Nat):∀op∈aef g fn pos es,∀a,op.act≠.mark (.release a):=by
 intro op aM a0;obtain⟨e,he,rfl⟩:=di aM;obtain⟨loc,wr,D⟩:=e;rcases hd.ev _ he with⟨a,Y,K,h⟩|⟨a,Y,K,h⟩|⟨m,Y,h⟩|Y
 ·subst Y K;nofun
 ·subst Y K;have H:aej ⟨.obj a,wr,false⟩=.access ⟨.obj a,wr,false⟩:=by cases wr<;>rfl
  simp_all
 ·subst Y;rcases h with rfl|⟨f,rfl⟩<;>nofun
 ·subst Y;nofun
theorem Nt(hd:fj E.U S X w w1 es S1 X1)(H:∀a,S a->a<w.heap.size)(g:Nat):∀op∈aef g fn pos es,op.act.low w1.heap.size:=by
 intro op aM;obtain⟨e,he,rfl⟩:=di aM;obtain⟨loc,wr,I⟩:=e;have R:=hd.grow;rcases hd.ev _ he with⟨a,Y,K,h⟩|⟨a,Y,K,h⟩|⟨m,Y,h⟩|Y
 ·subst Y K;show a.block<_
  rcases h with⟨h,_⟩|h
  ·have:=H _ h;omega
  ·omega
 ·subst Y K;have D:aej ⟨.obj a,wr,false⟩=.access ⟨.obj a,wr,false⟩:=by cases wr<;>rfl
  rw[D];show a<_
  rcases h with⟨h,_⟩|h
  ·have:=H _ h;omega
  ·omega
 ·subst Y;rcases h with rfl|⟨f,rfl⟩<;>trivial
 ·subst Y;trivial
theorem A4(hd:fj E.U S X w w1 es S1 X1)(d:Nat):deafBehind d es=d:=by
 refine deafBehind_still (fun e he=>?_) d;obtain⟨loc,wr,H⟩:=e;rcases hd.ev _ he with⟨a,Y,K,h⟩|⟨a,Y,K,h⟩|⟨m,Y,h⟩|Y<;>simp only at Y<;>subst Y
 ·simp
 ·simp
 ·rcases h with rfl|⟨f,rfl⟩<;>exact⟨nofun,nofun⟩
 ·simp
theorem A5(hd:fj E.U S X w w1 es S1 X1)(Y:∀a,S a->a<w.heap.size)(g:Nat):∀op∈aef g fn pos es,Seen w1.heap.size op:=fun op aM=>⟨Nt hd Y g op aM,Kd hd g op aM⟩
theorem tO{mu:Addr}(h:Env.EvA bl es)(hb:bl=E.Fd\/bl=E.Wg)(g:Nat):∀op∈aef g fn pos es,OkOp mu wg (fC E RO b XX) tok g op:=by
 intro op aM;obtain⟨e,he,rfl⟩:=di aM;have cell:∀(a:Addr) (wr:Bool),a.block=bl->a.off<2->OkOp mu wg (fC E RO b XX) tok g {g,fn,pos,act:=.ofEvent ⟨.cell a,wr,true⟩}:=by
  intro a wr H K;refine⟨rfl,nofun,nofun,fun x Y=>?_⟩;simp[aej,aek,aem]at Y;subst Y;refine .inr (.inl ⟨?_,rfl⟩);have hu:E.U a.block _:=⟨by omega,K⟩;simp[fC];simp_all
 rcases h with h|⟨o,D,rfl⟩
 ·obtain⟨a,wr,rfl,H,K,_⟩:=h e he;exact cell a wr H K
 ·simp[semEvents,aer,aew,aes,or_false]at he;rcases he with rfl|rfl|rfl|rfl
  ·exact⟨rfl,nofun,nofun,fun x Y=>by simp[aej,aek]at Y⟩
  ·simp_all
  ·simp_all
  ·exact⟨rfl,nofun,nofun,fun x Y=>by simp[aej,aek]at Y⟩
theorem Nu(h:Env.EvA bl es)(hb:bl<B)(g:Nat):∀op∈aef g fn pos es,op.act.low B:=by
 intro op aM;obtain⟨e,he,rfl⟩:=di aM;rcases h with h|⟨o,H,rfl⟩
 ·obtain⟨a,wr,rfl,Y,K,_⟩:=h e he;show a.block<B
  omega
 ·simp[semEvents,aer,aew,aes,or_false]at he;rcases he with rfl|rfl|rfl|rfl
  ·trivial
  ·exact hb
  ·exact hb
  ·trivial
theorem tP(h:Env.EvA bl es)(hb:bl<B)(g:Nat):∀op∈aef g fn pos es,Seen B op:=by
 intro op aM;refine⟨Nu h hb g op aM,fun a0=>?_⟩;obtain⟨e,he,rfl⟩:=di aM;rcases h with h|⟨o,H,rfl⟩
 ·obtain⟨a,wr,rfl,Y,K,_⟩:=h e he;nofun
 ·simp[semEvents,aer,aew,aes,or_false]at he;rcases he with rfl|rfl|rfl|rfl<;>nofun
theorem pg(h:Env.EvA bl es)(d:Nat):deafBehind d es=d:=by
 rcases h with h|⟨o,Y,rfl⟩
 ·refine deafBehind_still (fun e he=>?_) d;obtain⟨a,wr,rfl,_⟩:=h e he;simp_all
 ·simp[semEvents,deafBehind]
theorem v_(h:Env.EvA bl es){g:Nat}(hd:0<Deaf t g):∀i x,t.size<=i->touchAt (t++aef g fn pos es) i=some x->x.loc.isMemory=true->x.kind=.atomic/\¬(t++aef g fn pos es).counts i/\∃a:Addr,x.loc=.cell a/\a.block=bl/\a.off<2:=by
 intro i x P N hm;obtain⟨op,D,K⟩:=touch_of N;have C:=by
  rw[Array.getElem?_append]at D;simpa[Nat.not_lt.2 P]using D
 have Q:=C;rw[ofEvents_eq,aeC]at C;obtain⟨e,he,rfl⟩:=aez.1 C;have H:i-t.size<=es.size:=by
  rcases Nat.lt_or_ge (i-t.size) es.size with h'|h'
  ·omega
  ·simp_all
 have U:∀n,n<=es.size->(∃e,es[n]?=some e/\∃a wr,e=⟨.cell a,wr,true⟩)->0<deafBehind (Deaf t g) (es.extract 0 n):=by
  intro n V Y;rcases h with h|⟨o,D,rfl⟩
  ·rw[deafBehind_still (fun e he=>?_)]
   ·exact hd
   ·obtain⟨a,wr,rfl,_⟩:=h e (by
     obtain⟨k,hk,rfl⟩:=Array.mem_iff_getElem.1 he;simp only[Array.getElem_extract];exact Array.getElem_mem _)
    exact⟨nofun,nofun⟩
  ·have X:(semEvents ⟨bl,o,none⟩).size=4:=rfl;obtain⟨e,he,a,wr,rfl⟩:=Y;have:n=0\/n=1\/n=2\/n=3\/n=4:=by omega
   rcases this with rfl|rfl|rfl|rfl|rfl
   ·simp[semEvents]at he
   ·simp[semEvents,deafBehind]
   ·simp[semEvents,deafBehind]
   ·simp[semEvents]at he
   ·simp[semEvents]at he
 have Y:∃a wr,e=⟨.cell a,wr,true⟩/\a.block=bl/\a.off<2:=by
  rcases h with h|⟨o,F,rfl⟩
  ·obtain⟨a,wr,rfl,R,I,_⟩:=h e (aeA he);exact⟨a,wr,rfl,R,I⟩
  ·have:=aeA he;simp only[semEvents,aer,aew,aes,or_false]at this;rcases this with rfl|rfl|rfl|rfl
   ·simp[aej,aek]at K
   ·exact⟨_,_,rfl,rfl,F⟩
   ·simp_all
   ·simp[aej,aek]at K
 obtain⟨a,wr,rfl,R,I⟩:=Y;have J:=by
  simp only[aej,aek,aem]at K;exact K.symm
 subst J;refine⟨rfl,?_,a,rfl,R,I⟩;rintro⟨y,S,_,hk⟩;have:=Option.some.inj (S.symm.trans N);subst this;rcases hk with hk|⟨L,M,A⟩
 ·exact hk rfl
 ·have B:L=g:=by simp[Trace.g?,D]at M;exact M.symm
  subst B;have O:=Go.Conc.deaf_inside t L fn pos es (i-t.size) H;rw[show t.size+(i-t.size)=i by omega,A]at O;have T:=U _ H ⟨_,he,a,wr,rfl⟩;omega
end
end Ph
namespace Ph
open Conc Ren
open Lock (Word PC Mv bn cB bw dw)
open ConcN (sumTo upd sumTo_upd upd_ne upd_same)
structure aU where
 P:Program
 E:Env
 J:fL
 b:Nat
 A:Nat->(Nat->Prop)->(Nat->Prop)->Goroutine->World->Prop
 o_:Nat->Goroutine->World->Prop
 Fin:(Nat->Prop)->(Nat->Prop)->Goroutine->World->Prop
 RO:Nat->Prop
 cW:Loc->Prop
 ok:Nat->Prop
 bR:E.Γ
 w0:World
structure aU.Laws(Q:aU):Prop where
 n0:0<Q.J.n
 n8:Q.J.n<=8
 b0:0<Q.b
 YT:∀x∈Q.J.ao,Q.ok x
 fw:Q.E.Fd≠Q.E.Wg
 mf:Q.E.Mp≠Q.E.Fd
 mw:Q.E.Mp≠Q.E.Wg
 rf:Q.RO Q.E.Fd
 rw:Q.RO Q.E.Wg
 rm:¬Q.RO Q.E.Mp
 YU:∀l,tN Q.E l->Q.cW l
 Kf:∀{c:Nat} {S X:Nat->Prop} {g:Goroutine} {w:World},Q.A c S X g w->g.status=.running/\g.offers=none
 Kg:∀{c:Nat} {S X:Nat->Prop} {g:Goroutine} {w:World},Q.A c S X g w->∀w2,stepG Q.P false g w2=.comm g #[rcase c Q.E.zc] true (.recv true) w2 #[]
 Rl:∀{c:Nat} {S X:Nat->Prop} {g:Goroutine} {w w2:World} {x:Nat},Q.A c S X g w->az Q.E.U S w w2->Q.ok x->∀k,Q.E.Tree Q.P false (Q.E.dp Q.P (Q.A c) k (.ld x)) S X (Go.Conc.served g (recvd true (.int .i64 (x:Int)) true)) w2
 PX:∀{c:Nat} {S X:Nat->Prop} {g:Goroutine} {w w2:World},Q.A c S X g w->az Q.E.U S w w2->∀k,Q.E.Tree Q.P false (Q.E.dp Q.P (Q.A c) k .wr) S X (Go.Conc.served g (recvd true Q.E.zc false)) w2
 Xh:∀{c:Nat} {g:Goroutine} {w:World},Q.o_ c g w->Q.E.Tree Q.P false (Q.A c) Q.RO (fun _=>False) g w
def Kh(c:Nat)(z:Value):Md->Goroutine->Goroutine
 |.run,g=>g
 |.blk,g=>{g with status:=.blocked}
 |.dU,g=>parked g #[rcase c z] (.recv true)
 |.ns,g=>{parked g #[rcase c z] (.recv true)with status:=.running}
namespace aU
variable(Q:aU)
def ch(C:fW Q.E)(k:Nat):=C.L.getD k 0
abbrev DS(fu:Nat)(d:lp):=Q.E.ia Q.P Q.J Q.o_ Q.Fin fu d
abbrev WS(c fu:Nat)(pc:Q.E.pX):=Q.E.dp Q.P (Q.A c) fu pc
def Nv(c:Nat)(gs:Array Goroutine)(t:Trace)(k:Nat)(nd:Nd)(fu:Nat):cm Q.E->Prop
 |.no=>False
 |.at pc md=>gs[Q.b+k]?=some (Kh c Q.E.zc md nd.g)/\Tz Q.P false Q.E.U (Q.WS c fu pc) nd.S nd.X nd.g nd.w/\(md≠.run->Q.WS c fu pc nd.S nd.X nd.g nd.w)
 |.cX i n=>∃g,gs[Q.b+k]?=some g/\Env.nb Q.P (Q.E.yQ Q.P i) n g
 |.qt q=>∃g,gs[Q.b+k]?=some g/\QuitsD Q.P q (Deaf t (Q.b+k)) g
def Dy(gs:Array Goroutine)(nd:Nd)(fu:Nat)(L:List Nat)(d:lp):Md->Prop
 |.run=>gs[0]?=some nd.g/\Tz Q.P true Q.E.U (Q.DS fu d) nd.S nd.X nd.g nd.w
 |.blk=>gs[0]?=some {nd.g with status:=.blocked}/\nd.g.offers=none/\nd.g.status=.running/\Q.DS fu d nd.S nd.X nd.g nd.w
 |.dU=>Q.DS fu d nd.S nd.X nd.g nd.w/\∃i c x z Y,d=.send L i/\fu=Y+1/\L[i%Q.J.n]?=some c/\Q.J.ao[i]?=some x/\gs[0]?=some (parked nd.g #[scase c (.int .i64 (x:Int)) z] .send)/\
   ∀w2,az Q.E.U nd.S nd.w w2->Q.E.Tree Q.P true (Q.DS Y (Q.J.sends L (i+1))) nd.S nd.X (Go.Conc.served nd.g undef) w2
 |.ns=>False
def nc(nd:Nat->Nd)(j:Nat)(L:List Nat)(i a:Nat):=(i<=j/\(nd i).X a)\/(i=0/\a∈L)
structure Sets(nd:Nat->Nd)(j:Nat)(L:List Nat)(tok:Option Nat)(B:Nat):Prop where
 Dz:∀i i',i<=j->i'<=j->i≠i'->∀a,(nd i).X a->¬(nd i').S a
 low:∀i,i<=j->∀a,(nd i).S a->a<B
 sub:∀i,i<=j->∀a,(nd i).S a->Q.RO a\/(nd i).X a
 xJ:∀i,i<=j->∀a,Q.RO a->¬(nd i).X a
 xs:∀i,i<=j->∀a,(nd i).X a->(nd i).S a
 mp:∀i,i<=j->(nd i).S Q.E.Mp->∃k,i=k+1/\tok=some k
 gN:∀a,Q.RO a->a<B
 Nw:Q.E.Mp<B
 A6:∀c∈L,c<B/\¬Q.RO c/\c≠Q.E.Mp/\∀i,i<=j->¬(nd i).S c
structure Wd(C:fW Q.E)(w:World):Prop where
 mu:Q.E.MuAt w C.m C.c
 wg:Q.E.WgAt w C.v C.wt C.ws
 map:C.tok=none->Q.E.eZ C.γ (w.heap[Q.E.Mp]?)
 shut:∀k,k<C.j->k<aD Q.J C.d->∃s,w.heap[Q.ch C k]?=some (.chan 0 #[] true s s false)
 opn:∀k,k<C.j->¬k<aD Q.J C.d->∃s,eH w (Q.ch C k) s
 tape:w.tape=Q.w0.tape
 out:w.output=Q.w0.output
def DC{E:Env}:cm E->Prop
 |.cX _ _=>True
 |.qt _=>True
 |_=>False
abbrev cls (nd:Nat->Nd) (j:Nat) (L:List Nat):=fC Q.E Q.RO Q.b (nc nd j L)
structure MI(C:fW Q.E)(nd:Nat->Nd)(fu:Nat->Nat)(gs:Array Goroutine)(w:World)(t:Trace)(q:Nat->Nat)(rel:Nat->Option Nat):Prop where
 size:gs.size=Q.b+C.j
 g0:Q.Dy gs (nd 0) (fu 0) C.L C.d C.dm
 wk:∀k,k<C.j->Q.Nv (Q.ch C k) gs t k (nd (k+1)) (fu (k+1)) (C.ks k)
 old:∀i g,0<i->i<Q.b->gs[i]?=some g->QuitsD Q.P (q i) (Deaf t i) g
 fuel:∀i,i<=C.j->mu Q.J C<=fu i
 A7:∀i,i<=C.j->az Q.E.U (nd i).S (nd i).w w
 sets:Q.Sets nd C.j C.L C.tok w.heap.size
 wd:Q.Wd C w
 tr:PT Q.b C.j Q.E.mu Q.E.st Q.cW (Q.cls nd C.j C.L) t (C.tok.map (Q.b+ ·)) rel
 deaf0:Deaf t 0=jc C.d
 fD:∀k,k<C.j->(∀q,C.ks k≠.qt q)->Deaf t (Q.b+k)=AZ (C.ks k)
 above:∀i,Q.b+C.j<=i->Deaf t i=0
 pj:∀k,k<C.j->((∃p,rel (Q.b+k)=some p)↔DC (C.ks k))
 A8:∀k,C.j<=k->rel (Q.b+k)=none
 seen:∀op∈t,Seen w.heap.size op
end aU
section
variable{Q:aU}{nd:Nat->Nd}{j:Nat}{L:List Nat}{tok:Option Nat}{B:Nat}{C:fW Q.E}{w w1:World}{gs nf:Array Goroutine}{t t':Trace}
theorem aU.Sets.uniq(h:Q.Sets nd j L tok B)(Y:aU.nc nd j L i a)(K:aU.nc nd j L i' a):i=i':=by
 rcases Y with⟨a1,a2⟩|⟨rfl,a2⟩<;>rcases K with⟨b1,b2⟩|⟨rfl,b2⟩
 ·by_cases e:i=i'
  ·exact e
  ·exact absurd (h.xs i' b1 a b2) (h.Dz i i' a1 b1 e a a2)
 ·exact absurd (h.xs i a1 a a2) ((h.A6 a b2).2.2.2 i a1)
 ·exact absurd (h.xs i' b1 a b2) ((h.A6 a a2).2.2.2 i' b1)
 ·rfl
theorem aU.Sets.own(h:Q.Sets nd j L tok B)(Y:i<=j)(K:(nd i).X a)(hm:a≠Q.E.Mp):jH Q.E Q.RO Q.b (aU.nc nd j L) a=.own (gi Q.b i):=
 A2 (fun y=>h.xJ i Y a y K) hm (.inl ⟨Y,K⟩) fun i' h'=>h.uniq h' (.inl ⟨Y,K⟩)
theorem aU.Sets.held(h:Q.Sets nd j L tok B)(K:¬Q.RO Q.E.Mp)(Y:i<=j)(H:(nd i).S a):(Q.cls nd j L (.obj a)=.ro/\¬(nd i).X a)\/(Q.cls nd j L (.obj a)=.pr/\tok.map (Q.b+ ·)=some (gi Q.b i))\/Q.cls nd j L (.obj a)=.own (gi Q.b i):=by
 rcases h.sub i Y a H with y|y
 ·exact .inl ⟨Ns y,h.xJ i Y a y⟩
 ·by_cases hm:a=Q.E.Mp
  ·subst hm;obtain⟨k,rfl,rfl⟩:=h.mp i Y H;exact .inr (.inl ⟨y0 K,rfl⟩)
  ·exact .inr (.inr (h.own Y y hm))
theorem Ki{a:Addr}(h:¬Q.E.U a.block a.off):Q.cls nd j L (.cell a)=Q.cls nd j L (.obj a.block):=by
 simp[fC];simp_all
theorem aU.Sets.did(h:Q.Sets nd j L tok w.heap.size)(M:i<=j){n':Nd}(hd:fj Q.E.U (nd i).S (nd i).X w w1 es n'.S n'.X):Q.Sets (upd nd i n') j L tok w1.heap.size:=by
 have us:upd nd i n' i=n':=upd_same _ _ _;have un:∀k,k≠i->upd nd i n' k=nd k:=fun k hk=>upd_ne _ _ hk;have D:=hd.grow;have S':∀k a,k<=j->(upd nd i n' k).S a->(nd k).S a\/(k=i/\w.heap.size<=a/\a<w1.heap.size):=by
  intro k a hk Y;by_cases e:k=i
  ·subst e;rw[us]at Y;exact((hd.held a).1 Y).imp id fun y=>⟨rfl,y⟩
  ·simp_all
 have X':∀k a,k<=j->(upd nd i n' k).X a->(nd k).X a\/(k=i/\w.heap.size<=a/\a<w1.heap.size):=by
  intro k a hk Y;by_cases e:k=i
  ·subst e;rw[us]at Y;exact((hd.may a).1 Y).imp id fun y=>⟨rfl,y⟩
  ·simp_all
 refine⟨fun k k' hk H R a K Y=>?_,fun k hk a Y=>?_,fun k hk a Y=>?_,fun k hk a hr K=>?_,fun k hk a K=>?_,fun k hk Y=>?_,fun a C=>aeg (h.gN a C) D,aeg h.Nw D,fun c F=>?_⟩
 ·rcases X' k a hk K with y|⟨rfl,y⟩<;>rcases S' k' a H Y with z|⟨rfl,z⟩
  ·exact h.Dz k k' hk H R a y z
  ·have:=h.low k hk a (h.xs k hk a y);omega
  ·have:=h.low k' H a z;omega
  ·omega
 ·rcases S' k a hk Y with y|⟨_,y⟩
  ·exact aeg (h.low k hk a y) D
  ·omega
 ·by_cases e:k=i
  ·subst e;rw[us]at Y⊢;rcases(hd.held a).1 Y with y|y
   ·exact(h.sub k hk a y).imp id fun z=>(hd.may a).2 (.inl z)
   ·exact .inr ((hd.may a).2 (.inr y))
  ·rw[un k e]at Y⊢;exact h.sub k hk a Y
 ·rcases X' k a hk K with y|⟨_,y⟩
  ·exact h.xJ k hk a hr y
  ·have:=h.gN a hr;omega
 ·by_cases e:k=i
  ·subst e;rw[us]at K⊢;exact(hd.held a).2 (((hd.may a).1 K).imp (h.xs k hk a) id)
  ·rw[un k e]at K⊢;exact h.xs k hk a K
 ·rcases S' k _ hk Y with y|⟨_,y⟩
  ·exact h.mp k hk y
  ·have:=h.Nw;omega
 ·obtain⟨I,A,B,J⟩:=h.A6 c F;refine⟨aeg I D,A,B,fun k hk Y=>?_⟩;rcases S' k c hk Y with y|⟨_,y⟩
  ·simp_all
  ·omega
theorem aU.Rm(h:Q.Sets nd j L tok w.heap.size)(K:i<=j){es:Array _}{n':Nd}(hd:fj Q.E.U (nd i).S (nd i).X w w1 es n'.S n'.X):∀k a,a<w.heap.size->(aU.nc (upd nd i n') j L k a↔aU.nc nd j L k a):=by
 intro k a Y;unfold aU.nc;by_cases e:k=i
 ·subst e;rw[upd_same];have:n'.X a↔(nd k).X a:=⟨fun y=>((hd.may a).1 y).resolve_right fun z=>by omega,fun y=>(hd.may a).2 (.inl y)⟩;rw[this]
 ·rw[upd_ne _ _ e]
theorem aU.Sets.same(h:Q.Sets nd j L tok B){n':Nd}(R:n'.S=(nd i).S)(hX:n'.X=(nd i).X):Q.Sets (upd nd i n') j L tok B:=by
 have Y:∀k,(upd nd i n' k).S=(nd k).S:=fun k=>by
  by_cases e:k=i
  ·subst e;rw[upd_same];exact R
  ·rw[upd_ne _ _ e]
 have K:∀k,(upd nd i n' k).X=(nd k).X:=fun k=>by
  by_cases e:k=i
  ·subst e;rw[upd_same];exact hX
  ·rw[upd_ne _ _ e]
 refine⟨fun k k' hk H D a=>?_,fun k hk a=>?_,fun k hk a=>?_,fun k hk a=>?_,fun k hk a=>?_,fun k hk=>?_,h.gN,h.Nw,fun c I=>?_⟩
 ·rw[K,Y];exact h.Dz k k' hk H D a
 ·rw[Y];exact h.low k hk a
 ·rw[K,Y];exact h.sub k hk a
 ·rw[K];exact h.xJ k hk a
 ·rw[K,Y];exact h.xs k hk a
 ·rw[Y];exact h.mp k hk
 ·obtain⟨A,U,C,F⟩:=h.A6 c I;simp_all
theorem aU.sC{n':Nd}(hX:n'.X=(nd i).X):aU.nc (upd nd i n') j L=aU.nc nd j L:=by
 funext k a;unfold aU.nc;by_cases e:k=i
 ·subst e;rw[upd_same,hX]
 ·rw[upd_ne _ _ e]
theorem A9(h:Q.Sets nd j L tok w.heap.size)(D:i<=j)(Y:i'<=j)(K:i≠i'){es:Array _}(hd:fj Q.E.U (nd i).S (nd i).X w w1 es S1 X1):az Q.E.U (nd i').S w w1:=
 ⟨fun a H=>.inl (hd.kept a (h.low i' Y a H) fun R=>h.Dz i i' D Y K a R H),hd.grow,hd.env⟩
theorem FF{E:Env}{w1:World}{m m':Word}{c c':Nat}(S:Nat->Prop)(h:E.MuAt w m c)(h':E.MuAt w1 m' c')(he:Env.Eff E.Fd w w1):az E.U S w w1:=by
 refine⟨fun a _=>?_,aeo he.size.symm,he.env⟩;by_cases e:a=E.Fd
 ·subst e;refine .inr ⟨_,_,_,_,⟨0,.inl rfl,by omega⟩,h,h',rfl,fun i Y=>?_,fun i x Y K=>?_⟩
  ·match i with
   |0=>exact absurd ⟨.inl rfl,by omega⟩ Y
   |1=>exact absurd ⟨.inl rfl,by omega⟩ Y
   |i+2=>simp
  ·match i with
   |0=>simp at K;subst K;rfl
   |1=>simp at K;subst K;rfl
   |i+2=>exact absurd Y.2 (by omega)
 ·exact .inl (he.heap a e)
theorem y7{E:Env}{w1:World}{v wt ws v' dq dk:Nat}(S:Nat->Prop)(h:E.WgAt w v wt ws)(h':E.WgAt w1 v' dq dk)(he:Env.Eff E.Wg w w1):az E.U S w w1:=by
 refine⟨fun a _=>?_,aeo he.size.symm,he.env⟩;by_cases e:a=E.Wg
 ·subst e;unfold Env.WgAt at h h';generalize((v *4294967296+wt))=z at h;refine .inr ⟨_,_,_,_,⟨0,.inr rfl,by omega⟩,h,h',rfl,fun i Y=>?_,fun i x Y K=>?_⟩
  ·match i with
   |0=>exact absurd ⟨.inr rfl,by omega⟩ Y
   |1=>exact absurd ⟨.inr rfl,by omega⟩ Y
   |i+2=>simp
  ·match i with
   |0=>simp at K;subst K;rfl
   |1=>simp at K;subst K;rfl
   |i+2=>exact absurd Y.2 (by omega)
 ·exact .inl (he.heap a e)
theorem fX{E:Env}{c:Nat}(Y:¬S c):az E.U S w (w.setChan c 0 #[] cl s s false):=by
 refine⟨fun a K=>.inl ?_,by simp[aeq],.refl _⟩;have:c≠a:=fun e=>Y (e▸K);simp[aeq];simp_all
theorem aU.Wd.keep(h:Q.Wd C w)(hF:w1.heap[Q.E.Fd]?=w.heap[Q.E.Fd]?)(hW:w1.heap[Q.E.Wg]?=w.heap[Q.E.Wg]?)(K:C.tok=none->w1.heap[Q.E.Mp]?=w.heap[Q.E.Mp]?)(H:∀k,k<C.j->w1.heap[Q.ch C k]?=w.heap[Q.ch C k]?)(I:w1.tape=w.tape)(D:w1.output=w.output):Q.Wd C w1:=by
 refine⟨?_,?_,fun e=>?_,fun k hk Y=>?_,fun k hk Y=>?_,I.trans h.tape,D.trans h.out⟩
 ·have:=h.mu;unfold Env.MuAt at this⊢;simp_all
 ·have:=h.wg;unfold Env.WgAt at this⊢;simp_all
 ·rw[K e];exact h.map e
 ·rw[H k hk];exact h.shut k hk Y
 ·obtain⟨s,R⟩:=h.opn k hk Y;exact⟨s,by unfold eH at R⊢;simp_all⟩
theorem gW(Y:C.L.length=C.j)(hk:k<C.j):Q.ch C k∈C.L:=by
 unfold aU.ch;simp_all
theorem aU.Wd.did(h:Q.Wd C w)(Y:Q.Sets nd C.j C.L C.tok w.heap.size)(H:Q.Laws)(A:C.L.length=C.j)(K:i<=C.j){es:Array _}(hd:fj Q.E.U (nd i).S (nd i).X w w1 es S1 X1):Q.Wd C w1:=by
 refine h.keep (hd.kept _ (Y.gN _ H.rf) (Y.xJ i K _ H.rf)) (hd.kept _ (Y.gN _ H.rw) (Y.xJ i K _ H.rw)) (fun e=>hd.kept _ Y.Nw fun D=>?_) (fun k hk=>?_) hd.tape hd.output
 ·obtain⟨k,_,B⟩:=Y.mp i K (Y.xs i K _ D);simp_all
 ·obtain⟨R,_,_,I⟩:=Y.A6 _ (gW A hk);exact hd.kept _ R fun D=>I i K (Y.xs i K _ D)
theorem aU.Wd.cfg{C':fW Q.E}(h:Q.Wd C w)(I:C'.m=C.m)(A:C'.c=C.c)(U:C'.v=C.v)(F:C'.wt=C.wt)(M:C'.ws=C.ws)(K:C'.tok=none->C.tok=none/\C'.γ=C.γ)(H:C'.L=C.L)(D:C'.j=C.j)(R:aD Q.J C'.d=aD Q.J C.d):Q.Wd C' w:=by
 refine⟨by rw[I,A];exact h.mu,by rw[U,F,M];exact h.wg,fun e=>by rw[(K e).2];exact h.map (K e).1,fun k hk Y=>?_,fun k hk Y=>?_,h.tape,h.out⟩
 ·unfold aU.ch;rw[H];exact h.shut k (D▸hk) (R▸Y)
 ·unfold aU.ch;rw[H];exact h.opn k (D▸hk) (R▸Y)
theorem aU.Wd.mv(h:Q.Wd C w)(K:Q.Laws)(H:Q.Sets nd C.j C.L C.tok w.heap.size)(R:C.L.length=C.j){m':Word}{c':Nat}(he:Env.Eff Q.E.Fd w w1)(hm:Q.E.MuAt w1 m' c'):Q.Wd {C with m:=m',c:=c'} w1:=by
 have D:∀k,k<C.j->w1.heap[Q.ch C k]?=w.heap[Q.ch C k]?:=fun k hk=>he.heap _ fun e=>(H.A6 _ (gW R hk)).2.1 (e▸K.rf);refine⟨hm,?_,fun e=>?_,fun k hk Y=>?_,fun k hk Y=>?_,he.tape.trans h.tape,he.output.trans h.out⟩
 ·have:=h.wg;unfold Env.WgAt at this⊢;rw[he.heap _ fun e=>K.fw e.symm];omega
 ·rw[he.heap _ K.mf];exact h.map e
 ·show∃s,w1.heap[Q.ch C k]?=_
  rw[D k hk];exact h.shut k hk Y
 ·obtain⟨s,H⟩:=h.opn k hk Y;exact⟨s,by show w1.heap[Q.ch C k]?=_;rw[D k hk];exact H⟩
theorem aU.Wd.gp(h:Q.Wd C w)(K:Q.Laws)(H:Q.Sets nd C.j C.L C.tok w.heap.size)(R:C.L.length=C.j){v' dq dk:Nat}(he:Env.Eff Q.E.Wg w w1)(hm:Q.E.WgAt w1 v' dq dk):Q.Wd {C with v:=v',wt:=dq,ws:=dk} w1:=by
 have D:∀k,k<C.j->w1.heap[Q.ch C k]?=w.heap[Q.ch C k]?:=fun k hk=>he.heap _ fun e=>(H.A6 _ (gW R hk)).2.1 (e▸K.rw);refine⟨?_,hm,fun e=>?_,fun k hk Y=>?_,fun k hk Y=>?_,he.tape.trans h.tape,he.output.trans h.out⟩
 ·have:=h.mu;unfold Env.MuAt at this⊢;rw[he.heap _ K.fw];omega
 ·rw[he.heap _ K.mw];exact h.map e
 ·show∃s,w1.heap[Q.ch C k]?=_
  rw[D k hk];exact h.shut k hk Y
 ·obtain⟨s,H⟩:=h.opn k hk Y;exact⟨s,by show w1.heap[Q.ch C k]?=_;rw[D k hk];exact H⟩
theorem aU.Wd.at(h:Q.Wd C w)(d:Nat):Q.Wd C (w.at d):=⟨h.mu,h.wg,h.map,h.shut,h.opn,h.tape,h.out⟩
theorem aU.Nv.keep{c:Nat}{n:Nd}{fu:Nat}{s:cm Q.E}(h:Q.Nv c gs t k n fu s)(K:nf[Q.b+k]?=gs[Q.b+k]?)(hd:Deaf t' (Q.b+k)=Deaf t (Q.b+k)):Q.Nv c nf t' k n fu s:=by
 cases s with
 |no=>exact h
 |«at» pc md=>exact⟨K.trans h.1,h.2⟩
 |cX i n=>obtain⟨g,Y,H⟩:=h;exact⟨g,K.trans Y,H⟩
 |qt q=>obtain⟨g,Y,H⟩:=h;exact⟨g,K.trans Y,by simp_all⟩
theorem aU.Dy.keep{n:Nd}{fu:Nat}{d:lp}{md:Md}(h:Q.Dy gs n fu L d md)(K:nf[0]?=gs[0]?):Q.Dy nf n fu L d md:=by
 cases md with
 |run=>exact⟨K.trans h.1,h.2⟩
 |blk=>exact⟨K.trans h.1,h.2⟩
 |dU=>
  obtain⟨H,i,c,x,z,Y,D,R,I,A,U,B⟩:=h;exact⟨H,i,c,x,z,Y,D,R,I,A,K.trans U,B⟩
 |ns=>exact h.elim
end
section
variable{Q:aU}{nd:Nat->Nd}{fu:Nat->Nat}{C C':fW Q.E}{w w':World}{gs nf:Array Goroutine}{t t':Trace}{q:Nat->Nat}{rel ew:Nat->Option Nat}
theorem bk{gs:Array _}{g:Goroutine}(h:i≠k):(gs.setIfInBounds i g)[k]?=gs[k]?:=aev h
theorem aU.MI.T9(M:Q.MI C nd fu gs w t q rel)(hb:0<Q.b)(hk:k<C.j)(H:C'.j=C.j)(A:C'.L=C.L)(hd:C'.d=C.d)(N:C'.dm=C.dm)(D:∀i,i≠k->C'.ks i=C.ks i){n':Nd}{f':Nat}{g1:Goroutine}(O:nf=gs.setIfInBounds (Q.b+k) g1)
  (Z:Q.Nv (Q.ch C k) nf t' k n' f' (C'.ks k))(G:∀i,i<=C.j->i≠k+1->az Q.E.U (nd i).S w w')(V:az Q.E.U n'.S n'.w w')(mf:mu Q.J C'<=f')(T:mu Q.J C'<=mu Q.J C)
  (sets:Q.Sets (upd nd (k+1) n') C.j C.L C'.tok w'.heap.size)(wd:Q.Wd C' w')(tr:PT Q.b C.j Q.E.mu Q.E.st Q.cW (Q.cls (upd nd (k+1) n') C.j C.L) t' (C'.tok.map (Q.b+ ·)) ew)
  (F:(∀q,C'.ks k≠.qt q)->Deaf t' (Q.b+k)=AZ (C'.ks k))(K:∀g,g≠Q.b+k->Deaf t' g=Deaf t g)(I:(∃p,ew (Q.b+k)=some p)↔aU.DC (C'.ks k))(R:∀i,i≠k->ew (Q.b+i)=rel (Q.b+i))(seen:∀op∈t',Seen w'.heap.size op):
  Q.MI C' (upd nd (k+1) n') (upd fu (k+1) f') nf w' t' q ew:=by
 subst O;have n0:upd nd (k+1) n' 0=nd 0:=upd_ne _ _ (by omega);have f0:upd fu (k+1) f' 0=fu 0:=upd_ne _ _ (by omega);refine⟨?_,?_,fun i Y=>?_,fun i g Y B X=>?_,fun i Y=>?_,fun i Y=>?_,?_,wd,?_,?_,fun i Y P=>?_,fun i Y=>?_,fun i Y=>?_,fun i Y=>by rw[H]at Y;rw[R i (by omega)];exact M.A8 i Y,seen⟩
 ·rw[H];simp[M.size]
 ·rw[n0,f0,A,hd,N];exact M.g0.keep (bk (by omega))
 ·rw[H]at Y;by_cases e:i=k
  ·subst e;rw[upd_same,upd_same];unfold aU.ch;rw[A];exact Z
  ·rw[upd_ne _ _ (by omega),upd_ne _ _ (by omega),D i e];unfold aU.ch;rw[A];exact(M.wk i Y).keep (bk (by omega)) (K _ (by omega))
 ·rw[bk (by omega)]at X;rw[K i (by omega)];exact M.old i g Y B X
 ·rw[H]at Y;by_cases e:i=k+1
  ·subst e;rw[upd_same];exact mf
  ·rw[upd_ne _ _ e];exact aex T (M.fuel i Y)
 ·rw[H]at Y;by_cases e:i=k+1
  ·subst e;rw[upd_same];exact V
  ·rw[upd_ne _ _ e];exact(M.A7 i Y).trans (G i Y e)
 ·simp_all
 ·rw[H,A];exact tr
 ·rw[K 0 (by omega),hd];exact M.deaf0
 ·rw[H]at Y;by_cases e:i=k
  ·subst e;exact F P
  ·rw[K _ (by omega),D i e];rw[D i e]at P;exact M.fD i Y P
 ·rw[H]at Y;rw[K i (by omega)];exact M.above i Y
 ·rw[H]at Y;by_cases e:i=k
  ·subst e;exact I
  ·rw[R i e,D i e];exact M.pj i Y
theorem aU.MI.m0(M:Q.MI C nd fu gs w t q rel)(hb:0<Q.b)(D:C'.j=C.j)(P:C'.L=C.L)(H:C'.ks=C.ks){n':Nd}{f':Nat}{g1:Goroutine}(I:nf=gs.setIfInBounds 0 g1)
  (O:Q.Dy nf n' f' C.L C'.d C'.dm)(V:∀i,i<=C.j->i≠0->az Q.E.U (nd i).S w w')(N:az Q.E.U n'.S n'.w w')(mf:mu Q.J C'<=f')(F:mu Q.J C'<=mu Q.J C)
  (sets:Q.Sets (upd nd 0 n') C.j C.L C'.tok w'.heap.size)(wd:Q.Wd C' w')(tr:PT Q.b C.j Q.E.mu Q.E.st Q.cW (Q.cls (upd nd 0 n') C.j C.L) t' (C'.tok.map (Q.b+ ·)) rel)
  (R:Deaf t' 0=jc C'.d)(K:∀g,g≠0->Deaf t' g=Deaf t g)(seen:∀op∈t',Seen w'.heap.size op):
  Q.MI C' (upd nd 0 n') (upd fu 0 f') nf w' t' q rel:=by
 subst I;refine⟨?_,?_,fun i Y=>?_,fun i g Y A B=>?_,fun i Y=>?_,fun i Y=>?_,?_,wd,?_,R,fun i Y T=>?_,fun i Y=>?_,fun i Y=>?_,fun i Y=>M.A8 i (D▸Y),seen⟩
 ·rw[D];simp[M.size]
 ·rw[upd_same,upd_same,P];exact O
 ·rw[D]at Y;rw[upd_ne _ _ (by omega),upd_ne _ _ (by omega),H];unfold aU.ch;rw[P];exact(M.wk i Y).keep (bk (by omega)) (K _ (by omega))
 ·rw[bk (by omega)]at B;rw[K i (by omega)];exact M.old i g Y A B
 ·rw[D]at Y;by_cases e:i=0
  ·subst e;exact mf
  ·rw[upd_ne _ _ e];exact aex F (M.fuel i Y)
 ·rw[D]at Y;by_cases e:i=0
  ·subst e;exact N
  ·rw[upd_ne _ _ e];exact(M.A7 i Y).trans (V i Y e)
 ·simp_all
 ·simp_all
 ·rw[D]at Y;rw[K _ (by omega),H];rw[H]at T;exact M.fD i Y T
 ·rw[D]at Y;rw[K i (by omega)];exact M.above i Y
 ·rw[D]at Y;rw[H];exact M.pj i Y
theorem ef(Y:Q.Laws){c fu:Nat}{pc:Q.E.pX}{g:Goroutine}(K:0<fu)(h:Q.WS c fu pc S X g w):g.status=.running/\g.offers=none:=by
 cases fu with
 |zero=>omega
 |succ f=>
  cases pc with
  |recv=>exact Y.Kf h
  |_=>exact⟨h.1,h.2.1⟩
theorem jd{fu:Nat}{d:lp}{g:Goroutine}(Y:0<fu)(h:Q.DS fu d S X g w):g.status=.running/\g.offers=none:=by
 cases fu with
 |zero=>omega
 |succ f=>exact⟨h.1,h.2.1⟩
theorem ey{P:Program}{U:Nat->Nat->Prop}{D:(Nat->Prop)->(Nat->Prop)->Goroutine->World->Prop}{g:Goroutine}(h:Tz P main U D S X g w)(Y:D S X g w->g.status=.running):g.status=.running:=by
 rcases h.look with h|⟨_,h,_⟩
 ·exact Y h
 omega
theorem je{P:Program}{E:Env}{g:Goroutine}(h:Env.nb P (E.yQ P i) n g):g.status=.running:=by
 cases n with
 |zero=>
  match i,h with
  |0,h=>exact h.1
  |1,h=>exact h.1
  |2,h=>exact h.1
  |3,h=>exact h.1
  |i+4,h=>exact h.1
 |succ n=>exact h.1
theorem Ny(J:fL)(v:Nat)(d:lp):0<fM J v d:=by cases d<;>simp[fM]<;>omega
theorem Kj{E:Env}(J:fL)(C:fW E):0<mu J C:=by
 have:=Ny J C.v C.d;unfold mu r_;omega
theorem aU.MI.wh(M:Q.MI C nd fu gs w t q rel)(Y:i<=C.j):0<fu i:=aeg (Kj Q.J C) (M.fuel i Y)
theorem again_blocked{g:Goroutine}(w:World)(Y:g.status=.running)(K:g.offers=none):({g with status:=.blocked}).again w=g:=by
 obtain⟨f,c,st,o⟩:=g;subst Y K;rfl
theorem aU.MI.ob(M:Q.MI C nd fu gs w t q rel)(T:Q.Laws)(h:CI Q.J Q.bR C):Q.MI (C.ob Q.J) nd fu (gs.map (·.again w)) w t q rel:=by
 have mp:∀i,(gs.map (·.again w))[i]?=(gs[i]?).map _:=fun i=>aeC;have fm:mu Q.J _=mu Q.J C:=FA;refine⟨by simp[M.size];rfl,?_,fun k hk=>?_,fun i g F N S=>?_,fun i F=>by rw[fm];exact M.fuel i F,M.A7,M.sets,?_,M.tr,M.deaf0,fun k hk f=>?_,M.above,fun k hk=>?_,M.A8,M.seen⟩
 ·have K:=M.g0;show Q.Dy _ _ _ C.L C.d (tL C.dm)
  have f0:=M.wh (aeh _);cases hm:C.dm with
  |run=>
   rw[hm]at K;refine⟨?_,K.2⟩;rw[mp,K.1];exact congrArg some (again_running _ (.inl (ey K.2 fun y=>(jd f0 y).1)))
  |blk=>
   rw[hm]at K;refine⟨?_,.stop K.2.2.2⟩;rw[mp,K.1];exact congrArg some (again_blocked w K.2.2.1 K.2.1)
  |dU=>
   rw[hm]at K;obtain⟨H,i,c,x,z,B,O,V,U,X,Z,G⟩:=K;refine⟨H,i,c,x,z,B,O,V,U,X,?_,G⟩;have I:∃k,k<C.j/\Q.ch C k=c:=by
    refine⟨i%Q.J.n,?_,?_⟩
    ·have:=(aeE.1 U).1;rw[h.len]at this;exact this
    ·unfold aU.ch;rw[ael,U];rfl
   obtain⟨k,hk,rfl⟩:=I;obtain⟨s,Y⟩:=M.wd.opn k hk (by rw[O];exact aep _);rw[mp,Z];exact congrArg some (again_send_open Y)
  |ns=>rw[hm]at K;exact K.elim
 ·have Y:=M.wk k hk;have fk:=M.wh hk;show Q.Nv _ _ t k _ _ (jG _ _)
  cases I:C.ks k with
  |no=>rw[I]at Y;exact Y.elim
  |«at» pc md=>
   rw[I]at Y;obtain⟨H,D,A⟩:=Y;cases md with
   |run=>
    refine⟨?_,D,A⟩;rw[mp,H];exact congrArg some (again_running _ (.inl (ey D fun y=>(ef T fk y).1)))
   |blk=>
    have P:=ef T fk (A nofun);refine⟨?_,D,fun y=>absurd rfl y⟩;rw[mp,H];exact congrArg some (again_blocked w P.1 P.2)
   |dU=>
    by_cases R:k<aD Q.J C.d
    ·rw[decide_eq_true R];obtain⟨s,Y⟩:=M.wd.shut k hk R;refine⟨?_,D,fun _=>A nofun⟩;rw[mp,H];exact congrArg some (again_recv_closed Y)
    ·rw[decide_eq_false R];obtain⟨s,Y⟩:=M.wd.opn k hk R;refine⟨?_,D,A⟩;rw[mp,H];exact congrArg some (again_recv_open Y)
   |ns=>
    refine⟨?_,D,A⟩;rw[mp,H];exact congrArg some (again_running _ (.inl rfl))
  |cX i n=>
   rw[I]at Y;obtain⟨g,H,D⟩:=Y;refine⟨g,?_,D⟩;rw[mp,H];exact congrArg some (again_running _ (.inl (je D)))
  |qt l=>
   rw[I]at Y;obtain⟨g,H,D⟩:=Y;refine⟨g,?_,D⟩;rw[mp,H];exact congrArg some (again_running _ D.status)
 ·rw[mp]at S;obtain⟨W,H,rfl⟩:=aez.1 S;have:=M.old i W F N H;rw[again_running _ this.status];exact this
 ·exact M.wd.cfg rfl rfl rfl rfl rfl (fun e=>⟨e,rfl⟩) rfl rfl rfl
 ·have e:∀s:cm Q.E,∀b,(∀q,jG b s≠.qt q)->∀q,s≠.qt q:=fun s b Y q e=>Y q (by rw[e];rfl);rw[M.fD k hk (e _ _ f)];exact(iI AZ (fun _ _ _=>rfl) _ _).symm
 ·rw[M.pj k hk];show aU.DC _↔aU.DC (jG _ _)
  rw[iI (fun s=>aU.DC s) fun _ _ _=>rfl]
theorem Hm{P:Program}{g g1:Goroutine}{w1:World}(gs:Array _)(i:Nat):
  (((gs.map (woken P g g1 w1)).setIfInBounds i g1=gs.setIfInBounds i g1)/\¬(mayWake P g=true/\(g1.status=.running\/g1.status=.finished)))\/(gs.map (woken P g g1 w1)).setIfInBounds i g1=(gs.setIfInBounds i g1).map (·.again w1):=by
 by_cases K:(mayWake P g&&g1.status != .blocked&&g1.status != .waiting)=true
 ·right;have H:woken P g g1 w1=(·.again w1):=by funext o;simp[woken,K]
  have R:g1.again w1=g1:=by
   unfold Goroutine.again;simp_all
  simp_all
 ·left;have H:woken P g g1 w1=id:=by funext o;simp[woken,K]
  refine⟨by simp_all,fun⟨D,Y⟩=>K ?_⟩;rcases Y with Y|Y<;>rw[D,Y]<;>rfl
theorem aU.MI.finish(D:Q.Laws){Y:fW Q.E}{g g1:Goroutine}{w1:World}{H:Nat->Nd}(h:CI Q.J Q.bR Y)(M:Q.MI Y H fu1 (gs.setIfInBounds i g1) w1 t q rel)(I:Calm Q.J Y\/(mayWake Q.P g=true/\(g1.status=.running\/g1.status=.finished)))(R:∀i,Y.dm=.dU->Y.d=.send Y.L i->∀pc,Y.ks (i%Q.J.n)≠.at pc .dU):
  ∃K,(K=Y\/K=Y.ob Q.J)/\CI Q.J Q.bR K/\Calm Q.J K/\Q.MI K H fu1 ((gs.map (woken Q.P g g1 w1)).setIfInBounds i g1) w1 t q rel:=by
 rcases Hm (P:=Q.P) (g:=g) (g1:=g1) (w1:=w1) gs i with⟨e,A⟩|e
 ·simp_all
 ·rw[e];exact⟨Y.ob Q.J,.inr rfl,h.ob,Hk R,M.ob D h⟩
end
def zP{E:Env}:cm E->Nat
 |.cX _ n=>n
 |.qt q=>q
 |_=>0
def FG:Md->Nat
 |.run=>1
 |.ns=>1
 |_=>0
def FH{E:Env}:cm E->Nat
 |.at _ md=>FG md
 |_=>0
namespace aU
variable(Q:aU)
def nu(C:fW Q.E)(q:Nat->Nat):=10 *(sumTo Q.b q+sumTo Q.J.n (fun k=>zP (C.ks k)))+(FG C.dm+sumTo Q.J.n (fun k=>FH (C.ks k)))
def Df(C:fW Q.E)(fu:Nat->Nat)
 |0=>Q.DS (fu 0) C.d
 |k+1=>match C.ks k with
  |.at pc _=>Q.WS (Q.ch C k) (fu (k+1)) pc
  |_=>fun _ _ _ _=>True
def lu(C:fW Q.E)(nd:Nat->Nd)(fu:Nat->Nat)(q:Nat->Nat)(m:Machine)(t:Trace):=∃C' Y K nf w' H D ew,m=crowd nf w' H/\CI Q.J Q.bR C'/\Calm Q.J C'/\Q.MI C' Y K nf w' t D ew/\
 (mu Q.J C'<mu Q.J C\/(mu Q.J C'=mu Q.J C/\Q.Df C' K=Q.Df C fu/\(Down (fun i=>Nx Q.P (i==0) Q.E.U (Q.Df C fu i)) (Q.J.n+1) Y nd\/(Y=nd/\Q.nu C' D<Q.nu C q))))
end aU
section
variable{Q:aU}{nd:Nat->Nd}{fu:Nat->Nat}{C C':fW Q.E}{w w':World}{gs nf:Array Goroutine}{t t':Trace}{q:Nat->Nat}{rel ew:Nat->Option Nat}{sl:Option (Nat×Nat)}
theorem fE{α:Type}(f:Nat->α)(i:Nat):upd f i (f i)=f:=by
 funext k;unfold upd;simp_all
theorem Nz:Q.Df (C.ob Q.J) fu=Q.Df C fu:=by
 funext i;cases i with
 |zero=>rfl
 |succ k=>
  exact iI (fun s=>match s with|.at pc _=>Q.WS (Q.ch C k) (fu (k+1)) pc|_=>fun _ _ _ _=>True) (fun _ _ _=>rfl) _ _
theorem cj{Y K:fW Q.E}(h:K=Y\/K=Y.ob Q.J):mu Q.J K=mu Q.J Y/\Q.Df K fu=Q.Df Y fu:=by
 rcases h with rfl|rfl
 ·simp
 ·exact⟨FA,Nz⟩
theorem cz{w1:World}{ops:Array _}(h:∀op∈t,Seen w.heap.size op)(Y:w.heap.size<=w1.heap.size)(K:∀op∈ops,Seen w1.heap.size op):∀op∈t++ops,Seen w1.heap.size op:=by
 intro op aM;rcases Array.mem_append.1 aM with y|y
 ·exact⟨MemAct.low_mono Y (h op y).1,(h op y).2⟩
 ·simp_all
theorem Kk(Y:Q.Laws)(nd:Nat->Nd)(j:Nat)(L:List Nat):∀l,Q.cls nd j L l=.at->Q.cW l:=fun l h=>Y.YU l (A3 h)
theorem aU.MI.PY(M:Q.MI C nd fu gs w t q rel)(F:Q.Laws)(K:i<=C.j){es:Array _}{n':Nd}{w1:World}(hd:fj Q.E.U (nd i).S (nd i).X w w1 es n'.S n'.X)(fn:FuncId)(pos:String)(hr:gi Q.b i≠0->rel (gi Q.b i)=none):
  PT Q.b C.j Q.E.mu Q.E.st Q.cW (Q.cls (upd nd i n') C.j C.L) (t++aef (gi Q.b i) fn pos es) (C.tok.map (Q.b+ ·)) rel:=by
 have Y:=M.sets;have R:=Y.did K hd;have J:=aU.Rm Y K hd;have low:∀k x,touchAt t k=some x->x.loc.low w.heap.size:=by
  intro k x A;obtain⟨op,O,B⟩:=touch_of A;exact y5 (M.seen op (aeA O)).1 B
 have D:=M.tr.fresh (fun k x A=>tM J (low k x A)) xI (Kk F _ _ _);refine D.app (g:=gi Q.b i) ?_ ?_ ?_
 ·cases i with
  |zero=>exact .inl rfl
  |succ k=>exact .inr ⟨aeu _ _,by show Q.b+k<Q.b+C.j;omega⟩
 ·refine Kc hd _ _ (fun a H=>?_) (fun a H=>Ki H) (fun a D N=>?_)
  ·have I:=Y.low i K a H;have e:Q.cls _ C.j C.L _=Q.cls nd C.j C.L (.obj a):=tM J I;rw[e];exact Y.held F.rm K H
  ·have:=R.own K (by rw[upd_same];exact(hd.may a).2 (.inr ⟨D,N⟩)) (fun e=>by have:=Y.Nw;omega);exact this
 ·simp_all
theorem aU.MI.DG(M:Q.MI C nd fu gs w t q rel)(hk:k<C.j){pc:Q.E.pX}{md:Md}(e:C.ks k=.at pc md):rel (Q.b+k)=none:=by
 cases hr:rel _ with
 |none=>rfl
 |some p=>
  have:=(M.pj k hk).1 ⟨p,hr⟩;rw[e]at this;exact this.elim
theorem fY{g:Nat}{es:Array _}:∀op∈aef g fn pos es,op.g=g:=fun op aM=>by
 obtain⟨e,_,rfl⟩:=di aM;rfl
theorem aU.MI.T_(M:Q.MI C nd fu gs w t q rel)(D:Q.Laws)(h:CI Q.J Q.bR C)(K:Calm Q.J C)(hk:k<C.j){pc:Q.E.pX}(e:C.ks k=.at pc .run){g1:Goroutine}{w1:World}{es:Array _}(W:¬Q.WS (Q.ch C k) (fu (k+1)) pc (nd (k+1)).S (nd (k+1)).X (nd (k+1)).g (nd (k+1)).w)
  (au:stepG Q.P false (nd (k+1)).g w=.go g1 w1 es)(hd:fj Q.E.U (nd (k+1)).S (nd (k+1)).X w w1 es S1 X1)(G:Tz Q.P false Q.E.U (Q.WS (Q.ch C k) (fu (k+1)) pc) S1 X1 g1 w1)(fn:FuncId)(pos:String):
  Q.lu C nd fu q (crowd ((gs.map (woken Q.P (nd (k+1)).g g1 w1)).setIfInBounds (Q.b+k) g1) w1 sl) (t++aef (Q.b+k) fn pos es):=by
 have hb:=D.b0;have A:Q.b+k<gs.size:=by rw[M.size];omega
 have Y:=hk;have F:Q.MI C (upd nd (k+1) ⟨S1,X1,g1,w1⟩) (upd fu (k+1) (fu (k+1))) (gs.setIfInBounds (Q.b+k) g1) w1 (t++aef (Q.b+k) fn pos es) q rel:=by
  refine M.T9 hb hk rfl rfl rfl rfl (fun _ _=>rfl) rfl ?_ (fun i I B=>A9 M.sets Y I (fun y=>B y.symm) hd) (.refl _ _ _) (M.fuel _ Y) (aei _) (M.sets.did Y hd) (M.wd.did M.sets D h.len Y hd) ?_ (fun Z=>?_) (fun g V=>Deaf_other t (fun y=>V y.symm) _ fY) (M.pj k hk) (fun _ _=>rfl) (cz M.seen hd.grow (A5 hd (M.sets.low _ Y) _))
  ·rw[e];exact⟨aee A,G,fun y=>absurd rfl y⟩
  ·exact M.PY D Y hd fn pos (fun _=>M.DG hk e)
  ·rw[Deaf_own,A4 hd];exact M.fD k hk Z
 rw[fE]at F;obtain⟨L,T,R,H,M2⟩:=aU.MI.finish D h F (.inl K) K.pa;obtain⟨N,O⟩:=cj T;refine⟨L,_,_,_,_,sl,_,_,rfl,R,H,M2,.inr ⟨N,O,.inl ⟨k+1,by have:=h.jn;omega,?_,fun i _ I=>upd_ne _ _ I⟩⟩⟩;rw[upd_same];refine⟨?_,w,es,M.A7 _ Y,au,hd⟩;unfold aU.Df;simp_all
theorem aU.MI.aK(M:Q.MI C nd fu gs w t q rel)(O:Q.Laws)(hk:k<C.j)(P:C'.j=C.j)(N:C'.L=C.L)(hd:C'.d=C.d)(D:C'.dm=C.dm)(R:∀i,i≠k->C'.ks i=C.ks i){f':Nat}{g1:Goroutine}{w1:World}{ops:Array _}
  (A:Q.Nv (Q.ch C k) (gs.setIfInBounds (Q.b+k) g1) (t++ops) k ⟨(nd (k+1)).S,(nd (k+1)).X,g1,w1⟩ f' (C'.ks k))(T:∀S,az Q.E.U S w w1)(F:w1.heap.size=w.heap.size)(mf:mu Q.J C'<=f')(I:mu Q.J C'<=mu Q.J C)(tok:C'.tok=C.tok)(wd:Q.Wd C' w1)
  (tr:PT Q.b C.j Q.E.mu Q.E.st Q.cW (Q.cls nd C.j C.L) (t++ops) (C.tok.map (Q.b+ ·)) ew)(own:∀op∈ops,op.g=Q.b+k)(H:(∀q,C'.ks k≠.qt q)->Deaf (t++ops) (Q.b+k)=AZ (C'.ks k))(Y:(∃p,ew (Q.b+k)=some p)↔aU.DC (C'.ks k))(K:∀i,i≠k->ew (Q.b+i)=rel (Q.b+i))(low:∀op∈ops,Seen w.heap.size op):
  Q.MI C' (upd nd (k+1) ⟨(nd (k+1)).S,(nd (k+1)).X,g1,w1⟩) (upd fu (k+1) f') (gs.setIfInBounds (Q.b+k) g1) w1 (t++ops) q ew:=by
 refine M.T9 O.b0 hk P N hd D R rfl A (fun i V _=>T _) (.refl _ _ _) mf I ?_ wd ?_ H (fun g B=>Deaf_other t (fun y=>B y.symm) _ own) Y K (cz M.seen (aeo F.symm) (by simp_all))
 ·rw[F,tok];exact M.sets.same rfl rfl
 ·unfold aU.cls;rw[aU.sC (n':=⟨(nd _).S,(nd _).X,g1,w1⟩) rfl,tok];exact tr
theorem cw(g:Nat)(fn:FuncId)(pos:String)(m:Mark):aef g fn pos #[⟨.mark m,false,true⟩]=#[{g,fn,pos,act:=.mark m}]:=by simp[aef,aej]
theorem aU.MI.DI(M:Q.MI C nd fu gs w t q rel){g:Nat}(Y:g<Q.b+C.j)(fn:FuncId)(pos:String){m:Mark}(hm:m=.disable\/m=.enable):PT Q.b C.j Q.E.mu Q.E.st Q.cW (Q.cls nd C.j C.L) (t++aef g fn pos #[⟨.mark m,false,true⟩]) (C.tok.map (Q.b+ ·)) rel:=by
 rw[cw];refine M.tr.still (bc ?_);rcases hm with rfl|rfl<;>exact⟨rfl,nofun,nofun,Y⟩
theorem fF{g:Nat}{m:Mark}(hm:(MemAct.mark m).low B/\∀a,m≠.release a):∀op∈aef g fn pos #[⟨.mark m,false,true⟩],Seen B op:=by
 rw[cw];exact bc ⟨hm.1,fun a e=>hm.2 a (MemAct.mark.inj e)⟩
theorem tQ(h:e.mute=true)(a:Addr):aej e≠.mark (.release a):=by
 intro y;obtain⟨loc,wr,Y⟩:=e;cases loc<;>simp_all[Event.mute,aej]
theorem ib(K:Calm Q.J C){s':cm Q.E}(R:∀pc,s'≠.at pc .blk)(I:∀pc,s'≠.at pc .dU){m':Word}{c' v' dq dk:Nat}{mG:Q.E.Γ}{mM:List Nat}{dC:Option Nat}(D:C.c=0->c'=0)(hw:C.dm=.blk->C.ws=0->dk=0):Calm Q.J (C.wk k s' C.d C.dm m' c' v' dq dk mG mM dC):=by
 refine⟨fun i pc Y=>?_,fun i pc Y=>?_,fun hd=>hw hd (K.Ri hd),fun i hd H pc Y=>?_⟩
 ·change upd _ k s' i=_ at Y;by_cases e:i=k
  ·subst e;rw[upd_same]at Y;simp_all
  ·rw[upd_ne _ _ e]at Y;exact D (K.blk i pc Y)
 ·change upd _ k s' i=_ at Y;by_cases e:i=k
  ·subst e;rw[upd_same]at Y;simp_all
  ·rw[upd_ne _ _ e]at Y;exact K.dU i pc Y
 ·change upd _ k s' _=_ at Y;by_cases e:i%Q.J.n=k
  ·rw[e,upd_same]at Y;simp_all
  ·rw[upd_ne _ _ e]at Y;exact K.pa i hd H pc Y
theorem aU.MI.FI(M:Q.MI C nd fu gs w t q rel)(I:Q.Laws)(h:CI Q.J Q.bR C)(A:Calm Q.J C){f:Nat}(hk:k<C.j){pc Y:Q.E.pX}(e:C.ks k=.at pc .run)(l:fu (k+1)=f+1){g1:Goroutine}{m:Mark}(hm:m=.disable\/m=.enable)(d:Q.E.Tree Q.P false (Q.WS (Q.ch C k) f Y) (nd (k+1)).S (nd (k+1)).X g1 w)(fn:FuncId)(pos:String)
  (W:Dt Y=Dt pc)(Z:∀y,kW y Y=kW y pc)(n1:∀γ,pc≠.ur γ)(n2:∀γ,Y≠.ur γ)(n3:Y≠.wr)(IQ:∀p x,Y=.lk p x->cB p=2)(Dv:∀p,Y=.un p->cB p=0/\p≠.out)(hr:Hj Y<Hj pc)(U:ry Y=deafBehind (ry pc) #[⟨.mark m,false,true⟩]):
  Q.lu C nd fu q (crowd ((gs.map (woken Q.P (nd (k+1)).g g1 w)).setIfInBounds (Q.b+k) g1) w sl) (t++aef (Q.b+k) fn pos #[⟨.mark m,false,true⟩]):=by
 have F:Q.b+k<gs.size:=by rw[M.size];omega
 have B:k<Q.J.n:=aeg hk h.jn;have L:¬Gone (.at Y .run:cm Q.E):=fun y=>by
  cases Y with
  |wr=>exact n3 rfl
  |_=>exact y.elim
 have T:CI Q.J Q.bR (C.w1 k (.at Y .run)):=h.quiet hk e W Z n1 n2 ⟨nofun,fun y=>by rcases y with y|y<;>cases y⟩ (fun y=>absurd y L) IQ Dv;have D:mu Q.J (C.w1 k (.at Y .run))<mu Q.J C:=FC I.n8 h.c1 B e hr;have us:(C.w1 k (.at Y .run)).ks k=.at Y .run:=upd_same _ _ _;have O:=M.aK (C':=C.w1 k (.at Y .run)) (f':=f) (g1:=g1) (w1:=w) (ew:=rel) I hk rfl rfl rfl rfl (fun i G=>upd_ne _ _ G) (by
   rw[us];exact⟨aee F,d,fun y=>absurd rfl y⟩) (fun S=>.refl _ _ _) rfl (by have:=M.fuel (k+1) hk;omega) (aen D) rfl (M.wd.cfg rfl rfl rfl rfl rfl (fun e=>⟨e,rfl⟩) rfl rfl rfl)
   (M.DI (by omega) fn pos hm) fY (fun _=>by
   rw[us,Deaf_own,M.fD k hk (fun q y=>by rw[e]at y;cases y),e];exact U.symm) (by
   rw[us,M.DG hk e];exact⟨(fun⟨p,z⟩=>by cases z),fun y=>y.elim⟩) (fun _ _=>rfl) (fF (by rcases hm with rfl|rfl<;>exact⟨trivial,nofun⟩))
 have K:Calm Q.J (C.w1 k (.at Y .run)):=ib (s':=.at Y .run) (k:=k) (m':=C.m) (c':=C.c) (v':=C.v) (dq:=C.wt) (dk:=C.ws) (mG:=C.γ) (mM:=C.dn) (dC:=C.tok) A nofun nofun id fun _ y=>y;obtain⟨N,V,R,H,M2⟩:=aU.MI.finish (g:=(nd (k+1)).g) I T O (.inl K) K.pa;exact⟨N,_,_,_,_,sl,_,_,rfl,R,H,M2,.inl (by rw[(cj (fu:=fu) V).1];exact D)⟩
theorem aU.MI.YV(M:Q.MI C nd fu gs w t q rel)(R:Q.Laws)(h:CI Q.J Q.bR C)(I:Calm Q.J C){f:Nat}(hk:k<C.j){pc Y:Q.E.pX}(e:C.ks k=.at pc .run)(s:fu (k+1)=f+1){g1:Goroutine}{w1:World}{m':Word}{c':Nat}(z:Q.E.Tree Q.P false (Q.WS (Q.ch C k) f Y) (nd (k+1)).S (nd (k+1)).X g1 w1)(fn:FuncId)(pos:String)
  (hm:Q.E.MuAt w1 m' c')(he:Env.Eff Q.E.Fd w w1)(K:Env.EvA Q.E.Fd es)(hw:C.c<c'->mayWake Q.P (nd (k+1)).g=true)(N:CI Q.J Q.bR (C.mv k Y m' c'))(F:mu Q.J (C.mv k Y m' c')<mu Q.J C)(T:ry Y=ry pc):
  Q.lu C nd fu q (crowd ((gs.map (woken Q.P (nd (k+1)).g g1 w1)).setIfInBounds (Q.b+k) g1) w1 sl) (t++aef (Q.b+k) fn pos es):=by
 have G:Q.b+k<gs.size:=by rw[M.size];omega
 have us:(C.mv k Y m' c').ks k=.at Y .run:=upd_same _ _ _;have Z:g1.status=.running:=by
  have V:mu Q.J (C.mv k Y m' c')<=f:=by have:=M.fuel (k+1) hk;omega
  exact ey z fun y=>(ef R (aeg (Kj _ _) V) y).1
 have o:=M.aK (C':=C.mv k Y m' c') (f':=f) (g1:=g1) (w1:=w1) (ops:=aef (Q.b+k) fn pos es) (ew:=rel) R hk rfl rfl rfl rfl (fun i H=>upd_ne _ _ H) (by
   rw[us];exact⟨aee G,z,fun y=>absurd rfl y⟩) (fun S=>FF S M.wd.mu hm he) he.size (by have:=M.fuel (k+1) hk;omega) (aen F) rfl ((M.wd.mv R M.sets h.len he hm).cfg rfl rfl rfl rfl rfl (fun e=>⟨e,rfl⟩) rfl rfl rfl)
   (M.tr.app (.inr ⟨aeu _ _,by omega⟩) (tO K (.inl rfl) _) (fun _ p D=>by rw[M.DG hk e]at D;cases D)) fY (fun _=>by
   rw[us,Deaf_own,pg K,M.fD k hk (fun q y=>by rw[e]at y;cases y),e];exact T.symm) (by
   rw[us,M.DG hk e];exact⟨(fun⟨p,D⟩=>by cases D),fun y=>y.elim⟩) (fun _ _=>rfl) (tP K (M.sets.gN _ R.rf) _)
 have A:Calm Q.J (C.mv k Y m' c')\/(mayWake Q.P (nd (k+1)).g=true/\(g1.status=.running\/g1.status=.finished)):=by
  by_cases r:C.c<c'
  ·exact .inr ⟨hw r,.inl Z⟩
  ·exact .inl (ib (s':=.at Y .run) (k:=k) (m':=m') (c':=c') (v':=C.v) (dq:=C.wt) (dk:=C.ws) (mG:=C.γ) (mM:=C.dn) (dC:=C.tok) I nofun nofun (fun y=>by omega) fun _ y=>y)
 have D:∀i,(C.mv k Y m' c').dm=.dU->(C.mv k Y m' c').d=.send (C.mv k Y m' c').L i->∀pc,(C.mv k Y m' c').ks (i%Q.J.n)≠.at pc .dU:=by
  intro i N B W H;change upd C.ks k _ _=_ at H;by_cases e:i%Q.J.n=k
  ·rw[e,upd_same]at H;cases H
  ·rw[upd_ne _ _ e]at H;exact I.pa i N B W H
 obtain⟨l,B,O,U,M2⟩:=aU.MI.finish (g:=(nd (k+1)).g) R N o A D;exact⟨l,_,_,_,_,sl,_,_,rfl,O,U,M2,.inl (by rw[(cj (fu:=fu) B).1];exact F)⟩
end
end Ph
namespace Ph
open Conc Ren
open Lock (Word PC Mv bn cB bw dw)
open ConcN (sumTo upd sumTo_upd upd_ne upd_same sumTo_congr sumTo_le le_sumTo)
section
variable{Q:aU}{nd:Nat->Nd}{fu:Nat->Nat}{C C':fW Q.E}{w w':World}{gs nf:Array Goroutine}{t t':Trace}{q:Nat->Nat}{rel ew:Nat->Option Nat}{sl:Option (Nat×Nat)}
theorem Kl{E:Env}{b:Nat}(hm:¬RO E.Mp)(h:∀i a,a≠E.Mp->(PW i a↔XX i a)):fC E RO b PW=fC E RO b XX:=by
 have hb:∀a,jH E RO b PW a=jH E RO b XX a:=fun a=>by
  by_cases e:a=E.Mp
  ·subst e;rw[y0 hm,y0 hm]
  ·exact qw fun i=>h i a e
 funext l;cases l with
 |cell a=>simp[fC,hb]
 |obj a=>exact hb a
 |_=>rfl
theorem aU.Sets.turn{dC:Option Nat}(h:Q.Sets nd j L tok B)(hk:k<j){n':Nd}(V:∀a,a≠Q.E.Mp->(n'.S a↔(nd (k+1)).S a))(hX:∀a,a≠Q.E.Mp->(n'.X a↔(nd (k+1)).X a))(I:n'.S Q.E.Mp↔n'.X Q.E.Mp)(G:n'.S Q.E.Mp->dC=some k)(W:∀i,i<=j->i≠k+1->¬(nd i).S Q.E.Mp)(M:¬Q.RO Q.E.Mp):Q.Sets (upd nd (k+1) n') j L dC B:=by
 have us:upd nd (k+1) n' (k+1)=n':=upd_same _ _ _;have un:∀i,i≠k+1->upd nd (k+1) n' i=nd i:=fun i Y=>upd_ne _ _ Y;have D:∀i a,a≠Q.E.Mp->((upd nd (k+1) n' i).S a↔(nd i).S a):=fun i a C=>by
  by_cases e:i=k+1
  ·subst e;rw[us];exact V a C
  ·rw[un i e]
 have A:∀i a,a≠Q.E.Mp->((upd nd (k+1) n' i).X a↔(nd i).X a):=fun i a C=>by
  by_cases e:i=k+1
  ·subst e;rw[us];exact hX a C
  ·rw[un i e]
 have U:∀i,i<=j->(upd nd (k+1) n' i).S Q.E.Mp->i=k+1/\dC=some k:=fun i Y K=>by
  by_cases e:i=k+1
  ·simp_all
  ·simp_all
 have P:∀i,i<=j->((upd nd (k+1) n' i).X Q.E.Mp->(upd nd (k+1) n' i).S Q.E.Mp):=fun i Y K=>by
  by_cases e:i=k+1
  ·subst e;rw[us]at K⊢;exact I.2 K
  ·rw[un i e]at K⊢;exact h.xs i Y _ K
 refine⟨fun i i' Y R F a H K=>?_,fun i Y a K=>?_,fun i Y a K=>?_,fun i Y a hr H=>?_,fun i Y a H=>?_,fun i Y K=>⟨k,U i Y K⟩,h.gN,h.Nw,fun c Z=>?_⟩
 ·by_cases e:a=Q.E.Mp
  ·subst e;have J:=(U i Y (P i Y H)).1;have N:=(U i' R K).1;omega
  ·exact h.Dz i i' Y R F a ((A i a e).1 H) ((D i' a e).1 K)
 ·by_cases e:a=Q.E.Mp
  ·subst e;exact h.Nw
  ·exact h.low i Y a ((D i a e).1 K)
 ·by_cases e:a=Q.E.Mp
  ·subst e;obtain⟨rfl,_⟩:=U i Y K;rw[us]at K⊢;exact .inr (I.1 K)
  ·exact(h.sub i Y a ((D i a e).1 K)).imp id (A i a e).2
 ·have e:a≠Q.E.Mp:=fun e=>M (e▸hr);exact h.xJ i Y a hr ((A i a e).1 H)
 ·by_cases e:a=Q.E.Mp
  ·subst e;exact P i Y H
  ·exact(D i a e).2 (h.xs i Y a ((A i a e).1 H))
 ·obtain⟨J,N,O,T⟩:=h.A6 c Z;exact⟨J,N,O,fun i Y K=>T i Y ((D i c O).1 K)⟩
theorem aU.A_{n':Nd}(Y:¬Q.RO Q.E.Mp)(hX:∀a,a≠Q.E.Mp->(n'.X a↔(nd (k+1)).X a)):Q.cls (upd nd (k+1) n') j L=Q.cls nd j L:=by
 refine Kl Y fun i a K=>?_;unfold aU.nc;by_cases e:i=k+1
 ·subst e;rw[upd_same,hX a K]
 ·rw[upd_ne _ _ e]
theorem aU.MI.wla(M:Q.MI C nd fu gs w t q rel)(H:Q.Laws)(h:CI Q.J Q.bR C)(F:Calm Q.J C){f:Nat}(hk:k<C.j)(e:C.ks k=.at (.la x) .run)(r:fu (k+1)=f+1){g1:Goroutine}
  (o:Q.E.Tree Q.P false (Q.WS (Q.ch C k) f (.ur (Q.E.upd C.γ x))) (fun a=>(nd (k+1)).S a\/a=Q.E.Mp) (fun a=>(nd (k+1)).X a\/a=Q.E.Mp) g1 w)(fn:FuncId)(pos:String):
  Q.lu C nd fu q (crowd ((gs.map (woken Q.P (nd (k+1)).g g1 w)).setIfInBounds (Q.b+k) g1) w sl) (t++aef (Q.b+k) fn pos #[⟨.mark (.acquire Q.E.mu),false,true⟩]):=by
 have L:Q.b+k<gs.size:=by rw[M.size];omega
 have K:=h.free hk e;obtain⟨Z,I⟩:=h.take H.n8 hk e;have us:(C.take k x).ks k=.at (.ur (Q.E.upd C.γ x)) .run:=upd_same _ _ _;have R:Deaf t (Q.b+k)=0:=by rw[M.fD k hk (fun q y=>by rw[e]at y;cases y),e];rfl
 have hX:∀a,a≠Q.E.Mp->(((nd (k+1)).X a\/a=Q.E.Mp)↔(nd (k+1)).X a):=fun a B=>⟨fun y=>y.resolve_right B,.inl⟩;have W:∀a,a≠Q.E.Mp->(((nd (k+1)).S a\/a=Q.E.Mp)↔(nd (k+1)).S a):=fun a B=>⟨fun y=>y.resolve_right B,.inl⟩;have V:Q.MI (C.take k x) (upd nd (k+1) ⟨fun a=>(nd (k+1)).S a\/a=Q.E.Mp,fun a=>(nd (k+1)).X a\/a=Q.E.Mp,g1,w⟩) (upd fu (k+1) f) (gs.setIfInBounds (Q.b+k) g1) w (t++aef (Q.b+k) fn pos #[⟨.mark (.acquire Q.E.mu),false,true⟩]) q rel:=by
  refine M.T9 (C':=C.take k x) H.b0 hk rfl rfl rfl rfl (fun i A=>upd_ne _ _ A) rfl ?_ (fun i A _=>.refl _ _ _) (.refl _ _ _) (by have:=M.fuel (k+1) hk;omega) (aen I) (M.sets.turn hk W hX ⟨fun _=>.inr rfl,fun _=>.inr rfl⟩ (fun _=>rfl) (fun i A _ l=>?_) H.rm) ?_ ?_ (fun _=>?_) (fun g z=>Deaf_other t (fun y=>z y.symm) _ fY) ?_ (fun _ _=>rfl) (cz M.seen (aei _) (fF (m:=.acquire Q.E.mu) ⟨M.sets.gN _ H.rf,nofun⟩))
  ·rw[us];exact⟨aee L,o,fun y=>absurd rfl y⟩
  ·obtain⟨_,_,O⟩:=M.sets.mp i A l;rw[K]at O;cases O
  ·exact⟨M.wd.mu,M.wd.wg,nofun,M.wd.shut,M.wd.opn,M.wd.tape,M.wd.out⟩
  ·rw[aU.A_ H.rm hX,cw];have N:=M.tr;rw[K]at N;exact N.lock (.inr ⟨aeu _ _,by omega⟩) R
  ·rw[us,Deaf_own,R];rfl
  ·rw[us,M.DG hk e];exact⟨(fun⟨p,d⟩=>by cases d),fun y=>y.elim⟩
 have Y:Calm Q.J (C.take k x):=ib (s':=.at (.ur (Q.E.upd C.γ x)) .run) (k:=k) (m':=C.m) (c':=C.c) (v':=C.v) (dq:=C.wt) (dk:=C.ws) (mG:=Q.E.upd C.γ x) (mM:=C.dn++[x]) (dC:=some k) F nofun nofun id fun _ y=>y;obtain⟨T,G,U,D,M2⟩:=aU.MI.finish (g:=(nd (k+1)).g) H Z V (.inl Y) Y.pa;exact⟨T,_,_,_,_,sl,_,_,rfl,U,D,M2,.inl (by rw[(cj (fu:=fu) G).1];exact I)⟩
theorem aU.MI.wur(M:Q.MI C nd fu gs w t q rel)(H:Q.Laws)(h:CI Q.J Q.bR C)(N:Calm Q.J C){f:Nat}{γ:Q.E.Γ}(hk:k<C.j)(e:C.ks k=.at (.ur γ) .run)(x:fu (k+1)=f+1){g1:Goroutine}(I:Q.E.eZ γ (w.heap[Q.E.Mp]?))
  (u:Q.E.Tree Q.P false (Q.WS (Q.ch C k) f .ud) (fun a=>(nd (k+1)).S a/\a≠Q.E.Mp) (fun a=>(nd (k+1)).X a/\a≠Q.E.Mp) g1 w)(fn:FuncId)(pos:String):
  Q.lu C nd fu q (crowd ((gs.map (woken Q.P (nd (k+1)).g g1 w)).setIfInBounds (Q.b+k) g1) w sl) (t++aef (Q.b+k) fn pos #[⟨.mark (.releaseMerge Q.E.mu),false,true⟩]):=by
 have O:Q.b+k<gs.size:=by rw[M.size];omega
 obtain⟨d,A,K,V⟩:=h.give H.n8 hk e;have us:(C.give k).ks k=.at .ud .run:=upd_same _ _ _;have R:Deaf t (Q.b+k)=0:=by rw[M.fD k hk (fun q y=>by rw[e]at y;cases y),e];rfl
 have hX:∀a,a≠Q.E.Mp->(((nd (k+1)).X a/\a≠Q.E.Mp)↔(nd (k+1)).X a):=fun a L=>⟨fun y=>y.1,fun y=>⟨y,L⟩⟩;have l:∀a,a≠Q.E.Mp->(((nd (k+1)).S a/\a≠Q.E.Mp)↔(nd (k+1)).S a):=fun a L=>⟨fun y=>y.1,fun y=>⟨y,L⟩⟩;have z:Q.MI (C.give k) (upd nd (k+1) ⟨fun a=>(nd (k+1)).S a/\a≠Q.E.Mp,fun a=>(nd (k+1)).X a/\a≠Q.E.Mp,g1,w⟩) (upd fu (k+1) f) (gs.setIfInBounds (Q.b+k) g1) w (t++aef (Q.b+k) fn pos #[⟨.mark (.releaseMerge Q.E.mu),false,true⟩]) q rel:=by
  refine M.T9 (C':=C.give k) H.b0 hk rfl rfl rfl rfl (fun i U=>upd_ne _ _ U) rfl ?_ (fun i U _=>.refl _ _ _) (.refl _ _ _) (by have:=M.fuel (k+1) hk;omega) (aen A) (M.sets.turn hk l hX ⟨fun y=>absurd rfl y.2,fun y=>absurd rfl y.2⟩ (fun y=>absurd rfl y.2) (fun i U T s=>?_) H.rm) ?_ ?_ (fun _=>?_) (fun g o=>Deaf_other t (fun y=>o y.symm) _ fY) ?_ (fun _ _=>rfl) (cz M.seen (aei _) (fF (m:=.releaseMerge Q.E.mu) ⟨M.sets.gN _ H.rf,nofun⟩))
  ·rw[us];exact⟨aee O,u,fun y=>absurd rfl y⟩
  ·obtain⟨k',B,G⟩:=M.sets.mp i U s;rw[K]at G;cases G;exact T B
  ·exact⟨M.wd.mu,M.wd.wg,fun _=>by show Q.E.eZ C.γ _;rw[V];exact I,M.wd.shut,M.wd.opn,M.wd.tape,M.wd.out⟩
  ·rw[aU.A_ H.rm hX,cw];have Z:=M.tr;rw[K]at Z;exact Z.unlock (g:=Q.b+k) (.inr ⟨aeu _ _,by omega⟩) R
  ·rw[us,Deaf_own,R];rfl
  ·rw[us,M.DG hk e];exact⟨(fun⟨p,r⟩=>by cases r),fun y=>y.elim⟩
 have Y:Calm Q.J (C.give k):=ib (s':=.at .ud .run) (k:=k) (m':=C.m) (c':=C.c) (v':=C.v) (dq:=C.wt) (dk:=C.ws) (mG:=C.γ) (mM:=C.dn) (dC:=none) N nofun nofun id fun _ y=>y;obtain⟨W,B,F,D,M2⟩:=aU.MI.finish (g:=(nd (k+1)).g) H d z (.inl Y) Y.pa;exact⟨W,_,_,_,_,sl,_,_,rfl,F,D,M2,.inl (by rw[(cj (fu:=fu) B).1];exact A)⟩
theorem aU.MI.Ua(M:Q.MI C nd fu gs w t q rel)(P:Q.Laws)(hk:k<C.j)(T:C'.j=C.j)(O:C'.L=C.L)(hd:C'.d=C.d)(R:C'.dm=C.dm)(I:∀i,i≠k->C'.ks i=C.ks i){g1:Goroutine}{w1:World}{ops:Array _}
  (A:Q.Nv (Q.ch C k) (gs.setIfInBounds (Q.b+k) g1) (t++ops) k (nd (k+1)) (fu (k+1)) (C'.ks k))(F:∀S,az Q.E.U S w w1)(N:w1.heap.size=w.heap.size)(Y:mu Q.J C'<=mu Q.J C)(tok:C'.tok=C.tok)(wd:Q.Wd C' w1)
  (tr:PT Q.b C.j Q.E.mu Q.E.st Q.cW (Q.cls nd C.j C.L) (t++ops) (C.tok.map (Q.b+ ·)) ew)(own:∀op∈ops,op.g=Q.b+k)(D:(∀q,C'.ks k≠.qt q)->Deaf (t++ops) (Q.b+k)=AZ (C'.ks k))(K:(∃p,ew (Q.b+k)=some p)↔aU.DC (C'.ks k))(H:∀i,i≠k->ew (Q.b+i)=rel (Q.b+i))(low:∀op∈ops,Seen w.heap.size op):
  Q.MI C' nd fu (gs.setIfInBounds (Q.b+k) g1) w1 (t++ops) q ew:=by
 have:=M.T9 P.b0 hk T O hd R I rfl A (fun i V _=>F _) ((M.A7 _ hk).trans (F _)) (aex Y (M.fuel _ hk)) Y (by rw[fE,N,tok];exact M.sets) wd (by rw[fE,tok];exact tr) D (fun g B=>Deaf_other t (fun y=>B y.symm) _ own) K H (cz M.seen (aeo N.symm) (by simp_all));rw[fE,fE]at this;omega
theorem aU.MI.YW(M:Q.MI C nd fu gs w t q rel)(R:Q.Laws)(h:CI Q.J Q.bR C)(U:Calm Q.J C)(hk:k<C.j)(e:C.ks k=.at .wr .run){g1:Goroutine}(F:Env.nb Q.P (Q.E.yQ Q.P 4) n g1)(fn:FuncId)(pos:String):
  Q.lu C nd fu q (crowd ((gs.map (woken Q.P (nd (k+1)).g g1 w)).setIfInBounds (Q.b+k) g1) w sl) (t++aef (Q.b+k) fn pos #[⟨.mark (.releaseMerge Q.E.st),false,true⟩]):=by
 have B:Q.b+k<gs.size:=by rw[M.size];omega
 have O:CI Q.J Q.bR (C.w1 k (.cX 4 n)):=h.slip hk e rfl rfl nofun nofun (fun y=>rfl) nofun rfl (fun _ _ y=>y) trivial (fun i n e=>by cases e;exact aei _) (aei _);have D:mu Q.J (C.w1 k (.cX 4 n))<mu Q.J C:=FC R.n8 h.c1 (aeg hk h.jn) e (by show 5<6;omega);have us:(C.w1 k (.cX 4 n)).ks k=.cX 4 n:=upd_same _ _ _;have H:Deaf t (Q.b+k)=0:=by rw[M.fD k hk (fun q y=>by rw[e]at y;cases y),e];rfl
 have N:=M.Ua (C':=C.w1 k (.cX 4 n)) (g1:=g1) (w1:=w) (ops:=aef (Q.b+k) fn pos #[⟨.mark (.releaseMerge Q.E.st),false,true⟩]) (ew:=upd rel (Q.b+k) (some t.size)) R hk rfl rfl rfl rfl (fun i I=>upd_ne _ _ I) (by
   rw[us];exact⟨g1,aee B,F⟩) (fun S=>.refl _ _ _) rfl (aen D) rfl (M.wd.cfg rfl rfl rfl rfl rfl (fun e=>⟨e,rfl⟩) rfl rfl rfl)
   (by
    rw[cw];exact M.tr.release ⟨aeu _ _,by omega⟩ H (upd_same _ _ _) fun i I=>upd_ne _ _ I) fY (fun _=>by
   rw[us,Deaf_own,H];rfl) (by
   rw[us,upd_same];exact⟨fun _=>trivial,fun _=>⟨_,rfl⟩⟩) (fun i I=>upd_ne _ _ (by omega)) (fF (m:=.releaseMerge Q.E.st) ⟨M.sets.gN _ R.rw,nofun⟩)
 have Y:Calm Q.J (C.w1 k (.cX 4 n)):=ib (s':=.cX 4 n) (k:=k) (m':=C.m) (c':=C.c) (v':=C.v) (dq:=C.wt) (dk:=C.ws) (mG:=C.γ) (mM:=C.dn) (dC:=C.tok) U nofun nofun id fun _ y=>y;obtain⟨L,T,A,K,M2⟩:=aU.MI.finish (g:=(nd (k+1)).g) R O N (.inl Y) Y.pa;exact⟨L,_,_,_,_,sl,_,_,rfl,A,K,M2,.inl (by rw[(cj (fu:=fu) T).1];exact D)⟩
theorem Ub{s s':cm Q.E}(hk:k<Q.J.n)(e:C.ks k=s)(A:zP s'<zP s)(I:Q.J.n<=8){Y:fW Q.E}(K:Y=C.w1 k s'\/Y=(C.w1 k s').ob Q.J):Q.nu Y q<Q.nu C q:=by
 have D:=iH (s':=s') zP _ hk e;have H:sumTo Q.J.n (fun i=>zP (Y.ks i))=sumTo Q.J.n (fun i=>zP (upd C.ks k s' i)):=by
  rcases K with rfl|rfl
  ·rfl
  ·exact sumTo_congr fun i _=>iI zP (fun _ _ _=>rfl) _ _
 have R:FG Y.dm+sumTo Q.J.n (fun i=>FH (Y.ks i))<=9:=by
  have r1:∀m,FG m<=1:=fun m=>by cases m<;>simp[FG]
  have r2:∀s:cm Q.E,FH s<=1:=fun s=>by cases s<;>simp[FH,r1]
  have:=sumTo_le (f:=fun i=>FH (Y.ks i)) (j:=Q.J.n) fun i _=>r2 _;have:=r1 Y.dm;omega
 unfold aU.nu;omega
theorem Ro{s s':cm Q.E}(e:C.ks k=s)(K:∀pc md,s≠.at pc md)(H:∀pc md,s'≠.at pc md):Q.Df (C.w1 k s') fu=Q.Df C fu:=by
 funext i;cases i with
 |zero=>rfl
 |succ i=>
  show(match upd _ k s' i with|.at pc _=>Q.WS (Q.ch C i) _ pc|_=>fun _ _ _ _=>True)=(match C.ks i with|.at pc _=>Q.WS _ _ pc|_=>fun _ _ _ _=>True)
  by_cases Y:i=k
  ·subst Y;rw[upd_same,e];simp_all
  ·rw[upd_ne _ _ Y]
theorem aU.MI.Uc(M:Q.MI C nd fu gs w t q rel)(N:Q.Laws)(h:CI Q.J Q.bR C)(O:Calm Q.J C){s s':cm Q.E}(hk:k<C.j)(e:C.ks k=s){g g1:Goroutine}(Y:∀e∈es,e.mute=true)
  (D:(∃i n,s=.cX i (n+1)/\s'=.cX i n/\es=#[]/\Env.nb Q.P (Q.E.yQ Q.P i) n g1)\/(∃n,s=.qt (n+1)/\s'=.qt n/\QuitsD Q.P n (deafBehind (Deaf t (Q.b+k)) es) g1))(fn:FuncId)(pos:String):
  Q.lu C nd fu q (crowd ((gs.map (woken Q.P g g1 w)).setIfInBounds (Q.b+k) g1) w sl) (t++aef (Q.b+k) fn pos es):=by
 have U:Q.b+k<gs.size:=by rw[M.size];omega
 have A:k<Q.J.n:=aeg hk h.jn;have V:∀pc md,s≠.at pc md:=by rcases D with⟨i,n,rfl,_⟩|⟨n,rfl,_⟩<;>nofun
 have K:∀pc md,s'≠.at pc md:=by rcases D with⟨i,n,_,rfl,_⟩|⟨n,_,rfl,_⟩<;>nofun
 have F:iG s=.out/\iG s'=.out:=by rcases D with⟨i,n,rfl,rfl,_⟩|⟨n,rfl,rfl,_⟩<;>exact⟨rfl,rfl⟩
 have hr:vZ s'=vZ s/\qs s'=qs s/\kh s'=kh s/\kY s'=kY s/\Gone s/\s'≠.no/\(∀y,kX y s=0)/\zP s'<zP s:=by
  rcases D with⟨i,n,rfl,rfl,_⟩|⟨n,rfl,rfl,_⟩
  ·exact⟨rfl,rfl,rfl,rfl,trivial,nofun,fun _=>rfl,by show n<n+1;omega⟩
  ·exact⟨rfl,rfl,rfl,rfl,trivial,nofun,fun _=>rfl,by show n<n+1;omega⟩
 have z:CI Q.J Q.bR (C.w1 k s'):=h.slip hk e F.1 F.2 hr.2.2.2.2.2.1 K hr.2.2.2.2.2.2.1 (fun γ md=>V _ _) (by rw[hr.2.1]) (fun _ _ y=>by rw[hr.2.2.1,hr.2.2.2.1];exact y) hr.2.2.2.2.1 (fun i n e'=>by
  rcases D with⟨i',f,rfl,rfl,_⟩|⟨f,rfl,rfl,_⟩
  ·cases e';exact h.cX k _ _ e
  ·cases e') (aei _)
 have B:mu Q.J (C.w1 k s')=mu Q.J C:=FD A e hr.1 (F.2.trans F.1.symm);have us:(C.w1 k s').ks k=s':=upd_same _ _ _;have Z:=M.Ua (C':=C.w1 k s') (g1:=g1) (w1:=w) (ops:=aef (Q.b+k) fn pos es) (ew:=rel) N hk rfl rfl rfl rfl (fun i d=>upd_ne _ _ d) (by
   rw[us];rcases D with⟨i,n,rfl,rfl,_,R⟩|⟨n,rfl,rfl,R⟩
   ·exact⟨g1,aee U,R⟩
   ·exact⟨g1,aee U,by rw[Deaf_own];exact R⟩) (fun S=>.refl _ _ _) rfl (aeo B) rfl (M.wd.cfg rfl rfl rfl rfl rfl (fun e=>⟨e,rfl⟩) rfl rfl rfl)
   (M.tr.still fun op aM=>by
    obtain⟨ev,he,rfl⟩:=di aM;refine⟨touch_mute (Y ev he),?_,?_,by show Q.b+k<Q.b+C.j;omega⟩
    ·intro y;have:=Y ev he;obtain⟨loc,wr,l⟩:=ev;cases loc<;>simp_all[Event.mute,aej]
    ·intro y;have:=Y ev he;obtain⟨loc,wr,l⟩:=ev;cases loc<;>simp_all[Event.mute,aej]) fY (fun R=>by
   rw[us];rcases D with⟨i,n,rfl,rfl,rfl,_⟩|⟨n,rfl,rfl,_⟩
   ·rw[Deaf_own];have:=M.fD k hk (fun q y=>by rw[e]at y;cases y);rw[e]at this;exact this
   ·rw[us]at R;exact absurd rfl (R n)) (by
   rw[us,M.pj k hk,e];rcases D with⟨i,n,rfl,rfl,_⟩|⟨n,rfl,rfl,_⟩<;>exact Iff.rfl) (fun _ _=>rfl) (fun op aM=>by
   obtain⟨ev,he,rfl⟩:=di aM;exact⟨low_mute (Y ev he) _,fun a=>tQ (Y ev he) a⟩)
 have H:Calm Q.J (C.w1 k s'):=ib (s':=s') (k:=k) (m':=C.m) (c':=C.c) (v':=C.v) (dq:=C.wt) (dk:=C.ws) (mG:=C.γ) (mM:=C.dn) (dC:=C.tok) O (fun _=>K _ _) (fun _=>K _ _) id fun _ y=>y;obtain⟨X,T,L,I,M2⟩:=aU.MI.finish (g:=g) N z Z (.inl H) H.pa;obtain⟨G,W⟩:=cj (fu:=fu) T;exact⟨X,_,_,_,_,sl,_,_,rfl,L,I,M2,.inr ⟨G.trans B,W.trans (Ro e V K),.inr ⟨rfl,Ub A e hr.2.2.2.2.2.2.2 N.n8 T⟩⟩⟩
end
section
variable{Q:aU}{nd:Nat->Nd}{fu:Nat->Nat}{C C':fW Q.E}{w w':World}{gs nf:Array Goroutine}{t t':Trace}{q:Nat->Nat}{rel ew:Nat->Option Nat}{sl:Option (Nat×Nat)}
theorem aU.MI.wd4(M:Q.MI C nd fu gs w t q rel)(R:Q.Laws)(h:CI Q.J Q.bR C)(I:Calm Q.J C)(hk:k<C.j)(e:C.ks k=.cX 4 0){g g1:Goroutine}(U:Env.nb Q.P (Q.E.yQ Q.P 3) n g1)(fn:FuncId)(pos:String):
  Q.lu C nd fu q (crowd ((gs.map (woken Q.P g g1 w)).setIfInBounds (Q.b+k) g1) w sl) (t++aef (Q.b+k) fn pos #[⟨.mark .disable,false,true⟩]):=by
 have A:Q.b+k<gs.size:=by rw[M.size];omega
 have L:CI Q.J Q.bR (C.w1 k (.cX 3 n)):=h.slip hk e rfl rfl nofun nofun (fun y=>rfl) nofun rfl (fun _ _ y=>y) trivial (fun i n e=>by cases e;omega) (aei _);have H:mu Q.J (C.w1 k (.cX 3 n))<mu Q.J C:=FC R.n8 h.c1 (aeg hk h.jn) e (by show 4<5;omega);have us:(C.w1 k (.cX 3 n)).ks k=.cX 3 n:=upd_same _ _ _;have F:=M.Ua (C':=C.w1 k (.cX 3 n)) (g1:=g1) (w1:=w) (ops:=aef (Q.b+k) fn pos #[⟨.mark .disable,false,true⟩]) (ew:=rel) R hk rfl rfl rfl rfl (fun i O=>upd_ne _ _ O) (by
   rw[us];exact⟨g1,aee A,U⟩) (fun S=>.refl _ _ _) rfl (aen H) rfl (M.wd.cfg rfl rfl rfl rfl rfl (fun e=>⟨e,rfl⟩) rfl rfl rfl)
   (M.DI (by omega) fn pos (.inl rfl)) fY (fun _=>by
   rw[us,Deaf_own,M.fD k hk (fun q y=>by rw[e]at y;cases y),e];rfl) (by
   rw[us,M.pj k hk,e];exact Iff.rfl) (fun _ _=>rfl) (fF ⟨trivial,nofun⟩)
 have Y:Calm Q.J (C.w1 k (.cX 3 n)):=ib (s':=.cX 3 n) (k:=k) (m':=C.m) (c':=C.c) (v':=C.v) (dq:=C.wt) (dk:=C.ws) (mG:=C.γ) (mM:=C.dn) (dC:=C.tok) I nofun nofun id fun _ y=>y;obtain⟨B,N,D,K,M2⟩:=aU.MI.finish (g:=g) R L F (.inl Y) Y.pa;exact⟨B,_,_,_,_,sl,_,_,rfl,D,K,M2,.inl (by rw[(cj (fu:=fu) N).1];exact H)⟩
theorem aU.MI.Km(M:Q.MI C nd fu gs w t q rel)(R:Q.Laws)(h:CI Q.J Q.bR C)(F:Calm Q.J C){v' dq dk:Nat}{s':cm Q.E}(hk:k<C.j)(e:C.ks k=.cX i 0)(K:i<=3){g g1:Goroutine}{w1:World}(he:Env.Eff Q.E.Wg w w1)(Z:Q.E.WgAt w1 v' dq dk)(Y:Env.EvA Q.E.Wg es)
  (D:(∃i' n,s'=.cX i' n/\i'<i/\Env.nb Q.P (Q.E.yQ Q.P i') n g1)\/(∃n,s'=.qt n/\QuitsD Q.P n 1 g1))(Fv:v'+qs s'=C.v+qs (.cX i 0:cm Q.E))(ph:∀r o,yZ C.d C.v C.wt C.ws (r+kh (.cX i 0:cm Q.E)) (o+kY (.cX i 0:cm Q.E))->yZ C.d v' dq dk (r+kh s') (o+kY s'))(hvd:fM Q.J v' C.d<=fM Q.J C.v C.d)(z:v'<=C.v)
  (f:(C.dm=.blk->C.ws=0->dk=0)\/(mayWake Q.P g=true/\(g1.status=.running\/g1.status=.finished)))(fn:FuncId)(pos:String):
  Q.lu C nd fu q (crowd ((gs.map (woken Q.P g g1 w1)).setIfInBounds (Q.b+k) g1) w1 sl) (t++aef (Q.b+k) fn pos es):=by
 have T:Q.b+k<gs.size:=by rw[M.size];omega
 have W:k<Q.J.n:=aeg hk h.jn;have H:∀pc md,s'≠.at pc md:=by rcases D with⟨i,n,rfl,_⟩|⟨n,rfl,_⟩<;>nofun
 have A:CI Q.J Q.bR (C.wk k s' C.d C.dm C.m C.c v' dq dk C.γ C.dn C.tok):=h.slip hk e rfl (by rcases D with⟨i,n,rfl,_⟩|⟨n,rfl,_⟩<;>rfl) (by rcases D with⟨i,n,rfl,_⟩|⟨n,rfl,_⟩<;>nofun) H (fun y=>rfl) nofun Fv ph trivial (fun i' n e'=>by
  rcases D with⟨i,n,rfl,X,_⟩|⟨n,rfl,_⟩
  ·cases e';omega
  ·cases e') z
 have V:mu Q.J (C.wk k s' C.d C.dm C.m C.c v' dq dk C.γ C.dn C.tok)<mu Q.J C:=by
  refine Dx R.n8 h.c1 ?_;have:=oa (C:=C) (J:=Q.J) (s':=s') (d':=C.d) (lM:=C.dm) (m':=C.m) (c':=C.c) (v':=v') (dq:=dq) (dk:=dk) (mG:=C.γ) (mM:=C.dn) (dC:=C.tok) W e;have hr:vZ s'<i+1:=by
   rcases D with⟨i',n,rfl,X,_⟩|⟨n,rfl,_⟩
   ·show i'+1<i+1;omega
   ·show 0<i+1;omega
  have hr0:vZ (cm.cX i 0:cm Q.E)=i+1:=rfl;omega
 have O:Deaf t (Q.b+k)=1:=by
  rw[M.fD k hk (fun q y=>by rw[e]at y;cases y),e];show(if i<=3 then 1 else 0)=1
  rw[if_pos K]
 have us:(C.wk k s' C.d C.dm C.m C.c v' dq dk C.γ C.dn C.tok).ks k=s':=upd_same _ _ _;have M1:=M.Ua (C':=C.wk k s' C.d C.dm C.m C.c v' dq dk C.γ C.dn C.tok) (g1:=g1) (w1:=w1) (ops:=aef (Q.b+k) fn pos es) (ew:=rel) R hk rfl rfl rfl rfl (fun i K=>upd_ne _ _ K) (by
   rw[us];rcases D with⟨i',n,rfl,_,I⟩|⟨n,rfl,I⟩
   ·exact⟨g1,aee T,I⟩
   ·exact⟨g1,aee T,by rw[Deaf_own,pg Y,O];exact I⟩) (fun S=>y7 S M.wd.wg Z he) he.size (aen V) rfl ((M.wd.gp R M.sets h.len he Z).cfg rfl rfl rfl rfl rfl (fun e=>⟨e,rfl⟩) rfl rfl rfl)
   (M.tr.app (.inr ⟨aeu _ _,by omega⟩) (tO Y (.inr rfl) _) (fun _ p s i x K hx hm=>by
    obtain⟨A,U,a,h3,h4,X⟩:=v_ Y (by omega) i x K hx hm;exact⟨R.YU _ (by rw[h3];exact⟨.inr h4,X⟩),A,U⟩)) fY (fun I=>by
   rw[us,Deaf_own,pg Y,O];rcases D with⟨i',n,rfl,X,_⟩|⟨n,rfl,_⟩
   ·show 1=(if i'<=3 then 1 else 0)
    rw[if_pos (by omega)]
   ·rw[us]at I;exact absurd rfl (I n)) (by
   rw[us,M.pj k hk,e];rcases D with⟨i',n,rfl,_⟩|⟨n,rfl,_⟩<;>exact Iff.rfl) (fun _ _=>rfl) (tP Y (M.sets.gN _ R.rw) _)
 have s:∀i,C.dm=.dU->C.d=.send C.L i->∀pc,(C.wk k s' C.d C.dm C.m C.c v' dq dk C.γ C.dn C.tok).ks (i%Q.J.n)≠.at pc .dU:=by
  intro i A U l K;change upd C.ks k _ _=_ at K;by_cases e:i%Q.J.n=k
  ·rw[e,upd_same]at K;exact absurd K (H _ _)
  ·rw[upd_ne _ _ e]at K;exact F.pa i A U l K
 have B:Calm Q.J (C.wk k s' C.d C.dm C.m C.c v' dq dk C.γ C.dn C.tok)\/(mayWake Q.P g=true/\(g1.status=.running\/g1.status=.finished)):=
  f.imp (fun y=>ib (s':=s') (k:=k) (m':=C.m) (c':=C.c) (v':=v') (dq:=dq) (dk:=dk) (mG:=C.γ) (mM:=C.dn) (dC:=C.tok) F (fun _=>H _ _) (fun _=>H _ _) id y) id
 obtain⟨u,U,G,N,M2⟩:=aU.MI.finish (g:=g) R A M1 B s;exact⟨u,_,_,_,_,sl,_,_,rfl,G,N,M2,.inl (by rw[(cj (fu:=fu) U).1];exact V)⟩
theorem aU.MI.offers(M:Q.MI C nd fu gs w t q rel)(F:Q.Laws){g:Goroutine}(H:gs[i]?=some g)(c:Nat)(send:Bool):offersAt g c send=[]\/(i=0/\C.dm=.dU)\/∃k pc,i=Q.b+k/\k<C.j/\C.ks k=.at pc .dU:=by
 have N:=M.size;have L:=(aeD.1 H).1;rcases Nat.eq_zero_or_pos i with rfl|A
 ·have Y:=M.g0;have f0:=M.wh (aeh _);cases hm:C.dm with
  |run=>
   rw[hm]at Y;obtain rfl:=Option.some.inj (H.symm.trans Y.1);exact .inl (offersAt_of_not_blocked (by rw[ey Y.2 fun y=>(jd f0 y).1];nofun) _ _)
  |blk=>
   rw[hm]at Y;obtain rfl:=Option.some.inj (H.symm.trans Y.1);unfold offersAt;simp[Y.2.1]
  |dU=>exact .inr (.inl ⟨rfl,rfl⟩)
  |ns=>rw[hm]at Y;exact Y.elim
 ·by_cases U:i<Q.b
  ·have:=(M.old i g A U H).status;exact .inl (offersAt_of_not_blocked (by rcases this with y|y<;>rw[y]<;>nofun) _ _)
  ·obtain⟨k,rfl⟩:∃k,i=Q.b+k:=⟨i-Q.b,by omega⟩;have hk:k<C.j:=by omega
   have K:=M.wk k hk;have fk:=M.wh hk;cases I:C.ks k with
   |no=>rw[I]at K;exact K.elim
   |«at» pc md=>
    rw[I]at K;obtain⟨D,R,J⟩:=K;obtain rfl:=Option.some.inj (H.symm.trans D);cases md with
    |run=>exact .inl (offersAt_of_not_blocked (by show(nd _).g.status≠_;rw[ey R fun y=>(ef F fk y).1];nofun) _ _)
    |blk=>
     have:=(ef F fk (J nofun)).2;unfold offersAt;simp[Kh,this]
    |dU=>exact .inr (.inr ⟨k,pc,rfl,hk,I⟩)
    |ns=>exact .inl (offersAt_of_not_blocked (by nofun) _ _)
   |cX i n=>
    rw[I]at K;obtain⟨B,D,R⟩:=K;obtain rfl:=Option.some.inj (H.symm.trans D);exact .inl (offersAt_of_not_blocked (by rw[je R];nofun) _ _)
   |qt O=>
    rw[I]at K;obtain⟨B,D,R⟩:=K;obtain rfl:=Option.some.inj (H.symm.trans D);exact .inl (offersAt_of_not_blocked (by rcases R.status with y|y<;>rw[y]<;>nofun) _ _)
theorem aU.MI.xK(M:Q.MI C nd fu gs w t q rel){pc:Q.E.pX}(hk:k<C.j)(e:C.ks k=.at pc .dU):gs[Q.b+k]?=some (parked (nd (k+1)).g #[rcase (Q.ch C k) Q.E.zc] (.recv true)):=by
 have:=M.wk k hk;rw[e]at this;exact this.1
theorem qx(h:CI Q.J Q.bR C){k':Nat}(hk:k<C.j)(Y:k'<C.j)(e:Q.ch C k=Q.ch C k'):k=k':=by
 unfold aU.ch at e;rw[ael,ael,aeG (by rw[h.len];exact hk),aeG (by rw[h.len];omega)]at e;have K:=List.pairwise_iff_getElem.1 h.T6;have e':=e;rcases Nat.lt_trichotomy k k' with y|y|y
 ·simp_all
 ·exact y
 ·exact absurd e'.symm (K k' k _ _ y)
theorem aU.MI.Rp(M:Q.MI C nd fu gs w t q rel)(H:Q.Laws)(h:CI Q.J Q.bR C)(hk:k<C.j)(A:∀pc,C.ks k≠.at pc .dU)(I:i0=0):partners (gs.setIfInBounds i0 ph) (Q.ch C k) false=[]:=by
 refine partners_nil fun i g D=>?_;rcases getElem?_stand gs i0 i g D with⟨_,rfl⟩|⟨R,Y⟩
 ·rfl
 ·rcases M.offers H Y _ _ with y|⟨rfl,_⟩|⟨k',pc,rfl,K,e⟩
  ·exact y
  ·omega
  ·obtain rfl:=Option.some.inj (Y.symm.trans (M.xK K e));rw[offersAt_parked_recv,if_neg];intro e';have:=qx h K hk e';simp_all
theorem aU.MI.noSend(M:Q.MI C nd fu gs w t q rel)(F:Q.Laws)(h:CI Q.J Q.bR C)(hk:k<C.j)(N:∀i,C.dm=.dU->C.d=.send C.L i->i%Q.J.n≠k):partners (gs.setIfInBounds i0 ph) (Q.ch C k) true=[]:=by
 refine partners_nil fun i g B=>?_;rcases getElem?_stand gs i0 i g B with⟨_,rfl⟩|⟨O,Y⟩
 ·rfl
 ·rcases M.offers F Y _ _ with y|⟨rfl,hm⟩|⟨k',pc,rfl,K,e⟩
  ·exact y
  ·have R:=M.g0;rw[hm]at R;obtain⟨_,i,c,x,z,U,I,P,D,S,A,T⟩:=R;obtain rfl:=Option.some.inj (Y.symm.trans A);rw[offersAt_parked_send,if_neg];intro e';subst e';have H:=by
    have:=(aeE.1 D).1;rw[h.len]at this;omega
   have:Q.ch C (i%Q.J.n)=Q.ch C k:=by
    unfold aU.ch at D⊢;simp_all
   exact N i hm I (qx h H hk this)
  ·obtain rfl:=Option.some.inj (Y.symm.trans (M.xK K e));rw[offersAt_parked_recv']
theorem aU.MI.NA(M:Q.MI C nd fu gs w t q rel)(H:Q.Laws)(h:CI Q.J Q.bR C){pc:Q.E.pX}(hk:k<C.j)(e:C.ks k=.at pc .dU):partners (gs.setIfInBounds 0 ph) (Q.ch C k) false=[(Q.b+k,0)]:=by
 have hb:=H.b0;have U:=M.xK hk e;rw[partners_one (j:=Q.b+k) (by rw[bk (by omega)];exact U) (fun i g A I=>?_),offersAt_parked_recv,if_pos rfl]
 ·rfl
 ·rcases getElem?_stand gs 0 i g I with⟨_,rfl⟩|⟨D,Y⟩
  ·rfl
  ·rcases M.offers H Y _ _ with y|⟨rfl,_⟩|⟨k',B,rfl,K,e'⟩
   ·exact y
   ·omega
   ·obtain rfl:=Option.some.inj (Y.symm.trans (M.xK K e'));rw[offersAt_parked_recv,if_neg];intro R;have:=qx h K hk R;omega
theorem aU.MI.NB(M:Q.MI C nd fu gs w t q rel)(H:Q.Laws)(R:gs[0]?=some (parked g0 #[scase (Q.ch C k) v z] .send)):partners (gs.setIfInBounds (Q.b+k) ph) (Q.ch C k) true=[(0,0)]:=by
 have hb:=H.b0;rw[partners_one (j:=0) (by rw[bk (by omega)];exact R) (fun i g A I=>?_),offersAt_parked_send,if_pos rfl]
 ·rfl
 ·rcases getElem?_stand gs _ i g I with⟨_,rfl⟩|⟨D,Y⟩
  ·rfl
  ·rcases M.offers H Y _ _ with y|⟨rfl,_⟩|⟨k',U,rfl,K,e'⟩
   ·exact y
   ·omega
   ·obtain rfl:=Option.some.inj (Y.symm.trans (M.xK K e'));rw[offersAt_parked_recv']
theorem aU.MI.hand(M:Q.MI C nd fu gs w t q rel)(Z:Q.Laws)(h:CI Q.J Q.bR C)(z:Calm Q.J C){f0:Nat}{md:Md}(hk:k<C.j)(e:C.ks k=.at .recv md)(hd:C.d=.send C.L i)(hki:i%Q.J.n=k)(hx:Q.J.ao[i]?=some x)(hf:fu 0=f0+1){ops:Array MemOp}(hs:eH w (Q.ch C k) s)
  (h0:nf[0]?=some g0)(V:nf[Q.b+k]?=some gk)(ho:∀i,i≠0->i≠Q.b+k->nf[i]?=gs[i]?)(v:nf.size=gs.size)
  (t0:Q.E.Tree Q.P true (Q.DS f0 (Q.J.sends C.L (i+1))) (nd 0).S (nd 0).X g0 (w.setChan (Q.ch C k) 0 #[] false (s+1) (s+1) false))(tk:Q.E.Tree Q.P false (Q.WS (Q.ch C k) (fu (k+1)) (.ld x)) (nd (k+1)).S (nd (k+1)).X gk (w.setChan (Q.ch C k) 0 #[] false (s+1) (s+1) false))
  (l:∀op∈ops,op.act.touch?=none/\op.act≠.mark (.release Q.E.mu)/\op.act≠.mark (.release Q.E.st)/\op.g<Q.b+C.j)(R:∀g,Deaf (t++ops) g=Deaf t g)(c:∀op∈ops,Seen w.heap.size op):
  Q.lu C nd fu q (crowd nf (w.setChan (Q.ch C k) 0 #[] false (s+1) (s+1) false) sl) (t++ops):=by
 have hb:=Z.b0;obtain⟨hC,f⟩:=h.hand Z.n0 Z.n8 hk e hd hx;have us:(C.hand Q.J k x i).ks k=.at (.ld x) .run:=upd_same _ _ _;have un:∀i',i'≠k->(C.hand Q.J k x i).ks i'=C.ks i':=fun i' Y=>upd_ne _ _ Y;have o:∀i',i'<=C.j->¬(nd i').S (Q.ch C k):=(M.sets.A6 _ (gW h.len hk)).2.2.2;have I:(w.setChan (Q.ch C k) 0 #[] false (s+1) (s+1) false).heap.size=w.heap.size:=by simp[aeq]
 have W:=(M.sets.A6 _ (gW h.len hk)).1;have G:aD Q.J (Q.J.sends C.L (i+1))=aD Q.J C.d:=by
  rw[hd];rcases gM (J:=Q.J) (L:=C.L) (i:=i+1)with⟨_,U⟩|⟨_,U⟩<;>rw[U]<;>rfl
 have p:jc (Q.J.sends C.L (i+1))=jc C.d:=by
  rw[hd];rcases gM (J:=Q.J) (L:=C.L) (i:=i+1)with⟨_,U⟩|⟨_,U⟩<;>rw[U]<;>rfl
 have H:∀a,a≠Q.ch C k->(w.setChan (Q.ch C k) 0 #[] false (s+1) (s+1) false).heap[a]?=w.heap[a]?:=fun a ha=>by
  simp only[aeq];rw[aev (fun y=>ha y.symm)]
 have D:=M.sets.A6 _ (gW h.len hk)
 let n0:Nd:=⟨(nd 0).S,(nd 0).X,g0,w.setChan (Q.ch C k) 0 #[] false (s+1) (s+1) false⟩
 let A:Nd:=⟨(nd (k+1)).S,(nd (k+1)).X,gk,w.setChan (Q.ch C k) 0 #[] false (s+1) (s+1) false⟩
 have B:upd (upd nd 0 n0) (k+1) A 0=n0:=by rw[upd_ne _ _ (by omega),upd_same]
 have F:upd (upd nd 0 n0) (k+1) A (k+1)=A:=upd_same _ _ _;have N:∀i',i'≠0->i'≠k+1->upd (upd nd 0 n0) (k+1) A i'=nd i':=fun i' V U=>by rw[upd_ne _ _ U,upd_ne _ _ V]
 have O:upd fu 0 f0 0=f0:=upd_same _ _ _;have T:∀i',i'≠0->upd fu 0 f0 i'=fu i':=fun i' V=>upd_ne _ _ V;have M1:Q.MI (C.hand Q.J k x i) (upd (upd nd 0 n0) (k+1) A) (upd fu 0 f0) nf (w.setChan (Q.ch C k) 0 #[] false (s+1) (s+1) false) (t++ops) q rel:=by
  refine⟨v.trans M.size,?_,fun i' Y=>?_,fun i' g Y r hg=>?_,fun i' Y=>?_,fun i' Y=>?_,?_,?_,?_,?_,fun i' Y hq=>?_,fun i' Y=>?_,fun i' Y=>?_,M.A8,cz M.seen (aeo I.symm) (by rw[I];exact c)⟩
  ·rw[B,O];exact⟨h0,t0⟩
  ·rw[T _ (by omega)];by_cases K:i'=k
   ·subst K;rw[F,us];exact⟨V,tk,fun y=>absurd rfl y⟩
   ·rw[N _ (by omega) (by omega),un i' K];exact(M.wk i' Y).keep (ho _ (by omega) (by omega)) (R _)
  ·rw[ho i' (by omega) (by omega)]at hg;rw[R];exact M.old i' g Y r hg
  ·by_cases K:i'=0
   ·subst K;rw[O];have:=M.fuel 0 (aeh _);omega
   ·rw[T _ K];exact aex (aen f) (M.fuel i' Y)
  ·by_cases K:i'=0
   ·subst K;rw[B];exact .refl _ _ _
   ·by_cases m:i'=k+1
    ·subst m;rw[F];exact .refl _ _ _
    ·rw[N _ K m];exact(M.A7 i' Y).trans (fX (o i' Y))
  ·rw[I];exact(M.sets.same (i:=0) (n':=n0) rfl rfl).same (i:=k+1) (n':=A) (by rw[upd_ne _ _ (by omega)]) (by rw[upd_ne _ _ (by omega)])
  ·have hF:Q.E.Fd≠Q.ch C k:=fun y=>D.2.1 (y▸Z.rf);have hW:Q.E.Wg≠Q.ch C k:=fun y=>D.2.1 (y▸Z.rw);refine⟨?_,?_,fun y=>?_,fun i' Y hc=>?_,fun i' Y hc=>?_,M.wd.tape,M.wd.out⟩
   ·have:=M.wd.mu;unfold Env.MuAt at this⊢;rw[H _ hF];exact this
   ·have:=M.wd.wg;unfold Env.WgAt at this⊢;rw[H _ hW];exact this
   ·rw[H _ fun y=>D.2.2.1 y.symm];exact M.wd.map y
   ·have:¬i'<aD Q.J C.d:=by rw[hd];exact aep _
    exact absurd (G▸hc) this
   ·by_cases K:i'=k
    ·subst K;exact⟨s+1,by show(w.setChan _ 0 #[] false (s+1) (s+1) false).heap[Q.ch C i']?=_;simp only[aeq];rw[aee W]⟩
    ·obtain⟨s',u⟩:=M.wd.opn i' Y (by rw[hd];exact aep _);refine⟨s',?_⟩;show(w.setChan _ 0 #[] false (s+1) (s+1) false).heap[Q.ch C i']?=_
     rw[H _ fun y=>K (qx h Y hk y)];exact u
  ·have:Q.cls (upd (upd nd 0 n0) (k+1) A) C.j C.L=Q.cls nd C.j C.L:=by
    unfold aU.cls;rw[aU.sC (i:=k+1) (n':=A) (by rw[upd_ne _ _ (by omega)]),aU.sC (i:=0) (n':=n0) rfl]
   show PT Q.b C.j _ _ _ (Q.cls (upd (upd nd 0 n0) (k+1) A) C.j C.L) _ (C.tok.map (Q.b+ ·)) rel
   rw[this];exact M.tr.still l
  ·rw[R,M.deaf0];exact p.symm
  ·rw[R];by_cases K:i'=k
   ·subst K;rw[us,M.fD i' hk (fun q y=>by rw[e]at y;cases y),e];rfl
   ·rw[un i' K]at hq⊢;exact M.fD i' Y hq
  ·rw[R];exact M.above i' Y
  ·rw[M.pj i' Y];by_cases K:i'=k
   ·subst K;rw[us,e];exact Iff.rfl
   ·rw[un i' K]
 refine⟨_,_,_,_,_,sl,_,_,rfl,hC,⟨fun i' pc Y=>?_,fun i' pc Y=>?_,nofun,nofun⟩,M1,.inl f⟩
 ·by_cases K:i'=k
  ·subst K;rw[us]at Y;cases Y
  ·rw[un i' K]at Y;exact z.blk i' pc Y
 ·by_cases K:i'=k
  ·subst K;rw[us]at Y;cases Y
  ·rw[un i' K]at Y;show¬i'<aD Q.J (Q.J.sends C.L (i+1))
   rw[G];exact z.dU i' pc Y
theorem jI{ops:Array MemOp}(h:∀op∈ops,op.act≠.mark .disable/\op.act≠.mark .enable)(g:Nat):Deaf (t++ops) g=Deaf t g:=by
 obtain⟨l⟩:=ops;rw[Deaf_append];have:∀(l:List _) (d:Nat),(∀op∈l,op.act≠.mark .disable/\op.act≠.mark .enable)->l.foldl (deafStep g) d=d:=by
  intro l;induction l with
  |nil=>intro d _;rfl
  |cons a l H=>
   intro d Y;rw[List.foldl_cons];have K:=Y a (by simp);have:deafStep g d a=d:=by
    unfold deafStep;simp_all
   simp_all
 simp_all
theorem aU.MI.Ud(M:Q.MI C nd fu gs w t q rel)(I:Q.Laws)(h:CI Q.J Q.bR C)(H:Calm Q.J C){md:Md}(hk:k<C.j)(e:C.ks k=.at .recv md)(F:k<aD Q.J C.d)(N:∀f,Q.E.Tree Q.P false (Q.WS (Q.ch C k) f .wr) (nd (k+1)).S (nd (k+1)).X gk w)(fn:FuncId)(pos:String):
  Q.lu C nd fu q (crowd (gs.setIfInBounds (Q.b+k) gk) w sl) (t++#[{g:=Q.b+k,fn,pos,act:=.recvClosed (Q.ch C k)}]):=by
 have R:Q.b+k<gs.size:=by rw[M.size];omega
 obtain⟨U,Y⟩:=h.shut I.n8 hk e F;have us:(C.w1 k (.at .wr .run)).ks k=.at .wr .run:=upd_same _ _ _;have D:=jI (t:=t) (ops:=#[({g:=Q.b+k,fn,pos,act:=.recvClosed (Q.ch C k)}:MemOp)]) (bc ⟨nofun,nofun⟩);have A:=M.aK (C':=C.w1 k (.at .wr .run)) (f':=fu (k+1)) (g1:=gk) (w1:=w) (ops:=#[{g:=Q.b+k,fn,pos,act:=.recvClosed (Q.ch C k)}]) (ew:=rel) I hk rfl rfl rfl rfl (fun i B=>upd_ne _ _ B) (by
   rw[us];exact⟨aee R,N _,fun y=>absurd rfl y⟩) (fun S=>.refl _ _ _) rfl (aex (aen Y) (M.fuel (k+1) hk)) (aen Y) rfl (M.wd.cfg rfl rfl rfl rfl rfl (fun e=>⟨e,rfl⟩) rfl rfl rfl)
   (M.tr.still (bc ⟨rfl,nofun,nofun,by show Q.b+k<Q.b+C.j;omega⟩)) (bc rfl) (fun _=>by
   rw[us,D,M.fD k hk (fun q y=>by rw[e]at y;cases y),e];rfl) (by
   rw[us,M.DG hk e];exact⟨(fun⟨p,L⟩=>by cases L),fun y=>y.elim⟩) (fun _ _=>rfl) (bc ⟨(M.sets.A6 _ (gW h.len hk)).1,nofun⟩)
 have K:Calm Q.J (C.w1 k (.at .wr .run)):=ib (s':=.at .wr .run) (k:=k) (m':=C.m) (c':=C.c) (v':=C.v) (dq:=C.wt) (dk:=C.ws) (mG:=C.γ) (mM:=C.dn) (dC:=C.tok) H nofun nofun id fun _ y=>y;exact⟨_,_,_,_,_,sl,_,_,rfl,U,K,A,.inl Y⟩
end
section
variable{Q:aU}{nd:Nat->Nd}{fu:Nat->Nat}{C C':fW Q.E}{w w':World}{gs nf:Array Goroutine}{t t':Trace}{q:Nat->Nat}{rel ew:Nat->Option Nat}{sl:Option (Nat×Nat)}
theorem aU.MI.IU(M:Q.MI C nd fu gs w t q rel)(Y:Q.Laws):0<gs.size:=by rw[M.size];have:=Y.b0;omega
theorem aU.MI.Ue(M:Q.MI C nd fu gs w t q rel)(Y:Q.Laws)(h:CI Q.J Q.bR C)(K:Calm Q.J C)(R:C.dm=.run){g1:Goroutine}{w1:World}{es:Array _}(Z:¬Q.DS (fu 0) C.d (nd 0).S (nd 0).X (nd 0).g (nd 0).w)
  (au:stepG Q.P true (nd 0).g w=.go g1 w1 es)(hd:fj Q.E.U (nd 0).S (nd 0).X w w1 es S1 X1)(G:Tz Q.P true Q.E.U (Q.DS (fu 0) C.d) S1 X1 g1 w1)(fn:FuncId)(pos:String):
  Q.lu C nd fu q (crowd ((gs.map (woken Q.P (nd 0).g g1 w1)).setIfInBounds 0 g1) w1 sl) (t++aef 0 fn pos es):=by
 have A:=M.IU Y;have L:Q.MI C (upd nd 0 ⟨S1,X1,g1,w1⟩) (upd fu 0 (fu 0)) (gs.setIfInBounds 0 g1) w1 (t++aef 0 fn pos es) q rel:=by
  refine M.m0 Y.b0 rfl rfl rfl rfl ?_ (fun i I B=>A9 M.sets (aeh _) I (fun y=>B y.symm) hd) (.refl _ _ _) (M.fuel _ (aeh _)) (aei _) (M.sets.did (aeh _) hd) (M.wd.did M.sets Y h.len (aeh _) hd) ?_ ?_ (fun g V=>Deaf_other t (fun y=>V y.symm) _ fY) (cz M.seen hd.grow (A5 hd (M.sets.low _ (aeh _)) _))
  ·rw[R];exact⟨aee A,G⟩
  ·exact M.PY Y (aeh _) hd fn pos (fun y=>absurd rfl y)
  ·rw[Deaf_own,A4 hd];exact M.deaf0
 obtain⟨F,T,D,H,M2⟩:=aU.MI.finish Y h L (.inl K) K.pa;obtain⟨N,O⟩:=cj T;refine⟨F,_,_,_,_,sl,_,_,rfl,D,H,M2,.inr ⟨N,O,.inl ⟨0,by omega,?_,fun i _ I=>upd_ne _ _ I⟩⟩⟩;exact⟨Z,w,es,M.A7 _ (aeh _),au,hd⟩
theorem NC(Y:Calm Q.J C){d':lp}{v' dq dk:Nat}(K:aD Q.J d'=aD Q.J C.d):Calm Q.J (C.dd d' .run v' dq dk):=
 ⟨Y.blk,fun k pc hk=>by show¬k<aD Q.J d';rw[K];exact Y.dU k pc hk,nofun,nofun⟩
theorem aU.MI.FJ(M:Q.MI C nd fu gs w t q rel)(H:Q.Laws)(h:CI Q.J Q.bR C)(R:Calm Q.J C){d':lp}{v' dq dk f:Nat}{g1:Goroutine}{w1:World}{es:Array _}(W:fu 0=f+1)(Z:Q.E.Tree Q.P true (Q.DS f d') (nd 0).S (nd 0).X g1 w1)
  (G:∀i,i<=C.j->i≠0->az Q.E.U (nd i).S w w1)(F:w1.heap.size=w.heap.size)(O:CI Q.J Q.bR (C.dd d' .run v' dq dk))(A:mu Q.J (C.dd d' .run v' dq dk)<mu Q.J C)(wd:Q.Wd (C.dd d' .run v' dq dk) w1)(fn:FuncId)(pos:String)
  (tr:PT Q.b C.j Q.E.mu Q.E.st Q.cW (Q.cls nd C.j C.L) (t++aef 0 fn pos es) (C.tok.map (Q.b+ ·)) rel)(df:jc d'=deafBehind (jc C.d) es)(low:∀op∈aef 0 fn pos es,Seen w.heap.size op)(D:aD Q.J d'=aD Q.J C.d\/(mayWake Q.P (nd 0).g=true/\(g1.status=.running\/g1.status=.finished))):
  Q.lu C nd fu q (crowd ((gs.map (woken Q.P (nd 0).g g1 w1)).setIfInBounds 0 g1) w1 sl) (t++aef 0 fn pos es):=by
 have I:=M.IU H;have N:Q.MI (C.dd d' .run v' dq dk) (upd nd 0 ⟨(nd 0).S,(nd 0).X,g1,w1⟩) (upd fu 0 f) (gs.setIfInBounds 0 g1) w1 (t++aef 0 fn pos es) q rel:=by
  refine M.m0 (C':=C.dd d' .run v' dq dk) H.b0 rfl rfl rfl rfl ?_ G (.refl _ _ _) (by have:=M.fuel 0 (aeh _);omega) (aen A) (by rw[F];exact M.sets.same rfl rfl) wd ?_ ?_ (fun g V=>Deaf_other t (fun y=>V y.symm) _ fY) (cz M.seen (aeo F.symm) (by simp_all))
  ·exact⟨aee I,Z⟩
  ·unfold aU.cls;rw[aU.sC (n':=⟨(nd 0).S,(nd 0).X,g1,w1⟩) rfl];exact tr
  ·rw[Deaf_own,M.deaf0];exact df.symm
 obtain⟨B,T,K,Y,M2⟩:=aU.MI.finish H O N (D.imp (NC R) id) nofun;exact⟨B,_,_,_,_,sl,_,_,rfl,K,Y,M2,.inl (by rw[(cj (fu:=fu) T).1];omega)⟩
theorem aU.MI.FK(M:Q.MI C nd fu gs w t q rel)(H:Q.Laws)(h:CI Q.J Q.bR C)(K:Calm Q.J C){d':lp}{f:Nat}{g1:Goroutine}{m:Mark}(hm:m=.disable\/m=.enable)(R:fu 0=f+1)(I:Q.E.Tree Q.P true (Q.DS f d') (nd 0).S (nd 0).X g1 w)
  (D:CI Q.J Q.bR (C.dd d' .run C.v C.wt C.ws))(hr:fM Q.J C.v d'<fM Q.J C.v C.d)(fn:FuncId)(pos:String)(df:jc d'=deafBehind (jc C.d) #[⟨.mark m,false,true⟩])(Y:aD Q.J d'=aD Q.J C.d):
  Q.lu C nd fu q (crowd ((gs.map (woken Q.P (nd 0).g g1 w)).setIfInBounds 0 g1) w sl) (t++aef 0 fn pos #[⟨.mark m,false,true⟩]):=
 M.FJ H h K R I (fun _ _ _=>.refl _ _ _) rfl D (Fz hr) (M.wd.cfg rfl rfl rfl rfl rfl (fun e=>⟨e,rfl⟩) rfl rfl Y) fn pos (M.DI (by have:=H.b0;omega) fn pos hm) df (fF (by rcases hm with rfl|rfl<;>exact⟨trivial,nofun⟩)) (.inl Y)
theorem aU.MI.PZ(M:Q.MI C nd fu gs w t q rel)(H:Q.Laws)(h:CI Q.J Q.bR C)(K:Calm Q.J C){d':lp}{f:Nat}{g1:Goroutine}{m:Mark}(hm:m=.read Q.E.sm\/m=.write Q.E.sm)(A:fu 0=f+1)(U:Q.E.Tree Q.P true (Q.DS f d') (nd 0).S (nd 0).X g1 w)
  (R:CI Q.J Q.bR (C.dd d' .run C.v C.wt C.ws))(hr:fM Q.J C.v d'<fM Q.J C.v C.d)(fn:FuncId)(pos:String)(df:jc d'=jc C.d)(Y:aD Q.J d'=aD Q.J C.d):
  Q.lu C nd fu q (crowd ((gs.map (woken Q.P (nd 0).g g1 w)).setIfInBounds 0 g1) w sl) (t++aef 0 fn pos #[⟨.mark m,false,true⟩]):=by
 have I:Q.cls nd C.j C.L (.cell Q.E.sm)=.at:=by
  simp only[fC];rw[if_pos (⟨.inr rfl,by omega⟩)]
 refine M.FJ H h K A U (fun _ _ _=>.refl _ _ _) rfl R (Fz hr) (M.wd.cfg rfl rfl rfl rfl rfl (fun e=>⟨e,rfl⟩) rfl rfl Y) fn pos ?_ ?_ (fF ?_) (.inl Y)
 ·rw[cw];refine M.tr.app (.inl rfl) (bc ?_) fun y=>absurd rfl y;refine⟨rfl,?_,?_,fun x D=>?_⟩
  ·rcases hm with rfl|rfl<;>nofun
  ·rcases hm with rfl|rfl<;>nofun
  ·rcases hm with rfl|rfl<;>simp[aek,aem]at D<;>subst D<;>exact .inr (.inr (.inl ⟨I,rfl,rfl⟩))
 ·rcases hm with rfl|rfl<;>exact df
 ·have:=M.sets.gN _ H.rw;rcases hm with rfl|rfl<;>exact⟨this,nofun⟩
theorem aU.MI.Ba(M:Q.MI C nd fu gs w t q rel)(D:Q.Laws)(h:CI Q.J Q.bR C)(R:Calm Q.J C){d':lp}{v' dq dk f:Nat}{g1:Goroutine}{w1:World}{es:Array _}(A:fu 0=f+1)(U:Q.E.Tree Q.P true (Q.DS f d') (nd 0).S (nd 0).X g1 w1)(he:Env.Eff Q.E.Wg w w1)(H:Q.E.WgAt w1 v' dq dk)(Y:Env.EvA Q.E.Wg es)
  (I:CI Q.J Q.bR (C.dd d' .run v' dq dk))(hr:fM Q.J v' d'<fM Q.J C.v C.d)(fn:FuncId)(pos:String)(df:jc d'=jc C.d)(K:aD Q.J d'=aD Q.J C.d):
  Q.lu C nd fu q (crowd ((gs.map (woken Q.P (nd 0).g g1 w1)).setIfInBounds 0 g1) w1 sl) (t++aef 0 fn pos es):=
 M.FJ D h R A U (fun _ _ _=>y7 _ M.wd.wg H he) he.size I (Fz hr) ((M.wd.gp D M.sets h.len he H).cfg rfl rfl rfl rfl rfl (fun e=>⟨e,rfl⟩) rfl rfl K) fn pos
  (M.tr.app (.inl rfl) (tO Y (.inr rfl) _) fun y=>absurd rfl y) (by rw[pg Y];exact df) (tP Y (M.sets.gN _ D.rw) _) (.inl K)
theorem aU.MI.Rq(M:Q.MI C nd fu gs w t q rel)(O:Q.Laws)(h:CI Q.J Q.bR C)(T:Calm Q.J C){f:Nat}{g1:Goroutine}(hk:k<C.j)(hd:C.d=.close C.L k)(e:eH w (Q.ch C k) s)(hw:mayWake Q.P (nd 0).g=true)(V:g1.status=.running)(o:fu 0=f+1)
  (m:Q.E.Tree Q.P true (Q.DS f (Q.J.closes C.L (k+1))) (nd 0).S (nd 0).X g1 (w.setChan (Q.ch C k) 0 #[] true s s false))(fn:FuncId)(pos:String):
  Q.lu C nd fu q (crowd ((gs.map (woken Q.P (nd 0).g g1 (w.setChan (Q.ch C k) 0 #[] true s s false))).setIfInBounds 0 g1) (w.setChan (Q.ch C k) 0 #[] true s s false) sl) (t++aef 0 fn pos (closeEvents (Q.ch C k))):=by
 have Y:=M.sets.A6 _ (gW h.len hk);have D:=h.A0;rw[hd]at D;have r:C.j=Q.J.n:=D.2.1;have u:k<Q.J.n:=D.2.2;have F:aD Q.J (Q.J.closes C.L (k+1))=k+1:=by
  unfold aey;by_cases y:k+1<C.L.length
  ·rw[if_pos y];rfl
  ·rw[if_neg y];show Q.J.n=k+1
   rw[h.len]at y;omega
 have Uf:aD Q.J C.d=k:=by rw[hd];rfl
 have G:(w.setChan (Q.ch C k) 0 #[] true s s false).heap.size=w.heap.size:=by simp[aeq]
 have K:∀a,a≠Q.ch C k->(w.setChan (Q.ch C k) 0 #[] true s s false).heap[a]?=w.heap[a]?:=fun a l=>by
  simp only[aeq];rw[aev (fun y=>l y.symm)]
 have Z:∀N R,yZ C.d C.v C.wt C.ws N R->yZ (Q.J.closes C.L (k+1)) C.v C.wt C.ws N R:=by
  intro N R z;rw[hd]at z;obtain⟨a1,a2,a3,a4⟩:=z.early id;unfold aey;split<;>exact .inl ⟨a1,a2,a3,a4,id,fun y=>y.elim⟩
 have c:CI Q.J Q.bR (C.dd (Q.J.closes C.L (k+1)) .run C.v C.wt C.ws):=by
  refine h.dd ⟨nofun,nofun,nofun⟩ ?_ ?_ Z (by rw[F,Uf];omega) ?_ (fun v0 R=>by unfold aey at R;split at R<;>cases R)
  ·rw[hd];unfold aey;split<;>rfl
  ·rw[hd];unfold aey;split<;>rfl
  ·unfold aey;split
   ·rename_i y;rw[h.len]at y;exact⟨rfl,D.2.1,by omega⟩
   ·exact D.2.1
 have hr:fM Q.J C.v (Q.J.closes C.L (k+1))<fM Q.J C.v C.d:=by
  rw[hd];unfold aey;split
  ·simp only[fM];omega
  ·simp only[fM];omega
 have hF:Q.E.Fd≠Q.ch C k:=fun y=>Y.2.1 (y▸O.rf);have hW:Q.E.Wg≠Q.ch C k:=fun y=>Y.2.1 (y▸O.rw);have U:Q.cls nd C.j C.L (.obj (Q.ch C k))=.own 0:=A2 Y.2.1 Y.2.2.1 (.inr ⟨rfl,gW h.len hk⟩) fun i' H=>M.sets.uniq H (.inr ⟨rfl,gW h.len hk⟩);refine M.FJ O h T o m (fun i p _=>fX (Y.2.2.2 i p)) G c (Fz hr) ⟨?_,?_,fun y=>?_,fun i' H A=>?_,fun i' H A=>?_,M.wd.tape,M.wd.out⟩ fn pos ?_ ?_ ?_ (.inr ⟨hw,.inl V⟩)
 ·have:=M.wd.mu;unfold Env.MuAt at this⊢;rw[K _ hF];exact this
 ·have:=M.wd.wg;unfold Env.WgAt at this⊢;rw[K _ hW];exact this
 ·rw[K _ fun y=>Y.2.2.1 y.symm];exact M.wd.map y
 ·change i'<aD Q.J (Q.J.closes C.L (k+1))at A;rw[F]at A;by_cases W:i'=k
  ·subst W;refine⟨s,?_⟩;show(w.setChan _ 0 #[] true s s false).heap[Q.ch C i']?=_
   simp only[aeq];rw[aee Y.1]
  ·obtain⟨s',I⟩:=M.wd.shut i' H (by rw[Uf];omega);refine⟨s',?_⟩;show(w.setChan _ 0 #[] true s s false).heap[Q.ch C i']?=_
   rw[K _ fun y=>W (qx h H hk y)];exact I
 ·change¬i'<aD Q.J (Q.J.closes C.L (k+1))at A;rw[F]at A;obtain⟨s',I⟩:=M.wd.opn i' H (by rw[Uf];omega);refine⟨s',?_⟩;show(w.setChan _ 0 #[] true s s false).heap[Q.ch C i']?=_
  rw[K _ fun y=>by have:=qx h H hk y;omega];exact I
 ·refine M.tr.app (g:=0) (.inl rfl) (fun op aM=>?_) fun y=>absurd rfl y;obtain⟨ev,he,rfl⟩:=di aM;simp only[closeEvents,aer,aew,aes,or_false]at he;rcases he with rfl|rfl
  ·refine⟨rfl,nofun,nofun,fun x B=>?_⟩;simp only[aej,aek,aem]at B;subst B;exact .inr (.inr (.inr (.inr (.inr U))))
  ·exact⟨rfl,nofun,nofun,fun x B=>by simp[aej,aek]at B⟩
 ·rw[hd];have:deafBehind 0 (closeEvents (Q.ch C k))=0:=by simp[closeEvents,deafBehind]
  show jc (Q.J.closes C.L (k+1))=deafBehind 0 _
  rw[this];unfold aey;split<;>rfl
 ·intro op aM;obtain⟨ev,he,rfl⟩:=di aM;simp only[closeEvents,aer,aew,aes,or_false]at he;rcases he with rfl|rfl
  ·exact⟨Y.1,nofun⟩
  ·exact⟨Y.1,nofun⟩
theorem Ug{s s':cm Q.E}(hk:k<Q.J.n)(e:C.ks k=s)(H:zP s'=zP s)(hr:FH s'<FH s):Q.nu (C.w1 k s') q<Q.nu C q:=by
 have Y:=iH (s':=s') zP _ hk e;have K:=iH (s':=s') FH _ hk e;show 10 *(sumTo Q.b q+sumTo _ (fun i=>zP (upd _ k s' i)))+(FG C.dm+sumTo _ (fun i=>FH (upd _ k s' i)))<10 *(sumTo Q.b q+sumTo _ _)+(FG _+sumTo _ _)
 omega
theorem Uh{pc:Q.E.pX}{md mN:Md}(e:C.ks k=.at pc md):Q.Df (C.w1 k (.at pc mN)) fu=Q.Df C fu:=by
 funext i;cases i with
 |zero=>rfl
 |succ i=>
  show(match upd C.ks k _ i with|.at pc _=>Q.WS (Q.ch C i) _ pc|_=>fun _ _ _ _=>True)=(match C.ks i with|.at pc _=>Q.WS (Q.ch C i) _ pc|_=>fun _ _ _ _=>True)
  by_cases Y:i=k
  ·subst Y;rw[upd_same,e]
  ·rw[upd_ne _ _ Y]
theorem aU.MI.P0(M:Q.MI C nd fu gs w t q rel)(T:Q.Laws)(h:CI Q.J Q.bR C)(D:Calm Q.J C){pc:Q.E.pX}{mN:Md}(hk:k<C.j)(e:C.ks k=.at pc .run)(au:Q.WS (Q.ch C k) (fu (k+1)) pc (nd (k+1)).S (nd (k+1)).X (nd (k+1)).g (nd (k+1)).w)
  (K:(mN=.blk/\(∃sv x,pc=.lk (.s1 sv) x)/\C.c=0)\/(mN=.dU/\pc=.recv/\¬k<aD Q.J C.d/\∀i,C.dm=.dU->C.d=.send C.L i->i%Q.J.n≠k)):
  Q.lu C nd fu q (crowd (gs.setIfInBounds (Q.b+k) (Kh (Q.ch C k) Q.E.zc mN (nd (k+1)).g)) w sl) (t++#[]):=by
 have N:Q.b+k<gs.size:=by rw[M.size];omega
 have B:k<Q.J.n:=aeg hk h.jn;have P:CI Q.J Q.bR (C.w1 k (.at pc mN)):=by
  refine h.quiet hk e rfl (fun y=>rfl) (fun γ y=>?_) (fun γ y=>?_) ?_ (fun y=>?_) (fun p x y=>h.IQ k p x .run (by rw[e,y])) (fun p y=>h.Dv k p .run (by rw[e,y]))
  ·simp_all
  ·simp_all
  ·rcases K with⟨rfl,I,_⟩|⟨rfl,rfl,_⟩
   ·simp_all
   ·simp
  ·rcases K with⟨rfl,⟨sv,x,rfl⟩,_⟩|⟨rfl,rfl,_⟩<;>exact y.elim
 have F:mu Q.J (C.w1 k (.at pc mN))=mu Q.J C:=FD B e rfl rfl;have us:(C.w1 k (.at pc mN)).ks k=.at pc mN:=upd_same _ _ _;have un:∀i,i≠k->(C.w1 k (.at pc mN)).ks i=C.ks i:=fun i Y=>upd_ne _ _ Y;have O:=M.Ua (C':=C.w1 k (.at pc mN)) (w1:=w) (ops:=#[]) (ew:=rel) T hk rfl rfl rfl rfl un (by
   rw[us];exact⟨aee N,.stop au,fun _=>au⟩) (fun S=>.refl _ _ _) rfl (aeo F) rfl (M.wd.cfg rfl rfl rfl rfl rfl (fun e=>⟨e,rfl⟩) rfl rfl rfl)
   (by exact M.tr) (by simp) (fun _=>by
   rw[us,aeH,M.fD k hk (fun q y=>by rw[e]at y;cases y),e];rfl) (by
   rw[us,M.pj k hk,e];exact Iff.rfl) (fun _ _=>rfl) (by simp)
 have A:Calm Q.J (C.w1 k (.at pc mN)):=by
  refine⟨fun i H Y=>?_,fun i H Y=>?_,D.Ri,fun i hd U H Y=>?_⟩
  ·by_cases R:i=k
   ·subst R;rcases K with⟨_,_,I⟩|⟨rfl,_⟩
    ·exact I
    ·rw[us]at Y;cases Y
   ·rw[un i R]at Y;exact D.blk i H Y
  ·by_cases R:i=k
   ·subst R;rcases K with⟨rfl,_⟩|⟨_,_,I,_⟩
    ·rw[us]at Y;cases Y
    ·exact I
   ·rw[un i R]at Y;exact D.dU i H Y
  ·by_cases R:i%Q.J.n=k
   ·rcases K with⟨rfl,_⟩|⟨_,_,_,I⟩
    ·simp_all
    ·exact I i hd U R
   ·rw[un _ R]at Y;exact D.pa i hd U H Y
 refine⟨_,_,_,_,_,sl,_,_,rfl,P,A,O,.inr ⟨F,Uh e,.inr ⟨rfl,Ug B e rfl ?_⟩⟩⟩;rcases K with⟨rfl,_⟩|⟨rfl,_⟩<;>exact Nat.zero_lt_one
theorem aU.MI.P1(M:Q.MI C nd fu gs w t q rel)(N:Q.Laws)(h:CI Q.J Q.bR C)(H:Calm Q.J C){mN:Md}{g1:Goroutine}(I:C.dm=.run)(A:Q.Dy (gs.setIfInBounds 0 g1) (nd 0) (fu 0) C.L C.d mN)
  (Y:(mN=.blk/\C.d=.w3/\C.ws=0)\/(mN=.dU/\∃i,C.d=.send C.L i/\∀pc,C.ks (i%Q.J.n)≠.at pc .dU)):
  Q.lu C nd fu q (crowd (gs.setIfInBounds 0 g1) w sl) (t++#[]):=by
 have B:CI Q.J Q.bR (C.dd C.d mN C.v C.wt C.ws):=by
  refine h.dd ?_ rfl rfl (fun _ _ y=>y) (aei _) h.A0 h.w2;rcases Y with⟨rfl,K,_⟩|⟨rfl,i,K,_⟩
  ·simp_all
  ·simp_all
 have R:mu Q.J _=mu Q.J C:=rfl;have U:=M.m0 (C':=C.dd C.d mN C.v _ _) (t':=t++#[]) N.b0 rfl rfl rfl rfl A (fun _ _ _=>.refl _ _ _) (M.A7 0 (aeh _)) (M.fuel 0 (aeh _)) (aeo R) (by rw[fE];exact M.sets) (M.wd.cfg rfl rfl rfl rfl rfl (fun e=>⟨e,rfl⟩) rfl rfl rfl)
  (by rw[fE,aeH];exact M.tr) (by exact M.deaf0) (fun g _=>by simp) (by exact M.seen)
 rw[fE,fE]at U;have D:Calm Q.J (C.dd C.d mN C.v C.wt C.ws):=by
  refine⟨H.blk,H.dU,fun y=>?_,fun i y hd=>?_⟩
  ·rcases Y with⟨_,_,K⟩|⟨rfl,_⟩
   ·exact K
   ·cases y
  ·rcases Y with⟨rfl,_⟩|⟨_,i',K,F⟩
   ·cases y
   ·rw[K]at hd;cases hd;exact F
 refine⟨_,_,_,_,_,sl,_,_,rfl,B,D,U,.inr ⟨R,rfl,.inr ⟨rfl,?_⟩⟩⟩;show 10 *(sumTo Q.b q+sumTo _ (fun k=>zP (C.ks k)))+(FG mN+sumTo _ (fun k=>FH (C.ks k)))<10 *(sumTo Q.b q+sumTo _ _)+(FG _+sumTo _ _)
 rw[I];have P:FG .run=1:=rfl;have O:FG mN=0:=by rcases Y with⟨rfl,_⟩|⟨rfl,_⟩<;>rfl
 omega
theorem aU.MI.ND(M:Q.MI C nd fu gs w t q rel)(N:Q.Laws)(h:CI Q.J Q.bR C)(I:Calm Q.J C)(p:0<i)(O:i<Q.b)(T:q i=n+1){g g1:Goroutine}(K:∀e∈es,e.mute=true)(V:QuitsD Q.P n (deafBehind (Deaf t i) es) g1)(fn:FuncId)(pos:String):
  Q.lu C nd fu q (crowd ((gs.map (woken Q.P g g1 w)).setIfInBounds i g1) w sl) (t++aef i fn pos es):=by
 have hb:=N.b0;have L:i<gs.size:=by rw[M.size];omega
 have Y:∀g,g≠i->Deaf (t++aef i fn pos es) g=Deaf t g:=fun g R=>Deaf_other t (fun y=>R y.symm) _ fY;have Z:Q.MI C nd fu (gs.setIfInBounds i g1) w (t++aef i fn pos es) (upd q i n) rel:=by
  refine⟨by simp[M.size],M.g0.keep (bk (by omega)),fun k hk=>(M.wk k hk).keep (bk (by omega)) (Y _ (by omega)),fun i' d H U R=>?_,M.fuel,M.A7,M.sets,M.wd,?_,?_,fun k hk T=>by rw[Y _ (by omega)];exact M.fD k hk T,fun i' H=>by rw[Y _ (by omega)];exact M.above i' H,M.pj,M.A8,cz M.seen (aei _) fun op aM=>by
   obtain⟨ev,he,rfl⟩:=di aM;exact⟨low_mute (K ev he) _,fun a=>tQ (K ev he) a⟩⟩
  ·by_cases B:i'=i
   ·subst B;rw[aee L]at R;obtain rfl:=Option.some.inj R;rw[upd_same,Deaf_own];exact V
   ·rw[bk (fun y=>B y.symm)]at R;rw[upd_ne _ _ B,Y _ B];exact M.old i' d H U R
  ·refine M.tr.still fun op aM=>?_;obtain⟨ev,he,rfl⟩:=di aM;refine⟨touch_mute (K ev he),?_,?_,by show i<Q.b+C.j;omega⟩
   ·intro y;have:=K ev he;obtain⟨loc,wr,l⟩:=ev;cases loc<;>simp_all[Event.mute,aej]
   ·intro y;have:=K ev he;obtain⟨loc,wr,l⟩:=ev;cases loc<;>simp_all[Event.mute,aej]
  ·rw[Y 0 (by omega)];exact M.deaf0
 obtain⟨D,S,F,A,M2⟩:=aU.MI.finish (g:=g) N h Z (.inl I) I.pa;obtain⟨G,W⟩:=cj (fu:=fu) S;refine⟨D,_,_,_,_,sl,_,_,rfl,F,A,M2,.inr ⟨G,W,.inr ⟨rfl,?_⟩⟩⟩;have X:sumTo Q.b (upd q i n)+(n+1)=sumTo Q.b q+n:=by
  have:=sumTo_upd q n id O;simpa[T]using this
 have z:sumTo Q.J.n (fun i=>zP (D.ks i))=sumTo Q.J.n (fun i=>zP (C.ks i)):=by
  rcases S with rfl|rfl
  ·rfl
  ·exact sumTo_congr fun i _=>iI zP (fun _ _ _=>rfl) _ _
 have o:FG D.dm+sumTo Q.J.n (fun i=>FH (D.ks i))<=9:=by
  have r1:∀m:Md,FG m<=1:=fun m=>by cases m<;>simp[FG]
  have r2:∀s:cm Q.E,FH s<=1:=fun s=>by cases s<;>simp[FH,r1]
  have:=sumTo_le (f:=fun i=>FH (D.ks i)) (c:=1) (j:=Q.J.n) fun i _=>r2 _;have:=r1 D.dm;have:=N.n8;omega
 unfold aU.nu;rw[z];omega
end
section
variable{Q:aU}{nd:Nat->Nd}{fu:Nat->Nat}{C C':fW Q.E}{w w':World}{gs nf:Array Goroutine}{t t':Trace}{q:Nat->Nat}{rel ew:Nat->Option Nat}{sl:Option (Nat×Nat)}
theorem pn(c f:Nat):Q.WS c f .recv=Q.A c:=by
 cases f<;>rfl
theorem Ko(h:CI Q.J Q.bR C){c:Nat}(hk:k<C.j):(C.L++[c]).getD k 0=Q.ch C k:=by
 unfold aU.ch;rw[ael,ael,List.getElem?_append_left (by rw[h.len];exact hk)]
theorem Kq(h:CI Q.J Q.bR C){c:Nat}:(C.L++[c]).getD C.j 0=c:=by
 rw[ael,List.getElem?_append_right (by rw[h.len];omega),h.len];simp
theorem aU.MI.Rr(M:Q.MI C nd fu gs w t q rel)(r:Q.Laws)(h:CI Q.J Q.bR C)(hcm:Calm Q.J C){c f:Nat}{g1 child:Goroutine}(hd:C.d=.go C.L c)(hf:fu 0=f+1)(T:(nd 0).S c)(u:(nd 0).X c)(YX:eH w c 0)(n:Q.o_ c child w)
  (ht:Q.E.Tree Q.P true (Q.DS f (Q.J.bK (C.L++[c]))) (fun a=>(nd 0).S a/\a≠c) (fun a=>(nd 0).X a/\a≠c) g1 w)(fn:FuncId)(pos:String)(iU:FuncId)(pos':String):
  Q.lu C nd fu q (crowd ((gs.setIfInBounds 0 g1).push child) w sl) (t++#[{g:=0,fn,pos,act:=.go (Q.b+C.j)}]++#[{g:=Q.b+C.j,fn:=iU,pos:=pos',act:=.start}]):=by
 have hb:=r.b0;have Rs:=M.IU r;have hcL:c∉C.L:=fun y=>(M.sets.A6 c y).2.2.2 0 (aeh _) T;have G:¬Q.RO c:=fun y=>M.sets.xJ 0 (aeh _) c y u;have hcM:c≠Q.E.Mp:=fun y=>by
  rw[y]at T;obtain⟨k,e,_⟩:=M.sets.mp 0 (aeh _) T;cases e
 have m:=M.sets.low 0 (aeh _) c T;obtain⟨hC,hrk⟩:=h.spawn r.n0 r.n8 hd hcL;have YY:mu Q.J (C.spawn Q.J c)<mu Q.J C:=Dx r.n8 (show(C.spawn Q.J c).c<=1 from h.c1) hrk;have us:(C.spawn Q.J c).ks C.j=.at .recv .run:=upd_same _ _ _;have un:∀i,i≠C.j->(C.spawn Q.J c).ks i=C.ks i:=fun i D=>upd_ne _ _ D
 let n0:Nd:=⟨fun a=>(nd 0).S a/\a≠c,fun a=>(nd 0).X a/\a≠c,g1,w⟩
 let N:Nd:=⟨Q.RO,fun _=>False,child,w⟩
 have W:upd (upd nd 0 n0) (C.j+1) N 0=n0:=by rw[upd_ne _ _ (by omega),upd_same]
 have l:upd (upd nd 0 n0) (C.j+1) N (C.j+1)=N:=upd_same _ _ _;have o:∀i,i≠0->i≠C.j+1->upd (upd nd 0 n0) (C.j+1) N i=nd i:=fun i Y H=>by rw[upd_ne _ _ H,upd_ne _ _ Y]
 have f0:upd (upd fu 0 f) (C.j+1) (mu Q.J C) 0=f:=by rw[upd_ne _ _ (by omega),upd_same]
 have fk:upd (upd fu 0 f) (C.j+1) (mu Q.J C) (C.j+1)=mu Q.J C:=upd_same _ _ _;have fo:∀i,i≠0->i≠C.j+1->upd (upd fu 0 f) (C.j+1) (mu Q.J C) i=fu i:=fun i Y H=>by rw[upd_ne _ _ H,upd_ne _ _ Y]
 have cN:aD Q.J (Q.J.bK (C.L++[c]))=0:=by
  rcases e9 (J:=Q.J) (L:=C.L++[c])with⟨_,e⟩|⟨_,_,e⟩|⟨_,_,e⟩<;>rw[e]<;>rfl
 have dN:jc (Q.J.bK (C.L++[c]))=0:=by
  rcases e9 (J:=Q.J) (L:=C.L++[c])with⟨_,e⟩|⟨_,_,e⟩|⟨_,_,e⟩<;>rw[e]<;>rfl
 have B:∀g,Deaf (t++#[({g:=0,fn,pos,act:=.go (Q.b+C.j)}:MemOp)]++#[{g:=Q.b+C.j,fn:=iU,pos:=pos',act:=.start}]) g=Deaf t g:=fun g=>by
  rw[jI (ops:=#[({g:=Q.b+C.j,fn:=iU,pos:=pos',act:=.start}:MemOp)]) (bc ⟨nofun,nofun⟩),jI (ops:=#[({g:=0,fn,pos,act:=.go (Q.b+C.j)}:MemOp)]) (bc ⟨nofun,nofun⟩)]
 have O:(gs.setIfInBounds 0 g1).size=Q.b+C.j:=by simp[M.size]
 have gp:∀i,i≠0->i≠Q.b+C.j->((gs.setIfInBounds 0 g1).push child)[i]?=gs[i]?:=fun i Y H=>by
  rw[aeB,if_neg (by rw[O];exact H),bk (fun y=>Y y.symm)]
 have M1:Q.MI (C.spawn Q.J c) (upd (upd nd 0 n0) (C.j+1) N) (upd (upd fu 0 f) (C.j+1) (mu Q.J C)) ((gs.setIfInBounds 0 g1).push child) w (t++#[{g:=0,fn,pos,act:=.go (Q.b+C.j)}]++#[{g:=Q.b+C.j,fn:=iU,pos:=pos',act:=.start}]) q rel:=by
  refine⟨?_,?_,fun k hk=>?_,fun i g D hib hg=>?_,fun i D=>?_,fun i D=>?_,?_,?_,?_,?_,fun k hk hq=>?_,fun i D=>?_,fun k hk=>?_,fun k hk=>?_,?_⟩
  ·rw[Array.size_push,O];rfl
  ·rw[W,f0];refine⟨?_,ht⟩;rw[aeB,if_neg (by rw[O];omega),aee Rs]
  ·have V:k<C.j+1:=hk;by_cases R:k=C.j
   ·subst R;rw[l,fk,us];refine⟨?_,?_,fun y=>absurd rfl y⟩
    ·rw[aeB,if_pos (by rw[O])];rfl
    ·rw[pn];show Tz Q.P false Q.E.U (Q.A ((C.L++[c]).getD C.j 0)) _ _ _ _
     rw[Kq h];exact r.Xh n
   ·rw[o _ (by omega) (by omega),fo _ (by omega) (by omega),un k R];show Q.Nv ((C.L++[c]).getD k 0) _ _ _ _ _ _
    rw[Ko h (by omega)];exact(M.wk k (by omega)).keep (gp _ (by omega) (by omega)) (B _)
  ·rw[gp i (by omega) (by omega)]at hg;rw[B];exact M.old i g D hib hg
  ·have I:i<=C.j+1:=D;by_cases Y:i=0
   ·subst Y;rw[f0];have:=M.fuel 0 (aeh _);omega
   ·by_cases H:i=C.j+1
    ·subst H;rw[fk];omega
    ·rw[fo i Y H];have:=M.fuel i (by omega);omega
  ·have I:i<=C.j+1:=D;by_cases Y:i=0
   ·subst Y;rw[W];exact .refl _ _ _
   ·by_cases H:i=C.j+1
    ·subst H;rw[l];exact .refl _ _ _
    ·rw[o i Y H];exact M.A7 i (by omega)
  ·
   have S':∀i a,i<=C.j+1->(upd (upd nd 0 n0) (C.j+1) N i).S a->(i<=C.j/\(nd i).S a/\(i=0->a≠c))\/(i=C.j+1/\Q.RO a):=by
    intro i a D K;by_cases Y:i=0
    ·subst Y;rw[W]at K;exact .inl ⟨aeh _,K.1,fun _=>K.2⟩
    ·by_cases H:i=C.j+1
     ·subst H;rw[l]at K;exact .inr ⟨rfl,K⟩
     ·rw[o i Y H]at K;exact .inl ⟨by omega,K,fun y=>absurd y Y⟩
   have X':∀i a,i<=C.j+1->(upd (upd nd 0 n0) (C.j+1) N i).X a->i<=C.j/\(nd i).X a/\(i=0->a≠c):=by
    intro i a D K;by_cases Y:i=0
    ·subst Y;rw[W]at K;exact⟨aeh _,K.1,fun _=>K.2⟩
    ·by_cases H:i=C.j+1
     ·subst H;rw[l]at K;exact K.elim
     ·rw[o i Y H]at K;exact⟨by omega,K,fun y=>absurd y Y⟩
   refine⟨fun i i' D I jJ a F K=>?_,fun i D a K=>?_,fun i D a K=>?_,fun i D a hr F=>?_,fun i D a F=>?_,fun i D K=>?_,M.sets.gN,M.sets.Nw,fun c' hc'=>?_⟩
   ·obtain⟨a1,a2,_⟩:=X' i a D F;rcases S' i' a I K with⟨b1,b2,_⟩|⟨_,b2⟩
    ·exact M.sets.Dz i i' a1 b1 jJ a a2 b2
    ·exact M.sets.xJ i a1 a b2 a2
   ·rcases S' i a D K with⟨b1,b2,_⟩|⟨_,b2⟩
    ·exact M.sets.low i b1 a b2
    ·exact M.sets.gN a b2
   ·by_cases Y:i=0
    ·subst Y;rw[W]at K⊢;exact(M.sets.sub 0 (aeh _) a K.1).imp id fun y=>⟨y,K.2⟩
    ·by_cases H:i=C.j+1
     ·subst H;rw[l]at K;exact .inl K
     ·have I:i<=C.j+1:=D;rw[o i Y H]at K⊢;exact M.sets.sub i (by omega) a K
   ·obtain⟨a1,a2,_⟩:=X' i a D F;exact M.sets.xJ i a1 a hr a2
   ·by_cases Y:i=0
    ·subst Y;rw[W]at F⊢;exact⟨M.sets.xs 0 (aeh _) a F.1,F.2⟩
    ·by_cases H:i=C.j+1
     ·subst H;rw[l]at F;exact F.elim
     ·have I:i<=C.j+1:=D;rw[o i Y H]at F⊢;exact M.sets.xs i (by omega) a F
   ·rcases S' i _ D K with⟨b1,b2,_⟩|⟨_,b2⟩
    ·exact M.sets.mp i b1 b2
    ·exact absurd b2 r.rm
   ·have hm:c'∈C.L\/c'=c:=by simpa using(show c'∈C.L++[c]from hc')
    rcases hm with y|rfl
    ·obtain⟨Y,H,h3,h4⟩:=M.sets.A6 c' y;refine⟨Y,H,h3,fun i D K=>?_⟩;rcases S' i c' D K with⟨b1,b2,_⟩|⟨_,b2⟩
     ·exact h4 i b1 b2
     ·exact H b2
    ·refine⟨m,G,hcM,fun i D K=>?_⟩;rcases S' i c' D K with⟨b1,b2,b3⟩|⟨_,b2⟩
     ·by_cases Y:i=0
      ·exact b3 Y rfl
      ·exact M.sets.Dz 0 i (aeh _) b1 (fun y=>Y y.symm) c' u b2
     ·exact G b2
  ·refine⟨M.wd.mu,M.wd.wg,M.wd.map,fun k hk Z=>?_,fun k hk Z=>?_,M.wd.tape,M.wd.out⟩
   ·change k<aD Q.J (Q.J.bK (C.L++[c]))at Z;rw[cN]at Z;exact absurd Z (aep _)
   ·have V:k<C.j+1:=hk;by_cases R:k=C.j
    ·subst R;exact⟨0,by show eH w ((C.L++[c]).getD C.j 0) 0;rw[Kq h];exact YX⟩
    ·obtain⟨s,K⟩:=M.wd.opn k (by omega) (by rw[hd];exact aep _);exact⟨s,by show eH w ((C.L++[c]).getD k 0) s;rw[Ko h (by omega)];exact K⟩
  ·have x:Q.cls (upd (upd nd 0 n0) (C.j+1) N) (C.j+1) (C.L++[c])=Q.cls nd C.j C.L:=by
    have:aU.nc (upd (upd nd 0 n0) (C.j+1) N) (C.j+1) (C.L++[c])=aU.nc nd C.j C.L:=by
     funext i a;apply propext;unfold aU.nc;by_cases Y:i=0
     ·subst Y;rw[W];constructor
      ·rintro(⟨_,y⟩|⟨_,y⟩)
       ·exact .inl ⟨aeh _,y.1⟩
       ·have hm:a∈C.L\/a=c:=by simpa using y
        rcases hm with y|rfl
        ·exact .inr ⟨rfl,y⟩
        ·exact .inl ⟨aeh _,u⟩
      ·rintro(⟨_,y⟩|⟨_,y⟩)
       ·by_cases v:a=c
        ·exact .inr ⟨rfl,by simp[v]⟩
        ·exact .inl ⟨aeh _,y,v⟩
       ·exact .inr ⟨rfl,by simp[y]⟩
     ·by_cases H:i=C.j+1
      ·subst H;rw[l];exact⟨fun y=>y.elim (fun z=>z.2.elim) fun z=>absurd z.1 Y,fun y=>y.elim (fun z=>by omega) fun z=>absurd z.1 Y⟩
      ·rw[o i Y H];exact⟨fun y=>y.imp (fun z=>⟨by omega,z.2⟩) fun z=>absurd z.1 Y,fun y=>y.imp (fun z=>⟨by omega,z.2⟩) fun z=>absurd z.1 Y⟩
    unfold aU.cls;rw[this]
   show PT Q.b (C.j+1) Q.E.mu Q.E.st Q.cW (Q.cls (upd (upd nd 0 n0) (C.j+1) N) (C.j+1) (C.L++[c])) _ (C.tok.map (Q.b+ ·)) rel
   rw[x];exact M.tr.fork (by rw[M.deaf0,hd];rfl) (M.above _ (aei _))
  ·rw[B,M.deaf0,hd];exact dN.symm
  ·have V:k<C.j+1:=hk;rw[B];by_cases R:k=C.j
   ·subst R;rw[us,M.above _ (aei _)];rfl
   ·rw[un k R]at hq⊢;exact M.fD k (by omega) hq
  ·have I:Q.b+(C.j+1)<=i:=D;rw[B];exact M.above i (by omega)
  ·have V:k<C.j+1:=hk;by_cases R:k=C.j
   ·subst R;rw[us,M.A8 _ (aei _)];exact⟨(fun⟨p,hp⟩=>by cases hp),fun y=>y.elim⟩
   ·rw[un k R];exact M.pj k (by omega)
  ·have V:C.j+1<=k:=hk;exact M.A8 k (by omega)
  ·exact cz (w:=w) (cz M.seen (aei _) (bc ⟨trivial,nofun⟩)) (aei _) (bc ⟨trivial,nofun⟩)
 refine⟨_,_,_,_,_,sl,_,_,rfl,hC,⟨fun k pc hk=>?_,fun k pc hk Z=>?_,nofun,nofun⟩,M1,.inl YY⟩
 ·by_cases R:k=C.j
  ·subst R;rw[us]at hk;cases hk
  ·rw[un k R]at hk;exact hcm.blk k pc hk
 ·change k<aD Q.J (Q.J.bK (C.L++[c]))at Z;rw[cN]at Z;exact absurd Z (aep _)
def aU.tR(Q:aU)(m:Machine)(t:Trace):=∃gs w sl q S X g,∃dn:List Nat,m=crowd gs w sl/\gs[0]?=some g/\Q.Fin S X g w/\Leavers Q.P t gs q/\Past Q.cW w.heap.size t/\Q.E.eZ (dn.foldl Q.E.upd Q.bR) (w.heap[Q.E.Mp]?)/\dn.Perm Q.J.ao/\Q.E.MuAt w Word.zero 0/\Q.E.WgAt w 0 0 0/\w.tape=Q.w0.tape/\w.output=Q.w0.output/\(∀a,S a->a<w.heap.size)/\¬S Q.E.Mp/\Q.E.Mp<w.heap.size/\(∀op∈t,Seen w.heap.size op)
theorem cE(f:PC->Nat)(Y:f .out=0):∀n,Lock.dP f (fun _=>.out) n=0
 |0=>rfl
 |n+1=>by rw[Lock.dP,cE f Y n,Y]
theorem Hn{m:Word}{c:Nat}(h:Lock.Inv (fun _=>.out) n m c):m=Word.zero/\c=0:=by
 have H:=h.held;rw[cE _ rfl]at H;have B:m.L=false:=by
  cases e:m.L with
  |false=>rfl
  |true=>rw[e]at H;cases H
 cases D:m.S with
 |true=>
  obtain⟨_,_,_,_,A,C⟩:=h.hard D;rw[cE _ rfl,cE _ rfl,cE _ rfl]at A;omega
 |false=>
  obtain⟨Y,I,_⟩:=h.calm D;rw[cE _ rfl,cE _ rfl,cE _ rfl]at Y;rw[cE _ rfl,cE _ rfl]at I;have R:c=0:=by omega
  have hW:m.W=0:=by omega
  have U:m.K=false:=by
   cases e:m.K with
   |false=>rfl
   |true=>
    rw[e,R]at Y;cases Y
  obtain⟨l,k,s,wn⟩:=m;subst B D hW U;exact⟨rfl,R⟩
theorem FL{f:Nat->Nat}(K:∀i,f i<=1)(Y:∀i,j<=i->f i=0)(U:j<=n)(hk:k<j)(A:f k=0):sumTo n f+1<=j:=by
 have D:∀n,j<=n->sumTo n f=sumTo j f:=by
  intro n;induction n with
  |zero=>intro h;omega
  |succ n H=>
   intro h;by_cases e:j=n+1
   ·rw[e]
   ·rw[sumTo,H (by omega),Y n (by omega)];rfl
 have R:=sumTo_upd f 1 id hk;have I:=sumTo_le (f:=fun a=>id (upd f k 1 a)) (c:=1) (j:=j) fun i _=>by
  by_cases e:i=k
  ·subst e;rw[upd_same];simp_all
  ·rw[upd_ne _ _ e];exact K i
 simp_all
theorem CI.over(h:CI Q.J Q.bR C)(R:xG C.d)(hk:k<C.j):∃n,C.ks k=.qt n:=by
 have U:C.v=0/\sumTo Q.J.n (fun k=>kh (C.ks k))=0/\sumTo Q.J.n (fun k=>kY (C.ks k))=0:=by
  rcases h.ph with⟨_,_,a,b,_,c⟩|⟨y,_⟩
  ·simp_all
  ·revert y R;cases C.d<;>intro a b<;>first|exact a.elim|exact b.elim
 have A:=h.Fv;have Y:=aeg hk h.jn;have D:=le_sumTo (f:=fun k=>kh (C.ks k)) Y;have H:=le_sumTo (f:=fun k=>kY (C.ks k)) Y;have hd:qs (C.ks k)≠0:=by
  intro y;have:=FL (f:=fun k=>qs (C.ks k)) (fun i=>by
   cases C.ks i<;>simp only[qs]<;>(try split)<;>omega) (fun i K=>by rw[h.no i K];rfl) h.jn hk y
  omega
 cases e:C.ks k with
 |no=>exact absurd e (h.yes k hk)
 |«at» pc md=>rw[e]at hd;exact absurd rfl hd
 |cX i n=>
  rw[e]at hd;simp[e]at D H;by_cases K:i<=2
  ·by_cases I:i=0
   ·subst I;have:kY (cm.cX 0 n:cm Q.E)=1:=rfl;omega
   ·have:kh (cm.cX i n:cm Q.E)=1:=by
     show(if i=1\/i=2 then 1 else 0)=1
     rw[if_pos (by omega)]
    omega
  ·exact absurd (by show(if i<=2 then 1 else 0)=0;simp_all) hd
 |qt n=>exact⟨n,rfl⟩
theorem aU.MI.final(M:Q.MI C nd fu gs w t q rel)(A:Q.Laws)(h:CI Q.J Q.bR C)(hd:C.d=.aq){g g1:Goroutine}(hF:Q.Fin (nd 0).S (nd 0).X g1 w)(fn:FuncId)(pos:String):
  Q.tR (crowd ((gs.map (woken Q.P g g1 w)).setIfInBounds 0 g1) w sl) (t++aef 0 fn pos #[⟨.mark (.acquire Q.E.st),false,true⟩]):=by
 have hb:=A.b0;have L:=M.IU A;have late:xG C.d:=by rw[hd];trivial
 have I:∀k,k<C.j->∃n,C.ks k=.qt n:=fun k hk=>h.over late hk;have T:∀k,iG (C.ks k)=.out:=fun k=>by
  by_cases hk:k<C.j
  ·obtain⟨n,e⟩:=I k hk;rw[e];rfl
  ·rw[h.no k (by omega)];rfl
 have W:C.m=Word.zero/\C.c=0:=by
  have:=h.lock;rw[funext T]at this;exact Hn this
 have N:C.v=0/\C.wt=0/\C.ws=0:=by
  rcases h.ph with⟨a,b,_,_,_,c⟩|⟨y,_⟩
  ·exact⟨c late,a,b⟩
  ·rw[hd]at y;exact y.elim
 have R:C.tok=none:=by
  cases e:C.tok with
  |none=>rfl
  |some k=>
   obtain⟨md,e'⟩:=h.tK k e;have hk:k<C.j:=aeJ fun y=>by rw[h.no k y]at e';cases e'
   obtain⟨n,l⟩:=I k hk;rw[l]at e';cases e'
 have H:∀k,Q.b<=k->k<Q.b+C.j->∃p,rel k=some p:=by
  intro k V U;obtain⟨k',rfl⟩:∃k',k=Q.b+k':=⟨k-Q.b,by omega⟩;refine(M.pj k' (by omega)).2 ?_;obtain⟨n,e⟩:=I k' (by omega);rw[e];trivial
 have B:Deaf t 0=0:=by rw[M.deaf0,hd];rfl
 have K:∀g,g≠0->Deaf (t++aef 0 fn pos #[⟨.mark (.acquire Q.E.st),false,true⟩]) g=Deaf t g:=fun g o=>Deaf_other t (fun y=>o y.symm) _ fY;refine⟨_,w,sl,fun i=>if i<Q.b then q i else zP (C.ks (i-Q.b)),(nd 0).S,(nd 0).X,g1,C.dn,rfl,aee (by simpa using L),hF,⟨fun i s F D=>?_,fun i F=>?_⟩,?_,?_,?_,?_,?_,M.wd.tape,M.wd.out,M.sets.low 0 (aeh _),fun y=>?_,M.sets.Nw,cz M.seen (aei _) (fF ⟨M.sets.gN _ A.rw,nofun⟩)⟩
 ·rw[K i (by omega)];rw[bk (by omega),aeC]at D;obtain⟨y,O,rfl⟩:=aez.1 D;by_cases Y:i<Q.b
  ·simp only[if_pos Y];have:=M.old i y F Y O;rw[woken_quitsD this];exact this
  ·simp only[if_neg Y];have r:i<Q.b+C.j:=by rw[<-M.size];exact(aeD.1 O).1
   obtain⟨k,rfl⟩:∃k,i=Q.b+k:=⟨i-Q.b,by omega⟩;have G:=M.wk k (by omega);obtain⟨n,e⟩:=I k (by omega);rw[e]at G;obtain⟨g2,V,U⟩:=G;obtain rfl:=Option.some.inj (O.symm.trans V);rw[woken_quitsD U,show Q.b+k-Q.b=k by omega,e];exact U
 ·have:Q.b+C.j<=i:=by simpa[M.size]using F
  rw[K i (by omega)];exact M.above i this
 ·rw[cw];refine M.tr.join H B fun op aM=>?_;have Z:=cz M.seen (aei _) (fF (g:=0) (fn:=fn) (pos:=pos) (m:=.acquire Q.E.st) ⟨M.sets.gN _ A.rw,nofun⟩);rw[cw]at Z;exact(Z op aM).1
 ·rw[<-h.fold];exact M.wd.map R
 ·rw[List.perm_iff_count];intro y;have:=h.num y;rw[hd]at this;have z:sumTo Q.J.n (fun k=>kX y (C.ks k))=0:=by
   have:=sumTo_le (f:=fun k=>kX y (C.ks k)) (c:=0) (j:=Q.J.n) fun i _=>by
    by_cases hk:i<C.j
    ·obtain⟨n,e⟩:=I i hk;rw[e];exact aei _
    ·rw[h.no i (by omega)];exact aei _
   omega
  rw[z]at this;rw[show nt Q.J lp.aq=Q.J.ao.length from rfl,List.take_length]at this;omega
 ·have:=M.wd.mu;rw[W.1,W.2]at this;exact this
 ·have:=M.wd.wg;rw[N.1,N.2.1,N.2.2]at this;exact this
 ·obtain⟨k,e,_⟩:=M.sets.mp 0 (aeh _) y;cases e
end
end Ph
end
end Go.Proofs.YtdcjnhipenbcfaaGreatDoor
