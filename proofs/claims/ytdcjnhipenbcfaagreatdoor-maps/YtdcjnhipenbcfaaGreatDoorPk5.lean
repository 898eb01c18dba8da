/-
  Own text. Part 5 of what the claim rests on.
-/
import Derived.Conc.QuitsD
import Derived.Test.YtdcjnhipenbcfaaGreatDoorPk4
set_option linter.unusedVariables false
set_option linter.unusedSectionVars false
set_option linter.unusedSimpArgs false
set_option maxRecDepth 100000
set_option maxHeartbeats 16000000
open Array renaming getElem?_setIfInBounds_self_of_lt->akQ,getElem?_eq_some_iff->ak7,getElem?_setIfInBounds_ne->alb,getElem?_push->ale,append_empty->alu,empty_append->alv
open Classical renaming byContradiction->ali
open Go.Event renaming mute->alg
open Go.Extern.Atomic renaming update->alr,casT->alw
open Go.Extern.Race renaming marked->ak_,none_->ala
open Go.Extern.Sync renaming semacquire->alm,semrelease->aln
open Go.IntKind renaming i32->alo
open Go.MemAct renaming ofEvent->akZ,touch?->als
open Go.MemOp renaming ofEvents->akR
open Go.Proofs.YtdcjnhipenbcfaaGreatDoor.Ph.Tz renaming pure->ak6
open Go.Proofs.YtdcjnhipenbcfaaGreatDoor.Ph.bA.MI renaming finish->akX
open Go.Proofs.YtdcjnhipenbcfaaGreatDoor.Ph.jf renaming closes->ak9
open Go.World renaming setChan->ak8
open Iff renaming rfl->alx
open List renaming getD_eq_getElem?_getD->akW,mem_toArray->ak1,not_mem_nil->ak2,mem_cons->ak4,getElem?_eq_some_iff->alh,getElem?_eq_getElem->alj,lookup_cons->alk,mem_of_getElem?->alq
open Nat renaming le_refl->akS,zero_le->akT,lt_of_lt_of_le->akV,le_of_lt->akY,not_lt_zero->ak0,le_add_right->ak3,le_of_eq->ak5,le_trans->alc,strongRecOn->ald,eq_zero_or_pos->alf,lt_of_not_le->alz
open Option.some renaming inj->akU,injEq->aly
namespace Go.Proofs.YtdcjnhipenbcfaaGreatDoor
variable {es:Array Event}{tmps:Array Value}{a aw main:Bool}{e:Event}{f:Frame}{fn:FuncId}{g g0 g1 gk gx:Goroutine}{ds:List Deferred}{cs l:List Frame}{site todo:List Item}{L ks qM:List Nat}{b c' eI eP f' i i0 it j k n s v' x:Nat}{XX ZZ:Nat->Nat->Prop}{RO S1 X1:Nat->Prop}{eZ tok:Option Nat}{P:Program}{pos:String}{v v8 z:Value}{w:World}
namespace Ph
open Conc Ren
open Lock (Word PC Mv bn dy bw dw)
open ConcN (sumTo upd sumTo_upd upd_ne upd_same)
def F8{E:Env}:de E->Nat
 |.dV _ n=>n
 |.qt q=>q
 |_=>0
def N7:Md->Nat
 |.run=>1
 |.rG=>1
 |_=>0
def N8{E:Env}:de E->Nat
 |.at _ md=>N7 md
 |_=>0
namespace bA
variable(Q:bA)
def nu(C:jE Q.E)(q:Nat->Nat):=10 *(sumTo Q.b q+sumTo Q.J.n (fun k=>F8 (C.ks k)))+(N7 C.dm+sumTo Q.J.n (fun k=>N8 (C.ks k)))
def Df(C:jE Q.E)(fu:Nat->Nat)
 |0=>Q.DS (fu 0) C.d
 |k+1=>match C.ks k with
  |.at pc _=>Q.WS (Q.ch C k) (fu (k+1)) pc
  |_=>fun _ _ _ _=>True
def pQ(C:jE Q.E)(nd:Nat->Nd)(fu:Nat->Nat)(q:Nat->Nat)(m:Machine)(t:Trace):=∃C' nd' N5 iQ w' tj q' fZ,m=crowd iQ w' tj/\CI Q.J Q.cO C'/\Calm Q.J C'/\Q.MI C' nd' N5 iQ w' t q' fZ/\
 (mu Q.J C'<mu Q.J C\/(mu Q.J C'=mu Q.J C/\Q.Df C' N5=Q.Df C fu/\(Down (fun i=>Nx Q.P (i==0) Q.E.U (Q.Df C fu i)) (Q.J.n+1) nd' nd\/(nd'=nd/\Q.nu C' q'<Q.nu C q))))
end bA
section
variable{Q:bA}{nd:Nat->Nd}{fu:Nat->Nat}{C C':jE Q.E}{w w':World}{gs iQ:Array Goroutine}{t t':Trace}{q:Nat->Nat}{rel fZ:Nat->Option Nat}{sl:Option (Nat×Nat)}
theorem iY{α:Type}(f:Nat->α)(i:Nat):upd f i (f i)=f:=by
 funext k;unfold upd;simp_all
theorem XH:Q.Df (C.sF Q.J) fu=Q.Df C fu:=by
 funext i;cases i with
 |zero=>rfl
 |succ k=>
  exact l_ (fun s=>match s with|.at pc _=>Q.WS (Q.ch C k) (fu (k+1)) pc|_=>fun _ _ _ _=>True) (fun _ _ _=>rfl) _ _
theorem c_{C1 C2:jE Q.E}(h:C2=C1\/C2=C1.sF Q.J):mu Q.J C2=mu Q.J C1/\Q.Df C2 fu=Q.Df C1 fu:=by
 rcases h with rfl|rfl
 ·simp
 ·exact⟨NZ,XH⟩
theorem du{w1:World}{ops:Array _}(h:∀op∈t,Seen w.heap.size op)(hg:w.heap.size<=w1.heap.size)(ho:∀op∈ops,Seen w1.heap.size op):∀op∈t++ops,Seen w1.heap.size op:=by
 intro op bg;rcases Array.mem_append.1 bg with y|y
 ·exact⟨MemAct.low_mono hg (h op y).1,(h op y).2⟩
 ·simp_all
theorem TO(hQ:Q.Laws)(nd:Nat->Nd)(j:Nat)(L:List Nat):∀l,Q.cls nd j L l=.at->Q.dS l:=fun l h=>hQ.shU l (H7 h)
theorem bA.MI.Z6(M:Q.MI C nd fu gs w t q rel)(hQ:Q.Laws)(hi:i<=C.j){es:Array _}{n':Nd}{w1:World}(hd:iF Q.E.U (nd i).S (nd i).X w w1 es n'.S n'.X)(fn:FuncId)(pos:String)(hr:gi Q.b i≠0->rel (gi Q.b i)=none):
  PT Q.b C.j Q.E.mu Q.E.st Q.dS (Q.cls (upd nd i n') C.j C.L) (t++akR (gi Q.b i) fn pos es) (C.tok.map (Q.b+ ·)) rel:=by
 have hS:=M.bT;have Ls:=hS.did hi hd;have xx:=bA.aco hS hi hd;have low:∀k x,touchAt t k=some x->x.loc.low w.heap.size:=by
  intro k x hx;obtain⟨op,ho,hxt⟩:=touch_of hx;exact E7 (M.seen op (Array.mem_of_getElem? ho)).1 hxt
 have h1:=M.tr.fresh (fun k x hx=>Az xx (low k x hx)) Dr (TO hQ _ _ _);refine h1.app (g:=gi Q.b i) ?_ ?_ ?_
 ·cases i with
  |zero=>exact .inl rfl
  |succ k=>exact .inr ⟨ak3 _ _,by show Q.b+k<Q.b+C.j;omega⟩
 ·refine TE hd _ _ (fun a ha=>?_) (fun a ha=>TJ ha) (fun a h1 h2=>?_)
  ·have hal:=hS.low i hi a ha;have e:Q.cls _ C.j C.L _=Q.cls nd C.j C.L (.obj a):=Az xx hal;rw[e];exact hS.held hQ.rm hi ha
  ·have:=Ls.own hi (by rw[upd_same];exact(hd.may a).2 (.inr ⟨h1,h2⟩)) (fun e=>by have:=hS.XD;omega);exact this
 ·simp_all
theorem bA.MI.LN(M:Q.MI C nd fu gs w t q rel)(hk:k<C.j){pc:Q.E.vz}{md:Md}(e:C.ks k=.at pc md):rel (Q.b+k)=none:=by
 cases hr:rel _ with
 |none=>rfl
 |some p=>
  have:=(M.uz k hk).1 ⟨p,hr⟩;rw[e]at this;exact this.elim
theorem jG{g:Nat}{es:Array _}:∀op∈akR g fn pos es,op.g=g:=fun op bg=>by
 obtain⟨e,_,rfl⟩:=eD bg;rfl
theorem bA.MI.agA(M:Q.MI C nd fu gs w t q rel)(hQ:Q.Laws)(h:CI Q.J Q.cO C)(bJ:Calm Q.J C)(hk:k<C.j){pc:Q.E.vz}(e:C.ks k=.at pc .run){w1:World}{es:Array _}(hn:¬Q.WS (Q.ch C k) (fu (k+1)) pc (nd (k+1)).S (nd (k+1)).X (nd (k+1)).g (nd (k+1)).w)
  (aA:stepG Q.P false (nd (k+1)).g w=.go g1 w1 es)(hd:iF Q.E.U (nd (k+1)).S (nd (k+1)).X w w1 es S1 X1)(ht:Tz Q.P false Q.E.U (Q.WS (Q.ch C k) (fu (k+1)) pc) S1 X1 g1 w1)(fn:FuncId)(pos:String):
  Q.pQ C nd fu q (crowd ((gs.map (woken Q.P (nd (k+1)).g g1 w1)).setIfInBounds (Q.b+k) g1) w1 sl) (t++akR (Q.b+k) fn pos es):=by
 have hb:=hQ.b0;have aV:Q.b+k<gs.size:=by rw[M.size];omega
 have XI:=hk;have M1:Q.MI C (upd nd (k+1) ⟨S1,X1,g1,w1⟩) (upd fu (k+1) (fu (k+1))) (gs.setIfInBounds (Q.b+k) g1) w1 (t++akR (Q.b+k) fn pos es) q rel:=by
  refine M.wkr hb hk rfl rfl rfl rfl (fun _ _=>rfl) rfl ?_ (fun i hi bj=>Ic M.bT XI hi (fun y=>bj y.symm) hd) (.refl _ _ _) (M.fuel _ XI) (akS _) (M.bT.did XI hd) (M.wd.did M.bT hQ h.len XI hd) ?_ (fun hq=>?_) (fun g hg=>Deaf_other t (fun y=>hg y.symm) _ jG) (M.uz k hk) (fun _ _=>rfl) (du M.seen hd.grow (H9 hd (M.bT.low _ XI) _))
  ·rw[e];exact⟨akQ aV,ht,fun y=>absurd rfl y⟩
  ·exact M.Z6 hQ XI hd fn pos (fun _=>M.LN hk e)
  ·rw[Deaf_own,H8 hd];exact M.iX k hk hq
 rw[iY]at M1;obtain⟨C2,h2,vB,mc,M2⟩:=akX hQ h M1 (.inl bJ) bJ.uq;obtain⟨e1,e2⟩:=c_ h2;refine⟨C2,_,_,_,_,sl,_,_,rfl,vB,mc,M2,.inr ⟨e1,e2,.inl ⟨k+1,by have:=h.jn;omega,?_,fun i _ hi=>upd_ne _ _ hi⟩⟩⟩;rw[upd_same];refine⟨?_,w,es,M.Ia _ XI,aA,hd⟩;unfold bA.Df;simp_all
theorem bA.MI.bc(M:Q.MI C nd fu gs w t q rel)(hQ:Q.Laws)(hk:k<C.j)(hj:C'.j=C.j)(hL:C'.L=C.L)(hd:C'.d=C.d)(TK:C'.dm=C.dm)(P5:∀i,i≠k->C'.ks i=C.ks i){w1:World}{ops:Array _}
  (XE:Q.XC (Q.ch C k) (gs.setIfInBounds (Q.b+k) g1) (t++ops) k ⟨(nd (k+1)).S,(nd (k+1)).X,g1,w1⟩ f' (C'.ks k))(rl:∀S,aP Q.E.U S w w1)(sz:w1.heap.size=w.heap.size)(mf:mu Q.J C'<=f')(Z5:mu Q.J C'<=mu Q.J C)(tok:C'.tok=C.tok)(wd:Q.Wd C' w1)
  (tr:PT Q.b C.j Q.E.mu Q.E.st Q.dS (Q.cls nd C.j C.L) (t++ops) (C.tok.map (Q.b+ ·)) fZ)(own:∀op∈ops,op.g=Q.b+k)(dfk:(∀q,C'.ks k≠.qt q)->Deaf (t++ops) (Q.b+k)=Hz (C'.ks k))(TL:(∃p,fZ (Q.b+k)=some p)↔bA.LM (C'.ks k))(P6:∀i,i≠k->fZ (Q.b+i)=rel (Q.b+i))(low:∀op∈ops,Seen w.heap.size op):
  Q.MI C' (upd nd (k+1) ⟨(nd (k+1)).S,(nd (k+1)).X,g1,w1⟩) (upd fu (k+1) f') (gs.setIfInBounds (Q.b+k) g1) w1 (t++ops) q fZ:=by
 refine M.wkr hQ.b0 hk hj hL hd TK P5 rfl XE (fun i hi _=>rl _) (.refl _ _ _) mf Z5 ?_ wd ?_ dfk (fun g hg=>Deaf_other t (fun y=>hg y.symm) _ own) TL P6 (du M.seen (ak5 sz.symm) (by simp_all))
 ·rw[sz,tok];exact M.bT.same rfl rfl
 ·unfold bA.cls;rw[bA.zl (n':=⟨(nd _).S,(nd _).X,g1,w1⟩) rfl,tok];exact tr
theorem dq(g:Nat)(fn:FuncId)(pos:String)(m:Mark):akR g fn pos #[⟨.mark m,false,true⟩]=#[{g,fn,pos,act:=.mark m}]:=by simp[akR,akZ]
theorem bA.MI.LP(M:Q.MI C nd fu gs w t q rel){g:Nat}(hg:g<Q.b+C.j)(fn:FuncId)(pos:String){m:Mark}(hm:m=.disable\/m=.enable):PT Q.b C.j Q.E.mu Q.E.st Q.dS (Q.cls nd C.j C.L) (t++akR g fn pos #[⟨.mark m,false,true⟩]) (C.tok.map (Q.b+ ·)) rel:=by
 rw[dq];refine M.tr.still (bL ?_);rcases hm with rfl|rfl<;>exact⟨rfl,nofun,nofun,hg⟩
theorem iZ{g B:Nat}{m:Mark}(hm:(MemAct.mark m).low B/\∀a,m≠.release a):∀op∈akR g fn pos #[⟨.mark m,false,true⟩],Seen B op:=by
 rw[dq];exact bL ⟨hm.1,fun a e=>hm.2 a (MemAct.mark.inj e)⟩
theorem AE(h:e.mute=true)(a:Addr):akZ e≠.mark (.release a):=by
 intro y;obtain⟨loc,wr,sy⟩:=e;cases loc<;>simp_all[alg,akZ]
theorem lp(bJ:Calm Q.J C){s':de Q.E}(h1:∀pc,s'≠.at pc .blk)(h2:∀pc,s'≠.at pc .fH){m':Word}{qL:Q.E.Γ}(hc:C.c=0->c'=0)(hw:C.dm=.blk->C.ws=0->eI=0):Calm Q.J (C.wk k s' C.d C.dm m' c' v' eP eI qL qM eZ):=by
 refine⟨fun i pc hi=>?_,fun i pc hi=>?_,fun hd=>hw hd (bJ.acj hd),fun i hd Z3 pc hi=>?_⟩
 ·change upd _ k s' i=_ at hi;by_cases e:i=k
  ·subst e;rw[upd_same]at hi;simp_all
  ·rw[upd_ne _ _ e]at hi;exact hc (bJ.blk i pc hi)
 ·change upd _ k s' i=_ at hi;by_cases e:i=k
  ·subst e;rw[upd_same]at hi;simp_all
  ·rw[upd_ne _ _ e]at hi;exact bJ.fH i pc hi
 ·change upd _ k s' _=_ at hi;by_cases e:i%Q.J.n=k
  ·rw[e,upd_same]at hi;simp_all
  ·rw[upd_ne _ _ e]at hi;exact bJ.uq i hd Z3 pc hi
theorem bA.MI.N9(M:Q.MI C nd fu gs w t q rel)(hQ:Q.Laws)(h:CI Q.J Q.cO C)(bJ:Calm Q.J C){f:Nat}(hk:k<C.j){pc eK:Q.E.vz}(e:C.ks k=.at pc .run)(hf:fu (k+1)=f+1){m:Mark}(hm:m=.disable\/m=.enable)(ht:Q.E.Tree Q.P false (Q.WS (Q.ch C k) f eK) (nd (k+1)).S (nd (k+1)).X g1 w)(fn:FuncId)(pos:String)
  (hl:LC eK=LC pc)(hh:∀y,pw y eK=pw y pc)(n1:∀γ,pc≠.ur γ)(n2:∀γ,eK≠.ur γ)(n3:eK≠.wr)(Rr:∀p x,eK=.lk p x->dy p=2)(LF:∀p,eK=.un p->dy p=0/\p≠.out)(hr:P3 eK<P3 pc)(rk:ye eK=deafBehind (ye pc) #[⟨.mark m,false,true⟩]):
  Q.pQ C nd fu q (crowd ((gs.map (woken Q.P (nd (k+1)).g g1 w)).setIfInBounds (Q.b+k) g1) w sl) (t++akR (Q.b+k) fn pos #[⟨.mark m,false,true⟩]):=by
 have aV:Q.b+k<gs.size:=by rw[M.size];omega
 have ll:k<Q.J.n:=akV hk h.jn;have hng:¬Gone (.at eK .run:de Q.E):=fun y=>by
  cases eK with
  |wr=>exact n3 rfl
  |_=>exact y.elim
 have h1:CI Q.J Q.cO (C.w1 k (.at eK .run)):=h.quiet hk e hl hh n1 n2 ⟨nofun,fun y=>by rcases y with y|y<;>cases y⟩ (fun y=>absurd y hng) Rr LF;have mW:mu Q.J (C.w1 k (.at eK .run))<mu Q.J C:=N1 hQ.n8 h.c1 ll e hr;have us:(C.w1 k (.at eK .run)).ks k=.at eK .run:=upd_same _ _ _;have M1:=M.bc (C':=C.w1 k (.at eK .run)) (f':=f) (g1:=g1) (w1:=w) (fZ:=rel) hQ hk rfl rfl rfl rfl (fun i hi=>upd_ne _ _ hi) (by
   rw[us];exact⟨akQ aV,ht,fun y=>absurd rfl y⟩) (fun S=>.refl _ _ _) rfl (by have:=M.fuel (k+1) hk;omega) (akY mW) rfl (M.wd.cfg rfl rfl rfl rfl rfl (fun e=>⟨e,rfl⟩) rfl rfl rfl)
   (M.LP (by omega) fn pos hm) jG (fun _=>by
   rw[us,Deaf_own,M.iX k hk (fun q y=>by rw[e]at y;cases y),e];exact rk.symm) (by
   rw[us,M.LN hk e];exact⟨(fun⟨p,hp⟩=>by cases hp),fun y=>y.elim⟩) (fun _ _=>rfl) (iZ (by rcases hm with rfl|rfl<;>exact⟨trivial,nofun⟩))
 have jH:Calm Q.J (C.w1 k (.at eK .run)):=lp (s':=.at eK .run) (k:=k) (m':=C.m) (c':=C.c) (v':=C.v) (eP:=C.wt) (eI:=C.ws) (qL:=C.γ) (qM:=C.dn) (eZ:=C.tok) bJ nofun nofun id fun _ y=>y;obtain⟨C2,h2,vB,mc,M2⟩:=akX (g:=(nd (k+1)).g) hQ h1 M1 (.inl jH) jH.uq;exact⟨C2,_,_,_,_,sl,_,_,rfl,vB,mc,M2,.inl (by rw[(c_ (fu:=fu) h2).1];exact mW)⟩
theorem bA.MI.wmu(M:Q.MI C nd fu gs w t q rel)(hQ:Q.Laws)(h:CI Q.J Q.cO C)(bJ:Calm Q.J C){f:Nat}(hk:k<C.j){pc eK:Q.E.vz}(e:C.ks k=.at pc .run)(hf:fu (k+1)=f+1){w1:World}{m':Word}(ht:Q.E.Tree Q.P false (Q.WS (Q.ch C k) f eK) (nd (k+1)).S (nd (k+1)).X g1 w1)(fn:FuncId)(pos:String)
  (hm:Q.E.MuAt w1 m' c')(he:Env.Eff Q.E.Fd w w1)(jI:Env.EvA Q.E.Fd es)(hw:C.c<c'->mayWake Q.P (nd (k+1)).g=true)(h1:CI Q.J Q.cO (C.mv k eK m' c'))(mW:mu Q.J (C.mv k eK m' c')<mu Q.J C)(rk:ye eK=ye pc):
  Q.pQ C nd fu q (crowd ((gs.map (woken Q.P (nd (k+1)).g g1 w1)).setIfInBounds (Q.b+k) g1) w1 sl) (t++akR (Q.b+k) fn pos es):=by
 have aV:Q.b+k<gs.size:=by rw[M.size];omega
 have us:(C.mv k eK m' c').ks k=.at eK .run:=upd_same _ _ _;have ju:g1.status=.running:=by
  have hfu:mu Q.J (C.mv k eK m' c')<=f:=by have:=M.fuel (k+1) hk;omega
  exact f_ ht fun y=>(fP hQ (akV (TM _ _) hfu) y).1
 have M1:=M.bc (C':=C.mv k eK m' c') (f':=f) (g1:=g1) (w1:=w1) (ops:=akR (Q.b+k) fn pos es) (fZ:=rel) hQ hk rfl rfl rfl rfl (fun i hi=>upd_ne _ _ hi) (by
   rw[us];exact⟨akQ aV,ht,fun y=>absurd rfl y⟩) (fun S=>N6 S M.wd.mu hm he) he.size (by have:=M.fuel (k+1) hk;omega) (akY mW) rfl ((M.wd.mv hQ M.bT h.len he hm).cfg rfl rfl rfl rfl rfl (fun e=>⟨e,rfl⟩) rfl rfl rfl)
   (M.tr.app (.inr ⟨ak3 _ _,by omega⟩) (AB jI (.inl rfl) _) (fun _ p hp=>by rw[M.LN hk e]at hp;cases hp)) jG (fun _=>by
   rw[us,Deaf_own,uy jI,M.iX k hk (fun q y=>by rw[e]at y;cases y),e];exact rk.symm) (by
   rw[us,M.LN hk e];exact⟨(fun⟨p,hp⟩=>by cases hp),fun y=>y.elim⟩) (fun _ _=>rfl) (AD jI (M.bT.kj _ hQ.rf) _)
 have jH:Calm Q.J (C.mv k eK m' c')\/(mayWake Q.P (nd (k+1)).g=true/\(g1.status=.running\/g1.status=.finished)):=by
  by_cases hc:C.c<c'
  ·exact .inr ⟨hw hc,.inl ju⟩
  ·exact .inl (lp (s':=.at eK .run) (k:=k) (m':=m') (c':=c') (v':=C.v) (eP:=C.wt) (eI:=C.ws) (qL:=C.γ) (qM:=C.dn) (eZ:=C.tok) bJ nofun nofun (fun y=>by omega) fun _ y=>y)
 have hp:∀i,(C.mv k eK m' c').dm=.fH->(C.mv k eK m' c').d=.send (C.mv k eK m' c').L i->∀pc,(C.mv k eK m' c').ks (i%Q.J.n)≠.at pc .fH:=by
  intro i h1 h2 Xw hi;change upd C.ks k _ _=_ at hi;by_cases e:i%Q.J.n=k
  ·rw[e,upd_same]at hi;cases hi
  ·rw[upd_ne _ _ e]at hi;exact bJ.uq i h1 h2 Xw hi
 obtain⟨C2,h2,vB,mc,M2⟩:=akX (g:=(nd (k+1)).g) hQ h1 M1 jH hp;exact⟨C2,_,_,_,_,sl,_,_,rfl,vB,mc,M2,.inl (by rw[(c_ (fu:=fu) h2).1];exact mW)⟩
end
end Ph
namespace Ph
open Conc Ren
open Lock (Word PC Mv bn dy bw dw)
open ConcN (sumTo upd sumTo_upd upd_ne upd_same sumTo_congr sumTo_le le_sumTo)
section
variable{Q:bA}{nd:Nat->Nd}{fu:Nat->Nat}{C C':jE Q.E}{w w':World}{gs iQ:Array Goroutine}{t t':Trace}{q:Nat->Nat}{rel fZ:Nat->Option Nat}{sl:Option (Nat×Nat)}
theorem TP{E:Env}(hm:¬RO E.Mp)(h:∀i a,a≠E.Mp->(ZZ i a↔XX i a)):iW E RO b ZZ=iW E RO b XX:=by
 have hb:∀a,nW E RO b ZZ a=nW E RO b XX a:=fun a=>by
  by_cases e:a=E.Mp
  ·subst e;rw[E6 hm,E6 hm]
  ·exact wW fun i=>h i a e
 funext l;cases l with
 |cell a=>simp[iW,hb]
 |obj a=>exact hb a
 |_=>rfl
theorem bA.Sets.turn{B:Nat}(h:Q.Sets nd j L tok B)(hk:k<j){n':Nd}(hS:∀a,a≠Q.E.Mp->(n'.S a↔(nd (k+1)).S a))(hX:∀a,a≠Q.E.Mp->(n'.X a↔(nd (k+1)).X a))(hsx:n'.S Q.E.Mp↔n'.X Q.E.Mp)(Kl:n'.S Q.E.Mp->eZ=some k)(ho:∀i,i<=j->i≠k+1->¬(nd i).S Q.E.Mp)(hrm:¬Q.RO Q.E.Mp):Q.Sets (upd nd (k+1) n') j L eZ B:=by
 have us:upd nd (k+1) n' (k+1)=n':=upd_same _ _ _;have un:∀i,i≠k+1->upd nd (k+1) n' i=nd i:=fun i hi=>upd_ne _ _ hi;have eS:∀i a,a≠Q.E.Mp->((upd nd (k+1) n' i).S a↔(nd i).S a):=fun i a ha=>by
  by_cases e:i=k+1
  ·subst e;rw[us];exact hS a ha
  ·rw[un i e]
 have eX:∀i a,a≠Q.E.Mp->((upd nd (k+1) n' i).X a↔(nd i).X a):=fun i a ha=>by
  by_cases e:i=k+1
  ·subst e;rw[us];exact hX a ha
  ·rw[un i e]
 have mS:∀i,i<=j->(upd nd (k+1) n' i).S Q.E.Mp->i=k+1/\eZ=some k:=fun i hi hs=>by
  by_cases e:i=k+1
  ·simp_all
  ·simp_all
 have mX:∀i,i<=j->((upd nd (k+1) n' i).X Q.E.Mp->(upd nd (k+1) n' i).S Q.E.Mp):=fun i hi hs=>by
  by_cases e:i=k+1
  ·subst e;rw[us]at hs⊢;exact hsx.2 hs
  ·rw[un i e]at hs⊢;exact h.xs i hi _ hs
 refine⟨fun i i' hi eO bj a hx hs=>?_,fun i hi a hs=>?_,fun i hi a hs=>?_,fun i hi a hr hx=>?_,fun i hi a hx=>?_,fun i hi hs=>⟨k,mS i hi hs⟩,h.kj,h.XD,fun c hc=>?_⟩
 ·by_cases e:a=Q.E.Mp
  ·subst e;have h1:=(mS i hi (mX i hi hx)).1;have h2:=(mS i' eO hs).1;omega
  ·exact h.LK i i' hi eO bj a ((eX i a e).1 hx) ((eS i' a e).1 hs)
 ·by_cases e:a=Q.E.Mp
  ·subst e;exact h.XD
  ·exact h.low i hi a ((eS i a e).1 hs)
 ·by_cases e:a=Q.E.Mp
  ·subst e;obtain⟨rfl,_⟩:=mS i hi hs;rw[us]at hs⊢;exact .inr (hsx.1 hs)
  ·exact(h.sub i hi a ((eS i a e).1 hs)).imp id (eX i a e).2
 ·have e:a≠Q.E.Mp:=fun e=>hrm (e▸hr);exact h.Ds i hi a hr ((eX i a e).1 hx)
 ·by_cases e:a=Q.E.Mp
  ·subst e;exact mX i hi hx
  ·exact(eS i a e).2 (h.xs i hi a ((eX i a e).1 hx))
 ·obtain⟨h1,h2,h3,h4⟩:=h.H_ c hc;exact⟨h1,h2,h3,fun i hi hs=>h4 i hi ((eS i c h3).1 hs)⟩
theorem bA.Ie{n':Nd}(hrm:¬Q.RO Q.E.Mp)(hX:∀a,a≠Q.E.Mp->(n'.X a↔(nd (k+1)).X a)):Q.cls (upd nd (k+1) n') j L=Q.cls nd j L:=by
 refine TP hrm fun i a ha=>?_;unfold bA.rp;by_cases e:i=k+1
 ·subst e;rw[upd_same,hX a ha]
 ·rw[upd_ne _ _ e]
theorem bA.MI.wla(M:Q.MI C nd fu gs w t q rel)(hQ:Q.Laws)(h:CI Q.J Q.cO C)(bJ:Calm Q.J C){f:Nat}(hk:k<C.j)(e:C.ks k=.at (.la x) .run)(hf:fu (k+1)=f+1)
  (ht:Q.E.Tree Q.P false (Q.WS (Q.ch C k) f (.ur (Q.E.upd C.γ x))) (fun a=>(nd (k+1)).S a\/a=Q.E.Mp) (fun a=>(nd (k+1)).X a\/a=Q.E.Mp) g1 w)(fn:FuncId)(pos:String):
  Q.pQ C nd fu q (crowd ((gs.map (woken Q.P (nd (k+1)).g g1 w)).setIfInBounds (Q.b+k) g1) w sl) (t++akR (Q.b+k) fn pos #[⟨.mark (.acquire Q.E.mu),false,true⟩]):=by
 have aV:Q.b+k<gs.size:=by rw[M.size];omega
 have LQ:=h.free hk e;obtain⟨h1,mW⟩:=h.take hQ.n8 hk e;have us:(C.take k x).ks k=.at (.ur (Q.E.upd C.γ x)) .run:=upd_same _ _ _;have rk:Deaf t (Q.b+k)=0:=by rw[M.iX k hk (fun q y=>by rw[e]at y;cases y),e];rfl
 have hX:∀a,a≠Q.E.Mp->(((nd (k+1)).X a\/a=Q.E.Mp)↔(nd (k+1)).X a):=fun a ha=>⟨fun y=>y.resolve_right ha,.inl⟩;have hS:∀a,a≠Q.E.Mp->(((nd (k+1)).S a\/a=Q.E.Mp)↔(nd (k+1)).S a):=fun a ha=>⟨fun y=>y.resolve_right ha,.inl⟩;have M1:Q.MI (C.take k x) (upd nd (k+1) ⟨fun a=>(nd (k+1)).S a\/a=Q.E.Mp,fun a=>(nd (k+1)).X a\/a=Q.E.Mp,g1,w⟩) (upd fu (k+1) f) (gs.setIfInBounds (Q.b+k) g1) w (t++akR (Q.b+k) fn pos #[⟨.mark (.acquire Q.E.mu),false,true⟩]) q rel:=by
  refine M.wkr (C':=C.take k x) hQ.b0 hk rfl rfl rfl rfl (fun i hi=>upd_ne _ _ hi) rfl ?_ (fun i hi _=>.refl _ _ _) (.refl _ _ _) (by have:=M.fuel (k+1) hk;omega) (akY mW) (M.bT.turn hk hS hX ⟨fun _=>.inr rfl,fun _=>.inr rfl⟩ (fun _=>rfl) (fun i hi _ hs=>?_) hQ.rm) ?_ ?_ (fun _=>?_) (fun g hg=>Deaf_other t (fun y=>hg y.symm) _ jG) ?_ (fun _ _=>rfl) (du M.seen (akS _) (iZ (m:=.acquire Q.E.mu) ⟨M.bT.kj _ hQ.rf,nofun⟩))
  ·rw[us];exact⟨akQ aV,ht,fun y=>absurd rfl y⟩
  ·obtain⟨_,_,h3⟩:=M.bT.mp i hi hs;rw[LQ]at h3;cases h3
  ·exact⟨M.wd.mu,M.wd.wg,nofun,M.wd.shut,M.wd.opn,M.wd.tape,M.wd.out⟩
  ·rw[bA.Ie hQ.rm hX,dq];have h0:=M.tr;rw[LQ]at h0;exact h0.lock (.inr ⟨ak3 _ _,by omega⟩) rk
  ·rw[us,Deaf_own,rk];rfl
  ·rw[us,M.LN hk e];exact⟨(fun⟨p,hp⟩=>by cases hp),fun y=>y.elim⟩
 have jH:Calm Q.J (C.take k x):=lp (s':=.at (.ur (Q.E.upd C.γ x)) .run) (k:=k) (m':=C.m) (c':=C.c) (v':=C.v) (eP:=C.wt) (eI:=C.ws) (qL:=Q.E.upd C.γ x) (qM:=C.dn++[x]) (eZ:=some k) bJ nofun nofun id fun _ y=>y;obtain⟨C2,h2,vB,mc,M2⟩:=akX (g:=(nd (k+1)).g) hQ h1 M1 (.inl jH) jH.uq;exact⟨C2,_,_,_,_,sl,_,_,rfl,vB,mc,M2,.inl (by rw[(c_ (fu:=fu) h2).1];exact mW)⟩
theorem bA.MI.wur(M:Q.MI C nd fu gs w t q rel)(hQ:Q.Laws)(h:CI Q.J Q.cO C)(bJ:Calm Q.J C){f:Nat}{γ:Q.E.Γ}(hk:k<C.j)(e:C.ks k=.at (.ur γ) .run)(hf:fu (k+1)=f+1)(TQ:Q.E.iA γ (w.heap[Q.E.Mp]?))
  (ht:Q.E.Tree Q.P false (Q.WS (Q.ch C k) f .ud) (fun a=>(nd (k+1)).S a/\a≠Q.E.Mp) (fun a=>(nd (k+1)).X a/\a≠Q.E.Mp) g1 w)(fn:FuncId)(pos:String):
  Q.pQ C nd fu q (crowd ((gs.map (woken Q.P (nd (k+1)).g g1 w)).setIfInBounds (Q.b+k) g1) w sl) (t++akR (Q.b+k) fn pos #[⟨.mark (.releaseMerge Q.E.mu),false,true⟩]):=by
 have aV:Q.b+k<gs.size:=by rw[M.size];omega
 obtain⟨h1,mW,LQ,hγ⟩:=h.give hQ.n8 hk e;have us:(C.give k).ks k=.at .ud .run:=upd_same _ _ _;have rk:Deaf t (Q.b+k)=0:=by rw[M.iX k hk (fun q y=>by rw[e]at y;cases y),e];rfl
 have hX:∀a,a≠Q.E.Mp->(((nd (k+1)).X a/\a≠Q.E.Mp)↔(nd (k+1)).X a):=fun a ha=>⟨fun y=>y.1,fun y=>⟨y,ha⟩⟩;have hS:∀a,a≠Q.E.Mp->(((nd (k+1)).S a/\a≠Q.E.Mp)↔(nd (k+1)).S a):=fun a ha=>⟨fun y=>y.1,fun y=>⟨y,ha⟩⟩;have M1:Q.MI (C.give k) (upd nd (k+1) ⟨fun a=>(nd (k+1)).S a/\a≠Q.E.Mp,fun a=>(nd (k+1)).X a/\a≠Q.E.Mp,g1,w⟩) (upd fu (k+1) f) (gs.setIfInBounds (Q.b+k) g1) w (t++akR (Q.b+k) fn pos #[⟨.mark (.releaseMerge Q.E.mu),false,true⟩]) q rel:=by
  refine M.wkr (C':=C.give k) hQ.b0 hk rfl rfl rfl rfl (fun i hi=>upd_ne _ _ hi) rfl ?_ (fun i hi _=>.refl _ _ _) (.refl _ _ _) (by have:=M.fuel (k+1) hk;omega) (akY mW) (M.bT.turn hk hS hX ⟨fun y=>absurd rfl y.2,fun y=>absurd rfl y.2⟩ (fun y=>absurd rfl y.2) (fun i hi bj hs=>?_) hQ.rm) ?_ ?_ (fun _=>?_) (fun g hg=>Deaf_other t (fun y=>hg y.symm) _ jG) ?_ (fun _ _=>rfl) (du M.seen (akS _) (iZ (m:=.releaseMerge Q.E.mu) ⟨M.bT.kj _ hQ.rf,nofun⟩))
  ·rw[us];exact⟨akQ aV,ht,fun y=>absurd rfl y⟩
  ·obtain⟨k',h2,h3⟩:=M.bT.mp i hi hs;rw[LQ]at h3;cases h3;exact bj h2
  ·exact⟨M.wd.mu,M.wd.wg,fun _=>by show Q.E.iA C.γ _;rw[hγ];exact TQ,M.wd.shut,M.wd.opn,M.wd.tape,M.wd.out⟩
  ·rw[bA.Ie hQ.rm hX,dq];have h0:=M.tr;rw[LQ]at h0;exact h0.unlock (g:=Q.b+k) (.inr ⟨ak3 _ _,by omega⟩) rk
  ·rw[us,Deaf_own,rk];rfl
  ·rw[us,M.LN hk e];exact⟨(fun⟨p,hp⟩=>by cases hp),fun y=>y.elim⟩
 have jH:Calm Q.J (C.give k):=lp (s':=.at .ud .run) (k:=k) (m':=C.m) (c':=C.c) (v':=C.v) (eP:=C.wt) (eI:=C.ws) (qL:=C.γ) (qM:=C.dn) (eZ:=none) bJ nofun nofun id fun _ y=>y;obtain⟨C2,h2,vB,mc,M2⟩:=akX (g:=(nd (k+1)).g) hQ h1 M1 (.inl jH) jH.uq;exact⟨C2,_,_,_,_,sl,_,_,rfl,vB,mc,M2,.inl (by rw[(c_ (fu:=fu) h2).1];exact mW)⟩
theorem bA.MI.wsn(M:Q.MI C nd fu gs w t q rel)(hQ:Q.Laws)(hk:k<C.j)(hj:C'.j=C.j)(hL:C'.L=C.L)(hd:C'.d=C.d)(TK:C'.dm=C.dm)(P5:∀i,i≠k->C'.ks i=C.ks i){w1:World}{ops:Array _}
  (XE:Q.XC (Q.ch C k) (gs.setIfInBounds (Q.b+k) g1) (t++ops) k (nd (k+1)) (fu (k+1)) (C'.ks k))(rl:∀S,aP Q.E.U S w w1)(sz:w1.heap.size=w.heap.size)(Z5:mu Q.J C'<=mu Q.J C)(tok:C'.tok=C.tok)(wd:Q.Wd C' w1)
  (tr:PT Q.b C.j Q.E.mu Q.E.st Q.dS (Q.cls nd C.j C.L) (t++ops) (C.tok.map (Q.b+ ·)) fZ)(own:∀op∈ops,op.g=Q.b+k)(dfk:(∀q,C'.ks k≠.qt q)->Deaf (t++ops) (Q.b+k)=Hz (C'.ks k))(TL:(∃p,fZ (Q.b+k)=some p)↔bA.LM (C'.ks k))(P6:∀i,i≠k->fZ (Q.b+i)=rel (Q.b+i))(low:∀op∈ops,Seen w.heap.size op):
  Q.MI C' nd fu (gs.setIfInBounds (Q.b+k) g1) w1 (t++ops) q fZ:=by
 have:=M.wkr hQ.b0 hk hj hL hd TK P5 rfl XE (fun i hi _=>rl _) ((M.Ia _ hk).trans (rl _)) (alc Z5 (M.fuel _ hk)) Z5 (by rw[iY,sz,tok];exact M.bT) wd (by rw[iY,tok];exact tr) dfk (fun g hg=>Deaf_other t (fun y=>hg y.symm) _ own) TL P6 (du M.seen (ak5 sz.symm) (by simp_all));rw[iY,iY]at this;omega
theorem bA.MI.anV(M:Q.MI C nd fu gs w t q rel)(hQ:Q.Laws)(h:CI Q.J Q.cO C)(bJ:Calm Q.J C)(hk:k<C.j)(e:C.ks k=.at .wr .run)(Hh:Env.rj Q.P (Q.E.EW Q.P 4) n g1)(fn:FuncId)(pos:String):
  Q.pQ C nd fu q (crowd ((gs.map (woken Q.P (nd (k+1)).g g1 w)).setIfInBounds (Q.b+k) g1) w sl) (t++akR (Q.b+k) fn pos #[⟨.mark (.releaseMerge Q.E.st),false,true⟩]):=by
 have aV:Q.b+k<gs.size:=by rw[M.size];omega
 have h1:CI Q.J Q.cO (C.w1 k (.dV 4 n)):=h.slip hk e rfl rfl nofun nofun (fun y=>rfl) nofun rfl (fun _ _ y=>y) trivial (fun i n e=>by cases e;exact akS _) (akS _);have mW:mu Q.J (C.w1 k (.dV 4 n))<mu Q.J C:=N1 hQ.n8 h.c1 (akV hk h.jn) e (by show 5<6;omega);have us:(C.w1 k (.dV 4 n)).ks k=.dV 4 n:=upd_same _ _ _;have rk:Deaf t (Q.b+k)=0:=by rw[M.iX k hk (fun q y=>by rw[e]at y;cases y),e];rfl
 have M1:=M.wsn (C':=C.w1 k (.dV 4 n)) (g1:=g1) (w1:=w) (ops:=akR (Q.b+k) fn pos #[⟨.mark (.releaseMerge Q.E.st),false,true⟩]) (fZ:=upd rel (Q.b+k) (some t.size)) hQ hk rfl rfl rfl rfl (fun i hi=>upd_ne _ _ hi) (by
   rw[us];exact⟨g1,akQ aV,Hh⟩) (fun S=>.refl _ _ _) rfl (akY mW) rfl (M.wd.cfg rfl rfl rfl rfl rfl (fun e=>⟨e,rfl⟩) rfl rfl rfl)
   (by
    rw[dq];exact M.tr.release ⟨ak3 _ _,by omega⟩ rk (upd_same _ _ _) fun i hi=>upd_ne _ _ hi) jG (fun _=>by
   rw[us,Deaf_own,rk];rfl) (by
   rw[us,upd_same];exact⟨fun _=>trivial,fun _=>⟨_,rfl⟩⟩) (fun i hi=>upd_ne _ _ (by omega)) (iZ (m:=.releaseMerge Q.E.st) ⟨M.bT.kj _ hQ.rw,nofun⟩)
 have jH:Calm Q.J (C.w1 k (.dV 4 n)):=lp (s':=.dV 4 n) (k:=k) (m':=C.m) (c':=C.c) (v':=C.v) (eP:=C.wt) (eI:=C.ws) (qL:=C.γ) (qM:=C.dn) (eZ:=C.tok) bJ nofun nofun id fun _ y=>y;obtain⟨C2,h2,vB,mc,M2⟩:=akX (g:=(nd (k+1)).g) hQ h1 M1 (.inl jH) jH.uq;exact⟨C2,_,_,_,_,sl,_,_,rfl,vB,mc,M2,.inl (by rw[(c_ (fu:=fu) h2).1];exact mW)⟩
theorem agC{s s':de Q.E}(hk:k<Q.J.n)(e:C.ks k=s)(hs:F8 s'<F8 s)(hn:Q.J.n<=8){C2:jE Q.E}(h2:C2=C.w1 k s'\/C2=(C.w1 k s').sF Q.J):Q.nu C2 q<Q.nu C q:=by
 have h3:=lZ (s':=s') F8 _ hk e;have eS:sumTo Q.J.n (fun i=>F8 (C2.ks i))=sumTo Q.J.n (fun i=>F8 (upd C.ks k s' i)):=by
  rcases h2 with rfl|rfl
  ·rfl
  ·exact sumTo_congr fun i _=>l_ F8 (fun _ _ _=>rfl) _ _
 have hR:N7 C2.dm+sumTo Q.J.n (fun i=>N8 (C2.ks i))<=9:=by
  have r1:∀m,N7 m<=1:=fun m=>by cases m<;>simp[N7]
  have r2:∀s:de Q.E,N8 s<=1:=fun s=>by cases s<;>simp[N8,r1]
  have:=sumTo_le (f:=fun i=>N8 (C2.ks i)) (j:=Q.J.n) fun i _=>r2 _;have:=r1 C2.dm;omega
 unfold bA.nu;omega
theorem acp{s s':de Q.E}(e:C.ks k=s)(h1:∀pc md,s≠.at pc md)(h2:∀pc md,s'≠.at pc md):Q.Df (C.w1 k s') fu=Q.Df C fu:=by
 funext i;cases i with
 |zero=>rfl
 |succ i=>
  show(match upd _ k s' i with|.at pc _=>Q.WS (Q.ch C i) _ pc|_=>fun _ _ _ _=>True)=(match C.ks i with|.at pc _=>Q.WS _ _ pc|_=>fun _ _ _ _=>True)
  by_cases hi:i=k
  ·subst hi;rw[upd_same,e];simp_all
  ·rw[upd_ne _ _ hi]
theorem bA.MI.agD(M:Q.MI C nd fu gs w t q rel)(hQ:Q.Laws)(h:CI Q.J Q.cO C)(bJ:Calm Q.J C){s s':de Q.E}(hk:k<C.j)(e:C.ks k=s)(jI:∀e∈es,e.mute=true)
  (hs:(∃i n,s=.dV i (n+1)/\s'=.dV i n/\es=#[]/\Env.rj Q.P (Q.E.EW Q.P i) n g1)\/(∃n,s=.qt (n+1)/\s'=.qt n/\QuitsD Q.P n (deafBehind (Deaf t (Q.b+k)) es) g1))(fn:FuncId)(pos:String):
  Q.pQ C nd fu q (crowd ((gs.map (woken Q.P g g1 w)).setIfInBounds (Q.b+k) g1) w sl) (t++akR (Q.b+k) fn pos es):=by
 have aV:Q.b+k<gs.size:=by rw[M.size];omega
 have ll:k<Q.J.n:=akV hk h.jn;have na:∀pc md,s≠.at pc md:=by rcases hs with⟨i,n,rfl,_⟩|⟨n,rfl,_⟩<;>nofun
 have XJ:∀pc md,s'≠.at pc md:=by rcases hs with⟨i,n,_,rfl,_⟩|⟨n,_,rfl,_⟩<;>nofun
 have hl:lY s=.out/\lY s'=.out:=by rcases hs with⟨i,n,rfl,rfl,_⟩|⟨n,rfl,rfl,_⟩<;>exact⟨rfl,rfl⟩
 have hr:Ci s'=Ci s/\wv s'=wv s/\oK s'=oK s/\py s'=py s/\Gone s/\s'≠.no/\(∀y,px y s=0)/\F8 s'<F8 s:=by
  rcases hs with⟨i,n,rfl,rfl,_⟩|⟨n,rfl,rfl,_⟩
  ·exact⟨rfl,rfl,rfl,rfl,trivial,nofun,fun _=>rfl,by show n<n+1;omega⟩
  ·exact⟨rfl,rfl,rfl,rfl,trivial,nofun,fun _=>rfl,by show n<n+1;omega⟩
 have h1:CI Q.J Q.cO (C.w1 k s'):=h.slip hk e hl.1 hl.2 hr.2.2.2.2.2.1 XJ hr.2.2.2.2.2.2.1 (fun γ md=>na _ _) (by rw[hr.2.1]) (fun _ _ y=>by rw[hr.2.2.1,hr.2.2.2.1];exact y) hr.2.2.2.2.1 (fun i n e'=>by
  rcases hs with⟨i',n',rfl,rfl,_⟩|⟨n',rfl,rfl,_⟩
  ·cases e';exact h.dV k _ _ e
  ·cases e') (akS _)
 have mW:mu Q.J (C.w1 k s')=mu Q.J C:=N3 ll e hr.1 (hl.2.trans hl.1.symm);have us:(C.w1 k s').ks k=s':=upd_same _ _ _;have M1:=M.wsn (C':=C.w1 k s') (g1:=g1) (w1:=w) (ops:=akR (Q.b+k) fn pos es) (fZ:=rel) hQ hk rfl rfl rfl rfl (fun i hi=>upd_ne _ _ hi) (by
   rw[us];rcases hs with⟨i,n,rfl,rfl,_,hq⟩|⟨n,rfl,rfl,hq⟩
   ·exact⟨g1,akQ aV,hq⟩
   ·exact⟨g1,akQ aV,by rw[Deaf_own];exact hq⟩) (fun S=>.refl _ _ _) rfl (ak5 mW) rfl (M.wd.cfg rfl rfl rfl rfl rfl (fun e=>⟨e,rfl⟩) rfl rfl rfl)
   (M.tr.still fun op bg=>by
    obtain⟨ev,he,rfl⟩:=eD bg;refine⟨touch_mute (jI ev he),?_,?_,by show Q.b+k<Q.b+C.j;omega⟩
    ·intro y;have:=jI ev he;obtain⟨loc,wr,sy⟩:=ev;cases loc<;>simp_all[alg,akZ]
    ·intro y;have:=jI ev he;obtain⟨loc,wr,sy⟩:=ev;cases loc<;>simp_all[alg,akZ]) jG (fun hq=>by
   rw[us];rcases hs with⟨i,n,rfl,rfl,rfl,_⟩|⟨n,rfl,rfl,_⟩
   ·rw[Deaf_own];have:=M.iX k hk (fun q y=>by rw[e]at y;cases y);rw[e]at this;exact this
   ·rw[us]at hq;exact absurd rfl (hq n)) (by
   rw[us,M.uz k hk,e];rcases hs with⟨i,n,rfl,rfl,_⟩|⟨n,rfl,rfl,_⟩<;>exact alx) (fun _ _=>rfl) (fun op bg=>by
   obtain⟨ev,he,rfl⟩:=eD bg;exact⟨low_mute (jI ev he) _,fun a=>AE (jI ev he) a⟩)
 have jH:Calm Q.J (C.w1 k s'):=lp (s':=s') (k:=k) (m':=C.m) (c':=C.c) (v':=C.v) (eP:=C.wt) (eI:=C.ws) (qL:=C.γ) (qM:=C.dn) (eZ:=C.tok) bJ (fun _=>XJ _ _) (fun _=>XJ _ _) id fun _ y=>y;obtain⟨C2,h2,vB,mc,M2⟩:=akX (g:=g) hQ h1 M1 (.inl jH) jH.uq;obtain⟨e1,e2⟩:=c_ (fu:=fu) h2;exact⟨C2,_,_,_,_,sl,_,_,rfl,vB,mc,M2,.inr ⟨e1.trans mW,e2.trans (acp e na XJ),.inr ⟨rfl,agC ll e hr.2.2.2.2.2.2.2 hQ.n8 h2⟩⟩⟩
end
section
variable{Q:bA}{nd:Nat->Nd}{fu:Nat->Nat}{C C':jE Q.E}{w w':World}{gs iQ:Array Goroutine}{t t':Trace}{q:Nat->Nat}{rel fZ:Nat->Option Nat}{sl:Option (Nat×Nat)}
theorem bA.MI.wd4(M:Q.MI C nd fu gs w t q rel)(hQ:Q.Laws)(h:CI Q.J Q.cO C)(bJ:Calm Q.J C)(hk:k<C.j)(e:C.ks k=.dV 4 0)(Hh:Env.rj Q.P (Q.E.EW Q.P 3) n g1)(fn:FuncId)(pos:String):
  Q.pQ C nd fu q (crowd ((gs.map (woken Q.P g g1 w)).setIfInBounds (Q.b+k) g1) w sl) (t++akR (Q.b+k) fn pos #[⟨.mark .disable,false,true⟩]):=by
 have aV:Q.b+k<gs.size:=by rw[M.size];omega
 have h1:CI Q.J Q.cO (C.w1 k (.dV 3 n)):=h.slip hk e rfl rfl nofun nofun (fun y=>rfl) nofun rfl (fun _ _ y=>y) trivial (fun i n e=>by cases e;omega) (akS _);have mW:mu Q.J (C.w1 k (.dV 3 n))<mu Q.J C:=N1 hQ.n8 h.c1 (akV hk h.jn) e (by show 4<5;omega);have us:(C.w1 k (.dV 3 n)).ks k=.dV 3 n:=upd_same _ _ _;have M1:=M.wsn (C':=C.w1 k (.dV 3 n)) (g1:=g1) (w1:=w) (ops:=akR (Q.b+k) fn pos #[⟨.mark .disable,false,true⟩]) (fZ:=rel) hQ hk rfl rfl rfl rfl (fun i hi=>upd_ne _ _ hi) (by
   rw[us];exact⟨g1,akQ aV,Hh⟩) (fun S=>.refl _ _ _) rfl (akY mW) rfl (M.wd.cfg rfl rfl rfl rfl rfl (fun e=>⟨e,rfl⟩) rfl rfl rfl)
   (M.LP (by omega) fn pos (.inl rfl)) jG (fun _=>by
   rw[us,Deaf_own,M.iX k hk (fun q y=>by rw[e]at y;cases y),e];rfl) (by
   rw[us,M.uz k hk,e];exact alx) (fun _ _=>rfl) (iZ ⟨trivial,nofun⟩)
 have jH:Calm Q.J (C.w1 k (.dV 3 n)):=lp (s':=.dV 3 n) (k:=k) (m':=C.m) (c':=C.c) (v':=C.v) (eP:=C.wt) (eI:=C.ws) (qL:=C.γ) (qM:=C.dn) (eZ:=C.tok) bJ nofun nofun id fun _ y=>y;obtain⟨C2,h2,vB,mc,M2⟩:=akX (g:=g) hQ h1 M1 (.inl jH) jH.uq;exact⟨C2,_,_,_,_,sl,_,_,rfl,vB,mc,M2,.inl (by rw[(c_ (fu:=fu) h2).1];exact mW)⟩
theorem bA.MI.TR(M:Q.MI C nd fu gs w t q rel)(hQ:Q.Laws)(h:CI Q.J Q.cO C)(bJ:Calm Q.J C){s':de Q.E}(hk:k<C.j)(e:C.ks k=.dV i 0)(hi:i<=3){w1:World}(he:Env.Eff Q.E.Wg w w1)(Dt:Q.E.WgAt w1 v' eP eI)(jI:Env.EvA Q.E.Wg es)
  (hs:(∃i' n,s'=.dV i' n/\i'<i/\Env.rj Q.P (Q.E.EW Q.P i') n g1)\/(∃n,s'=.qt n/\QuitsD Q.P n 1 g1))(NT:v'+wv s'=C.v+wv (.dV i 0:de Q.E))(ph:∀e2 e0,E5 C.d C.v C.wt C.ws (e2+oK (.dV i 0:de Q.E)) (e0+py (.dV i 0:de Q.E))->E5 C.d v' eP eI (e2+oK s') (e0+py s'))(hvd:jg Q.J v' C.d<=jg Q.J C.v C.d)(hvv:v'<=C.v)
  (hwk:(C.dm=.blk->C.ws=0->eI=0)\/(mayWake Q.P g=true/\(g1.status=.running\/g1.status=.finished)))(fn:FuncId)(pos:String):
  Q.pQ C nd fu q (crowd ((gs.map (woken Q.P g g1 w1)).setIfInBounds (Q.b+k) g1) w1 sl) (t++akR (Q.b+k) fn pos es):=by
 have aV:Q.b+k<gs.size:=by rw[M.size];omega
 have ll:k<Q.J.n:=akV hk h.jn;have XJ:∀pc md,s'≠.at pc md:=by rcases hs with⟨i,n,rfl,_⟩|⟨n,rfl,_⟩<;>nofun
 have h1:CI Q.J Q.cO (C.wk k s' C.d C.dm C.m C.c v' eP eI C.γ C.dn C.tok):=h.slip hk e rfl (by rcases hs with⟨i,n,rfl,_⟩|⟨n,rfl,_⟩<;>rfl) (by rcases hs with⟨i,n,rfl,_⟩|⟨n,rfl,_⟩<;>nofun) XJ (fun y=>rfl) nofun NT ph trivial (fun i' n e'=>by
  rcases hs with⟨i,n,rfl,h5,_⟩|⟨n,rfl,_⟩
  ·cases e';omega
  ·cases e') hvv
 have mW:mu Q.J (C.wk k s' C.d C.dm C.m C.c v' eP eI C.γ C.dn C.tok)<mu Q.J C:=by
  refine LH hQ.n8 h.c1 ?_;have:=sE (C:=C) (J:=Q.J) (s':=s') (d':=C.d) (qi:=C.dm) (m':=C.m) (c':=C.c) (v':=v') (eP:=eP) (eI:=eI) (qL:=C.γ) (qM:=C.dn) (eZ:=C.tok) ll e;have hr:Ci s'<i+1:=by
   rcases hs with⟨i',n,rfl,h5,_⟩|⟨n,rfl,_⟩
   ·show i'+1<i+1;omega
   ·show 0<i+1;omega
  have hr0:Ci (de.dV i 0:de Q.E)=i+1:=rfl;omega
 have rk:Deaf t (Q.b+k)=1:=by
  rw[M.iX k hk (fun q y=>by rw[e]at y;cases y),e];show(if i<=3 then 1 else 0)=1
  rw[if_pos hi]
 have us:(C.wk k s' C.d C.dm C.m C.c v' eP eI C.γ C.dn C.tok).ks k=s':=upd_same _ _ _;have M1:=M.wsn (C':=C.wk k s' C.d C.dm C.m C.c v' eP eI C.γ C.dn C.tok) (g1:=g1) (w1:=w1) (ops:=akR (Q.b+k) fn pos es) (fZ:=rel) hQ hk rfl rfl rfl rfl (fun i hi=>upd_ne _ _ hi) (by
   rw[us];rcases hs with⟨i',n,rfl,_,hq⟩|⟨n,rfl,hq⟩
   ·exact⟨g1,akQ aV,hq⟩
   ·exact⟨g1,akQ aV,by rw[Deaf_own,uy jI,rk];exact hq⟩) (fun S=>E8 S M.wd.wg Dt he) he.size (akY mW) rfl ((M.wd.gp hQ M.bT h.len he Dt).cfg rfl rfl rfl rfl rfl (fun e=>⟨e,rfl⟩) rfl rfl rfl)
   (M.tr.app (.inr ⟨ak3 _ _,by omega⟩) (AB jI (.inr rfl) _) (fun _ p hp i x hi hx hm=>by
    obtain⟨h1,h2,a,h3,h4,h5⟩:=Cj jI (by omega) i x hi hx hm;exact⟨hQ.shU _ (by rw[h3];exact⟨.inr h4,h5⟩),h1,h2⟩)) jG (fun hq=>by
   rw[us,Deaf_own,uy jI,rk];rcases hs with⟨i',n,rfl,h5,_⟩|⟨n,rfl,_⟩
   ·show 1=(if i'<=3 then 1 else 0)
    rw[if_pos (by omega)]
   ·rw[us]at hq;exact absurd rfl (hq n)) (by
   rw[us,M.uz k hk,e];rcases hs with⟨i',n,rfl,_⟩|⟨n,rfl,_⟩<;>exact alx) (fun _ _=>rfl) (AD jI (M.bT.kj _ hQ.rw) _)
 have hp:∀i,C.dm=.fH->C.d=.send C.L i->∀pc,(C.wk k s' C.d C.dm C.m C.c v' eP eI C.γ C.dn C.tok).ks (i%Q.J.n)≠.at pc .fH:=by
  intro i h1 h2 Xw hi;change upd C.ks k _ _=_ at hi;by_cases e:i%Q.J.n=k
  ·rw[e,upd_same]at hi;exact absurd hi (XJ _ _)
  ·rw[upd_ne _ _ e]at hi;exact bJ.uq i h1 h2 Xw hi
 have jH:Calm Q.J (C.wk k s' C.d C.dm C.m C.c v' eP eI C.γ C.dn C.tok)\/(mayWake Q.P g=true/\(g1.status=.running\/g1.status=.finished)):=
  hwk.imp (fun y=>lp (s':=s') (k:=k) (m':=C.m) (c':=C.c) (v':=v') (eP:=eP) (eI:=eI) (qL:=C.γ) (qM:=C.dn) (eZ:=C.tok) bJ (fun _=>XJ _ _) (fun _=>XJ _ _) id y) id
 obtain⟨C2,h2,vB,mc,M2⟩:=akX (g:=g) hQ h1 M1 jH hp;exact⟨C2,_,_,_,_,sl,_,_,rfl,vB,mc,M2,.inl (by rw[(c_ (fu:=fu) h2).1];exact mW)⟩
theorem bA.MI.offers(M:Q.MI C nd fu gs w t q rel)(hQ:Q.Laws)(hg:gs[i]?=some g)(c:Nat)(send:Bool):offersAt g c send=[]\/(i=0/\C.dm=.fH)\/∃k pc,i=Q.b+k/\k<C.j/\C.ks k=.at pc .fH:=by
 have mK:=M.size;have aV:=(ak7.1 hg).1;rcases alf i with rfl|t_
 ·have h0:=M.g0;have f0:=M.Ck (akT _);cases hm:C.dm with
  |run=>
   rw[hm]at h0;obtain rfl:=akU (hg.symm.trans h0.1);exact .inl (offersAt_of_not_blocked (by rw[f_ h0.2 fun y=>(mU f0 y).1];nofun) _ _)
  |blk=>
   rw[hm]at h0;obtain rfl:=akU (hg.symm.trans h0.1);unfold offersAt;simp[h0.2.1]
  |fH=>exact .inr (.inl ⟨rfl,rfl⟩)
  |rG=>rw[hm]at h0;exact h0.elim
 ·by_cases BQ:i<Q.b
  ·have:=(M.old i g t_ BQ hg).status;exact .inl (offersAt_of_not_blocked (by rcases this with y|y<;>rw[y]<;>nofun) _ _)
  ·obtain⟨k,rfl⟩:∃k,i=Q.b+k:=⟨i-Q.b,by omega⟩;have hk:k<C.j:=by omega
   have hs:=M.wk k hk;have fk:=M.Ck hk;cases hc:C.ks k with
   |no=>rw[hc]at hs;exact hs.elim
   |«at» pc md=>
    rw[hc]at hs;obtain⟨h1,h2,h3⟩:=hs;obtain rfl:=akU (hg.symm.trans h1);cases md with
    |run=>exact .inl (offersAt_of_not_blocked (by show(nd _).g.status≠_;rw[f_ h2 fun y=>(fP hQ fk y).1];nofun) _ _)
    |blk=>
     have:=(fP hQ fk (h3 nofun)).2;unfold offersAt;simp[TI,this]
    |fH=>exact .inr (.inr ⟨k,pc,rfl,hk,hc⟩)
    |rG=>exact .inl (offersAt_of_not_blocked (by nofun) _ _)
   |dV i n=>
    rw[hc]at hs;obtain⟨g',h1,h2⟩:=hs;obtain rfl:=akU (hg.symm.trans h1);exact .inl (offersAt_of_not_blocked (by rw[mV h2];nofun) _ _)
   |qt q'=>
    rw[hc]at hs;obtain⟨g',h1,h2⟩:=hs;obtain rfl:=akU (hg.symm.trans h1);exact .inl (offersAt_of_not_blocked (by rcases h2.status with y|y<;>rw[y]<;>nofun) _ _)
theorem bA.MI.Du(M:Q.MI C nd fu gs w t q rel){pc:Q.E.vz}(hk:k<C.j)(e:C.ks k=.at pc .fH):gs[Q.b+k]?=some (parked (nd (k+1)).g #[rcase (Q.ch C k) Q.E.zc] (.recv true)):=by
 have:=M.wk k hk;rw[e]at this;exact this.1
theorem wX(h:CI Q.J Q.cO C){k':Nat}(hk:k<C.j)(oo:k'<C.j)(e:Q.ch C k=Q.ch C k'):k=k':=by
 unfold bA.ch at e;rw[akW,akW,alj (by rw[h.len];exact hk),alj (by rw[h.len];omega)]at e;have hp:=List.pairwise_iff_getElem.1 h.nod;have e':=e;rcases Nat.lt_trichotomy k k' with y|y|y
 ·simp_all
 ·exact y
 ·exact absurd e'.symm (hp k' k _ _ y)
theorem bA.MI.acr(M:Q.MI C nd fu gs w t q rel)(hQ:Q.Laws)(h:CI Q.J Q.cO C)(hk:k<C.j)(hn:∀pc,C.ks k≠.at pc .fH)(h0:i0=0):partners (gs.setIfInBounds i0 ph) (Q.ch C k) false=[]:=by
 refine partners_nil fun i g hg=>?_;rcases getElem?_stand gs i0 i g hg with⟨_,rfl⟩|⟨bj,vO⟩
 ·rfl
 ·rcases M.offers hQ vO _ _ with y|⟨rfl,_⟩|⟨k',pc,rfl,oo,e⟩
  ·exact y
  ·omega
  ·obtain rfl:=akU (vO.symm.trans (M.Du oo e));rw[offersAt_parked_recv,if_neg];intro e';have:=wX h oo hk e';simp_all
theorem bA.MI.noSend(M:Q.MI C nd fu gs w t q rel)(hQ:Q.Laws)(h:CI Q.J Q.cO C)(hk:k<C.j)(hn:∀i,C.dm=.fH->C.d=.send C.L i->i%Q.J.n≠k):partners (gs.setIfInBounds i0 ph) (Q.ch C k) true=[]:=by
 refine partners_nil fun i g hg=>?_;rcases getElem?_stand gs i0 i g hg with⟨_,rfl⟩|⟨bj,vO⟩
 ·rfl
 ·rcases M.offers hQ vO _ _ with y|⟨rfl,hm⟩|⟨k',pc,rfl,oo,e⟩
  ·exact y
  ·have h0:=M.g0;rw[hm]at h0;obtain⟨_,i,c,x,z,N5,e1,e2,e3,e4,e5,e6⟩:=h0;obtain rfl:=akU (vO.symm.trans e5);rw[offersAt_parked_send,if_neg];intro e';subst e';have V8:=by
    have:=(alh.1 e3).1;rw[h.len]at this;omega
   have:Q.ch C (i%Q.J.n)=Q.ch C k:=by
    unfold bA.ch at e3⊢;simp_all
   exact hn i hm e1 (wX h V8 hk this)
  ·obtain rfl:=akU (vO.symm.trans (M.Du oo e));rw[offersAt_parked_recv']
theorem bA.MI.XK(M:Q.MI C nd fu gs w t q rel)(hQ:Q.Laws)(h:CI Q.J Q.cO C){pc:Q.E.vz}(hk:k<C.j)(e:C.ks k=.at pc .fH):partners (gs.setIfInBounds 0 ph) (Q.ch C k) false=[(Q.b+k,0)]:=by
 have hb:=hQ.b0;have hp:=M.Du hk e;rw[partners_one (j:=Q.b+k) (by rw[bW (by omega)];exact hp) (fun i g bj hg=>?_),offersAt_parked_recv,if_pos rfl]
 ·rfl
 ·rcases getElem?_stand gs 0 i g hg with⟨_,rfl⟩|⟨abZ,vO⟩
  ·rfl
  ·rcases M.offers hQ vO _ _ with y|⟨rfl,_⟩|⟨k',eK,rfl,oo,e'⟩
   ·exact y
   ·omega
   ·obtain rfl:=akU (vO.symm.trans (M.Du oo e'));rw[offersAt_parked_recv,if_neg];intro e2;have:=wX h oo hk e2;omega
theorem bA.MI.XL(M:Q.MI C nd fu gs w t q rel)(hQ:Q.Laws)(h0:gs[0]?=some (parked g0 #[scase (Q.ch C k) v z] .send)):partners (gs.setIfInBounds (Q.b+k) ph) (Q.ch C k) true=[(0,0)]:=by
 have hb:=hQ.b0;rw[partners_one (j:=0) (by rw[bW (by omega)];exact h0) (fun i g bj hg=>?_),offersAt_parked_send,if_pos rfl]
 ·rfl
 ·rcases getElem?_stand gs _ i g hg with⟨_,rfl⟩|⟨abZ,vO⟩
  ·rfl
  ·rcases M.offers hQ vO _ _ with y|⟨rfl,_⟩|⟨k',eK,rfl,oo,e'⟩
   ·exact y
   ·omega
   ·obtain rfl:=akU (vO.symm.trans (M.Du oo e'));rw[offersAt_parked_recv']
theorem bA.MI.hand(M:Q.MI C nd fu gs w t q rel)(hQ:Q.Laws)(h:CI Q.J Q.cO C)(bJ:Calm Q.J C){f0:Nat}{md:Md}(hk:k<C.j)(e:C.ks k=.at .recv md)(hd:C.d=.send C.L i)(hki:i%Q.J.n=k)(hx:Q.J.ay[i]?=some x)(hf:fu 0=f0+1){ops:Array MemOp}(hs:gq w (Q.ch C k) s)
  (h0:iQ[0]?=some g0)(h1:iQ[Q.b+k]?=some gk)(ho:∀i,i≠0->i≠Q.b+k->iQ[i]?=gs[i]?)(mK:iQ.size=gs.size)
  (t0:Q.E.Tree Q.P true (Q.DS f0 (Q.J.sends C.L (i+1))) (nd 0).S (nd 0).X g0 (w.setChan (Q.ch C k) 0 #[] false (s+1) (s+1) false))(tk:Q.E.Tree Q.P false (Q.WS (Q.ch C k) (fu (k+1)) (.ld x)) (nd (k+1)).S (nd (k+1)).X gk (w.setChan (Q.ch C k) 0 #[] false (s+1) (s+1) false))
  (anX:∀op∈ops,op.act.touch?=none/\op.act≠.mark (.release Q.E.mu)/\op.act≠.mark (.release Q.E.st)/\op.g<Q.b+C.j)(rk:∀g,Deaf (t++ops) g=Deaf t g)(bY:∀op∈ops,Seen w.heap.size op):
  Q.pQ C nd fu q (crowd iQ (w.setChan (Q.ch C k) 0 #[] false (s+1) (s+1) false) sl) (t++ops):=by
 have hb:=hQ.b0;obtain⟨hC,mW⟩:=h.hand hQ.n0 hQ.n8 hk e hd hx;have us:(C.hand Q.J k x i).ks k=.at (.ld x) .run:=upd_same _ _ _;have un:∀i',i'≠k->(C.hand Q.J k x i).ks i'=C.ks i':=fun i' eO=>upd_ne _ _ eO;have hcS:∀i',i'<=C.j->¬(nd i').S (Q.ch C k):=(M.bT.H_ _ (kG h.len hk)).2.2.2;have LS:(w.setChan (Q.ch C k) 0 #[] false (s+1) (s+1) false).heap.size=w.heap.size:=by simp[ak8]
 have acs:=(M.bT.H_ _ (kG h.len hk)).1;have hcd:aU Q.J (Q.J.sends C.L (i+1))=aU Q.J C.d:=by
  rw[hd];rcases kh (J:=Q.J) (L:=C.L) (i:=i+1)with⟨_,h2⟩|⟨_,h2⟩<;>rw[h2]<;>rfl
 have Z3:mT (Q.J.sends C.L (i+1))=mT C.d:=by
  rw[hd];rcases kh (J:=Q.J) (L:=C.L) (i:=i+1)with⟨_,h2⟩|⟨_,h2⟩<;>rw[h2]<;>rfl
 have rI:∀a,a≠Q.ch C k->(w.setChan (Q.ch C k) 0 #[] false (s+1) (s+1) false).heap[a]?=w.heap[a]?:=fun a ha=>by
  simp only[ak8];rw[alb (fun y=>ha y.symm)]
 have nB:=M.bT.H_ _ (kG h.len hk)
 let n0:Nd:=⟨(nd 0).S,(nd 0).X,g0,w.setChan (Q.ch C k) 0 #[] false (s+1) (s+1) false⟩
 let nk:Nd:=⟨(nd (k+1)).S,(nd (k+1)).X,gk,w.setChan (Q.ch C k) 0 #[] false (s+1) (s+1) false⟩
 have ek0:upd (upd nd 0 n0) (k+1) nk 0=n0:=by rw[upd_ne _ _ (by omega),upd_same]
 have ekk:upd (upd nd 0 n0) (k+1) nk (k+1)=nk:=upd_same _ _ _;have eko:∀i',i'≠0->i'≠k+1->upd (upd nd 0 n0) (k+1) nk i'=nd i':=fun i' h1 h2=>by rw[upd_ne _ _ h2,upd_ne _ _ h1]
 have fe0:upd fu 0 f0 0=f0:=upd_same _ _ _;have feo:∀i',i'≠0->upd fu 0 f0 i'=fu i':=fun i' h1=>upd_ne _ _ h1;have M1:Q.MI (C.hand Q.J k x i) (upd (upd nd 0 n0) (k+1) nk) (upd fu 0 f0) iQ (w.setChan (Q.ch C k) 0 #[] false (s+1) (s+1) false) (t++ops) q rel:=by
  refine⟨mK.trans M.size,?_,fun i' eO=>?_,fun i' g eO BQ hg=>?_,fun i' eO=>?_,fun i' eO=>?_,?_,?_,?_,?_,fun i' eO hq=>?_,fun i' eO=>?_,fun i' eO=>?_,M.Ib,du M.seen (ak5 LS.symm) (by rw[LS];exact bY)⟩
  ·rw[ek0,fe0];exact⟨h0,t0⟩
  ·rw[feo _ (by omega)];by_cases ei:i'=k
   ·subst ei;rw[ekk,us];exact⟨h1,tk,fun y=>absurd rfl y⟩
   ·rw[eko _ (by omega) (by omega),un i' ei];exact(M.wk i' eO).keep (ho _ (by omega) (by omega)) (rk _)
  ·rw[ho i' (by omega) (by omega)]at hg;rw[rk];exact M.old i' g eO BQ hg
  ·by_cases ei:i'=0
   ·subst ei;rw[fe0];have:=M.fuel 0 (akT _);omega
   ·rw[feo _ ei];exact alc (akY mW) (M.fuel i' eO)
  ·by_cases ei:i'=0
   ·subst ei;rw[ek0];exact .refl _ _ _
   ·by_cases ek:i'=k+1
    ·subst ek;rw[ekk];exact .refl _ _ _
    ·rw[eko _ ei ek];exact(M.Ia i' eO).trans (jF (hcS i' eO))
  ·rw[LS];exact(M.bT.same (i:=0) (n':=n0) rfl rfl).same (i:=k+1) (n':=nk) (by rw[upd_ne _ _ (by omega)]) (by rw[upd_ne _ _ (by omega)])
  ·have hF:Q.E.Fd≠Q.ch C k:=fun y=>nB.2.1 (y▸hQ.rf);have hW:Q.E.Wg≠Q.ch C k:=fun y=>nB.2.1 (y▸hQ.rw);refine⟨?_,?_,fun y=>?_,fun i' eO hc=>?_,fun i' eO hc=>?_,M.wd.tape,M.wd.out⟩
   ·have:=M.wd.mu;unfold Env.MuAt at this⊢;rw[rI _ hF];exact this
   ·have:=M.wd.wg;unfold Env.WgAt at this⊢;rw[rI _ hW];exact this
   ·rw[rI _ fun y=>nB.2.2.1 y.symm];exact M.wd.map y
   ·have:¬i'<aU Q.J C.d:=by rw[hd];exact ak0 _
    exact absurd (hcd▸hc) this
   ·by_cases ei:i'=k
    ·subst ei;exact⟨s+1,by show(w.setChan _ 0 #[] false (s+1) (s+1) false).heap[Q.ch C i']?=_;simp only[ak8];rw[akQ acs]⟩
    ·obtain⟨s',qb⟩:=M.wd.opn i' eO (by rw[hd];exact ak0 _);refine⟨s',?_⟩;show(w.setChan _ 0 #[] false (s+1) (s+1) false).heap[Q.ch C i']?=_
     rw[rI _ fun y=>ei (wX h eO hk y)];exact qb
  ·have:Q.cls (upd (upd nd 0 n0) (k+1) nk) C.j C.L=Q.cls nd C.j C.L:=by
    unfold bA.cls;rw[bA.zl (i:=k+1) (n':=nk) (by rw[upd_ne _ _ (by omega)]),bA.zl (i:=0) (n':=n0) rfl]
   show PT Q.b C.j _ _ _ (Q.cls (upd (upd nd 0 n0) (k+1) nk) C.j C.L) _ (C.tok.map (Q.b+ ·)) rel
   rw[this];exact M.tr.still anX
  ·rw[rk,M.deaf0];exact Z3.symm
  ·rw[rk];by_cases ei:i'=k
   ·subst ei;rw[us,M.iX i' hk (fun q y=>by rw[e]at y;cases y),e];rfl
   ·rw[un i' ei]at hq⊢;exact M.iX i' eO hq
  ·rw[rk];exact M.above i' eO
  ·rw[M.uz i' eO];by_cases ei:i'=k
   ·subst ei;rw[us,e];exact alx
   ·rw[un i' ei]
 refine⟨_,_,_,_,_,sl,_,_,rfl,hC,⟨fun i' pc eO=>?_,fun i' pc eO=>?_,nofun,nofun⟩,M1,.inl mW⟩
 ·by_cases ei:i'=k
  ·subst ei;rw[us]at eO;cases eO
  ·rw[un i' ei]at eO;exact bJ.blk i' pc eO
 ·by_cases ei:i'=k
  ·subst ei;rw[us]at eO;cases eO
  ·rw[un i' ei]at eO;show¬i'<aU Q.J (Q.J.sends C.L (i+1))
   rw[hcd];exact bJ.fH i' pc eO
theorem nX{ops:Array MemOp}(h:∀op∈ops,op.act≠.mark .disable/\op.act≠.mark .enable)(g:Nat):Deaf (t++ops) g=Deaf t g:=by
 obtain⟨l⟩:=ops;rw[Deaf_append];have:∀(l:List _) (d:Nat),(∀op∈l,op.act≠.mark .disable/\op.act≠.mark .enable)->l.foldl (deafStep g) d=d:=by
  intro l;induction l with
  |nil=>intro d _;rfl
  |cons a l ih=>
   intro d hl;rw[List.foldl_cons];have h1:=hl a (by simp);have:deafStep g d a=d:=by
    unfold deafStep;simp_all
   simp_all
 simp_all
theorem bA.MI.agE(M:Q.MI C nd fu gs w t q rel)(hQ:Q.Laws)(h:CI Q.J Q.cO C)(bJ:Calm Q.J C){md:Md}(hk:k<C.j)(e:C.ks k=.at .recv md)(hc:k<aU Q.J C.d)(ht:∀f,Q.E.Tree Q.P false (Q.WS (Q.ch C k) f .wr) (nd (k+1)).S (nd (k+1)).X gk w)(fn:FuncId)(pos:String):
  Q.pQ C nd fu q (crowd (gs.setIfInBounds (Q.b+k) gk) w sl) (t++#[{g:=Q.b+k,fn,pos,act:=.recvClosed (Q.ch C k)}]):=by
 have aV:Q.b+k<gs.size:=by rw[M.size];omega
 obtain⟨h1,mW⟩:=h.shut hQ.n8 hk e hc;have us:(C.w1 k (.at .wr .run)).ks k=.at .wr .run:=upd_same _ _ _;have rk:=nX (t:=t) (ops:=#[({g:=Q.b+k,fn,pos,act:=.recvClosed (Q.ch C k)}:MemOp)]) (bL ⟨nofun,nofun⟩);have M1:=M.bc (C':=C.w1 k (.at .wr .run)) (f':=fu (k+1)) (g1:=gk) (w1:=w) (ops:=#[{g:=Q.b+k,fn,pos,act:=.recvClosed (Q.ch C k)}]) (fZ:=rel) hQ hk rfl rfl rfl rfl (fun i hi=>upd_ne _ _ hi) (by
   rw[us];exact⟨akQ aV,ht _,fun y=>absurd rfl y⟩) (fun S=>.refl _ _ _) rfl (alc (akY mW) (M.fuel (k+1) hk)) (akY mW) rfl (M.wd.cfg rfl rfl rfl rfl rfl (fun e=>⟨e,rfl⟩) rfl rfl rfl)
   (M.tr.still (bL ⟨rfl,nofun,nofun,by show Q.b+k<Q.b+C.j;omega⟩)) (bL rfl) (fun _=>by
   rw[us,rk,M.iX k hk (fun q y=>by rw[e]at y;cases y),e];rfl) (by
   rw[us,M.LN hk e];exact⟨(fun⟨p,hp⟩=>by cases hp),fun y=>y.elim⟩) (fun _ _=>rfl) (bL ⟨(M.bT.H_ _ (kG h.len hk)).1,nofun⟩)
 have jH:Calm Q.J (C.w1 k (.at .wr .run)):=lp (s':=.at .wr .run) (k:=k) (m':=C.m) (c':=C.c) (v':=C.v) (eP:=C.wt) (eI:=C.ws) (qL:=C.γ) (qM:=C.dn) (eZ:=C.tok) bJ nofun nofun id fun _ y=>y;exact⟨_,_,_,_,_,sl,_,_,rfl,h1,jH,M1,.inl mW⟩
end
section
variable{Q:bA}{nd:Nat->Nd}{fu:Nat->Nat}{C C':jE Q.E}{w w':World}{gs iQ:Array Goroutine}{t t':Trace}{q:Nat->Nat}{rel fZ:Nat->Option Nat}{sl:Option (Nat×Nat)}
theorem bA.MI.V_(M:Q.MI C nd fu gs w t q rel)(hQ:Q.Laws):0<gs.size:=by rw[M.size];have:=hQ.b0;omega
theorem bA.MI.agF(M:Q.MI C nd fu gs w t q rel)(hQ:Q.Laws)(h:CI Q.J Q.cO C)(bJ:Calm Q.J C)(TK:C.dm=.run){w1:World}{es:Array _}(hn:¬Q.DS (fu 0) C.d (nd 0).S (nd 0).X (nd 0).g (nd 0).w)
  (aA:stepG Q.P true (nd 0).g w=.go g1 w1 es)(hd:iF Q.E.U (nd 0).S (nd 0).X w w1 es S1 X1)(ht:Tz Q.P true Q.E.U (Q.DS (fu 0) C.d) S1 X1 g1 w1)(fn:FuncId)(pos:String):
  Q.pQ C nd fu q (crowd ((gs.map (woken Q.P (nd 0).g g1 w1)).setIfInBounds 0 g1) w1 sl) (t++akR 0 fn pos es):=by
 have aV:=M.V_ hQ;have M1:Q.MI C (upd nd 0 ⟨S1,X1,g1,w1⟩) (upd fu 0 (fu 0)) (gs.setIfInBounds 0 g1) w1 (t++akR 0 fn pos es) q rel:=by
  refine M.m0 hQ.b0 rfl rfl rfl rfl ?_ (fun i hi bj=>Ic M.bT (akT _) hi (fun y=>bj y.symm) hd) (.refl _ _ _) (M.fuel _ (akT _)) (akS _) (M.bT.did (akT _) hd) (M.wd.did M.bT hQ h.len (akT _) hd) ?_ ?_ (fun g hg=>Deaf_other t (fun y=>hg y.symm) _ jG) (du M.seen hd.grow (H9 hd (M.bT.low _ (akT _)) _))
  ·rw[TK];exact⟨akQ aV,ht⟩
  ·exact M.Z6 hQ (akT _) hd fn pos (fun y=>absurd rfl y)
  ·rw[Deaf_own,H8 hd];exact M.deaf0
 obtain⟨C2,h2,vB,mc,M2⟩:=akX hQ h M1 (.inl bJ) bJ.uq;obtain⟨e1,e2⟩:=c_ h2;refine⟨C2,_,_,_,_,sl,_,_,rfl,vB,mc,M2,.inr ⟨e1,e2,.inl ⟨0,by omega,?_,fun i _ hi=>upd_ne _ _ hi⟩⟩⟩;exact⟨hn,w,es,M.Ia _ (akT _),aA,hd⟩
theorem XM(bJ:Calm Q.J C){d':pJ}(vN:aU Q.J d'=aU Q.J C.d):Calm Q.J (C.dd d' .run v' eP eI):=
 ⟨bJ.blk,fun k pc hk=>by show¬k<aU Q.J d';rw[vN];exact bJ.fH k pc hk,nofun,nofun⟩
theorem bA.MI.N_(M:Q.MI C nd fu gs w t q rel)(hQ:Q.Laws)(h:CI Q.J Q.cO C)(bJ:Calm Q.J C){d':pJ}{f:Nat}{w1:World}{es:Array _}(hf:fu 0=f+1)(ht:Q.E.Tree Q.P true (Q.DS f d') (nd 0).S (nd 0).X g1 w1)
  (rl:∀i,i<=C.j->i≠0->aP Q.E.U (nd i).S w w1)(sz:w1.heap.size=w.heap.size)(h1:CI Q.J Q.cO (C.dd d' .run v' eP eI))(mW:mu Q.J (C.dd d' .run v' eP eI)<mu Q.J C)(wd:Q.Wd (C.dd d' .run v' eP eI) w1)(fn:FuncId)(pos:String)
  (tr:PT Q.b C.j Q.E.mu Q.E.st Q.dS (Q.cls nd C.j C.L) (t++akR 0 fn pos es) (C.tok.map (Q.b+ ·)) rel)(df:mT d'=deafBehind (mT C.d) es)(low:∀op∈akR 0 fn pos es,Seen w.heap.size op)(vN:aU Q.J d'=aU Q.J C.d\/(mayWake Q.P (nd 0).g=true/\(g1.status=.running\/g1.status=.finished))):
  Q.pQ C nd fu q (crowd ((gs.map (woken Q.P (nd 0).g g1 w1)).setIfInBounds 0 g1) w1 sl) (t++akR 0 fn pos es):=by
 have aV:=M.V_ hQ;have M1:Q.MI (C.dd d' .run v' eP eI) (upd nd 0 ⟨(nd 0).S,(nd 0).X,g1,w1⟩) (upd fu 0 f) (gs.setIfInBounds 0 g1) w1 (t++akR 0 fn pos es) q rel:=by
  refine M.m0 (C':=C.dd d' .run v' eP eI) hQ.b0 rfl rfl rfl rfl ?_ rl (.refl _ _ _) (by have:=M.fuel 0 (akT _);omega) (akY mW) (by rw[sz];exact M.bT.same rfl rfl) wd ?_ ?_ (fun g hg=>Deaf_other t (fun y=>hg y.symm) _ jG) (du M.seen (ak5 sz.symm) (by simp_all))
  ·exact⟨akQ aV,ht⟩
  ·unfold bA.cls;rw[bA.zl (n':=⟨(nd 0).S,(nd 0).X,g1,w1⟩) rfl];exact tr
  ·rw[Deaf_own,M.deaf0];exact df.symm
 obtain⟨C2,h2,vB,mc,M2⟩:=akX hQ h1 M1 (vN.imp (XM bJ) id) nofun;exact⟨C2,_,_,_,_,sl,_,_,rfl,vB,mc,M2,.inl (by rw[(c_ (fu:=fu) h2).1];omega)⟩
theorem bA.MI.Oa(M:Q.MI C nd fu gs w t q rel)(hQ:Q.Laws)(h:CI Q.J Q.cO C)(bJ:Calm Q.J C){d':pJ}{f:Nat}{m:Mark}(hm:m=.disable\/m=.enable)(hf:fu 0=f+1)(ht:Q.E.Tree Q.P true (Q.DS f d') (nd 0).S (nd 0).X g1 w)
  (h1:CI Q.J Q.cO (C.dd d' .run C.v C.wt C.ws))(hr:jg Q.J C.v d'<jg Q.J C.v C.d)(fn:FuncId)(pos:String)(df:mT d'=deafBehind (mT C.d) #[⟨.mark m,false,true⟩])(vN:aU Q.J d'=aU Q.J C.d):
  Q.pQ C nd fu q (crowd ((gs.map (woken Q.P (nd 0).g g1 w)).setIfInBounds 0 g1) w sl) (t++akR 0 fn pos #[⟨.mark m,false,true⟩]):=
 M.N_ hQ h bJ hf ht (fun _ _ _=>.refl _ _ _) rfl h1 (NY hr) (M.wd.cfg rfl rfl rfl rfl rfl (fun e=>⟨e,rfl⟩) rfl rfl vN) fn pos (M.LP (by have:=hQ.b0;omega) fn pos hm) df (iZ (by rcases hm with rfl|rfl<;>exact⟨trivial,nofun⟩)) (.inl vN)
theorem bA.MI.Z7(M:Q.MI C nd fu gs w t q rel)(hQ:Q.Laws)(h:CI Q.J Q.cO C)(bJ:Calm Q.J C){d':pJ}{f:Nat}{m:Mark}(hm:m=.read Q.E.sm\/m=.write Q.E.sm)(hf:fu 0=f+1)(ht:Q.E.Tree Q.P true (Q.DS f d') (nd 0).S (nd 0).X g1 w)
  (h1:CI Q.J Q.cO (C.dd d' .run C.v C.wt C.ws))(hr:jg Q.J C.v d'<jg Q.J C.v C.d)(fn:FuncId)(pos:String)(df:mT d'=mT C.d)(vN:aU Q.J d'=aU Q.J C.d):
  Q.pQ C nd fu q (crowd ((gs.map (woken Q.P (nd 0).g g1 w)).setIfInBounds 0 g1) w sl) (t++akR 0 fn pos #[⟨.mark m,false,true⟩]):=by
 have hU:Q.cls nd C.j C.L (.cell Q.E.sm)=.at:=by
  simp only[iW];rw[if_pos (⟨.inr rfl,by omega⟩)]
 refine M.N_ hQ h bJ hf ht (fun _ _ _=>.refl _ _ _) rfl h1 (NY hr) (M.wd.cfg rfl rfl rfl rfl rfl (fun e=>⟨e,rfl⟩) rfl rfl vN) fn pos ?_ ?_ (iZ ?_) (.inl vN)
 ·rw[dq];refine M.tr.app (.inl rfl) (bL ?_) fun y=>absurd rfl y;refine⟨rfl,?_,?_,fun x hx=>?_⟩
  ·rcases hm with rfl|rfl<;>nofun
  ·rcases hm with rfl|rfl<;>nofun
  ·rcases hm with rfl|rfl<;>simp[als,aly]at hx<;>subst hx<;>exact .inr (.inr (.inl ⟨hU,rfl,rfl⟩))
 ·rcases hm with rfl|rfl<;>exact df
 ·have:=M.bT.kj _ hQ.rw;rcases hm with rfl|rfl<;>exact⟨this,nofun⟩
theorem bA.MI.Ig(M:Q.MI C nd fu gs w t q rel)(hQ:Q.Laws)(h:CI Q.J Q.cO C)(bJ:Calm Q.J C){d':pJ}{f:Nat}{w1:World}{es:Array _}(hf:fu 0=f+1)(ht:Q.E.Tree Q.P true (Q.DS f d') (nd 0).S (nd 0).X g1 w1)(he:Env.Eff Q.E.Wg w w1)(Dt:Q.E.WgAt w1 v' eP eI)(jI:Env.EvA Q.E.Wg es)
  (h1:CI Q.J Q.cO (C.dd d' .run v' eP eI))(hr:jg Q.J v' d'<jg Q.J C.v C.d)(fn:FuncId)(pos:String)(df:mT d'=mT C.d)(vN:aU Q.J d'=aU Q.J C.d):
  Q.pQ C nd fu q (crowd ((gs.map (woken Q.P (nd 0).g g1 w1)).setIfInBounds 0 g1) w1 sl) (t++akR 0 fn pos es):=
 M.N_ hQ h bJ hf ht (fun _ _ _=>E8 _ M.wd.wg Dt he) he.size h1 (NY hr) ((M.wd.gp hQ M.bT h.len he Dt).cfg rfl rfl rfl rfl rfl (fun e=>⟨e,rfl⟩) rfl rfl vN) fn pos
  (M.tr.app (.inl rfl) (AB jI (.inr rfl) _) fun y=>absurd rfl y) (by rw[uy jI];exact df) (AD jI (M.bT.kj _ hQ.rw) _) (.inl vN)
theorem bA.MI.acu(M:Q.MI C nd fu gs w t q rel)(hQ:Q.Laws)(h:CI Q.J Q.cO C)(bJ:Calm Q.J C){f:Nat}(hk:k<C.j)(hd:C.d=.close C.L k)(hs:gq w (Q.ch C k) s)(hw:mayWake Q.P (nd 0).g=true)(ju:g1.status=.running)(hf:fu 0=f+1)
  (ht:Q.E.Tree Q.P true (Q.DS f (Q.J.closes C.L (k+1))) (nd 0).S (nd 0).X g1 (w.setChan (Q.ch C k) 0 #[] true s s false))(fn:FuncId)(pos:String):
  Q.pQ C nd fu q (crowd ((gs.map (woken Q.P (nd 0).g g1 (w.setChan (Q.ch C k) 0 #[] true s s false))).setIfInBounds 0 g1) (w.setChan (Q.ch C k) 0 #[] true s s false) sl) (t++akR 0 fn pos (closeEvents (Q.ch C k))):=by
 have nB:=M.bT.H_ _ (kG h.len hk);have H3:=h.HH;rw[hd]at H3;have hjn:C.j=Q.J.n:=H3.2.1;have ll:k<Q.J.n:=H3.2.2;have cl:aU Q.J (Q.J.closes C.L (k+1))=k+1:=by
  unfold ak9;by_cases y:k+1<C.L.length
  ·rw[if_pos y];rfl
  ·rw[if_neg y];show Q.J.n=k+1
   rw[h.len]at y;omega
 have cl0:aU Q.J C.d=k:=by rw[hd];rfl
 have mK:(w.setChan (Q.ch C k) 0 #[] true s s false).heap.size=w.heap.size:=by simp[ak8]
 have rI:∀a,a≠Q.ch C k->(w.setChan (Q.ch C k) 0 #[] true s s false).heap[a]?=w.heap[a]?:=fun a ha=>by
  simp only[ak8];rw[alb (fun y=>ha y.symm)]
 have hp0:∀e2 e0,E5 C.d C.v C.wt C.ws e2 e0->E5 (Q.J.closes C.L (k+1)) C.v C.wt C.ws e2 e0:=by
  intro e2 e0 hp;rw[hd]at hp;obtain⟨a1,a2,a3,a4⟩:=hp.early id;unfold ak9;split<;>exact .inl ⟨a1,a2,a3,a4,id,fun y=>y.elim⟩
 have h1:CI Q.J Q.cO (C.dd (Q.J.closes C.L (k+1)) .run C.v C.wt C.ws):=by
  refine h.dd ⟨nofun,nofun,nofun⟩ ?_ ?_ hp0 (by rw[cl,cl0];omega) ?_ (fun v0 e0=>by unfold ak9 at e0;split at e0<;>cases e0)
  ·rw[hd];unfold ak9;split<;>rfl
  ·rw[hd];unfold ak9;split<;>rfl
  ·unfold ak9;split
   ·rename_i y;rw[h.len]at y;exact⟨rfl,H3.2.1,by omega⟩
   ·exact H3.2.1
 have hr:jg Q.J C.v (Q.J.closes C.L (k+1))<jg Q.J C.v C.d:=by
  rw[hd];unfold ak9;split
  ·simp only[jg];omega
  ·simp only[jg];omega
 have hF:Q.E.Fd≠Q.ch C k:=fun y=>nB.2.1 (y▸hQ.rf);have hW:Q.E.Wg≠Q.ch C k:=fun y=>nB.2.1 (y▸hQ.rw);have aJ:Q.cls nd C.j C.L (.obj (Q.ch C k))=.own 0:=H4 nB.2.1 nB.2.2.1 (.inr ⟨rfl,kG h.len hk⟩) fun i' eO=>M.bT.uniq eO (.inr ⟨rfl,kG h.len hk⟩);refine M.N_ hQ h bJ hf ht (fun i hi _=>jF (nB.2.2.2 i hi)) mK h1 (NY hr) ⟨?_,?_,fun y=>?_,fun i' eO hc=>?_,fun i' eO hc=>?_,M.wd.tape,M.wd.out⟩ fn pos ?_ ?_ ?_ (.inr ⟨hw,.inl ju⟩)
 ·have:=M.wd.mu;unfold Env.MuAt at this⊢;rw[rI _ hF];exact this
 ·have:=M.wd.wg;unfold Env.WgAt at this⊢;rw[rI _ hW];exact this
 ·rw[rI _ fun y=>nB.2.2.1 y.symm];exact M.wd.map y
 ·change i'<aU Q.J (Q.J.closes C.L (k+1))at hc;rw[cl]at hc;by_cases ei:i'=k
  ·subst ei;refine⟨s,?_⟩;show(w.setChan _ 0 #[] true s s false).heap[Q.ch C i']?=_
   simp only[ak8];rw[akQ nB.1]
  ·obtain⟨s',qb⟩:=M.wd.shut i' eO (by rw[cl0];omega);refine⟨s',?_⟩;show(w.setChan _ 0 #[] true s s false).heap[Q.ch C i']?=_
   rw[rI _ fun y=>ei (wX h eO hk y)];exact qb
 ·change¬i'<aU Q.J (Q.J.closes C.L (k+1))at hc;rw[cl]at hc;obtain⟨s',qb⟩:=M.wd.opn i' eO (by rw[cl0];omega);refine⟨s',?_⟩;show(w.setChan _ 0 #[] true s s false).heap[Q.ch C i']?=_
  rw[rI _ fun y=>by have:=wX h eO hk y;omega];exact qb
 ·refine M.tr.app (g:=0) (.inl rfl) (fun op bg=>?_) fun y=>absurd rfl y;obtain⟨ev,he,rfl⟩:=eD bg;simp only[closeEvents,ak1,ak4,ak2,or_false]at he;rcases he with rfl|rfl
  ·refine⟨rfl,nofun,nofun,fun x hx=>?_⟩;simp only[akZ,als,aly]at hx;subst hx;exact .inr (.inr (.inr (.inr (.inr aJ))))
  ·exact⟨rfl,nofun,nofun,fun x hx=>by simp[akZ,als]at hx⟩
 ·rw[hd];have:deafBehind 0 (closeEvents (Q.ch C k))=0:=by simp[closeEvents,deafBehind]
  show mT (Q.J.closes C.L (k+1))=deafBehind 0 _
  rw[this];unfold ak9;split<;>rfl
 ·intro op bg;obtain⟨ev,he,rfl⟩:=eD bg;simp only[closeEvents,ak1,ak4,ak2,or_false]at he;rcases he with rfl|rfl
  ·exact⟨nB.1,nofun⟩
  ·exact⟨nB.1,nofun⟩
theorem agI{s s':de Q.E}(hk:k<Q.J.n)(e:C.ks k=s)(hs:F8 s'=F8 s)(hr:N8 s'<N8 s):Q.nu (C.w1 k s') q<Q.nu C q:=by
 have h3:=lZ (s':=s') F8 _ hk e;have h4:=lZ (s':=s') N8 _ hk e;show 10 *(sumTo Q.b q+sumTo _ (fun i=>F8 (upd _ k s' i)))+(N7 C.dm+sumTo _ (fun i=>N8 (upd _ k s' i)))<10 *(sumTo Q.b q+sumTo _ _)+(N7 _+sumTo _ _)
 omega
theorem agJ{pc:Q.E.vz}{md kg:Md}(e:C.ks k=.at pc md):Q.Df (C.w1 k (.at pc kg)) fu=Q.Df C fu:=by
 funext i;cases i with
 |zero=>rfl
 |succ i=>
  show(match upd C.ks k _ i with|.at pc _=>Q.WS (Q.ch C i) _ pc|_=>fun _ _ _ _=>True)=(match C.ks i with|.at pc _=>Q.WS (Q.ch C i) _ pc|_=>fun _ _ _ _=>True)
  by_cases hi:i=k
  ·subst hi;rw[upd_same,e]
  ·rw[upd_ne _ _ hi]
theorem bA.MI.Z8(M:Q.MI C nd fu gs w t q rel)(hQ:Q.Laws)(h:CI Q.J Q.cO C)(bJ:Calm Q.J C){pc:Q.E.vz}{kg:Md}(hk:k<C.j)(e:C.ks k=.at pc .run)(aA:Q.WS (Q.ch C k) (fu (k+1)) pc (nd (k+1)).S (nd (k+1)).X (nd (k+1)).g (nd (k+1)).w)
  (N0:(kg=.blk/\(∃sv x,pc=.lk (.s1 sv) x)/\C.c=0)\/(kg=.fH/\pc=.recv/\¬k<aU Q.J C.d/\∀i,C.dm=.fH->C.d=.send C.L i->i%Q.J.n≠k)):
  Q.pQ C nd fu q (crowd (gs.setIfInBounds (Q.b+k) (TI (Q.ch C k) Q.E.zc kg (nd (k+1)).g)) w sl) (t++#[]):=by
 have aV:Q.b+k<gs.size:=by rw[M.size];omega
 have ll:k<Q.J.n:=akV hk h.jn;have h1:CI Q.J Q.cO (C.w1 k (.at pc kg)):=by
  refine h.quiet hk e rfl (fun y=>rfl) (fun γ y=>?_) (fun γ y=>?_) ?_ (fun y=>?_) (fun p x y=>h.Rr k p x .run (by rw[e,y])) (fun p y=>h.LF k p .run (by rw[e,y]))
  ·simp_all
  ·simp_all
  ·rcases N0 with⟨rfl,h2,_⟩|⟨rfl,rfl,_⟩
   ·simp_all
   ·simp
  ·rcases N0 with⟨rfl,⟨sv,x,rfl⟩,_⟩|⟨rfl,rfl,_⟩<;>exact y.elim
 have mW:mu Q.J (C.w1 k (.at pc kg))=mu Q.J C:=N3 ll e rfl rfl;have us:(C.w1 k (.at pc kg)).ks k=.at pc kg:=upd_same _ _ _;have un:∀i,i≠k->(C.w1 k (.at pc kg)).ks i=C.ks i:=fun i hi=>upd_ne _ _ hi;have M1:=M.wsn (C':=C.w1 k (.at pc kg)) (w1:=w) (ops:=#[]) (fZ:=rel) hQ hk rfl rfl rfl rfl un (by
   rw[us];exact⟨akQ aV,.stop aA,fun _=>aA⟩) (fun S=>.refl _ _ _) rfl (ak5 mW) rfl (M.wd.cfg rfl rfl rfl rfl rfl (fun e=>⟨e,rfl⟩) rfl rfl rfl)
   (by exact M.tr) (by simp) (fun _=>by
   rw[us,alu,M.iX k hk (fun q y=>by rw[e]at y;cases y),e];rfl) (by
   rw[us,M.uz k hk,e];exact alx) (fun _ _=>rfl) (by simp)
 have jH:Calm Q.J (C.w1 k (.at pc kg)):=by
  refine⟨fun i eK hi=>?_,fun i eK hi=>?_,bJ.acj,fun i hd Z3 eK hi=>?_⟩
  ·by_cases ei:i=k
   ·subst ei;rcases N0 with⟨_,_,h2⟩|⟨rfl,_⟩
    ·exact h2
    ·rw[us]at hi;cases hi
   ·rw[un i ei]at hi;exact bJ.blk i eK hi
  ·by_cases ei:i=k
   ·subst ei;rcases N0 with⟨rfl,_⟩|⟨_,_,h2,_⟩
    ·rw[us]at hi;cases hi
    ·exact h2
   ·rw[un i ei]at hi;exact bJ.fH i eK hi
  ·by_cases ei:i%Q.J.n=k
   ·rcases N0 with⟨rfl,_⟩|⟨_,_,_,h2⟩
    ·simp_all
    ·exact h2 i hd Z3 ei
   ·rw[un _ ei]at hi;exact bJ.uq i hd Z3 eK hi
 refine⟨_,_,_,_,_,sl,_,_,rfl,h1,jH,M1,.inr ⟨mW,agJ e,.inr ⟨rfl,agI ll e rfl ?_⟩⟩⟩;rcases N0 with⟨rfl,_⟩|⟨rfl,_⟩<;>exact Nat.zero_lt_one
theorem bA.MI.Z9(M:Q.MI C nd fu gs w t q rel)(hQ:Q.Laws)(h:CI Q.J Q.cO C)(bJ:Calm Q.J C){kg:Md}(TK:C.dm=.run)(XE:Q.LI (gs.setIfInBounds 0 g1) (nd 0) (fu 0) C.L C.d kg)
  (N0:(kg=.blk/\C.d=.w3/\C.ws=0)\/(kg=.fH/\∃i,C.d=.send C.L i/\∀pc,C.ks (i%Q.J.n)≠.at pc .fH)):
  Q.pQ C nd fu q (crowd (gs.setIfInBounds 0 g1) w sl) (t++#[]):=by
 have h1:CI Q.J Q.cO (C.dd C.d kg C.v C.wt C.ws):=by
  refine h.dd ?_ rfl rfl (fun _ _ y=>y) (akS _) h.HH h.w2;rcases N0 with⟨rfl,h2,_⟩|⟨rfl,i,h2,_⟩
  ·simp_all
  ·simp_all
 have mW:mu Q.J _=mu Q.J C:=rfl;have M1:=M.m0 (C':=C.dd C.d kg C.v _ _) (t':=t++#[]) hQ.b0 rfl rfl rfl rfl XE (fun _ _ _=>.refl _ _ _) (M.Ia 0 (akT _)) (M.fuel 0 (akT _)) (ak5 mW) (by rw[iY];exact M.bT) (M.wd.cfg rfl rfl rfl rfl rfl (fun e=>⟨e,rfl⟩) rfl rfl rfl)
  (by rw[iY,alu];exact M.tr) (by exact M.deaf0) (fun g _=>by simp) (by exact M.seen)
 rw[iY,iY]at M1;have jH:Calm Q.J (C.dd C.d kg C.v C.wt C.ws):=by
  refine⟨bJ.blk,bJ.fH,fun y=>?_,fun i y hd=>?_⟩
  ·rcases N0 with⟨_,_,h2⟩|⟨rfl,_⟩
   ·exact h2
   ·cases y
  ·rcases N0 with⟨rfl,_⟩|⟨_,i',h2,h3⟩
   ·cases y
   ·rw[h2]at hd;cases hd;exact h3
 refine⟨_,_,_,_,_,sl,_,_,rfl,h1,jH,M1,.inr ⟨mW,rfl,.inr ⟨rfl,?_⟩⟩⟩;show 10 *(sumTo Q.b q+sumTo _ (fun k=>F8 (C.ks k)))+(N7 kg+sumTo _ (fun k=>N8 (C.ks k)))<10 *(sumTo Q.b q+sumTo _ _)+(N7 _+sumTo _ _)
 rw[TK];have e1:N7 .run=1:=rfl;have e0:N7 kg=0:=by rcases N0 with⟨rfl,_⟩|⟨rfl,_⟩<;>rfl
 omega
theorem bA.MI.XO(M:Q.MI C nd fu gs w t q rel)(hQ:Q.Laws)(h:CI Q.J Q.cO C)(bJ:Calm Q.J C)(hi:0<i)(BQ:i<Q.b)(hq:q i=n+1)(jI:∀e∈es,e.mute=true)(hqd:QuitsD Q.P n (deafBehind (Deaf t i) es) g1)(fn:FuncId)(pos:String):
  Q.pQ C nd fu q (crowd ((gs.map (woken Q.P g g1 w)).setIfInBounds i g1) w sl) (t++akR i fn pos es):=by
 have hb:=hQ.b0;have aV:i<gs.size:=by rw[M.size];omega
 have E9:∀g,g≠i->Deaf (t++akR i fn pos es) g=Deaf t g:=fun g hg=>Deaf_other t (fun y=>hg y.symm) _ jG;have M1:Q.MI C nd fu (gs.setIfInBounds i g1) w (t++akR i fn pos es) (upd q i n) rel:=by
  refine⟨by simp[M.size],M.g0.keep (bW (by omega)),fun k hk=>(M.wk k hk).keep (bW (by omega)) (E9 _ (by omega)),fun i' g' eO anY hg=>?_,M.fuel,M.Ia,M.bT,M.wd,?_,?_,fun k hk hq=>by rw[E9 _ (by omega)];exact M.iX k hk hq,fun i' eO=>by rw[E9 _ (by omega)];exact M.above i' eO,M.uz,M.Ib,du M.seen (akS _) fun op bg=>by
   obtain⟨ev,he,rfl⟩:=eD bg;exact⟨low_mute (jI ev he) _,fun a=>AE (jI ev he) a⟩⟩
  ·by_cases ei:i'=i
   ·subst ei;rw[akQ aV]at hg;obtain rfl:=akU hg;rw[upd_same,Deaf_own];exact hqd
   ·rw[bW (fun y=>ei y.symm)]at hg;rw[upd_ne _ _ ei,E9 _ ei];exact M.old i' g' eO anY hg
  ·refine M.tr.still fun op bg=>?_;obtain⟨ev,he,rfl⟩:=eD bg;refine⟨touch_mute (jI ev he),?_,?_,by show i<Q.b+C.j;omega⟩
   ·intro y;have:=jI ev he;obtain⟨loc,wr,sy⟩:=ev;cases loc<;>simp_all[alg,akZ]
   ·intro y;have:=jI ev he;obtain⟨loc,wr,sy⟩:=ev;cases loc<;>simp_all[alg,akZ]
  ·rw[E9 0 (by omega)];exact M.deaf0
 obtain⟨C2,h2,vB,mc,M2⟩:=akX (g:=g) hQ h M1 (.inl bJ) bJ.uq;obtain⟨e1,e2⟩:=c_ (fu:=fu) h2;refine⟨C2,_,_,_,_,sl,_,_,rfl,vB,mc,M2,.inr ⟨e1,e2,.inr ⟨rfl,?_⟩⟩⟩;have W9:sumTo Q.b (upd q i n)+(n+1)=sumTo Q.b q+n:=by
  have:=sumTo_upd q n id BQ;simpa[hq]using this
 have eS:sumTo Q.J.n (fun i=>F8 (C2.ks i))=sumTo Q.J.n (fun i=>F8 (C.ks i)):=by
  rcases h2 with rfl|rfl
  ·rfl
  ·exact sumTo_congr fun i _=>l_ F8 (fun _ _ _=>rfl) _ _
 have hR:N7 C2.dm+sumTo Q.J.n (fun i=>N8 (C2.ks i))<=9:=by
  have r1:∀m:Md,N7 m<=1:=fun m=>by cases m<;>simp[N7]
  have r2:∀s:de Q.E,N8 s<=1:=fun s=>by cases s<;>simp[N8,r1]
  have:=sumTo_le (f:=fun i=>N8 (C2.ks i)) (c:=1) (j:=Q.J.n) fun i _=>r2 _;have:=r1 C2.dm;have:=hQ.n8;omega
 unfold bA.nu;rw[eS];omega
end
section
variable{Q:bA}{nd:Nat->Nd}{fu:Nat->Nat}{C C':jE Q.E}{w w':World}{gs iQ:Array Goroutine}{t t':Trace}{q:Nat->Nat}{rel fZ:Nat->Option Nat}{sl:Option (Nat×Nat)}
theorem uE(c f:Nat):Q.WS c f .recv=Q.A c:=by
 cases f<;>rfl
theorem TU(h:CI Q.J Q.cO C){c:Nat}(hk:k<C.j):(C.L++[c]).getD k 0=Q.ch C k:=by
 unfold bA.ch;rw[akW,akW,List.getElem?_append_left (by rw[h.len];exact hk)]
theorem TW(h:CI Q.J Q.cO C){c:Nat}:(C.L++[c]).getD C.j 0=c:=by
 rw[akW,List.getElem?_append_right (by rw[h.len];omega),h.len];simp
theorem bA.MI.acv(M:Q.MI C nd fu gs w t q rel)(hQ:Q.Laws)(h:CI Q.J Q.cO C)(bJ:Calm Q.J C){c f:Nat}{child:Goroutine}(hd:C.d=.go C.L c)(hf:fu 0=f+1)(hSc:(nd 0).S c)(hXc:(nd 0).X c)(F5:gq w c 0)(acw:Q.uk c child w)
  (ht:Q.E.Tree Q.P true (Q.DS f (Q.J.cE (C.L++[c]))) (fun a=>(nd 0).S a/\a≠c) (fun a=>(nd 0).X a/\a≠c) g1 w)(fn:FuncId)(pos:String)(mN:FuncId)(pos':String):
  Q.pQ C nd fu q (crowd ((gs.setIfInBounds 0 g1).push child) w sl) (t++#[{g:=0,fn,pos,act:=.go (Q.b+C.j)}]++#[{g:=Q.b+C.j,fn:=mN,pos:=pos',act:=.start}]):=by
 have hb:=hQ.b0;have aV:=M.V_ hQ;have hcL:c∉C.L:=fun y=>(M.bT.H_ c y).2.2.2 0 (akT _) hSc;have agL:¬Q.RO c:=fun y=>M.bT.Ds 0 (akT _) c y hXc;have hcM:c≠Q.E.Mp:=fun y=>by
  rw[y]at hSc;obtain⟨k,e,_⟩:=M.bT.mp 0 (akT _) hSc;cases e
 have acs:=M.bT.low 0 (akT _) c hSc;obtain⟨hC,hrk⟩:=h.spawn hQ.n0 hQ.n8 hd hcL;have mW:mu Q.J (C.spawn Q.J c)<mu Q.J C:=LH hQ.n8 (show(C.spawn Q.J c).c<=1 from h.c1) hrk;have us:(C.spawn Q.J c).ks C.j=.at .recv .run:=upd_same _ _ _;have un:∀i,i≠C.j->(C.spawn Q.J c).ks i=C.ks i:=fun i hi=>upd_ne _ _ hi
 let n0:Nd:=⟨fun a=>(nd 0).S a/\a≠c,fun a=>(nd 0).X a/\a≠c,g1,w⟩
 let nk:Nd:=⟨Q.RO,fun _=>False,child,w⟩
 have e0:upd (upd nd 0 n0) (C.j+1) nk 0=n0:=by rw[upd_ne _ _ (by omega),upd_same]
 have ek:upd (upd nd 0 n0) (C.j+1) nk (C.j+1)=nk:=upd_same _ _ _;have eo:∀i,i≠0->i≠C.j+1->upd (upd nd 0 n0) (C.j+1) nk i=nd i:=fun i h1 h2=>by rw[upd_ne _ _ h2,upd_ne _ _ h1]
 have f0:upd (upd fu 0 f) (C.j+1) (mu Q.J C) 0=f:=by rw[upd_ne _ _ (by omega),upd_same]
 have fk:upd (upd fu 0 f) (C.j+1) (mu Q.J C) (C.j+1)=mu Q.J C:=upd_same _ _ _;have fo:∀i,i≠0->i≠C.j+1->upd (upd fu 0 f) (C.j+1) (mu Q.J C) i=fu i:=fun i h1 h2=>by rw[upd_ne _ _ h2,upd_ne _ _ h1]
 have cN:aU Q.J (Q.J.cE (C.L++[c]))=0:=by
  rcases iB (J:=Q.J) (L:=C.L++[c])with⟨_,e⟩|⟨_,_,e⟩|⟨_,_,e⟩<;>rw[e]<;>rfl
 have dN:mT (Q.J.cE (C.L++[c]))=0:=by
  rcases iB (J:=Q.J) (L:=C.L++[c])with⟨_,e⟩|⟨_,_,e⟩|⟨_,_,e⟩<;>rw[e]<;>rfl
 have rk:∀g,Deaf (t++#[({g:=0,fn,pos,act:=.go (Q.b+C.j)}:MemOp)]++#[{g:=Q.b+C.j,fn:=mN,pos:=pos',act:=.start}]) g=Deaf t g:=fun g=>by
  rw[nX (ops:=#[({g:=Q.b+C.j,fn:=mN,pos:=pos',act:=.start}:MemOp)]) (bL ⟨nofun,nofun⟩),nX (ops:=#[({g:=0,fn,pos,act:=.go (Q.b+C.j)}:MemOp)]) (bL ⟨nofun,nofun⟩)]
 have gsz:(gs.setIfInBounds 0 g1).size=Q.b+C.j:=by simp[M.size]
 have gp:∀i,i≠0->i≠Q.b+C.j->((gs.setIfInBounds 0 g1).push child)[i]?=gs[i]?:=fun i h1 h2=>by
  rw[ale,if_neg (by rw[gsz];exact h2),bW (fun y=>h1 y.symm)]
 have M1:Q.MI (C.spawn Q.J c) (upd (upd nd 0 n0) (C.j+1) nk) (upd (upd fu 0 f) (C.j+1) (mu Q.J C)) ((gs.setIfInBounds 0 g1).push child) w (t++#[{g:=0,fn,pos,act:=.go (Q.b+C.j)}]++#[{g:=Q.b+C.j,fn:=mN,pos:=pos',act:=.start}]) q rel:=by
  refine⟨?_,?_,fun k hk=>?_,fun i g hi BQ hg=>?_,fun i hi=>?_,fun i hi=>?_,?_,?_,?_,?_,fun k hk hq=>?_,fun i hi=>?_,fun k hk=>?_,fun k hk=>?_,?_⟩
  ·rw[Array.size_push,gsz];rfl
  ·rw[e0,f0];refine⟨?_,ht⟩;rw[ale,if_neg (by rw[gsz];omega),akQ aV]
  ·have oo:k<C.j+1:=hk;by_cases ei:k=C.j
   ·subst ei;rw[ek,fk,us];refine⟨?_,?_,fun y=>absurd rfl y⟩
    ·rw[ale,if_pos (by rw[gsz])];rfl
    ·rw[uE];show Tz Q.P false Q.E.U (Q.A ((C.L++[c]).getD C.j 0)) _ _ _ _
     rw[TW h];exact hQ.kid acw
   ·rw[eo _ (by omega) (by omega),fo _ (by omega) (by omega),un k ei];show Q.XC ((C.L++[c]).getD k 0) _ _ _ _ _ _
    rw[TU h (by omega)];exact(M.wk k (by omega)).keep (gp _ (by omega) (by omega)) (rk _)
  ·rw[gp i (by omega) (by omega)]at hg;rw[rk];exact M.old i g hi BQ hg
  ·have eO:i<=C.j+1:=hi;by_cases h1:i=0
   ·subst h1;rw[f0];have:=M.fuel 0 (akT _);omega
   ·by_cases h2:i=C.j+1
    ·subst h2;rw[fk];omega
    ·rw[fo i h1 h2];have:=M.fuel i (by omega);omega
  ·have eO:i<=C.j+1:=hi;by_cases h1:i=0
   ·subst h1;rw[e0];exact .refl _ _ _
   ·by_cases h2:i=C.j+1
    ·subst h2;rw[ek];exact .refl _ _ _
    ·rw[eo i h1 h2];exact M.Ia i (by omega)
  ·
   have S':∀i a,i<=C.j+1->(upd (upd nd 0 n0) (C.j+1) nk i).S a->(i<=C.j/\(nd i).S a/\(i=0->a≠c))\/(i=C.j+1/\Q.RO a):=by
    intro i a hi hs;by_cases h1:i=0
    ·subst h1;rw[e0]at hs;exact .inl ⟨akT _,hs.1,fun _=>hs.2⟩
    ·by_cases h2:i=C.j+1
     ·subst h2;rw[ek]at hs;exact .inr ⟨rfl,hs⟩
     ·rw[eo i h1 h2]at hs;exact .inl ⟨by omega,hs,fun y=>absurd y h1⟩
   have X':∀i a,i<=C.j+1->(upd (upd nd 0 n0) (C.j+1) nk i).X a->i<=C.j/\(nd i).X a/\(i=0->a≠c):=by
    intro i a hi hs;by_cases h1:i=0
    ·subst h1;rw[e0]at hs;exact⟨akT _,hs.1,fun _=>hs.2⟩
    ·by_cases h2:i=C.j+1
     ·subst h2;rw[ek]at hs;exact hs.elim
     ·rw[eo i h1 h2]at hs;exact⟨by omega,hs,fun y=>absurd y h1⟩
   refine⟨fun i i' hi eO bj a hx hs=>?_,fun i hi a hs=>?_,fun i hi a hs=>?_,fun i hi a hr hx=>?_,fun i hi a hx=>?_,fun i hi hs=>?_,M.bT.kj,M.bT.XD,fun c' vA=>?_⟩
   ·obtain⟨a1,a2,_⟩:=X' i a hi hx;rcases S' i' a eO hs with⟨b1,b2,_⟩|⟨_,b2⟩
    ·exact M.bT.LK i i' a1 b1 bj a a2 b2
    ·exact M.bT.Ds i a1 a b2 a2
   ·rcases S' i a hi hs with⟨b1,b2,_⟩|⟨_,b2⟩
    ·exact M.bT.low i b1 a b2
    ·exact M.bT.kj a b2
   ·by_cases h1:i=0
    ·subst h1;rw[e0]at hs⊢;exact(M.bT.sub 0 (akT _) a hs.1).imp id fun y=>⟨y,hs.2⟩
    ·by_cases h2:i=C.j+1
     ·subst h2;rw[ek]at hs;exact .inl hs
     ·have eO:i<=C.j+1:=hi;rw[eo i h1 h2]at hs⊢;exact M.bT.sub i (by omega) a hs
   ·obtain⟨a1,a2,_⟩:=X' i a hi hx;exact M.bT.Ds i a1 a hr a2
   ·by_cases h1:i=0
    ·subst h1;rw[e0]at hx⊢;exact⟨M.bT.xs 0 (akT _) a hx.1,hx.2⟩
    ·by_cases h2:i=C.j+1
     ·subst h2;rw[ek]at hx;exact hx.elim
     ·have eO:i<=C.j+1:=hi;rw[eo i h1 h2]at hx⊢;exact M.bT.xs i (by omega) a hx
   ·rcases S' i _ hi hs with⟨b1,b2,_⟩|⟨_,b2⟩
    ·exact M.bT.mp i b1 b2
    ·exact absurd b2 hQ.rm
   ·have hm:c'∈C.L\/c'=c:=by simpa using(show c'∈C.L++[c]from vA)
    rcases hm with y|rfl
    ·obtain⟨h1,h2,h3,h4⟩:=M.bT.H_ c' y;refine⟨h1,h2,h3,fun i hi hs=>?_⟩;rcases S' i c' hi hs with⟨b1,b2,_⟩|⟨_,b2⟩
     ·exact h4 i b1 b2
     ·exact h2 b2
    ·refine⟨acs,agL,hcM,fun i hi hs=>?_⟩;rcases S' i c' hi hs with⟨b1,b2,b3⟩|⟨_,b2⟩
     ·by_cases h1:i=0
      ·exact b3 h1 rfl
      ·exact M.bT.LK 0 i (akT _) b1 (fun y=>h1 y.symm) c' hXc b2
     ·exact agL b2
  ·refine⟨M.wd.mu,M.wd.wg,M.wd.map,fun k hk hc=>?_,fun k hk hc=>?_,M.wd.tape,M.wd.out⟩
   ·change k<aU Q.J (Q.J.cE (C.L++[c]))at hc;rw[cN]at hc;exact absurd hc (ak0 _)
   ·have oo:k<C.j+1:=hk;by_cases ei:k=C.j
    ·subst ei;exact⟨0,by show gq w ((C.L++[c]).getD C.j 0) 0;rw[TW h];exact F5⟩
    ·obtain⟨s,hs⟩:=M.wd.opn k (by omega) (by rw[hd];exact ak0 _);exact⟨s,by show gq w ((C.L++[c]).getD k 0) s;rw[TU h (by omega)];exact hs⟩
  ·have acx:Q.cls (upd (upd nd 0 n0) (C.j+1) nk) (C.j+1) (C.L++[c])=Q.cls nd C.j C.L:=by
    have:bA.rp (upd (upd nd 0 n0) (C.j+1) nk) (C.j+1) (C.L++[c])=bA.rp nd C.j C.L:=by
     funext i a;apply propext;unfold bA.rp;by_cases h1:i=0
     ·subst h1;rw[e0];constructor
      ·rintro(⟨_,y⟩|⟨_,y⟩)
       ·exact .inl ⟨akT _,y.1⟩
       ·have hm:a∈C.L\/a=c:=by simpa using y
        rcases hm with y|rfl
        ·exact .inr ⟨rfl,y⟩
        ·exact .inl ⟨akT _,hXc⟩
      ·rintro(⟨_,y⟩|⟨_,y⟩)
       ·by_cases hac:a=c
        ·exact .inr ⟨rfl,by simp[hac]⟩
        ·exact .inl ⟨akT _,y,hac⟩
       ·exact .inr ⟨rfl,by simp[y]⟩
     ·by_cases h2:i=C.j+1
      ·subst h2;rw[ek];exact⟨fun y=>y.elim (fun z=>z.2.elim) fun z=>absurd z.1 h1,fun y=>y.elim (fun z=>by omega) fun z=>absurd z.1 h1⟩
      ·rw[eo i h1 h2];exact⟨fun y=>y.imp (fun z=>⟨by omega,z.2⟩) fun z=>absurd z.1 h1,fun y=>y.imp (fun z=>⟨by omega,z.2⟩) fun z=>absurd z.1 h1⟩
    unfold bA.cls;rw[this]
   show PT Q.b (C.j+1) Q.E.mu Q.E.st Q.dS (Q.cls (upd (upd nd 0 n0) (C.j+1) nk) (C.j+1) (C.L++[c])) _ (C.tok.map (Q.b+ ·)) rel
   rw[acx];exact M.tr.fork (by rw[M.deaf0,hd];rfl) (M.above _ (akS _))
  ·rw[rk,M.deaf0,hd];exact dN.symm
  ·have oo:k<C.j+1:=hk;rw[rk];by_cases ei:k=C.j
   ·subst ei;rw[us,M.above _ (akS _)];rfl
   ·rw[un k ei]at hq⊢;exact M.iX k (by omega) hq
  ·have eO:Q.b+(C.j+1)<=i:=hi;rw[rk];exact M.above i (by omega)
  ·have oo:k<C.j+1:=hk;by_cases ei:k=C.j
   ·subst ei;rw[us,M.Ib _ (akS _)];exact⟨(fun⟨p,hp⟩=>by cases hp),fun y=>y.elim⟩
   ·rw[un k ei];exact M.uz k (by omega)
  ·have oo:C.j+1<=k:=hk;exact M.Ib k (by omega)
  ·exact du (w:=w) (du M.seen (akS _) (bL ⟨trivial,nofun⟩)) (akS _) (bL ⟨trivial,nofun⟩)
 refine⟨_,_,_,_,_,sl,_,_,rfl,hC,⟨fun k pc hk=>?_,fun k pc hk hc=>?_,nofun,nofun⟩,M1,.inl mW⟩
 ·by_cases ei:k=C.j
  ·subst ei;rw[us]at hk;cases hk
  ·rw[un k ei]at hk;exact bJ.blk k pc hk
 ·change k<aU Q.J (Q.J.cE (C.L++[c]))at hc;rw[cN]at hc;exact absurd hc (ak0 _)
def bA.AH(Q:bA)(m:Machine)(t:Trace):=∃gs w sl q S X g,∃dn:List Nat,m=crowd gs w sl/\gs[0]?=some g/\Q.Fin S X g w/\Leavers Q.P t gs q/\Past Q.dS w.heap.size t/\Q.E.iA (dn.foldl Q.E.upd Q.cO) (w.heap[Q.E.Mp]?)/\dn.Perm Q.J.ay/\Q.E.MuAt w Word.zero 0/\Q.E.WgAt w 0 0 0/\w.tape=Q.w0.tape/\w.output=Q.w0.output/\(∀a,S a->a<w.heap.size)/\¬S Q.E.Mp/\Q.E.Mp<w.heap.size/\(∀op∈t,Seen w.heap.size op)
theorem dB(f:PC->Nat)(hf:f .out=0):∀n,Lock.fE f (fun _=>.out) n=0
 |0=>rfl
 |n+1=>by rw[Lock.fE,dB f hf n,hf]
theorem P8{m:Word}{c:Nat}(h:Lock.Inv (fun _=>.out) n m c):m=Word.zero/\c=0:=by
 have hH:=h.held;rw[dB _ rfl]at hH;have hL:m.L=false:=by
  cases e:m.L with
  |false=>rfl
  |true=>rw[e]at hH;cases hH
 cases hS:m.S with
 |true=>
  obtain⟨_,_,_,_,h5,h6⟩:=h.hard hS;rw[dB _ rfl,dB _ rfl,dB _ rfl]at h5;omega
 |false=>
  obtain⟨h1,h2,_⟩:=h.calm hS;rw[dB _ rfl,dB _ rfl,dB _ rfl]at h1;rw[dB _ rfl,dB _ rfl]at h2;have hc:c=0:=by omega
  have hW:m.W=0:=by omega
  have hK:m.K=false:=by
   cases e:m.K with
   |false=>rfl
   |true=>
    rw[e,hc]at h1;cases h1
  obtain⟨l,k,s,wn⟩:=m;subst hL hS hW hK;exact⟨rfl,hc⟩
theorem Ob{f:Nat->Nat}(h1:∀i,f i<=1)(h0:∀i,j<=i->f i=0)(hj:j<=n)(hk:k<j)(hf:f k=0):sumTo n f+1<=j:=by
 have e1:∀n,j<=n->sumTo n f=sumTo j f:=by
  intro n;induction n with
  |zero=>intro h;omega
  |succ n ih=>
   intro h;by_cases e:j=n+1
   ·rw[e]
   ·rw[sumTo,ih (by omega),h0 n (by omega)];rfl
 have h2:=sumTo_upd f 1 id hk;have h3:=sumTo_le (f:=fun a=>id (upd f k 1 a)) (c:=1) (j:=j) fun i _=>by
  by_cases e:i=k
  ·subst e;rw[upd_same];simp_all
  ·rw[upd_ne _ _ e];exact h1 i
 simp_all
theorem CI.over(h:CI Q.J Q.cO C)(hl:Dp C.d)(hk:k<C.j):∃n,C.ks k=.qt n:=by
 have hp:C.v=0/\sumTo Q.J.n (fun k=>oK (C.ks k))=0/\sumTo Q.J.n (fun k=>py (C.ks k))=0:=by
  rcases h.ph with⟨_,_,a,b,_,c⟩|⟨y,_⟩
  ·simp_all
  ·revert y hl;cases C.d<;>intro a b<;>first|exact a.elim|exact b.elim
 have hg:=h.NT;have ll:=akV hk h.jn;have h2:=le_sumTo (f:=fun k=>oK (C.ks k)) ll;have h0:=le_sumTo (f:=fun k=>py (C.ks k)) ll;have hd:wv (C.ks k)≠0:=by
  intro y;have:=Ob (f:=fun k=>wv (C.ks k)) (fun i=>by
   cases C.ks i<;>simp only[wv]<;>(try split)<;>omega) (fun i hi=>by rw[h.no i hi];rfl) h.jn hk y
  omega
 cases e:C.ks k with
 |no=>exact absurd e (h.yes k hk)
 |«at» pc md=>rw[e]at hd;exact absurd rfl hd
 |dV i n=>
  rw[e]at hd;simp[e]at h2 h0;by_cases hi:i<=2
  ·by_cases hz:i=0
   ·subst hz;have:py (de.dV 0 n:de Q.E)=1:=rfl;omega
   ·have:oK (de.dV i n:de Q.E)=1:=by
     show(if i=1\/i=2 then 1 else 0)=1
     rw[if_pos (by omega)]
    omega
  ·exact absurd (by show(if i<=2 then 1 else 0)=0;simp_all) hd
 |qt n=>exact⟨n,rfl⟩
theorem bA.MI.final(M:Q.MI C nd fu gs w t q rel)(hQ:Q.Laws)(h:CI Q.J Q.cO C)(hd:C.d=.aq)(hF:Q.Fin (nd 0).S (nd 0).X g1 w)(fn:FuncId)(pos:String):
  Q.AH (crowd ((gs.map (woken Q.P g g1 w)).setIfInBounds 0 g1) w sl) (t++akR 0 fn pos #[⟨.mark (.acquire Q.E.st),false,true⟩]):=by
 have hb:=hQ.b0;have aV:=M.V_ hQ;have late:Dp C.d:=by rw[hd];trivial
 have ov:∀k,k<C.j->∃n,C.ks k=.qt n:=fun k hk=>h.over late hk;have lk0:∀k,lY (C.ks k)=.out:=fun k=>by
  by_cases hk:k<C.j
  ·obtain⟨n,e⟩:=ov k hk;rw[e];rfl
  ·rw[h.no k (by omega)];rfl
 have hz:C.m=Word.zero/\C.c=0:=by
  have:=h.lock;rw[funext lk0]at this;exact P8 this
 have hv:C.v=0/\C.wt=0/\C.ws=0:=by
  rcases h.ph with⟨a,b,_,_,_,c⟩|⟨y,_⟩
  ·exact⟨c late,a,b⟩
  ·rw[hd]at y;exact y.elim
 have LQ:C.tok=none:=by
  cases e:C.tok with
  |none=>rfl
  |some k=>
   obtain⟨md,e'⟩:=h.Aw k e;have hk:k<C.j:=alz fun y=>by rw[h.no k y]at e';cases e'
   obtain⟨n,e2⟩:=ov k hk;rw[e2]at e';cases e'
 have sc:∀k,Q.b<=k->k<Q.b+C.j->∃p,rel k=some p:=by
  intro k h1 h2;obtain⟨k',rfl⟩:∃k',k=Q.b+k':=⟨k-Q.b,by omega⟩;refine(M.uz k' (by omega)).2 ?_;obtain⟨n,e⟩:=ov k' (by omega);rw[e];trivial
 have hd0:Deaf t 0=0:=by rw[M.deaf0,hd];rfl
 have E9:∀g,g≠0->Deaf (t++akR 0 fn pos #[⟨.mark (.acquire Q.E.st),false,true⟩]) g=Deaf t g:=fun g hg=>Deaf_other t (fun y=>hg y.symm) _ jG;refine⟨_,w,sl,fun i=>if i<Q.b then q i else F8 (C.ks (i-Q.b)),(nd 0).S,(nd 0).X,g1,C.dn,rfl,akQ (by simpa using aV),hF,⟨fun i g' hi vO=>?_,fun i hi=>?_⟩,?_,?_,?_,?_,?_,M.wd.tape,M.wd.out,M.bT.low 0 (akT _),fun y=>?_,M.bT.XD,du M.seen (akS _) (iZ ⟨M.bT.kj _ hQ.rw,nofun⟩)⟩
 ·rw[E9 i (by omega)];rw[bW (by omega),Array.getElem?_map]at vO;obtain⟨y,hy,rfl⟩:=Option.map_eq_some_iff.1 vO;by_cases BQ:i<Q.b
  ·simp only[if_pos BQ];have:=M.old i y hi BQ hy;rw[woken_quitsD this];exact this
  ·simp only[if_neg BQ];have eO:i<Q.b+C.j:=by rw[<-M.size];exact(ak7.1 hy).1
   obtain⟨k,rfl⟩:∃k,i=Q.b+k:=⟨i-Q.b,by omega⟩;have hs:=M.wk k (by omega);obtain⟨n,e⟩:=ov k (by omega);rw[e]at hs;obtain⟨g2,h1,h2⟩:=hs;obtain rfl:=akU (hy.symm.trans h1);rw[woken_quitsD h2,show Q.b+k-Q.b=k by omega,e];exact h2
 ·have:Q.b+C.j<=i:=by simpa[M.size]using hi
  rw[E9 i (by omega)];exact M.above i this
 ·rw[dq];refine M.tr.join sc hd0 fun op bg=>?_;have h9:=du M.seen (akS _) (iZ (g:=0) (fn:=fn) (pos:=pos) (m:=.acquire Q.E.st) ⟨M.bT.kj _ hQ.rw,nofun⟩);rw[dq]at h9;exact(h9 op bg).1
 ·rw[<-h.fold];exact M.wd.map LQ
 ·rw[List.perm_iff_count];intro y;have:=h.num y;rw[hd]at this;have e0:sumTo Q.J.n (fun k=>px y (C.ks k))=0:=by
   have:=sumTo_le (f:=fun k=>px y (C.ks k)) (c:=0) (j:=Q.J.n) fun i _=>by
    by_cases hk:i<C.j
    ·obtain⟨n,e⟩:=ov i hk;rw[e];exact akS _
    ·rw[h.no i (by omega)];exact akS _
   omega
  rw[e0]at this;rw[show rH Q.J pJ.aq=Q.J.ay.length from rfl,List.take_length]at this;omega
 ·have:=M.wd.mu;rw[hz.1,hz.2]at this;exact this
 ·have:=M.wd.wg;rw[hv.1,hv.2.1,hv.2.2]at this;exact this
 ·obtain⟨k,e,_⟩:=M.bT.mp 0 (akT _) y;cases e
end
section
variable{Q:bA}{nd:Nat->Nd}{fu:Nat->Nat}{C C':jE Q.E}{w w':World}{gs iQ:Array Goroutine}{t t':Trace}{q:Nat->Nat}{rel fZ:Nat->Option Nat}{sl:Option (Nat×Nat)}
theorem bA.MI.at(M:Q.MI C nd fu gs w t q rel)(d:Nat):Q.MI C nd fu gs (w.at d) t q rel:=
 ⟨M.size,M.g0,M.wk,M.old,M.fuel,fun i hi=>(M.Ia i hi).trans (tZ _ _ _ _),M.bT,M.wd.at d,M.tr,M.deaf0,M.iX,M.above,M.uz,M.Ib,M.seen⟩
theorem rJ{w1:World}(h:g1.status=.blocked)(gs:Array _):gs.map (woken P g g1 w1)=gs:=by
 have:woken P g g1 w1=id:=by funext o;simp[woken,h]
 simp_all
theorem gd(g:Nat)(fn:FuncId)(pos:String):akR g fn pos #[]=#[]:=rfl
theorem bA.MI.Z_(M:Q.MI C nd fu gs w t q rel)(hQ:Q.Laws)(h:CI Q.J Q.cO C)(bJ:Calm Q.J C){md:Md}(hk:k<C.j)(hc:C.ks k=.at .recv md)(hA:Q.A (Q.ch C k) (nd (k+1)).S (nd (k+1)).X (nd (k+1)).g (nd (k+1)).w)(hg:gs[Q.b+k]?=some gx)
  (aA:stepG Q.P false gx w=.comm (nd (k+1)).g #[rcase (Q.ch C k) Q.E.zc] true (.recv true) w #[])(N0:md=.run\/k<aU Q.J C.d):
  ∃m' ops,runT Q.P (crowd gs w sl) (Q.b+k)=(.next m',ops)/\Q.pQ C nd fu q m' (t++ops):=by
 have hb:=hQ.b0;have tG:(Q.b+k==0)=false:=by simp;omega
 have acy:stepG Q.P (Q.b+k==0) gx w=.comm (nd (k+1)).g #[rcase (Q.ch C k) Q.E.zc] true (.recv true) w #[]:=by rw[tG];exact aA
 have hr:=M.Ia (k+1) hk;by_cases vN:k<aU Q.J C.d
 ·obtain⟨s,hs⟩:=M.wd.shut k hk vN;have hp:=M.noSend (i0:=Q.b+k) hQ h hk (fun i _ hd=>by rw[hd]at vN;exact absurd vN (ak0 _));refine⟨_,_,crowd_recv_closed (sl:=sl) hg acy hs hp,?_⟩;exact M.agE hQ h bJ hk hc vN (fun f=>hQ.Z4 hA hr f) _ _
 ·obtain⟨s,hs⟩:=M.wd.opn k hk vN;have hmr:md=.run:=N0.resolve_right vN;subst hmr;have waits:(∀i,C.dm=.fH->C.d=.send C.L i->i%Q.J.n≠k)->∃m' ops,runT Q.P (crowd gs w sl) (Q.b+k)=(.next m',ops)/\Q.pQ C nd fu q m' (t++ops):=by
   intro hn;refine⟨_,_,crowd_waits (sl:=sl) hg acy (fun cc F9=>?_),?_⟩
   ·simp only[ak1,ak4,ak2,or_false]at F9;subst F9;exact ways_recv_none hs (M.noSend hQ h hk hn)
   ·rw[gd];exact M.Z8 hQ h bJ (kg:=.fH) hk hc (by rw[uE];exact hA) (.inr ⟨rfl,rfl,vN,hn⟩)
  by_cases hm:C.dm=.fH
  ·have h0:=M.g0;rw[hm]at h0;obtain⟨_,i,c,x,z,f0,e1,e2,e3,e4,e5,e6⟩:=h0;by_cases vx:i%Q.J.n=k
   ·have F9:c=Q.ch C k:=by
     unfold bA.ch;rw[<-vx,akW,e3];rfl
    subst F9;have hp:=M.XL (k:=k) hQ e5;refine⟨_,_,crowd_recv_meets (sl:=sl) hg acy hs (by omega) e5 hp,?_⟩;rw[gd,alv,finishComm_recv,finishComm_send];have hx:Q.ok x:=hQ.okn x (alq e4);have nB:=M.bT.H_ _ (kG h.len hk);have aV:Q.b+k<gs.size:=by rw[M.size];omega
    refine M.hand hQ h bJ hk hc e1 vx e4 e2 hs ?_ ?_ (fun i' h1 h2=>?_) (by simp) (e6 _ ((M.Ia 0 (akT _)).trans (jF (nB.2.2.2 0 (akT _))))) (hQ.acn hA (hr.trans (jF (nB.2.2.2 (k+1) hk))) hx _) ?_ (fun g=>nX ?_ g) ?_
    ·rw[bW (by omega),akQ (M.V_ hQ)]
    ·simp_all
    ·rw[bW (fun y=>h2 y.symm),bW (fun y=>h1 y.symm)]
    ·intro op bg;simp only[ak1,ak4,ak2,or_false]at bg;rcases bg with rfl|rfl|rfl|rfl
     ·exact⟨rfl,nofun,nofun,by show 0<Q.b+C.j;omega⟩
     ·exact⟨rfl,nofun,nofun,by show Q.b+k<Q.b+C.j;omega⟩
     ·exact⟨rfl,nofun,nofun,by show 0<Q.b+C.j;omega⟩
     ·exact⟨rfl,nofun,nofun,by show Q.b+k<Q.b+C.j;omega⟩
    ·simp
    ·intro op bg;simp only[ak1,ak4,ak2,or_false]at bg;rcases bg with rfl|rfl|rfl|rfl<;>exact⟨nB.1,nofun⟩
   ·simp_all
  ·exact waits fun i y _=>absurd y hm
theorem bA.MI.wz4(M:Q.MI C nd fu gs w t q rel)(hQ:Q.Laws)(h:CI Q.J Q.cO C)(bJ:Calm Q.J C)(hk:k<C.j){R:Prop}(hc:C.ks k=.dV 4 0)(h2:Q.E.DL4 Q.P g)
  (hgo:∀{g1:Goroutine} {w1:World} {es:Array _},stepG Q.P false g w=.go g1 w1 es->Q.pQ C nd fu q (crowd ((gs.map (woken Q.P g g1 w1)).setIfInBounds (Q.b+k) g1) w1 sl) (t++akR (Q.b+k) g.frame.fn g.frame.place es)->R):R:=by
 obtain⟨_,g1,e1,n,hn⟩:=h2;exact hgo (e1 w) (M.wd4 hQ h bJ hk hc hn _ _)
theorem bA.MI.wz3(M:Q.MI C nd fu gs w t q rel)(hQ:Q.Laws)(h:CI Q.J Q.cO C)(bJ:Calm Q.J C)(hk:k<C.j){R:Prop}(hc:C.ks k=.dV 3 0)(h2:Q.E.DL3 Q.P g)
  (hgo:∀{g1:Goroutine} {w1:World} {es:Array Event},stepG Q.P false g w=.go g1 w1 es->Q.pQ C nd fu q (crowd ((gs.map (woken Q.P g g1 w1)).setIfInBounds (Q.b+k) g1) w1 sl) (t++akR (Q.b+k) g.frame.fn g.frame.place es)->R):R:=by
 have ll:k<Q.J.n:=akV hk h.jn;have hn8:=hQ.n8;have ph:=h.ph;have l2:=le_sumTo (f:=fun k=>oK (C.ks k)) ll;have l0:=le_sumTo (f:=fun k=>py (C.ks k)) ll;simp only[hc]at l2 l0;have tm:=M.wd.wg;have W9:=Ob (f:=fun k=>wv (C.ks k)) (j:=C.j) (n:=Q.J.n) (fun i=>by
  show wv (C.ks i)<=1
  cases C.ks i<;>simp only[wv]<;>(try split)<;>omega) (fun i hi=>by show wv (C.ks i)=0;rw[h.no i hi];rfl) h.jn hk (by show wv (C.ks k)=0;rw[hc];rfl)
 have avO:=h.NT;have hjn:=h.jn;have ha:iV C.d<=1:=by cases C.d<;>simp[iV]
 obtain⟨v,hv⟩:∃v,C.v=v+1:=⟨C.v-1,by omega⟩;have Ih:C.ws=0/\C.wt<=1/\¬Dp C.d:=by
  rcases ph with⟨a,b,_,_,_,c⟩|⟨y,⟨a,b,_⟩|⟨_,_,a,_⟩|⟨_,_,a,_⟩|⟨_,_,a,_⟩⟩
  ·exact⟨b,by omega,fun y=>by have:=c y;omega⟩
  ·exact⟨b,by omega,fun z=>by revert y z;cases C.d<;>intro y z<;>first|exact y|exact z⟩
  ·omega
  ·omega
  ·omega
 rw[hv,Ih.1]at tm;obtain⟨g1,w1,es,e1,Dt,he,jI,hy,hn⟩:=h2.2 w v C.wt (by omega) Ih.2.1 tm;have hvd:jg Q.J v C.d<=jg Q.J C.v C.d:=by rw[hv];cases C.d<;>simp only[jg]<;>omega
 by_cases hx:v=0/\C.wt=1
 ·obtain⟨n,Hh⟩:=hy hx;refine hgo e1 (M.TR (s':=.dV 2 n) (i:=3) hQ h bJ hk hc (by omega) he Dt jI (.inl ⟨2,n,rfl,by omega,Hh⟩) (by rw[hv];rfl) (fun e2 e0 hp=>?_) hvd (by omega) (.inl fun _ _=>rfl) _ _);have z2:oK (de.dV 3 0:de Q.E)=0:=rfl;have z0:py (de.dV 3 0:de Q.E)=0:=rfl;have y2:oK (de.dV 2 n:de Q.E)=1:=rfl;have y0:py (de.dV 2 n:de Q.E)=0:=rfl;rw[z2,z0]at hp;rw[y2,y0];rcases hp with⟨a,_⟩|⟨y,⟨a,b,c,d,e⟩|⟨_,_,a,_⟩|⟨_,_,a,_⟩|⟨_,_,a,_⟩⟩
  ·omega
  ·exact .inr ⟨y,.inr (.inl ⟨a,rfl,hx.1,by omega,by omega⟩)⟩
  ·omega
  ·omega
  ·omega
 ·obtain⟨n,Hh⟩:=hn hx;refine hgo e1 (M.TR (s':=.qt n) (i:=3) hQ h bJ hk hc (by omega) he Dt jI (.inr ⟨n,rfl,Hh⟩) (by rw[hv];rfl) (fun e2 e0 hp=>?_) hvd (by omega) (.inl fun _ _=>rfl) _ _);have z2:oK (de.dV 3 0:de Q.E)=0:=rfl;have z0:py (de.dV 3 0:de Q.E)=0:=rfl;have y2:oK (de.qt n:de Q.E)=0:=rfl;have y0:py (de.qt n:de Q.E)=0:=rfl;rw[z2,z0]at hp;rw[y2,y0];rcases hp with⟨a,b,c,d,e,_⟩|⟨y,⟨a,b,c,d,e⟩|⟨_,_,a,_⟩|⟨_,_,a,_⟩|⟨_,_,a,_⟩⟩
  ·exact .inl ⟨a,rfl,c,d,e,fun y=>absurd y Ih.2.2⟩
  ·exact .inr ⟨y,.inl ⟨a,rfl,by omega,d,e⟩⟩
  ·omega
  ·omega
  ·omega
theorem bA.MI.wz2(M:Q.MI C nd fu gs w t q rel)(hQ:Q.Laws)(h:CI Q.J Q.cO C)(bJ:Calm Q.J C)(hk:k<C.j){R:Prop}(hc:C.ks k=.dV 2 0)(h2:Q.E.DL2 Q.P g)
  (hgo:∀{g1:Goroutine} {w1:World} {es:Array _},stepG Q.P false g w=.go g1 w1 es->Q.pQ C nd fu q (crowd ((gs.map (woken Q.P g g1 w1)).setIfInBounds (Q.b+k) g1) w1 sl) (t++akR (Q.b+k) g.frame.fn g.frame.place es)->R):R:=by
 have ll:=akV hk h.jn;have ph:=h.ph;have l2:=le_sumTo (f:=fun k=>oK (C.ks k)) ll;have l0:=le_sumTo (f:=fun k=>py (C.ks k)) ll;simp[hc]at l2 l0;have tm:=M.wd.wg;have hp:C.wt=1/\C.ws=0/\C.v=0:=by
  have z2:oK (de.dV 2 0:de Q.E)=1:=rfl;rcases ph with⟨_,_,a,_⟩|⟨y,⟨_,_,_,a,_⟩|⟨a,b,c,_⟩|⟨_,_,_,a,_⟩|⟨_,_,_,a,_⟩⟩
  ·omega
  ·omega
  ·omega
  ·omega
  ·omega
 rw[hp.1,hp.2.1,hp.2.2]at tm;obtain⟨g1,es,e1,jI,n,Hh⟩:=h2.2 w tm;refine hgo e1 (M.TR hQ h bJ hk hc (by omega) (Env.Eff.refl _ _) tm jI (.inl ⟨1,n,rfl,by omega,Hh⟩) (by rw[hp.2.2];rfl) (fun e2 e0 y=>?_) (by simp_all) (by omega) (.inl fun _ _=>rfl) _ _);rw[hp.1,hp.2.1,hp.2.2]at y;exact y
theorem bA.MI.wz1(M:Q.MI C nd fu gs w t q rel)(hQ:Q.Laws)(h:CI Q.J Q.cO C)(bJ:Calm Q.J C)(hk:k<C.j){R:Prop}(hc:C.ks k=.dV 1 0)(h2:Q.E.DL1 Q.P g)
  (hgo:∀{g1:Goroutine} {w1:World} {es:Array _},stepG Q.P false g w=.go g1 w1 es->Q.pQ C nd fu q (crowd ((gs.map (woken Q.P g g1 w1)).setIfInBounds (Q.b+k) g1) w1 sl) (t++akR (Q.b+k) g.frame.fn g.frame.place es)->R):R:=by
 have ll:=akV hk h.jn;have ph:=h.ph;have l2:=le_sumTo (f:=fun k=>oK (C.ks k)) ll;have l0:=le_sumTo (f:=fun k=>py (C.ks k)) ll;simp[hc]at l2 l0;have tm:=M.wd.wg;have z2:oK (de.dV 1 0:de Q.E)=1:=rfl;have z0:py (de.dV 1 0:de Q.E)=0:=rfl;have hp:C.wt=1/\C.ws=0/\C.v=0:=by
  rcases ph with⟨_,_,a,_⟩|⟨y,⟨_,_,_,a,_⟩|⟨a,b,c,_⟩|⟨_,_,_,a,_⟩|⟨_,_,_,a,_⟩⟩
  ·omega
  ·omega
  ·omega
  ·omega
  ·omega
 rw[hp.1,hp.2.1,hp.2.2]at tm;obtain⟨g1,w1,es,e1,Dt,he,jI,n,Hh⟩:=h2.2 w tm;refine hgo e1 (M.TR hQ h bJ hk hc (by omega) he Dt jI (.inl ⟨0,n,rfl,by omega,Hh⟩) (by rw[hp.2.2];rfl) (fun e2 e0 y=>?_) (by simp_all) (by omega) (.inl fun _ _=>rfl) _ _);have y2:oK (de.dV 0 n:de Q.E)=0:=rfl;have y0:py (de.dV 0 n:de Q.E)=1:=rfl;rcases y with⟨_,_,a,_⟩|⟨y,⟨_,_,_,a,_⟩|⟨_,_,_,a,b⟩|⟨_,_,_,a,_⟩|⟨_,_,_,a,_⟩⟩
 ·omega
 ·omega
 ·exact .inr ⟨y,.inr (.inr (.inl ⟨rfl,rfl,rfl,by omega,by omega⟩))⟩
 ·omega
 ·omega
theorem bA.MI.wz0(M:Q.MI C nd fu gs w t q rel)(hQ:Q.Laws)(h:CI Q.J Q.cO C)(bJ:Calm Q.J C)(hk:k<C.j){R:Prop}(hc:C.ks k=.dV 0 0)(h2:Q.E.DL0 Q.P g)
  (hgo:∀{g1:Goroutine} {w1:World} {es:Array Event},stepG Q.P false g w=.go g1 w1 es->Q.pQ C nd fu q (crowd ((gs.map (woken Q.P g g1 w1)).setIfInBounds (Q.b+k) g1) w1 sl) (t++akR (Q.b+k) g.frame.fn g.frame.place es)->R):R:=by
 have ll:=akV hk h.jn;have ph:=h.ph;have l2:=le_sumTo (f:=fun k=>oK (C.ks k)) ll;have l0:=le_sumTo (f:=fun k=>py (C.ks k)) ll;simp[hc]at l2 l0;have tm:=M.wd.wg;have z2:oK (de.dV 0 0:de Q.E)=0:=rfl;have z0:py (de.dV 0 0:de Q.E)=1:=rfl;have hp:C.wt=0/\C.ws=0/\C.v=0:=by
  rcases ph with⟨_,_,_,a,_⟩|⟨y,⟨_,_,_,_,a⟩|⟨_,_,_,_,a⟩|⟨a,b,c,_⟩|⟨_,_,_,_,a⟩⟩
  ·omega
  ·omega
  ·omega
  ·omega
  ·omega
 rw[hp.1,hp.2.1,hp.2.2]at tm;obtain⟨g1,w1,es,e1,Dt,he,jI,n,Hh⟩:=h2.2.2 w tm;refine hgo e1 (M.TR hQ h bJ hk hc (by omega) he Dt jI (.inr ⟨n,rfl,Hh⟩) (by rw[hp.2.2];rfl) (fun e2 e0 y=>?_) (by simp_all) (by omega) (.inr ⟨h2.2.1,Hh.status⟩) _ _);have y2:oK (de.qt n:de Q.E)=0:=rfl;have y0:py (de.qt n:de Q.E)=0:=rfl;rcases y with⟨_,_,_,a,_⟩|⟨y,⟨_,_,_,_,a⟩|⟨_,_,_,_,a⟩|⟨_,_,_,a,b⟩|⟨_,_,_,_,a⟩⟩
 ·omega
 ·omega
 ·omega
 ·exact .inr ⟨y,.inr (.inr (.inr ⟨rfl,rfl,rfl,by omega,by omega⟩))⟩
 ·omega
theorem bA.MI.agN(M:Q.MI C nd fu gs w t q rel)(hQ:Q.Laws)(h:CI Q.J Q.cO C)(bJ:Calm Q.J C)(hk:k<C.j)(hg:gs[Q.b+k]?=some g)(bm:g.status=.running):
  ∃m' ops,runT Q.P (crowd gs w sl) (Q.b+k)=(.next m',ops)/\Q.pQ C nd fu q m' (t++ops):=by
 have hb:=hQ.b0;have ll:k<Q.J.n:=akV hk h.jn;have tG:(Q.b+k==0)=false:=by simp;omega
 have hr:=M.Ia (k+1) hk;have hs:=M.wk k hk;have hgo:∀{g1:Goroutine} {w1:World} {es:Array Event},stepG Q.P false g w=.go g1 w1 es->Q.pQ C nd fu q (crowd ((gs.map (woken Q.P g g1 w1)).setIfInBounds (Q.b+k) g1) w1 sl) (t++akR (Q.b+k) g.frame.fn g.frame.place es)->
   ∃m' ops,runT Q.P (crowd gs w sl) (Q.b+k)=(.next m',ops)/\Q.pQ C nd fu q m' (t++ops):=fun aA hA=>⟨_,_,runT_crowd_go (sl:=sl) hg (by rw[tG];exact aA),hA⟩
 have hsm:=sD h.lock;have hn8:=hQ.n8;cases hc:C.ks k with
 |no=>rw[hc]at hs;exact hs.elim
 |«at» pc md=>
  rw[hc]at hs;obtain⟨h1,h2,h3⟩:=hs;obtain rfl:=akU (hg.symm.trans h1);cases md with
  |blk=>cases bm
  |fH=>cases bm
  |rG=>
   have V9:=(h.md k _ _ hc).2 (.inr rfl);subst V9;have hA:Q.A (Q.ch C k) (nd (k+1)).S (nd (k+1)).X (nd (k+1)).g (nd (k+1)).w:=by
    have:=h3 nofun;rw[uE]at this;exact this
   refine M.Z_ hQ h bJ hk hc hA hg ?_ (.inr (h.gone k (by rw[hc];trivial)));have e:{(nd (k+1)).g with status:=.running}=(nd (k+1)).g:=by
    have:=(hQ.TG hA).1;generalize(nd (k+1)).g=g0 at this;obtain⟨a,b,c,d,e⟩:=g0;simp only at this;subst this;rfl
   have:=stepG_tries (P:=Q.P) (g:=(nd (k+1)).g) (sh:=.recv true) false #[rcase (Q.ch C k) Q.E.zc] w;rw[e]at this;exact this.trans (hQ.TH hA w)
  |run=>
   have mul:∀p,LC pc=p->(∀x,pc=.lk p x->True)->Lock.Ok C.m p/\Lock.Pre C.m p:=by
    intro p hp _;have a:=h.lock.ok k ll;have b:=h.lock.pre ll;rw[hc]at a;simp only[hc]at b;rw[<-hp];exact⟨a,b⟩
   rcases h2.look with aA|⟨hn,_,pq⟩
   ·obtain⟨f,hf⟩:∃f,fu (k+1)=f+1:=⟨fu (k+1)-1,by have:=M.Ck (i:=k+1) hk;omega⟩;have E_:=aA;rw[hf]at aA;cases pc with
    |recv=>
     rw[uE]at E_;exact M.Z_ hQ h bJ hk hc E_ hg (hQ.TH E_ w) (.inl rfl)
    |ld x=>
     obtain⟨g1,e1,ht⟩:=aA.2.2 w hr;exact hgo e1 (M.N9 hQ h bJ hk hc hf (.inl rfl) ht _ _ rfl (fun _=>rfl) nofun nofun nofun (fun p x e=>by cases e;rfl) nofun (by show 14+2<17;omega) rfl)
    |lk p x=>
     obtain⟨o1,o2⟩:=mul p rfl (fun _ _=>trivial);rcases aA.2.2 w C.m C.c hr M.wd.mu o1 o2 (by omega) hsm.1 with⟨sv,rfl,hc0,e1⟩|⟨p',m',c',g1,w1,es,hmv,e1,hm,he,jI,hw,ht⟩
     ·refine⟨_,_,runT_crowd_go (sl:=sl) hg (by rw[tG];exact e1),?_⟩;rw[rJ rfl,gd];exact M.Z8 hQ h bJ (kg:=.blk) hk hc E_ (.inl ⟨rfl,⟨sv,x,rfl⟩,hc0⟩)
     ·obtain⟨c1,c2⟩:=h.mvL hQ.n8 hk hc hmv;refine hgo e1 (M.wmu hQ h bJ hk hc hf ht _ _ hm he jI hw c1 c2 ?_);show ye (Env.behind p' x)=1
      cases p'<;>rfl
    |le x=>
     obtain⟨g1,e1,ht⟩:=aA.2.2 w hr;exact hgo e1 (M.N9 hQ h bJ hk hc hf (.inr rfl) ht _ _ rfl (fun _=>rfl) nofun nofun nofun nofun nofun (by show 13<14;omega) rfl)
    |la x=>
     obtain⟨g1,e1,ht⟩:=aA.2.2 w C.γ hr (M.wd.map (h.free hk hc));exact hgo e1 (M.wla hQ h bJ hk hc hf ht _ _)
    |ur γ=>
     obtain⟨TQ,g1,e1,ht⟩:=aA.2.2 w hr;exact hgo e1 (M.wur hQ h bJ hk hc hf TQ ht _ _)
    |ud=>
     obtain⟨g1,e1,ht⟩:=aA.2.2 w hr;exact hgo e1 (M.N9 hQ h bJ hk hc hf (.inl rfl) ht _ _ rfl (fun _=>rfl) nofun nofun nofun nofun nofun (by show 10<11;omega) rfl)
    |u0=>
     obtain⟨o1,o2⟩:=mul .cr rfl (fun _ _=>trivial);rcases aA.2.2 w C.m C.c hr M.wd.mu o1 o2 (by omega) hsm.1 with⟨sv,e0,_⟩|⟨p',m',c',g1,w1,es,hmv,e1,hm,he,jI,hw,ht⟩
     ·cases e0
     ·obtain⟨c1,c2⟩:=h.mvU hQ.n8 hk hc (.inl ⟨rfl,rfl⟩) hmv;refine hgo e1 (M.wmu hQ h bJ hk hc hf ht _ _ hm he jI hw c1 c2 ?_);show ye (Env.oI p')=1
      cases p'<;>rfl
    |un p=>
     obtain⟨o1,o2⟩:=mul p rfl (fun _ _=>trivial);have hun:=(h.LF k p _ hc).1;rcases aA.2.2 w C.m C.c hr M.wd.mu o1 o2 (by omega) hsm.1 with⟨sv,rfl,_⟩|⟨p',m',c',g1,w1,es,hmv,e1,hm,he,jI,hw,ht⟩
     ·cases hun
     ·obtain⟨c1,c2⟩:=h.mvU hQ.n8 hk hc (.inr rfl) hmv;refine hgo e1 (M.wmu hQ h bJ hk hc hf ht _ _ hm he jI hw c1 c2 ?_);show ye (Env.oI p')=1
      cases p'<;>rfl
    |ue=>
     obtain⟨g1,e1,ht⟩:=aA.2.2 w hr;exact hgo e1 (M.N9 hQ h bJ hk hc hf (.inr rfl) ht _ _ rfl (fun _=>rfl) nofun nofun nofun nofun nofun (by show 7<8;omega) rfl)
    |wr=>
     obtain⟨g1,e1,n,hn⟩:=aA.2.2 w hr;exact hgo e1 (M.anV hQ h bJ hk hc hn _ _)
   ·obtain⟨g1,w1,es,S1,X1,e1,hd,ht⟩:=pq w hr;exact hgo e1 (M.agA hQ h bJ hk hc hn e1 hd ht _ _)
 |dV i n=>
  rw[hc]at hs;obtain⟨g',h1,h2⟩:=hs;obtain rfl:=akU (hg.symm.trans h1);have i4:=h.dV k i n hc;cases n with
  |succ n=>
   obtain⟨_,g1,e1,hq⟩:=h2;exact hgo (e1 w) (M.agD hQ h bJ hk hc (by simp) (.inl ⟨i,n,rfl,rfl,rfl,hq⟩) _ _)
  |zero=>
   have hi:i=0\/i=1\/i=2\/i=3\/i=4:=by omega
   rcases hi with rfl|rfl|rfl|rfl|rfl
   ·exact M.wz0 hQ h bJ hk hc h2 hgo
   ·exact M.wz1 hQ h bJ hk hc h2 hgo
   ·exact M.wz2 hQ h bJ hk hc h2 hgo
   ·exact M.wz3 hQ h bJ hk hc h2 hgo
   ·exact M.wz4 hQ h bJ hk hc h2 hgo
 |qt n=>
  rw[hc]at hs;obtain⟨g',h1,h2⟩:=hs;obtain rfl:=akU (hg.symm.trans h1);cases n with
  |zero=>rw[h2.1]at bm;cases bm
  |succ n=>
   rcases h2 with⟨y,_⟩|⟨_,g1,es,hm,e1,hq⟩
   ·rw[y]at bm;cases bm
   ·exact hgo (e1 w) (M.agD hQ h bJ hk hc hm (.inr ⟨n,rfl,rfl,hq⟩) _ _)
end
section
variable{Q:bA}{nd:Nat->Nd}{fu:Nat->Nat}{C C':jE Q.E}{w w':World}{gs iQ:Array Goroutine}{t t':Trace}{q:Nat->Nat}{rel fZ:Nat->Option Nat}{sl:Option (Nat×Nat)}
theorem E5.on{d d':pJ}{v wt ws e2 e0:Nat}(h:E5 d v wt ws e2 e0)(hw:¬wy d)(Rs:¬wy d')(hl:Dp d'->v=0):E5 d' v wt ws e2 e0:=by
 obtain⟨a,b,c,e⟩:=h.early hw;exact .inl ⟨a,b,c,e,Rs,hl⟩
theorem CI.vle(h:CI Q.J Q.cO C):C.v<=C.j+iV C.d:=by have:=h.NT;omega
theorem CI.agP(h:CI Q.J Q.cO C)(hc:aU Q.J C.d=0):C.v=C.j+iV C.d:=by
 have:=h.NT;have e0:=by
  have:=sumTo_le (f:=fun k=>wv (C.ks k)) (c:=0) (j:=Q.J.n) fun i _=>by
   have hg:¬Gone _:=fun y=>by have:=h.gone i y;omega
   cases e:C.ks i with
   |no=>exact akS _
   |«at» pc md=>exact akS _
   |dV i n=>rw[e]at hg;exact absurd trivial hg
   |qt n=>rw[e]at hg;exact absurd trivial hg
  omega
 omega
theorem bA.MI.agQ(M:Q.MI C nd fu gs w t q rel)(hQ:Q.Laws)(h:CI Q.J Q.cO C)(bJ:Calm Q.J C){c f:Nat}(TK:C.dm=.run)(hd:C.d=.send C.L i)(hf:fu 0=f+1)(hg:gs[0]?=some (nd 0).g)(E_:Q.DS (fu 0) C.d (nd 0).S (nd 0).X (nd 0).g (nd 0).w)(hL:C.L[i%Q.J.n]?=some c)(hx:Q.J.ay[i]?=some x)
  (TX:∀w2 s,aP Q.E.U (nd 0).S (nd 0).w w2->gq w2 c s->stepG Q.P true (nd 0).g w2=.comm (nd 0).g #[scase c (.int .i64 (x:Int)) z] true .send w2 #[])(ZJ:∀w2,aP Q.E.U (nd 0).S (nd 0).w w2->Q.E.Tree Q.P true (Q.DS f (Q.J.sends C.L (i+1))) (nd 0).S (nd 0).X (Go.Conc.served (nd 0).g undef) w2):
  ∃m' ops,runT Q.P (crowd gs w sl) 0=(.next m',ops)/\Q.pQ C nd fu q m' (t++ops):=by
 have hb:=hQ.b0;have hr:=M.Ia 0 (akT _);have hk:i%Q.J.n<C.j:=by
  have:=(alh.1 hL).1;rw[h.len]at this;exact this
 have F9:c=Q.ch C (i%Q.J.n):=by
  unfold bA.ch;rw[akW,hL];rfl
 subst F9;generalize V8:i%Q.J.n=k at *;obtain⟨s,hs⟩:=M.wd.opn k hk (by rw[hd];exact ak0 _);have aA:=TX w s hr hs;by_cases hp:∃pc,C.ks k=.at pc .fH
 ·obtain⟨pc,hc⟩:=hp;have V9:=(h.md k _ _ hc).2 (.inl rfl);subst V9;have hpk:=M.Du hk hc;have aV:Q.b+k<gs.size:=by rw[M.size];omega
  have hA:=by
   have:=M.wk k hk;rw[hc]at this;have:=this.2.2 nofun;rw[uE]at this;exact this
  refine⟨_,_,crowd_send_meets (sl:=sl) hg aA hs (by omega) hpk (M.XK hQ h hk hc),?_⟩;rw[gd,alv,finishComm_recv,finishComm_send];have nB:=M.bT.H_ _ (kG h.len hk);refine M.hand hQ h bJ hk hc hd V8 hx hf hs ?_ ?_ (fun i' h1 h2=>?_) (by simp) (ZJ _ (hr.trans (jF (nB.2.2.2 0 (akT _))))) (hQ.acn hA ((M.Ia (k+1) hk).trans (jF (nB.2.2.2 (k+1) hk))) (hQ.okn x (alq hx)) _) ?_ (fun g=>nX ?_ g) ?_
  ·rw[akQ (by simpa using M.V_ hQ)]
  ·rw[bW (by omega),akQ aV]
  ·rw[bW (fun y=>h1 y.symm),bW (fun y=>h2 y.symm)]
  ·intro op bg;simp only[ak1,ak4,ak2,or_false]at bg;rcases bg with rfl|rfl|rfl|rfl
   ·exact⟨rfl,nofun,nofun,by show 0<Q.b+C.j;omega⟩
   ·exact⟨rfl,nofun,nofun,by simp_all⟩
   ·exact⟨rfl,nofun,nofun,by show 0<Q.b+C.j;omega⟩
   ·exact⟨rfl,nofun,nofun,by show Q.b+k<Q.b+C.j;omega⟩
  ·simp
  ·intro op bg;simp at bg;rcases bg with rfl|rfl|rfl|rfl<;>exact⟨nB.1,nofun⟩
 ·have hn:=fun pc y=>hp ⟨pc,y⟩;refine⟨_,_,crowd_waits (sl:=sl) hg aA (fun cc F9=>?_),?_⟩
  ·simp only[ak1,ak4,ak2,or_false]at F9;subst F9;exact ways_send_none hs (akS _) (M.acr hQ h hk hn rfl)
  ·exact M.Z9 hQ h bJ (kg:=.fH) TK ⟨E_,i,_,x,z,f,hd,hf,by rw[V8];exact hL,hx,akQ (M.V_ hQ),ZJ⟩ (.inr ⟨rfl,i,hd,by rw[V8];exact hn⟩)
theorem bA.MI.agR(M:Q.MI C nd fu gs w t q rel)(hQ:Q.Laws)(h:CI Q.J Q.cO C)(bJ:Calm Q.J C)(hg:gs[0]?=some g)(bm:g.status=.running):
  ∃m' ops,runT Q.P (crowd gs w sl) 0=(.next m',ops)/\(Q.pQ C nd fu q m' (t++ops)\/Q.AH m' (t++ops)):=by
 have hb:=hQ.b0;have hr:=M.Ia 0 (akT _);have hs:=M.g0;have hn8:=hQ.n8;have hjn:=h.jn;have hvl:=h.vle;have tm:=M.wd.wg;have gf:=h.HH;cases hm:C.dm with
 |blk=>
  rw[hm]at hs;obtain rfl:=akU (hg.symm.trans hs.1);cases bm
 |fH=>
  rw[hm]at hs;obtain⟨_,i,c,x,z,f0,_,_,_,_,e5,_⟩:=hs;obtain rfl:=akU (hg.symm.trans e5);cases bm
 |rG=>exact absurd hm h.NS.2.2
 |run=>
  rw[hm]at hs;obtain⟨h1,h2⟩:=hs;obtain rfl:=akU (hg.symm.trans h1);have hgo:∀{g1:Goroutine} {w1:World} {es:Array Event},stepG Q.P true (nd 0).g w=.go g1 w1 es->Q.pQ C nd fu q (crowd ((gs.map (woken Q.P (nd 0).g g1 w1)).setIfInBounds 0 g1) w1 sl) (t++akR 0 (nd 0).g.frame.fn (nd 0).g.frame.place es)->
    ∃m' ops,runT Q.P (crowd gs w sl) 0=(.next m',ops)/\(Q.pQ C nd fu q m' (t++ops)\/Q.AH m' (t++ops)):=fun aA hA=>⟨_,_,runT_crowd_go (sl:=sl) (i:=0) hg aA,.inl hA⟩
  rcases h2.look with aA|⟨hn,_,pq⟩
  ·obtain⟨f,hf⟩:∃f,fu 0=f+1:=⟨fu 0-1,by have:=M.Ck (i:=0) (akT _);omega⟩;have E_:=aA;rw[hf]at aA;have nm:(Md.run=.blk->∀d:pJ,d=.w3):=nofun;have Oc:∀d:pJ,(Md.run=.blk->d=.w3)/\(Md.run=.fH->∃i,d=.send C.L i)/\Md.run≠.rG:=fun d=>⟨nofun,nofun,nofun⟩;have ph:=h.ph;cases hd:C.d with
   |st L=>
    rw[hd]at aA gf;obtain⟨c,hl⟩:=aA.2.2;obtain⟨g1,e1,ht⟩:=hl w hr;exact hgo e1 (M.Oa hQ h bJ (.inl rfl) hf ht (h.dd (Oc _) (by rw[hd];rfl) (by rw[hd];rfl) (fun _ _ y=>by rw[hd]at y;exact y.on id id nofun) (by rw[hd];exact akS _) gf nofun) (by rw[hd];simp only[jg];omega) _ _ (by rw[hd];rfl) (by rw[hd];rfl))
   |a2 L c=>
    rw[hd]at aA gf ph;obtain⟨a,b,_,_⟩:=ph.early id;have hv:C.v=L.length:=by
     have:=h.agP (by rw[hd];rfl);rw[hd]at this;rw[this,gf.1,h.len];rfl
    rw[hv,a,b]at tm;obtain⟨g1,w1,es,e1,Dt,he,jI,ht⟩:=aA.2.2 w hr tm;by_cases hL:L=[]
    ·rw[if_pos hL]at ht;exact hgo e1 (M.Ig hQ h bJ hf ht he Dt jI (h.dd (Oc _) (by rw[hd];rfl) (by rw[hd,hv];rfl) (fun _ _ y=>by
      rw[hd]at y;obtain⟨a1,a2,a3,a4⟩:=y.early id;exact .inl ⟨rfl,rfl,a3,a4,id,nofun⟩) (by rw[hd];exact akS _) gf nofun) (by rw[hd];simp only[jg];omega) _ _ (by rw[hd];rfl) (by rw[hd];rfl))
    ·rw[if_neg hL]at ht;exact hgo e1 (M.Ig hQ h bJ hf ht he Dt jI (h.dd (Oc _) (by rw[hd];rfl) (by rw[hd,hv];rfl) (fun _ _ y=>by
      rw[hd]at y;obtain⟨a1,a2,a3,a4⟩:=y.early id;exact .inl ⟨rfl,rfl,a3,a4,id,nofun⟩) (by rw[hd];exact akS _) gf nofun) (by rw[hd];simp only[jg];omega) _ _ (by rw[hd];rfl) (by rw[hd];rfl))
   |a3 L c=>
    rw[hd]at aA gf;obtain⟨g1,e1,ht⟩:=aA.2.2 w hr;exact hgo e1 (M.Z7 hQ h bJ (.inl rfl) hf ht (h.dd (Oc _) (by rw[hd];rfl) (by rw[hd];rfl) (fun _ _ y=>by rw[hd]at y;exact y.on id id nofun) (by rw[hd];exact akS _) gf nofun) (by rw[hd];simp only[jg];omega) _ _ (by rw[hd];rfl) (by rw[hd];rfl))
   |a4 L c=>
    rw[hd]at aA gf;obtain⟨g1,e1,ht⟩:=aA.2.2 w hr;exact hgo e1 (M.Oa hQ h bJ (.inr rfl) hf ht (h.dd (Oc _) (by rw[hd];rfl) (by rw[hd];rfl) (fun _ _ y=>by rw[hd]at y;exact y.on id id nofun) (by rw[hd];exact akS _) gf nofun) (by rw[hd];simp only[jg];omega) _ _ (by rw[hd];rfl) (by rw[hd];rfl))
   |go L c=>
    rw[hd]at aA gf;obtain⟨hSc,hXc,hl⟩:=aA.2.2;obtain⟨F5,g1,child,e1,acw,ht⟩:=hl w hr;have Od:L=C.L:=gf.1;subst Od;refine⟨_,_,runT_crowd_spawn (sl:=sl) (i:=0) hg e1,.inl ?_⟩;rw[gd,M.size];have:=M.acv (sl:=sl) hQ h bJ hd hf hSc hXc F5 acw ht (nd 0).g.frame.fn (nd 0).g.frame.place child.frame.fn (nd 0).g.frame.place;rw[Array.append_assoc]at this;exact this
   |send L i=>
    rw[hd]at aA gf;have Od:L=C.L:=gf.1;subst Od;obtain⟨c,x,hL,hx,z,TX,ZJ⟩:=aA.2.2;obtain⟨m',ops,e1,e2⟩:=M.agQ (sl:=sl) hQ h bJ hm hd hf hg E_ hL hx TX ZJ;exact⟨m',ops,e1,.inl e2⟩
   |close L k=>
    rw[hd]at aA gf;have Od:L=C.L:=gf.1;subst Od;obtain⟨hw,c,hL,hl⟩:=aA.2.2;have hk:k<C.j:=by
     have a:C.j=Q.J.n:=gf.2.1;have b:k<Q.J.n:=gf.2.2;omega
    have F9:c=Q.ch C k:=by
     unfold bA.ch;rw[akW,hL];rfl
    subst F9;obtain⟨s,hs⟩:=M.wd.opn k hk (by rw[hd];exact Nat.lt_irrefl _);obtain⟨g1,ju,e1,ht⟩:=hl w s hr hs;exact hgo e1 (M.acu hQ h bJ hk hd hs hw ju hf ht _ _)
   |kd=>
    rw[hd]at aA gf;obtain⟨g1,e1,ht⟩:=aA.2.2 w hr;exact hgo e1 (M.Oa hQ h bJ (.inl rfl) hf ht (h.dd (Oc _) (by rw[hd];rfl) (by rw[hd];rfl) (fun _ _ y=>by rw[hd]at y;exact y.on id id nofun) (by rw[hd];exact akS _) gf nofun) (by
     have a:C.v<=C.j:=by rw[hd]at hvl;exact hvl
     rw[hd];simp only[jg];omega) _ _ (by rw[hd];rfl) (by rw[hd];rfl))
   |w1=>
    rw[hd]at aA gf ph;obtain⟨a,b,_,_⟩:=ph.early id;have hv8:C.v<=8:=by rw[hd]at hvl;exact alc hvl (by show C.j+0<=8;omega)
    rw[a,b]at tm;obtain⟨g1,es,e1,jI,t0,t1⟩:=aA.2.2 w C.v hr hv8 tm;by_cases hv:C.v=0
    ·exact hgo e1 (M.Ig hQ h bJ hf (t0 hv) (Env.Eff.refl _ _) tm jI (h.dd (Oc _) (by rw[hd];rfl) (by rw[hd];rfl) (fun _ _ y=>by
      rw[hd]at y;obtain⟨a1,a2,a3,a4⟩:=y.early id;exact .inl ⟨rfl,rfl,a3,a4,id,fun _=>hv⟩) (by rw[hd];exact akS _) gf nofun) (by rw[hd];simp only[jg];omega) _ _ (by rw[hd];rfl) (by rw[hd];rfl))
    ·exact hgo e1 (M.Ig hQ h bJ hf (t1 hv) (Env.Eff.refl _ _) tm jI (h.dd (Oc _) (by rw[hd];rfl) (by rw[hd];rfl) (fun _ _ y=>by
      rw[hd]at y;obtain⟨a1,a2,a3,a4⟩:=y.early id;exact .inl ⟨rfl,rfl,a3,a4,id,nofun⟩) (by rw[hd];exact akS _) gf (fun v0 e0=>by cases e0;exact⟨by omega,akS _⟩)) (by rw[hd];simp only[jg];omega) _ _ (by rw[hd];rfl) (by rw[hd];rfl))
   |w2 v0=>
    have nP:=h.w2 v0 hd;rw[hd]at aA gf ph;obtain⟨a,b,_,_⟩:=ph.early id;have hv8:C.v<=8:=by rw[hd]at hvl;exact alc hvl (by show C.j+0<=8;omega)
    rw[a,b]at tm;obtain⟨ty,tn⟩:=aA.2.2 w C.v hr hv8 tm;by_cases hv:C.v=v0
    ·obtain⟨g1,w1,es,e1,Dt,he,jI,ht⟩:=ty hv;exact hgo e1 (M.Ig hQ h bJ hf ht he Dt jI (h.dd (Oc _) (by rw[hd];rfl) (by rw[hd];rfl) (fun _ _ y=>by
      rw[hd]at y;obtain⟨a1,a2,a3,a4⟩:=y.early id;exact .inr ⟨trivial,.inl ⟨rfl,rfl,by omega,a3,a4⟩⟩) (by rw[hd];exact akS _) gf nofun) (by rw[hd];simp only[jg];omega) _ _ (by rw[hd];rfl) (by rw[hd];rfl))
    ·obtain⟨g1,es,e1,jI,ht⟩:=tn hv;exact hgo e1 (M.Ig hQ h bJ hf ht (Env.Eff.refl _ _) tm jI (h.dd (Oc _) (by rw[hd];rfl) (by rw[hd];rfl) (fun _ _ y=>by
      rw[hd]at y;obtain⟨a1,a2,a3,a4⟩:=y.early id;exact .inl ⟨rfl,rfl,a3,a4,id,nofun⟩) (by rw[hd];exact akS _) gf nofun) (by rw[hd];simp only[jg];omega) _ _ (by rw[hd];rfl) (by rw[hd];rfl))
   |wx=>
    rw[hd]at aA gf;obtain⟨g1,e1,ht⟩:=aA.2.2 w hr;exact hgo e1 (M.Z7 hQ h bJ (.inr rfl) hf ht (h.dd (Oc _) (by rw[hd];rfl) (by rw[hd];rfl) (fun _ _ y=>by
     rw[hd]at y;rcases y with⟨_,_,_,_,y,_⟩|⟨_,y⟩
     ·exact absurd trivial y
     ·exact .inr ⟨trivial,y⟩) (by rw[hd];exact akS _) gf nofun) (by rw[hd];simp only[jg];omega) _ _ (by rw[hd];rfl) (by rw[hd];rfl))
   |w3=>
    rw[hd]at aA gf ph;obtain⟨_,ho,cn,ju⟩:=aA;by_cases Ih:C.ws=0
    ·rw[Ih]at tm;have e1:=cn w C.v C.wt hr tm;refine⟨_,_,runT_crowd_go (sl:=sl) (i:=0) hg e1,.inl ?_⟩;rw[rJ rfl,gd];exact M.Z9 hQ h bJ (kg:=.blk) hm ⟨akQ (M.V_ hQ),ho,bm,E_⟩ (.inl ⟨rfl,hd,Ih⟩)
    ·have hp:C.wt=0/\C.ws=1/\C.v=0:=by
      rcases ph with⟨_,a,_⟩|⟨_,⟨_,a,_⟩|⟨_,a,_⟩|⟨_,a,_⟩|⟨a,b,c,_⟩⟩
      ·exact absurd a Ih
      ·exact absurd a Ih
      ·exact absurd a Ih
      ·exact absurd a Ih
      ·exact⟨a,b,c⟩
     rw[hp.1,hp.2.1,hp.2.2]at tm;obtain⟨g1,w1,es,e1,Dt,he,jI,ht⟩:=ju w hr tm;exact hgo e1 (M.Ig hQ h bJ hf ht he Dt jI (h.dd (Oc _) (by rw[hd];rfl) (by rw[hd,hp.2.2];rfl) (fun _ _ y=>by
      rcases y with⟨_,a,_⟩|⟨_,⟨_,a,_⟩|⟨_,a,_⟩|⟨_,a,_⟩|⟨_,_,_,a,b⟩⟩
      ·exact absurd a Ih
      ·exact absurd a Ih
      ·exact absurd a Ih
      ·exact absurd a Ih
      ·exact .inl ⟨rfl,rfl,a,b,id,fun _=>rfl⟩) (by rw[hd];exact akS _) gf nofun) (by rw[hd];simp only[jg];omega) _ _ (by rw[hd];rfl) (by rw[hd];rfl))
   |w4=>
    rw[hd]at aA gf ph;have hp:C.wt=0/\C.ws=0/\C.v=0:=by
     rcases ph with⟨a,b,_,_,_,c⟩|⟨y,_⟩
     ·exact⟨a,b,c trivial⟩
     ·exact y.elim
    rw[hp.1,hp.2.1,hp.2.2]at tm;obtain⟨g1,es,e1,jI,ht⟩:=aA.2.2 w hr tm;exact hgo e1 (M.Ig hQ h bJ hf ht (Env.Eff.refl _ _) tm jI (h.dd (Oc _) (by rw[hd];rfl) (by rw[hd,hp.2.2];rfl) (fun _ _ y=>by
     rw[hd]at y;obtain⟨a1,a2,a3,a4⟩:=y.early id;exact .inl ⟨rfl,rfl,a3,a4,id,fun _=>rfl⟩) (by rw[hd];exact akS _) gf nofun) (by rw[hd];simp only[jg];omega) _ _ (by rw[hd];rfl) (by rw[hd];rfl))
   |ke=>
    rw[hd]at aA gf ph;obtain⟨g1,e1,ht⟩:=aA.2.2 w hr;have hv0:C.v=0:=by
     rcases ph with⟨_,_,_,_,_,c⟩|⟨y,_⟩
     ·exact c trivial
     ·exact y.elim
    exact hgo e1 (M.Oa hQ h bJ (.inr rfl) hf ht (h.dd (Oc _) (by rw[hd];rfl) (by rw[hd];rfl) (fun _ _ y=>by rw[hd]at y;exact y.on id id fun _=>hv0) (by rw[hd];exact akS _) gf nofun) (by rw[hd];simp only[jg];omega) _ _ (by rw[hd];rfl) (by rw[hd];rfl))
   |aq=>
    rw[hd]at aA;obtain⟨g1,e1,hF⟩:=aA.2.2 w hr;exact⟨_,_,runT_crowd_go (sl:=sl) (i:=0) hg e1,.inr (M.final hQ h hd hF _ _)⟩
  ·obtain⟨g1,w1,es,S1,X1,e1,hd,ht⟩:=pq w hr;exact hgo e1 (M.agF hQ h bJ hm hn e1 hd ht _ _)
theorem Oe{f:Nat->Nat}:∀{n:Nat},0<sumTo n f->∃k,k<n/\0<f k
 |0,h=>by simp[sumTo]at h
 |n+1,h=>by
  rw[sumTo]at h;by_cases h0:0<f n
  ·exact⟨n,by omega,h0⟩
  ·obtain⟨k,hk,hf⟩:=Oe (f:=f) (n:=n) (by omega);exact⟨k,by omega,hf⟩
theorem TY{f:Nat->Nat}(h:∀k,k<j->1<=f k):∀n,j<=n->j<=sumTo n f
 |0,hj=>by omega
 |n+1,hj=>by
  rw[sumTo];by_cases e:j=n+1
  ·have:=by
    have:∀m,m<=n->m<=sumTo m f:=by
     intro m;induction m with
     |zero=>omega
     |succ m ih=>
      intro hm;rw[sumTo];have:=h m (by omega);omega
    exact this n (akS _)
   have:=h n (by omega);omega
  ·have:=TY h n (by omega);omega
theorem bA.MI.TZ(M:Q.MI C nd fu gs w t q rel)(hQ:Q.Laws)(h:CI Q.J Q.cO C)(bJ:Calm Q.J C)(hk:k<C.j)(hp:∀pc,C.ks k≠.at pc .fH)(hq:∀n,C.ks k≠.qt n):∃(i:Nat) (g:Goroutine),gs[i]?=some g/\g.status=.running:=by
 have run:∀k pc,k<C.j->C.ks k=.at pc .run->∃(i:Nat) (g:Goroutine),gs[i]?=some g/\g.status=.running:=by
  intro k pc hk e;have hs:=M.wk k hk;rw[e]at hs;exact⟨_,_,hs.1,f_ hs.2.1 fun y=>(fP hQ (M.Ck hk) y).1⟩
 have hs:=M.wk k hk;cases hc:C.ks k with
 |no=>rw[hc]at hs;exact hs.elim
 |«at» pc md=>
  cases md with
  |run=>exact run k pc hk hc
  |rG=>rw[hc]at hs;exact⟨_,_,hs.1,rfl⟩
  |fH=>exact absurd hc (hp pc)
  |blk=>
   have h0:=bJ.blk k pc hc;obtain⟨sv,x,rfl⟩:=(h.md k _ _ hc).1 rfl;obtain⟨k',oo,h1,h2⟩:=h.lock.live (akV hk h.jn) (by rw[hc];rfl) h0;cases vA:C.ks k' with
   |no=>exact absurd (by rw[vA];rfl) h2
   |«at» eK kg=>
    have XI:=alz fun y=>by rw[h.no k' y]at vA;cases vA
    cases kg with
    |run=>exact run k' eK XI vA
    |blk=>
     obtain⟨sv',x',rfl⟩:=(h.md k' _ _ vA).1 rfl;exact absurd (by rw[vA];rfl) (h1 sv')
    |fH=>
     have:=(h.md k' _ _ vA).2 (.inl rfl);subst this;exact absurd (by rw[vA];rfl) h2
    |rG=>
     have:=(h.md k' _ _ vA).2 (.inr rfl);subst this;exact absurd (by rw[vA];rfl) h2
   |dV i n=>exact absurd (by rw[vA];rfl) h2
   |qt n=>exact absurd (by rw[vA];rfl) h2
 |dV i n=>
  rw[hc]at hs;obtain⟨g,h1,h2⟩:=hs;exact⟨_,_,h1,mV h2⟩
 |qt n=>exact absurd hc (hq n)
theorem bA.MI.live(M:Q.MI C nd fu gs w t q rel)(hQ:Q.Laws)(h:CI Q.J Q.cO C)(bJ:Calm Q.J C):∃(i:Nat) (g:Goroutine),gs[i]?=some g/\g.status=.running:=by
 have hs:=M.g0;cases hm:C.dm with
 |run=>
  rw[hm]at hs;exact⟨_,_,hs.1,f_ hs.2 fun y=>(mU (M.Ck (i:=0) (akT _)) y).1⟩
 |rG=>exact absurd hm h.NS.2.2
 |fH=>
  obtain⟨i,hd⟩:=h.NS.2.1 hm;have H3:=h.HH;rw[hd]at H3;have hjn:=H3.2.1;have hk:i%Q.J.n<C.j:=by rw[hjn];exact Nat.mod_lt _ hQ.n0
  refine M.TZ hQ h bJ hk (fun pc=>bJ.uq i hm hd pc) (fun n e=>?_);have:=h.gone _ (show Gone _ by rw[e];trivial);rw[hd]at this;exact absurd this (ak0 _)
 |blk=>
  have hd:=h.NS.1 hm;have Ih:=bJ.acj hm;have H3:=h.HH;rw[hd]at H3;have hjn:C.j=Q.J.n:=H3;have ph:=h.ph;have np:∀k pc,k<C.j->C.ks k≠.at pc .fH:=fun k pc hk e=>bJ.fH k pc e (by rw[hd];show k<Q.J.n;omega);have dV:∀(f:de Q.E->Nat),(∀s,0<f s->∃i n,s=.dV i n)->0<sumTo Q.J.n (fun k=>f (C.ks k))->∃(i:Nat) (g:Goroutine),gs[i]?=some g/\g.status=.running:=by
   intro f hf hp;obtain⟨k,hk,oo⟩:=Oe hp;obtain⟨i,n,e⟩:=hf _ oo;exact M.TZ (k:=k) hQ h bJ (by omega) (fun pc y=>by simp_all) (fun n y=>by simp_all)
  rw[hd]at ph;rcases ph with⟨_,_,_,_,y,_⟩|⟨_,⟨_,_,hv,_⟩|⟨_,_,_,a,_⟩|⟨_,_,_,_,a⟩|⟨_,a,_⟩⟩
  ·exact absurd trivial y
  ·have hg:=h.NT;rw[hd]at hg;have:∃k,k<C.j/\wv (C.ks k)=0:=by
    apply ali;intro bj;have:=TY (f:=fun k=>wv (C.ks k)) (fun k hk=>by
     have:wv (C.ks k)≠0:=fun y=>bj ⟨k,hk,y⟩;omega) Q.J.n h.jn
    have e0:iV .w3=0:=rfl;omega
   obtain⟨k,hk,hz⟩:=this;exact M.TZ hQ h bJ hk (fun pc=>np k pc hk) (fun n e=>by rw[e]at hz;cases hz)
  ·refine dV oK (fun s hs=>?_) (by omega);cases s with
   |dV i n=>exact⟨i,n,rfl⟩
   |_=>cases hs
  ·refine dV py (fun s hs=>?_) (by omega);cases s with
   |dV i n=>exact⟨i,n,rfl⟩
   |_=>cases hs
  ·omega
theorem bA.MI.awake(M:Q.MI C nd fu gs w t q rel)(hQ:Q.Laws):∀g∈gs,Go.Conc.awake g:=by
 intro g hg;obtain⟨i,aV,rfl⟩:=Array.mem_iff_getElem.1 hg;have hgi:=Array.getElem?_eq_getElem aV;have mK:=M.size;rcases alf i with rfl|t_
 ·have h0:=M.g0;have f0:=M.Ck (akT _);cases hm:C.dm with
  |run=>
   rw[hm]at h0;rw[akU (hgi.symm.trans h0.1)];exact awake_of (.inl (f_ h0.2 fun y=>(mU f0 y).1))
  |blk=>
   rw[hm]at h0;rw[akU (hgi.symm.trans h0.1)];exact awake_of (.inr (.inl rfl))
  |fH=>
   rw[hm]at h0;obtain⟨_,i,c,x,z,f0,_,_,_,_,e5,_⟩:=h0;rw[akU (hgi.symm.trans e5)];exact awake_of (.inr (.inl rfl))
  |rG=>rw[hm]at h0;exact h0.elim
 ·by_cases BQ:i<Q.b
  ·exact awake_of ((M.old i _ t_ BQ hgi).status.elim .inl fun y=>.inr (.inr y))
  ·obtain⟨k,rfl⟩:∃k,i=Q.b+k:=⟨i-Q.b,by omega⟩;have hk:k<C.j:=by omega
   have hs:=M.wk k hk;have fk:=M.Ck hk;cases hc:C.ks k with
   |no=>rw[hc]at hs;exact hs.elim
   |«at» pc md=>
    rw[hc]at hs;obtain⟨h1,h2,h3⟩:=hs;rw[akU (hgi.symm.trans h1)];cases md with
    |run=>exact awake_of (.inl (f_ h2 fun y=>(fP hQ fk y).1))
    |blk=>exact awake_of (.inr (.inl rfl))
    |fH=>exact awake_of (.inr (.inl rfl))
    |rG=>exact awake_of (.inl rfl)
   |dV i n=>
    rw[hc]at hs;obtain⟨g',h1,h2⟩:=hs;rw[akU (hgi.symm.trans h1)];exact awake_of (.inl (mV h2))
   |qt q'=>
    rw[hc]at hs;obtain⟨g',h1,h2⟩:=hs;rw[akU (hgi.symm.trans h1)];exact awake_of (h2.status.elim .inl fun y=>.inr (.inr y))
theorem bA.MI.step(M:Q.MI C nd fu gs w t q rel)(hQ:Q.Laws)(h:CI Q.J Q.cO C)(bJ:Calm Q.J C):∃m' ops,stepT Q.P (crowd gs w sl)=(.next m',ops)/\(Q.pQ C nd fu q m' (t++ops)\/Q.AH m' (t++ops)):=by
 obtain⟨i,g,d,tj,hg,bm,aA⟩:=crowd_pick (M.awake hQ) (M.live hQ h bJ);have M':=M.at d;rw[aA];rcases alf i with rfl|t_
 ·exact M'.agR hQ h bJ hg bm
 ·by_cases BQ:i<Q.b
  ·have hq:=M.old i g t_ BQ hg;have tG:(i==0)=false:=by simp;omega
   cases S3:q i with
   |zero=>rw[S3]at hq;rw[hq.1]at bm;cases bm
   |succ n=>
    rw[S3]at hq;rcases hq with⟨y,_⟩|⟨_,g1,es,hm,e1,vy⟩
    ·simp_all
    ·exact⟨_,_,runT_crowd_go hg (by rw[tG];exact e1 _),.inl (M'.XO hQ h bJ t_ BQ S3 hm vy _ _)⟩
  ·obtain⟨k,rfl⟩:∃k,i=Q.b+k:=⟨i-Q.b,by omega⟩;have hk:k<C.j:=by
    have:=(ak7.1 hg).1;rw[M.size]at this;omega
   obtain⟨m',ops,e1,e2⟩:=M'.agN hQ h bJ hk hg bm;exact⟨m',ops,e1,.inl e2⟩
theorem bA.MI.acc(M:Q.MI C nd fu gs w t q rel)(h:CI Q.J Q.cO C):Acc (Down (fun i=>Nx Q.P (i==0) Q.E.U (Q.Df C fu i)) (Q.J.n+1)) nd:=by
 refine Hy _ _ _ fun i hi=>?_;cases i with
 |zero=>
  have h0:=M.g0;cases hm:C.dm with
  |run=>rw[hm]at h0;exact h0.2.acc
  |blk=>rw[hm]at h0;exact(Tz.stop h0.2.2.2).acc
  |fH=>rw[hm]at h0;exact(Tz.stop h0.1).acc
  |rG=>rw[hm]at h0;exact h0.elim
 |succ k=>
  have tr:∀{P:Program} {main:Bool} {U:Nat->Nat->Prop} (x:Nd),Acc (Nx P main U fun _ _ _ _=>True) x:=fun x=>⟨x,fun y hy=>absurd trivial hy.1⟩;show Acc (Nx Q.P _ _ (match C.ks k with|.at pc _=>Q.WS _ _ pc|_=>fun _ _ _ _=>True)) _
  by_cases hk:k<C.j
  ·have hs:=M.wk k hk;cases hc:C.ks k with
   |«at» pc md=>rw[hc]at hs;exact hs.2.1.acc
   |no=>exact tr _
   |dV i n=>exact tr _
   |qt n=>exact tr _
  ·rw[h.no k (by omega)];exact tr _
theorem bA.phase(hQ:Q.Laws)(h:CI Q.J Q.cO C)(bJ:Calm Q.J C)(M:Q.MI C nd fu gs w t q rel):Reach Q.P Q.AH (crowd gs w sl) t:=by
 have key:∀(μ:Nat) (C:jE Q.E) (nd:Nat->Nd) (fu:Nat->Nat) (gs:Array _) (w:World) (sl:Option _) (t:Trace) (q:Nat->Nat) (rel:Nat->Option Nat),mu Q.J C=μ->CI Q.J Q.cO C->Calm Q.J C->Q.MI C nd fu gs w t q rel->Reach Q.P Q.AH (crowd gs w sl) t:=by
  intro μ;induction μ using ald with
  |_ μ an1=>
  intro C nd fu gs w sl t q rel hμ h bJ M;have trees:∀(D:Nat->(Nat->Prop)->(Nat->Prop)->Goroutine->World->Prop) (nd:Nat->Nd),Acc (Down (fun i=>Nx Q.P (i==0) Q.E.U (D i)) (Q.J.n+1)) nd->∀(ν:Nat) (C:jE Q.E) (fu:Nat->Nat) (gs:Array _) (w:World) (sl:Option _) (t:Trace) (q:Nat->Nat) (rel:Nat->Option Nat),
    Q.Df C fu=D->mu Q.J C=μ->Q.nu C q=ν->CI Q.J Q.cO C->Calm Q.J C->Q.MI C nd fu gs w t q rel->Reach Q.P Q.AH (crowd gs w sl) t:=by
   intro D nd WI;induction WI with
   |intro nd _ ihd=>
    intro ν;induction ν using ald with
    |_ ν an2=>
    intro C fu gs w sl t q rel hD hμ hν h bJ M;obtain⟨m',ops,e1,hA|hF⟩:=M.step hQ h bJ
    ·refine Reach.step e1 ?_;obtain⟨C',nd',N5,iQ,w',tj,q',fZ,rfl,h',acB,M',aV|⟨e2,e3,hdn|⟨rfl,hnu⟩⟩⟩:=hA
     ·exact an1 _ (by omega) C' nd' N5 iQ w' tj _ q' _ rfl h' acB M'
     ·rw[hD]at hdn;exact ihd nd' hdn _ C' N5 iQ w' tj _ q' _ (e3.trans hD) (e2.trans hμ) rfl h' acB M'
     ·exact an2 _ (by omega) C' N5 iQ w' tj _ q' _ (e3.trans hD) (e2.trans hμ) rfl h' acB M'
    ·exact Reach.step e1 (Reach.here hF)
  exact trees _ nd (M.acc h) _ C fu gs w sl t q rel rfl hμ rfl h bJ M
 exact key _ C nd fu gs w sl t q rel rfl h bJ M
end
end Ph
namespace Ph
open Conc Ren
open Lock (Word PC Mv bn hr hd)
def nv(m:Word):Nat:=bn m.L+2 *bn m.K+4 *bn m.S+8 *m.W
theorem an3(m:Word):val m=(nv m:Int):=rfl
theorem i_(b:Bool):bn b=0/\b=false\/bn b=1/\b=true:=by cases b;exact .inl ⟨rfl,rfl⟩;exact .inr ⟨rfl,rfl⟩
theorem LU(m:Word):(nv m%2==1)=m.L:=by
 unfold nv;rcases i_ m.L with⟨e,h⟩|⟨e,h⟩<;>rw[e,h]<;>simp<;>omega
theorem LW(m:Word):(nv m/2%2==1)=m.K:=by
 unfold nv;rcases i_ m.L with⟨e,h⟩|⟨e,h⟩<;>rcases i_ m.K with⟨e2,h2⟩|⟨e2,h2⟩<;>rw[e,e2,h2]<;>simp<;>omega
theorem Cl(m:Word):(nv m/4%2==1)=m.S:=by
 unfold nv;rcases i_ m.L with⟨e,h⟩|⟨e,h⟩<;>rcases i_ m.K with⟨e2,h2⟩|⟨e2,h2⟩<;>rcases i_ m.S with⟨e3,h3⟩|⟨e3,h3⟩<;>rw[e,e2,e3,h3]<;>simp<;>omega
theorem Cm(m:Word):nv m/8=m.W:=by
 unfold nv;rcases i_ m.L with⟨e,h⟩|⟨e,h⟩<;>rcases i_ m.K with⟨e2,h2⟩|⟨e2,h2⟩<;>rcases i_ m.S with⟨e3,h3⟩|⟨e3,h3⟩<;>rw[e,e2,e3]<;>omega
theorem ic(n:Nat):(n%2==0)=!(n%2==1):=by
 rcases Nat.mod_two_eq_zero_or_one n with h|h<;>rw[h]<;>rfl
theorem Dv(m:Word):wd (nv m)=m:=by
 unfold wd;rw[LU,LW,Cl,Cm]
theorem agS{m:Word}(h:m.W<=8):nv m<72:=by
 unfold nv;have:=Lock.qg m.L;have:=Lock.qg m.K;have:=Lock.qg m.S;omega
theorem acC{m m':Word}(h:nv m=nv m'):m=m':=by rw[<-Dv m,h,Dv]
theorem val_inj{m m':Word}(h:val m=val m'):m=m':=acC (by exact Int.ofNat.inj h)
theorem e9{p:Nat->Bool}{m:Word}(h:m.W<=8)(hp:p (nv m)=true):nv m∈(List.range 72).filter p:=List.mem_filter.2 ⟨List.mem_range.2 (agS h),hp⟩
theorem P9(h:it<=4):IntKind.i64.wrap ((it:Int)+1)=((it+1:Nat):Int):=by
 have:it=0\/it=1\/it=2\/it=3\/it=4:=by omega
 rcases this with rfl|rfl|rfl|rfl|rfl<;>rfl
theorem gn.lf{al:List (Nat×Value)}{call:Option (FuncId×Array Value)}{load:Option (TypeId×Value)}{r:Frame×List Frame}(h:gn l site al call load r):∃j,r.1=Ph.lf site (sA al) j:=⟨_,h.fr.eq⟩
theorem T2:cG PR 169 (fun _=>do mark .disable;pure ala):=⟨_,Tryz.func169,by kernel_rfl,by kernel_rfl,by kernel_rfl,by kernel_rfl⟩
theorem LX:cG PR 170 (fun _=>do mark .enable;pure ala):=⟨_,Tryz.func170,by kernel_rfl,by kernel_rfl,by kernel_rfl,by kernel_rfl⟩
theorem agT:cG PR 182 (ak_ .acquire):=⟨_,Tryz.func182,by kernel_rfl,by kernel_rfl,by kernel_rfl,by kernel_rfl⟩
theorem agU:cG PR 168 (ak_ .releaseMerge):=⟨_,Tryz.func168,by kernel_rfl,by kernel_rfl,by kernel_rfl,by kernel_rfl⟩
theorem Ii:cG PR 204 (alw (.int .i32)):=⟨_,Tryz.func204,by kernel_rfl,by kernel_rfl,by kernel_rfl,by kernel_rfl⟩
theorem agV:cG PR 206 (alr (Op.intArith .add) .i32 true):=⟨_,Tryz.func206,by kernel_rfl,by kernel_rfl,by kernel_rfl,by kernel_rfl⟩
theorem agW:cG PR 214 Extern.Sync.canSpin:=⟨_,Tryz.func214,by kernel_rfl,by kernel_rfl,by kernel_rfl,by kernel_rfl⟩
theorem agX:cG PR 217 Extern.OsHooks.nano:=⟨_,Tryz.func217,by kernel_rfl,by kernel_rfl,by kernel_rfl,by kernel_rfl⟩
theorem agY:(PR.funcs[217]?).any (·.norace)=true:=by kernel_rfl
theorem agZ:cG PR 218 alm:=⟨_,Tryz.func218,by kernel_rfl,by kernel_rfl,by kernel_rfl,by kernel_rfl⟩
theorem XP:cG PR 220 aln:=⟨_,Tryz.func220,by kernel_rfl,by kernel_rfl,by kernel_rfl,by kernel_rfl⟩
theorem ag0:(PR.funcs[205]?).any (·.norace)=true:=by kernel_rfl
theorem Og:ua PR (isAgg 21)=some false:=by kernel_rfl
theorem acD:PR.underlying 253=some (.pointer 187):=by simp
theorem Ij:PR.underlying 159=some .unsafePointer:=by simp
theorem i187:(PR.info? 187).map (fun i=>decide (i.size=0))=some false:=by kernel_rfl
theorem an4:cG PR 215 Extern.Sync.nothing:=⟨_,Tryz.func215,by kernel_rfl,by kernel_rfl,by kernel_rfl,by kernel_rfl⟩
theorem XQ{cs:List _}(h:ahead f=some (215,#[])):stepG PR main (G f cs) w=.go (G (f.finish unit) cs) w #[]:=
 eV an4 h (by rfl) (by rfl) (by simp)
theorem stood{r:Frame×List _}{l:List _}{site:List _}{al:List _}{call:Option _}{load:Option _}(h:look ks r=iT l site al call load)(hk:al.map (·.1)=ks):gn l site al call load r:=by
 subst hk;exact stands h
theorem wrap_small{z:Nat}(h:z<1000):alo.wrap z=z:=by
 simp[IntKind.wrap,IntKind.bits];omega
namespace Env
section
variable{E:Env}{A:(Nat->Prop)->(Nat->Prop)->Goroutine->World->Prop}{x:Nat}{S X:Nat->Prop}{Fx:World->Prop}{c:Frame}{cs B:List Frame}
def LY(E:Env)(A:(Nat->Prop)->(Nat->Prop)->Goroutine->World->Prop)(x:Nat)(S X:Nat->Prop)(Fx:World->Prop)(c:Frame)(cs:List _):=
 ∀k w γ,Fx w->E.iA γ (w.heap[E.Mp]?)->E.Tree PR false (E.eJ PR A k (.ur (E.upd γ x))) (fun a=>S a\/a=E.Mp) (fun a=>X a\/a=E.Mp) (G (c.finish unit) cs) w
theorem via{D:(Nat->Prop)->(Nat->Prop)->Goroutine->World->Prop}{site:List _}{al:List _}{l:List _}(hf:Fr site (sA al) f)(k:∀j w3,aP E.U S w w3->E.Tree PR false D S X (G (bD PR 300 ((lf site (sA al) j).finish v) l).1 (bD PR 300 ((lf site (sA al) j).finish v) l).2) w3):E.Tree PR false D S X (G (f.finish v) l) w:=by
 rw[hf.eq];exact ak6 300 fun w3 hr=>k _ w3 hr
variable(bj:∀i,¬E.U E.Mp i)(K:E.Kn S Fx)(hB:B=(LAS E.Fd c cs).2)(hT:LY E A x S X Fx c cs)
section
include bj K hT
theorem aac{l:List _}(n:Nat)(h:ahead f=some (182,#[ptr E.Fd]))(hn:bD PR n (f.finish unit) l=(c.finish unit,cs))(k:Nat)(hF:Fx w):E.Tree PR false (E.eJ PR A k (.la x)) S X (G f l) w:=by
 refine .stop ?_;cases k with
 |zero=>trivial
 |succ k=>
  refine⟨rfl,rfl,fun w2 γ hr hm=>⟨G (f.finish unit) l,iy (by simp) agT h,ak6 n fun w3 bV=>?_⟩⟩;rw[hn];have wY:=K.rely (K.rely hF hr) (Dk (fun a ha=>.inl ha) bV);refine hT k w3 γ wY ?_;have:=(bV.kept _ (.inr rfl)).eq fun i hu=>bj i hu;simp_all
theorem XS{l:List _}(n:Nat)(hc:kE f=some (253,159,ptr E.Fd))(h:ahead (bD PR 300 (f.finish (ptr E.Fd)) l).1=some (182,#[ptr E.Fd]))(hn:bD PR n ((bD PR 300 (f.finish (ptr E.Fd)) l).1.finish unit) (bD PR 300 (f.finish (ptr E.Fd)) l).2=(c.finish unit,cs))(k:Nat)(hF:Fx w):
  E.Tree PR false (E.eJ PR A k (.la x)) S X (G f l) w:=by
 refine Tz.one rfl fun w2 hr=>?_;have vC:=K.rely hF hr;obtain⟨v,hv⟩:=(K.fd vC).cell0;refine⟨G _ l,w2,#[],S,X,iz hc acD Ij i187 hv,aL S X w2,ak6 300 fun w3 bV=>?_⟩;exact aac bj K hT n h hn k (K.rely vC bV)
end
include bj K hB hT
theorem aad{bc it:Int}{sv:Bool}{r:Frame×List _}(h:gn B EY (nA E.Fd bc sv aw it) (some (170,#[])) none r)(k:Nat)(hF:Fx w):E.Tree PR false (E.eJ PR A k (.le x)) S X (G r.1 r.2) w:=by
 refine .stop ?_;cases k with
 |zero=>trivial
 |succ k=>
  refine⟨rfl,rfl,fun w2 hr=>⟨G _ r.2,dO (by simp) LX h.call,ak6 300 fun w3 bV=>?_⟩⟩;have wY:=K.rely (K.rely hF hr) bV;obtain⟨j,hj⟩:=h.lf;rw[hj,h.callers];have h1:=stood (Xs (Fd:=E.Fd) (bc:=bc) (sv:=sv) (aw:=aw) (it:=it) (j:=j) (l:=B)) rfl;have hc:=Xt (Fd:=E.Fd) (bc:=bc) (sv:=sv) (aw:=aw) (it:=it) (j:=j) (l:=B);change E.Tree PR _ _ S X (G (wu _ bc sv aw it j B).1 (wu E.Fd bc sv aw it j B).2) w3;generalize wu E.Fd bc sv aw it j B=r1 at h1 hc;obtain⟨j1,KN⟩:=h1.lf;obtain⟨f1,l1⟩:=r1;have e1:=h1.callers.symm;subst e1 KN;have h2:=stood (Xu (Fd:=E.Fd) (bc:=bc) (sv:=sv) (aw:=aw) (it:=it) (j:=j1) (l:=B)) rfl;have hn:bD PR 9 ((E4 E.Fd bc sv aw it j1 B).1.finish unit) (E4 E.Fd bc sv aw it j1 B).2=(c.finish unit,cs):=by
   obtain⟨j2,F_⟩:=h2.lf;rw[F_,h2.callers,hB];exact aci
  exact XS bj K hT 9 hc h2.call hn k wY
def Reads(E:Env)(A:(Nat->Prop)->(Nat->Prop)->Goroutine->World->Prop)(x:Nat)(S X:Nat->Prop)(Fx:World->Prop)(B:List Frame)(k:Nat):Prop:=
 ∀(site:List Item) (bc:Int) (sv aw:Bool) (it:Nat) (r:Frame×List Frame) (w:World),(site=Ti\/site=Lv\/site=EX)->gn B site (nA E.Fd bc sv aw it) none (some (21,ptr E.Fd)) r->Fx w->E.Tree PR false (E.eJ PR A k (.lk (.rd aw sv it) x)) S X (G r.1 r.2) w
theorem ag1{bc it:Int}{sv:Bool}{old:Word}{r:Frame×List Frame}(h:gn B Av (nA E.Fd bc sv aw it) (some (206,#[ptr E.Fd,.int .i32 (delta sv (nv old))])) none r)(k:Nat)(hF:Fx w):E.Tree PR false (E.eJ PR A k (.lk (.a1 old sv) x)) S X (G r.1 r.2) w:=by
 refine .stop ?_;cases k with
 |zero=>trivial
 |succ k=>
  refine⟨rfl,rfl,fun w2 m cc hr hM ib nC hW hc=>.inr ?_⟩;obtain⟨p1,p2,p3⟩:=nC;have iE:alo.wrap (val m+delta sv (nv old))=val ⟨true,m.K,if sv=false\/old.W=1 then false else m.S,m.W-1⟩:=by
   have hd:delta sv (nv old)=if sv=false\/old.W=1 then-11 else-7:=by
    unfold delta;rw[Cm];simp_all
   rw[hd];have bK:=Lock.qg m.K;have b0:bn false=0:=rfl;have b1:bn true=1:=rfl;by_cases hx:sv=false\/old.W=1
   ·rw[if_pos hx,if_pos hx];unfold val;simp only[p1,p2,b0,b1];have e:((0+2 *bn m.K+4 *1+8 *m.W:Nat))+ -11=((1+2 *bn m.K+4 *0+8 *(m.W-1):Nat):Int):=by omega
    rw[e];exact wrap_small (by omega)
   ·rw[if_neg hx,if_neg hx];unfold val;simp only[p1,p2,b0,b1];have e:((0+2 *bn m.K+4 *1+8 *m.W:Nat))+ -7=((1+2 *bn m.K+4 *1+8 *(m.W-1):Nat):Int):=by omega
    rw[e];exact wrap_small (by omega)
  refine⟨_,_,cc,G _ r.2,_,_,Mv.a1 m old cc sv,uf agV h.call hM.cell0 (hM.thaw 0),by rw[iE];exact hM.oJ _,Eff.set _ _ _ _,EvA.two _ _ (by omega),fun aV=>by omega,?_⟩;have vC:Fx (w2.setCell E.mu (.int .i32 (alo.wrap (val m+delta sv (nv old))))):=by rw[iE];exact K.Ap (K.rely hF hr) hM (Eff.set _ _ _ _) (hM.oJ _)
  refine via h.fr fun j w3 bV=>?_;rw[h.callers];have h1:=stood (Xr (Fd:=E.Fd) (bc:=bc) (sv:=sv) (aw:=aw) (it:=it) (x:=alo.wrap (val m+delta sv (nv old))) (j:=j) (l:=B)) rfl;exact aad bj K hB hT h1 k (K.rely vC bV)
end
end Env
theorem P_{U:Nat->Nat->Prop}(S X:Nat->Prop)(w:World):iF U S X w w.later #[] S X:=⟨⟨fun _ _ _=>rfl,akS _,fun a=>⟨.inl,fun h=>h.resolve_right fun y=>by simp[World.later]at y;omega⟩,fun a=>⟨.inl,fun h=>h.resolve_right fun y=>by simp[World.later]at y;omega⟩,fun e he=>by simp_all,rfl,⟨w.tick,rfl⟩,rfl⟩,fun e he=>by simp_all⟩
theorem T3{b:Bool}(h:¬(a=true/\b=false)):(a&&!b)=false:=by simp_all
namespace Env
section
variable{E:Env}{A:(Nat->Prop)->(Nat->Prop)->Goroutine->World->Prop}{x:Nat}{S X:Nat->Prop}{Fx:World->Prop}{c:Frame}{cs B:List Frame}
variable(bj:∀i,¬E.U E.Mp i)(K:E.Kn S Fx)(hB:B=(LAS E.Fd c cs).2)(hT:LY E A x S X Fx c cs)
include bj K hB hT
def AtC2(E:Env)(A:(Nat->Prop)->(Nat->Prop)->Goroutine->World->Prop)(x:Nat)(S X:Nat->Prop)(Fx:World->Prop)(B:List Frame)(k:Nat):Prop:=
 ∀(m:Word) (bc:Int) (sv aw:Bool) (it:Nat) (r:Frame×List Frame) (w:World),m.W<=8->(sv=true->aw=true)->(aw=true->m.K=true)->it<=4->look [6,0,2,3,4,5] r=toC2 B E.Fd bc sv aw it (nv m)->Fx w->E.Tree PR false (E.eJ PR A k (.lk (.c2 m aw sv it) x)) S X (G r.1 r.2) w
def wZ(E:Env)(A:(Nat->Prop)->(Nat->Prop)->Goroutine->World->Prop)(x:Nat)(S X:Nat->Prop)(Fx:World->Prop)(B:List Frame)(k:Nat):Prop:=
 ∀(m:Word) (bc:Int) (sv aw:Bool) (it:Nat) (r:Frame×List Frame) (w:World),m.W<=8->(sv=true->aw=true)->(aw=true->m.K=true)->it<=4->gn B Dm (Tf E.Fd bc sv aw it (nv m)) none none r->Fx w->E.Tree PR false (E.eJ PR A k (behind (hr m aw sv it) x)) S X (G r.1 r.2) w
omit bj K hB hT in
theorem Qa(m:Word)(aw sv:Bool)(it:Nat):(behind (.hw m aw sv it) x:E.vz)=.lk (.hw m aw sv it) x:=rfl
omit bj K hB hT in
theorem Dw(m:Word)(aw sv:Bool)(it:Nat):(behind (.c2 m aw sv it) x:E.vz)=.lk (.c2 m aw sv it) x:=rfl
theorem T4(ih:Reads E A x S X Fx B k){bc:Int}{sv:Bool}(hit:it<=4){r:Frame×List _}(h:gn B wj (nA E.Fd bc sv aw it) (some (215,#[])) none r)(hF:Fx w):E.Tree PR false (E.eJ PR A k (.lk (.rd aw sv (it+1)) x)) S X (G r.1 r.2) w:=by
 refine Tz.one rfl fun w2 hr=>⟨G _ r.2,w2,#[],S,X,XQ h.call,aL S X w2,via h.fr fun j w3 bV=>?_⟩;rw[h.callers];have h1:=stood (Xm (Fd:=E.Fd) (bc:=bc) (sv:=sv) (aw:=aw) (it:=it) (j:=j) (l:=B)) rfl;rw[P9 hit]at h1;exact ih _ bc sv aw _ _ w3 (.inr (.inl rfl)) h1 (K.rely (K.rely hF hr) bV)
theorem ag2(ih:∀k',k'<k->Reads E A x S X Fx B k'){m:Word}(LZ:m.W<=8){bc:Int}(hit:it<4){r:Frame×List _}(h:gn B Lu (alC E.Fd bc false false it (nv m)) (some (204,#[ptr E.Fd,.int .i32 (nv m),.int .i32 (val {m with K:=true})])) none r)(hF:Fx w):E.Tree PR false (E.eJ PR A k (.lk (.c1 m it) x)) S X (G r.1 r.2) w:=by
 refine .stop ?_;cases k with
 |zero=>trivial
 |succ k=>
  refine⟨rfl,rfl,fun w2 m2 cc hr hM ib nC hW hc=>.inr ?_⟩;by_cases hm:m2=m
  ·subst hm;refine⟨_,_,cc,G _ r.2,_,_,Mv.c1y m2 cc it,iR Ii h.call hM.cell0 (hM.thaw 0),hM.oJ _,Eff.set _ _ _ _,EvA.two _ _ (by omega),fun aV=>by omega,via h.fr fun j w3 bV=>?_⟩;rw[h.callers];have h1:=stood (Tn (Fd:=E.Fd) (bc:=bc) (sv:=false) (aw:=false) (it:=it) (old:=(nv m2)) (j:=j) (l:=B)) rfl;exact T4 bj K hB hT (ih k (by omega)) (by omega) h1 (K.rely (K.Ap (K.rely hF hr) hM (Eff.set _ _ _ _) (hM.oJ _)) bV)
  ·refine⟨_,_,cc,G _ r.2,_,_,Mv.c1n m2 m cc it hm,h_ Ii h.call hM.cell0 (hM.thaw 0) (fun e=>hm (val_inj e)),hM,Eff.refl _ _,EvA.one _ _ _ (by omega),fun aV=>by omega,via h.fr fun j w3 bV=>?_⟩;rw[h.callers];have h1:=stood (Tp (Fd:=E.Fd) (bc:=bc) (sv:=false) (aw:=false) (it:=it) (old:=(nv m)) (j:=j) (l:=B)) rfl;exact T4 bj K hB hT (ih k (by omega)) (by omega) h1 (K.rely (K.rely hF hr) bV)
theorem ag3(ih:∀k',k'<k->Reads E A x S X Fx B k')(hC:∀k',k'<k->AtC2 E A x S X Fx B k'){m:Word}(LZ:m.W<=8){bc:Int}{sv:Bool}(qd:sv=true->aw=true)(EP:aw=true->m.K=true)(hit:it<=4)(hLS:m.L=true/\m.S=false)
  {r:Frame×List Frame}(h:gn B As (alS E.Fd bc sv aw it (nv m)) (some (214,#[.int .i64 (it:Int)])) none r)(hF:Fx w):E.Tree PR false (E.eJ PR A k (.lk (.hw m aw sv it) x)) S X (G r.1 r.2) w:=by
 refine .stop ?_;cases k with
 |zero=>trivial
 |succ k=>
  have ZM:(nv m%2==1&&nv m/4%2==0)=true:=by rw[LU,ic,Cl,hLS.1,hLS.2];rfl
  have no:∀w1,Fx w1->E.Tree PR false (E.eJ PR A k (behind (hd m aw sv it false) x)) S X (G (r.1.finish (.bool false)) r.2) w1:=by
   intro w1 zm;have e:hd m aw sv it false=.c2 m aw sv it:=by unfold hd;simp
   rw[e,Dw];refine via h.fr fun j w3 bV=>?_;rw[h.callers];have dU:nv m∈sx aw:=e9 LZ (by
    rw[ZM,LW];cases aw with
    |false=>rfl
    |true=>rw[EP rfl];rfl)
   refine hC k (by omega) m bc sv aw it _ w3 LZ qd EP hit ?_ (K.rely zm bV);cases aw with
   |false=>
    have:sv=false:=by simp_all
    subst this;exact pP PX dU
   |true=>
    cases sv with
    |false=>exact pP PY dU
    |true=>exact pP PZ dU
  have yes:it<4->∀w1,Fx w1->E.Tree PR false (E.eJ PR A k (behind (hd m aw sv it true) x)) S X (G (r.1.finish (.bool true)) r.2) w1:=by
   intro h4 w1 zm;by_cases hx:aw=false/\m.K=false/\m.W≠0
   ·have e:hd m aw sv it true=.c1 m it:=by unfold hd;simp_all
    rw[e];obtain⟨rfl,hK,hW0⟩:=hx;have:sv=false:=by simp_all
    subst this;refine via h.fr fun j w3 bV=>?_;rw[h.callers];have dU:nv m∈Ts:=e9 LZ (by rw[ZM,ic,LW,hK,Cm];simp[hW0]);have h1:=stood (pP (P0 (Fd:=E.Fd) (bc:=bc) (sv:=false) (it:=(it:Int)) (j:=j) (l:=B)) dU) rfl;rw[Dv]at h1;exact ag2 bj K hB hT (fun k' oo=>ih k' (by omega)) LZ h4 h1 (K.rely zm bV)
   ·have e:hd m aw sv it true=.rd aw sv (it+1):=by unfold hd;simp_all
    rw[e];refine via h.fr fun j w3 bV=>?_;rw[h.callers];have h1:gn B wj (nA E.Fd bc sv aw it) (some (215,#[])) none (iU E.Fd bc sv aw it (nv m:Int) true j B):=by
     cases aw with
     |true=>exact stood (pP (P2 (bc:=bc) (sv:=sv) (j:=j) (l:=B)) (e9 LZ ZM)) rfl
     |false=>
      refine stood (pP (P1 (Fd:=E.Fd) (bc:=bc) (sv:=sv) (it:=(it:Int)) (j:=j) (l:=B)) (e9 LZ ?_)) rfl;rw[ZM,ic,LW,Cm];cases hK:m.K with
      |true=>rfl
      |false=>
       have:m.W=0:=ali fun y=>hx ⟨rfl,hK,y⟩;rw[this];rfl
    exact T4 bj K hB hT (ih k (by omega)) hit h1 (K.rely zm bV)
  refine⟨rfl,rfl,fun w2 m2 cc hr hM ib nC hW hc=>.inr ?_⟩;by_cases h4:it<4
  ·refine⟨_,m2,cc,G _ r.2,w2.asked,#[],Mv.hw m2 m cc aw sv it w2.spins,Ch h.call agW (by omega),hM.asked,Eff.asked _ _,EvA.nil _,fun aV=>by omega,?_⟩;cases w2.spins with
   |false=>exact no w2.asked (K.Ap (K.rely hF hr) hM (Eff.asked _ _) hM.asked)
   |true=>exact yes h4 w2.asked (K.Ap (K.rely hF hr) hM (Eff.asked _ _) hM.asked)
  ·exact⟨_,m2,cc,G _ r.2,w2,#[],Mv.hw m2 m cc aw sv it false,ET h.call agW (by omega),hM,Eff.refl _ _,EvA.nil _,fun aV=>by omega,no w2 (K.rely hF hr)⟩
theorem XT(ih:∀k',k'<k->Reads E A x S X Fx B k')(hC:∀k',k'<=k->AtC2 E A x S X Fx B k'):wZ E A x S X Fx B k:=by
 intro m bc sv aw it r w LZ qd EP hit h hF;obtain⟨j,hj⟩:=h.lf;rw[hj,h.callers];refine ak6 300 fun w3 bV=>?_;have wY:=K.rely hF bV;by_cases hx:m.L=true/\m.S=false
 ·have e:hr m aw sv it=.hw m aw sv it:=by unfold hr;simp_all
  rw[e,Qa];have ZM:(nv m%2==1&&nv m/4%2==0)=true:=by rw[LU,ic,Cl,hx.1,hx.2];rfl
  have h1:=stood (pP (Tm (Fd:=E.Fd) (bc:=bc) (sv:=sv) (aw:=aw) (it:=it) (j:=j) (l:=B)) (e9 LZ ZM)) rfl;exact ag3 bj K hB hT ih (fun k' oo=>hC k' (by omega)) LZ qd EP hit hx h1 wY
 ·have e:hr m aw sv it=.c2 m aw sv it:=by unfold hr;simp_all
  rw[e,Dw];have dU:nv m∈Au aw:=e9 LZ (by
   rw[LU,ic,Cl,LW,T3 hx];cases aw with
   |false=>rfl
   |true=>rw[EP rfl];rfl)
  refine hC k (akS _) m bc sv aw it _ w3 LZ qd EP hit ?_ wY;cases aw with
  |false=>
   have:sv=false:=by simp_all
   subst this;exact pP PU dU
  |true=>
   cases sv with
   |false=>exact pP PV dU
   |true=>exact pP PW dU
end
end Env
namespace Env
section
variable{E:Env}{A:(Nat->Prop)->(Nat->Prop)->Goroutine->World->Prop}{x:Nat}{S X:Nat->Prop}{Fx:World->Prop}{c:Frame}{cs B:List Frame}
variable(bj:∀i,¬E.U E.Mp i)(K:E.Kn S Fx)(hB:B=(LAS E.Fd c cs).2)(hT:LY E A x S X Fx c cs)
include bj K hB hT
theorem aae(hH:∀k',k'<k->wZ E A x S X Fx B k'){bc it:Int}{sv:Bool}{r:Frame×List _}(h:gn B E3 (nA E.Fd bc sv aw it) none (some (21,ptr E.Fd)) r)(hF:Fx w):E.Tree PR false (E.eJ PR A k (.lk (.r2 sv) x)) S X (G r.1 r.2) w:=by
 refine .stop ?_;cases k with
 |zero=>trivial
 |succ k=>
  refine⟨rfl,rfl,fun w2 m cc hr hM ib nC hW hc=>.inr ?_⟩;have pq:stepG PR false (G r.1 r.2) w2=.go _ w2 #[]:=oH h.load Og hM.cell0 (by rw[h.fr.fn];exact ag0);have hL:∀(D:(Nat->Prop)->(Nat->Prop)->Goroutine->World->Prop),(∀j w3,aP E.U S w2 w3->E.Tree PR false D S X (G (sC E.Fd bc sv aw it (nv m) j B).1 (sC E.Fd bc sv aw it (nv m) j B).2) w3)->E.Tree PR false D S X (G (r.1.finish (.int .i32 (val m))) r.2) w2:=by
   intro D hk;rw[h.fr.eq,h.callers];exact Tz.Hu 300 fun w3 bV=>hk _ w3 bV
  cases Ls:m.S with
  |false=>
   refine⟨_,m,cc,_,w2,#[],Mv.r2n m cc sv Ls,pq,hM,Eff.refl _ _,EvA.nil _,fun aV=>by omega,hL _ fun j w3 bV=>?_⟩;have h1:=stood (pP (Ty (Fd:=E.Fd) (bc:=bc) (sv:=sv) (aw:=aw) (it:=it) (j:=j) (l:=B)) (e9 hW (by rw[ic,Cl,Ls];rfl))) rfl;exact hH k (by omega) m bc sv true 0 _ w3 hW (fun _=>rfl) (fun _=>nC.2 Ls) (by omega) h1 (K.rely (K.rely hF hr) bV)
  |true=>
   refine⟨_,m,cc,_,w2,#[],Mv.r2s m cc sv Ls,pq,hM,Eff.refl _ _,EvA.nil _,fun aV=>by omega,hL _ fun j w3 bV=>?_⟩;obtain⟨p1,p2,p3⟩:=nC.1 Ls;have h4:(nv m%4==0)=true:=by
    unfold nv;have b0:bn false=0:=rfl;rw[p1,p2,b0];simp;omega
   have dU:nv m∈hard:=e9 hW (by rw[h4,Cl,Ls,Cm];simp;omega);have h1:gn B Av (nA E.Fd bc sv aw it) (some (206,#[ptr E.Fd,.int .i32 (delta sv (nv m))])) none (sC E.Fd bc sv aw it (nv m) j B):=by
    cases sv with
    |false=>exact stood (pP (LA) dU) rfl
    |true=>exact stood (pP (LB) dU) rfl
   exact ag1 bj K hB hT h1 k (K.rely (K.rely hF hr) bV)
theorem ag4(hH:∀k',k'<k->wZ E A x S X Fx B k'){bc it:Int}{r:Frame×List _}(h:gn B Lz ((95,.bool false)::nA E.Fd bc false aw it) (some (217,#[])) none r)(hF:Fx w):E.Tree PR false (E.eJ PR A k (.lk .t2 x)) S X (G r.1 r.2) w:=by
 refine .stop ?_;cases k with
 |zero=>trivial
 |succ k=>
  refine⟨rfl,rfl,fun w2 m cc hr hM ib nC hW hc=>.inr ?_⟩;refine⟨_,m,cc,G _ r.2,w2.later,#[],Mv.t2 m cc (decide (1000000<IntKind.i64.wrap (((w2.os.mono+w2.tick))-bc))),Dg h.call agX agY,hM.later,Eff.later _ _,EvA.nil _,fun aV=>by omega,via h.fr fun j w3 bV=>?_⟩;rw[h.callers];have h1:=stood (Xq (Fd:=E.Fd) (bc:=bc) (T:=((w2.os.mono+w2.tick))) (aw:=aw) (it:=it) (j:=j) (l:=B)) rfl;exact aae bj K hB hT (fun k' oo=>hH k' (by omega)) h1 (K.rely (K.Ap (K.rely hF hr) hM (Eff.later _ _) hM.later) bV)
theorem aaf(hH:∀k',k'<k->wZ E A x S X Fx B k'){bc it:Int}{sv:Bool}{r:Frame×List _}(h:gn B EZ (nA E.Fd bc sv aw it) (some (218,#[.pointer (some E.ms),v8,.int .i64 2])) none r)(hF:Fx w):E.Tree PR false (E.eJ PR A k (.lk (.s1 sv) x)) S X (G r.1 r.2) w:=by
 refine .stop ?_;cases k with
 |zero=>trivial
 |succ k=>
  refine⟨rfl,rfl,fun w2 m cc hr hM ib nC hW hc=>?_⟩;cases cc with
  |zero=>exact .inl ⟨sv,rfl,rfl,rF agZ h.call rfl hM.qh⟩
  |succ c0=>
   have hz:(((c0+1:Nat):Int)-1)=c0:=by omega
   have aA:=pv (main:=false) (cs:=r.2) agZ h.call rfl hM.qh (by omega) (hM.thaw 1);rw[hz]at aA;refine .inr ?_;cases sv with
   |false=>
    refine⟨_,m,c0,_,_,_,Mv.s1a m c0,aA,hM.yT c0,Eff.set _ _ _ _,EvA.sem _ _ (by omega),fun aV=>by omega,?_⟩;refine via h.fr fun j w3 bV=>?_;rw[h.callers];have h1:=stood (Tw (Fd:=E.Fd) (bc:=bc) (aw:=aw) (it:=it) (j:=j) (l:=B)) rfl;exact ag4 bj K hB hT (fun k' oo=>hH k' (by omega)) h1 (K.rely (K.Ap (K.rely hF hr) hM (Eff.set _ _ _ _) (hM.yT c0)) bV)
   |true=>
    refine⟨_,m,c0,_,_,_,Mv.s1b m c0,aA,hM.yT c0,Eff.set _ _ _ _,EvA.sem _ _ (by omega),fun aV=>by omega,?_⟩;refine via h.fr fun j w3 bV=>?_;rw[h.callers];have h1:=stood (Tx (Fd:=E.Fd) (bc:=bc) (aw:=aw) (it:=it) (j:=j) (l:=B)) rfl;exact aae bj K hB hT (fun k' oo=>hH k' (by omega)) h1 (K.rely (K.Ap (K.rely hF hr) hM (Eff.set _ _ _ _) (hM.yT c0)) bV)
theorem ag5(ih:∀k',k'<k->Reads E A x S X Fx B k')(hH:∀k',k'<k->wZ E A x S X Fx B k'):AtC2 E A x S X Fx B k:=by
 intro m bc sv aw it r w LZ qd EP hit hl hF;have h:=stood hl rfl;refine .stop ?_;cases k with
 |zero=>trivial
 |succ k=>
  refine⟨rfl,rfl,fun w2 m2 cc hr hM ib nC hW hc=>.inr ?_⟩;have aag:=by
   have:=h.call;rw[Dv]at this;exact this
  by_cases hm:m2=m
  ·subst hm;refine⟨_,_,cc,G (r.1.finish (.bool true)) r.2,_,_,Mv.c2y m2 cc aw sv it,iR Ii aag hM.cell0 (hM.thaw 0),hM.oJ _,Eff.set _ _ _ _,EvA.two _ _ (by omega),fun aV=>by omega,?_⟩;have vC:=K.Ap (K.rely hF hr) hM (Eff.set _ _ _ _) (hM.oJ (Lock.nw m2 aw sv));by_cases hx:m2.L=false/\m2.S=false
   ·rw[if_pos hx];refine via h.fr fun j w3 bV=>?_;rw[h.callers];have h1:=stood (pP (Xn (Fd:=E.Fd) (bc:=bc) (sv:=sv) (aw:=aw) (it:=(it:Int)) (j:=j) (l:=B)) (e9 LZ (by rw[ic,LU,ic,Cl,hx.1,hx.2];rfl))) rfl;exact aad bj K hB hT h1 k (K.rely vC bV)
   ·rw[if_neg hx];rw[h.fr.eq,h.callers];refine Tz.ZX 87 300 fun w3 bV=>?_;have wY:=K.rely vC bV;have dU:nv m2∈E1:=e9 LZ (by
     rw[ic,LU,ic,Cl];cases hL:m2.L<;>cases Ls:m2.S<;>simp_all)
    have h1:=stood (pP (Xo (Fd:=E.Fd) (bc:=bc) (sv:=sv) (aw:=aw) (it:=(it:Int)) (j:=fun i=>r.1.tmps.getD i undef) (l:=B)) dU) rfl;change E.Tree PR false _ S X (G (uj E.Fd bc sv aw (it:Int) (nv m2:Int) _ B).1 (uj E.Fd bc sv aw (it:Int) (nv m2:Int) _ B).2) w3;generalize uj E.Fd bc sv aw (it:Int) (nv m2:Int) _ B=r1 at h1;have h2:Fr Lx (sA ((87,.bool (decide (bc=0)))::(8,r1.1.tmps.getD 8 undef)::nA E.Fd bc sv aw it)) r1.1:=by
     refine⟨h1.fr.fn,h1.fr.todo,h1.fr.defers,h1.fr.mode,h1.fr.kind,h1.fr.round,h1.fr.size,fun i v e=>?_⟩;by_cases hi:i=8
     ·subst hi;exact akU e
     ·refine h1.fr.slot i v ?_;rw[<-e];unfold sA;rw[alk,alk,alk];have:(i==8)=false:=by simpa using hi
      rw[this]
    rw[h2.eq,h1.callers];refine ak6 300 fun w4 lQ=>?_;have Gb:=K.rely wY lQ;cases hd:decide (bc=0)with
    |false=>
     have h3:=stood (Tv (Fd:=E.Fd) (bc:=bc) (sv:=sv) (aw:=aw) (it:=(it:Int)) (v8:=r1.1.tmps.getD 8 undef) (j:=fun i=>r1.1.tmps.getD i undef) (l:=B)) rfl;exact aaf bj K hB hT (fun k' oo=>hH k' (by omega)) h3 Gb
    |true=>
     have h3:=stood (Tu (Fd:=E.Fd) (bc:=bc) (sv:=sv) (aw:=aw) (it:=(it:Int)) (v8:=r1.1.tmps.getD 8 undef) (j:=fun i=>r1.1.tmps.getD i undef) (l:=B)) rfl;change E.Tree PR false _ S X (G _ (Ly E.Fd bc sv aw true (it:Int) (r1.1.tmps.getD 8 undef) _ B).2) w4;refine Tz.one rfl fun w5 lT=>⟨_,_,_,S,X,Dg h3.call agX agY,P_ S X w5,via h3.fr fun j w6 tC=>?_⟩;have Qb:Fx w5.later:=K.later (K.rely Gb lT);have L3:Fx w6:=K.rely Qb tC;rw[h3.callers];have h4:=stood (Xp (Fd:=E.Fd) (sv:=sv) (aw:=aw) (it:=(it:Int)) (T:=((w5.os.mono+w5.tick:Nat):Int)) (v8:=r1.1.tmps.getD 8 undef) (bc:=bc) (j:=j) (l:=B)) rfl;exact aaf bj K hB hT (fun k' oo=>hH k' (by omega)) h4 L3
  ·refine⟨_,_,cc,G (r.1.finish (.bool false)) r.2,_,_,Mv.c2n m2 m cc aw sv it hm,h_ Ii aag hM.cell0 (hM.thaw 0) (fun e=>hm (val_inj e)),hM,Eff.refl _ _,EvA.one _ _ _ (by omega),fun aV=>by omega,?_⟩;refine via h.fr fun j w3 bV=>?_;rw[h.callers];have h1:=stood (Tq (Fd:=E.Fd) (bc:=bc) (sv:=sv) (aw:=aw) (it:=(it:Int)) (old:=(nv m:Int)) (j:=j) (l:=B)) rfl;exact ih k (by omega) EX bc sv aw it _ w3 (.inr (.inr rfl)) h1 (K.rely (K.rely hF hr) bV)
theorem Qc:∀k,Reads E A x S X Fx B k:=by
 intro k;induction k using ald with
 |_ k ih=>
 have ag6:∀k',k'<k->wZ E A x S X Fx B k'/\AtC2 E A x S X Fx B k':=by
  intro k';induction k' using ald with
  |_ k' ih2=>
  intro oo;have c2:=ag5 bj K hB hT (fun q hq=>ih q (by omega)) (fun q hq=>(ih2 q hq (by omega)).1);refine⟨XT bj K hB hT (fun q hq=>ih q (by omega)) (fun q hq=>?_),c2⟩;rcases Nat.lt_or_eq_of_le hq with aV|rfl
  ·exact(ih2 q aV (by omega)).2
  ·omega
 intro site bc sv aw it r w ag7 h hF;refine .stop ?_;cases k with
 |zero=>trivial
 |succ k=>
  refine⟨rfl,rfl,fun w2 m cc hr hM ib nC hW hc=>.inr ?_⟩;refine⟨_,m,cc,_,w2,#[],Mv.rd m cc aw sv it,oH h.load Og hM.cell0 (by rw[h.fr.fn];exact ag0),hM,Eff.refl _ _,EvA.nil _,fun aV=>by omega,?_⟩;rw[h.fr.eq,h.callers];refine Tz.Hu 60 fun w3 bV=>?_;refine(ag6 k (by omega)).1 m bc sv aw it _ w3 hW ib.1 nC ib.2 ?_ (K.rely (K.rely hF hr) bV);rcases ag7 with e|e|e
  ·rw[e];exact stood Lw rfl
  ·rw[e];exact stood Hw rfl
  ·rw[e];exact stood Hx rfl
omit hB in
theorem XU(k:Nat)(hF:Fx w):E.Tree PR false (E.eJ PR A k (.ld x)) S X (G (Frame.enter PR 160 #[ptr E.Fd] .normal) (c::cs)) w:=by
 refine ak6 60 fun w1 dE=>?_;have zm:=K.rely hF dE;refine .stop ?_;cases k with
 |zero=>trivial
 |succ k=>
  refine⟨rfl,rfl,fun w2 hr=>⟨G _ _,dO (by simp) T2 la0,ak6 60 fun w3 bV=>?_⟩⟩;have wY:=K.rely (K.rely zm hr) bV;refine .stop ?_;cases k with
  |zero=>trivial
  |succ k=>
   refine⟨rfl,rfl,fun w4 m cc lQ hM ib nC hW hc=>.inr ?_⟩;by_cases hm:m=.zero
   ·subst hm;refine⟨_,_,cc,G _ _,_,_,Mv.l0y cc,iR Ii la1 hM.cell0 (hM.thaw 0),hM.oJ ⟨true,false,false,0⟩,Eff.set _ _ _ _,EvA.two _ _ (by omega),fun aV=>by omega,ak6 60 fun w5 lT=>?_⟩;have Qb:=K.rely (K.Ap (K.rely wY lQ) hM (Eff.set _ _ _ _) (hM.oJ ⟨true,false,false,0⟩)) lT;refine .stop ?_;cases k with
    |zero=>trivial
    |succ k=>
     refine⟨rfl,rfl,fun w6 tC=>⟨G _ _,dO (by simp) LX la2,ak6 60 fun w7 pW=>?_⟩⟩;refine Tz.one rfl fun w8 CO=>?_;have hF8:=K.rely (K.rely (K.rely Qb tC) pW) CO;obtain⟨v,hv⟩:=(K.fd hF8).cell0;refine⟨G _ _,w8,#[],S,X,iz la3 acD Ij i187 hv,aL S X w8,ak6 60 fun w9 L4=>?_⟩;exact aac bj K hT 6 la4 la5 k (K.rely hF8 L4)
   ·refine⟨_,_,cc,G _ _,_,_,Mv.l0n m cc hm,h_ Ii la1 hM.cell0 (hM.thaw 0) (fun e=>hm (val_inj e)),hM,Eff.refl _ _,EvA.one _ _ _ (by omega),fun aV=>by omega,ak6 60 fun w5 lT=>?_⟩;exact Qc bj K rfl hT k _ 0 _ _ 0 _ w5 (.inl rfl) (stood las rfl) (K.rely (K.rely wY lQ) lT)
end
end Env
end Ph
namespace Ph
open Conc Ren
section
variable(Wg:Nat)(c:Frame)(cs:List Frame)
noncomputable def DA0:Frame×List Frame:=bD PR 60 (Frame.enter PR 181 #[ptr Wg] .deferred) (c::cs)
noncomputable def DA1:Frame×List Frame:=bD PR 60 ((DA0 Wg c cs).1.finish (ptr Wg)) (DA0 Wg c cs).2
noncomputable def DA2:Frame×List Frame:=bD PR 60 ((DA1 Wg c cs).1.finish unit) (DA1 Wg c cs).2
noncomputable def DA3:Frame×List Frame:=bD PR 60 ((DA2 Wg c cs).1.finish unit) (DA2 Wg c cs).2
noncomputable def DA4:Frame×List Frame:=bD PR 90 ((DA3 Wg c cs).1.finish (.bool false)) (DA3 Wg c cs).2
noncomputable def DA5 (z:Int):Frame×List Frame:=bD PR 300 ((DA4 Wg c cs).1.finish (.int .u64 z)) (DA4 Wg c cs).2
noncomputable def DA6:Frame×List Frame:=bD PR 300 ((DA5 Wg c cs 1).1.finish (.int .u64 1)) (DA5 Wg c cs 1).2
noncomputable def DA7:Frame×List Frame:=bD PR 300 ((DA6 Wg c cs).1.finish unit) (DA6 Wg c cs).2
noncomputable def DA8:Frame×List Frame:=bD PR 300 ((DA7 Wg c cs).1.finish unit) (DA7 Wg c cs).2
end
section
variable{Wg:Nat}{c:Frame}{cs:List Frame}
theorem da0:kE (DA0 Wg c cs).1=some (216,159,ptr Wg):=by kernel_rfl
theorem da1:ahead (DA1 Wg c cs).1=some (168,#[ptr Wg]):=by kernel_rfl
theorem da2:ahead (DA2 Wg c cs).1=some (169,#[]):=by kernel_rfl
theorem da3:ahead (DA3 Wg c cs).1=some (171,#[]):=by kernel_rfl
theorem da4:ahead (DA4 Wg c cs).1=some (200,#[ptr Wg,.int .u64 18446744069414584320]):=by kernel_rfl
theorem da5:ahead (DA5 Wg c cs 1).1=some (201,#[ptr Wg]):=by kernel_rfl
theorem da6:ahead (DA6 Wg c cs).1=some (202,#[ptr Wg,.int .u64 0]):=by kernel_rfl
theorem da7:ahead (DA7 Wg c cs).1=some (180,#[.pointer (some ⟨Wg,1,none⟩),.bool false,.int .i64 0]):=by kernel_rfl
end
theorem ag8:cG PR 171 (fun _=>pure (.bool false)):=⟨_,Tryz.func171,by kernel_rfl,by kernel_rfl,by kernel_rfl,by kernel_rfl⟩
theorem ag9:cG PR 200 (alr (Op.intArith .add) .u64 true):=⟨_,Tryz.func200,by kernel_rfl,by kernel_rfl,by kernel_rfl,by kernel_rfl⟩
theorem acG:cG PR 201 (Extern.Atomic.loadT (.int .u64)):=⟨_,Tryz.func201,by kernel_rfl,by kernel_rfl,by kernel_rfl,by kernel_rfl⟩
theorem an9:cG PR 202 Extern.Atomic.storeT:=⟨_,Tryz.func202,by kernel_rfl,by kernel_rfl,by kernel_rfl,by kernel_rfl⟩
theorem ag_:cG PR 203 (alw (.int .u64)):=⟨_,Tryz.func203,by kernel_rfl,by kernel_rfl,by kernel_rfl,by kernel_rfl⟩
theorem aha:cG PR 180 aln:=⟨_,Tryz.func180,by kernel_rfl,by kernel_rfl,by kernel_rfl,by kernel_rfl⟩
theorem ahb:cG PR 186 alm:=⟨_,Tryz.func186,by kernel_rfl,by kernel_rfl,by kernel_rfl,by kernel_rfl⟩
theorem an_:cG PR 176 (ak_ .read):=⟨_,Tryz.func176,by kernel_rfl,by kernel_rfl,by kernel_rfl,by kernel_rfl⟩
theorem aoa:cG PR 185 (ak_ .write):=⟨_,Tryz.func185,by kernel_rfl,by kernel_rfl,by kernel_rfl,by kernel_rfl⟩
theorem acH:PR.underlying 216=some (.pointer 212):=by simp
theorem i212:(PR.info? 212).map (fun i=>decide (i.size=0))=some false:=by kernel_rfl
theorem oL:∀(n:Nat) {q d:Nat} {f:Frame} {l:List Frame},QuitsD P q d (G (bD P n f l).1 (bD P n f l).2)->∃q',QuitsD P q' d (G f l)
 |0,q,d,f,l,h=>⟨q,h⟩
 |n+1,q,d,f,l,h=>by
  unfold bD at h;split at h
  ·rename_i f1 l1 e;obtain⟨q',h'⟩:=oL n h;exact⟨q'+1,.ctl rfl (fun w=>fX e) h'⟩
  ·exact⟨q,h⟩
theorem yf{g:FuncId}{m:Mark}(hx:∀g,m≠.extern g)(hm:f.mode=.returning)(hr:f.roundOf=none)(hd:f.defers=dcall g #[]::ds)(X:cG P g (fun _=>do mark m;pure ala)):
  stepG P main (G f cs) w=.go (G {f with defers:=ds} cs) w #[⟨.mark m,false,true⟩]:=by
 obtain⟨fn,h1,h2,h3,h4,h5⟩:=X.ex;obtain⟨mN,tmps,todo,defers,mode,kind,ro⟩:=f;subst hm hr;exact stepG_unwind_entry (b:=⟨mN,tmps,todo,defers,.returning,kind,none⟩) (a:=⟨tmps,defers⟩) (v:=.tuple #[]) hd h1 h2 h3 h4 h5 (by simp[ala]) (by simp) (by simp_all)
noncomputable def bot:Frame:={(default:Frame)with fn:=PR.funcs.size,defers:=[],mode:=.panicking [goexitEntry]}
noncomputable def jJ (tmps:Array Value) (todo:List Item):Frame:=⟨158,tmps,todo,[],.returning,.deferred,none⟩
section
variable{Wg:Nat}{tmps:Array Value}{todo:List Item}{w:World}
theorem leave1:stepG PR false (G (jJ tmps todo) [bot]) w=.go (G bot []) w #[]:=by kernel_rfl
theorem acI:stepG PR false (G bot []) w=.go {G bot []with status:=.finished} w #[]:=by kernel_rfl
def zs:List Nat:=[0,4294967296,4294967297,8589934592,8589934593,12884901888,12884901889,17179869184,17179869185,21474836480,21474836481,25769803776,25769803777,30064771072,30064771073,34359738368,34359738369]
theorem acJ:(zs.map fun z:Nat=>((DA5 Wg (jJ tmps todo) [bot] (z:Int)).1.mode,(DA5 Wg (jJ tmps todo) [bot] (z:Int)).1.roundOf,(DA5 Wg (jJ tmps todo) [bot] (z:Int)).1.defers))=zs.map fun z:Nat=>(.returning,none,[dcall 170 #[]]):=by kernel_rfl
theorem acK:(zs.map fun z:Nat=>bD PR 6 {(DA5 Wg (jJ tmps todo) [bot] (z:Int)).1 with defers:=[]} (DA5 Wg (jJ tmps todo) [bot] (z:Int)).2)=zs.map fun z:Nat=>(jJ tmps todo,[bot]):=by kernel_rfl
theorem acL:((DA8 Wg (jJ tmps todo) [bot]).1.mode,(DA8 Wg (jJ tmps todo) [bot]).1.roundOf,(DA8 Wg (jJ tmps todo) [bot]).1.defers)=(.returning,none,[dcall 170 #[]]):=by kernel_rfl
theorem acM:bD PR 6 {(DA8 Wg (jJ tmps todo) [bot]).1 with defers:=[]} (DA8 Wg (jJ tmps todo) [bot]).2=(jJ tmps todo,[bot]):=by kernel_rfl
end
theorem Qd:QuitsD PR 2 0 (G (jJ tmps todo) [bot]):=
 .ctl rfl (fun w=>leave1) (.inr ⟨rfl,{G bot []with status:=.finished},#[],by simp,fun w=>acI,⟨rfl,rfl⟩⟩)
theorem Ik{r:Frame×List Frame}(h1:(r.1.mode,r.1.roundOf,r.1.defers)=(.returning,none,[dcall 170 #[]]))(h2:bD PR 6 {r.1 with defers:=[]} r.2=(jJ tmps todo,[bot])):∃q,QuitsD PR q 1 (G r.1 r.2):=by
 simp only[Prod.mk.injEq]at h1;have h3:QuitsD PR 2 0 (G (bD PR 6 {r.1 with defers:=[]} r.2).1 (bD PR 6 {r.1 with defers:=[]} r.2).2):=by rw[h2];exact Qd
 obtain⟨q,hq⟩:=oL 6 h3;exact⟨q+1,.said _ rfl rfl (fun w=>yf (by simp) h1.1 h1.2.1 h1.2.2 LX) hq⟩
end Ph
end Go.Proofs.YtdcjnhipenbcfaaGreatDoor
