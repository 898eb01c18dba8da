/-
  Own text. Part 3 of what the claim rests on.
-/
import Derived.Test.YtdcjnhipenbcfaaGreatDoorPk2
import Derived.Conc.LoneCalls
import Derived.Conc.Beside
import Derived.Conc.WrSpec
import Derived.Conc.AtomicLaws2
import Derived.Conc.ClockLaws
import Derived.Conc.MarkLaws
import Derived.Conc.SmallLaws
import Derived.Conc.TokenWalk
import Derived.Laws.LoneSync
import Derived.Conc.Own2
import Derived.Conc.CrowdComm
import Derived.Laws.Tables
import Derived.Test.YtdcjnhipenbcfaaGreatDoorProg
import Derived.KernelRfl
set_option linter.unusedVariables false
set_option linter.unusedSectionVars false
set_option linter.unusedSimpArgs false
set_option maxRecDepth 100000
set_option maxHeartbeats 16000000
open Array renaming getElem?_eq_getElem->aB,getElem?_map->aM,getElem?_setIfInBounds_ne->aN,mem_map->aO,mem_of_getElem?->aP,getElem?_eq_some_iff->a_
open Bool renaming not_eq_true->aQ,false_eq_true->bc
open Classical renaming choose->ay,byContradiction->aD,choose_spec->bg
open Go.Act renaming put->ax
open Go.Deferred renaming ofValue->bh
open Go.Extern renaming findNext->bq
open Go.Extern.Atomic renaming casT->bj
open Go.Extern.Race renaming none_->aT,at_->bk
open Go.Extern.Sync renaming count->aH,semacquire->aI,semrelease->aU,canSpin->bm,none_->bp
open Go.Frame renaming raise->az,finish_at->aJ
open Go.Instr renaming endRound->aj,enterLoop->au,endLoop->br
open Go.Machine.mk renaming injEq->bt
open Go.MemAct renaming ofEvent->ao,touch?->aK
open Go.MemOp renaming ofEvents->aA
open Go.Op renaming intArith->aX
open Go.Region renaming wanted->aL
open Go.Sem renaming runT->af
open Go.Stepped.next renaming injEq->bD
open Go.World renaming cell?->ar,frozen?->bE
open Go.stepG renaming exec->ah
open Nat renaming le_refl->ae,lt_of_lt_of_le->ai,le_trans->ak,lt_or_ge->aV,pos_of_ne_zero->aW,add_sub_cancel_left->bu,eq_zero_or_pos->bA,exists_eq_add_of_le->bB
open Option renaming map_eq_some_iff->aY,map_some->aZ,getD_some->bC
namespace Go.Proofs.YtdcjnhipenbcfaaGreatDoor
noncomputable section
variable {ad:Addr}{bz main said:Bool}{d':Deferred}{e:Event}{f f' f0 f1 fr g1:Frame}{cs gM l l':List Frame}{kr:List Item}{I Z:Loc->Prop}{B c i:Nat}{K S S' S1 SF X X1 XF:Nat->Prop}{y:Operand}{o:Option Nat}{o2:Option Obj}{P:Program}{pos:String}{x:Value}{u1 v0 v1 w w2:World}
namespace Ren
open Conc
section
variable[gB]{P:Program}{r:Rn}{c:Nat}{cs gM:List Frame}{v w:World}
theorem ze{α:Type}{A:Rn->α->α->Prop}(F:ly P){s s':Sem α}(h:SR P A r s s')(hw:W r c v w){H:Result α}{R:Array _}{Y:Result α×Array _}(C:s.runT P v #[]=(H,R))(J:s'.runT P w #[]=Y):RR A r c #[] v w H Y:=by
 have:=h.run F.sK #[] hw;simp_all
theorem qg{fs:Array _}{fn:FuncId}{u:Nat}(H:∀e∈fs,e∈(#[])\/lT r w u e):∀e∈seen P fn fs,lT r w u e:=fun e Y=>(H e (mem_seen _ _ e Y)).elim (fun x=>by simp at x) id
omit [gB]in
theorem Ch(main:Bool)(f:Frame)(l:List _)(d:Option _)(x:Value)(u:World):u.drawn<=(q_ (doReturn P main f l d x u)).drawn:=by
 unfold doReturn
 repeat' split
 all_goals exact ae _
theorem C3(F:ly P){n:Nat}{l l':List _}(O:FR P r bz f f')(V:SL P r cs gM (n+1) l l')(hw:W r c v w){b b':Nat}(e:r b=some b'){j:Option _}(T:∀c,j=some c->gB.code c)(main main':Bool){R Y:Result _}{M N:Array _}
  (J:(aj b j).runT P v #[]=(R,M))(L:(aj b' j).runT P w #[]=(Y,N)){s s':GStep}(hk:∀x u,R=.ok x u->s=GStep.after (seen P f.fn M) (doReturn P main f l none x u))(H:∀x u,Y=.ok x u->s'=GStep.after (seen P f'.fn N) (doReturn P main' f' l' none x u))(A:∀h u,R=.halt h u->∃o es,s=.ended o u es)(C:∀h u,Y=.halt h u->∃o es,s'=.ended o u es):
  ST P r c cs gM v w s s':=by
 have run:=ze F (Yr e T) hw J L;cases run with
 |lC h k=>
  refine .lC ?_ ?_
  ·cases R with
   |ok x y=>rw[hk x y rfl,rC];exact ai h (Ch ..)
   |halt x y=>obtain⟨o,es,e⟩:=A x y rfl;rw[e];exact h
  ·cases Y with
   |ok x y=>rw[H x y rfl,rC];exact ai k (Ch ..)
   |halt x y=>obtain⟨o,es,e⟩:=C x y rfl;rw[e];exact k
 |@lost x v1 _ _=>
  obtain⟨o,es,h⟩:=A x v1 rfl;rw[h];exact ST.ended
 |@halt x _ v1 _ _ r1 c1 o I K=>
  obtain⟨o,es,h⟩:=A x v1 rfl;rw[h];exact ST.ended
 |ok r1 c1 o D K=>
  rw[hk _ _ rfl,H _ _ rfl];exact ST.after o ((Hx (O.mono o.le) (V.mono o.le) o.wl D _ _)) _ _ (qg K)
theorem Jh{p:Prop}[Decidable p]{a b a' b':GStep}(h:p->ST P r c cs gM v w a a')(k:¬p->ST P r c cs gM v w b b'):ST P r c cs gM v w (if p then a else b) (if p then a' else b'):=by
 by_cases Y:p
 ·simp_all
 ·simp_all
theorem yU.Ku{o:Oper}(h:yU P true o)(b:Bool):yU P b o:=⟨h.1,fun _=>h.2 rfl⟩
theorem lO.Ku:∀{d:Code},lO P true d->∀b,lO P b d:=by
 intro d;induction d with
 |region i ops R=>exact fun h b=>h.imp id fun h o D=>(h o D).Ku b
 |seq a b Y K=>exact fun h b=>⟨Y h.1 b,K h.2 b⟩
 |cond q a b Y K=>exact fun h b=>⟨h.1,Y h.2.1 b,K h.2.2 b⟩
 |block i d H=>exact fun h b=>H h b
 |loop d H=>exact fun h b=>H h b
 |scope d H=>exact fun h b=>H h b
 |_=>exact fun h _=>h
theorem W5{fn:FuncId}{tmps:Array _}{H:Array Tmp}{aqY bd:Code}{R:Result _}{A:Array _}(h:(au fn tmps H aqY bd o).runT P v #[]=(R,A)):R.world.drawn=v.drawn:=by
 have Y:((au fn tmps H aqY bd o).runT P v #[]).1=(au fn tmps H aqY bd o).run P v:=by simp
 rw[h]at Y;simp only at Y;rw[Y];unfold au;cases o with
 |none=>simp[Sem.run,Result.world]
 |some q=>
  unfold Instr.getLoop getObj;simp[bind,Sem.bind,Sem.run];cases v.heap[q]? with
  |none=>rfl
  |some K=>cases K<;>rfl
theorem aeH(F:ly P)(gi:GI r){n:Nat}(hf:FR P r (n==0) f f')(N:n=0->f.roundOf=none/\f.kind=.normal)(M:SL P r cs gM n l l')(hw:W r c v w)(main main':Bool)(hm:f.mode=.run)(z:∀i ops dr k,f.todo=.code (.region i ops dr)::k->¬gB.wall ops):
  ST P r c cs gM v w (ah P main true f l none v) (ah P main' true f' l' none w):=by
 have Bv:=fun x (g:jr x)=>hf.eval gi x g;have B:=hf;obtain⟨fn,tmps,todo,defers,mode,kind,ro⟩:=f;obtain⟨iT,I,aiw,K,U,Y,O⟩:=f';obtain⟨h1,S,h3,h4,h5,h6,h7,L,h9⟩:=hf;simp only at h1 S h3 h4 h5 h6 h7 L h9 N hm;subst h1 h6;have aj8:∀{r1:Rn} {c1:Nat} {v1 w1:World} {t t':List Item},Out r r1 c c1 v w v1 w1->IL P r1 ro.isSome (n==0) t t'->ST P r1 c1 cs gM v1 w1 (.go (G ⟨iT,tmps,t,defers,mode,Y,ro⟩ l) v1) (.go (G ⟨iT,I,t',K,U,Y,O⟩ l') w1):=
  fun{r1 c1 v1 w1 t t'} o ht=>.go r1 c1 ⟨rfl,S.mono o.le,ht,h4.mono o.le,h5.mono o.le,rfl,h7,L.mono o.le,h9⟩ (M.mono o.le) N (.refl o.wl) lz
 have tog:∀{r1:Rn} {c1:Nat} {v1 w1:World} {t t':List Item},Out r r1 c c1 v w v1 w1->IL P r1 ro.isSome (n==0) t t'->ST P r c cs gM v w (.go (G ⟨iT,tmps,t,defers,mode,Y,ro⟩ l) v1) (.go (G ⟨iT,I,t',K,U,Y,O⟩ l') w1):=
  fun{r1 c1 v1 w1 t t'} o ht=>.go r1 c1 ⟨rfl,S.mono o.le,ht,h4.mono o.le,h5.mono o.le,rfl,h7,L.mono o.le,h9⟩ (M.mono o.le) N o lz
 have to:∀{t t':List Item},IL P r ro.isSome (n==0) t t'->ST P r c cs gM v w (.go (G ⟨iT,tmps,t,defers,mode,Y,ro⟩ l) v) (.go (G ⟨iT,I,t',K,U,Y,O⟩ l') w):=
  fun ht=>.go r c ⟨rfl,S,ht,h4,h5,rfl,h7,L,h9⟩ M N (.refl hw) lz
 have hbr:∀(x:List PanicEntry),n=0->(az ⟨iT,tmps,todo,defers,mode,Y,ro⟩ x).roundOf=none/\(az ⟨iT,tmps,todo,defers,mode,Y,ro⟩ x).kind=.normal:=fun x h0=>by
  have:=N h0;unfold az;split<;>exact this
 have J:ro=none->ST P r c cs gM v w (.go (G ⟨iT,tmps,todo,defers,.returning,Y,ro⟩ l) v) (.go (G ⟨iT,I,aiw,K,.returning,Y,O⟩ l') w):=
  fun _=>.go r c ⟨rfl,S,h3,h4,.returning,rfl,h7,L,h9⟩ M N (.refl hw) lz
 have pos:∀q,ro=some q->∃m,n=m+1:=fun q e=>by
  cases n with
  |zero=>have:=(N rfl).1;rw[e]at this;cases this
  |succ m=>exact⟨m,rfl⟩
 cases h3 with
 |rest a b c d=>exact ST.ended
 |nil=>
  unfold ah;dsimp only;cases L with
  |none=>exact J rfl
  |some e=>
   obtain⟨m,rfl⟩:=pos _ rfl;dsimp only;generalize H:af P (aj _ _) v #[]=sv;generalize D:af P (aj _ _) w #[]=Q;obtain⟨V,e0⟩:=sv;obtain⟨C,X⟩:=Q;dsimp only;refine C3 F B M hw e ?_ main main' H D ?_ ?_ ?_ ?_
   ·exact fun _ x=>by cases x
   ·intro x u e;subst e;rfl
   ·intro x u e;subst e;rfl
   ·intro x u e;subst e;exact⟨_,_,rfl⟩
   ·intro x u e;subst e;exact⟨_,_,rfl⟩
 |cons hi hk=>
  cases hi with
  |inBlock i=>exact to hk
  |inScope R=>exact to hk
  |inLoop R=>exact to (.cons (.code R) (.cons (.inLoop R) hk))
  |inRangeFunc e=>exact ST.ended
  |endRangeFunc e=>
   unfold ah;dsimp only;generalize H:af P (br _) v #[]=sv;generalize D:af P (br _) w #[]=Q;obtain⟨V,e0⟩:=sv;obtain⟨C,X⟩:=Q;dsimp only;have run:=ze F (Zw (P:=P) e) hw H D;clear H D;cases run with
   |lC h k=>
    refine .lC ?_ ?_
    ·rw[rC];cases V with
     |ok x y=>exact h
     |halt x y=>cases x<;>exact h
    ·rw[rC];cases C with
     |ok x y=>exact k
     |halt x y=>cases x<;>exact k
   |@lost x v1 _ hl=>
    rcases hl with⟨u,rfl,_⟩|⟨y,rfl⟩<;>exact ST.ended
   |halt r1 c1 o hh T=>
    cases hh with
    |panic hv=>exact ST.after o (.go r1 c1 ((B.mono o.le).raise (oE.cons (x:=⟨_,false,false⟩) (y:=⟨_,false,false⟩) ⟨hv,rfl,rfl⟩ .nil)) (M.mono o.le) (hbr _) (.refl o.wl) lz) _ _ (qg T)
   |@ok jump _ _ _ _ r1 c1 o g T=>
    obtain⟨Z,R⟩:=g;subst Z;refine ST.after o (aj8 o ?_) _ _ (qg T);cases jump with
    |none=>exact hk.mono o.le
    |some d=>exact .cons (.code ((F.code d (R d rfl)).Ku _)) (hk.mono o.le)
  |beginRound=>
   unfold ah;dsimp only;refine Ih F ?_ B N M hw;cases L with
   |none=>exact SR.bind (A:=fun _ _ _=>False) (gD _) fun _ _ _ _ h=>h.elim
   |some e=>exact Ks (Xx e)
  |@inRegion ops is ho=>
   cases is with
   |nil=>exact to hk
   |cons i rest=>
    unfold ah;dsimp only;rw[ZA S];refine Jh (fun _=>?_) (fun _=>?_)
    ·unfold stepG.oper;simp only[Frame.oper?];cases hi:ops[i]? with
     |none=>exact ST.ended
     |some o=>
      have E:=ho i (by simp) o hi;have nr:∀c,o.op=.call c->c.callee=.builtin .recover->ro.isNone=true:=fun c X Z=>by
       cases ro with
       |none=>rfl
       |some q=>exact absurd Z ((E.2 rfl).2 c X)
      have key:=Ih F (Pf F.toFit (bb:=ro.isNone) Bv (fun _=>⟨rfl,rfl⟩) o E.1 nr) B N M hw;cases L with
      |none=>exact key
      |some e=>
       have nd:=(E.2 rfl).1;dsimp only;split
       ·rename_i Z;exact absurd Z (nd _)
       ·split
        ·rename_i Z;exact absurd Z (nd _)
        ·exact key
    ·exact .go r c (B.finish (.tuple rfl (fun i x x' e=>by simp at e))) M (fun h0=>by have:=N h0;unfold Frame.finish;split<;>exact this) (.refl hw) lz
  |code R=>
   rename_i cd;cases cd with
   |ret=>
    unfold ah;dsimp only;cases L with
    |none=>exact J rfl
    |some e=>
     obtain⟨m,rfl⟩:=pos _ rfl;dsimp only;generalize H:af P (aj _ _) v #[]=sv;generalize D:af P (aj _ _) w #[]=Q;obtain⟨V,e0⟩:=sv;obtain⟨C,X⟩:=Q;dsimp only;refine C3 F B M hw e ?_ main main' H D ?_ ?_ ?_ ?_
     ·exact fun _ x=>by cases x;exact F.ret
     ·intro x u e;subst e;rfl
     ·intro x u e;subst e;rfl
     ·intro x u e;subst e;exact⟨_,_,rfl⟩
     ·intro x u e;subst e;exact⟨_,_,rfl⟩
   |skip=>exact to hk
   |label i=>exact to hk
   |seq a b=>exact to (.cons (.code R.1) (.cons (.code R.2) hk))
   |cond q a b=>
    unfold ah;dsimp only;have hq:=Bv q R.1;generalize Frame.eval _ q=x at hq⊢;generalize Frame.eval _ q=y at hq⊢;cases hq with
    |bool b=>
     cases b with
     |true=>exact to (.cons (.code R.2.1) hk)
     |false=>exact to (.cons (.code R.2.2) hk)
    |_=>exact ST.ended
   |block i d=>exact to (.cons (.code R) (.cons (.inBlock i) hk))
   |loop d=>exact to (.cons (.code R) (.cons (.inLoop R) hk))
   |scope d=>exact to (.cons (.code R) (.cons (.inScope R) hk))
   |exit i=>
    unfold ah;dsimp only;rcases hk.exitTo i with⟨p,q2⟩|⟨m,m',p,q2,hm⟩
    ·rw[p];cases L with
     |none=>exact ST.ended
     |some e=>
      rw[q2.resolve_left (by simp)];simp only[Option.elim];obtain⟨m,rfl⟩:=pos _ rfl;generalize H:af P (aj _ _) v #[]=sv;generalize D:af P (aj _ _) w #[]=Q;obtain⟨V,e0⟩:=sv;obtain⟨C,X⟩:=Q;dsimp only;refine C3 F B M hw e ?_ main main' H D ?_ ?_ ?_ ?_
      ·exact fun _ x=>by cases x;exact F.exit i
      ·intro x u e;subst e;rfl
      ·intro x u e;subst e;rfl
      ·intro x u e;subst e;exact⟨_,_,rfl⟩
      ·intro x u e;subst e;exact⟨_,_,rfl⟩
    ·rw[p,q2];exact to hm
   |goto i=>
    unfold ah;dsimp only;rcases hk.gotoIn i with⟨p,q2⟩|⟨m,m',p,q2,hm⟩
    ·rw[p];cases L with
     |none=>exact ST.ended
     |some e=>
      rw[q2.resolve_left (by simp)];simp only[Option.elim];obtain⟨m,rfl⟩:=pos _ rfl;generalize H:af P (aj _ _) v #[]=sv;generalize D:af P (aj _ _) w #[]=Q;obtain⟨V,e0⟩:=sv;obtain⟨C,X⟩:=Q;dsimp only;refine C3 F B M hw e ?_ main main' H D ?_ ?_ ?_ ?_
      ·exact fun _ x=>by cases x;exact F.goto i
      ·intro x u e;subst e;rfl
      ·intro x u e;subst e;rfl
      ·intro x u e;subst e;exact⟨_,_,rfl⟩
      ·intro x u e;subst e;exact⟨_,_,rfl⟩
    ·rw[p,q2];exact to hm
   |refuse y=>exact ST.ended
   |region id ops draw=>
    have R:=R.resolve_left (z _ _ _ _ rfl);unfold ah;dsimp only;refine Jh (fun _=>?_) (fun _=>?_)
    ·exact to (.cons (.inRegion _ fun j _ o e=>R o (aP e)) hk)
    ·have run:=(rB (P:=P) (r:=r) (.order iT id)).run F.sK #[] hw;rw[Sem.runT_eq]at run;generalize H:Sem.run P (choose _) v=V at run⊢;generalize D:Sem.run P (choose _) w=C at run⊢;cases run with
     |lC h k=>
      refine .lC ?_ ?_
      ·cases V<;>exact h
      ·cases C<;>exact k
     |lost h=>exact ST.ended
     |halt r1 c1 o hh T=>exact ST.ended
     |ok r1 c1 o g T=>
      cases g;exact tog o (.cons (.inRegion _ fun j _ o e=>R o (aP e)) (hk.mono o.le))
   |rangeFunc q ps aqY bd=>
    unfold ah;dsimp only;generalize H:af P (au _ _ _ _ _ _) v #[]=sv;generalize D:af P (au _ _ _ _ _ _) w #[]=Q;obtain⟨V,e0⟩:=sv;obtain⟨C,X⟩:=Q;dsimp only;have run:=ze F (XV (P:=P) iT S ps R.2.1 R.2.2 L) hw H D;have hdr:=W5 H;clear H D;cases run with
    |lC h k=>omega
    |lost h=>exact ST.ended
    |halt r1 c1 o hh T=>exact ST.ended
    |@ok a a' _ _ _ r1 c1 o g T=>
     obtain⟨b,mk⟩:=a;obtain⟨b',mk'⟩:=a';obtain⟨hl,hd⟩:=g;simp only at hl hd;have UI:FR P r1 (n==0) ⟨iT,tmps,.inRangeFunc b::_,mk++defers,mode,Y,ro⟩ ⟨iT,I,.inRangeFunc b'::_,mk'++K,U,Y,O⟩:=⟨rfl,S.mono o.le,.cons (.inRangeFunc hl) (hk.mono o.le),hd.TU (h4.mono o.le),h5.mono o.le,rfl,h7,L.mono o.le,h9⟩;refine ST.after o (Ih F ?_ UI N (M.mono o.le) o.wl) _ _ (qg T);have one:VA r1 #[Value.func (.yield b) #[] #[]] #[Value.func (.yield b') #[] #[]]:=VA.one (.func (.yield hl) rfl (fun i x x' e=>by simp at e) rfl (fun i x x' e=>by simp at e));unfold resolve;exact SR.bind (s:=bh _ _) (s':=bh _ _) (NZ (UI.eval (gi.mono o.le) q R.1) (by simpa[Frame.eval]using one)) fun t1 d d' l1 hd=>CG F.ij F.EG hd.1 hd.2
end
section
variable[gB]{P:Program}{r:Rn}{c:Nat}{cs gM:List Frame}{v w:World}
theorem OE{rd:Bool}{k:List Item}(h:IL P r rd bz f.todo k\/IL P r rd bz k f.todo):f.catches P=false:=by
 unfold Frame.catches;split
 ·rename_i e;rcases h with h|h
  ·rw[e]at h;cases h with|cons a _=>cases a
  ·rw[e]at h;cases h with|rest _ _ _ d=>(simp[AR]at d)|cons a _=>cases a
 ·rfl
theorem M6(F:ly P){n:Nat}(M:FR P r (n==0) f f')(R:n=0->f.roundOf=none/\f.kind=.normal)(T:SL P r cs gM n l l')(hw:W r c v w){d:Deferred}(hd:Df r d d')(G:∀b,d.target≠.collected b):
  ST P r c cs gM v w (callDeferred P f l none d v) (callDeferred P f' l' none d' w):=by
 have L:∀(x:List PanicEntry),n=0->(f.raise x).roundOf=none/\(f.raise x).kind=.normal:=fun x V=>by
  have:=R V;unfold az;split<;>exact this
 have O:=CG (P:=P) (bb:=false) F.ij F.EG hd G;have cond:∀{p p':Bool} {a b a' b':GStep},p=p'->(∃o u es,a=.ended o u es)->ST P r c cs gM v w b b'->ST P r c cs gM v w (if p=true then a else b) (if p'=true then a' else b'):=by
  rintro p _ a b a' b' rfl ⟨o,u,es,rfl⟩ h;exact Jh (fun _=>ST.ended) (fun _=>h)
 refine cond ?_ ⟨_,_,_,rfl⟩ ?_
 ·have A:=hd.target;have U:=M.mode;generalize d.target=t at A⊢;generalize d'.target=t' at A⊢;generalize f.mode=m at U⊢;generalize f'.mode=m' at U⊢;cases A<;>cases U<;>rfl
 generalize D:af P (invoke _ _) v #[]=sv;generalize I:af P (invoke _ _) w #[]=z;obtain⟨j,g⟩:=sv;obtain⟨Q,s⟩:=z;have run:=ze F O hw D I;clear D I;dsimp only;cases run with
 |lC h k=>
  refine .lC ?_ ?_
  ·rw[rC];cases j with
   |ok a u=>
    cases a<;>(try simp only)<;>first
     |exact h
     |(rename_i b;cases b<;>exact h)
     |(rename_i b _;cases b<;>exact h)
     |((repeat' split)<;>exact h)
   |halt a u=>
    cases a<;>(try simp only)<;>first
     |exact h
     |exact ai h (GU ..)
  ·rw[rC];cases Q with
   |ok a u=>
    cases a<;>(try simp only)<;>first
     |exact k
     |(rename_i b;cases b<;>exact k)
     |(rename_i b _;cases b<;>exact k)
     |((repeat' split)<;>exact k)
   |halt a u=>
    cases a<;>(try simp only)<;>first
     |exact k
     |exact ai k (GU ..)
 |@lost x v1 _ N=>
  rcases N with⟨u,rfl,_⟩|⟨y,rfl⟩<;>exact ST.ended
 |halt r1 c1 o Z H=>
  cases Z with
  |panic S=>exact ST.after o (.go r1 c1 ((M.mono o.le).raise (oE.cons (x:=⟨_,false,false⟩) (y:=⟨_,false,false⟩) ⟨S,rfl,rfl⟩ .nil)) (T.mono o.le) (L _) (.refl o.wl) lz) _ _ (qg H)
 |ok r1 c1 o q H=>
  have Y:=M.mono o.le;have K:=T.mono o.le;cases q with
  |value S=>exact ST.after o (.go r1 c1 Y K R (.refl o.wl) lz) _ _ (qg H)
  |skip=>exact ST.after o (.go r1 c1 Y K R (.refl o.wl) lz) _ _ (qg H)
  |defer hd=>exact ST.after o (.go r1 c1 Y K R (.refl o.wl) lz) _ _ (qg H)
  |enter X B=>exact ST.after o (.go r1 c1 (FR.enter F X B (.inr rfl)) (.cons Y R K) (fun h=>by omega) (.refl o.wl) lz) _ _ (qg H)
  |round N E B C=>exact ST.after o (.go r1 c1 (FR.roundOf F N _ E B C (.inr rfl)) (.cons Y R K) (fun h=>by omega) (.refl o.wl) lz) _ _ (qg H)
  |recover J=>cases J
theorem Pg(F:ly P){n:Nat}(s:FR P r (n==0) f f')(G:n=0->f.roundOf=none/\f.kind=.normal)(C:SL P r cs gM n l l')(hw:W r c v w)(main main':Bool)(O:n=0->f.defers≠ []):
  ST P r c cs gM v w (unwind P main f l none v) (unwind P main' f' l' none w):=by
 have M:=s;obtain⟨fn,tmps,todo,defers,mode,kind,ro⟩:=f;obtain⟨iT,H,D,U,K,Y,Q⟩:=f';obtain⟨h1,S,T,h4,V,h6,z,g,p⟩:=s;subst h1 h6;cases h4 with
 |rest a b=>exact absurd rfl (O (by simpa using a))
 |nil=>
  obtain⟨m,rfl⟩:∃m,n=m+1:=by
   cases n with
   |zero=>exact absurd rfl (O rfl)
   |succ m=>exact⟨m,rfl⟩
  unfold unwind;cases V with
  |run=>exact ST.ended
  |panicking hp=>
   simp[OE (f:=⟨iT,tmps,todo,[],.panicking _,Y,ro⟩) (.inl T),OE (.inr T)];cases C with
   |cons a b d=>
    exact .go r c (a.raise hp) d (fun h0=>by have:=b h0;unfold az;split<;>exact this) (.refl hw) lz
  |returning=>
   cases hfn:P.funcs[iT]? with
   |none=>exact Hx M C hw (S.getD 0) main main'
   |some fu=>
    dsimp only;generalize R:af P _ v #[]=sv;generalize I:af P _ w #[]=q;obtain⟨E,e0⟩:=sv;obtain⟨A,e1⟩:=q;have run:=ze F (OD (P:=P) S) hw R I;cases run with
    |lC h k=>
     refine .lC ?_ ?_
     ·rw[rC];cases E with
      |ok x y=>exact ai h (Ch ..)
      |halt x y=>cases x<;>exact h
     ·rw[rC];cases A with
      |ok x y=>exact ai k (Ch ..)
      |halt x y=>cases x<;>exact k
    |@lost x v1 _ hl=>
     rcases hl with⟨u,rfl,_⟩|⟨y,rfl⟩<;>exact ST.ended
    |halt r1 c1 o i L=>
     cases i with
     |panic hv=>exact ST.ended
    |ok r1 c1 o Z L=>exact ST.after o ((Hx (M.mono o.le) (C.mono o.le) o.wl Z main main')) _ _ (qg L)
 |cons hd J=>
  rename_i d d' j B;have N:FR P r (n==0) ⟨iT,tmps,todo,j,mode,Y,ro⟩ ⟨iT,H,D,B,K,Y,Q⟩:=⟨rfl,S,T,J,V,rfl,z,g,p⟩;have ht:=hd.target;obtain⟨t,aqY⟩:=d;obtain⟨t',as'⟩:=d';cases ht with
  |fn a b=>exact M6 F N G C hw hd (fun _ e=>by cases e)
  |nil=>exact M6 F N G C hw hd (fun _ e=>by cases e)
  |collected e=>
   unfold unwind;dsimp only;generalize R:af P _ v #[]=sv;generalize I:af P _ w #[]=q;obtain⟨E,e0⟩:=sv;obtain⟨A,e1⟩:=q;have run:=ze F (W4 (P:=P) e) hw R I;cases run with
   |lC h k=>
    refine .lC ?_ ?_
    ·cases E<;>exact h
    ·cases A<;>exact k
   |lost _=>exact ST.ended
   |halt r1 c1 o i L=>exact ST.ended
   |ok r1 c1 o Z L=>
    have X:FR P r1 (n==0) ⟨iT,tmps,todo,_++j,mode,Y,ro⟩ ⟨iT,H,D,_++B,K,Y,Q⟩:=⟨rfl,S.mono o.le,T.mono o.le,Z.TU (J.mono o.le),V.mono o.le,rfl,z,g.mono o.le,p⟩;exact ST.after o (.go r1 c1 X (C.mono o.le) G (.refl o.wl) lz) _ _ (qg L)
theorem IK(F:ly P)(gi:GI r){n:Nat}{l l':List _}(R:FR P r (n==0) f f')(A:n=0->f.roundOf=none/\f.kind=.normal)(C:SL P r cs gM n l l')(hw:W r c v w)(main main':Bool)(H:n=0->f.mode=.run\/f.defers≠ [])(Y:f.mode=.run->∀i ops J k,f.todo=.code (.region i ops J)::k->¬gB.wall ops):
  ST P r c cs gM v w (stepG P main (G f l) v) (stepG P main' (G f' l') w):=by
 have D:=R.mode;unfold stepG;simp[G];cases e:f.mode<;>cases e':f'.mode<;>rw[e,e']at D<;>cases D
 ·exact aeH F gi R A C hw _ _ e (Y e)
 ·exact Pg F R A C hw _ _ fun K=>(H K).elim (fun x=>by simp_all) id
 ·exact Pg F R A C hw _ _ fun K=>(H K).elim (fun x=>by simp_all) id
end
def x6(u:Nat->Prop)(o o2:Option Obj):Prop:=o2=o\/∃c c2 e fz,(∃i,u i)/\o=some (.cells c e fz)/\o2=some (.cells c2 e fz)/\c2.size=c.size/\(∀i:Nat,¬u i->c2[i]?=c[i]?)/\∀(i:Nat) x,u i->c2[i]?=some x->Hid x=true
theorem x6.trans{u:Nat->Prop}{o o2 o3:Option Obj}(h:x6 u o o2)(k:x6 u o2 o3):x6 u o o3:=by
 rcases k with rfl|⟨c,c2,e,fz,K,H,D,R,I,A⟩
 ·exact h
 ·rcases h with rfl|⟨d,d2,e',B,g1,C,Y,F,J,L⟩
  ·exact .inr ⟨c,c2,e,fz,K,H,D,R,I,A⟩
  ·rw[H]at Y;cases Y;exact .inr ⟨d,c2,e,fz,K,C,D,R.trans F,fun i U=>(I i U).trans (J i U),A⟩
theorem x6.eq{u:Nat->Prop}{o:Option Obj}(h:x6 u o o2)(H:∀i,¬u i):o2=o:=by
 rcases h with h|⟨_,_,_,_,⟨i,Y⟩,_⟩
 ·exact h
 ·simp_all
def mD(o' o:Os):=∃d:Nat,o'={o with wall:=o.wall+d,mono:=o.mono+d}
theorem mD.refl(o:Os):mD o o:=⟨0,rfl⟩
theorem mD.of{o' o:Os}(h:o'=o):mD o' o:=by subst h;exact .refl _
theorem mD.trans{o o1 o2:Os}(h:mD o2 o1)(k:mD o1 o):mD o2 o:=by
 obtain⟨d,rfl⟩:=h;obtain⟨e,rfl⟩:=k;exact⟨e+d,by simp[Nat.add_assoc]⟩
theorem mD.env{o' o:Os}(h:mD o' o):o'.env=o.env:=by obtain⟨d,rfl⟩:=h;rfl
structure gK(U:Nat->Nat->Prop)(S:Nat->Prop)(w w2:World):Prop where
 kept:∀a,S a->x6 (U a) (w.heap[a]?) (w2.heap[a]?)
 grow:w.heap.size<=w2.heap.size
 env:mD w2.os w.os
theorem gK.refl(U:Nat->Nat->Prop)(S:Nat->Prop)(w:World):gK U S w w:=⟨fun _ _=>.inl rfl,ae _,.refl _⟩
theorem gK.trans{U:Nat->Nat->Prop}{S:Nat->Prop}{w w2 w3:World}(h:gK U S w w2)(k:gK U S w2 w3):gK U S w w3:=⟨fun a Y=>(h.kept a Y).trans (k.kept a Y),ak h.grow k.grow,k.env.trans h.env⟩
def zH(S X:Nat->Prop)(w:World)(u:Nat)(e:Event):=
 (∃a:Addr,e.loc=.cell a/\e.sync=false/\((S a.block/\(e.write=true->X a.block))\/(w.heap.size<=a.block/\a.block<u)))\/
 (∃a:Nat,e.loc=.obj a/\e.sync=false/\((S a/\(e.write=true->X a))\/(w.heap.size<=a/\a<u)))\/
 (∃m,e.loc=.mark m/\(m=.noRoom\/∃f,m=.extern f))\/e.loc=.output
structure Did(S X:Nat->Prop)(w w1:World)(es:Array Event)(S1 X1:Nat->Prop):Prop where
 kept:∀a,a<w.heap.size->¬X a->w1.heap[a]?=w.heap[a]?
 grow:w.heap.size<=w1.heap.size
 held:∀a,S1 a↔S a\/(w.heap.size<=a/\a<w1.heap.size)
 may:∀a,X1 a↔X a\/(w.heap.size<=a/\a<w1.heap.size)
 ev:∀e∈es,zH S X w w1.heap.size e
 tape:w1.tape=w.tape
 env:mD w1.os w.os
 output:w1.output=w.output
inductive Tr(P:Program)(main:Bool)(U:Nat->Nat->Prop)(Done:(Nat->Prop)->(Nat->Prop)->Frame->List Frame->World->Prop):(Nat->Prop)->(Nat->Prop)->Frame->List Frame->World->Prop
 |stop {S X:Nat->Prop} {f:Frame} {l:List Frame} {w:World}:Done S X f l w->Tr P main U Done S X f l w
 |step {S X:Nat->Prop} {f:Frame} {l:List Frame} {w:World}:(∀w2,gK U S w w2->∃f1 l1 w1 es S1 X1,stepG P main (G f l) w2=.go (G f1 l1) w1 es/\Did S X w2 w1 es S1 X1)->
   (∀w2 f1 l1 w1 es S1 X1,gK U S w w2->stepG P main (G f l) w2=.go (G f1 l1) w1 es->Did S X w2 w1 es S1 X1->Tr P main U Done S1 X1 f1 l1 w1)->Tr P main U Done S X f l w
theorem Did.same{w1:World}{es:Array _}{S2 X2:Nat->Prop}(h:Did S X w w1 es S1 X1)(k:Did S X w w1 es S2 X2):S1=S2/\X1=X2:=
 ⟨funext fun a=>propext ((h.held a).trans (k.held a).symm),funext fun a=>propext ((h.may a).trans (k.may a).symm)⟩
inductive VR(P:Program):Nat->Frame->List Frame->World->Frame->List Frame->World->Prop
 |zero {f:Frame} {l:List Frame} {v:World}:VR P 0 f l v f l v
 |succ {k:Nat} {f f1 f2:Frame} {l l1 l2:List Frame} {v v1 v2:World} {es:Array Event}:VR P k f l v f1 l1 v1->stepG P true (G f1 l1) v1=.go (G f2 l2) v2 es->VR P (k+1) f l v f2 l2 v2
theorem VR.runN{k:Nat}{l l1:List _}{v:World}(h:VR P k f l v f1 l1 v1):runN P k (lone f l v)=.next (lone f1 l1 v1):=by
 induction h with
 |zero=>rfl
 |succ _ Y K=>
  rw[runN_add,K];simp[Go.runN];rw[lone_eq_solo,step_solo_go rfl Y];rfl
theorem VR.Bw{k:Nat}{f2:Frame}{l l1 l2:List _}{v v2:World}(h:VR P k f l v f1 l1 v1)(e:Go.runN P k (lone f l v)=.next (lone f2 l2 v2)):f1=f2/\l1=l2/\v1=v2:=by
 rw[h.runN]at e;simp[lone,bD,bt]at e;simp_all
def tp(v:World)(T:Nat->Question->Nat):={v with tape:=T}
section
variable[gB]{P:Program}{U:Nat->Nat->Prop}
def oY(U:Nat->Nat->Prop)(r:Rn):=∀b b' i,r b=some b'->U b' i->gB.ro b/\gB.jH b i
def Rd(r:Rn)(a:Nat):=∃b,r b=some a
def Wr(r:Rn)(a:Nat):=∃b,r b=some a/\¬gB.ro b
theorem W.rely{r:Rn}{c:Nat}{v w w2:World}(h:W r c v w)(A:oY U r)(hr:gK U (Rd r) w w2):W r 0 v w2:=by
 refine⟨fun b b' e=>?_,h.gv,ak h.gw hr.grow,h.old,fun i q R=>by omega,hr.env.env.trans h.env⟩;obtain⟨o,o',C,F,J⟩:=h.obj b b' e;rcases hr.kept b' ⟨b,e⟩with k|⟨d,d2,t,fz,⟨i,R⟩,B,L,M,N,O⟩
 ·simp_all
 ·have H:=(A b b' i e R).1;rw[F]at B;cases B;cases J with
  |same n _=>exact absurd H n
  |ro t n I D=>
   refine⟨_,_,C,L,.ro t n ⟨I.size.trans M.symm,fun j x x' ex Y=>?_⟩ D⟩;by_cases K:U b' j
   ·have:=D j (A b b' j e K).2;rw[this]at ex;cases ex;exact .blank (O j x' K Y)
   ·rw[N j K]at Y;exact I.at_ j x x' ex Y
theorem W.JU{r:Rn}{v:World}(h:W r 0 v w)(Y:∀i q,i<c->v.tape (v.drawn+i) q=w.tape (w.drawn+i) q):W r c v w:=⟨h.obj,h.gv,h.gw,h.old,Y,h.env⟩
theorem W.tp{r:Rn}{v:World}(h:W r c v w)(T:Nat->Question->Nat):W r 0 (tp v T) w:=⟨h.obj,h.gv,h.gw,h.old,fun i q Y=>by omega,h.env⟩
theorem Out.did{r r1:Rn}{c1:Nat}{v w1:World}(o:Out r r1 c c1 v w v1 w1)(h:W r c v w){es:Array _}(C:∀e∈es,lT r w w1.heap.size e):Did (Rd r) (Wr r) w w1 es (Rd r1) (Wr r1):=by
 refine⟨fun a A B=>o.kept a A fun b Y=>aD fun K=>B ⟨b,Y,K⟩,o.grow,fun a=>⟨?_,?_⟩,fun a=>⟨?_,?_⟩,fun e U=>?_,o.tape,.of o.os,o.output⟩
 ·rintro⟨b,Y⟩;rcases o.fresh b a Y with x|x
  ·exact .inl ⟨b,x⟩
  ·exact .inr ⟨x.1,(o.wl.lt Y).2⟩
 ·rintro(⟨b,Y⟩|x)
  ·exact⟨b,o.le _ _ Y⟩
  ·exact o.range a x.1 x.2
 ·rintro⟨b,Y,K⟩;rcases o.fresh b a Y with x|x
  ·exact .inl ⟨b,x,K⟩
  ·exact .inr ⟨x.1,(o.wl.lt Y).2⟩
 ·rintro(⟨b,Y,K⟩|x)
  ·exact⟨b,o.le _ _ Y,K⟩
  ·obtain⟨b,Y⟩:=o.range a x.1 x.2;refine⟨b,Y,fun I=>?_⟩;rcases o.fresh b a Y with y|y
   ·exact absurd (h.lt y).2 (by omega)
   ·exact absurd (h.old b I) (by omega)
 ·have key:∀{a:Nat} {wr:Bool},((∃b,r b=some a/\(wr=true->¬gB.ro b))\/(w.heap.size<=a/\a<w1.heap.size))->(Rd r a/\(wr=true->Wr r a))\/(w.heap.size<=a/\a<w1.heap.size):=by
   rintro a wr (⟨b,Y,K⟩|x)
   ·exact .inl ⟨⟨b,Y⟩,fun hw=>⟨b,Y,K hw⟩⟩
   ·omega
  rcases C e U with⟨a,H,D,R⟩|⟨a,H,D,R⟩|x
  ·exact .inl ⟨a,H,D,key R⟩
  ·exact .inr (.inl ⟨a,H,D,key R⟩)
  ·exact .inr (.inr x)
theorem SL.len{r:Rn}{cs gM:List _}{n:Nat}{l l':List _}(h:SL P r cs gM n l l'):l.length=n+cs.length:=by
 induction h with
 |base=>simp
 |cons _ _ _ Y=>simp;omega
theorem SL.Sl{r:Rn}{cs gM:List _}{n:Nat}{l':List _}(h:SL P r cs gM n cs l'):n=0/\l'=gM:=by
 have:=h.len;obtain rfl:n=0:=by omega
 cases h;simp_all
variable(P)in
def rF(U:Nat->Nat->Prop)(r0:Rn)(Stop:Frame->List _->World->Prop)(cs gM:List _)(S X:Nat->Prop)(f':Frame)(l':List _)(w:World):=
 ∃r n f l v,Le r0 r/\FR P r (n==0) f f'/\SL P r cs gM n l l'/\W r 0 v w/\S=Rd r/\X=Wr r/\Stop f l v/\oY U r/\∀a i,U a i->a<w.heap.size
variable(P)in
structure Node(U:Nat->Nat->Prop)(r0:Rn)(Stop:Frame->List Frame->World->Prop)(f0:Frame)(cs gM:List Frame)(v0:World)(k:Nat)(T0:Nat->Question->Nat)(d:Nat)(S X:Nat->Prop)(f':Frame)(l':List Frame)(w:World):Prop where
 alike:∀T,(∀j,j<d->T j=T0 j)->∃r n f l v,VR P k f0 cs (tp v0 T) f l v/\v.tape=T/\v.drawn=d/\Le r0 r/\FR P r (n==0) f f'/\(n=0->f.roundOf=none/\f.kind=.normal)/\SL P r cs gM n l l'/\W r 0 v w/\S=Rd r/\X=Wr r/\oY U r
 low:∀a i,U a i->a<w.heap.size
 early:∀T,(∀j,j<d->T j=T0 j)->∀i f l v,i<=k->VR P i f0 cs (tp v0 T) f l v->¬Stop f l v
theorem VR.pre{k:Nat}{l l1:List _}{v:World}(h:VR P k f l v f1 l1 v1):∀i,i<=k->∃f2 l2 v2,VR P i f l v f2 l2 v2:=by
 induction h with
 |zero=>
  intro i Y;obtain rfl:i=0:=by omega
  exact⟨_,_,_,.zero⟩
 |succ a b K=>
  intro i Y;rcases Nat.eq_or_lt_of_le Y with e|e
  ·rw[e];exact⟨_,_,_,VR.succ a b⟩
  ·exact K i (by omega)
section path
variable{main:Bool}{r0:Rn}{Stop:Frame->List Frame->World->Prop}{f0:Frame}{cs gM:List Frame}{v0:World}{k:Nat}{T0:Nat->Question->Nat}{d:Nat}{S X:Nat->Prop}{f':Frame}{l':List Frame}{w:World}
theorem aaR(C:∀T,∃n f1 l1 v1,runN P n (lone f0 cs (tp v0 T))=.next (lone f1 l1 v1)/\Stop f1 l1 v1){T:Nat->Question->Nat}{l:List _}{v:World}(h:VR P k f0 cs (tp v0 T) f l v)(H:∀i f l v,i<=k->VR P i f0 cs (tp v0 T) f l v->¬Stop f l v){o:Outcome}{es:Array _}:
  stepG P true (G f l) v≠.ended o v1 es:=by
 intro D;obtain⟨n,f1,l1,R,Y,gq⟩:=C T;by_cases hk:n<=k
 ·obtain⟨f2,l2,v2,K⟩:=h.pre n hk;obtain⟨rfl,rfl,rfl⟩:=K.Bw Y;exact H n _ _ _ hk K gq
 ·obtain⟨m,rfl⟩:∃m,n=k+(m+1):=⟨n-k-1,by omega⟩;rw[runN_add,h.runN]at Y;simp[Go.runN]at Y;rw[step_lone_ended (by show(stepG P _ (G f l) v).bare=_;rw[D];rfl)]at Y;cases Y
theorem Qk(F:ly P)(gi:GI r0)(C:∀T,∃n f1 l1 v1,runN P n (lone f0 cs (tp v0 T))=.next (lone f1 l1 v1)/\Stop f1 l1 v1)(L:∀T k f v,(∀i f l v,i<=k->VR P i f0 cs (tp v0 T) f l v->¬Stop f l v)->VR P k f0 cs (tp v0 T) f cs v->f.mode≠.run->f.defers=[]->Stop f cs v)(O:∀T k f l v i ops H q,VR P k f0 cs (tp v0 T) f l v->f.mode=.run->f.todo=.code (.region i ops H)::q->gB.wall ops->Stop f l v)
  {T:Nat->Question->Nat}(M:∀i f l v,i<=k->VR P i f0 cs (tp v0 T) f l v->¬Stop f l v){r:Rn}{n:Nat}{l:List _}{v:World}(A:VR P k f0 cs (tp v0 T) f l v)(V:Le r0 r)(z:FR P r (n==0) f f')(p:n=0->f.roundOf=none/\f.kind=.normal)(N:SL P r cs gM n l l')(s:W r 0 v w2)(c:Nat)(h:∀i q,i<c->v.tape (v.drawn+i) q=w2.tape (w2.drawn+i) q):
  (∃(f1 R:Frame) (l1 J:List _) (v1 w1:World) (es iD:Array _) (r1:Rn) (c1 n1:Nat),stepG P true (G f l) v=.go (G f1 l1) v1 es/\stepG P main (G f' l') w2=.go (G R J) w1 iD/\FR P r1 (n1==0) f1 R/\(n1=0->f1.roundOf=none/\f1.kind=.normal)/\SL P r1 cs gM n1 l1 J/\Out r r1 c c1 v w2 v1 w1/\∀e∈iD,lT r w2 w1.heap.size e)\/
  (v.drawn+c<(q_ (stepG P true (G f l) v)).drawn/\w2.drawn+c<(q_ (stepG P main (G f' l') w2)).drawn):=by
 have D:n=0->f.mode=.run\/f.defers≠ []:=by
  intro U;by_cases K:f.mode=.run
  ·exact .inl K
  ·refine .inr fun hd=>?_;subst U;cases N;exact M k f _ v (ae _) A (L T k f v M A K hd)
 have Y:f.mode=.run->∀i ops H q,f.todo=.code (.region i ops H)::q->¬gB.wall ops:=by
  intro K i ops H q e I;exact M k f l v (ae _) A (O T k f l v i ops H q A K e I)
 have st:=IK F (gi.mono V) z p N (s.JU h) true main D Y;generalize B:stepG P _ _ v=sv at st;generalize hw:stepG P _ _ w2=Q at st;cases st with
 |ended=>exact absurd B (aaR C A M)
 |lC a b=>exact .inr ⟨a,b⟩
 |go r1 c1 a b d o e=>exact .inl ⟨_,_,_,_,_,_,_,_,r1,c1,_,rfl,rfl,a,d,b,o,e⟩
def glue(T0:Nat->Question->Nat)(d:Nat)(w2:World)(j:Nat)(q:Question):=if j<d then T0 j q else w2.tape (w2.drawn+(j-d)) q
theorem aaS(F:ly P)(gi:GI r0)(C:∀T,∃n f1 l1 v1,runN P n (lone f0 cs (tp v0 T))=.next (lone f1 l1 v1)/\Stop f1 l1 v1)(L:∀T k f v,(∀i f l v,i<=k->VR P i f0 cs (tp v0 T) f l v->¬Stop f l v)->VR P k f0 cs (tp v0 T) f cs v->f.mode≠.run->f.defers=[]->Stop f cs v)(Wl:∀T k f l v i ops dr q,VR P k f0 cs (tp v0 T) f l v->f.mode=.run->f.todo=.code (.region i ops dr)::q->gB.wall ops->Stop f l v)
  (hN:Node P U r0 Stop f0 cs gM v0 k T0 d S X f' l' w)(hT:¬Tr P main U (rF P U r0 Stop cs gM) S X f' l' w):
  ∃T1 d1 S1 X1 f1 l1 w1,(∀j,j<d->T1 j=T0 j)/\d<=d1/\Node P U r0 Stop f0 cs gM v0 (k+1) T1 d1 S1 X1 f1 l1 w1/\¬Tr P main U (rF P U r0 Stop cs gM) S1 X1 f1 l1 w1:=by
 have Q:∀w2:World,∀j,j<d->glue T0 d w2 j=T0 j:=fun w2 j V=>by funext q;unfold glue;rw[if_pos V]
 have ex:∀w2,gK U S w w2->∃f1 l1 w1 es S1 X1,stepG P main (G f' l') w2=.go (G f1 l1) w1 es/\Did S X w2 w1 es S1 X1/\w2.drawn<=w1.drawn:=by
  intro w2 hr;obtain⟨r,n,f,l,v,R,B,c,I,J,p,M,N,rfl,rfl,Y⟩:=hN.alike (glue T0 d w2) (Q w2);have K:=N.rely Y hr;have E:∀i q,i<(q_ (stepG P true (G f l) v)).drawn->v.tape (v.drawn+i) q=w2.tape (w2.drawn+i) q:=fun i q _=>by
   rw[B,c];unfold glue;rw[if_neg (by omega),bu]
  rcases Qk (main:=main) F gi C L Wl (hN.early _ (Q w2)) R I J p M K _ E with⟨f1,t,l1,l1',v1,w1,es,iD,r1,c1,n1,D,z,q1,q2,q3,o,q4⟩|⟨x,_⟩
  ·exact⟨t,l1',w1,iD,_,_,z,o.did (K.JU E) q4,by have:=o.drew;have:=o.zb;have:=o.later;omega⟩
  ·omega
 have off:∃w2 f1 l1 w1 es S1 X1,gK U S w w2/\stepG P main (G f' l') w2=.go (G f1 l1) w1 es/\Did S X w2 w1 es S1 X1/\¬Tr P main U (rF P U r0 Stop cs gM) S1 X1 f1 l1 w1:=by
  refine aD fun hno=>hT (.step (fun w2 hr=>?_) fun w2 f1 l1 w1 es S1 X1 hr D hd=>?_)
  ·obtain⟨f1,l1,w1,es,S1,X1,D,hd,_⟩:=ex w2 hr;exact⟨f1,l1,w1,es,S1,X1,D,hd⟩
  ·exact aD fun s=>hno ⟨w2,f1,l1,w1,es,S1,X1,hr,D,hd,s⟩
 obtain⟨w2,f1,l1,w1,es,S1,X1,hr,D,hd,s⟩:=off;have Z:w2.drawn<=w1.drawn:=by
  obtain⟨g1,m1,u1,m,S2,X2,z,_,Z⟩:=ex w2 hr;rw[D]at z;cases z;exact Z
 have key:∀T,(∀j,j<d+(w1.drawn-w2.drawn)->T j=glue T0 d w2 j)->∃r n f l v,VR P (k+1) f0 cs (tp v0 T) f l v/\v.tape=T/\v.drawn=d+(w1.drawn-w2.drawn)/\Le r0 r/\FR P r (n==0) f f1/\(n=0->f.roundOf=none/\f.kind=.normal)/\SL P r cs gM n l l1/\W r 0 v w1/\S1=Rd r/\X1=Wr r/\oY U r:=by
  intro T H;have O:∀j,j<d->T j=T0 j:=fun j V=>(H j (by omega)).trans (Q w2 j V);obtain⟨r,n,f,l,v,R,B,c,I,J,p,M,N,rfl,rfl,Y⟩:=hN.alike T O;have K:=N.rely Y hr;have E:∀i q,i<w1.drawn-w2.drawn->v.tape (v.drawn+i) q=w2.tape (w2.drawn+i) q:=fun i q hi=>by
   rw[B,c,H (d+i) (by omega)];unfold glue;rw[if_neg (by omega),bu]
  rcases Qk (main:=main) F gi C L Wl (hN.early T O) R I J p M K _ E with⟨g1,g1',m1,m1',v1,u1,m,apq,r1,c1,n1,x1,x2,q1,q2,q3,o,q4⟩|⟨_,x⟩
  ·rw[D]at x2;cases x2;have hc:c1=0:=by have:=o.zb;omega
   subst hc;obtain⟨rfl,rfl⟩:=hd.same (o.did (K.JU E) q4);refine⟨r1,n1,g1,m1,v1,.succ R x1,o.JQ.trans B,by have:=o.drew;omega,I.trans o.le,q1,q2,q3,o.wl,rfl,rfl,fun b b' i e A=>?_⟩;rcases o.fresh b b' e with y|y
   ·exact Y b b' i y A
   ·have:=hN.low b' i A;have:=hr.grow;have:=y.1;omega
  ·rw[D]at x;simp only[q_]at x;omega
 refine⟨glue T0 d w2,d+(w1.drawn-w2.drawn),S1,X1,f1,l1,w1,Q w2,by omega,⟨key,fun a i A=>ai (hN.low a i A) (ak hr.grow hd.grow),fun T H i f l v hi hv hs=>?_⟩,s⟩;by_cases h:i<=k
 ·exact hN.early T (fun j V=>(H j (by omega)).trans (Q w2 j V)) i f l v h hv hs
 ·obtain rfl:i=k+1:=by omega
  obtain⟨r,n,g,l2,u,R,B,c,I,J,p,M,N,rfl,rfl,Y⟩:=key T H;obtain⟨rfl,rfl,rfl⟩:=R.Bw hv.runN;exact s (.stop ⟨r,n,_,_,_,I,J,M,N,rfl,rfl,hs,Y,fun a i A=>ai (hN.low a i A) (ak hr.grow hd.grow)⟩)
open Classical in
theorem tree(F:ly P)(gi:GI r0)(C:∀T,∃n f1 l1 v1,runN P n (lone f0 cs (tp v0 T))=.next (lone f1 l1 v1)/\Stop f1 l1 v1)(L:∀T k f v,(∀i f l v,i<=k->VR P i f0 cs (tp v0 T) f l v->¬Stop f l v)->VR P k f0 cs (tp v0 T) f cs v->f.mode≠.run->f.defers=[]->Stop f cs v)(G:∀T k f l v i ops z q,VR P k f0 cs (tp v0 T) f l v->f.mode=.run->f.todo=.code (.region i ops z)::q->gB.wall ops->Stop f l v)
  (O:FR P r0 true f0 f')(s:f0.roundOf=none/\f0.kind=.normal)(hw:W r0 0 v0 w)(H:oY U r0)(Y:∀a i,U a i->a<w.heap.size):Tr P main U (rF P U r0 Stop cs gM) (Rd r0) (Wr r0) f' gM w:=by
 refine aD fun A=>?_;have root:Node P U r0 Stop f0 cs gM v0 0 v0.tape v0.drawn (Rd r0) (Wr r0) f' gM w:=by
  refine⟨fun T _=>⟨r0,0,f0,cs,tp v0 T,.zero,rfl,rfl,.refl _,O,fun _=>s,.base,hw.tp T,rfl,rfl,H⟩,Y,fun T _ i f l v hi t N=>A (.stop ⟨r0,0,f0,cs,tp v0 T,.refl _,O,.base,hw.tp T,rfl,rfl,?_,H,Y⟩)⟩;obtain rfl:i=0:=by omega
  cases t;exact N
 let M:={x:Nat×(Nat->Question->Nat)×Nat×(Nat->Prop)×(Nat->Prop)×Frame×List Frame×World//Node P U r0 Stop f0 cs gM v0 x.1 x.2.1 x.2.2.1 x.2.2.2.1 x.2.2.2.2.1 x.2.2.2.2.2.1 x.2.2.2.2.2.2.1 x.2.2.2.2.2.2.2/\¬Tr P main U (rF P U r0 Stop cs gM) x.2.2.2.1 x.2.2.2.2.1 x.2.2.2.2.2.1 x.2.2.2.2.2.2.1 x.2.2.2.2.2.2.2}
 have V:∀x:M,∃y:M,y.1.1=x.1.1+1/\(∀j,j<x.1.2.2.1->y.1.2.1 j=x.1.2.1 j)/\x.1.2.2.1<=y.1.2.2.1:=by
  rintro⟨⟨k,T0,d,S,X,f',l',w⟩,hN,o⟩;obtain⟨Z,d1,S1,X1,f1,l1,w1,D,E,c,g⟩:=aaS F gi C L G hN o;exact⟨⟨(k+1,Z,d1,S1,X1,f1,l1,w1),c,g⟩,rfl,D,E⟩
 let sX:M->M:=fun x=>ay (V x)
 have B:=fun x=>bg (V x)
 let p:Nat->M:=fun n=>Nat.rec ⟨(0,v0.tape,v0.drawn,Rd r0,Wr r0,f',gM,w),root,A⟩ (fun _ x=>sX x) n
 have b:∀n,p (n+1)=sX (p n):=fun _=>rfl;have hk:∀n,(p n).1.1=n:=by
  intro n;induction n with
  |zero=>rfl
  |succ n J=>rw[b,(B _).1,J]
 have mono:∀n m,(p n).1.2.2.1<=(p (n+m)).1.2.2.1/\∀j,j<(p n).1.2.2.1->(p (n+m)).1.2.1 j=(p n).1.2.1 j:=by
  intro n m;induction m with
  |zero=>exact⟨ae _,fun _ _=>rfl⟩
  |succ m J=>
   have:=B (p (n+m));exact⟨ak J.1 this.2.2,fun j I=>(this.2.1 j (ai I J.1)).trans (J.2 j I)⟩
 let T:=fun j q=>if h:∃n,j<(p n).1.2.2.1 then(p (ay h)).1.2.1 j q else 0
 have R:∀n j,j<(p n).1.2.2.1->T j=(p n).1.2.1 j:=by
  intro n j I;have h:∃n,j<(p n).1.2.2.1:=⟨n,I⟩;have e:T j=(p (ay h)).1.2.1 j:=by
   funext q;show(if h:∃n,j<(p n).1.2.2.1 then(p (ay h)).1.2.1 j q else 0)=_
   rw[dif_pos h]
  have Q:=bg h;generalize ay h=m at e Q;rw[e];rcases Nat.le_total m n with K|K
  ·obtain⟨a,rfl⟩:=bB K;exact((mono m a).2 j Q).symm
  ·obtain⟨a,rfl⟩:=bB K;exact(mono n a).2 j I
 obtain⟨n,f1,l1,v1,u,N⟩:=C T;obtain⟨hN,_⟩:=(p n).2;obtain⟨r,m,f,l,v,D,_⟩:=hN.alike T (R n);rw[hk n]at D;obtain⟨rfl,rfl,rfl⟩:=D.Bw u;exact hN.early T (R n) n _ _ _ (by simp_all) D N
end path
end
def jw:Frame:={fn:=0,tmps:=#[],todo:=[.code (.refuse "")],defers:=[{target:=.nil,args:=#[]}],mode:=.run,kind:=.normal}
def Kv(t:Frame):=(t.mode=.run/\t.todo=[.code (.refuse "")])\/∃ch,t.mode=.panicking ch/\t.defers=[{target:=.nil,args:=#[]}]
theorem ZC{t:Frame}(h:Kv t)(v:World):∃o v1 es,stepG P true (G t []) v=.ended o v1 es:=by
 unfold stepG;simp only[G];rcases h with⟨Y,K⟩|⟨ch,Y,hd⟩
 ·simp only[Y];unfold ah;simp_all
 ·unfold unwind;simp only[hd];simp only[Y];exact⟨_,_,_,rfl⟩
theorem N3{v:World}:∃t v1 es,doReturn P true fr [jw] none x v=.go (G t []) v1 es/\Kv t:=by
 unfold doReturn;dsimp only;split
 ·exact⟨_,_,_,rfl,.inl ⟨rfl,rfl⟩⟩
 ·exact⟨_,_,_,rfl,.inl ⟨rfl,rfl⟩⟩
 ·exact⟨_,_,_,rfl,.inl ⟨rfl,rfl⟩⟩
 ·exact⟨_,_,_,rfl,.inl ⟨rfl,rfl⟩⟩
theorem ZD{v:World}(R:fr.mode≠.run)(hd:fr.defers=[]):(∃o v1 es,stepG P true (G fr [jw]) v=.ended o v1 es)\/∃t v1 es,stepG P true (G fr [jw]) v=.go (G t []) v1 es/\Kv t:=by
 have e:stepG P true (G fr [jw]) v=unwind P true fr [jw] none v:=by
  unfold stepG;simp only[G]
 rw[e];unfold unwind;simp only[hd];split
 ·simp
 ·split
  ·simp
  ·rename_i ch _ _;exact .inr ⟨_,_,_,rfl,.inr ⟨ch,rfl,rfl⟩⟩
 ·split
  ·exact .inr N3
  ·generalize af P _ v #[]=sv;obtain⟨K,H⟩:=sv;cases K with
   |ok x u=>
    obtain⟨t,v1,es,e,Y⟩:=N3 (P:=P) (fr:=fr) (x:=x) (v:=u);simp only[e];exact .inr ⟨_,_,_,rfl,Y⟩
   |halt x u=>cases x<;>exact .inl ⟨_,_,_,rfl⟩
section
variable[gB]{P:Program}{main:Bool}{U:Nat->Nat->Prop}{r0:Rn}{v0 w:World}{gM:List Frame}
theorem Hy{g:Frame}{u:World}(m:Nat)(H:g.mode≠.run)(Y:g.defers=[]):runN P (m+1) (lone g [jw] u)≠.next (lone g1 [jw] u1):=by
 intro e;simp[Go.runN]at e;rcases ZD H Y with⟨o,u2,es,x⟩|⟨t,u2,es,x,D⟩
 ·rw[step_lone_ended (by show(stepG P _ (G g _) u).bare=_;rw[x];rfl)]at e;cases e
 ·rw[lone_eq_solo,step_solo_go rfl x]at e;cases m with
  |zero=>
   simp only[Go.runN,solo,lone,bD,bt]at e;have:=e.2.1;simp[G]at this
  |succ m=>
   obtain⟨o,u3,K,y⟩:=ZC D u2;simp[Go.runN]at e;rw[<-lone_eq_solo,step_lone_ended (by show(stepG P _ (G t []) u2).bare=_;rw[y];rfl)]at e;cases e
theorem Hz{Stop:Frame->World->Prop}(Y:∀f v,Stop f v->f.mode≠.run/\f.defers=[])(C:∀T,∃n f1 v1,runN P n (lone f0 [jw] (tp v0 T))=.next (lone f1 [jw] v1)/\Stop f1 v1)(T:Nat->Question->Nat)(k:Nat)(f:Frame)(v:World)(h:VR P k f0 [jw] (tp v0 T) f [jw] v)(A:f.mode≠.run)(hd:f.defers=[]):Stop f v:=by
 obtain⟨n,f1,v1,K,H⟩:=C T;rcases Nat.lt_trichotomy n k with R|heq|D
 ·obtain⟨a,b⟩:=Y _ _ H;obtain⟨m,rfl⟩:∃m,k=n+(m+1):=⟨k-n-1,by omega⟩;have:=h.runN;rw[runN_add,K]at this;exact absurd this (Hy m a b)
 ·subst heq;obtain⟨rfl,_,rfl⟩:=h.Bw K;exact H
 ·obtain⟨m,rfl⟩:∃m,n=k+(m+1):=⟨n-k-1,by omega⟩;rw[runN_add,h.runN]at K;exact absurd K (Hy m A hd)
theorem ZG(F:ly P)(V:∀ops,¬gB.wall ops)(gi:GI r0){f:FuncId}{args Y:Array _}{R:Ending->World->Prop}(z:∀T,Calls P f args (tp v0 T) R)(L:∀u,¬R .outgrown u)(p:gB.ij f)(G:VA r0 args Y)(hw:W r0 0 v0 w)(M:oY U r0)(J:∀a i,U a i->a<w.heap.size):
  Tr P main U (rF P U r0 (fun fr l v=>l=[jw]/\∃e,R e v/\fr.fn=f/\fr.leaving P v e) [jw] gM) (Rd r0) (Wr r0) (Frame.enter P f Y .normal) gM w:=by
 have C:∀T,∃n f1 v1,runN P n (lone (Frame.enter P f args .normal) [jw] (tp v0 T))=.next (lone f1 [jw] v1)/\∃e,R e v1/\f1.fn=f/\f1.leaving P v1 e:=by
  intro T;obtain⟨e,w',fr,D,I,A,K⟩:=z T _;cases e with
  |outgrown=>exact absurd D (L _)
  |returned x=>obtain⟨n,O⟩:=I;exact⟨n,fr,w',O,_,D,A,K⟩
  |panicked x=>obtain⟨n,O⟩:=I;exact⟨n,fr,w',O,_,D,A,K⟩
 have H:∀(fr:Frame) (v:World),(∃e,R e v/\fr.fn=f/\fr.leaving P v e)->fr.mode≠.run/\fr.defers=[]:=by
  rintro fr v ⟨e,D,_,K⟩;cases e with
  |outgrown=>exact absurd D (L _)
  |returned x=>exact⟨(by rw[K.1];simp),K.2.1⟩
  |panicked x=>exact⟨(by rw[K.1];simp),K.2.1⟩
 refine tree F gi (fun T=>?_) (fun T k fr v _ B N Q=>⟨rfl,Hz H C T k fr v B N Q⟩) (fun T k f l v i ops S q _ _ _ h=>absurd h (V ops)) (FR.enter F p G (.inl rfl)) ⟨rfl,rfl⟩ hw M J;obtain⟨n,f1,v1,B,N⟩:=C T;exact⟨n,f1,[jw],v1,B,rfl,N⟩
end
end Ren
namespace Ren
open Conc
open ConcN (sumTo upd sumTo_upd upd_ne upd_same)
theorem ofEvents_g{g:Nat}{fn:FuncId}{es:Array _}{op:MemOp}(h:op∈aA g fn pos es):op.g=g:=by
 rw[ofEvents_eq]at h;obtain⟨e,Y,rfl⟩:=aO.1 h;rfl
def E4(a:Nat):Loc->Prop
 |.cell b=>b.block=a
 |.obj b=>b=a
 |_=>False
def iV(Z:Loc->Prop)(a:Nat):=∀l,E4 a l->¬Z l
def qo(Z:Loc->Prop)(B:Nat):=∀l,Z l->l.isMemory=true/\l.low B
theorem qo.mono{B':Nat}(h:qo Z B)(H:B<=B'):qo Z B':=fun l Y=>⟨(h l Y).1,Loc.low_mono H (h l Y).2⟩
theorem qo.off{a:Nat}(h:qo Z B)(R:B<=a):iV Z a:=fun l Y D=>by
 have:=(h l D).2;cases l with
 |cell b=>have K:b.block=a:=Y;have H:b.block<B:=this;omega
 |obj b=>have K:b=a:=Y;have H:b<B:=this;omega
 |_=>exact Y
theorem agZ{u:Nat}(R:∀a,S a->iV Z a/\a<w.heap.size)(A:qo Z w.heap.size)(C:w.heap.size<=u)(h:zH S X w u e):EvL Z u e:=by
 obtain⟨loc,wr,U⟩:=e;rcases h with⟨a,rfl,K,I⟩|⟨a,rfl,K,I⟩|⟨m,rfl,K⟩|rfl
 ·subst K;have D:iV Z a.block/\a.block<u:=by
   rcases I with⟨h,_⟩|h
   ·exact⟨(R _ h).1,ai (R _ h).2 C⟩
   ·exact⟨A.off h.1,h.2⟩
  refine⟨fun x Y H=>?_,by simp,by simp,?_⟩
  ·simp[ao,aK]at Y;subst Y;exact absurd H (D.1 _ rfl)
  ·exact D.2
 ·subst K;have D:iV Z a/\a<u:=by
   rcases I with⟨h,_⟩|h
   ·exact⟨(R _ h).1,ai (R _ h).2 C⟩
   ·exact⟨A.off h.1,h.2⟩
  refine⟨fun x Y H=>?_,by simp,by simp,?_⟩
  ·simp[ao,aK]at Y;subst Y;exact absurd H (D.1 _ rfl)
  ·simp[ao];exact D.2
 ·refine⟨fun x Y H=>?_,?_,?_,?_⟩
  ·rcases K with rfl|⟨f,rfl⟩<;>simp[ao,aK]at Y
  ·rcases K with rfl|⟨f,rfl⟩<;>simp
  ·rcases K with rfl|⟨f,rfl⟩<;>simp
  ·rcases K with rfl|⟨f,rfl⟩<;>trivial
 ·refine⟨fun x Y H=>?_,by simp,by simp,trivial⟩;simp[ao,aK]at Y;subst Y;have:=(A _ H).1;cases this
section
variable{P:Program}{Z:Loc->Prop}{Done:(Nat->Prop)->(Nat->Prop)->Frame->List Frame->World->Prop}
theorem DI{t u:Trace}(h:∀op∈t,∀a,op.act≠.mark (.release a))(k:∀op∈u,∀a,op.act≠.mark (.release a)):∀op∈t++u,∀a,op.act≠.mark (.release a):=fun op gC=>(Array.mem_append.1 gC).elim (h op) (k op)
theorem Sm{u g:Nat}{fn:FuncId}{es:Array _}(h:∀e∈es,zH S X w u e):∀op∈aA g fn pos es,∀a,op.act≠.mark (.release a):=by
 intro op gC a0;rw[ofEvents_eq]at gC;obtain⟨e,H,rfl⟩:=aO.1 gC;obtain⟨loc,wr,R⟩:=e;rcases h _ H with⟨a,Y,K,_⟩|⟨a,Y,K,_⟩|⟨m,Y,h⟩|Y
 ·subst Y K;nofun
 ·subst Y K;have D:ao ⟨.obj a,wr,false⟩=.access ⟨.obj a,wr,false⟩:=by cases wr<;>rfl
  simp_all
 ·subst Y;rcases h with rfl|⟨f,rfl⟩<;>nofun
 ·subst Y;nofun
theorem Rm{g:Nat}{fn:FuncId}{es:Array _}(h:∀e∈es,e.mute=true):∀op∈aA g fn pos es,∀a,op.act≠.mark (.release a):=by
 intro op gC a0 y;rw[ofEvents_eq]at gC;obtain⟨e,Y,rfl⟩:=aO.1 gC;have:=h e Y;obtain⟨loc,wr,K⟩:=e;cases loc<;>simp_all[Event.mute,ao]
structure Beside(P:Program)(Z:Loc->Prop)(S:Nat->Prop)(f:Frame)(l:List Frame)(w:World)(gs:Array Goroutine)(t:Trace)(q:Nat->Nat):Prop where
 g0:gs[0]?=some (G f l)
 se:Leavers P t gs q
 past:Past Z w.heap.size t
 held:∀a,S a->iV Z a/\a<w.heap.size
 ob:qo Z w.heap.size
 nr:∀op∈t,∀a,op.act≠.mark (.release a)
structure Kept(X X':Nat->Prop)(w w':World):Prop where
 kept:∀a,a<w.heap.size->¬X a->w'.heap[a]?=w.heap[a]?
 grow:w.heap.size<=w'.heap.size
 may:∀a,X' a->X a\/w.heap.size<=a
 tape:w'.tape=w.tape
 env:mD w'.os w.os
 output:w'.output=w.output
theorem Kept.refl(X:Nat->Prop)(w:World):Kept X X w w:=⟨fun _ _ _=>rfl,ae _,fun _ h=>.inl h,rfl,.refl _,rfl⟩
theorem Kept.trans{X X' UJ:Nat->Prop}{w w' x7:World}(h:Kept X X' w w')(k:Kept X' UJ w' x7):Kept X UJ w x7:=by
 refine⟨fun a Y K=>(k.kept a (ai Y h.grow) fun x=>?_).trans (h.kept a Y K),ak h.grow k.grow,fun a Y=>?_,k.tape.trans h.tape,k.env.trans h.env,k.output.trans h.output⟩
 ·rcases h.may a x with y|y
  ·exact K y
  ·omega
 ·rcases k.may a Y with x|x
  ·exact h.may a x
  ·exact .inr (ak h.grow x)
theorem Did.toKept{w1:World}{es:Array _}(h:Did S X w w1 es S1 X1):Kept X X1 w w1:=⟨h.kept,h.grow,fun a Y=>((h.may a).1 Y).imp id fun x=>x.1,h.tape,h.env,h.output⟩
theorem Kept.at(w:World)(d:Nat):Kept X X w (w.at d):=⟨fun _ _ _=>rfl,ae _,fun _ h=>.inl h,rfl,.refl _,rfl⟩
theorem AE(U:Nat->Nat->Prop)(S:Nat->Prop)(w:World)(d:Nat):gK U S w (w.at d):=⟨fun _ _=>.inl rfl,ae _,.refl _⟩
theorem Yt{U:Nat->Nat->Prop}(h:Tr P true U Done S X f l w):
  ∀(gs:Array Goroutine) (sl:Option (Nat×Nat)) (t:Trace) (q:Nat->Nat),Beside P Z S f l w gs t q->
   ∃(N:Nat) (Y:Array Goroutine) (f':Frame) (l':List Frame) (w':World) (R:Option (Nat×Nat)) (t':Trace) (s:Nat->Nat) (S' X':Nat->Prop),
    runNT P N (crowd gs w sl) t=(.next (crowd Y w' R),t')/\Y.size=gs.size/\Done S' X' f' l' w'/\Beside P Z S' f' l' w' Y t' s/\Kept X X' w w':=by
 induction h with
 |stop hd=>exact fun gs sl t q H=>⟨0,gs,_,_,_,sl,t,q,_,_,rfl,rfl,hd,H,Kept.refl _ _⟩
 |@step S X f l w ex _ ih=>
  have inner:∀(M:Nat) (gs:Array Goroutine) (w0:World) (sl:Option (Nat×Nat)) (t:Trace) (q:Nat->Nat),sumTo gs.size q=M->gK U S w w0->Beside P Z S f l w0 gs t q->
    ∃(N:Nat) (Y:Array Goroutine) (f':Frame) (l':List Frame) (w':World) (R:Option (Nat×Nat)) (t':Trace) (s:Nat->Nat) (S' X':Nat->Prop),
     runNT P N (crowd gs w0 sl) t=(.next (crowd Y w' R),t')/\Y.size=gs.size/\Done S' X' f' l' w'/\Beside P Z S' f' l' w' Y t' s/\Kept X X' w0 w':=by
   intro M;induction M using Nat.strongRecOn with
   |_ M KU=>
   intro gs w0 sl t q hM hr H;have u:=H.se;have m:=H.g0;have KV:∀g∈gs,awake g:=by
    intro g v;obtain⟨i,B,rfl⟩:=Array.mem_iff_getElem.1 v;rcases bA i with rfl|I
    ·have:gs[0]=G f l:=by simpa[aB B]using m
     rw[this];exact awake_of (.inl rfl)
    ·exact awake_of ((u.old i _ I (aB B)).status.elim .inl fun x=>.inr (.inr x))
   obtain⟨i,g,d,R,B,v,gq⟩:=crowd_pick (P:=P) (w:=w0) (sl:=sl) KV ⟨0,_,m,rfl⟩;rcases bA i with rfl|I
   ·
    obtain rfl:g=G f l:=by rw[m]at B;exact(Option.some.inj B).symm
    have qz:=hr.trans (AE U S w0 d);obtain⟨f1,l1,w1,es,S1,X1,n,hd⟩:=ex (w0.at d) qz;have D:=runT_crowd_go (P:=P) (sl:=R) (i:=0) B (n);have L:((gs.map (woken P (G f l) (G f1 l1) w1)).setIfInBounds 0 (G f1 l1)).size=gs.size:=by simp
    have J:0<gs.size:=(a_.1 m).1;have K:=hd.grow;have Q:Beside P Z S1 f1 l1 w1 ((gs.map (woken P (G f l) (G f1 l1) w1)).setIfInBounds 0 (G f1 l1)) (t++aA 0 (G f l).frame.fn (G f l).frame.place es) q:=by
     refine⟨by simp[J],⟨fun j x C p=>?_,fun j C=>?_⟩,?_,fun a ha=>?_,H.ob.mono K,DI H.nr (Sm hd.ev)⟩
     ·have E:0≠j:=by omega
      rw[aN E,aM]at p;obtain⟨y,hy,rfl⟩:=aY.1 p;have W:=u.old j y C hy;rw[woken_quitsD W,Deaf_other t (by omega) _ (fun op gC=>ofEvents_g gC)];exact W
     ·rw[Deaf_other t (g':=0) (by simp at C;omega) _ (fun op gC=>ofEvents_g gC)];exact u.above j (by simpa using C)
     ·exact(H.past.mono K).own fun e he=>agZ (w:=w0.at d) H.held H.ob K (hd.ev e he)
     ·rcases(hd.held a).1 ha with x|x
      ·exact⟨(H.held a x).1,ai (H.held a x).2 K⟩
      ·exact⟨H.ob.off x.1,x.2⟩
    obtain⟨N,Y,f',l',w',A,t',s,S',X',c,o,T,O,V⟩:=ih (w0.at d) f1 l1 w1 es S1 X1 qz n hd _ R _ q Q;exact⟨N+1,Y,f',l',w',A,t',s,S',X',by simp only[runNT,gq,D];exact c,o.trans L,T,O,((Kept.at w0 d).trans hd.toKept).trans V⟩
   ·
    have W:=u.old i g I B;have E5:(i==0)=false:=by simp;omega
    have J:i<gs.size:=(a_.1 B).1;cases z:q i with
    |zero=>rw[z]at W;rw[W.1]at v;cases v
    |succ k=>
     rw[z]at W;rcases W with⟨hf,_⟩|⟨_,r,es,hm,aj9,zI⟩
     ·rw[hf]at v;cases v
     have D:=runT_crowd_go (P:=P) (sl:=R) (i:=i) B (by rw[E5];exact aj9 (w0.at d));have L:((gs.map (woken P g r (w0.at d))).setIfInBounds i r).size=gs.size:=by simp
     have TW:sumTo gs.size (upd q i k)+(k+1)=sumTo gs.size q+k:=by
      have:=sumTo_upd q k id J;simpa[z]using this
     have Q:Beside P Z S f l (w0.at d) ((gs.map (woken P g r (w0.at d))).setIfInBounds i r) (t++aA i g.frame.fn g.frame.place es) (upd q i k):=by
      refine⟨?_,⟨fun j x C p=>?_,fun j C=>?_⟩,H.past.mute (by omega) hm,H.held,H.ob,DI H.nr (Rm hm)⟩
      ·have E:i≠0:=by omega
       rw[aN E,aM,m];simp[woken_run (b:=G f l) rfl]
      ·by_cases F:i=j
       ·subst F;rw[Array.getElem?_setIfInBounds_self_of_lt (by simpa using J)]at p;obtain rfl:=Option.some.inj p;rw[upd_same,Deaf_own];exact zI
       ·rw[aN F,aM]at p;obtain⟨y,hy,rfl⟩:=aY.1 p;have UK:=u.old j y C hy;rw[woken_quitsD UK,upd_ne q k (Ne.symm F),Deaf_other t F _ (fun op gC=>ofEvents_g gC)];exact UK
      ·rw[Deaf_other t (g':=i) (by simp at C;omega) _ (fun op gC=>ofEvents_g gC)];exact u.above j (by simpa using C)
     obtain⟨N,Y,f',l',w',A,t',s,S',X',c,o,T,O,V⟩:=KU (sumTo gs.size (upd q i k)) (by omega) _ (w0.at d) R _ (upd q i k) (by rw[L]) (hr.trans (AE U S w0 d)) Q;exact⟨N+1,Y,f',l',w',A,t',s,S',X',by simp only[runNT,gq,D];exact c,o.trans L,T,O,(Kept.at w0 d).trans V⟩
  exact fun gs sl t q H=>inner _ gs w sl t q rfl (gK.refl U S w) H
end
end Ren
namespace Ren
open Conc
section
variable{P:Program}{main:Bool}{U:Nat->Nat->Prop}{D I:(Nat->Prop)->(Nat->Prop)->Frame->List Frame->World->Prop}
theorem Tr.bind{l:List _}(h:Tr P main U D S X f l w)(k:∀S X f l w,D S X f l w->Tr P main U I S X f l w):Tr P main U I S X f l w:=by
 induction h with
 |stop hd=>exact k _ _ _ _ _ hd
 |step ex _ Y=>exact .step ex fun w2 f1 l1 w1 es S1 X1 hr e hd=>Y w2 f1 l1 w1 es S1 X1 hr e hd
end
section
variable[gB]{P:Program}{main:Bool}{U:Nat->Nat->Prop}{r0:Rn}{v0 w:World}
def TX(U:Nat->Nat->Prop)(r0:Rn)(R:Ending->World->Prop)(c:Frame)(cs:List Frame)(S X:Nat->Prop)(f':Frame)(l':List _)(w:World):=
 l'=cs/\∃r v x x',Le r0 r/\V r x x'/\f'=c.finish x'/\W r 0 v w/\S=Rd r/\X=Wr r/\R (.returned x) v/\oY U r/\∀a i,U a i->a<w.heap.size
theorem Ii(F:ly P)(p:∀l,¬gB.ji l){f:FuncId}{R:Ending->World->Prop}(C:∀e u,R e u->∃x,e=.returned x){c:Frame}
  (h:rF P U r0 (fun fr l v=>l=[jw]/\∃e,R e v/\fr.fn=f/\fr.leaving P v e) [jw] (c::cs) S X f' l' w):Tr P main U (TX U r0 R c cs) S X f' l' w:=by
 obtain⟨r,n,fr,l,v,Q,A,Z,hw,rfl,rfl,⟨rfl,e,q,k,hl⟩,H,K⟩:=h;obtain⟨rfl,rfl⟩:=Z.Sl;obtain⟨x,rfl⟩:=C e v q;obtain⟨hm,hd,hk,fn,j,J⟩:=hl;have T:f'.mode=.returning:=by
  have:=A.mode;rw[hm]at this;generalize f'.mode=m at this;cases this;rfl
 have N:f'.defers=[]:=by
  have:=A.defers;rw[hd]at this;generalize f'.defers=m at this;cases this with
  |nil=>rfl
  |rest _ h=>exact absurd h (p _)
 have O:=A.kind.trans hk;have B:P.funcs[f'.fn]?=some fn:=by rw[A.fn];omega
 have one:∀w2,gK U (Rd r) w w2->∃r1 x' w1 es,Le r r1/\V r1 x x'/\W r1 0 v w1/\stepG P main (G f' (c::cs)) w2=.go (G (c.finish x') cs) w1 es/\Did (Rd r) (Wr r) w2 w1 es (Rd r1) (Wr r1)/\oY U r1:=by
  intro w2 hr;have L:=hw.rely H hr;have run:=(OD (fn:=fn) A.tmps).run F.sK #[] L;rw[J]at run;generalize E:af P _ w2 #[]=sw at run;cases run with
  |lC a b=>simp only[Result.world]at a;omega
  |@ok _ x' _ w1 fs r1 c1 o hx t=>
   have s:c1=0:=by have:=o.drew;omega
   subst s;have I:oY U r1:=by
    intro b b' i e M;rcases o.fresh b b' e with y|y
    ·exact H b b' i y M
    ·have:=K b' i M;have:=hr.grow;omega
   refine⟨r1,x',w1,_,o.le,hx,o.wl,?_,o.did L (qg (P:=P) (fn:=f'.fn) t),I⟩;unfold stepG;simp only[G];unfold unwind;simp only[N,T,B,E];unfold doReturn;simp only[O,GStep.after];simp
 refine .step (fun w2 hr=>?_) fun w2 f1 l1 w1 es S1 X1 hr e Y=>?_
 ·obtain⟨r1,x',w1,es,_,_,_,e,Y,_⟩:=one w2 hr;exact⟨_,_,w1,es,_,_,e,Y⟩
 ·obtain⟨r1,x',w1',iD,z,d,g,e',D,I⟩:=one w2 hr;rw[e]at e';cases e';obtain⟨rfl,rfl⟩:=Y.same D;exact .stop ⟨rfl,r1,v,x,x',Q.trans z,d,rfl,g,rfl,rfl,q,I,fun a i M=>ai (K a i M) (ak hr.grow Y.grow)⟩
theorem aaT(F:ly P)(L:∀ops,¬gB.wall ops)(J:∀l,¬gB.ji l)(gi:GI r0){f:FuncId}{args Y:Array _}{R:Ending->World->Prop}(N:∀T,Calls P f args (tp v0 T) R)(H:∀e u,R e u->∃x,e=.returned x)(O:gB.ij f)(M:VA r0 args Y)(hw:W r0 0 v0 w)(C:oY U r0)(A:∀a i,U a i->a<w.heap.size)(c:Frame)(cs:List _):
  Tr P main U (TX U r0 R c cs) (Rd r0) (Wr r0) (Frame.enter P f Y .normal) (c::cs) w:=
 (ZG F L gi N (fun u h=>by obtain⟨x,e⟩:=H _ _ h;cases e) O M hw C A).bind fun S X f' l' w' h=>Ii F J H h
end
section
variable[gB]{P:Program}{main:Bool}{U:Nat->Nat->Prop}{r0:Rn}{v0 w:World}
def tU:List Item:=[.code (.refuse "")]
def Ql(b:Frame)(R:Act->World->Prop)(f:Frame)(l:List _)(v:World):=l=[jw]/\∃a,f=b.at a tU/\R a v
theorem OG(F:ly P)(M:∀ops,¬gB.wall ops)(gi:GI r0){c:Code}{b:Frame}{a:Act}{R:Act->World->Prop}(O:∀T,Code.wp P c (fun e a' v'=>e=.normal/\R a' v') a (tp v0 T))
  (N:b.kind=.normal)(G:lO P false c){gM:List _}(V:FR P r0 true (b.at a (.code c::tU)) f')(hw:W r0 0 v0 w)(J:oY U r0)(A:∀a i,U a i->a<w.heap.size):
  Tr P main U (rF P U r0 (Ql b R) [jw] gM) (Rd r0) (Wr r0) f' gM w:=by
 have C:∀T,∃n a' v1,runN P n (lone (b.at a (.code c::tU)) [jw] (tp v0 T))=.next (lone (b.at a' tU) [jw] v1)/\R a' v1:=by
  intro T;obtain⟨e,a',v1,⟨rfl,K⟩,n,Y⟩:=O T b _ _;exact⟨n,a',v1,Y,K⟩
 refine tree F gi (fun T=>?_) (fun T k f v Q D B L=>?_) (fun T k f l v i ops X q _ _ _ h=>absurd h (M ops)) V ⟨rfl,N⟩ hw J A
 ·obtain⟨n,a',v1,Y,K⟩:=C T;exact⟨n,_,_,v1,Y,rfl,a',rfl,K⟩
 ·exfalso;obtain⟨n,a',v1,Y,K⟩:=C T;rcases aV k n with S|H
  ·obtain⟨m,rfl⟩:∃m,n=k+(m+1):=⟨n-k-1,by omega⟩;rw[runN_add,D.runN]at Y;exact Hy m B L Y
  ·obtain⟨g,l2,u,I⟩:=D.pre n H;obtain⟨rfl,rfl,rfl⟩:=I.Bw Y;exact Q n _ _ _ H I ⟨rfl,a',rfl,K⟩
theorem Pj{b:Frame}{R:Act->World->Prop}(H:∀k,gB.rest k->k=kr)(h:rF P U r0 (Ql b R) [jw] gM S X f' l' w):
  l'=gM/\∃r a v,Le r0 r/\W r 0 v w/\S=Rd r/\X=Wr r/\R a v/\oY U r/\(∀a i,U a i->a<w.heap.size)/\VA r a.tmps f'.tmps/\f'.fn=b.fn/\f'.kind=b.kind/\f'.mode=.run/\f'.roundOf=none/\f'.todo=kr/\DB r true a.defers f'.defers:=by
 obtain⟨r,n,f,l,v,I,Y,C,hw,K,D,⟨rfl,a,rfl,A⟩,F,B⟩:=h;obtain⟨rfl,rfl⟩:=C.Sl;refine⟨rfl,r,a,v,I,hw,K,D,A,F,B,Y.tmps,Y.fn,Y.kind,?_,?_,?_,Y.defers⟩
 ·have:=Y.mode;simp only[Frame.at]at this;generalize f'.mode=m at this;cases this;rfl
 ·have:=Y.round;simp only[Frame.at]at this;generalize f'.roundOf=m at this;cases this;rfl
 ·have:=Y.todo;simp only[Frame.at,tU]at this;generalize f'.todo=m at this;cases this with
  |rest _ _ h _=>exact H _ h
  |cons a _=>
   cases a with
   |code h=>exact absurd rfl h
end
def At(P:Program)(Z:Loc->Prop)(f:Frame)(l:List _)(w:World)(m:Machine)(t:Trace):=
 ∃gs sl q,m=crowd gs w sl/\Beside P Z (fun _=>False) f l w gs t q
abbrev QT:=(Loc->Prop)->Frame->List Frame->World->Prop
def gu(P:Program)(Q:QT)(Z:Loc->Prop)(f:Frame)(l:List Frame)(w:World):Prop:=
 ∀m t,At P Z f l w m t->∃N m' t' Z' f' l' w',runNT P N m t=(.next m',t')/\At P Z' f' l' w' m' t'/\Q Z' f' l' w'
theorem runNT_add(P:Program):∀a b m Y t t1,runNT P a m t=(.next Y,t1)->runNT P (a+b) m t=runNT P b Y t1
 |0,b,m,Y,t,t1,h=>by
  cases h;simp_all
 |a+1,b,m,Y,t,t1,h=>by
  rw[show a+1+b=(a+b)+1 by omega];simp[runNT]at h⊢;cases K:stepT P m with
  |mk s ops=>
   rw[K]at h;cases s with
   |next H=>exact runNT_add P a b H Y _ t1 h
   |ended o w=>cases h
section
variable{P:Program}{Q I:QT}{Z:Loc->Prop}{f:Frame}{l:List Frame}{w:World}
theorem gu.done(h:Q Z f l w):gu P Q Z f l w:=fun m t Y=>⟨0,m,t,Z,f,l,w,rfl,Y,h⟩
theorem gu.tree{Done:(Nat->Prop)->(Nat->Prop)->Frame->List _->World->Prop}{U:Nat->Nat->Prop}(h:Tr P true U Done S X f l w)(J:∀a,S a->iV Z a/\a<w.heap.size)
  (k:∀S' X' f' l' w',Done S' X' f' l' w'->Kept X X' w w'->gu P Q Z f' l' w'):gu P Q Z f l w:=by
 rintro m t ⟨gs,sl,q,rfl,K⟩;obtain⟨N,H,f',l',w',I,t',O,S',X',hr,T,C,Y,F⟩:=Yt h gs sl t q ⟨K.g0,K.se,K.past,J,K.ob,K.nr⟩;obtain⟨A,M,t2,B,f2,l2,w2,L,D,R⟩:=k S' X' f' l' w' C F _ t' ⟨H,I,O,rfl,Y.g0,Y.se,Y.past,(fun a h=>h.elim),Y.ob,Y.nr⟩;exact⟨N+A,M,t2,B,f2,l2,w2,by rw[runNT_add P N A _ _ _ _ hr];omega,D,R⟩
end
section
variable[gB]{P:Program}{Q:QT}{Z:Loc->Prop}{w:World}
theorem gu.call(F:ly P)(L:∀ops,¬gB.wall ops)(C:∀l,¬gB.ji l){r0:Rn}(gi:GI r0){f:FuncId}{args Y:Array _}{R:Ending->World->Prop}(O:∀T,Calls P f args (tp v0 T) R)(H:∀e u,R e u->∃x,e=.returned x)(G:gB.ij f)(A:VA r0 args Y)(hw:W r0 0 v0 w){c:Frame}{cs:List _}
  (M:∀a,Rd r0 a->iV Z a)
  (k:∀r v x x' w',Le r0 r->V r x x'->W r 0 v w'->R (.returned x) v->Kept (Wr r0) (Wr r) w w'->gu P Q Z (c.finish x') cs w'):gu P Q Z (Frame.enter P f Y .normal) (c::cs) w:=by
 refine gu.tree (U:=fun _ _=>False) (aaT F L C gi O H G A hw (fun _ _ _ _ h=>h.elim) (fun _ _ h=>h.elim) c cs) (fun a A=>⟨M a A,?_⟩) ?_
 ·obtain⟨b,N⟩:=A;exact(hw.lt N).2
 ·rintro S' X' f' l' w' ⟨rfl,r,v,x,x',K,D,rfl,I,rfl,rfl,B,_⟩ J;exact k r v x x' w' K D I B J
end
section
variable[gB]
open Classical in
def mG (K:Nat->Prop):Rn where
 f b:=if K b then some b else none
 inj b b' c h h':=by
  split at h
  ·split at h'
   ·cases h;cases h';rfl
   ·cases h'
  ·cases h
 ju b c h:=by
  split at h
  ·cases h;exact Iff.rfl
  ·cases h
open Classical in
theorem si{K:Nat->Prop}{b:Nat}(h:K b):mG K b=some b:=by
 show(if K b then some b else none)=_
 simp_all
open Classical in
theorem yG{K:Nat->Prop}{b c:Nat}:mG K b=some c↔K b/\b=c:=by
 show(if K b then some b else none)=some c↔_
 simp_all
theorem yL{K:Nat->Prop}{a:Nat}:Rd (mG K) a↔K a:=⟨(fun⟨b,Y⟩=>by obtain⟨h,rfl⟩:=yG.1 Y;exact h),fun h=>⟨a,si h⟩⟩
theorem aeI{K:Nat->Prop}{a:Nat}:Wr (mG K) a↔K a/\¬gB.ro a:=⟨(fun⟨b,Y,H⟩=>by obtain⟨h,rfl⟩:=yG.1 Y;simp_all),fun h=>⟨a,si h.1,h.2⟩⟩
theorem Ji(Y:∀b,¬gB.ro b)(R:gB.size<=w.heap.size)(h:∀b,K b->∃o,w.heap[b]?=some o/\O (mG K) o o):W (mG K) 0 w w:=by
 refine⟨fun b b' e=>?_,R,R,fun b I=>absurd I (Y b),fun i q A=>by omega,rfl⟩;obtain⟨hk,rfl⟩:=yG.1 e;obtain⟨o,H,D⟩:=h b hk;exact⟨o,o,H,H,.same (Y b) D⟩
theorem DJ{r:Rn}{c:Array _}(e:TypeId)(fz:Nat×Nat)(h:∀x∈c,V r x x):O r (.cells c e fz) (.cells c e fz):=.cells e fz ⟨rfl,fun i x x' e e'=>by
 obtain rfl:=Option.some.inj (e.symm.trans e');exact h x (aP e)⟩
end
theorem OH(P:Program):∀n m Y t t1,runNT P n m t=(.next Y,t1)->runN P n m=.next Y
 |0,m,Y,t,t1,h=>by
  cases h;rfl
 |n+1,m,Y,t,t1,h=>by
  simp[runNT]at h;simp[Go.runN,step];cases K:stepT P m with
  |mk s ops=>
   rw[K]at h;cases s with
   |next H=>exact OH P n H Y _ t1 h
   |ended o w=>cases h
def Ends(P:Program)(Y:Value->World->Prop)(Z:Loc->Prop)(f:Frame)(l:List _)(w:World):=∀w1,AtRel w w1->AtEnd P Z w.heap.size Y (G f l) w1
theorem gu.close{Y:Value->World->Prop}{W:World}(h:gu P (Ends P Y) (fun _=>False) f [] W):
  ∃M last o w' t',runNT P (M+1) (solo (G f []) W) #[]=(.ended o w',t')/\runN P M (solo (G f []) W)=.next last/\step P last=.ended o w'/\Conc.Good P Y last o w' t':=by
 have B:Past (fun _=>False) W.heap.size #[]:=past_nil.mono (Nat.zero_le _);obtain⟨N,m',t',Z',f',l',w',hr,⟨gs,sl,q,rfl,K⟩,U⟩:=h (solo (G f []) W) #[] ⟨#[G f []],none,fun _=>0,rfl,rfl,leavers_one P _,B,(fun a h=>h.elim),(fun a h=>h.elim),by simp⟩;obtain⟨M,last,o,w2,t2,H,R,I,A⟩:=beside_ends (D:=fun _ _ _=>False) (n:=0) (sl:=sl) (fun _ _ _ h=>h.elim) K.g0 K.se K.past U;exact⟨N+M,last,o,w2,t2,by rw[show N+M+1=N+(M+1) by omega,runNT_add P N (M+1) _ _ _ _ hr];exact H,by rw[runN_add,OH P N _ _ _ _ hr];exact R,I,A⟩
theorem Pk{b:Frame}{a:Act}{c:Code}{fn:Func}{R:Ending->World->Prop}(A:P.funcs[b.fn]?=some fn)(hk:b.kind=.normal)(C:∀u,¬R .outgrown u)(h:c.wp P (bodyPost P fn R) a w)(cs:List _):
  ∃n fr w' e,runN P n (lone (b.at a [.code c]) cs w)=.next (lone fr cs w')/\R e w'/\fr.fn=b.fn/\fr.leaving P w' e:=by
 obtain⟨e,a',w',K,Y⟩:=h b [] cs;cases e with
 |normal=>
  obtain⟨hd,v,hr,H⟩:=K;obtain⟨n,D⟩:=Steps.trans Y (.one step_end);exact⟨n,_,w',.returned v,D,H,rfl,rfl,hd,hk,fn,A,hr⟩
 |ret=>
  obtain⟨hd,v,hr,H⟩:=K;obtain⟨todo,n,D⟩:=Y;exact⟨n,_,w',.returned v,D,H,rfl,rfl,hd,hk,fn,A,hr⟩
 |panic chain=>
  obtain⟨hd,H⟩:=K;obtain⟨todo,n,D⟩:=Y;exact⟨n,_,w',.panicked _,D,H,rfl,rfl,hd,fn,A⟩
 |exit id=>exact K.elim
 |goto l=>exact K.elim
 |outgrown=>exact absurd K (C _)
section
variable[gB]{P:Program}{main:Bool}{U:Nat->Nat->Prop}{r0:Rn}{v0 w:World}{gM:List Frame}
theorem aaU(F:ly P)(N:∀ops,¬gB.wall ops)(gi:GI r0){b:Frame}{a:Act}{c:Code}{fn:Func}{R:Ending->World->Prop}(M:P.funcs[b.fn]?=some fn)(hk:b.kind=.normal)(O:∀T,c.wp P (bodyPost P fn R) a (tp v0 T))(J:∀u,¬R .outgrown u)(V:FR P r0 true (b.at a [.code c]) f')(hw:W r0 0 v0 w)(L:oY U r0)(A:∀a i,U a i->a<w.heap.size):
  Tr P main U (rF P U r0 (fun fr l v=>l=[jw]/\∃e,R e v/\fr.fn=b.fn/\fr.leaving P v e) [jw] gM) (Rd r0) (Wr r0) f' gM w:=by
 have C:∀T,∃n f1 v1,runN P n (lone (b.at a [.code c]) [jw] (tp v0 T))=.next (lone f1 [jw] v1)/\∃e,R e v1/\f1.fn=b.fn/\f1.leaving P v1 e:=by
  intro T;obtain⟨n,fr,w',e,Q,I,K,H⟩:=Pk M hk J (O T) _;exact⟨n,fr,w',Q,e,I,K,H⟩
 have Y:∀(fr:Frame) (v:World),(∃e,R e v/\fr.fn=b.fn/\fr.leaving P v e)->fr.mode≠.run/\fr.defers=[]:=by
  rintro fr v ⟨e,I,_,D⟩;cases e with
  |outgrown=>exact absurd I (J _)
  |returned x=>exact⟨(by rw[D.1];simp),D.2.1⟩
  |panicked x=>exact⟨(by rw[D.1];simp),D.2.1⟩
 refine tree F gi (fun T=>?_) (fun T k fr v _ K H B=>⟨rfl,Hz Y C T k fr v K H B⟩) (fun T k f l v i ops S q _ _ _ h=>absurd h (N ops)) V ⟨rfl,hk⟩ hw L A;obtain⟨n,f1,v1,K,H⟩:=C T;exact⟨n,f1,[jw],v1,K,rfl,H⟩
end
section
variable[gB]{P:Program}{Q:QT}{Z:Loc->Prop}{w:World}
theorem gu.rest(F:ly P)(M:∀ops,¬gB.wall ops)(J:∀l,¬gB.ji l){r0:Rn}(gi:GI r0){b:Frame}{a:Act}{c:Code}{fn:Func}{R:Ending->World->Prop}(H:P.funcs[b.fn]?=some fn)(hk:b.kind=.normal)(G:∀T,c.wp P (bodyPost P fn R) a (tp v0 T))(Y:∀e u,R e u->∃x,e=.returned x)(q:FR P r0 true (b.at a [.code c]) f')(hw:W r0 0 v0 w){c0:Frame}{cs:List _}
  (N:∀a,Rd r0 a->iV Z a)
  (k:∀r v x x' w',Le r0 r->V r x x'->W r 0 v w'->R (.returned x) v->Kept (Wr r0) (Wr r) w w'->gu P Q Z (c0.finish x') cs w'):gu P Q Z f' (c0::cs) w:=by
 have D:=aaU (main:=true) (U:=fun _ _=>False) (gM:=c0::cs) F M gi H hk G (fun u h=>by obtain⟨x,e⟩:=Y _ _ h;cases e) q hw (fun _ _ _ _ h=>h.elim) (fun _ _ h=>h.elim);refine gu.tree (D.bind fun S X f' l' w' h=>Ii F J Y h) (fun a K=>⟨N a K,?_⟩) ?_
 ·obtain⟨b,O⟩:=K;exact(hw.lt O).2
 ·rintro S' X' f' l' w' ⟨rfl,r,v,x,x',I,A,rfl,B,rfl,rfl,C,_⟩ L;exact k r v x x' w' I A B C L
end
theorem Yu{b:Frame}{a:Act}{c:Code}{fn:Func}{ops:Array _}{l:List Nat}{R:Ending->World->Prop}(A:P.funcs[b.fn]?=some fn)(hk:b.kind=.normal)(H:∀u,¬R .outgrown u)(h:wpOps P ops (fun e a' w'=>e=.normal/\c.wp P (bodyPost P fn R) a' w') l a w)(cs:List _):
  ∃n fr w' e,runN P n (lone (b.at a [.inRegion ops l,.code c]) cs w)=.next (lone fr cs w')/\R e w'/\fr.fn=b.fn/\fr.leaving P w' e:=by
 obtain⟨e,a',w',⟨rfl,K⟩,n1,Y⟩:=wp_ops l a w h b _ cs;obtain⟨n,fr,w2,e,D,r⟩:=Pk A hk H K cs;exact⟨n1+n,fr,w2,e,by rw[runN_add,Y];exact D,r⟩
section
variable[gB]{P:Program}{Q:QT}{Z:Loc->Prop}{w:World}
theorem gu.lone(F:ly P)(G:∀ops,¬gB.wall ops)(M:∀l,¬gB.ji l){r0:Rn}(gi:GI r0){b:Frame}{a:Act}{its:List _}{fn:Func}{R:Ending->World->Prop}(s:P.funcs[b.fn]?=some fn)(hk:b.kind=.normal)(hc:∀T,∃n fr w' e,runN P n (Go.lone (b.at a its) [jw] (tp v0 T))=.next (Go.lone fr [jw] w')/\R e w'/\fr.fn=b.fn/\fr.leaving P w' e)(Y:∀e u,R e u->∃x,e=.returned x)(p:FR P r0 true (b.at a its) f')(hw:W r0 0 v0 w){c0:Frame}{cs:List _}
  (z:∀a,Rd r0 a->iV Z a)
  (k:∀r v x x' w',Le r0 r->V r x x'->W r 0 v w'->R (.returned x) v->Kept (Wr r0) (Wr r) w w'->gu P Q Z (c0.finish x') cs w'):gu P Q Z f' (c0::cs) w:=by
 have U:∀u,¬R .outgrown u:=fun u h=>by obtain⟨x,e⟩:=Y _ _ h;cases e
 have C:∀T,∃n f1 v1,runN P n (Go.lone (b.at a its) [jw] (tp v0 T))=.next (Go.lone f1 [jw] v1)/\∃e,R e v1/\f1.fn=b.fn/\f1.leaving P v1 e:=by simp_all
 have K:∀(fr:Frame) (v:World),(∃e,R e v/\fr.fn=b.fn/\fr.leaving P v e)->fr.mode≠.run/\fr.defers=[]:=by
  rintro fr v ⟨e,O,_,I⟩;cases e with
  |outgrown=>exact absurd O (U _)
  |returned x=>exact⟨(by rw[I.1];simp),I.2.1⟩
  |panicked x=>exact⟨(by rw[I.1];simp),I.2.1⟩
 have J:Tr P true (fun _ _=>False) (rF P (fun _ _=>False) r0 (fun fr l v=>l=[jw]/\∃e,R e v/\fr.fn=b.fn/\fr.leaving P v e) [jw] (c0::cs)) (Rd r0) (Wr r0) f' (c0::cs) w:=by
  refine Ren.tree F gi (fun T=>?_) (fun T k fr v _ H D A=>⟨rfl,Hz K C T k fr v H D A⟩) (fun T k f l v i ops j q _ _ _ h=>absurd h (G ops)) p ⟨rfl,hk⟩ hw (fun _ _ _ _ h=>h.elim) (fun _ _ h=>h.elim);obtain⟨n,f1,v1,H,D⟩:=C T;exact⟨n,f1,[jw],v1,H,rfl,D⟩
 refine gu.tree (J.bind fun S X f' l' w' h=>Ii F M Y h) (fun a B=>⟨z a B,?_⟩) ?_
 ·obtain⟨b,E⟩:=B;exact(hw.lt E).2
 ·rintro S' X' f' l' w' ⟨rfl,r,v,x,x',H,D,rfl,A,rfl,rfl,L,_⟩ N;exact k r v x x' w' H D A L N
end
end Ren
namespace Ph
open Conc Ren
structure kh(U:Nat->Nat->Prop)(S X:Nat->Prop)(w w1:World)(es:Array Event)(S1 X1:Nat->Prop):Prop extends Did S X w w1 es S1 X1 where
 KW:∀e∈es,∀a:Addr,e.loc=.cell a->¬U a.block a.off
inductive Tz(P:Program)(main:Bool)(U:Nat->Nat->Prop)(Done:(Nat->Prop)->(Nat->Prop)->Goroutine->World->Prop):(Nat->Prop)->(Nat->Prop)->Goroutine->World->Prop
 |stop {S X:Nat->Prop} {g:Goroutine} {w:World}:Done S X g w->Tz P main U Done S X g w
 |step {S X:Nat->Prop} {g:Goroutine} {w:World}:g.status=.running->(∀w2,gK U S w w2->∃g1 w1 es S1 X1,stepG P main g w2=.go g1 w1 es/\kh U S X w2 w1 es S1 X1)->
   (∀w2 g1 w1 es S1 X1,gK U S w w2->stepG P main g w2=.go g1 w1 es->kh U S X w2 w1 es S1 X1->Tz P main U Done S1 X1 g1 w1)->Tz P main U Done S X g w
section
variable{P:Program}{main:Bool}{U:Nat->Nat->Prop}{D I:(Nat->Prop)->(Nat->Prop)->Goroutine->World->Prop}{S X S1 X1 S2 X2:Nat->Prop}{g:Goroutine}{f:Frame}{l:List Frame}{w w1 w2 w3:World}{es:Array Event}
theorem Tz.bind(h:Tz P main U D S X g w)(k:∀S X g w,D S X g w->Tz P main U I S X g w):Tz P main U I S X g w:=by
 induction h with
 |stop hd=>exact k _ _ _ _ hd
 |step Y ex _ K=>exact .step Y ex fun w2 g1 w1 es S1 X1 hr e hd=>K w2 g1 w1 es S1 X1 hr e hd
theorem Tz.one(A:g.status=.running)(h:∀w2,gK U S w w2->∃g1 w1 es S1 X1,stepG P main g w2=.go g1 w1 es/\kh U S X w2 w1 es S1 X1/\Tz P main U D S1 X1 g1 w1):Tz P main U D S X g w:=by
 refine .step A (fun w2 hr=>?_) fun w2 g1 w1 es S1 X1 hr e hd=>?_
 ·obtain⟨g1,w1,es,S1,X1,e,hd,_⟩:=h w2 hr;exact⟨g1,w1,es,S1,X1,e,hd⟩
 ·obtain⟨R,B,iD,K,H,e',Y,I⟩:=h w2 hr;rw[e]at e';cases e';obtain⟨rfl,rfl⟩:=hd.toDid.same Y.toDid;exact I
theorem Qm{u:Nat}(h:zH S X w u e):zH (fun a=>S a\/SF a) (fun a=>X a\/XF a) w u e:=by
 rcases h with⟨a,Y,K,H⟩|⟨a,Y,K,H⟩|h
 ·exact .inl ⟨a,Y,K,H.imp (fun y=>⟨.inl y.1,fun z=>.inl (y.2 z)⟩) id⟩
 ·exact .inr (.inl ⟨a,Y,K,H.imp (fun y=>⟨.inl y.1,fun z=>.inl (y.2 z)⟩) id⟩)
 ·exact .inr (.inr h)
theorem Tz.of{C:(Nat->Prop)->(Nat->Prop)->Frame->List Frame->World->Prop}(h:Tr P main U C S X f l w)(F:∀a i,U a i->a<w.heap.size/\¬S a)(k:∀S X f l w,C S X f l w->Tz P main U I (fun a=>S a\/SF a) (fun a=>X a\/XF a) (G f l) w):
  Tz P main U I (fun a=>S a\/SF a) (fun a=>X a\/XF a) (G f l) w:=by
 induction h with
 |stop hd=>exact k _ _ _ _ _ hd
 |@step S X f l w ex _ O=>
  have J:∀{w2:World},gK U (fun a=>S a\/SF a) w w2->gK U S w w2:=fun hr=>⟨fun a H=>hr.kept a (.inl H),hr.grow,hr.env⟩;refine Tz.one rfl fun w2 hr=>?_;obtain⟨f1,l1,w1,es,S1,X1,e,hd⟩:=ex w2 (J hr);refine⟨_,w1,es,_,_,e,⟨⟨fun a H N=>hd.kept a H fun y=>N (.inl y),hd.grow,fun a=>?_,fun a=>?_,fun e D=>Qm (hd.ev e D),hd.tape,hd.env,hd.output⟩,fun e D a R A=>?_⟩,O w2 f1 l1 w1 es S1 X1 (J hr) e hd fun a i A=>?_⟩
  ·rw[hd.held];constructor
   ·rintro((y|y)|y)
    ·exact .inl (.inl y)
    ·exact .inr y
    ·exact .inl (.inr y)
   ·rintro((y|y)|y)
    ·exact .inl (.inl y)
    ·exact .inr y
    ·omega
  ·rw[hd.may];constructor
   ·rintro((y|y)|y)
    ·exact .inl (.inl y)
    ·omega
    ·exact .inl (.inr y)
   ·rintro((y|y)|y)
    ·exact .inl (.inl y)
    ·exact .inr y
    ·omega
  ·have K:=F _ _ A;have L:=hr.grow;rcases hd.ev e D with⟨a',Y,_,B⟩|⟨a',Y,_⟩|⟨m,Y,_⟩|Y
   ·rw[R]at Y;cases Y;rcases B with y|y
    ·exact K.2 y.1
    ·omega
   ·simp_all
   ·rw[R]at Y;cases Y
   ·rw[R]at Y;cases Y
  ·have K:=F a i A;have L:=hr.grow;have B:=hd.grow;refine⟨by omega,fun M=>?_⟩;rcases(hd.held a).1 M with y|y
   ·exact K.2 y
   ·omega
theorem jc{U:Nat->Nat->Prop}(S X:Nat->Prop)(w:World):kh U S X w w #[] S X:=
 ⟨⟨fun _ _ _=>rfl,ae _,fun a=>⟨.inl,fun h=>h.resolve_right fun y=>by omega⟩,fun a=>⟨.inl,fun h=>h.resolve_right fun y=>by omega⟩,fun e Y=>by simp_all,rfl,.refl _,rfl⟩,fun e Y=>by simp_all⟩
end
def ko{α:Type}(P:Program):Sem α->Option α
 |.pure a=>some a
 |.program k=>ko P (k P)
 |_=>none
theorem IM{α:Type}:∀{s:Sem α} {a:α},ko P s=some a->∀w es,s.runT P w es=(.ok a w,es)
 |.pure b,a,h,w,es=>by
  simp[ko,Option.some.injEq]at h;simp_all
 |.program k,a,h,w,es=>by
  simp[ko]at h;exact IM h w es
 |.load _ _ _,a,h,w,es|.store _ _ _ _,a,h,w,es|.new _ _,a,h,w,es|.shape _ _,a,h,w,es|.freeze _ _ _,a,h,w,es|.frozen _ _,a,h,w,es|.getObj _ _,a,h,w,es|.setObj _ _ _,a,h,w,es|.choose _ _,a,h,w,es|.sys _ _,a,h,w,es|.mark _ _,a,h,w,es|.halt _,a,h,w,es=>by simp[ko]at h
theorem oo{α:Type}{s:Sem α}{a:α}(h:ko P s=some a)(w:World):s.run P w=.ok a w:=by
 have:=IM h w #[];simp_all
theorem sy{α:Type}{s:Sem α}{a:α}(h:ko P s=some a)(w:World)(es:Array _):s.events P w es=es:=by
 have:=IM h w es;simp_all
def pop(P:Program)(f:Frame)(l:List Frame)(s:Sem Next):Option (Frame×List Frame):=
 match ko P s with
 |some (.value v)=>some (f.finish v,l)
 |some .skip=>some (f.finish undef,l)
 |some (.enter g args)=>some (Frame.enter P g args .normal,f::l)
 |some (.defer d)=>some (({f with defers:=d::f.defers}:Frame).finish undef,l)
 |_=>none
def prun(P:Program)(f:Frame)(l:List _):=
 match f.todo with
 |.code .skip::k|.code (.label _)::k|.inBlock _::k|.inScope _::k=>some ({f with todo:=k},l)
 |.code (.seq a b)::k=>some ({f with todo:=.code a:: .code b::k},l)
 |.code (.cond c a b)::k=>match f.eval c with
  |.bool t=>some ({f with todo:=.code (if t then a else b)::k},l)
  |_=>none
 |.code (.block id c)::k=>some ({f with todo:=.code c:: .inBlock id::k},l)
 |.code (.loop c)::k|.inLoop c::k=>some ({f with todo:=.code c:: .inLoop c::k},l)
 |.code (.exit id)::k=>match exitTo id k with
  |some k'=>some ({f with todo:=k'},l)
  |none=>none
 |.code .ret::_|[]=>some ({f with mode:=.returning},l)
 |.code (.region _ ops false)::k=>some ({f with todo:=.inRegion ops (List.range ops.size)::k},l)
 |.inRegion _ []::k=>some ({f with todo:=k},l)
 |.inRegion ops (i::_)::_=>match ops[i]? with
  |some o=>if aL o (yielded ops f.tmps)then pop P f l (execOp f.eval o)else some (f.finish undef,l)
  |none=>none
 |_=>none
def Kx(P:Program)(f:Frame)(l:List Frame):=
 match f.defers with
 |[]=>match l with
  |c::l'=>match f.kind with
   |.normal=>match P.funcs[f.fn]? with
    |some fn=>match ko P (results fn f.tmps)with
     |some v=>some (c.finish v,l')
     |none=>none
    |none=>none
   |.deferred=>match P.funcs[f.fn]?,c.mode with
    |some fn,.returning=>match ko P (results fn f.tmps)with
     |some v=>some (c,l')
     |none=>none
    |_,_=>none
   |_=>none
  |[]=>none
 |d::Y=>match d.target with
  |.fn fn c=>match ko P (invoke (.fn fn c) d.args)with
   |some (.enter g args)=>some (Frame.enter P g args .deferred,{f with defers:=Y}::l)
   |_=>none
  |_=>none
def oF(P:Program)(f:Frame)(l:List _):=
 match f.roundOf,f.kind with
 |some _,_|_,.early=>none
 |none,_=>match f.mode with
  |.run=>prun P f l
  |.returning=>Kx P f l
  |_=>none
def gF(P:Program):Nat->Frame->List Frame->Frame×List Frame
 |0,f,l=>(f,l)
 |n+1,f,l=>match oF P f l with
  |some (f1,l1)=>gF P n f1 l1
  |none=>(f,l)
section
variable{P:Program}{main:Bool}{f f1:Frame}{l l1:List Frame}{w:World}
theorem aaV{s:Sem _}(hk:f.kind≠.early)(h:pop P f l s=some (f1,l1))(H:∃ops is k,f.todo=.inRegion ops is::k):
  stepG.apply P true f l none s w=.go (G f1 l1) w #[]:=by
 obtain⟨ops,is,k,K⟩:=H;unfold pop at h;have Y:=by omega
 split at h
 ·rename_i v e;cases h;simp[stepG.apply,oo e,sy e,G,GStep.after,seen_none]
 ·rename_i e;cases h;simp[stepG.apply,oo e,sy e,G,GStep.after,seen_none]
 ·rename_i g args e;cases h;simp[stepG.apply,oo e,sy e,K,G,GStep.after,seen_none]
 ·rename_i d e;cases h;simp[stepG.apply,oo e,sy e,G,GStep.after,seen_none]
 ·cases h
theorem OI(hr:f.roundOf=none)(hk:f.kind≠.early)(Y:f.mode=.run)(h:prun P f l=some (f1,l1)):stepG P main (G f l) w=.go (G f1 l1) w #[]:=by
 have K:stepG P main (G f l) w=ah P main true f l none w:=by
  unfold stepG;simp only[G,Y]
 rw[K];clear K;obtain⟨fn,tmps,todo,defers,mode,kind,ro⟩:=f;simp only at hr hk Y;subst hr Y;unfold prun at h;unfold ah;split at h<;>rename_i H<;>first|(cases h;done)|(simp only at H;subst H;dsimp only)
 ·cases h;rfl
 ·cases h;rfl
 ·cases h;rfl
 ·cases h;rfl
 ·cases h;rfl
 ·split at h
  ·rename_i t e;cases h;simp only[e];rfl
  ·cases h
 ·cases h;rfl
 ·cases h;rfl
 ·cases h;rfl
 ·split at h
  ·rename_i k' e;cases h;simp only[e];rfl
  ·cases h
 ·cases h;rfl
 ·cases h;rfl
 ·cases h;rfl
 ·cases h;rfl
 ·split at h
  ·rename_i o e;split at h
   ·rename_i hw;simp only[e,aZ,hw,bC,if_true];unfold stepG.oper;simp only[Frame.oper?,e];exact aaV (f:=⟨fn,tmps,_,defers,.run,kind,none⟩) hk h ⟨_,_,_,rfl⟩
   ·rename_i hw;cases h;simp only[e,aZ,hw,bC];rfl
  ·cases h
theorem ZH(R:f.mode=.returning)(h:Kx P f l=some (f1,l1)):stepG P main (G f l) w=.go (G f1 l1) w #[]:=by
 have D:stepG P main (G f l) w=unwind P main f l none w:=by
  unfold stepG;simp only[G,R]
 rw[D];unfold Kx at h;unfold unwind;split at h
 ·rename_i hd;simp only[hd,R];split at h
  ·rename_i c l';split at h
   ·rename_i Y;split at h
    ·rename_i fn H;split at h
     ·rename_i v e;cases h;simp[H,oo e,sy e,doReturn,Y,G,GStep.after,seen_none]
     ·cases h
    ·cases h
   ·rename_i Y;split at h
    ·rename_i fn H K;split at h
     ·rename_i v e;cases h;simp[H,oo e,sy e,doReturn,Y,K,G,GStep.after,seen_none]
     ·cases h
    ·cases h
   ·cases h
  ·cases h
 ·rename_i d U hd;split at h
  ·rename_i fn c I;split at h
   ·rename_i g args e;cases h;obtain⟨B,A⟩:=d;subst I;simp[hd,callDeferred,oo e,sy e,G,GStep.after,seen_none]
   ·cases h
  ·cases h
theorem tu(h:oF P f l=some (f1,l1)):stepG P main (G f l) w=.go (G f1 l1) w #[]:=by
 unfold oF at h;split at h
 ·cases h
 ·cases h
 ·rename_i hr hk;split at h
  ·rename_i Y;exact OI hr hk Y h
  ·rename_i Y;exact ZH Y h
  ·cases h
theorem Tz.pure{U:Nat->Nat->Prop}{D:(Nat->Prop)->(Nat->Prop)->Goroutine->World->Prop}:∀n {f:Frame} {l:List _} {w:World},(∀w2,gK U S w w2->Tz P main U D S X (G (gF P n f l).1 (gF P n f l).2) w2)->Tz P main U D S X (G f l) w
 |0,f,l,w,h=>h w (.refl _ _ _)
 |n+1,f,l,w,h=>by
  unfold gF at h;split at h
  ·rename_i f1 l1 e;refine Tz.one rfl fun w2 hr=>⟨_,w2,#[],S,X,tu e,jc S X w2,Tz.pure n fun w3 Y=>h w3 (hr.trans Y)⟩
  ·exact h w (.refl _ _ _)
end
def opAt(f:Frame):=match f.roundOf,f.mode,f.kind with
 |some _,_,_|_,.returning,_|_,.panicking _,_|_,_,.early=>none
 |none,.run,_=>match f.todo with
  |.inRegion ops (i::_)::_=>match ops[i]? with
   |some o=>if aL o (yielded ops f.tmps)then some o else none
   |none=>none
  |_=>none
def ahead(f:Frame):Option (FuncId×Array Value):=match opAt f with
 |some o=>match o.op with
  |.call c=>match c.callee with
   |.value (.func g)=>some (g,c.args.map f.eval)
   |_=>none
  |_=>none
 |none=>none
def qK(f:Frame):Option (TypeId×Value):=match opAt f with
 |some o=>match o.op with
  |.load t x=>some (t,f.eval x)
  |_=>none
 |none=>none
def Sn(f:Frame):Option (TypeId×Value×Bool):=match opAt f with
 |some o=>match o.op with
  |.recv t x b=>some (t,f.eval x,b)
  |_=>none
 |none=>none
section
variable{P:Program}{main:Bool}{f:Frame}{cs:List Frame}{w w':World}{g:FuncId}{fn:Func}{I:Array Value}
theorem tv{o:Oper}(h:opAt f=some o):∃ops i rest k,f=f.at ⟨f.tmps,f.defers⟩ (.inRegion ops (i::rest)::k)/\ops[i]?=some o/\aL o (yielded ops f.tmps)=true/\f.kind≠.early:=by
 obtain⟨fn,tmps,todo,defers,mode,kind,ro⟩:=f;unfold opAt at h;split at h<;>first|(cases h)|skip
 rename_i hr Y hk;simp only at hr Y hk h;subst hr Y;split at h<;>first|(cases h)|skip
 rename_i ops i rest k;split at h
 ·rename_i o' K;split at h
  ·rename_i hw;cases h;exact⟨ops,i,rest,k,rfl,K,hw,fun e=>hk e⟩
  ·cases h
 ·cases h
theorem pj{o:Oper}(h:opAt f=some o){v:Value}(hr:(execOp f.eval o).run P w=.ok (.value v) w'):stepG P main (G f cs) w=.go (G (f.finish v) cs) w' (seen P f.fn ((execOp f.eval o).events P w #[])):=by
 obtain⟨ops,i,rest,k,e,H,hw,hk⟩:=tv h;have K:f.eval=Act.eval ⟨f.tmps,f.defers⟩:=by rw[e];exact Frame.eval_at' _ _ _
 have:=stepG_value (main:=main) (a:=⟨f.tmps,f.defers⟩) (k:=k) (cs:=cs) (rest:=rest) H hw hk (by exact hr);rw[<-e]at this;rw[this];have Y:f.finish v=f.at (ax ⟨f.tmps,f.defers⟩ o.dst v) (.inRegion ops rest::k):=by
  conv=>lhs;rw[e]
  rw[aJ,H];rfl
 rw[<-Y];unfold listed;rw[<-K]
theorem uF(h:ahead f=some (g,I)):∃o aqY Y,opAt f=some o/\o.op=.call {callee:=.value (.func g),args:=aqY,argTypes:=Y}/\aqY.map f.eval=I:=by
 unfold ahead at h;split at h
 ·rename_i o R;split at h
  ·rename_i c H;split at h
   ·rename_i K D;cases h;obtain⟨callee,args,Y⟩:=c;simp_all
   ·cases h
  ·cases h
 ·cases h
theorem acJ(h:ahead f=some (g,I))(J:P.funcs[g]?=some fn)(H:(fn.name== "runtime.NumGoroutine")=false)(C:fn.body.isNone=true)(L:bq fn=none){e:Array _->Sem _}(F:Extern.find fn=some e)
  {v:Value}{Y:Array _}(R:(e I).run P w=.ok v w')(A:(e I).events P w #[⟨.mark (.extern g),false,true⟩]=#[⟨.mark (.extern g),false,true⟩]++Y)(N:∀x∈Y,x.sync=true/\∀g,x.loc≠.mark (.extern g)):
  stepG P main (G f cs) w=.go (G (f.finish v) cs) w' Y:=by
 obtain⟨o,aqY,B,M,gC,rfl⟩:=uF h;obtain⟨ops,i,rest,k,D,U,hw,hk⟩:=tv M;have:=stepG_entry (main:=main) (a:=⟨f.tmps,f.defers⟩) (kk:=k) (cs:=cs) (rest:=rest) U hw hk gC J H C L F R A N;rw[<-D]at this;rw[this];have K:f.finish v=f.at (ax ⟨f.tmps,f.defers⟩ o.dst v) (.inRegion ops rest::k):=by
  conv=>lhs;rw[D]
  rw[aJ,U];rfl
 rw[<-K]
structure jk(P:Program)(g:FuncId)(e:Array Value->Sem Value):Prop where
 ex:∃fn,P.funcs[g]?=some fn/\(fn.name== "runtime.NumGoroutine")=false/\fn.body.isNone=true/\bq fn=none/\Extern.find fn=some e
theorem tm{e:Array _->Sem _}(X:jk P g e)(h:ahead f=some (g,I)){v:Value}{Y:Array _}(H:(e I).run P w=.ok v w')(R:(e I).events P w #[⟨.mark (.extern g),false,true⟩]=#[⟨.mark (.extern g),false,true⟩]++Y)(C:∀x∈Y,x.sync=true/\∀g,x.loc≠.mark (.extern g)):
  stepG P main (G f cs) w=.go (G (f.finish v) cs) w' Y:=by
 obtain⟨fn,K,D,A,U,B⟩:=X.ex;exact acJ h K D A U B H R C
theorem r_{m:Mark}(Y:∀g,m≠.extern g)(X:jk P g (fun _=>do mark m;pure aT))(h:ahead f=some (g,I)):stepG P main (G f cs) w=.go (G (f.finish (.tuple #[])) cs) w #[⟨.mark m,false,true⟩]:=
 tm X h (by simp[aT]) (by simp) (by simp_all)
theorem yn{mk:Addr->Mark}(Y:∀ad g,mk ad≠.extern g)(X:jk P g (Extern.Race.marked mk))(h:ahead f=some (g,#[.pointer (some ad)])):stepG P main (G f cs) w=.go (G (f.finish (.tuple #[])) cs) w #[⟨.mark (mk ad),false,true⟩]:=
 tm X h (by simp[Extern.Race.marked,bk,aT]) (by simp[Extern.Race.marked,bk]) (by simp_all)
theorem Ai{k:IntKind}(X:jk P g (bj (.int k))){v n:Int}(h:ahead f=some (g,#[.pointer (some ad),.int k v,.int k n]))(Y:w.cell? ad=some (.int k v))(H:w.frozen? ad=false):
  stepG P main (G f cs) w=.go (G (f.finish (.bool true)) cs) (w.setCell ad (.int k n)) #[⟨.cell ad,false,true⟩,⟨.cell ad,true,true⟩]:=
 tm X h (by exact run_cas_hit_entry Y H) (by rw[casT_eq,events_cas_hit_entry Y H];rfl) (sync_rw ad)
theorem Ah{k:IntKind}(X:jk P g (bj (.int k))){v old n:Int}(h:ahead f=some (g,#[.pointer (some ad),.int k old,.int k n]))(H:w.cell? ad=some (.int k v))(R:w.frozen? ad=false)(Y:¬v=old):
  stepG P main (G f cs) w=.go (G (f.finish (.bool false)) cs) w #[⟨.cell ad,false,true⟩]:=
 tm X h (by exact run_cas_miss_entry H R Y) (by rw[casT_eq,events_cas_miss_entry H R Y];rfl) (sync_r ad)
theorem C4{k:IntKind}(X:jk P g (Extern.Atomic.update (aX .add) k true)){v d:Int}(h:ahead f=some (g,#[.pointer (some ad),.int k d]))(Y:w.cell? ad=some (.int k v))(H:w.frozen? ad=false):
  stepG P main (G f cs) w=.go (G (f.finish (.int k (k.wrap (v+d)))) cs) (w.setCell ad (.int k (k.wrap (v+d)))) #[⟨.cell ad,false,true⟩,⟨.cell ad,true,true⟩]:=
 tm X h (run_add_entry Y H) (by rw[events_add_entry Y H];rfl) (sync_rw ad)
theorem M7(X:jk P g aI){n:Int}(h:ahead f=some (g,I))(R:I[0]?=some (.pointer (some ad)))(H:w.cell? ad=some (.int .u32 n))(Y:n≠0)(A:w.frozen? ad=false):
  stepG P main (G f cs) w=.go (G (f.finish (.tuple #[])) cs) (w.setCell ad (.int .u32 (n-1))) (semEvents ad):=
 tm X h (by simp[aI,aH,R,H,Y,A,bp,run_store P w ad (.int .u32 (n-1)) _ rfl])
  (by simp[aI,aH,R,H,Y,A,semEvents,events_store P w _ ad (.int .u32 (n-1)) .atomic rfl,run_store P w ad (.int .u32 _) .atomic rfl]) (semEvents_sync ad)
theorem Gt(X:jk P g aU){n:Int}(h:ahead f=some (g,I))(H:I[0]?=some (.pointer (some ad)))(Y:w.cell? ad=some (.int .u32 n))(R:w.frozen? ad=false):
  stepG P main (G f cs) w=.go (G (f.finish (.tuple #[])) cs) (w.setCell ad (.int .u32 (IntKind.u32.wrap (n+1)))) (semEvents ad):=
 tm X h (by simp[aU,aH,H,Y,R,bp,aX,run_store P w ad (.int .u32 _) _ rfl])
  (by simp[aU,aH,H,Y,R,semEvents,aX,events_store P w _ ad (.int .u32 _) .atomic rfl,run_store P w ad (.int .u32 _) .atomic rfl]) (semEvents_sync ad)
theorem GV{t:TypeId}(h:qK f=some (t,x)):∃o y,opAt f=some o/\o.op=.load t y/\f.eval y=x:=by
 unfold qK at h;split at h
 ·split at h
  ·simp_all
  ·cases h
 ·cases h
theorem Qn{t:TypeId}{v:Value}{o:Oper}(gC:o.op=.load t y)(R:f.eval y=.pointer (some ad))(H:ko P (isAgg t)=some false)(Y:w.cell? ad=some v):
  (execOp f.eval o).run P w=.ok (.value v) w/\(execOp f.eval o).events P w #[]=#[⟨.cell ad,false,false⟩]:=by
 constructor
 ·unfold execOp;simp[gC,R];simp[go_sem,oo H,Y]
 ·unfold execOp;simp[gC,R];simp[go_sem,oo H,Y]
theorem Cx{t:TypeId}{v:Value}(h:qK f=some (t,.pointer (some ad)))(A:ko P (isAgg t)=some false)(Y:w.cell? ad=some v)(R:(P.funcs[f.fn]?).any (·.norace)=true):
  stepG P main (G f cs) w=.go (G (f.finish v) cs) w #[]:=by
 obtain⟨o,y,H,gC,D⟩:=GV h;obtain⟨hr,K⟩:=Qn gC D A Y;rw[pj H hr,K,seen_def,R];simp[seenStep]
theorem sa{t:TypeId}{v:Value}(h:qK f=some (t,.pointer (some ad)))(A:ko P (isAgg t)=some false)(Y:w.cell? ad=some v)(R:(P.funcs[f.fn]?).any (·.norace)=false):
  stepG P main (G f cs) w=.go (G (f.finish v) cs) w #[⟨.cell ad,false,false⟩]:=by
 obtain⟨o,y,H,gC,D⟩:=GV h;obtain⟨hr,K⟩:=Qn gC D A Y;rw[pj H hr,K,seen_def,R];simp[seenStep]
theorem conv{o:Oper}(R:opAt f=some o){v:Value}{es:Array _}(h:∀ops i rest k,ops[i]?=some o->aL o (yielded ops (Act.tmps ⟨f.tmps,f.defers⟩))=true->f.kind≠.early->
  stepG P main (G (f.at ⟨f.tmps,f.defers⟩ (.inRegion ops (i::rest)::k)) cs) w=.go (G (f.at (ax ⟨f.tmps,f.defers⟩ o.dst v) (.inRegion ops rest::k)) cs) w' es):stepG P main (G f cs) w=.go (G (f.finish v) cs) w' es:=by
 obtain⟨ops,i,rest,k,K,H,hw,hk⟩:=tv R;have:=h ops i rest k H hw hk;rw[<-K]at this;rw[this];have Y:f.finish v=f.at (ax ⟨f.tmps,f.defers⟩ o.dst v) (.inRegion ops rest::k):=by
  conv=>lhs;rw[K]
  rw[aJ,H];rfl
 rw[<-Y]
theorem evalEq(f:Frame)(Y:f.mode=f.mode):f.eval=Act.eval ⟨f.tmps,f.defers⟩:=by
 funext x;cases x<;>rfl
theorem Pm(h:ahead f=some (g,I))(X:jk P g Extern.OsHooks.nano)(F:(P.funcs[g]?).any (·.norace)=true):stepG P main (G f cs) w=.go (G (f.finish (.int .i64 ((w.os.mono+w.tick:Nat)))) cs) w.later #[]:=by
 obtain⟨o,aqY,H,C,gC,rfl⟩:=uF h;obtain⟨fn,K,D,R,A,U⟩:=X.ex;have Y:=by simpa[K]using F
 exact conv C fun ops i rest k B hw hk=>stepG_nanotime B hw hk gC K D R A U Y
theorem XW{k:IntKind}{n:Int}(h:ahead f=some (g,#[.int k n]))(X:jk P g bm)(A:4<=n):stepG P main (G f cs) w=.go (G (f.finish (.bool false)) cs) w #[]:=by
 obtain⟨o,aqY,H,C,gC,K⟩:=uF h;obtain⟨fn,D,R,I,Y,U⟩:=X.ex;exact conv C fun ops i rest k B hw hk=>stepG_canSpin_no B hw hk gC D R I Y U K A
theorem Xz{k:IntKind}{n:Int}(h:ahead f=some (g,#[.int k n]))(X:jk P g bm)(A:n<4):stepG P main (G f cs) w=.go (G (f.finish (.bool w.spins)) cs) w.asked #[]:=by
 obtain⟨o,aqY,H,C,gC,K⟩:=uF h;obtain⟨fn,D,R,I,Y,U⟩:=X.ex;exact conv C fun ops i rest k B hw hk=>stepG_canSpin_ask B hw hk gC D R I Y U K A
theorem Nl(X:jk P g aI)(h:ahead f=some (g,I))(J:I[0]?=some (.pointer (some ad)))(C:w.cell? ad=some (.int .u32 0)):stepG P main (G f cs) w=.go {G f cs with status:=.blocked} w #[]:=by
 obtain⟨o,aqY,Y,F,gC,rfl⟩:=uF h;obtain⟨fn,H,D,R,A,U⟩:=X.ex;obtain⟨ops,i,rest,k,K,B,hw,hk⟩:=tv F;have:=stepG_semacquire_wait (main:=main) (b:=f) (a:=⟨f.tmps,f.defers⟩) (kk:=k) (cs:=cs) (rest:=rest) B hw gC H D R A U (by exact J) C;rw[<-K]at this;omega
theorem HA{e:Array _->Sem _}(X:jk P g e)(h:ahead f=some (g,I)):mayWake P (G f cs)=true:=by
 obtain⟨o,aqY,H,B,gC,rfl⟩:=uF h;obtain⟨fn,D,F,K,J,L⟩:=X.ex;obtain⟨ops,i,rest,k,Y,A,hw,hk⟩:=tv B;have U:f.mode=.run:=by rw[Y];rfl
 have C:f.todo=.inRegion ops (i::rest)::k:=by rw[Y];rfl
 unfold mayWake;simp[G,U,C,A,aZ,gC];simp[Frame.eval,D];cases R:fn.body with
 |none=>rfl
 |some c=>rw[R]at K;cases K
theorem Pn{v:Value}(X:jk P g (fun _=>pure v))(h:ahead f=some (g,I)):stepG P main (G f cs) w=.go (G (f.finish v) cs) w #[]:=tm X h (by simp) (by simp) (by simp)
end
def qL(f:Frame):Option (TypeId×TypeId×Value):=match opAt f with
 |some o=>match o.op with
  |.convert s d x=>some (s,d,f.eval x)
  |_=>none
 |none=>none
section
variable{P:Program}{main:Bool}{f:Frame}{cs:List Frame}{w:World}
theorem Yv{s d:TypeId}(h:qL f=some (s,d,x)):∃o y,opAt f=some o/\o.op=.convert s d y/\f.eval y=x:=by
 unfold qL at h;split at h
 ·split at h
  ·simp_all
  ·cases h
 ·cases h
theorem uI{s d t:TypeId}{a:Addr}{v:Value}(h:qL f=some (s,d,.pointer (some a)))(A:P.underlying s=some (.pointer t))(hd:P.underlying d=some .unsafePointer)(Y:(P.info? t).map (fun i=>decide (i.size=0))=some false)(R:w.cell? a=some v):
  stepG P main (G f cs) w=.go (G (f.finish (.pointer (some a))) cs) w #[]:=by
 obtain⟨o,y,D,gC,U⟩:=Yv h;have hr:=run_convert_to_unsafe A hd Y R;have I:=fun es=>events_convert_to_unsafe A hd Y R es;have H:(execOp f.eval o).run P w=.ok (.value (.pointer (some a))) w:=by
  unfold execOp;simp_all
 have K:(execOp f.eval o).events P w #[]=#[]:=by
  unfold execOp;simp_all
 rw[pj D H,K,seen_none]
end
def sX(P:Program)(f:Frame):Option Next:=match opAt f with
 |some o=>ko P (execOp f.eval o)
 |none=>none
section
variable{P:Program}{main:Bool}{f:Frame}{l:List Frame}{w:World}
theorem Qo{x:Next}(h:sX P f=some x):∃o,opAt f=some o/\ko P (execOp f.eval o)=some x:=by
 unfold sX at h;split at h
 ·simp_all
 ·cases h
theorem Po{cases:Array _}{b:Bool}{sh:CommShape}(h:sX P f=some (.comm cases b sh)):stepG P main (G f l) w=.comm (G f l) cases b sh w #[]:=by
 obtain⟨o,H,Y⟩:=Qo h;obtain⟨ops,i,rest,k,e,K,hw,hk⟩:=tv H;rw[evalEq f rfl]at Y;have:=stepG_comm (main:=main) (a:=⟨f.tmps,f.defers⟩) (k:=k) (cs:=l) (rest:=rest) K hw hk (oo Y w);rw[<-e]at this;rw[this];unfold listed;rw[sy Y,seen_none]
theorem ZI{g:FuncId}{c H:Array _}(h:sX P f=some (.spawn {target:=.fn (.func g) c,args:=H})):stepG P main (G f l) w=.spawn (G (f.finish undef) l) (G {(default:Frame)with fn:=P.funcs.size,defers:=[{target:=.fn (.func g) c,args:=H}],mode:=.panicking [goexitEntry]} []) w #[]:=by
 obtain⟨o,R,K⟩:=Qo h;obtain⟨ops,i,rest,k,e,D,hw,hk⟩:=tv R;rw[evalEq f rfl]at K;have Y:f.finish undef=f.at (ax ⟨f.tmps,f.defers⟩ o.dst undef) (.inRegion ops rest::k):=by
  conv=>lhs;rw[e]
  rw[aJ,D];rfl
 have:=stepG_spawn (main:=main) (a:=⟨f.tmps,f.defers⟩) (k:=k) (cs:=l) (rest:=rest) D hw hk (oo K w) rfl;rw[<-e]at this;rw[this,Y];unfold listed;rw[sy K,seen_none];rfl
end
end Ph
namespace Ph
open Conc
inductive uk where
 |at
 |ro
 |pr
 |own (g:Nat)
 |no
def Started(b j g:Nat):=g=0\/(b<=g/\g<b+j)
def EH(b j:Nat)(mu:Addr)(t:Trace)(i:Nat):Option Nat->Prop
 |some g=>Knows t g i
 |none=>(∀g,Started b j g->Knows t g i)\/∃p,t.act? p=some (.mark (.releaseMerge mu))/\t.heard p/\Before t i p
structure PT(b j:Nat)(mu wg:Addr)(i_:Loc->Prop)(cls:Loc->uk)(t:Trace)(tok:Option Nat)(rel:Nat->Option Nat):Prop where
 clean:∀said,¬Race said t
 uo:∀i x,touchAt t i=some x->cls x.loc=.at->x.kind=.atomic\/(x.kind=.said/\Knows t 0 i)\/∀g,Started b j g->Knows t g i
 ro:∀i x,touchAt t i=some x->cls x.loc=.ro->x.write=true->∀g,Started b j g->Knows t g i
 own:∀i x g,touchAt t i=some x->cls x.loc=.own g->Knows t g i
 pr:∀i x,touchAt t i=some x->cls x.loc=.pr->EH b j mu t i tok
 jn:∀i x,touchAt t i=some x->x.loc.isMemory=true->Knows t 0 i\/(i_ x.loc/\x.kind=.atomic/\¬t.counts i)\/∃k z,t[i]?=some z/\z.g=k/\b<=k/\k<b+j/\∀p,rel k=some p->Before t i p
 t_:∀k p,rel k=some p->t.act? p=some (.mark (.releaseMerge wg))/\t.heard p
 norel:NoRelease mu t/\NoRelease wg t
 gs:True
 mem:∀l,l.isMemory=false->cls l=.no
 sh:∀l,cls l=.at->i_ l
 qW:0<b
def OkOp(mu wg:Addr)(cls:Loc->uk)(tok:Option Nat)(g:Nat)(op:MemOp):=
 op.g=g/\op.act≠.mark (.release mu)/\op.act≠.mark (.release wg)/\∀x,op.act.touch?=some x->
  x.loc.isMemory=false\/(cls x.loc=.at/\x.kind=.atomic)\/(cls x.loc=.at/\x.kind=.said/\g=0)\/(cls x.loc=.ro/\x.write=false)\/(cls x.loc=.pr/\tok=some g)\/cls x.loc=.own g
section
variable{b j:Nat}{mu wg:Addr}{i_:Loc->Prop}{cls:Loc->uk}{t u:Trace}{tok:Option Nat}{rel:Nat->Option Nat}{g:Nat}
theorem EH.app(h:EH b j mu t i tok)(u:Trace):EH b j mu (t++u) i tok:=by
 cases tok with
 |some g=>exact Knows.app u h
 |none=>
  rcases h with h|⟨p,Y,H,D⟩
  ·exact .inl fun g R=>(h g R).app u
  ·have K:=lt_of_act? Y;exact .inr ⟨p,by rw[act?_old K];exact Y,(heard_old K).2 H,D.app u⟩
theorem rD{x:Touch}(h:touchAt (t++u) i=some x):(i<t.size/\touchAt t i=some x)\/(t.size<=i/\∃op,(t++u)[i]?=some op/\op∈u/\op.act.touch?=some x):=by
 obtain⟨op,H,R⟩:=touch_of h;rcases getElem?_append_cases H with⟨K,Y⟩|⟨K,D⟩
 ·exact .inl ⟨K,by rw[touchAt_of Y];exact R⟩
 ·simp_all
theorem Started.lt(h:Started b j g)(Y:0<b):g<b+j:=by
 rcases h with rfl|h
 ·omega
 ·omega
theorem Ij(h:∀k p,rel k=some p->t.act? p=some (.mark (.releaseMerge wg))/\t.heard p)(u:Trace):∀k p,rel k=some p->(t++u).act? p=some (.mark (.releaseMerge wg))/\(t++u).heard p:=by
 intro k p hk;obtain⟨Y,H⟩:=h k p hk;have K:=lt_of_act? Y;exact⟨by rw[act?_old K];exact Y,(heard_old K).2 H⟩
theorem Jj{x:Touch}(R:i<t.size)(h:Knows t 0 i\/(i_ x.loc/\x.kind=.atomic/\¬t.counts i)\/∃k z,t[i]?=some z/\z.g=k/\b<=k/\k<b+j/\∀p,rel k=some p->Before t i p)(u:Trace):
  Knows (t++u) 0 i\/(i_ x.loc/\x.kind=.atomic/\¬(t++u).counts i)\/∃k z,(t++u)[i]?=some z/\z.g=k/\b<=k/\k<b+j/\∀p,rel k=some p->Before (t++u) i p:=by
 rcases h with h|⟨Y,K,H⟩|⟨k,z,Y,K,H,D,I⟩
 ·exact .inl (h.app u)
 ·exact .inr (.inl ⟨Y,K,fun A=>H ((counts_old R).1 A)⟩)
 ·exact .inr (.inr ⟨k,z,by rw[getElem?_append_old R];exact Y,K,H,D,fun p U=>(I p U).app u⟩)
theorem PT.app(h:PT b j mu wg i_ cls t tok rel)(N:Started b j g)(C:∀op∈u,OkOp mu wg cls tok g op)
  (hr:g≠0->∀p,rel g=some p->∀i x,t.size<=i->touchAt (t++u) i=some x->x.loc.isMemory=true->i_ x.loc/\x.kind=.atomic/\¬(t++u).counts i):PT b j mu wg i_ cls (t++u) tok rel:=by
 have new:∀{i:Nat} {x:Touch} {op:MemOp},(t++u)[i]?=some op->op∈u->op.act.touch?=some x->Knows (t++u) g i:=by
  intro i x op B R I;have:=knows_own B
  rwa [(C op R).1]at this
 refine⟨fun said=>noRace_append (h.clean said) (fun op gC=>(C op gC).1) fun i a M op gC c K O=>?_,fun i x F K=>?_,fun i x F K hw=>?_,fun i x k F K=>?_,fun i x F K=>?_,fun i x F A=>?_,Ij h.t_ u,⟨h.norel.1.app fun op gC=>(C op gC).2.1,h.norel.2.app fun op gC=>(C op gC).2.2.1⟩,
  trivial,h.mem,h.sh,h.qW⟩
 ·obtain⟨L,Q,Z,S⟩:=O;rcases(C op gC).2.2.2 c K with A|⟨Y,hk⟩|⟨Y,hk,J⟩|⟨Y,hk⟩|⟨Y,hk⟩|Y
  ·rw[L,A]at Q;cases Q
  ·rcases h.uo i a M (by rw[L];exact Y)with H|⟨H,_⟩|H
   ·simp_all
   ·simp_all
   ·exact H g N
  ·rcases h.uo i a M (by rw[L];exact Y)with H|⟨_,H⟩|H
   ·rw[H,hk]at S;rcases S with x|x|⟨_,x,_⟩<;>cases x
   ·rw[J];exact H
   ·exact H g N
  ·have hw:a.write=true:=by simp_all
   exact h.ro i a M (by rw[L];exact Y) hw g N
  ·have:=h.pr i a M (by rw[L];exact Y);rw[hk]at this;exact this
  ·exact h.own i a g M (by rw[L];exact Y)
 ·rcases rD F with⟨U,D⟩|⟨U,op,B,R,I⟩
  ·exact(h.uo i x D K).imp id (Or.imp (fun y=>⟨y.1,y.2.app u⟩) fun y g P=>(y g P).app u)
  ·rcases(C op R).2.2.2 x I with A|⟨Y,hk⟩|⟨Y,hk,J⟩|⟨Y,hk⟩|⟨Y,hk⟩|Y
   ·rw[h.mem _ A]at K;cases K
   ·exact .inl hk
   ·simp_all
   ·rw[K]at Y;cases Y
   ·rw[K]at Y;cases Y
   ·rw[K]at Y;cases Y
 ·rcases rD F with⟨U,D⟩|⟨U,op,B,R,I⟩
  ·exact fun g P=>(h.ro i x D K hw g P).app u
  ·rcases(C op R).2.2.2 x I with A|⟨Y,hk⟩|⟨Y,hk,J⟩|⟨Y,hk⟩|⟨Y,hk⟩|Y
   ·rw[h.mem _ A]at K;cases K
   ·rw[K]at Y;cases Y
   ·rw[K]at Y;cases Y
   ·rw[hk]at hw;cases hw
   ·rw[K]at Y;cases Y
   ·rw[K]at Y;cases Y
 ·rcases rD F with⟨U,D⟩|⟨U,op,B,R,I⟩
  ·exact(h.own i x k D K).app u
  ·rcases(C op R).2.2.2 x I with A|⟨Y,hk⟩|⟨Y,hk,J⟩|⟨Y,hk⟩|⟨Y,hk⟩|Y
   ·rw[h.mem _ A]at K;cases K
   ·rw[K]at Y;cases Y
   ·rw[K]at Y;cases Y
   ·rw[K]at Y;cases Y
   ·rw[K]at Y;cases Y
   ·rw[K]at Y;cases Y;exact new B R I
 ·rcases rD F with⟨U,D⟩|⟨U,op,B,R,I⟩
  ·exact(h.pr i x D K).app u
  ·rcases(C op R).2.2.2 x I with A|⟨Y,hk⟩|⟨Y,hk,J⟩|⟨Y,hk⟩|⟨Y,hk⟩|Y
   ·rw[h.mem _ A]at K;cases K
   ·rw[K]at Y;cases Y
   ·rw[K]at Y;cases Y
   ·rw[K]at Y;cases Y
   ·rw[hk];exact new B R I
   ·rw[K]at Y;cases Y
 ·rcases rD F with⟨U,D⟩|⟨U,op,B,R,I⟩
  ·exact Jj U (h.jn i x D A) u
  ·rcases N with J|⟨V,X⟩
   ·have:=new B R I;rw[J]at this;exact .inl this
   ·cases hrel:rel g with
    |some p=>exact .inr (.inl (hr (by have:=h.qW;omega) p hrel i x U F A))
    |none=>exact .inr (.inr ⟨g,op,B,(C op R).1,V,X,fun p T=>by rw[hrel]at T;cases T⟩)
theorem NG(h:¬Race said t)(C:∀op∈u,op.act.touch?=none):¬Race said (t++u):=by
 rintro⟨i,k,K,⟨x,y,Y,H,R⟩,n1,n2⟩;have old:∀{i:Nat} {x:Touch},((t++u).act? i).bind (·.touch?)=some x->i<t.size:=by
  intro i x Y;rcases rD (Y)with⟨D,_⟩|⟨_,op,_,I,A⟩
  ·omega
  ·simp_all
 have D:=old Y;have hk:=old H;rw[act?_old D]at Y;rw[act?_old hk]at H;exact h ⟨i,k,K,⟨x,y,Y,H,R⟩,fun e=>n1 (hb_app u e),fun e=>n2 (hb_app u e)⟩
theorem PT.still(h:PT b j mu wg i_ cls t tok rel)(R:∀op∈u,op.act.touch?=none/\op.act≠.mark (.release mu)/\op.act≠.mark (.release wg)/\op.g<b+j):PT b j mu wg i_ cls (t++u) tok rel:=by
 have old:∀{i:Nat} {x:Touch},touchAt (t++u) i=some x->i<t.size/\touchAt t i=some x:=by
  intro i x Y;rcases rD Y with U|⟨_,op,_,I,A⟩
  ·omega
  ·simp_all
 refine⟨fun said=>NG (h.clean _) fun op gC=>(R op gC).1,fun i x Y K=>?_,fun i x Y K hw g H=>(h.ro i x (old Y).2 K hw g H).app u,fun i x k Y K=>(h.own i x k (old Y).2 K).app u,fun i x Y K=>(h.pr i x (old Y).2 K).app u,fun i x Y D=>Jj (old Y).1 (h.jn i x (old Y).2 D) u,Ij h.t_ u,⟨h.norel.1.app fun op gC=>(R op gC).2.1,h.norel.2.app fun op gC=>(R op gC).2.2.1⟩,
  trivial,h.mem,h.sh,h.qW⟩
 exact(h.uo i x (old Y).2 K).imp id (Or.imp (fun y=>⟨y.1,y.2.app u⟩) fun y g H=>(y g H).app u)
theorem PT.fresh(h:PT b j mu wg i_ cls t tok rel){Y:Loc->uk}(H:∀i x,touchAt t i=some x->Y x.loc=cls x.loc)(A:∀l,l.isMemory=false->Y l=.no)(R:∀l,Y l=.at->i_ l):PT b j mu wg i_ Y t tok rel:=
 ⟨h.clean,fun i x K e=>h.uo i x K (by rw[<-H i x K];exact e),fun i x K e=>h.ro i x K (by rw[<-H i x K];exact e),fun i x g K e=>h.own i x g K (by rw[<-H i x K];exact e),fun i x K e=>h.pr i x K (by rw[<-H i x K];exact e),h.jn,h.t_,h.norel,h.gs,A,R,h.qW⟩
theorem g?_of{t:Trace}{op:MemOp}(h:t[i]?=some op):t.g? i=some op.g:=by simp[Trace.g?,h]
theorem last_at(t:Trace)(y:MemOp):(t++#[y])[t.size]?=some y:=by simp
theorem yq{y:MemOp}(hd:Deaf t y.g=0):(t++#[y]).heard t.size:=by
 refine⟨y.g,g?_of (last_at t y),?_⟩;rw[deaf_old (ae _)];exact hd
theorem mj{y:MemOp}{Q:MemOp->Prop}(h:Q y):∀op∈(#[y]),Q op:=by simp_all
theorem PT.lock(h:PT b j mu wg i_ cls t none rel)(H:Started b j g){fn:FuncId}(hd:Deaf t g=0):PT b j mu wg i_ cls (t++#[{g,fn,pos,act:=.mark (.acquire mu)}]) (some g) rel:=by
 have h':=h.still (u:=#[{g,fn,pos,act:=.mark (.acquire mu)}]) (mj ⟨rfl,by simp,by simp,H.lt h.qW⟩);refine⟨h'.clean,h'.uo,h'.ro,h'.own,fun i x C I=>?_,h'.jn,h'.t_,h'.norel,h'.gs,h'.mem,h'.sh,h'.qW⟩;rcases h'.pr i x C I with hk|⟨p,Y,D,R⟩
 ·exact hk g H
 ·have B:p<t.size:=by
   rcases aV p _ with U|A
   ·omega
   ·have e:p=t.size:=by have:=lt_of_act? Y;simp at this;omega
    rw[e,act?_of (last_at t _)]at Y;cases Y
  have K:=last_at t {g,fn,pos,act:=.mark (.acquire mu)};refine⟨t.size,_,K,rfl,.inr (R.hb (.single (.inr ⟨.marked B (.inr Y) (by rw[act?_of K]) (fun k _ _=>h'.norel.1 k),D,yq hd⟩)))⟩
theorem PT.unlock(h:PT b j mu wg i_ cls t (some g) rel)(A:Started b j g){fn:FuncId}(hd:Deaf t g=0):PT b j mu wg i_ cls (t++#[{g,fn,pos,act:=.mark (.releaseMerge mu)}]) none rel:=by
 have h':=h.still (u:=#[{g,fn,pos,act:=.mark (.releaseMerge mu)}]) (mj ⟨rfl,by simp,by simp,A.lt h.qW⟩);refine⟨h'.clean,h'.uo,h'.ro,h'.own,fun i x I R=>?_,h'.jn,h'.t_,h'.norel,h'.gs,h'.mem,h'.sh,h'.qW⟩;have H:=last_at t {g,fn,pos,act:=.mark (.releaseMerge mu)};refine .inr ⟨t.size,by rw[act?_of H],yq hd,?_⟩;rcases rD I with⟨U,Y⟩|⟨_,op,_,K,D⟩
 ·exact .inr ((h.pr i x Y R).hb_new (ae _) H rfl)
 ·simp at K;subst K;cases D
theorem PT.release(h:PT b j mu wg i_ cls t tok rel){k:Nat}(hk:b<=k/\k<b+j){fn:FuncId}(hd:Deaf t k=0){Y:Nat->Option Nat}(A:Y k=some t.size)(J:∀i,i≠k->Y i=rel i):
  PT b j mu wg i_ cls (t++#[{g:=k,fn,pos,act:=.mark (.releaseMerge wg)}]) tok Y:=by
 have h':=h.still (u:=#[{g:=k,fn,pos,act:=.mark (.releaseMerge wg)}]) (mj ⟨rfl,by simp,by simp,hk.2⟩);have I:=last_at t {g:=k,fn,pos,act:=.mark (.releaseMerge wg)};refine⟨h'.clean,h'.uo,h'.ro,h'.own,h'.pr,fun i x U M=>?_,fun i p H=>?_,h'.norel,h'.gs,h'.mem,h'.sh,h'.qW⟩
 ·rcases h'.jn i x U M with y|y|⟨k',z,D,R,C,F,O⟩
  ·exact .inl y
  ·simp_all
  ·refine .inr (.inr ⟨k',z,D,R,C,F,fun p H=>?_⟩);by_cases K:k'=k
   ·subst K;rw[A]at H;cases H;rcases rD U with⟨L,_⟩|⟨_,op,_,B,N⟩
    ·exact .inr (hb_po L D I R)
    ·simp at B;subst B;cases N
   ·simp_all
 ·by_cases K:i=k
  ·subst K;rw[A]at H;cases H;exact⟨by rw[act?_of I],yq hd⟩
  ·rw[J i K]at H;exact h'.t_ i p H
theorem PT.fork(h:PT b j mu wg i_ cls t tok rel){fn iT:FuncId}{pos':String}(hd:Deaf t 0=0)(O:Deaf t (b+j)=0):
  PT b (j+1) mu wg i_ cls (t++#[{g:=0,fn,pos,act:=.go (b+j)}]++#[{g:=b+j,fn:=iT,pos:=pos',act:=.start}]) tok rel:=by
 have W:=h.qW;have D:=h.still (u:=#[{g:=0,fn,pos,act:=.go (b+j)}]) (mj ⟨rfl,by simp,by simp,by show 0<b+j;omega⟩);have T:=last_at t {g:=0,fn,pos,act:=.go (b+j)};have s1:(t++#[({g:=0,fn,pos,act:=.go (b+j)}:MemOp)]).size=t.size+1:=by simp
 generalize N:t++#[({g:=0,fn,pos,act:=.go (b+j)}:MemOp)]=U at *;have L:=last_at U {g:=b+j,fn:=iT,pos:=pos',act:=.start};have dd:Deaf U (b+j)=0:=by
  rw[<-N,Deaf_other t (g':=0) (by omega) _ (mj rfl)];exact O
 have J:(U++#[{g:=b+j,fn:=iT,pos:=pos',act:=.start}])[t.size]?=some {g:=0,fn,pos,act:=.go (b+j)}:=by rw[getElem?_append_old (by omega)];exact T
 have B:HappensBefore (U++#[{g:=b+j,fn:=iT,pos:=pos',act:=.start}]) t.size U.size:=by
  refine .single (.inr ⟨.spawn (child:=b+j) (by rw[act?_of J]) (by rw[act?_of L]) (g?_of L),?_,yq dd⟩);rw[heard_old (by omega),<-N];exact yq hd
 have E6:∀i,i<t.size->Knows U 0 i->Knows (U++#[{g:=b+j,fn:=iT,pos:=pos',act:=.start}]) (b+j) i:=by
  intro i R hk;obtain⟨q,z,S,E,I⟩:=hk;rcases aV q t.size with P|X
  ·refine⟨U.size,_,L,rfl,.inr (.trans ((I.app _).hb (hb_po P (by rw[getElem?_append_old (by omega)];exact S) J E)) B)⟩
  ·have:q=t.size:=by have:=lt_size_of_getElem? S;omega
   subst this;rcases I with e|I
   ·omega
   ·exact⟨U.size,_,L,rfl,.inr (.trans (hb_app _ I) B)⟩
 have old:∀{i:Nat} {x:Touch},touchAt U i=some x->i<t.size:=by
  intro i x H;rw[<-N]at H;rcases rD H with⟨R,_⟩|⟨_,op,_,A,F⟩
  ·exact R
  ·simp at A;subst A;cases F
 have K:∀{i:Nat} {x:Touch},touchAt (U++#[{g:=b+j,fn:=iT,pos:=pos',act:=.start}]) i=some x->i<U.size/\touchAt U i=some x:=by
  intro i x H;rcases rD H with R|⟨_,op,_,A,F⟩
  ·exact R
  ·simp at A;subst A;cases F
 have all:∀{i:Nat},i<t.size->(∀g,Started b j g->Knows U g i)->∀g,Started b (j+1) g->Knows (U++#[{g:=b+j,fn:=iT,pos:=pos',act:=.start}]) g i:=by
  intro i R hk g V;by_cases e:g=b+j
  ·subst e;exact E6 i R (hk 0 (.inl rfl))
  ·exact(hk g (V.imp id fun y=>⟨y.1,by omega⟩)).app _
 refine⟨fun said=>NG (D.clean said) (mj rfl),fun i x H C=>?_,fun i x H C hw=>?_,fun i x k H C=>(D.own i x k (K H).2 C).app _,fun i x H C=>?_,fun i x H Z=>?_,Ij D.t_ _,⟨D.norel.1.app (mj (by simp)),D.norel.2.app (mj (by simp))⟩,trivial,D.mem,D.sh,D.qW⟩
 ·obtain⟨R,Y⟩:=K H;exact(D.uo i x Y C).imp id (Or.imp (fun y=>⟨y.1,y.2.app _⟩) (all (old Y)))
 ·obtain⟨R,Y⟩:=K H;exact all (old Y) (D.ro i x Y C hw)
 ·obtain⟨R,Y⟩:=K H;have:=D.pr i x Y C;cases tok with
  |some g=>exact Knows.app _ this
  |none=>
   rcases this with y|⟨p,M,A,F⟩
   ·exact .inl (all (old Y) y)
   ·have Q:=lt_of_act? M;exact .inr ⟨p,by rw[act?_old Q];exact M,(heard_old Q).2 A,F.app _⟩
 ·obtain⟨R,Y⟩:=K H;rcases Jj R (D.jn i x Y Z) _ with y|y|⟨k,z,M,A,F,c,G⟩
  ·exact .inl y
  ·exact .inr (.inl y)
  ·exact .inr (.inr ⟨k,z,M,A,F,by omega,G⟩)
theorem PT.join(h:PT b j mu wg i_ cls t tok rel)(H:∀k,b<=k->k<b+j->∃p,rel k=some p){fn:FuncId}(hd:Deaf t 0=0)(Y:∀op∈t++#[{g:=0,fn,pos,act:=.mark (.acquire wg)}],op.act.low B):
  Past i_ B (t++#[{g:=0,fn,pos,act:=.mark (.acquire wg)}]):=by
 have V:=h.qW;have h':=h.still (u:=#[{g:=0,fn,pos,act:=.mark (.acquire wg)}]) (mj ⟨rfl,by simp,by simp,by show 0<b+j;omega⟩);have C:=last_at t {g:=0,fn,pos,act:=.mark (.acquire wg)};have known:∀i x,touchAt (t++#[{g:=0,fn,pos,act:=.mark (.acquire wg)}]) i=some x->x.loc.isMemory=true->Knows (t++#[{g:=0,fn,pos,act:=.mark (.acquire wg)}]) 0 i\/(i_ x.loc/\x.kind=.atomic/\¬(t++#[({g:=0,fn,pos,act:=.mark (.acquire wg)}:MemOp)]).counts i):=by
  intro i x D K;rcases h'.jn i x D K with y|y|⟨k,z,S,T,J,L,M⟩
  ·simp_all
  ·simp_all
  ·obtain⟨p,A⟩:=H k J L;obtain⟨I,F⟩:=h.t_ k p A;have U:=lt_of_act? I;obtain⟨R,Q⟩:=h'.t_ k p A;exact .inl ⟨t.size,_,C,rfl,.inr ((M p A).hb (.single (.inr ⟨.marked U (.inr R) (by rw[act?_of C]) (fun k _ _=>h'.norel.2 k),Q,yq hd⟩)))⟩
 refine⟨h'.clean,fun i x D K=>(known i x D K).imp id fun y=>⟨y.1,y.2.1⟩,fun i g O P N=>?_,?_,Y⟩
 ·obtain⟨x,D,K,_⟩:=id N;rcases known i x D K with⟨q,z,I,F,R⟩|⟨_,_,y⟩
  ·rcases R with rfl|R
   ·rw[g?_of I]at O;simp_all
   ·exact⟨q,by rw[g?_of I,F],R⟩
  ·simp_all
 ·rw[Deaf_push];simpa[deafStep]using hd
theorem PT.init(h:Past I B t)(O:0<b)(V:∀l,cls l≠.no->¬I l)(A:∀l g,cls l=.own g->g=0)(R:∀l,l.isMemory=false->cls l=.no)(F:∀l,cls l=.at->i_ l)(N:∀l,I l->i_ l)
  (hrel:NoRelease mu t/\NoRelease wg t):PT b 0 mu wg i_ cls t none (fun _=>none):=by
 have L:∀i x,touchAt t i=some x->cls x.loc≠.no->Knows t 0 i:=by
  intro i x K Y;have C:x.loc.isMemory=true:=by
   cases e:x.loc.isMemory with
   |true=>rfl
   |false=>exact absurd (R _ e) Y
  rcases h.known i x K C with y|y
  ·exact y
  ·simp_all
 have only:∀{g:Nat} {i:Nat},Knows t 0 i->Started b 0 g->Knows t g i:=by
  intro g i hk H;rcases H with rfl|H
  ·omega
  ·omega
 refine⟨h.clean,fun i x K Y=>.inr (.inr fun g H=>only (L i x K (by rw[Y];simp)) H),fun i x K Y hw g H=>only (L i x K (by rw[Y];simp)) H,fun i x g K Y=>?_,fun i x K Y=>.inl fun g H=>only (L i x K (by rw[Y];simp)) H,fun i x K C=>?_,fun k p P=>by simp at P,hrel,trivial,R,F,O⟩
 ·rw[A _ _ Y];simp_all
 ·rcases h.known i x K C with y|⟨y1,y2⟩
  ·exact .inl y
  ·by_cases Y:t.counts i
   ·obtain⟨z,M,T⟩:=touch_of K;by_cases D:z.g=0
    ·have:=knows_own M;rw[D]at this;exact .inl this
    ·obtain⟨q,Q,U⟩:=h.over i z.g (by simp[Trace.g?,M]) D Y;obtain⟨y,S,J⟩:=aY.1 Q;exact .inl ⟨q,y,S,J,.inr U⟩
   ·exact .inr (.inl ⟨N _ y1,y2,Y⟩)
end
end Ph
namespace Lock
structure Word where
 L:Bool
 K:Bool
 S:Bool
 W:Nat
 deriving DecidableEq
def Word.zero:Word:=⟨false,false,false,0⟩
def bn(b:Bool):=if b then 1 else 0
inductive PC where
 |out
 |l0
 |rd (aw sv:Bool) (it:Nat)
 |hw (old:Word) (aw sv:Bool) (it:Nat)
 |c1 (old:Word) (it:Nat)
 |c2 (old:Word) (aw sv:Bool) (it:Nat)
 |s1 (sv:Bool)
 |t2
 |r2 (sv:Bool)
 |a1 (old:Word) (sv:Bool)
 |cr
 |uc (old:Word)
 |ur
 |us
 |uh
def hd(old:Word)(aw sv:Bool)(it:Nat)(lp:Bool):PC:=
 if old.L=true/\old.S=false/\it<4/\lp=true then(if aw=false/\old.K=false/\old.W≠0 then .c1 old it else .rd aw sv (it+1))else .c2 old aw sv it
def hr(m:Word)(aw sv:Bool)(it:Nat):PC:=if m.L=true/\m.S=false then .hw m aw sv it else .c2 m aw sv it
def nw(old:Word)(aw sv:Bool):Word:=
 ⟨if old.S then old.L else true,if aw then false else old.K,old.S||(sv&&old.L),if old.L||old.S then old.W+1 else old.W⟩
def dec(m:Word):PC:=if m.W=0\/m.L=true\/m.K=true\/m.S=true then .out else .uc m
def low(m:Word):={m with L:=false}
inductive Mv:PC->Word->Nat->PC->Word->Nat->Prop where
 |E7 (c:Nat):Mv .l0 .zero c .cr ⟨true,false,false,0⟩ c
 |KX (m:Word) (c:Nat) (h:m≠.zero):Mv .l0 m c (.rd false false 0) m c
 |rd (m:Word) (c:Nat) (aw sv:Bool) (it:Nat):Mv (.rd aw sv it) m c (hr m aw sv it) m c
 |hw (m old:Word) (c:Nat) (aw sv:Bool) (it:Nat) (lp:Bool):Mv (.hw old aw sv it) m c (hd old aw sv it lp) m c
 |KY (m:Word) (c:Nat) (it:Nat):Mv (.c1 m it) m c (.rd true false (it+1)) {m with K:=true} c
 |KZ (m old:Word) (c:Nat) (it:Nat) (h:m≠old):Mv (.c1 old it) m c (.rd false false (it+1)) m c
 |E8 (m:Word) (c:Nat) (aw sv:Bool) (it:Nat):Mv (.c2 m aw sv it) m c (if m.L=false/\m.S=false then .cr else .s1 sv) (nw m aw sv) c
 |K6 (m old:Word) (c:Nat) (aw sv:Bool) (it:Nat) (h:m≠old):Mv (.c2 old aw sv it) m c (.rd aw sv it) m c
 |K8 (m:Word) (c:Nat):Mv (.s1 false) m (c+1) .t2 m c
 |K9 (m:Word) (c:Nat):Mv (.s1 true) m (c+1) (.r2 true) m c
 |t2 (m:Word) (c:Nat) (sv:Bool):Mv .t2 m c (.r2 sv) m c
 |E9 (m:Word) (c:Nat) (sv:Bool) (h:m.S=false):Mv (.r2 sv) m c (hr m true sv 0) m c
 |K_ (m:Word) (c:Nat) (sv:Bool) (h:m.S=true):Mv (.r2 sv) m c (.a1 m sv) m c
 |a1 (m old:Word) (c:Nat) (sv:Bool):Mv (.a1 old sv) m c .cr ⟨true,m.K,if sv=false\/old.W=1 then false else m.S,m.W-1⟩ c
 |u0 (m:Word) (c:Nat):Mv .cr m c (if m.S=true then .uh else dec (low m)) (low m) c
 |Bx (m:Word) (c:Nat):Mv (.uc m) m c .us {m with W:=m.W-1,K:=true} c
 |Bz (m old:Word) (c:Nat) (h:m≠old):Mv (.uc old) m c .ur m c
 |ur (m:Word) (c:Nat):Mv .ur m c (dec m) m c
 |us (m:Word) (c:Nat):Mv .us m c .out m (c+1)
 |uh (m:Word) (c:Nat):Mv .uh m c .out m (c+1)
def gZ(f:PC->Nat)(gJ:Nat->PC)
 |0=>0
 |k+1=>gZ f gJ k+f (gJ k)
def put(gJ:Nat->PC)(i:Nat)(p:PC):=fun j=>if j=i then p else gJ j
theorem Ro(f:PC->Nat)(gJ:Nat->PC)(i:Nat)(p:PC):∀n,n<=i->gZ f (put gJ i p) n=gZ f gJ n
 |0,_=>rfl
 |n+1,h=>by
  have e:put gJ i p n=gJ n:=by unfold put;rw[if_neg (by omega)]
  rw[gZ,gZ,Ro f gJ i p n (by omega),e]
theorem tN(f:PC->Nat)(gJ:Nat->PC)(i:Nat)(p:PC):∀n,i<n->gZ f (put gJ i p) n+f (gJ i)=gZ f gJ n+f p
 |0,h=>by omega
 |n+1,h=>by
  rw[gZ,gZ];by_cases Y:i=n
  ·subst Y;have e:put gJ i p i=p:=by unfold put;simp_all
   rw[Ro f gJ i p i (ae _),e];omega
  ·have:=tN f gJ i p n (by omega);have e:put gJ i p n=gJ n:=by unfold put;rw[if_neg (by omega)]
   rw[e];omega
theorem mZ(f:PC->Nat)(gJ:Nat->PC):∀n i,i<n->f (gJ i)<=gZ f gJ n
 |0,i,h=>by omega
 |n+1,i,h=>by
  rw[gZ];by_cases Y:i=n
  ·simp_all
  ·have:=mZ f gJ n i (by omega);omega
theorem IP(f:PC->Nat)(gJ:Nat->PC):∀n i j,i<n->j<n->i≠j->f (gJ i)+f (gJ j)<=gZ f gJ n
 |0,i,j,h,_,_=>by omega
 |n+1,i,j,h,k,Y=>by
  rw[gZ];by_cases K:i=n
  ·subst K;have:=mZ f gJ i j (by omega);omega
  ·by_cases H:j=n
   ·subst H;have:=mZ f gJ j i (by omega);omega
   ·have:=IP f gJ n i j (by omega) (by omega) Y;omega
theorem Rp(f:PC->Nat)(gJ:Nat->PC):∀n,0<gZ f gJ n->∃i,i<n/\0<f (gJ i)
 |0,h=>by simp[gZ]at h
 |n+1,h=>by
  rw[gZ]at h;by_cases Y:0<f (gJ n)
  ·exact⟨n,by omega,Y⟩
  ·obtain⟨i,H,K⟩:=Rp f gJ n (by omega);exact⟨i,by omega,K⟩
def jD:PC->Nat|.cr=>1|_=>0
def jy:PC->Nat|.rd aw _ _=>bn aw|.hw _ aw _ _=>bn aw|.c2 _ aw _ _=>bn aw|_=>0
def gP:PC->Nat|.r2 _=>1|.t2=>1|_=>0
def iL:PC->Nat|.a1 .. =>1|_=>0
def jm:PC->Nat|.s1 _=>1|_=>0
def kD:PC->Nat|.uc _=>1|.ur=>1|_=>0
def jM:PC->Nat|.us=>1|_=>0
def jZ:PC->Nat|.uh=>1|_=>0
def Ok(m:Word):PC->Prop
 |.rd aw sv it=>(sv=true->aw=true)/\it<=4
 |.hw old aw sv it=>(sv=true->aw=true)/\(aw=true->old.K=true)/\it<=4/\old.L=true/\old.S=false
 |.c1 old it=>old.L=true/\old.S=false/\old.K=false/\0<old.W/\it<4
 |.c2 old aw sv it=>(sv=true->aw=true)/\(aw=true->old.K=true)/\it<=4
 |.a1 old sv=>0<old.W/\old.W<=m.W
 |.uc old=>old.L=false/\old.S=false/\old.K=false/\0<old.W
 |_=>True
structure Inv(gJ:Nat->PC)(n:Nat)(m:Word)(c:Nat):Prop where
 ok:∀i,i<n->Ok m (gJ i)
 held:gZ jD gJ n=bn m.L
 calm:m.S=false->bn m.K=gZ jy gJ n+gZ gP gJ n+c+gZ jM gJ n/\gZ jm gJ n=m.W+c+gZ jM gJ n/\gZ jZ gJ n=0/\gZ iL gJ n=0/\(m.L=false->m.K=false->0<m.W->0<gZ kD gJ n)
 hard:m.S=true->m.K=false/\gZ jy gJ n=0/\gZ jM gJ n=0/\bn m.L+gZ jZ gJ n+c+gZ gP gJ n+gZ iL gJ n=1/\gZ jm gJ n+gZ gP gJ n+gZ iL gJ n=m.W/\0<m.W
theorem Inv.one{gJ:Nat->PC}{n:Nat}{m:Word}(h:Inv gJ n m c){j:Nat}(A:i<n)(C:j<n)(H:gJ i=.cr)(R:gJ j=.cr):i=j:=by
 by_cases Y:i=j
 ·omega
 ·have:=IP jD gJ n i j A C Y;rw[H,R,h.held]at this;have K:jD .cr=1:=rfl;have:bn m.L<=1:=by unfold bn;split<;>omega
  omega
theorem rK(b:Bool):bn b<=1:=by unfold bn;split<;>omega
theorem Inv.live{gJ:Nat->PC}{n:Nat}{m:Word}(h:Inv gJ n m c)(T:i<n){sv:Bool}(C:gJ i=.s1 sv)(G:c=0):
  ∃j,j<n/\(∀sv,gJ j≠.s1 sv)/\gJ j≠.out:=by
 have V:=mZ jm gJ n i T;rw[C]at V;have X:jm (.s1 sv)=1:=rfl;have fin:∀f,(∀sv,f (.s1 sv)=0)->f .out=0->0<gZ f gJ n->∃j,j<n/\(∀sv,gJ j≠.s1 sv)/\gJ j≠.out:=by
  intro f f1 f2 Q;obtain⟨j,P,O⟩:=Rp f gJ n Q;refine⟨j,P,fun sv e=>?_,fun e=>?_⟩
  ·rw[e,f1]at O;omega
  ·simp_all
 have M:=h.held;by_cases Y:m.L=true
 ·exact fin jD (fun _=>rfl) rfl (by rw[M,Y];decide)
 ·rw[aQ]at Y;by_cases D:m.S=true
  ·obtain⟨A,F,J,U,B,Z⟩:=h.hard D;rw[Y]at U;have N:bn false=0:=rfl;by_cases I:0<gZ jZ gJ n
   ·exact fin _ (fun _=>rfl) rfl I
   ·by_cases R:0<gZ gP gJ n
    ·exact fin gP (fun _=>rfl) rfl R
    ·exact fin iL (fun _=>rfl) rfl (by omega)
  ·rw[aQ]at D;obtain⟨A,F,J,U,B⟩:=h.calm D;by_cases I:0<gZ jM gJ n
   ·exact fin _ (fun _=>rfl) rfl I
   ·by_cases H:m.K=true
    ·rw[H]at A;have N:bn true=1:=rfl;by_cases R:0<gZ gP gJ n
     ·exact fin gP (fun _=>rfl) rfl R
     ·exact fin jy (fun _=>rfl) rfl (by omega)
    ·rw[aQ]at H;exact fin _ (fun _=>rfl) rfl (B Y H (by omega))
theorem aeJ{m m':Word}(h:m.W<=m'.W){p:PC}(k:Ok m p):Ok m' p:=by
 cases p with
 |a1 old sv=>exact⟨k.1,ak k.2 h⟩
 |_=>exact k
theorem mn{gJ:Nat->PC}{n:Nat}{m m':Word}{p':PC}(h:Inv gJ n m c)(R:Ok m' p')(Y:m.W<=m'.W\/∀j,j<n->j≠i->iL (gJ j)=0):
  ∀j,j<n->Ok m' (put gJ i p' j):=by
 intro j H;unfold put;split
 ·omega
 ·rename_i K;have k:=h.ok j H;rcases Y with Y|Y
  ·exact aeJ Y k
  ·have:=Y j H K;generalize gJ j=p at *;cases p with
   |a1 old sv=>simp[iL]at this
   |_=>exact k
theorem aeK{gJ:Nat->PC}{n:Nat}(h:gZ iL gJ n=0):∀j,j<n->j≠i->iL (gJ j)=0:=fun j Y _=>by
 have:=mZ iL gJ n j Y;omega
theorem ag0{gJ:Nat->PC}{n:Nat}(H:i<n)(h:gZ iL gJ n<=1)(R:iL (gJ i)=1):∀j,j<n->j≠i->iL (gJ j)=0:=fun j K Y=>by
 have:=IP iL gJ n i j H K (fun e=>Y e.symm);omega
structure aj_(gJ:Nat->PC)(n i:Nat)(p p':PC):Prop where
 H:gZ jD (put gJ i p') n+jD p=gZ jD gJ n+jD p'
 A:gZ jy (put gJ i p') n+jy p=gZ jy gJ n+jy p'
 G:gZ gP (put gJ i p') n+gP p=gZ gP gJ n+gP p'
 Ga:gZ iL (put gJ i p') n+iL p=gZ iL gJ n+iL p'
 Q:gZ jm (put gJ i p') n+jm p=gZ jm gJ n+jm p'
 U1:gZ kD (put gJ i p') n+kD p=gZ kD gJ n+kD p'
 U2:gZ jM (put gJ i p') n+jM p=gZ jM gJ n+jM p'
 U3:gZ jZ (put gJ i p') n+jZ p=gZ jZ gJ n+jZ p'
 gH:jD p<=gZ jD gJ n
 gA:jy p<=gZ jy gJ n
 gG:gP p<=gZ gP gJ n
 mR:iL p<=gZ iL gJ n
 gQ:jm p<=gZ jm gJ n
 gU1:kD p<=gZ kD gJ n
 gU2:jM p<=gZ jM gJ n
 gU3:jZ p<=gZ jZ gJ n
theorem nN{gJ:Nat->PC}{n:Nat}{p:PC}(Y:i<n)(e:gJ i=p)(p':PC):aj_ gJ n i p p':=by
 subst e;exact⟨tN _ _ _ _ _ Y,tN _ _ _ _ _ Y,tN _ _ _ _ _ Y,tN _ _ _ _ _ Y,tN _ _ _ _ _ Y,tN _ _ _ _ _ Y,tN _ _ _ _ _ Y,tN _ _ _ _ _ Y,
  mZ _ _ _ _ Y,mZ _ _ _ _ Y,mZ _ _ _ _ Y,mZ _ _ _ _ Y,mZ _ _ _ _ Y,mZ _ _ _ _ Y,mZ _ _ _ _ Y,mZ _ _ _ _ Y⟩
theorem tq{gJ:Nat->PC}{n:Nat}{m:Word}{p p':PC}(h:Inv gJ n m c)(C:i<n)(e:gJ i=p)(R:Ok m p')
  (T:jD p'=jD p)(V:jy p'=jy p)(W:gP p'=gP p)(q:iL p'=iL p)(z:jm p'=jm p)(a:kD p'=kD p)(h7:jM p'=jM p)(h8:jZ p'=jZ p):Inv (put gJ i p') n m c:=by
 have s:=nN C e p';have P:=s.H;have N:=s.A;have O:=s.G;have K:=s.Ga;have S:=s.Q;have J:=s.U1;have L:=s.U2;have M:=s.U3;refine⟨mn h R (.inl (ae _)),?_,fun Y=>?_,fun Y=>?_⟩
 ·have:=h.held;omega
 ·obtain⟨D,I,U,B,F⟩:=h.calm Y;simp_all
 ·obtain⟨D,I,U,B,F,X⟩:=h.hard Y;simp_all
theorem acK(m:Word)(aw sv:Bool)(it:Nat)(lp:Bool):jD (hd m aw sv it lp)=0/\jy (hd m aw sv it lp)=bn aw/\gP (hd m aw sv it lp)=0/\iL (hd m aw sv it lp)=0/\jm (hd m aw sv it lp)=0/\kD (hd m aw sv it lp)=0/\jM (hd m aw sv it lp)=0/\jZ (hd m aw sv it lp)=0:=by
 unfold hd;split
 ·split
  ·rename_i h;rw[h.1];exact⟨rfl,rfl,rfl,rfl,rfl,rfl,rfl,rfl⟩
  ·exact⟨rfl,rfl,rfl,rfl,rfl,rfl,rfl,rfl⟩
 ·exact⟨rfl,rfl,rfl,rfl,rfl,rfl,rfl,rfl⟩
theorem aix(m:Word)(aw sv:Bool)(it:Nat)(lp:Bool)(Y:sv=true->aw=true)(H:aw=true->m.K=true)(R:it<=4):Ok m (hd m aw sv it lp):=by
 unfold hd;split
 ·rename_i h;split
  ·rename_i k;exact⟨h.1,h.2.1,k.2.1,aW k.2.2,h.2.2.1⟩
  ·exact⟨Y,by omega⟩
 ·exact⟨Y,H,R⟩
theorem Qp(m:Word)(aw sv:Bool)(it:Nat):jD (hr m aw sv it)=0/\jy (hr m aw sv it)=bn aw/\gP (hr m aw sv it)=0/\iL (hr m aw sv it)=0/\jm (hr m aw sv it)=0/\kD (hr m aw sv it)=0/\jM (hr m aw sv it)=0/\jZ (hr m aw sv it)=0:=by
 unfold hr;split<;>exact⟨rfl,rfl,rfl,rfl,rfl,rfl,rfl,rfl⟩
theorem S9(m:Word)(aw sv:Bool)(it:Nat)(Y:sv=true->aw=true)(H:aw=true->m.K=true)(R:it<=4):Ok m (hr m aw sv it):=by
 unfold hr;split
 ·rename_i h;exact⟨Y,H,R,h.1,h.2⟩
 ·exact⟨Y,H,R⟩
theorem awake{gJ:Nat->PC}{n:Nat}{m:Word}{p:PC}(h:Inv gJ n m c)(R:i<n)(e:gJ i=p)(Y:0<jy p\/(0<gP p/\m.S=false)):m.K=true/\m.S=false:=by
 have g1:=mZ jy gJ n i R;have D:=mZ gP gJ n i R;rw[e]at g1 D;have H:m.S=false:=by
  rcases Y with Y|Y
  ·cases A:m.S with
   |false=>rfl
   |true=>have:=(h.hard A).2.1;omega
  simp_all
 refine⟨?_,H⟩;cases I:m.K with
 |true=>rfl
 |false=>
  have k:=(h.calm H).1;rw[I]at k;have:bn false=0:=rfl;omega
def La(m:Word):PC->Prop
 |.rd aw _ _=>aw=true->m.K=true
 |.r2 _=>(m.S=true->m.L=false/\m.K=false/\0<m.W)/\(m.S=false->m.K=true)
 |.a1 _ _=>m.L=false/\m.S=true/\0<m.W
 |.cr=>m.L=true
 |_=>True
theorem Inv.pre{gJ:Nat->PC}{n:Nat}{m:Word}(h:Inv gJ n m c)(H:i<n):La m (gJ i):=by
 have gH:=mZ jD gJ n i H;have gG:=mZ gP gJ n i H;have mR:=mZ iL gJ n i H;have b0:bn false=0:=rfl;have A:bn true=1:=rfl;cases e:gJ i with
 |rd aw sv it=>exact fun U=>(awake h H e (.inl (by simp[jy,U,A]))).1
 |r2 sv=>
  rw[e]at gG;simp[gP]at gG;refine⟨fun Y=>?_,fun Y=>(awake h H e (.inr ⟨by simp[gP],Y⟩)).1⟩;obtain⟨I,B,C,D,F,R⟩:=h.hard Y;refine⟨?_,I,R⟩;cases K:m.L with
  |false=>rfl
  |true=>rw[K]at D;omega
 |a1 old sv=>
  rw[e]at mR;simp[iL]at mR;have Y:m.S=true:=by
   cases Y:m.S with
   |true=>rfl
   |false=>have:=(h.calm Y).2.2.2.1;omega
  obtain⟨I,B,C,D,F,R⟩:=h.hard Y;refine⟨?_,Y,R⟩;cases K:m.L with
  |false=>rfl
  |true=>rw[K]at D;omega
 |cr=>
  rw[e]at gH;simp[jD]at gH;have:=h.held;show m.L=true
  cases K:m.L with
  |true=>rfl
  |false=>rw[K]at this;omega
 |_=>trivial
theorem Inv.step{gJ:Nat->PC}{n i:Nat}{m m':Word}{c c':Nat}{p p':PC}(h:Inv gJ n m c)(R:i<n)(e:gJ i=p)(hm:Mv p m c p' m' c'):Inv (put gJ i p') n m' c':=by
 have I:=h.ok i R;rw[e]at I;have b0:bn false=0:=rfl;have r:bn true=1:=rfl;cases hm with
 |E7=>
  have s:=nN R e .cr;obtain⟨O,sA,sG,D,P,s1,M,N,gH,gA,gG,mR,gQ,g1,Q,T⟩:=s;simp only[jD,jy,gP,iL,jm,kD,jM,jZ]at *;obtain⟨H,C,F,A,U⟩:=h.calm rfl;have B:=h.held;simp only[Word.zero]at *;exact⟨mn h trivial (.inl (ae _)),by simp only;omega,fun _=>⟨by simp only;omega,by simp only;omega,by omega,by omega,fun a=>by simp at a⟩,fun a=>by simp at a⟩
 |KX _ _ E=>exact tq h R e ⟨fun a=>by simp at a,by omega⟩ rfl rfl rfl rfl rfl rfl rfl rfl
 |rd _ _ aw sv it=>
  have X:aw=true->m.K=true:=fun g=>(awake h R e (.inl (by simp[jy,g,r]))).1;obtain⟨a1,a2,a3,a4,a5,q,j,z⟩:=Qp m aw sv it;exact tq h R e (S9 m aw sv it I.1 X I.2) a1 a2 a3 a4 a5 q j z
 |hw _ old _ aw sv it lp=>
  obtain⟨a1,a2,a3,a4,a5,q,j,z⟩:=acK old aw sv it lp;have hk:Ok old (hd old aw sv it lp):=aix old aw sv it lp I.1 I.2.1 I.2.2.1;refine tq h R e ?_ a1 a2 a3 a4 a5 q j z;generalize hd old aw sv it lp=p at *;cases p with
  |a1 o s=>simp[iL]at a4
  |_=>exact hk
 |KY _ _ it=>
  obtain⟨l,G,f,y,q5⟩:=I;have s:=nN R e (.rd true false (it+1));obtain⟨O,sA,sG,D,P,s1,M,N,gH,gA,gG,mR,gQ,g1,Q,T⟩:=s;simp only[jD,jy,gP,iL,jm,kD,jM,jZ]at *;obtain⟨H,C,F,A,U⟩:=h.calm G;have B:=h.held;rw[f]at H;exact⟨mn h ⟨fun _=>rfl,by omega⟩ (.inl (ae _)),by simp only;omega,fun _=>⟨by simp only;omega,by simp only;omega,by omega,by omega,fun a b=>by simp at b⟩,fun a=>by simp only at a;rw[G]at a;cases a⟩
 |KZ _ _ _ it E=>exact tq h R e ⟨fun a=>by simp at a,by have:=I.2.2.2.2;omega⟩ rfl rfl rfl rfl rfl rfl rfl rfl
 |E8 _ _ aw sv it=>
  obtain⟨l,G,f⟩:=I;have k:jy (.c2 m aw sv it)=bn aw:=rfl;cases J:m.L with
  |false=>
   cases Y:m.S with
   |false=>
    rw[if_pos ⟨rfl,rfl⟩];have s:=nN R e .cr;obtain⟨O,sA,sG,D,P,s1,M,N,gH,gA,gG,mR,gQ,g1,Q,T⟩:=s;simp only[jD,jy,gP,iL,jm,kD,jM,jZ]at *;obtain⟨H,C,F,A,U⟩:=h.calm Y;have B:=h.held;rw[J]at B;have en:nw m aw sv=⟨true,if aw then false else m.K,false,m.W⟩:=by unfold nw;rw[J,Y];simp
    rw[en];refine⟨mn h trivial (.inl (ae _)),by simp only;omega,fun _=>⟨?_,by simp only;omega,by omega,by omega,fun a=>by simp at a⟩,fun a=>by simp at a⟩;cases aw with
    |false=>simp only[bc,if_false];omega
    |true=>
     rw[G rfl]at H;simp only[if_true];omega
   |true=>
    rw[if_neg (by simp)];have s:=nN R e (.s1 sv);obtain⟨O,sA,sG,D,P,s1,M,N,gH,gA,gG,mR,gQ,g1,Q,T⟩:=s;simp only[jD,jy,gP,iL,jm,kD,jM,jZ]at *;obtain⟨H,C,F,A,U,V⟩:=h.hard Y;have B:=h.held;have X:aw=false:=by
     cases aw with
     |false=>rfl
     |true=>omega
    subst X;rw[J]at B A;have en:nw m false sv=⟨false,m.K,true,m.W+1⟩:=by unfold nw;rw[J,Y];simp
    rw[en];exact⟨mn h trivial (.inl (by simp)),by simp only;omega,fun a=>by simp at a,fun _=>⟨H,by omega,by omega,by simp only;omega,by simp only;omega,by simp⟩⟩
  |true=>
   rw[if_neg (by simp)];have s:=nN R e (.s1 sv);obtain⟨O,sA,sG,D,P,s1,M,N,gH,gA,gG,mR,gQ,g1,Q,T⟩:=s;simp only[jD,jy,gP,iL,jm,kD,jM,jZ]at *;have B:=h.held;rw[J]at B;cases Y:m.S with
   |false=>
    obtain⟨H,C,F,A,U⟩:=h.calm Y;cases sv with
    |false=>
     have en:nw m aw false=⟨true,if aw then false else m.K,false,m.W+1⟩:=by unfold nw;rw[J,Y];simp
     rw[en];refine⟨mn h trivial (.inl (by simp)),by simp only;omega,fun _=>⟨?_,by simp only;omega,by omega,by omega,fun a=>by simp at a⟩,fun a=>by simp at a⟩;cases aw with
     |false=>simp only[bc,if_false];omega
     |true=>
      rw[G rfl]at H;simp only[if_true];omega
    |true=>
     have X:=l rfl;subst X;rw[G rfl]at H;have en:nw m true true=⟨true,false,true,m.W+1⟩:=by unfold nw;rw[J,Y];simp
     rw[en];exact⟨mn h trivial (.inl (by simp)),by simp only;omega,fun a=>by simp at a,fun _=>⟨rfl,by omega,by omega,by simp only;omega,by simp only;omega,by simp⟩⟩
   |true=>
    obtain⟨H,C,F,A,U,V⟩:=h.hard Y;have X:aw=false:=by
     cases aw with
     |false=>rfl
     |true=>omega
    subst X;rw[J]at A;have en:nw m false sv=⟨true,m.K,true,m.W+1⟩:=by unfold nw;rw[J,Y];simp
    rw[en];exact⟨mn h trivial (.inl (by simp)),by simp only;omega,fun a=>by simp at a,fun _=>⟨H,by omega,by omega,by simp only;omega,by simp only;omega,by simp⟩⟩
 |K6 _ _ _ aw sv it E=>exact tq h R e ⟨I.1,I.2.2⟩ rfl rfl rfl rfl rfl rfl rfl rfl
 |K8=>
  have s:=nN R e .t2;obtain⟨O,sA,sG,D,P,s1,M,N,gH,gA,gG,mR,gQ,g1,Q,T⟩:=s;simp only[jD,jy,gP,iL,jm,kD,jM,jZ]at *;have B:=h.held;refine⟨mn h trivial (.inl (ae _)),by omega,fun Y=>?_,fun Y=>?_⟩
  ·obtain⟨H,C,F,A,U⟩:=h.calm Y;exact⟨by omega,by omega,by omega,by omega,fun a b d=>by have:=U a b d;omega⟩
  ·obtain⟨H,C,F,A,U,V⟩:=h.hard Y;exact⟨H,by omega,by omega,by omega,by omega,V⟩
 |K9=>
  have s:=nN R e (.r2 true);obtain⟨O,sA,sG,D,P,s1,M,N,gH,gA,gG,mR,gQ,g1,Q,T⟩:=s;simp only[jD,jy,gP,iL,jm,kD,jM,jZ]at *;have B:=h.held;refine⟨mn h trivial (.inl (ae _)),by omega,fun Y=>?_,fun Y=>?_⟩
  ·obtain⟨H,C,F,A,U⟩:=h.calm Y;exact⟨by omega,by omega,by omega,by omega,fun a b d=>by have:=U a b d;omega⟩
  ·obtain⟨H,C,F,A,U,V⟩:=h.hard Y;exact⟨H,by omega,by omega,by omega,by omega,V⟩
 |t2 _ _ sv=>exact tq h R e trivial rfl rfl rfl rfl rfl rfl rfl rfl
 |E9 _ _ sv Y=>
  have g:=awake h R e (.inr ⟨by simp[gP],Y⟩);obtain⟨a1,a2,a3,a4,a5,q,j,z⟩:=Qp m true sv 0;have s:=nN R e (hr m true sv 0);obtain⟨O,sA,sG,D,P,s1,M,N,gH,gA,gG,mR,gQ,g1,Q,T⟩:=s;rw[a1]at O;rw[a2]at sA;rw[a3]at sG;rw[a4]at D;rw[a5]at P;rw[q]at s1;rw[j]at M;rw[z]at N;simp only[jD,jy,gP,iL,jm,kD,jM,jZ]at *;have B:=h.held;obtain⟨H,C,F,A,U⟩:=h.calm Y;exact⟨mn h (S9 m true sv 0 (fun _=>rfl) (fun _=>g.1) (by omega)) (.inl (ae _)),by omega,fun _=>⟨by omega,by omega,by omega,by omega,fun a b d=>by have:=U a b d;omega⟩,fun a=>by rw[Y]at a;cases a⟩
 |K_ _ _ sv Y=>
  have s:=nN R e (.a1 m sv);obtain⟨O,sA,sG,D,P,s1,M,N,gH,gA,gG,mR,gQ,g1,Q,T⟩:=s;simp only[jD,jy,gP,iL,jm,kD,jM,jZ]at *;have B:=h.held;obtain⟨H,C,F,A,U,V⟩:=h.hard Y;exact⟨mn h ⟨V,ae _⟩ (.inl (ae _)),by omega,(fun a=>by rw[Y]at a;cases a),fun _=>⟨H,by omega,by omega,by omega,by omega,V⟩⟩
 |a1 _ old _ sv=>
  have s:=nN R e .cr;obtain⟨O,sA,sG,D,P,s1,M,N,gH,gA,gG,mR,gQ,g1,Q,T⟩:=s;simp only[jD,jy,gP,iL,jm,kD,jM,jZ]at *;have B:=h.held;have Y:m.S=true:=by
   cases Y:m.S with
   |true=>rfl
   |false=>have:=(h.calm Y).2.2.2.1;omega
  obtain⟨H,C,F,A,U,V⟩:=h.hard Y;have J:m.L=false:=by
   cases J:m.L with
   |false=>rfl
   |true=>rw[J]at A;omega
  rw[J]at A B;have v:0<old.W/\old.W<=m.W:=I;refine⟨mn h trivial (.inr (ag0 R (by omega) (by rw[e];rfl))),by simp only;omega,?_,?_⟩
  ·intro Z;simp only at Z⊢;rw[H];exact⟨by omega,by omega,by omega,by omega,fun a=>by simp at a⟩
  ·intro Z;simp only at Z⊢;split at Z
   ·simp at Z
   ·rename_i E;have t:¬old.W=1:=fun x=>E (.inr x);exact⟨H,by omega,by omega,by omega,by omega,by omega⟩
 |u0=>
  have B:=h.held;have l1:bn (low m).L=0:=rfl;have l2:(low m).W=m.W:=rfl;have w:bn (low m).K=bn m.K:=rfl;have l4:(low m).S=m.S:=rfl;have gH:=mZ jD gJ n i R;rw[e]at gH;have J:m.L=true:=by
   cases J:m.L with
   |true=>rfl
   |false=>rw[J]at B;simp only[jD]at gH;omega
  rw[J]at B;cases Y:m.S with
  |true=>
   rw[if_pos rfl];have s:=nN R e .uh;obtain⟨O,sA,sG,D,P,s1,M,N,gH,gA,gG,mR,gQ,g1,Q,T⟩:=s;simp only[jD,jy,gP,iL,jm,kD,jM,jZ]at *;obtain⟨H,C,F,A,U,V⟩:=h.hard Y;rw[J]at A;exact⟨mn h trivial (.inl (ae _)),by omega,(fun a=>by rw[l4,Y]at a;cases a),fun _=>⟨H,by omega,by omega,by omega,by omega,V⟩⟩
  |false=>
   rw[if_neg (by simp)];obtain⟨H,C,F,A,U⟩:=h.calm Y;by_cases hd:m.W=0\/m.K=true
   ·have ed:dec (low m)=.out:=by
     unfold dec;rw[if_pos];rcases hd with hd|hd
     ·exact .inl hd
     ·exact .inr (.inr (.inl hd))
    rw[ed];have s:=nN R e .out;obtain⟨O,sA,sG,D,P,s1,M,N,gH,gA,gG,mR,gQ,g1,Q,T⟩:=s;simp only[jD,jy,gP,iL,jm,kD,jM,jZ]at *;refine⟨mn h trivial (.inl (ae _)),by omega,fun _=>⟨by omega,by omega,by omega,by omega,fun _ a b=>?_⟩,fun a=>by rw[l4,Y]at a;cases a⟩;rcases hd with hd|hd
    ·omega
    ·have a':m.K=false:=a;rw[hd]at a';cases a'
   ·have ed:dec (low m)=.uc (low m):=by
     unfold dec;rw[if_neg];rintro(x|x|x|x)
     ·exact hd (.inl x)
     ·simp[low]at x
     ·exact hd (.inr x)
     ·rw[l4,Y]at x;cases x
    rw[ed];have s:=nN R e (.uc (low m));obtain⟨O,sA,sG,D,P,s1,M,N,gH,gA,gG,mR,gQ,g1,Q,T⟩:=s;simp only[jD,jy,gP,iL,jm,kD,jM,jZ]at *;have u:m.K=false:=by simpa using fun x=>hd (.inr x)
    refine⟨mn h ⟨rfl,Y,u,aW fun x=>hd (.inl x)⟩ (.inl (ae _)),by omega,fun _=>⟨by omega,by omega,by omega,by omega,fun _ _ _=>by omega⟩,fun a=>by rw[l4,Y]at a;cases a⟩
 |Bx=>
  obtain⟨l,G,f,y⟩:=I;have s:=nN R e .us;obtain⟨O,sA,sG,D,P,s1,M,N,gH,gA,gG,mR,gQ,g1,Q,T⟩:=s;simp only[jD,jy,gP,iL,jm,kD,jM,jZ]at *;have B:=h.held;obtain⟨H,C,F,A,U⟩:=h.calm G;rw[f]at H;exact⟨mn h trivial (.inr (aeK A)),by simp only;omega,fun _=>⟨by simp only;omega,by simp only;omega,by omega,by omega,fun a b=>by simp at b⟩,fun a=>by simp only at a;rw[G]at a;cases a⟩
 |Bz _ old _ E=>exact tq h R e trivial rfl rfl rfl rfl rfl rfl rfl rfl
 |ur=>
  by_cases hd:m.W=0\/m.L=true\/m.K=true\/m.S=true
  ·have ed:dec m=.out:=if_pos hd;rw[ed];have s:=nN R e .out;obtain⟨O,sA,sG,D,P,s1,M,N,gH,gA,gG,mR,gQ,g1,Q,T⟩:=s;simp only[jD,jy,gP,iL,jm,kD,jM,jZ]at *;have B:=h.held;refine⟨mn h trivial (.inl (ae _)),by omega,fun Y=>?_,fun Y=>?_⟩
   ·obtain⟨H,C,F,A,U⟩:=h.calm Y;refine⟨by omega,by omega,by omega,by omega,fun a b d=>?_⟩;rcases hd with x|x|x|x
    ·omega
    ·rw[a]at x;cases x
    ·rw[b]at x;cases x
    ·rw[Y]at x;cases x
   ·obtain⟨H,C,F,A,U,V⟩:=h.hard Y;exact⟨H,by omega,by omega,by omega,by omega,V⟩
  ·have ed:dec m=.uc m:=if_neg hd;rw[ed];refine tq h R e ⟨?_,?_,?_,aW fun x=>hd (.inl x)⟩ rfl rfl rfl rfl rfl rfl rfl rfl
   ·simpa using fun x=>hd (.inr (.inl x))
   ·simpa using fun x=>hd (.inr (.inr (.inr x)))
   ·simpa using fun x=>hd (.inr (.inr (.inl x)))
 |us=>
  have s:=nN R e .out;obtain⟨O,sA,sG,D,P,s1,M,N,gH,gA,gG,mR,gQ,g1,Q,T⟩:=s;simp only[jD,jy,gP,iL,jm,kD,jM,jZ]at *;have B:=h.held;refine⟨mn h trivial (.inl (ae _)),by omega,fun Y=>?_,fun Y=>?_⟩
  ·obtain⟨H,C,F,A,U⟩:=h.calm Y;exact⟨by omega,by omega,by omega,by omega,fun a b d=>by have:=U a b d;omega⟩
  ·obtain⟨H,C,F,A,U,V⟩:=h.hard Y;omega
 |uh=>
  have s:=nN R e .out;obtain⟨O,sA,sG,D,P,s1,M,N,gH,gA,gG,mR,gQ,g1,Q,T⟩:=s;simp only[jD,jy,gP,iL,jm,kD,jM,jZ]at *;have B:=h.held;refine⟨mn h trivial (.inl (ae _)),by omega,fun Y=>?_,fun Y=>?_⟩
  ·have:=(h.calm Y).2.2.1;omega
  ·obtain⟨H,C,F,A,U,V⟩:=h.hard Y;exact⟨H,by omega,by omega,by omega,by omega,V⟩
def iJ:PC->Nat
 |.out=>0|.cr=>1|.uc _=>0|.ur=>0|.us=>0|.uh=>0
 |_=>2
def bw:PC->Nat
 |.out=>0|.l0=>6|.rd aw _ _=>5-bn aw|.hw _ aw _ _=>5-bn aw|.c1 .. =>5|.c2 _ aw _ _=>5-bn aw|.s1 _=>0|.t2=>6|.r2 _=>5|.a1 .. =>4|.cr=>0|.uc _=>9|.ur=>9|.us=>8|.uh=>8
def dw(m:Word):PC->Nat
 |.rd _ _ it=>2 *(5-it)
 |.hw old _ _ it=>if old=m then 2 *(5-it)-1 else 2 *(5-it)+2
 |.c1 old it=>if old=m then 0 else 2 *(5-it)-1
 |.c2 old _ _ it=>if old=m then 0 else 2 *(5-it)+1
 |.uc old=>if old=m then 1 else 3
 |.ur=>2
 |_=>0
theorem aeL(m old:Word)(aw sv:Bool)(it:Nat)(lp:Bool)(h:it<=4):iJ (hd old aw sv it lp)=2/\bw (hd old aw sv it lp)=5-bn aw/\dw m (hd old aw sv it lp)<dw m (.hw old aw sv it):=by
 unfold hd;split
 ·split
  ·rename_i Y;refine⟨rfl,by rw[Y.1];rfl,?_⟩;simp only[dw];split<;>omega
  ·refine⟨rfl,rfl,?_⟩;simp only[dw];split<;>omega
 ·refine⟨rfl,rfl,?_⟩;simp only[dw];split<;>omega
theorem Rq(m:Word)(aw sv:Bool)(it:Nat)(h:it<=4):iJ (hr m aw sv it)=2/\bw (hr m aw sv it)=5-bn aw/\dw m (hr m aw sv it)<2 *(5-it):=by
 unfold hr;split
 ·refine⟨rfl,rfl,?_⟩;simp[dw,if_true];omega
 ·refine⟨rfl,rfl,?_⟩;simp[dw,if_true];omega
theorem Mv.down{p p':PC}{m m':Word}{c':Nat}(h:Mv p m c p' m' c')(H:Ok m p):
  iJ p'<iJ p\/(iJ p'=iJ p/\bw p'+7 *c'<bw p+7 *c)\/(iJ p'=iJ p/\bw p'+7 *c'=bw p+7 *c/\m'=m/\c'=c/\dw m p'<dw m p):=by
 have b0:bn false=0:=rfl;have A:bn true=1:=rfl;cases h with
 |E7=>exact .inl (by decide)
 |KX=>exact .inr (.inl ⟨rfl,by simp only[bw];omega⟩)
 |rd _ _ aw sv it=>
  obtain⟨K,D,R⟩:=Rq m aw sv it H.2;exact .inr (.inr ⟨K,by rw[D];rfl,rfl,rfl,R⟩)
 |hw _ old _ aw sv it lp=>
  obtain⟨K,D,R⟩:=aeL m old aw sv it lp H.2.2.1;exact .inr (.inr ⟨K,by rw[D];rfl,rfl,rfl,R⟩)
 |KY _ _ it=>exact .inr (.inl ⟨rfl,by simp only[bw];omega⟩)
 |KZ _ old _ it Y=>
  have:=H.2.2.2.2;refine .inr (.inr ⟨rfl,by simp only[bw];omega,rfl,rfl,?_⟩);simp only[dw];rw[if_neg (fun e=>Y e.symm)];omega
 |E8 _ _ aw sv it=>
  by_cases I:m.L=false/\m.S=false
  ·rw[if_pos I];exact .inl (by simp only[iJ];omega)
  ·rw[if_neg I];refine .inr (.inl ⟨rfl,?_⟩);simp only[bw];have:=rK aw;omega
 |K6 _ old _ aw sv it Y=>
  refine .inr (.inr ⟨rfl,rfl,rfl,rfl,?_⟩);simp only[dw];rw[if_neg (fun e=>Y e.symm)];omega
 |K8=>exact .inr (.inl ⟨rfl,by simp only[bw];omega⟩)
 |K9=>exact .inr (.inl ⟨rfl,by simp only[bw];omega⟩)
 |t2=>exact .inr (.inl ⟨rfl,by simp only[bw];omega⟩)
 |E9 _ _ sv U=>
  obtain⟨K,D,R⟩:=Rq m true sv 0 (by omega);exact .inr (.inl ⟨K,by rw[D];simp only[bw];omega⟩)
 |K_=>exact .inr (.inl ⟨rfl,by simp only[bw];omega⟩)
 |a1=>exact .inl (by simp only[iJ];omega)
 |u0=>
  refine .inl ?_;split
  ·decide
  ·unfold dec;split<;>(simp only[iJ];omega)
 |Bx=>exact .inr (.inl ⟨rfl,by simp only[bw];omega⟩)
 |Bz _ old _ Y=>
  refine .inr (.inr ⟨rfl,rfl,rfl,rfl,?_⟩);simp only[dw];rw[if_neg (fun e=>Y e.symm)];omega
 |ur=>
  unfold dec;split
  ·exact .inr (.inl ⟨rfl,by simp only[bw];omega⟩)
  ·refine .inr (.inr ⟨rfl,rfl,rfl,rfl,?_⟩);simp only[dw,if_true];omega
 |us=>exact .inr (.inl ⟨rfl,by simp only[bw];omega⟩)
 |uh=>exact .inr (.inl ⟨rfl,by simp only[bw];omega⟩)
end Lock
namespace Ph
open Lock (Word bn)
def val(m:Word):Int:=(bn m.L+2 *bn m.K+4 *bn m.S+8 *m.W:Nat)
end Ph
namespace Ph
open Conc Ren
open Lock (Word PC Mv bn)
structure Env where
 Fd:Nat
 Mp:Nat
 Wg:Nat
 tF:TypeId
 tW:TypeId
 zc:Value
 Γ:Type
 upd:Γ->Nat->Γ
 mr:Γ->Option Obj->Prop
namespace Env
variable(E:Env)
abbrev mu:Addr:=⟨E.Fd,0,none⟩
abbrev ms:Addr:=⟨E.Fd,1,none⟩
abbrev st:Addr:=⟨E.Wg,0,none⟩
abbrev sm:Addr:=⟨E.Wg,1,none⟩
def U(a i:Nat):=(a=E.Fd\/a=E.Wg)/\i<2
def MuAt(w:World)(m:Word)(c:Nat):=w.heap[E.Fd]?=some (.cells #[.int .i32 (val m),.int .u32 c,.map (some E.Mp)] E.tF)
def WgAt(w:World)(v wt ws:Nat):Prop:=w.heap[E.Wg]?=some (.cells #[.int .u64 ((v *4294967296+wt:Nat):Int),.int .u32 ws] E.tW)
structure Eff(b:Nat)(w w1:World):Prop where
 heap:∀a,a≠b->w1.heap[a]?=w.heap[a]?
 size:w1.heap.size=w.heap.size
 tape:w1.tape=w.tape
 env:mD w1.os w.os
 output:w1.output=w.output
def EvA(b:Nat)(es:Array _):=(∀e∈es,∃a wr,e=⟨.cell a,wr,true⟩/\a.block=b/\a.off<2/\a.spot=none)\/∃o,o<2/\es=semEvents ⟨b,o,none⟩
inductive kH where
 |recv
 |ld (x:Nat)
 |lk (p:PC) (x:Nat)
 |le (x:Nat)
 |la (x:Nat)
 |ur (x:E.Γ)
 |ud
 |u0
 |un (p:PC)
 |ue
 |wr
variable(P:Program)(main:Bool)
abbrev Tree(D:(Nat->Prop)->(Nat->Prop)->Goroutine->World->Prop):=Tz P main E.U D
def sj(m:Mark)(Nx:(Nat->Prop)->(Nat->Prop)->Goroutine->World->Prop)(S X:Nat->Prop)(g:Goroutine)(w:World):=
 ∀w2,gK E.U S w w2->∃g1,stepG P main g w2=.go g1 w2 #[⟨.mark m,false,true⟩]/\Nx S X g1 w2
def JV(p:PC)(Nx:PC->(Nat->Prop)->(Nat->Prop)->Goroutine->World->Prop)(S X:Nat->Prop)(g:Goroutine)(w:World):=
 ∀w2 m c,gK E.U S w w2->E.MuAt w2 m c->Lock.Ok m p->Lock.La m p->m.W<=8->c<=1->
  (∃sv,p=.s1 sv/\c=0/\stepG P main g w2=.go {g with status:=.blocked} w2 #[])\/
  ∃p' m' c' g1 w1 es,Mv p m c p' m' c'/\stepG P main g w2=.go g1 w1 es/\E.MuAt w1 m' c'/\Eff E.Fd w2 w1/\EvA E.Fd es/\(c<c'->mayWake P g=true)/\Nx p' S X g1 w1
def S_(g:Goroutine):=∃q,QuitsD P q 1 g
def oA(P:Program)(Q:Goroutine->Prop):Nat->Goroutine->Prop
 |0,g=>Q g
 |n+1,g=>g.status=.running/\∃Y,(∀w,stepG P false g w=.go Y w #[])/\oA P Q n Y
def Lb(P:Program)(g:Goroutine):=g.status=.running/\mayWake P g=true/\∀w2,E.WgAt w2 0 0 0->∃g1 w1 es,stepG P false g w2=.go g1 w1 es/\E.WgAt w1 0 0 1/\Eff E.Wg w2 w1/\EvA E.Wg es/\S_ P g1
def Lc(P:Program)(g:Goroutine):=g.status=.running/\∀w2,E.WgAt w2 0 1 0->∃g1 w1 es,stepG P false g w2=.go g1 w1 es/\E.WgAt w1 0 0 0/\Eff E.Wg w2 w1/\EvA E.Wg es/\∃n,oA P (E.Lb P) n g1
def Ld(P:Program)(g:Goroutine):=g.status=.running/\∀w2,E.WgAt w2 0 1 0->∃g1 es,stepG P false g w2=.go g1 w2 es/\EvA E.Wg es/\∃n,oA P (E.Lc P) n g1
def Lf(P:Program)(g:Goroutine):=g.status=.running/\∀w2 v wt,v<=8->wt<=1->E.WgAt w2 (v+1) wt 0->∃g1 w1 es,stepG P false g w2=.go g1 w1 es/\E.WgAt w1 v wt 0/\Eff E.Wg w2 w1/\EvA E.Wg es/\
    ((v=0/\wt=1->∃n,oA P (E.Ld P) n g1)/\(¬(v=0/\wt=1)->S_ P g1))
def UL(P:Program)(g:Goroutine):=g.status=.running/\∃g1,(∀w2,stepG P false g w2=.go g1 w2 #[⟨.mark .disable,false,true⟩])/\∃n,oA P (E.Lf P) n g1
def ua(P:Program)
 |0=>E.Lb P
 |1=>E.Lc P
 |2=>E.Ld P
 |3=>E.Lf P
 |_+4=>E.UL P
variable{E}in
def behind(p:PC)(x:Nat):E.kH:=match p with
 |.cr=>.le x
 |p=>.lk p x
variable{E}in
def wY(p:PC):E.kH:=match p with
 |.out=>.ue
 |p=>.un p
def je(P:Program)(A:(Nat->Prop)->(Nat->Prop)->Goroutine->World->Prop):Nat->E.kH->(Nat->Prop)->(Nat->Prop)->Goroutine->World->Prop
 |_,.recv,S,X,g,w=>A S X g w
 |0,_,_,_,_,_=>True
 |k+1,pc,S,X,g,w=>g.status=.running/\g.offers=none/\match pc with
  |.recv=>True
  |.ld x=>E.sj P false .disable (E.Tree P false (je P A k (.lk .l0 x))) S X g w
  |.lk p x=>E.JV P false p (fun p'=>E.Tree P false (je P A k (behind p' x))) S X g w
  |.le x=>E.sj P false .enable (E.Tree P false (je P A k (.la x))) S X g w
  |.la x=>∀w2 γ,gK E.U S w w2->E.mr γ (w2.heap[E.Mp]?)->∃g1,stepG P false g w2=.go g1 w2 #[⟨.mark (.acquire E.mu),false,true⟩]/\E.Tree P false (je P A k (.ur (E.upd γ x))) (fun a=>S a\/a=E.Mp) (fun a=>X a\/a=E.Mp) g1 w2
  |.ur γ=>∀w2,gK E.U S w w2->E.mr γ (w2.heap[E.Mp]?)/\∃g1,stepG P false g w2=.go g1 w2 #[⟨.mark (.releaseMerge E.mu),false,true⟩]/\E.Tree P false (je P A k .ud) (fun a=>S a/\a≠E.Mp) (fun a=>X a/\a≠E.Mp) g1 w2
  |.ud=>E.sj P false .disable (E.Tree P false (je P A k .u0)) S X g w
  |.u0=>E.JV P false .cr (fun p'=>E.Tree P false (je P A k (wY p'))) S X g w
  |.un p=>E.JV P false p (fun p'=>E.Tree P false (je P A k (wY p'))) S X g w
  |.ue=>E.sj P false .enable (E.Tree P false (je P A k .recv)) S X g w
  |.wr=>∀w2,gK E.U S w w2->∃g1,stepG P false g w2=.go g1 w2 #[⟨.mark (.releaseMerge E.st),false,true⟩]/\∃n,oA P (E.ua P 4) n g1
end Env
namespace Env
variable{E:Env}{w w1 w2:World}{m m':Word}{c c' v wt ws:Nat}{b:Nat}
theorem Aj{b:Nat}{cs:Array _}{t:TypeId}{fz:Nat×Nat}(h:w.heap[b]?=some (.cells cs t fz)):(w.setCell ⟨b,i,none⟩ x).heap[b]?=some (.cells (cs.setIfInBounds i x) t fz):=by
 rw[setCell_eq_setRow w b i cs t fz x h];exact setRow_heap w b cs _ t fz h
theorem Eff.refl(b:Nat)(w:World):Eff b w w:=⟨fun _ _=>rfl,rfl,rfl,.refl _,rfl⟩
theorem Eff.set(b i:Nat)(x:Value)(w:World):Eff b w (w.setCell ⟨b,i,none⟩ x):=by
 refine⟨fun a Y=>?_,by simp,rfl,.refl _,rfl⟩;simp[World.setCell];rw[Array.getElem?_modify];rw[if_neg (fun e=>Y e.symm)]
theorem Eff.later(b:Nat)(w:World):Eff b w w.later:=⟨fun _ _=>rfl,rfl,rfl,⟨w.tick,rfl⟩,rfl⟩
theorem Eff.asked(b:Nat)(w:World):Eff b w w.asked:=⟨fun _ _=>rfl,rfl,rfl,.refl _,rfl⟩
theorem MuAt.cell0(h:E.MuAt w m c):w.cell? E.mu=some (.int .i32 (val m)):=by unfold MuAt at h;simp[ar,h]
theorem MuAt.rM(h:E.MuAt w m c):w.cell? E.ms=some (.int .u32 c):=by unfold MuAt at h;simp[ar,h]
theorem MuAt.thaw(h:E.MuAt w m c)(i:Nat):w.frozen? ⟨E.Fd,i,none⟩=false:=by unfold MuAt at h;simp[bE,h]
theorem MuAt.ni(h:E.MuAt w m c)(m':Word):E.MuAt (w.setCell E.mu (.int .i32 (val m'))) m' c:=by
 unfold MuAt at h⊢;rw[Aj h];simp
theorem MuAt.qX(h:E.MuAt w m c)(c':Nat):E.MuAt (w.setCell E.ms (.int .u32 c')) m c':=by
 unfold MuAt at h⊢;rw[Aj h];simp
theorem MuAt.later(h:E.MuAt w m c):E.MuAt w.later m c:=h
theorem MuAt.asked(h:E.MuAt w m c):E.MuAt w.asked m c:=h
theorem WgAt.cell0(h:E.WgAt w v wt ws):w.cell? E.st=some (.int .u64 ((v *4294967296+wt:Nat))):=by unfold WgAt at h;simp[ar,h]
theorem WgAt.rM(h:E.WgAt w v wt ws):w.cell? E.sm=some (.int .u32 ws):=by unfold WgAt at h;simp[ar,h]
theorem WgAt.thaw(h:E.WgAt w v wt ws)(i:Nat):w.frozen? ⟨E.Wg,i,none⟩=false:=by unfold WgAt at h;simp[bE,h]
theorem WgAt.ni(h:E.WgAt w v wt ws)(v' ib:Nat):E.WgAt (w.setCell E.st (.int .u64 ((v' *4294967296+ib:Nat)))) v' ib ws:=by
 unfold WgAt at h⊢;rw[Aj h];simp
theorem WgAt.qX(h:E.WgAt w v wt ws)(ia:Nat):E.WgAt (w.setCell E.sm (.int .u32 ia)) v wt ia:=by
 unfold WgAt at h⊢;rw[Aj h];simp
def vk(E:Env)(w:World):=∃cs t fz,w.heap[E.Fd]?=some (.cells cs t fz)/\cs.size=3
theorem vk.rely{S:Nat->Prop}(h:E.vk w)(A:S E.Fd)(hr:gK E.U S w w2):E.vk w2:=by
 obtain⟨cs,t,fz,K,H⟩:=h;rcases hr.kept _ A with e|⟨d,d2,t',I,_,Y,D,R,_⟩
 ·exact⟨cs,t,fz,e.trans K,H⟩
 ·rw[K]at Y;cases Y;exact⟨d2,_,_,D,R.trans H⟩
theorem vk.cell0(h:E.vk w):∃v,w.cell? E.mu=some v:=by
 obtain⟨cs,t,fz,Y,K⟩:=h;exact⟨cs[0],by simp[ar,Y]⟩
def pA(E:Env)(w:World):=∃cs t fz,w.heap[E.Wg]?=some (.cells cs t fz)/\cs.size=2
theorem pA.rely{S:Nat->Prop}(h:E.pA w)(A:S E.Wg)(hr:gK E.U S w w2):E.pA w2:=by
 obtain⟨cs,t,fz,K,H⟩:=h;rcases hr.kept _ A with e|⟨d,d2,t',I,_,Y,D,R,_⟩
 ·exact⟨cs,t,fz,e.trans K,H⟩
 ·rw[K]at Y;cases Y;exact⟨d2,_,_,D,R.trans H⟩
theorem pA.cell0(h:E.pA w):∃v,w.cell? E.st=some v:=by
 obtain⟨cs,t,fz,Y,K⟩:=h;exact⟨cs[0],by simp[ar,Y]⟩
theorem pA.rM(h:E.pA w):∃v,w.cell? E.sm=some v:=by
 obtain⟨cs,t,fz,Y,K⟩:=h;exact⟨cs[1],by simp[ar,Y]⟩
structure Kn(E:Env)(S:Nat->Prop)(Fx:World->Prop):Prop where
 rely:∀{w w2:World},Fx w->gK E.U S w w2->Fx w2
 fd:∀{w:World},Fx w->E.vk w
 lI:∀{w w1:World} {m m':Word} {c c':Nat},Fx w->E.MuAt w m c->Eff E.Fd w w1->E.MuAt w1 m' c'->Fx w1
 later:∀{w:World},Fx w->Fx w.later
theorem Pp{U:Nat->Nat->Prop}(h:∀a,S' a->S a)(hr:gK U S w w2):gK U S' w w2:=⟨fun a Y=>hr.kept a (h a Y),hr.grow,hr.env⟩
theorem EvA.nil(b:Nat):EvA b #[]:=.inl fun e Y=>by simp_all
theorem EvA.one(b i:Nat)(wr:Bool)(H:i<2):EvA b #[⟨.cell ⟨b,i,none⟩,wr,true⟩]:=.inl fun e Y=>by simp_all
theorem EvA.two(b i:Nat)(H:i<2):EvA b #[⟨.cell ⟨b,i,none⟩,false,true⟩,⟨.cell ⟨b,i,none⟩,true,true⟩]:=.inl fun e Y=>by
 simp at Y;rcases Y with rfl|rfl
 ·simp_all
 ·simp_all
theorem EvA.zJ(b i:Nat)(Y:i<2):EvA b (semEvents ⟨b,i,none⟩):=.inr ⟨i,Y,rfl⟩
end Env
def rP(P:Program):Nat->Frame->List Frame->Frame×List Frame
 |0,f,l=>(f,l)
 |n+1,f,l=>match f.todo with
  |.inLoop _::_|.code (.loop _)::_=>(oF P f l).getD (f,l)
  |_=>match oF P f l with
   |some (f1,l1)=>rP P n f1 l1
   |none=>(f,l)
theorem Tz.A5{U:Nat->Nat->Prop}{D:(Nat->Prop)->(Nat->Prop)->Goroutine->World->Prop}:∀n {f:Frame} {l:List _} {w:World},(∀w2,gK U S w w2->Tz P main U D S X (G (rP P n f l).1 (rP P n f l).2) w2)->Tz P main U D S X (G f l) w
 |0,f,l,w,h=>h w (.refl _ _ _)
 |n+1,f,l,w,h=>by
  unfold rP at h;have one:(∀w2,gK U S w w2->Tz P main U D S X (G ((oF P f l).getD (f,l)).1 ((oF P f l).getD (f,l)).2) w2)->Tz P main U D S X (G f l) w:=by
   intro h;cases e:oF P f l with
   |none=>rw[e]at h;exact h w (.refl _ _ _)
   |some x=>
    rw[e]at h;exact Tz.one rfl fun w2 hr=>⟨_,w2,#[],S,X,tu e,jc S X w2,h w2 hr⟩
  split at h
  ·simp_all
  ·simp_all
  ·split at h
   ·rename_i f1 l1 e;refine Tz.one rfl fun w2 hr=>⟨_,w2,#[],S,X,tu e,jc S X w2,Tz.A5 n fun w3 Y=>h w3 (hr.trans Y)⟩
   ·simp_all
def Ky(s:Nat->Option _)(j:Nat->Value):=((List.range 139).map fun i=>(s i).getD (j i)).toArray
def lf(site:List Item)(s:Nat->Option Value)(j:Nat->Value):Frame:={fn:=205,tmps:=Ky s j,todo:=site,defers:=[],mode:=.run,kind:=.normal}
structure Fr(site:List Item)(s:Nat->Option Value)(f:Frame):Prop where
 fn:f.fn=205
 todo:f.todo=site
 defers:f.defers=[]
 mode:f.mode=.run
 kind:f.kind=.normal
 round:f.roundOf=none
 size:f.tmps.size=139
 slot:∀i v,s i=some v->f.tmps.getD i undef=v
theorem Fr.eq{site:List _}{s:Nat->Option _}(h:Fr site s f):f=lf site s (fun i=>f.tmps.getD i undef):=by
 obtain⟨fn,tmps,todo,defers,mode,kind,ro⟩:=f;obtain⟨D,R,I,A,U,B,K,H⟩:=h;congr 1;apply Array.ext
 ·simp[Ky,K]
 ·intro i Y _;simp[Ky,List.getElem_toArray,List.getElem_map,List.getElem_range];cases e:s i with
  |none=>simp[aB Y]
  |some v=>
   rw[<-H i v e];simp[aB Y]
def sA(al:List (Nat×Value))(i:Nat):=al.lookup i
structure rQ where
 callers:List Frame
 fn:FuncId
 todo:List Item
 defers:List Deferred
 mode:FrameMode
 kind:CallKind
 round:Option Nat
 size:Nat
 apm:List Value
 call:Option (FuncId×Array Value)
 load:Option (TypeId×Value)
def look(ks:List Nat)(r:Frame×List Frame):rQ:=⟨r.2,r.1.fn,r.1.todo,r.1.defers,r.1.mode,r.1.kind,r.1.roundOf,r.1.tmps.size,ks.map (r.1.tmps.getD · undef),ahead r.1,qK r.1⟩
def ki(l:List Frame)(site:List Item)(al:List (Nat×Value))(call:Option (FuncId×Array Value))(load:Option (TypeId×Value)):rQ:=⟨l,205,site,[],.run,.normal,none,139,al.map (·.2),call,load⟩
theorem HD{al:List _}{g:Nat->Value}(h:al.map (fun x=>g x.1)=al.map (·.2)):∀i v,al.lookup i=some v->g i=v:=by
 induction al with
 |nil=>intro i v e;cases e
 |cons x al Y=>
  obtain⟨k,y⟩:=x;simp only[List.map_cons,List.cons.injEq]at h;intro i v e;rw[List.lookup_cons]at e;by_cases hk:i=k
  ·simp_all
  ·have:(i==k)=false:=by simp_all
   simp_all
structure oq(l:List Frame)(site:List Item)(al:List (Nat×Value))(call:Option (FuncId×Array Value))(load:Option (TypeId×Value))(r:Frame×List Frame):Prop where
 callers:r.2=l
 fr:Fr site (sA al) r.1
 call:ahead r.1=call
 load:qK r.1=load
theorem stands{r:Frame×List _}{l:List _}{site:List _}{al:List _}{call:Option _}{load:Option _}(h:look (al.map (·.1)) r=ki l site al call load):oq l site al call load r:=by
 simp only[look,ki,rQ.mk.injEq,List.map_map]at h;obtain⟨H,D,R,I,A,U,B,C,F,Y,K⟩:=h;exact⟨H,⟨D,R,I,A,U,B,C,HD F⟩,Y,K⟩
theorem jb{α Y:Type}{xs:List α}{F G:α->Y}(h:xs.map F=xs.map G){x:α}(H:x∈xs):F x=G x:=by simp_all
noncomputable abbrev PR:=Tryz.prog
def iW(Fd:Nat)(gy:Int)(sv aw:Bool)(it:Int):List (Nat×Value):=[(0,.pointer (some ⟨Fd,0,none⟩)),(2,.int .i64 gy),(3,.bool sv),(4,.bool aw),(5,.int .i64 it)]
def rX(Fd:Nat)(gy:Int)(sv aw:Bool)(it old:Int):=(6,.int .i32 old)::iW Fd gy sv aw it
def ptr(Fd:Nat):Value:=.pointer (some ⟨Fd,0,none⟩)
def jz(i:Nat):=undef
def Qr (Fd:Nat) (l:List _):=gF PR 60 (Frame.enter PR 205 #[ptr Fd] .normal) l
def JW:=(Qr 0 []).1.todo
def zf:=(rP PR 60 ((Qr 0 []).1.finish (.int .i32 0)) []).1.todo
def zg (Fd:Nat) (gy:Int) (sv aw:Bool) (it old:Int) (j:Nat->Value) (l:List _):=gF PR 300 (lf zf (sA (rX Fd gy sv aw it old)) j) l
def Ik:=(zg 0 0 false false 0 1 jz []).1.todo
def Jk:=(zg 0 0 false false 0 0 jz []).1.todo
def Lg(Fd:Nat)(gy:Int)(sv aw:Bool)(it old:Int):=(17,.bool true)::rX Fd gy sv aw it old
def tC (Fd:Nat) (gy:Int) (sv aw:Bool) (it old:Int) (b:Bool) (j:Nat->Value) (l:List _):=gF PR 300 ((lf Ik (sA (Lg Fd gy sv aw it old)) j).finish (.bool b)) l
def Jl:=(tC 0 0 false false 0 9 true jz []).1.todo
def yV:=(tC 0 0 false false 0 1 true jz []).1.todo
def Lh(Fd:Nat)(gy:Int)(sv aw:Bool)(it old:Int):=(33,.bool true)::rX Fd gy sv aw it old
def Sp (Fd:Nat) (gy:Int) (sv aw:Bool) (it old:Int) (b:Bool) (j:Nat->Value) (l:List _):=gF PR 300 ((lf Jl (sA (Lh Fd gy sv aw it old)) j).finish (.bool b)) l
def Sq (Fd:Nat) (gy:Int) (sv aw:Bool) (it:Int) (j:Nat->Value) (l:List _):=gF PR 300 ((lf yV (sA (iW Fd gy sv aw it)) j).finish (.tuple #[])) l
def Jm:=(Sq 0 0 false false 0 jz []).1.todo
def yW (Fd:Nat) (gy:Int) (sv aw:Bool) (it old:Int) (b:Bool) (j:Nat->Value) (l:List _):=gF PR 300 ((lf Jk (sA (rX Fd gy sv aw it old)) j).finish (.bool b)) l
def DK:=(yW 0 0 false false 0 0 false jz []).1.todo
def DN:=(yW 0 0 false false 0 0 true jz []).1.todo
def Sr:=(yW 0 0 false false 0 1 true jz []).1.todo
def DR:=(yW 0 1 false false 0 1 true jz []).1.todo
section
variable{Fd:Nat}{gy it old:Int}{sv aw:Bool}{j:Nat->Value}{l:List Frame}
theorem ZJ:look [6,0,2,3,4,5] (rP PR 60 ((lf JW (sA (iW Fd gy sv aw it)) j).finish (.int .i32 old)) l)=ki l zf (rX Fd gy sv aw it old) none none:=by kernel_rfl
theorem Yw:look [6,0,2,3,4,5] (rP PR 60 ((lf Jm (sA (iW Fd gy sv aw it)) j).finish (.int .i32 old)) l)=ki l zf (rX Fd gy sv aw it old) none none:=by kernel_rfl
theorem Yx:look [6,0,2,3,4,5] (rP PR 60 ((lf DK (sA (iW Fd gy sv aw it)) j).finish (.int .i32 old)) l)=ki l zf (rX Fd gy sv aw it old) none none:=by kernel_rfl
def spins:=(List.range 72).filter fun i=>i%2==1&&i/4%2==0
theorem acL:(spins.map fun i:Nat=>look [17,6,0,2,3,4,5] (zg Fd gy sv aw it i j l))=spins.map fun i:Nat=>ki l Ik (Lg Fd gy sv aw it (i:Int)) (some (214,#[.int .i64 it])) none:=by kernel_rfl
theorem aeM:look [0,2,3,4,5] (Sq Fd gy sv aw it j l)=ki l Jm (iW Fd gy sv aw (IntKind.i64.wrap (it+1))) none (some (21,ptr Fd)):=by kernel_rfl
theorem acM:look [0,2,3,4,5] (Sp Fd gy sv aw it old true j l)=ki l yV (iW Fd gy sv true it) (some (215,#[])) none:=by kernel_rfl
theorem acN:look [0,2,3,4,5] (Sp Fd gy sv aw it old false j l)=ki l yV (iW Fd gy sv aw it) (some (215,#[])) none:=by kernel_rfl
theorem acO:look [0,2,3,4,5] (yW Fd gy sv aw it old false j l)=ki l DK (iW Fd gy sv aw it) none (some (21,ptr Fd)):=by kernel_rfl
end
end Ph
end
end Go.Proofs.YtdcjnhipenbcfaaGreatDoor
