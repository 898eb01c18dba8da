/-
  Own text. Part 7 of what the claim rests on.
-/
import Derived.Maps.OwnSet
import Derived.Conc.Events
import Derived.Shelf.Strings.OnBuilder
import Derived.Shelf.SlIterI.Nil
import Derived.Shelf.SortM.Plain
import Derived.Shelf.SortM.SortNone
import Derived.Ground.GgzProg
import Derived.Ground.SlgmProg
import Derived.Test.YtdcjnhipenbcfaaGreatDoorProg
import Derived.Shelf.Strings.Builder1
import Derived.Shelf.Small.Strs
import Derived.Shelf.LaysM
import Derived.Shelf.Strconv.Itoa3
import Derived.OwnWalk
import Derived.Test.YtdcjnhipenbcfaaGreatDoorPk6
set_option linter.unusedVariables false
set_option linter.unusedSectionVars false
set_option linter.unusedSimpArgs false
set_option maxRecDepth 100000
set_option maxHeartbeats 16000000
open Array renaming getElem?_eq_some_iff->amp,getElem?_setIfInBounds_ne->amq,getElem?_eq_none->amx,getElem?_setIfInBounds_self_of_lt->amV,getElem?_map->anh,getElem?_eq_getElem->ans
open Bool renaming not_eq_true->amv,noConfusion->anC
open Go.Addr renaming add->aol
open Go.Frame renaming enter->am1
open Go.Instr renaming mapUpdate->aml,lookup->amz,findNow->amU,findKey->anK,keyThatStays->anT,makeSlice->aon
open Go.Lib renaming IsBuilder->amD,byteCells->amE,cell_of_heap->amT,strCells->anA,BuilderAt->anR,frozen_of_heap->an8
open Go.Lib.BuilderAt renaming put->aoi
open Go.MapKept renaming run_getObj_map->amo,run_setObj_map->anD
open Go.MemAct renaming ofEvent->am0,touch?->anm
open Go.Oper renaming upon_value->aoo
open Go.Proofs.Tryz renaming prog->ami,underlying3->amm,zeroValue3->amn,underlying0->amu,sizeOf3->amA,underlying100->amB,zeroValue0->amC,underlying79->amF,isAgg3->amH,underlying9->amI,sizeOf0->amQ,underlying5->amS,isAgg0->amW,zeroValue9->amX,zeroValue5->amY,underlying4->am2,zeroValue79->am4,zeroValue4->ana,sizeOf9->anc,sizeOf5->ane,isAgg9->anf,isAgg5->ang,underlying102->ank,underlying159->anl,sizeOf79->ann,zeroValue100->ano,zeroValue102->anq,underlying25->anr,sizeOf4->anw,isAgg79->anx,zeroValue25->anz,isAgg4->anE,sizeOf100->anF,sizeOf102->anG,isAgg100->anL,isAgg102->anM,sizeOf25->anQ,underlying139->anW,underlying170->anZ,isAgg25->an0,underlying204->an5,underlying185->an6,underlying176->an7,underlying20->aob,zeroValue139->aoc,zeroValue170->aod,zeroValue204->aof,zeroValue185->aog,zeroValue176->aoh,zeroValue20->aok,f140->aox
open Go.Proofs.YtdcjnhipenbcfaaGreatDoor.Ph.AF renaming rely->am6
open Go.Proofs.YtdcjnhipenbcfaaGreatDoor.Ph.Tz renaming quiet->amk,one->amt,eR->amw
open Go.Proofs.YtdcjnhipenbcfaaGreatDoor.Ph.jf renaming closes->aow
open Go.Proofs.YtdcjnhipenbcfaaGreatDoor.Ren.aP renaming trans->anu
open Go.Proofs.YtdcjnhipenbcfaaGreatDoor.Ren.aZ renaming tree->aot
open Go.Result renaming andThen->anH
open Go.RowKit.Below renaming refl->anJ
open Go.Sem renaming events->amG
open Go.World renaming cell?->amr
open Int renaming ofNat_lt->anS
open List renaming length_append->amP,getElem?_eq_getElem->amZ,foldl_cons->am_,mem_of_getElem?->anI,take_length->aoj,length_map->aos
open Nat renaming lt_of_lt_of_le->amj,le_refl->ams,not_lt_zero->amJ,le_trans->am7,zero_add->ant,lt_of_not_le->anv,eq_zero_or_pos->anU
open Option renaming map_eq_some_iff->amy
open Option.some renaming inj->aom
namespace Go.Proofs.YtdcjnhipenbcfaaGreatDoor
variable {bd:Bool}{NM m mk s:ByteArray}{f f1:Frame}{fn:FuncId}{cs l:List Frame}{k0 kk:List Item}{L ks l1 l2:List Nat}{Z:Loc->Prop}{B Fd a cap clock i k n nb p q r u:Nat}{XX:Nat->Nat->Prop}{RO S X':Nat->Prop}{y:Operand}{t t':TypeId}{v z:Value}{w w' w2 wr:World}
namespace Ph
open Conc Ren
section
variable(E:Env)(RO:Nat->Prop)(rq:World)(work:Value)(c:Frame)(cs:List Frame)
def ah8(ch:Nat)(g:Goroutine)(w:World):=g=G (Fa ch E.Wg work) []/\Wa E RO rq w
def ah9(S X:Nat->Prop)(g:Goroutine)(w:World):=∃n f l,g=G f l/\bD PR n f l=(c.finish unit,cs)/\Wa E RO rq w/\(∀a,RO a->S a)/\(∀a,RO a->¬X a)
end
section
variable{E:Env}{RO:Nat->Prop}{rq:World}{Gv:Nat}{J:jf}{b:Option Addr}{cap:Nat}{work:Value}{c:Frame}{cs:List Frame}
structure Dl(E:Env)(RO:Nat->Prop)(rq:World)(Gv:Nat)(J:jf)(b:Option Addr):Prop where
 n0:0<J.n
 n8:J.n<=8
 len:J.ay.length<1000000
 nu:∀i,¬E.U Gv i
 gw:Gv≠E.Wg
 gro:¬RO Gv
 wgr:RO E.Wg
 wg0:E.ui rq
 apb:∀a i,E.U a i->a<rq.heap.size
 num:∀i x:Nat,J.ay[i]?=some x->∃Nb o,b=some ⟨Nb,o,none⟩/\RO Nb/\¬E.U Nb (o+i)/\∀w,Wa E RO rq w->w.cell? ⟨Nb,o+i,none⟩=some (.int .i64 (x:Int))
abbrev Ru(E:Env)(J:jf)(b:Option _)(cap:Nat)(work:Value)(Gv:Nat):=im (cX b J.ay.length cap) J.n work E.Wg Gv
abbrev TD(E:Env)(RO:Nat->Prop)(rq:World)(J:jf)(work:Value)(c:Frame)(cs:List _)(k:Nat)(d:pJ)(S X:Nat->Prop)(f:Frame)(w:World):=
 E.Tree PR true (E.lh PR J (ah8 E RO rq work) (ah9 E RO rq c cs) k d) S X (G f (c::cs)) w
theorem ah_(D:Dl E RO rq Gv J b)(hL:L.length=J.n):∀(m i:Nat),i+m=J.n->∀(k:Nat) (S X:Nat->Prop) (f:Frame) (w:World),uo 137 55 AK (sA (Oj (Ru E J b cap work Gv) Gv J.n i)) f->f.tmps.getD 49 undef=.bool (decide (i<J.n))->DW E RO rq Gv J.n L L S X w->
  TD E RO rq J work c cs k (J.closes L i) S X f w:=by
 intro m;induction m with
 |zero=>
  intro i hi k S X f w hf h49 hw;have e0:J.closes L i=.kd:=by unfold aow;rw[if_neg (by omega)]
  rw[e0];rw[decide_eq_false (by omega)]at h49;refine amt rfl fun w1 dE=>⟨_,w1,#[],S,X,oM hf.mode hf.round (by rw[hf.kind];nofun) (hf.todo.trans t3) h49,aL _ _ _,?_⟩;have tY:uo 137 55 (no AK) (sA (Oj (Ru E J b cap work Gv) Gv J.n i)) {f with todo:=.code (.exit 4)::AK.tail}:=by
   have:=hf.dQ (yj:=.code (.exit 4)::AK.tail);rw[<-n3]at this;rw[<-n3];exact this
  change E.Tree PR true _ S X (G {f with todo:=.code (.exit 4)::AK.tail} (c::cs)) w1;rw[tY.eq];generalize(fun i=>({f with todo:=.code (.exit 4)::AK.tail}:Frame).tmps.getD i undef)=J1;refine amw 60 fun w2 fU=>?_;change E.Tree PR true _ S X (G (RC2 b J.ay.length cap J.n i E.Wg Gv work J1 (c::cs)).1 (RC2 b J.ay.length cap J.n i E.Wg Gv work J1 (c::cs)).2) w2;have hs:=cm (rc2 (b:=b) (len:=J.ay.length) (cap:=cap) (n:=J.n) (i:=i) (Wg:=E.Wg) (Gv:=Gv) (work:=work) (J:=J1) (l:=c::cs)) rfl;rw[hs.callers,hs.fr.eq];refine Tz.pure 1 fun w3 bV=>?_;rw[aht];have Gc:=((hw.rely D.nu dE).rely D.nu fU).rely D.nu bV;refine Env.XZ ⟨fun h hr=>h.rely D.nu hr,fun h=>Env.ui.rely D.wg0 D.wgr h.fx,fun h h1 he h2=>h.Ap D.gw h1 he h2⟩ (fun q f' l' w' hF hp=>?_) k Gc;exact⟨q+3,f',l',rfl,by rw[Ou,hp];exact ac7,hF.fx,hF.ro,hF.Ds⟩
 |succ m ih=>
  intro i hi k S X f w hf h49 hw;have aV:i<J.n:=by omega
  have e0:J.closes L i=.close L i:=by unfold aow;rw[if_pos (by omega)]
  rw[e0];rw[decide_eq_true aV]at h49;obtain⟨ch,F5⟩:∃ch,L[i]?=some ch:=⟨L[i],amZ (by omega)⟩;refine amt rfl fun w1 dE=>⟨_,w1,#[],S,X,oM hf.mode hf.round (by rw[hf.kind];nofun) (hf.todo.trans t3) h49,aL _ _ _,?_⟩;have tY:uo 137 55 (yes AK) (sA (Oj (Ru E J b cap work Gv) Gv J.n i)) {f with todo:=.code .skip::AK.tail}:=by
   have:=hf.dQ (yj:=.code .skip::AK.tail);rw[<-y3]at this;rw[<-y3];exact this
  change E.Tree PR true _ S X (G {f with todo:=.code .skip::AK.tail} (c::cs)) w1;rw[tY.eq];generalize(fun i=>({f with todo:=.code .skip::AK.tail}:Frame).tmps.getD i undef)=J1;refine amw 60 fun w2 fU=>?_;change E.Tree PR true _ S X (G (RI5 b J.ay.length cap J.n i E.Wg Gv work J1 (c::cs)).1 (RI5 b J.ay.length cap J.n i E.Wg Gv work J1 (c::cs)).2) w2;have hs:=cm (ri5 (b:=b) (len:=J.ay.length) (cap:=cap) (n:=J.n) (i:=i) (Wg:=E.Wg) (Gv:=Gv) (work:=work) (J:=J1) (l:=c::cs)) rfl;rw[hs.callers,hs.fr.eq];generalize(fun j=>(RI5 b J.ay.length cap J.n i E.Wg Gv work J1 (c::cs)).1.tmps.getD j undef)=J2;clear hs;have nP:=(hw.rely D.nu dE).rely D.nu fU;refine amt rfl fun w3 bV=>⟨_,w3,#[],S,X,uQ (i:=i) ahA (B:=Gv) (o:=0) (n:=J.n) (cap:=J.n) rfl rfl aV Yj z213,aL _ _ _,?_⟩;rw[ant];refine amw 60 fun w4 lQ=>?_;change E.Tree PR true _ S X (G (RL5 b J.ay.length cap J.n i E.Wg Gv work J2 (c::cs)).1 (RL5 b J.ay.length cap J.n i E.Wg Gv work J2 (c::cs)).2) w4;have hs:=cm (rl5 (b:=b) (len:=J.ay.length) (cap:=cap) (n:=J.n) (i:=i) (Wg:=E.Wg) (Gv:=Gv) (work:=work) (J:=J2) (l:=c::cs)) rfl;have E1:=hs.load;rw[hs.callers];rw[hs.fr.eq]at E1⊢;generalize(fun j=>(RL5 b J.ay.length cap J.n i E.Wg Gv work J2 (c::cs)).1.tmps.getD j undef)=J3 at E1⊢;clear hs;have Uw:=(nP.rely D.nu bV).rely D.nu lQ;refine amt rfl fun w5 lT=>?_;have Ov:=Uw.rely D.nu lT;have fF:w5.cell? ⟨Gv,i,none⟩=some (.chan (some ch)):=by
   simp only[amr,Ov.gv];exact Fl F5
  refine⟨_,w5,_,S,X,ez E1 Mq fF Qt,km Ov.gs (D.nu _),?_⟩;refine amw 60 fun w6 tC=>?_;change E.Tree PR true _ S X (G (RCl b J.ay.length cap J.n i E.Wg Gv ch work J3 (c::cs)).1 (RCl b J.ay.length cap J.n i E.Wg Gv ch work J3 (c::cs)).2) w6;have hs:=cm (rcl (b:=b) (len:=J.ay.length) (cap:=cap) (n:=J.n) (i:=i) (Wg:=E.Wg) (Gv:=Gv) (ch:=ch) (work:=work) (J:=J3) (l:=c::cs)) rfl;rw[hs.callers,hs.fr.eq];generalize(fun j=>(RCl b J.ay.length cap J.n i E.Wg Gv ch work J3 (c::cs)).1.tmps.getD j undef)=J4;clear hs;have hw6:=Ov.rely D.nu tC;refine .stop ?_;cases k with
  |zero=>trivial
  |succ k=>
   refine⟨rfl,rfl,T8 aaj,ch,F5,fun w7 s pW bg=>⟨_,rfl,X3 aaj rfl bg Qt,?_⟩⟩;have hw7:=hw6.rely D.nu pW;have hns:¬S ch:=(hw7.lch ch (anI F5)).1;have Fo:DW E RO rq Gv J.n L L S X (w7.setChan ch 0 #[] true s s false):=hw7.rely D.nu (jF hns);refine amw 60 fun w9 L4=>?_;change E.Tree PR true _ S X (G _ (ahs b J.ay.length cap J.n i E.Wg Gv ch work J4 (c::cs)).2) w9;have hs:=cm (aoN (b:=b) (len:=J.ay.length) (cap:=cap) (n:=J.n) (i:=i) (Wg:=E.Wg) (Gv:=Gv) (ch:=ch) (work:=work) (J:=J4) (l:=c::cs)) rfl;have hn8:=D.n8;have IG:=hs.fr;rw[qo (by omega)]at IG;rw[hs.callers];refine ih (i+1) (by omega) k S X _ w9 (IG.less fun q v hv=>?_) ((IG.slot 49 _ rfl).trans ?_) (Fo.rely D.nu L4)
   ·exact sM (b:=[(49,.bool _)]) hv
   ·simp only[anS]
theorem aib(D:Dl E RO rq Gv J b)(hL:L.length=J.n):∀(m i:Nat),i+m=J.ay.length->∀(k:Nat) (S X:Nat->Prop) (f:Frame) (w:World),uo 137 55 AJ (sA (Oi (Ru E J b cap work Gv) (cX b J.ay.length cap) J.ay.length i)) f->f.tmps.getD 34 undef=.bool (decide (i<J.ay.length))->DW E RO rq Gv J.n L L S X w->
  TD E RO rq J work c cs k (J.sends L i) S X f w:=by
 intro m;induction m with
 |zero=>
  intro i hi k S X f w hf h34 hw;have e0:J.sends L i=J.closes L 0:=by
   unfold jf.sends aow;rw[if_neg (by omega),if_pos (by rw[hL];exact D.n0)]
  rw[e0];rw[decide_eq_false (by omega)]at h34;refine amt rfl fun w1 dE=>⟨_,w1,#[],S,X,oM hf.mode hf.round (by rw[hf.kind];nofun) (hf.todo.trans t2) h34,aL _ _ _,?_⟩;have tY:uo 137 55 (no AJ) (sA (Oi (Ru E J b cap work Gv) (cX b J.ay.length cap) J.ay.length i)) {f with todo:=.code (.exit 2)::AJ.tail}:=by
   have:=hf.dQ (yj:=.code (.exit 2)::AJ.tail);rw[<-n2]at this;rw[<-n2];exact this
  change E.Tree PR true _ S X (G {f with todo:=.code (.exit 2)::AJ.tail} (c::cs)) w1;rw[tY.eq];generalize(fun i=>({f with todo:=.code (.exit 2)::AJ.tail}:Frame).tmps.getD i undef)=J1;refine amw 60 fun w2 fU=>?_;change E.Tree PR true _ S X (G _ (RK3 b J.ay.length cap J.n i E.Wg Gv work J1 (c::cs)).2) w2;have hs:=cm (rk3 (b:=b) (len:=J.ay.length) (cap:=cap) (n:=J.n) (i:=i) (Wg:=E.Wg) (Gv:=Gv) (work:=work) (J:=J1) (l:=c::cs)) rfl;rw[hs.callers];refine ah_ (cap:=cap) D hL J.n 0 (by omega) k S X _ w2 (hs.fr.less fun q v hv=>?_) ((hs.fr.slot 49 _ rfl).trans ?_) ((hw.rely D.nu dE).rely D.nu fU)
  ·exact sM hv
  ·congr 1;simp
 |succ m ih=>
  intro i hi k S X f w hf h34 hw;have aV:i<J.ay.length:=by omega
  have e0:J.sends L i=.send L i:=by unfold jf.sends;rw[if_pos aV]
  rw[e0];rw[decide_eq_true aV]at h34;obtain⟨x,hx⟩:∃x,J.ay[i]?=some x:=⟨J.ay[i],amZ aV⟩;obtain⟨Nb,o,hb,hNr,hNu,hNc⟩:=D.num i x hx;have hml:i%J.n<J.n:=Nat.mod_lt _ D.n0;obtain⟨ch,F5⟩:∃ch,L[i%J.n]?=some ch:=⟨L[i%J.n],amZ (by omega)⟩;have hlen:=D.len;refine amt rfl fun w1 dE=>⟨_,w1,#[],S,X,oM hf.mode hf.round (by rw[hf.kind];nofun) (hf.todo.trans t2) h34,aL _ _ _,?_⟩;have tY:uo 137 55 (yes AJ) (sA (Oi (Ru E J b cap work Gv) (cX b J.ay.length cap) J.ay.length i)) {f with todo:=.code .skip::AJ.tail}:=by
   have:=hf.dQ (yj:=.code .skip::AJ.tail);rw[<-y2]at this;rw[<-y2];exact this
  change E.Tree PR true _ S X (G {f with todo:=.code .skip::AJ.tail} (c::cs)) w1;rw[tY.eq];generalize(fun i=>({f with todo:=.code .skip::AJ.tail}:Frame).tmps.getD i undef)=J1;refine amw 60 fun w2 fU=>?_;change E.Tree PR true _ S X (G (RI3 b J.ay.length cap J.n i E.Wg Gv work J1 (c::cs)).1 (RI3 b J.ay.length cap J.n i E.Wg Gv work J1 (c::cs)).2) w2;have hs:=cm (ri3 (b:=b) (len:=J.ay.length) (cap:=cap) (n:=J.n) (i:=i) (Wg:=E.Wg) (Gv:=Gv) (work:=work) (J:=J1) (l:=c::cs)) rfl;rw[hs.callers,hs.fr.eq];generalize(fun j=>(RI3 b J.ay.length cap J.n i E.Wg Gv work J1 (c::cs)).1.tmps.getD j undef)=J2;clear hs;have nP:=(hw.rely D.nu dE).rely D.nu fU;have apc:(dF sI3 (aI3 (Ru E J b cap work Gv) (cX b J.ay.length cap) J.ay.length i) J2).eval (.tmp 31)=.slice (some ⟨Nb,o,none⟩) J.ay.length cap:=by
   show cX b J.ay.length cap=_
   rw[hb];rfl
  refine amt rfl fun w3 bV=>⟨_,w3,#[],S,X,uQ (i:=i) ahy apc rfl aV u25 z25,aL _ _ _,?_⟩;refine amw 60 fun w4 lQ=>?_;change E.Tree PR true _ S X (G (RL3 b J.ay.length cap J.n i E.Wg Gv ⟨Nb,o+i,none⟩ work J2 (c::cs)).1 (RL3 b J.ay.length cap J.n i E.Wg Gv ⟨Nb,o+i,none⟩ work J2 (c::cs)).2) w4;have hs:=cm (rl3 (b:=b) (len:=J.ay.length) (cap:=cap) (n:=J.n) (i:=i) (Wg:=E.Wg) (Gv:=Gv) (p:=⟨Nb,o+i,none⟩) (work:=work) (J:=J2) (l:=c::cs)) rfl;have E1:=hs.load;rw[hs.callers];rw[hs.fr.eq]at E1⊢;generalize(fun j=>(RL3 b J.ay.length cap J.n i E.Wg Gv ⟨Nb,o+i,none⟩ work J2 (c::cs)).1.tmps.getD j undef)=J3 at E1⊢;clear hs;have Uw:=(nP.rely D.nu bV).rely D.nu lQ;refine amt rfl fun w5 lT=>?_;have Ov:=Uw.rely D.nu lT;refine⟨_,w5,_,S,X,ez E1 IJ (hNc w5 Ov.fx) Qt,km (Ov.ro _ hNr) hNu,?_⟩;refine amw 60 fun w6 tC=>?_;change E.Tree PR true _ S X (G (RR b J.ay.length cap J.n i x E.Wg Gv ⟨Nb,o+i,none⟩ work J3 (c::cs)).1 (RR b J.ay.length cap J.n i x E.Wg Gv ⟨Nb,o+i,none⟩ work J3 (c::cs)).2) w6;have hs:=cm (rr (b:=b) (len:=J.ay.length) (cap:=cap) (n:=J.n) (i:=i) (x:=x) (Wg:=E.Wg) (Gv:=Gv) (p:=⟨Nb,o+i,none⟩) (work:=work) (J:=J3) (l:=c::cs)) rfl;rw[hs.callers,hs.fr.eq];generalize(fun j=>(RR b J.ay.length cap J.n i x E.Wg Gv ⟨Nb,o+i,none⟩ work J3 (c::cs)).1.tmps.getD j undef)=J4;clear hs;have hw6:=Ov.rely D.nu tC;refine amt rfl fun w7 pW=>⟨_,w7,#[],S,X,T7 (i:=i) (n:=J.n) aoO rfl rfl D.n0 (by omega),aL _ _ _,?_⟩;generalize hm:i%J.n=mm at F5 hml⊢;refine amw 60 fun w8 CO=>?_;change E.Tree PR true _ S X (G (RI4 b J.ay.length cap J.n i x mm E.Wg Gv work J4 (c::cs)).1 (RI4 b J.ay.length cap J.n i x mm E.Wg Gv work J4 (c::cs)).2) w8;have hs:=cm (ri4 (b:=b) (len:=J.ay.length) (cap:=cap) (n:=J.n) (i:=i) (x:=x) (m:=mm) (Wg:=E.Wg) (Gv:=Gv) (work:=work) (J:=J4) (l:=c::cs)) rfl;rw[hs.callers,hs.fr.eq];generalize(fun j=>(RI4 b J.ay.length cap J.n i x mm E.Wg Gv work J4 (c::cs)).1.tmps.getD j undef)=J5;clear hs;have Fo:=(hw6.rely D.nu pW).rely D.nu CO;refine amt rfl fun w9 L4=>⟨_,w9,#[],S,X,uQ (i:=mm) ahz (B:=Gv) (o:=0) (n:=J.n) (cap:=J.n) rfl rfl hml Yj z213,aL _ _ _,?_⟩;rw[ant];refine amw 60 fun wA BR=>?_;change E.Tree PR true _ S X (G (RL4 b J.ay.length cap J.n i x mm E.Wg Gv work J5 (c::cs)).1 (RL4 b J.ay.length cap J.n i x mm E.Wg Gv work J5 (c::cs)).2) wA;have hs:=cm (rl4 (b:=b) (len:=J.ay.length) (cap:=cap) (n:=J.n) (i:=i) (x:=x) (m:=mm) (Wg:=E.Wg) (Gv:=Gv) (work:=work) (J:=J5) (l:=c::cs)) rfl;have E1:=hs.load;rw[hs.callers];rw[hs.fr.eq]at E1⊢;generalize(fun j=>(RL4 b J.ay.length cap J.n i x mm E.Wg Gv work J5 (c::cs)).1.tmps.getD j undef)=J6 at E1⊢;clear hs;have hwA:=(Fo.rely D.nu L4).rely D.nu BR;refine amt rfl fun wB Qe=>?_;have hwB:=hwA.rely D.nu Qe;have fF:wB.cell? ⟨Gv,mm,none⟩=some (.chan (some ch)):=by
   simp only[amr,hwB.gv];exact Fl F5
  refine⟨_,wB,_,S,X,ez E1 Mq fF Qt,km hwB.gs (D.nu _),?_⟩;refine amw 60 fun wC hrC=>?_;change E.Tree PR true _ S X (G (RS b J.ay.length cap J.n i x mm E.Wg Gv ch work J6 (c::cs)).1 (RS b J.ay.length cap J.n i x mm E.Wg Gv ch work J6 (c::cs)).2) wC;have hs:=cm (rs (b:=b) (len:=J.ay.length) (cap:=cap) (n:=J.n) (i:=i) (x:=x) (m:=mm) (Wg:=E.Wg) (Gv:=Gv) (ch:=ch) (work:=work) (J:=J6) (l:=c::cs)) rfl;rw[hs.callers,hs.fr.eq];generalize(fun j=>(RS b J.ay.length cap J.n i x mm E.Wg Gv ch work J6 (c::cs)).1.tmps.getD j undef)=J7;clear hs;have hwC:=hwB.rely D.nu hrC;refine .stop ?_;cases k with
  |zero=>trivial
  |succ k=>
   refine⟨rfl,rfl,ch,x,by rw[hm];exact F5,hx,undef,fun wD s hrD bg=>Di aoL,fun wD hrD=>?_⟩;refine amw 60 fun wE hrE=>?_;change E.Tree PR true _ S X (G _ (ahr b J.ay.length cap J.n i x E.Wg Gv ch work J7 (c::cs)).2) wE;have hs:=cm (aoM (b:=b) (len:=J.ay.length) (cap:=cap) (n:=J.n) (i:=i) (x:=x) (Wg:=E.Wg) (Gv:=Gv) (ch:=ch) (work:=work) (J:=J7) (l:=c::cs)) rfl;have IG:=hs.fr;rw[qo (by omega)]at IG;rw[hs.callers];refine ih (i+1) (by omega) k S X _ wE (IG.less fun q v hv=>?_) ((IG.slot 34 _ rfl).trans ?_) ((hwC.rely D.nu hrD).rely D.nu hrE)
   ·exact sM (b:=[(34,.bool _)]) hv
   ·simp only[anS]
end
section
variable{E:Env}{RO:Nat->Prop}{rq:World}{Gv:Nat}{J:jf}{b:Option Addr}{cap:Nat}{work:Value}{c:Frame}{cs:List Frame}
theorem aX{row:Array _}(h:w.heap[B]?=some (.cells row t)):(w.setCell ⟨B,i,none⟩ v).heap[B]?=some (.cells (row.setIfInBounds i v) t):=Env.iS h
theorem aie(D:Dl E RO rq Gv J b):∀(m:Nat) (L:List Nat),L.length+m=J.n->∀(k:Nat) (S X:Nat->Prop) (f:Frame) (w:World),uo 137 55 zo (sA (J_ (Ru E J b cap work Gv) J.n L.length)) f->f.tmps.getD 18 undef=.bool (decide (L.length<J.n))->DW E RO rq Gv J.n L L S X w->
  TD E RO rq J work c cs k (J.cE L) S X f w:=by
 intro m;induction m with
 |zero=>
  intro L hL k S X f w hf Ux hw;have e0:J.cE L=J.sends L 0:=by unfold jf.cE;rw[if_neg (by omega)]
  rw[e0];rw[show decide (L.length<J.n)=false from decide_eq_false (by omega)]at Ux;refine amt rfl fun w1 dE=>⟨_,w1,#[],S,X,oM hf.mode hf.round (by rw[hf.kind];nofun) (hf.todo.trans t1) Ux,aL _ _ _,?_⟩;have tY:uo 137 55 (no zo) (sA (J_ (Ru E J b cap work Gv) J.n L.length)) {f with todo:=.code (.exit 0)::zo.tail}:=by
   have:=hf.dQ (yj:=.code (.exit 0)::zo.tail);rw[<-n1]at this;rw[<-n1];exact this
  change E.Tree PR true _ S X (G {f with todo:=.code (.exit 0)::zo.tail} (c::cs)) w1;rw[tY.eq];generalize(fun i=>({f with todo:=.code (.exit 0)::zo.tail}:Frame).tmps.getD i undef)=J1;refine amw 60 fun w2 fU=>?_;change E.Tree PR true _ S X (G _ (RK2 b J.ay.length cap J.n L.length E.Wg Gv work J1 (c::cs)).2) w2;have hs:=cm (rk2 (b:=b) (len:=J.ay.length) (cap:=cap) (n:=J.n) (i:=L.length) (Wg:=E.Wg) (Gv:=Gv) (work:=work) (J:=J1) (l:=c::cs)) rfl;rw[hs.callers];refine aib (cap:=cap) D (by omega) J.ay.length 0 (by omega) k S X _ w2 (hs.fr.less fun q v hv=>?_) ((hs.fr.slot 34 _ rfl).trans ?_) ((hw.rely D.nu dE).rely D.nu fU)
  ·exact sM hv
  ·congr 1;simp
 |succ m ih=>
  intro L hL k S X f w hf Ux hw;have hn8:=D.n8;have aV:L.length<J.n:=by omega
  have e0:J.cE L=.st L:=by unfold jf.cE;rw[if_pos aV]
  rw[e0];rw[show decide (L.length<J.n)=true from decide_eq_true aV]at Ux;refine amt rfl fun w1 dE=>⟨_,w1,#[],S,X,oM hf.mode hf.round (by rw[hf.kind];nofun) (hf.todo.trans t1) Ux,aL _ _ _,?_⟩;have tY:uo 137 55 (yes zo) (sA (J_ (Ru E J b cap work Gv) J.n L.length)) {f with todo:=.code .skip::zo.tail}:=by
   have:=hf.dQ (yj:=.code .skip::zo.tail);rw[<-y1]at this;rw[<-y1];exact this
  change E.Tree PR true _ S X (G {f with todo:=.code .skip::zo.tail} (c::cs)) w1;rw[tY.eq];generalize(fun i=>({f with todo:=.code .skip::zo.tail}:Frame).tmps.getD i undef)=J1;refine amw 60 fun w2 fU=>?_;change E.Tree PR true _ S X (G (RMK b J.ay.length cap J.n L.length E.Wg Gv work J1 (c::cs)).1 (RMK b J.ay.length cap J.n L.length E.Wg Gv work J1 (c::cs)).2) w2;have hs:=cm (rmk (b:=b) (len:=J.ay.length) (cap:=cap) (n:=J.n) (j:=L.length) (Wg:=E.Wg) (Gv:=Gv) (work:=work) (J:=J1) (l:=c::cs)) rfl;rw[hs.callers,hs.fr.eq];generalize(fun j=>(RMK b J.ay.length cap J.n L.length E.Wg Gv work J1 (c::cs)).1.tmps.getD j undef)=J2;clear hs;have nP:=(hw.rely D.nu dE).rely D.nu fU;refine amt rfl fun w3 bV=>⟨_,_,#[],_,_,step_mk aho rfl,xe _,?_⟩;have Gc:=nP.rely D.nu bV;generalize F5:w3.heap.size=ch;have hcu:∀i,¬E.U ch i:=fun i hu=>by
   have h1:=D.apb _ _ hu;have h2:=Gc.fx.grow;omega
  have hcS:¬S ch:=fun y=>by have:=Gc.low _ y;omega
  have hcR:¬RO ch:=fun y=>hcS (Gc.ro _ y);have hcG:ch≠Gv:=fun y=>hcS (y▸Gc.gs);have sz4:(w3.alloc (.chan 0 #[] false 0 0 false)).heap.size=ch+1:=by simp[F5]
  have Uw:DW E RO rq Gv J.n L L (fun a=>S a\/a=ch) (fun a=>X a\/a=ch) (w3.alloc (.chan 0 #[] false 0 0 false)):=by
   refine⟨fun a ha=>.inl (Gc.ro a ha),fun a ha y=>y.elim (Gc.Ds a ha) fun e=>hcR (e▸ha),.inl Gc.gs,.inl Gc.gx,?_,?_,fun a ha=>?_,fun a ha=>?_⟩
   ·rw[heap_alloc_old w3 _ (Gc.low _ Gc.gs)];exact Gc.gv
   ·refine anu Gc.fx ⟨fun a ha=>.inl (heap_alloc_old w3 _ (Gc.low _ (Gc.ro a ha))),by simp,.refl _⟩
   ·rw[sz4];rcases ha with y|y
    ·have:=Gc.low a y;omega
    ·omega
   ·have h1:=Gc.lch a ha;refine⟨fun y=>y.elim h1.1 fun e=>?_,by rw[sz4];omega⟩;omega
  have ho4:gq (w3.alloc (.chan 0 #[] false 0 0 false)) ch 0:=by
   unfold gq;rw[<-F5];exact heap_alloc_new w3 _
  refine amw 60 fun w5 lT=>?_;change E.Tree PR true _ _ _ (G (RI1 b J.ay.length cap J.n L.length E.Wg Gv ch work J2 (c::cs)).1 (RI1 b J.ay.length cap J.n L.length E.Wg Gv ch work J2 (c::cs)).2) w5;have hs:=cm (ri1 (b:=b) (len:=J.ay.length) (cap:=cap) (n:=J.n) (j:=L.length) (Wg:=E.Wg) (Gv:=Gv) (ch:=ch) (work:=work) (J:=J2) (l:=c::cs)) rfl;rw[hs.callers,hs.fr.eq];generalize(fun j=>(RI1 b J.ay.length cap J.n L.length E.Wg Gv ch work J2 (c::cs)).1.tmps.getD j undef)=J3;clear hs;have Ov:=Uw.rely D.nu lT;have opn:∀{w w2:World},gq w ch 0->aP E.U (fun a=>S a\/a=ch) w w2->gq w2 ch 0:=fun h hr=>((hr.kept ch (.inr rfl)).eq hcu).trans h;have ho5:=opn ho4 lT;refine amt rfl fun w6 tC=>⟨_,w6,#[],_,_,uQ (i:=L.length) ahv (B:=Gv) (o:=0) (n:=J.n) (cap:=J.n) rfl rfl aV Yj z213,aL _ _ _,?_⟩;rw[ant];refine amw 60 fun w7 pW=>?_;change E.Tree PR true _ _ _ (G (RS1 b J.ay.length cap J.n L.length E.Wg Gv ch work J3 (c::cs)).1 (RS1 b J.ay.length cap J.n L.length E.Wg Gv ch work J3 (c::cs)).2) w7;have hs:=cm (Rl (b:=b) (len:=J.ay.length) (cap:=cap) (n:=J.n) (j:=L.length) (Wg:=E.Wg) (Gv:=Gv) (ch:=ch) (work:=work) (J:=J3) (l:=c::cs)) rfl;rw[hs.callers,hs.fr.eq];generalize(fun j=>(RS1 b J.ay.length cap J.n L.length E.Wg Gv ch work J3 (c::cs)).1.tmps.getD j undef)=J4;clear hs;have hw7:=(Ov.rely D.nu tC).rely D.nu pW;have ho7:=opn (opn ho5 tC) pW;refine amt rfl fun w8 CO=>?_;have Fo:=hw7.rely D.nu CO;have ho8:=opn ho7 CO;have aA:=EN (main:=true) (cs:=c::cs) (w:=w8) (f:=dF sS1 (aS1 (Ru E J b cap work Gv) Gv J.n L.length ch) J4) ahw (B:=Gv) (i:=L.length) (v:=some ch) rfl rfl Fo.gv (by rw[Qu _ _ (by omega)];exact aV) Qt;have qm:Env.Eff Gv w8 (w8.setCell ⟨Gv,L.length,none⟩ (.chan (some ch))):=dW _;refine⟨_,_,_,_,_,aA,qO Fo.gs Fo.gx D.nu qm (fun ev pF=>by simp_all),?_⟩;have hw9:DW E RO rq Gv J.n (L++[ch]) L (fun a=>S a\/a=ch) (fun a=>X a\/a=ch) (w8.setCell ⟨Gv,L.length,none⟩ (.chan (some ch))):=by
   refine⟨Fo.ro,Fo.Ds,Fo.gs,Fo.gx,?_,anu Fo.fx ⟨fun a ha=>.inl (qm.heap a fun e=>D.gro (e▸ha)),Nat.le_of_eq qm.size.symm,qm.env⟩,fun a ha=>by rw[qm.size];exact Fo.low a ha,fun a ha=>by rw[qm.size];exact Fo.lch a ha⟩;rw[aX Fo.gv,Uv _ _ _ aV]
  have ho9:=(qm.heap ch hcG).trans ho8;clear aA qm;refine amw 60 fun wA BR=>?_;change E.Tree PR true _ _ _ (G (RC1 b J.ay.length cap J.n L.length E.Wg Gv ch work J4 (c::cs)).1 (RC1 b J.ay.length cap J.n L.length E.Wg Gv ch work J4 (c::cs)).2) wA;have hs:=cm (rc1 (b:=b) (len:=J.ay.length) (cap:=cap) (n:=J.n) (j:=L.length) (Wg:=E.Wg) (Gv:=Gv) (ch:=ch) (work:=work) (J:=J4) (l:=c::cs)) rfl;rw[hs.callers,hs.fr.eq];generalize(fun j=>(RC1 b J.ay.length cap J.n L.length E.Wg Gv ch work J4 (c::cs)).1.tmps.getD j undef)=J5;clear hs;refine Tz.pure 1 fun wB Qe=>?_;rw[ahu];have hwB:=(hw9.rely D.nu BR).rely D.nu Qe;have hoB:=opn (opn ho9 BR) Qe;refine Env.XY (Fx:=fun w=>DW E RO rq Gv J.n (L++[ch]) L (fun a=>S a\/a=ch) (fun a=>X a\/a=ch) w/\gq w ch 0) (ch:=ch) ⟨fun h hr=>⟨h.1.rely D.nu hr,opn h.2 hr⟩,fun h=>Env.ui.rely D.wg0 D.wgr h.1.fx,fun h h1 he h2=>⟨h.1.Ap D.gw h1 he h2,(he.heap ch fun e=>hcR (e▸D.wgr)).trans h.2⟩⟩ (by omega) (fun k wC hC=>?_) k ⟨hwB,hoB⟩;obtain⟨hwC,hoC⟩:=hC;refine amw 60 fun wD hrD=>?_;change E.Tree PR true _ _ _ (G (RI2 b J.ay.length cap J.n L.length E.Wg Gv work J5 (c::cs)).1 (RI2 b J.ay.length cap J.n L.length E.Wg Gv work J5 (c::cs)).2) wD;have hs:=cm (ri2 (b:=b) (len:=J.ay.length) (cap:=cap) (n:=J.n) (j:=L.length) (Wg:=E.Wg) (Gv:=Gv) (work:=work) (J:=J5) (l:=c::cs)) rfl;rw[hs.callers,hs.fr.eq];generalize(fun j=>(RI2 b J.ay.length cap J.n L.length E.Wg Gv work J5 (c::cs)).1.tmps.getD j undef)=J6;clear hs;have hwD:=hwC.rely D.nu hrD;have hoD:=opn hoC hrD;refine amt rfl fun wE hrE=>⟨_,wE,#[],_,_,uQ (i:=L.length) ahx (B:=Gv) (o:=0) (n:=J.n) (cap:=J.n) rfl rfl aV Yj z213,aL _ _ _,?_⟩;rw[ant];refine amw 60 fun wF hrF=>?_;change E.Tree PR true _ _ _ (G (RL2 b J.ay.length cap J.n L.length E.Wg Gv work J6 (c::cs)).1 (RL2 b J.ay.length cap J.n L.length E.Wg Gv work J6 (c::cs)).2) wF;have hs:=cm (rl2 (b:=b) (len:=J.ay.length) (cap:=cap) (n:=J.n) (j:=L.length) (Wg:=E.Wg) (Gv:=Gv) (work:=work) (J:=J6) (l:=c::cs)) rfl;have E1:=hs.load;rw[hs.callers];rw[hs.fr.eq]at E1⊢;generalize(fun j=>(RL2 b J.ay.length cap J.n L.length E.Wg Gv work J6 (c::cs)).1.tmps.getD j undef)=J7 at E1⊢;clear hs;have hwF:=(hwD.rely D.nu hrE).rely D.nu hrF;have hoF:=opn (opn hoD hrE) hrF;refine amt rfl fun wG hrG=>?_;have hwG:=hwF.rely D.nu hrG;have hoG:=opn hoF hrG;have fF:wG.cell? ⟨Gv,L.length,none⟩=some (.chan (some ch)):=by
   simp only[amr,hwG.gv];exact Fl (by simp)
  refine⟨_,wG,_,_,_,ez E1 Mq fF Qt,km hwG.gs (D.nu _),?_⟩;refine amw 60 fun wH hrH=>?_;change E.Tree PR true _ _ _ (G (RG b J.ay.length cap J.n L.length E.Wg Gv ch work J7 (c::cs)).1 (RG b J.ay.length cap J.n L.length E.Wg Gv ch work J7 (c::cs)).2) wH;have hs:=cm (z87 (b:=b) (len:=J.ay.length) (cap:=cap) (n:=J.n) (j:=L.length) (Wg:=E.Wg) (Gv:=Gv) (ch:=ch) (work:=work) (J:=J7) (l:=c::cs)) rfl;rw[hs.callers,hs.fr.eq];generalize(fun j=>(RG b J.ay.length cap J.n L.length E.Wg Gv ch work J7 (c::cs)).1.tmps.getD j undef)=J8;clear hs;have hwH:=hwG.rely D.nu hrH;have hoH:=opn hoG hrH;refine .stop ?_;cases k with
  |zero=>trivial
  |succ k=>
   refine⟨rfl,rfl,.inr rfl,.inr rfl,fun wI hrI=>⟨opn hoH hrI,_,_,Lq aoA,⟨rfl,(hwH.rely D.nu hrI).fx⟩,?_⟩⟩;have Wb:=hwH.rely D.nu hrI;have hwJ:DW E RO rq Gv J.n (L++[ch]) (L++[ch]) (fun a=>(S a\/a=ch)/\a≠ch) (fun a=>(X a\/a=ch)/\a≠ch) wI:=by
    refine⟨fun a ha=>⟨Wb.ro a ha,fun e=>hcR (e▸ha)⟩,fun a ha y=>Wb.Ds a ha y.1,⟨Wb.gs,fun e=>hcG e.symm⟩,⟨Wb.gx,fun e=>hcG e.symm⟩,Wb.gv,Wb.fx,fun a ha=>Wb.low a ha.1,fun a ha=>?_⟩;have hm:a∈L\/a=ch:=by simpa using ha
    rcases hm with y|rfl
    ·exact⟨fun z=>(Wb.lch a y).1 z.1,(Wb.lch a y).2⟩
    ·exact⟨fun z=>z.2 rfl,Wb.low _ (.inr rfl)⟩
   refine amw 60 fun wK hrK=>?_;change E.Tree PR true _ _ _ (G _ (ahn b J.ay.length cap J.n L.length E.Wg Gv ch work J8 (c::cs)).2) wK;have hs:=cm (aoB (b:=b) (len:=J.ay.length) (cap:=cap) (n:=J.n) (j:=L.length) (Wg:=E.Wg) (Gv:=Gv) (ch:=ch) (work:=work) (J:=J8) (l:=c::cs)) rfl;have IG:=hs.fr;rw[qo (by omega)]at IG;rw[hs.callers];have ns:(L++[ch]).length=L.length+1:=by simp
   refine ih (L++[ch]) (by rw[ns];omega) k _ _ _ wK (IG.less fun q v hv=>?_) ((IG.slot 18 _ rfl).trans ?_) (hwJ.rely D.nu hrK)
   ·rw[ns]at hv;exact sM (b:=[(18,.bool _)]) hv
   ·rw[ns];simp only[anS]
end
noncomputable def Yk:=match aox.body with
 |some (.seq _ (.seq _ (.seq _ (.block _ (.loop c)))))=>c
 |_=>.skip
noncomputable def ad3:=match aox.body with
 |some (.seq _ (.seq _ (.seq _ (.block _ (.loop (.seq r3 _))))))=>r3
 |_=>.skip
noncomputable def ad8:=match aox.body with
 |some (.seq _ (.seq _ (.seq _ (.block _ (.loop (.seq _ (.seq _ (.seq _ r8))))))))=>r8
 |_=>.skip
theorem aif:Ud=[.code (.block 0 (.loop Yk))]:=by kernel_rfl
theorem apk:Yk=.seq ad3 (.seq (.cond (.tmp 18) .skip (.exit 0)) (.seq (.block 1 (.seq ad4 (.seq ad5 (.seq ad6 (.cond (.tmp 38) ad7 .skip))))) ad8)):=by kernel_rfl
section
variable{U:Nat->Nat->Prop}{D:(Nat->Prop)->(Nat->Prop)->Goroutine->World->Prop}{S X:Nat->Prop}{Fd:Nat}
theorem Uy{b:Frame}{k:List _}{cs:List _}(hk:b.kind≠.early)(dd:List _)(v1 v5 ko:Value)(u:Nat->Value)(i n:Nat)
  (cont:∀w2 u',aP U S w w2->u' 18=.bool (decide (i<n))->Tz ami false U D S X (G (b.at ⟨BS Fd v1 v5 ko (.int .i64 n) (.int .i64 i) u',dd⟩ k) cs) w2):
  Tz ami false U D S X (G (b.at ⟨BS Fd v1 v5 ko (.int .i64 n) (.int .i64 i) u,dd⟩ (.code ad3::k)) cs) w:=by
 have key:∀w2,aP U S w w2->Tz _ _ U D S X (G (b.at ⟨BS Fd v1 v5 ko _ _ (fun j=>if j=18 then .bool _ else u j),dd⟩ k) cs) w2:=fun w2 hr=>cont w2 _ hr (if_pos rfl);simp[BS];refine Tz.region fun w1 dE=>?_;refine Tz.opk rfl (by rfl) hk fun w2 fU K hK=>?_;have hK2:=hK _ w2 ⟨S,X,(by rw[listed_nil (by simp[go_sem])];exact aL _ _ _),Tz.xd fun w3 bV=>key w3 ((dE.trans fU).trans bV)⟩
 go_simp
 exact hK2
theorem aih{b:Frame}{k:List Item}(hk:b.kind≠.early)(dd:List Deferred)(v1 v5 ko lq:Value)(u:Nat->Value)(i:Nat)(hi:i<=100000)
  (cont:∀w2 u',aP U S w w2->Tz ami false U D S X (G (b.at ⟨BS Fd v1 v5 ko lq (.int .i64 ((i+1:Nat):Int)) u',dd⟩ k) cs) w2):
  Tz ami false U D S X (G (b.at ⟨BS Fd v1 v5 ko lq (.int .i64 i) u,dd⟩ (.code ad8::k)) cs) w:=by
 have key:=fun w2 hr=>by
  have h:=cont w2 (fun j=>if j=47 then .int .i64 (i+1)else u j) hr;exact h
 have j1:IntKind.i64.wrap _=i+1:=Go.IntWalk.i64_in _ (by omega);simp only[BS];refine Tz.region fun w1 dE=>?_;refine Tz.opk rfl (by rfl) hk fun w2 fU K hK=>?_
 go_simp
 refine hK _ _ ⟨S,X,?_,?_⟩
 ·rw[listed_nil (by simp[go_sem])];exact aL _ _ _
 refine Tz.opk rfl (by rfl) hk fun w3 bV K hK=>?_;refine hK _ _ ⟨S,X,?_,?_⟩
 ·rw[listed_nil (by simp[go_sem])];exact aL _ _ _
 exact Tz.xd fun w4 lQ=>key w4 (((dE.trans fU).trans bV).trans lQ)
end
theorem asW(Fd b5:Nat)(v1 ko lq nG:Value)(u:Nat->Value):rK Fd b5 v1 ko lq nG u=BS Fd v1 (.pointer (some ⟨b5,0,none⟩)) ko lq nG u:=rfl
section
variable{U:Nat->Nat->Prop}{D:(Nat->Prop)->(Nat->Prop)->Goroutine->World->Prop}{S X:Nat->Prop}{Fd g Mp:Nat}{e d x:Int}{bo:Bool}{o o':Option Obj}
theorem Yl{b:Frame}(hb:b.fn=140)(hk:b.kind≠.early)(dd:List Deferred)(v1 v5:Value)(u:Nat->Value)(i n cap:Nat)(hi:i<n)(hn:n<=1000)
  (Ut:S g)(hSF:S Fd)(Ql:S Mp)(hXM:X Mp)(hu2:¬U Fd 2)(II:∀i,¬U g i)(Uz:∀i,¬U Mp i)(hFM:Fd≠Mp)(hUl:∀b i,U b i->b<w.heap.size)(hSl:∀a,S a->a<w.heap.size)
  (hc0:w.cell? ⟨g,i *2,none⟩=some (.int .i64 e))(fq:w.cell? ⟨g,i *2+1,none⟩=some (.int .i64 d))(hm:w.cell? ⟨Fd,2,none⟩=some (.map (some Mp)))(ho:w.heap[Mp]?=o)
  (Mo:∀w,w.heap[Mp]?=o->(amz 166 (.map (some Mp)) (.int .i64 e) true).run ami w=.ok (.tuple #[.int .i64 x,.bool bo]) w)
  (apm:∀w,w.heap[Mp]?=o->∀ev∈amG ami (amz 166 (.map (some Mp)) (.int .i64 e) true) w #[],ev.loc=.obj Mp/\ev.sync=false/\ev.write=false)
  (hup:∀w,w.heap[Mp]?=o->∃v w',(aml 166 (.map (some Mp)) (.int .i64 e) (.int .i64 d)).run ami w=.ok v w'/\Env.Eff Mp w w'/\w'.heap[Mp]?=o')
  (apn:∀w,w.heap[Mp]?=o->∀ev∈amG ami (aml 166 (.map (some Mp)) (.int .i64 e) (.int .i64 d)) w #[],ev.loc=.obj Mp/\ev.sync=false)
  (cont:∀nb w2 u',w.heap.size<=nb->(∀i,¬U nb i)->AF Fd Mp nb e d (if(!bo||decide (d<x))=true then o' else o) w2->
   Tz ami false U D (fun a=>S a\/a=nb) (fun a=>X a\/a=nb) (G (b.at ⟨BS Fd v1 (.pointer (some ⟨nb,0,none⟩)) (.slice (some ⟨g,0,none⟩) n cap) (.int .i64 (n:Int)) (.int .i64 ((i+1:Nat):Int)) u',dd⟩ kk) cs) w2):
  Tz ami false U D S X (G (b.at ⟨BS Fd v1 v5 (.slice (some ⟨g,0,none⟩) n cap) (.int .i64 (n:Int)) (.int .i64 (i:Int)) u,dd⟩ (.code Yk::kk)) cs) w:=by
 refine amk rfl (fun _=>stepG_seq) fun w1 dE=>?_;refine Uy hk dd v1 v5 _ u i n fun w2 u2 fU Ux=>?_;refine amk rfl (fun _=>stepG_seq) fun w3 bV=>?_;have pF:Act.eval ⟨BS Fd v1 v5 (.slice (some ⟨g,0,none⟩) n cap) (.int .i64 n) (.int .i64 i) u2,dd⟩ (.tmp 18)=.bool true:=by
  show u2 18=_
  simp_all
 refine amk rfl (fun _=>stepG_cond pF) fun w4 lQ=>?_;refine amk rfl (fun _=>stepG_skip) fun w5 lT=>?_;refine amk rfl (fun _=>stepG_seq) fun w6 tC=>?_;refine amk rfl (fun _=>stepG_block) fun w7 pW=>?_;refine amk rfl (fun _=>stepG_seq) fun w8 CO=>?_;have BR:=((((((dE.trans fU).trans bV).trans lQ).trans lT).trans tC).trans pW).trans CO;refine ah6 hb hk dd v1 v5 _ u2 i n cap hi Ut (fun wz hr=>⟨dG Ut (II _) hc0 (BR.trans hr),dG Ut (II _) fq (BR.trans hr)⟩) II (fun b i hu=>amj (hUl b i hu) BR.grow) (fun a ha=>amj (hSl a ha) BR.grow) fun nb w9 u3 Uu aii d0 d1 aV L4=>?_;have Qe:=BR.trans L4;have hnw:=am7 BR.grow Uu;have H:Fj U (fun a=>S a\/a=nb) Fd Mp nb:=⟨.inl hSF,.inl Ql,.inr rfl,hu2,aii,Uz⟩;have hnM:nb≠Mp:=fun ee=>by have:=hSl Mp Ql;omega
 have hA9:AF Fd Mp nb e d o w9:=⟨dG hSF hu2 hm Qe,d0,d1,((Qe.kept Mp Ql).eq Uz).trans ho⟩;refine amk rfl (fun _=>stepG_seq) fun w10 apo=>?_;have apq:=am6 H hA9 apo;obtain⟨k5,h5⟩:=ah1 H dd v1 _ _ _ u3 x bo (fun w h=>Mo w h.o) (fun w h=>apm w h.o);refine Tz.wpC (h5 w10 apq) hb hk fun a' w0 w11 hM apr=>?_;obtain⟨⟨u5,h6,h7,rfl⟩,hA0⟩:=hM;have aps:=am6 H hA0 apr;refine amk rfl (fun _=>stepG_seq) fun w12 apt=>?_;have apu:=am6 H aps apt;have six:∃k6,∀w,AF Fd Mp nb e d o w->ad6.wpC ami false (RU U fun a=>S a\/a=nb) (DU U (fun a=>S a\/a=nb) fun a=>X a\/a=nb) 140 k6 (fun ex a' w'=>ex=.normal/\(∃u',u' 38=.bool (!bo||decide (d<x))/\a'=⟨rK Fd nb v1 (.slice (some ⟨g,0,none⟩) n cap) (.int .i64 n) (.int .i64 i) u',dd⟩)/\AF Fd Mp nb e d o w') ⟨rK Fd nb v1 (.slice (some ⟨g,0,none⟩) n cap) (.int .i64 n) (.int .i64 i) u5,dd⟩ w:=by
  cases bo with
  |false=>exact ac4 H dd _ _ _ _ u5 h7
  |true=>exact Yh H dd _ _ _ _ u5 h7 x h6
 obtain⟨k6,h6'⟩:=six;refine Tz.wpC (h6' w12 apu) hb hk fun a' w0 w13 hM apw=>?_;obtain⟨⟨u6,h38,rfl⟩,hB0⟩:=hM;have apx:=am6 H hB0 apw;refine amk rfl (fun _=>stepG_cond (by exact h38)) fun w14 apy=>?_;have aik:=am6 H apx apy;have last:∀w15 u7,AF Fd Mp nb e d (if(!bo||decide (d<x))=true then o' else o) w15->Tz ami false U D (fun a=>S a\/a=nb) (fun a=>X a\/a=nb) (G (b.at ⟨rK Fd nb v1 (.slice (some ⟨g,0,none⟩) n cap) (.int .i64 n) (.int .i64 i) u7,dd⟩ (.inBlock 1:: .code ad8::kk)) cs) w15:=by
  intro w15 u7 hA;refine amk rfl (fun _=>stepG_inBlock) fun w16 apz=>?_;exact aih hk dd _ _ _ _ u7 i (by omega) fun w17 u8 apA=>cont nb w17 u8 hnw aii (am6 H (am6 H hA apz) apA)
 cases ht:(!bo||decide (d<x))with
 |true=>
  rw[ht]at last;obtain⟨k7,h7'⟩:=ah3 (X:=fun a=>X a\/a=nb) H (.inl hXM) hFM hnM dd v1 _ _ _ u6 o' hup apn;refine Tz.wpC (h7' w14 aik) hb hk fun a' w0 w15 hM ac_=>?_;obtain⟨⟨u7,rfl⟩,hC0⟩:=hM;exact last w15 u7 (am6 H hC0 ac_)
 |false=>
  rw[ht]at last;refine amk rfl (fun _=>stepG_skip) fun w15 ac_=>?_;exact last w15 u6 (am6 H aik ac_)
end
structure LJ(U:Nat->Nat->Prop)(Fd Mp g:Nat)(og:Option Obj)(S X:Nat->Prop)(w:World):Prop where
 sl:∀a,S a->a<w.heap.size
 ul:∀b i,U b i->b<w.heap.size
 og:w.heap[g]?=og
 sg:S g
 xg:¬X g
 sf:S Fd
 sm:S Mp
 xm:X Mp
theorem LJ.step{U:Nat->Nat->Prop}{Fd Mp g:Nat}{og:Option Obj}{S X S1 X1:Nat->Prop}{w w2 w1:World}{es:Array _}(II:∀i,¬U g i)(h:LJ U Fd Mp g og S X w)(hr:aP U S w w2)(hd:Did S X w2 w1 es S1 X1):LJ U Fd Mp g og S1 X1 w1:=by
 have fS:=amj (h.sl g h.sg) hr.grow;refine⟨fun a ha=>?_,fun b i hu=>amj (h.ul b i hu) (am7 hr.grow hd.grow),?_,(hd.held g).2 (.inl h.sg),fun y=>?_,(hd.held Fd).2 (.inl h.sf),(hd.held Mp).2 (.inl h.sm),(hd.may Mp).2 (.inl h.xm)⟩
 ·rcases(hd.held a).1 ha with y|y
  ·exact amj (h.sl a y) (am7 hr.grow hd.grow)
  ·omega
 ·rw[hd.kept g fS h.xg,(hr.kept g h.sg).eq II,h.og]
 ·rcases(hd.may g).1 y with z|z
  ·exact h.xg z
  ·omega
section
variable{U:Nat->Nat->Prop}{D:(Nat->Prop)->(Nat->Prop)->Goroutine->World->Prop}{Fd g Mp n cap:Nat}{cur:Array Value}{E Dd:Nat->Int}
theorem UA{b:Frame}(hb:b.fn=140)(hk:b.kind≠.early)(dd:List Deferred)(v1:Value)(hn:n<=1000)(hu2:¬U Fd 2)(II:∀i,¬U g i)(Uz:∀i,¬U Mp i)(hFM:Fd≠Mp)
  (M:Nat->Option Obj->Prop)(Qv:∀i,i<n->cur[i *2]?=some (.int .i64 (E i))/\cur[i *2+1]?=some (.int .i64 (Dd i)))
  (Jx:(Nat->Prop)->(Nat->Prop)->World->Prop)(hJx:∀S X w w2 w1 es S1 X1,Jx S X w->aP U S w w2->Did S X w2 w1 es S1 X1->Jx S1 X1 w1)(hJr:∀S X w w2,Jx S X w->aP U S w w2->Jx S X w2)
  (law:∀i o,i<n->M i o->∃x bo o',(∀w,w.heap[Mp]?=o->(amz 166 (.map (some Mp)) (.int .i64 (E i)) true).run ami w=.ok (.tuple #[.int .i64 x,.bool bo]) w)/\
   (∀w,w.heap[Mp]?=o->∀ev∈amG ami (amz 166 (.map (some Mp)) (.int .i64 (E i)) true) w #[],ev.loc=.obj Mp/\ev.sync=false/\ev.write=false)/\
   (∀w,w.heap[Mp]?=o->∃v w',(aml 166 (.map (some Mp)) (.int .i64 (E i)) (.int .i64 (Dd i))).run ami w=.ok v w'/\Env.Eff Mp w w'/\w'.heap[Mp]?=o')/\
   (∀w,w.heap[Mp]?=o->∀ev∈amG ami (aml 166 (.map (some Mp)) (.int .i64 (E i)) (.int .i64 (Dd i))) w #[],ev.loc=.obj Mp/\ev.sync=false)/\
   M (i+1) (if(!bo||decide (Dd i<x))=true then o' else o))
  (fin:∀S X v5 u w,LJ U Fd Mp g (some (.cells cur 173)) S X w->Jx S X w->M n (w.heap[Mp]?)->Tz ami false U D S X (G (b.at ⟨BS Fd v1 v5 (.slice (some ⟨g,0,none⟩) n cap) (.int .i64 (n:Int)) (.int .i64 (n:Int)) u,dd⟩ k0) cs) w):
  ∀(m i:Nat),i+m=n->∀S X v5 u w,LJ U Fd Mp g (some (.cells cur 173)) S X w->Jx S X w->w.cell? ⟨Fd,2,none⟩=some (.map (some Mp))->M i (w.heap[Mp]?)->
   Tz ami false U D S X (G (b.at ⟨BS Fd v1 v5 (.slice (some ⟨g,0,none⟩) n cap) (.int .i64 (n:Int)) (.int .i64 i) u,dd⟩ (.code Yk:: .inLoop Yk:: .inBlock 0::k0)) cs) w
 |0,i,hi,S,X,v5,u,w,hL,hx,hm,hM=>by
  obtain rfl:i=n:=by omega
  refine amk rfl (fun _=>stepG_seq) fun w1 dE=>?_;refine Uy hk dd v1 v5 _ u i i fun w2 u2 fU Ux=>?_;refine amk rfl (fun _=>stepG_seq) fun w3 bV=>?_;have pF:Act.eval ⟨BS Fd v1 v5 (.slice (some ⟨g,0,none⟩) i cap) (.int .i64 i) (.int .i64 i) u2,dd⟩ (.tmp 18)=.bool false:=by
   show u2 18=_
   rw[Ux,decide_eq_false (Nat.lt_irrefl i)]
  refine amk rfl (fun _=>stepG_cond pF) fun w4 lQ=>?_;refine amk rfl (fun _=>stepG_exit rfl) fun w5 lT=>?_;have BR:=(((dE.trans fU).trans bV).trans lQ).trans lT;refine fin S X v5 u2 w5 ?_ (hJr _ _ _ _ hx BR) (by rw[(BR.kept Mp hL.sm).eq Uz];exact hM);exact LJ.step II hL BR (aL (U:=U) S X w5).toDid
 |m+1,i,hi,S,X,v5,u,w,hL,hx,hm,hM=>by
  obtain⟨x,bo,o',l1,l2,l3,l4,l5⟩:=law i _ (by omega) hM;obtain⟨c0,c1⟩:=Qv i (by omega);have hr:=Yl (D:=fun S' X' g' w'=>∃nb u',w.heap.size<=nb/\(∀i,¬U nb i)/\AF Fd Mp nb _ _ _ w'/\g'=G (b.at ⟨BS Fd v1 (.pointer (some ⟨nb,0,none⟩)) _ _ _ u',dd⟩ (.inLoop Yk:: .inBlock 0::k0)) cs)
   hb hk dd v1 v5 u i n cap (by omega) hn hL.sg hL.sf hL.sm hL.xm hu2 II Uz hFM hL.ul hL.sl (by rw[cell_of_row _ _ _ _ _ _ hL.og];exact c0) (by rw[cell_of_row _ _ _ _ _ _ hL.og];exact c1) hm rfl l1 l2 l3 l4 (fun nb w2 u' h1 h2 h3=>.stop ⟨nb,u',h1,h2,h3,rfl⟩)
  refine(Tz.inv (fun S X w=>LJ U Fd Mp g _ S X w/\Jx S X w) (fun S X w w2 w1 es S1 X1 hj hr hd=>⟨hj.1.step II hr hd,hJx _ _ _ _ _ _ _ _ hj.2 hr hd⟩) hr ⟨hL,hx⟩).bind fun S' X' g' w' hd=>?_;obtain⟨⟨nb,u',h1,h2,h3,rfl⟩,KN,F_⟩:=hd;refine amk rfl (fun _=>stepG_inLoop) fun w2 fU=>?_;refine UA hb hk dd v1 hn hu2 II Uz hFM M Qv Jx hJx hJr law fin m _ (by omega) S' X' _ u' w2 (LJ.step II KN fU (aL (U:=U) S' X' w2).toDid) (hJr _ _ _ _ F_ fU) (dG KN.sf hu2 h3.m fU) ?_;rw[(fU.kept Mp KN.sm).eq Uz,h3.o];exact l5
end
section
variable{P:Program}{main:Bool}{U:Nat->Nat->Prop}{D D':(Nat->Prop)->(Nat->Prop)->Goroutine->World->Prop}{S X SF XF:Nat->Prop}{g:Goroutine}{w:World}
theorem Tz.more(h:Tz P main U D S X g w)(k:∀S X g w,D S X g w->Tz P main U D' (fun a=>S a\/SF a) (fun a=>X a\/XF a) g w):Tz P main U D' (fun a=>S a\/SF a) (fun a=>X a\/XF a) g w:=by
 induction h with
 |stop hd=>exact k _ _ _ _ hd
 |@step S X g w hs ex _ ih=>
  refine amt hs fun w2 hr=>?_;have F7:aP U S w w2:=⟨fun a ha=>hr.kept a (.inl ha),hr.grow,hr.env⟩;obtain⟨g1,w1,es,S1,X1,e,hd⟩:=ex w2 F7;refine⟨g1,w1,es,fun a=>S1 a\/SF a,fun a=>X1 a\/XF a,e,⟨⟨fun a ha hx=>hd.kept a ha fun y=>hx (.inl y),hd.grow,fun a=>?_,fun a=>?_,fun e he=>Hm (hd.ev e he),hd.tape,hd.env,hd.output⟩,hd.nou⟩,ih w2 g1 w1 es S1 X1 F7 e hd⟩
  ·rw[hd.held];constructor
   ·rintro((y|y)|y)
    ·simp_all
    ·exact .inr y
    ·simp_all
   ·rintro((y|y)|y)
    ·simp_all
    ·exact .inr y
    ·omega
  ·rw[hd.may];constructor
   ·rintro((y|y)|y)
    ·simp_all
    ·exact .inr y
    ·exact .inl (.inr y)
   ·rintro((y|y)|y)
    ·simp_all
    ·exact .inr y
    ·omega
end
section
variable{U:Nat->Nat->Prop}{D:(Nat->Prop)->(Nat->Prop)->Goroutine->World->Prop}{S X:Nat->Prop}{Fd:Nat}
theorem ada{b:Frame}{k0:List _}{cs:List _}(hk:b.kind≠.early)(dd:List _)(v1 v5 ko:Value)(u:Nat->Value)(n:Nat)
  (cont:∀w2 u',aP U S w w2->Tz ami false U D S X (G (b.at ⟨BS Fd v1 v5 ko (.int .i64 n) (.int .i64 n) u',dd⟩ k0) cs) w2):
  Tz ami false U D S X (G (b.at ⟨BS Fd v1 v5 ko (.int .i64 n) (.int .i64 n) u,dd⟩ (.code Yk:: .inLoop Yk:: .inBlock 0::k0)) cs) w:=by
 refine amk rfl (fun _=>stepG_seq) fun w1 dE=>?_;refine Uy hk dd v1 v5 _ u n n fun w2 u2 fU Ux=>?_;refine amk rfl (fun _=>stepG_seq) fun w3 bV=>?_;have pF:Act.eval ⟨BS Fd v1 v5 ko (.int .i64 n) (.int .i64 n) u2,dd⟩ (.tmp 18)=.bool false:=by
  show u2 18=_
  simp_all
 refine amk rfl (fun _=>stepG_cond pF) fun w4 lQ=>?_;refine amk rfl (fun _=>stepG_exit rfl) fun w5 lT=>?_;exact cont w5 u2 ((((dE.trans fU).trans bV).trans lQ).trans lT)
end
def fr0:Frame:=⟨140,#[],[],[],.run,.normal,none⟩
theorem adb(Fd:Nat)(v1 ko lq nG:Value)(j:Nat->Value):TN 48 (sA [(0,ptr Fd),(1,v1),(15,ko),(16,lq),(17,nG)]) j=BS Fd v1 (j 5) ko lq nG j:=by kernel_rfl
theorem Mf.eq{a:Option Addr}(h:Mf Fd a n cap f):∃v5 u,f=fr0.at ⟨BS Fd (.slice a n cap) v5 (.slice a n cap) (.int .i64 (n:Int)) (.int .i64 ((0:Nat):Int)) u,[dcall 161 #[ptr Fd]]⟩ [.code (.block 0 (.loop Yk))]:=by
 obtain⟨fn,tmps,todo,defers,mode,kind,ro⟩:=f;obtain⟨h1,h2,h3,h4,h5,h6,h7,g0,g1,g15,g16,g17⟩:=h;subst h1 h2 h3 h4 h5 h6;have hf:uo 140 48 [] (sA [(0,ptr Fd),(1,.slice a n cap),(15,.slice a n cap),(16,.int .i64 n),(17,.int .i64 0)]) ⟨140,tmps,[],[],.run,.normal,none⟩:=by
  refine⟨rfl,rfl,rfl,rfl,rfl,rfl,h7,fun i v hv=>?_⟩;have:(i,v)∈[(0,ptr Fd),(1,Value.slice a n cap),(15,.slice a n cap),(16,.int .i64 n),(17,.int .i64 0)]:=by
   unfold sA at hv;simp only[List.lookup]at hv
   repeat' split at hv
   all_goals first|(rename_i hb;simp_all)
  simp at this;rcases this with⟨rfl,rfl⟩|⟨rfl,rfl⟩|⟨rfl,rfl⟩|⟨rfl,rfl⟩|⟨rfl,rfl⟩<;>assumption
 have e:=congrArg Frame.tmps hf.eq;simp only[zj]at e;rw[adb]at e;refine⟨tmps.getD 5 undef,fun i=>tmps.getD i undef,?_⟩;exact congrArg (fun t=>(⟨140,t,[.code _],[dcall 161 _],.run,.normal,none⟩:Frame)) e
def Mr(Mp:Nat)(L:List (Nat×Nat))(M:Nat->Option Obj->Prop):Prop:=∀i o,i<L.length->M i o->∃x bo o',
 (∀w,w.heap[Mp]?=o->(amz 166 (.map (some Mp)) (.int .i64 ((L.getD i (0,0)).1:Int)) true).run ami w=.ok (.tuple #[.int .i64 x,.bool bo]) w)/\
 (∀w,w.heap[Mp]?=o->∀ev∈amG ami (amz 166 (.map (some Mp)) (.int .i64 ((L.getD i (0,0)).1:Int)) true) w #[],ev.loc=.obj Mp/\ev.sync=false/\ev.write=false)/\
 (∀w,w.heap[Mp]?=o->∃v w',(aml 166 (.map (some Mp)) (.int .i64 ((L.getD i (0,0)).1:Int)) (.int .i64 ((L.getD i (0,0)).2:Int))).run ami w=.ok v w'/\Env.Eff Mp w w'/\w'.heap[Mp]?=o')/\
 (∀w,w.heap[Mp]?=o->∀ev∈amG ami (aml 166 (.map (some Mp)) (.int .i64 ((L.getD i (0,0)).1:Int)) (.int .i64 ((L.getD i (0,0)).2:Int))) w #[],ev.loc=.obj Mp/\ev.sync=false)/\
 M (i+1) (if(!bo||decide (((L.getD i (0,0)).2:Int)<x))=true then o' else o)
theorem Ym(L:List _)(i:Nat)(hi:i<L.length):(da L)[i *2]?=some (.int .i64 ((L.getD i (0,0)).1))/\(da L)[i *2+1]?=some (.int .i64 ((L.getD i (0,0)).2)):=by
 induction L generalizing i with
 |nil=>simp at hi
 |cons a L ih=>
  cases i with
  |zero=>exact⟨rfl,rfl⟩
  |succ i=>
   rw[show(i+1) *2=i *2+1+1 by omega];exact ih i (by simp_all)
section
variable{E:Env}{ok:Nat->Prop}{RO:Nat->Prop}{Fx:World->Prop}
theorem ade(X P:ByteArray)(k st:Nat)(K:E.AL RO Fx)(bY:∀w,Fx w->(∀b,RO b->b<w.heap.size)/\E.Mp<w.heap.size)(hRF:RO E.Fd)(hRW:RO E.Wg)(hRM:¬RO E.Mp)(hFm:∀w,Fx w->w.cell? ⟨E.Fd,2,none⟩=some (.map (some E.Mp)))(Uz:∀i,¬E.U E.Mp i)(hFM:E.Fd≠E.Mp)
  (hlen:∀x,ok x->(yi X P k st x).length<=1000)(hMc:∀γ c t,¬E.iA γ (some (.cells c t)))
  (law:∀γ x,ok x->∃M:Nat->Option Obj->Prop,(∀o,E.iA γ o->M 0 o)/\(∀o,M (yi X P k st x).length o->E.iA (E.upd γ x) o)/\Mr E.Mp (yi X P k st x) M):
  Env.aam E ok RO Fx (E.ac2 X P k st):=by
 intro D x γ S X' f l w a n cap hx hS hX Ql hXM hF hH hm hf bR;obtain⟨M,m0,m1,ml⟩:=law γ x hx;obtain⟨v5,u,rfl⟩:=hf.eq;clear hf;obtain⟨hn,hH⟩:=hH;have hu2:¬E.U E.Fd 2:=fun h=>by have:=h.2;omega
 refine amk rfl (fun _=>stepG_block) fun w1 dE=>?_;refine amk rfl (fun _=>stepG_loop) fun w2 fU=>?_;have hr:=dE.trans fU;have vC:=K.rely S _ _ hS hF hr;have W4:E.iA γ (w2.heap[E.Mp]?):=by rw[(hr.kept _ Ql).eq Uz];exact hm
 rcases hH with⟨rfl,h0⟩|⟨g,cur,rfl,Ut,hXg,II,hg,htk⟩
 ·subst h0;refine ada (by simp[fr0]) _ _ _ _ u 0 fun w3 u' bV=>?_;refine bR S X' _ w3 hS hX Ql (K.rely S _ _ hS vC bV) (m1 _ ?_);rw[<-hn,(bV.kept _ Ql).eq Uz];exact m0 _ W4
 ·have fS:=((hr.kept g Ut).eq II).trans hg;have hgM:g≠E.Mp:=fun ee=>by
   rw[<-ee,fS]at W4;exact hMc _ _ _ W4
  have hgl:=anv fun y=>by rw[amx y]at fS;cases fS
  have ail:∀j,j<n *2->cur[j]?=(da _)[j]?:=fun j hj=>by
   rw[<-htk,List.getElem?_take,if_pos hj];simp
  have aim:=UA (U:=E.U) (D:=fun S1 X1 g1 w1=>(∃T,g1=G (acX E.Fd T) l)/\(∀a,RO a->¬X1 a)/\Fx w1/\E.iA (E.upd γ x) (w1.heap[E.Mp]?)) (Fd:=E.Fd) (g:=g) (Mp:=E.Mp) (n:=n) (cap:=cap) (cur:=cur)
   (b:=fr0) (k0:=[]) (cs:=l) rfl (by simp[fr0]) _ (.slice (some ⟨g,0,none⟩) n cap) (by rw[hn];exact hlen x hx) hu2 II Uz hFM M
   (fun i hi=>by
    obtain⟨f1,f2⟩:=Ym (yi X P k st x) i (by omega);exact⟨(ail _ (by omega)).trans f1,(ail _ (by omega)).trans f2⟩)
   (fun S1 X1 w1=>(∀a,RO a->S1 a)/\(∀a,RO a->¬X1 a)/\Fx w1)
   (fun S1 X1 w3 w4 w5 es S2 X2 hj hr hd=>by
    obtain⟨j1,j2,j3⟩:=hj;have Gb:=K.rely S1 _ _ j1 j3 hr;refine⟨fun a ha=>(hd.held a).2 (.inl (j1 a ha)),fun a ha y=>?_,K.rely RO _ _ (fun _ h=>h) Gb ⟨fun a ha=>.inl (hd.kept a ((bY _ Gb).1 a ha) (j2 a ha)),hd.grow,hd.env⟩⟩;rcases(hd.may _).1 y with z|z
    ·exact j2 a ha z
    ·have:=(bY _ Gb).1 a ha;omega)
   (fun S1 X1 w3 w4 hj hr=>⟨hj.1,hj.2.1,K.rely S1 _ _ hj.1 hj.2.2 hr⟩)
   (fun i o hi hM=>ml i o (by omega) hM)
   (fun S1 X1 v6 u6 w3 hL hj hM=>.stop ⟨⟨_,rfl⟩,hj.2.1,hj.2.2,m1 _ (by rw[<-hn];exact hM)⟩)
   n 0 (by omega) (fun a=>RO a\/a=E.Mp\/a=g) (fun a=>a=E.Mp) v5 u w2
   ⟨fun a ha=>(by
    rcases ha with y|rfl|rfl
    ·simp_all
    ·exact(bY w2 vC).2
    ·exact hgl),fun b i hu=>(by
    rcases hu.1 with rfl|rfl
    ·exact(bY w2 vC).1 _ hRF
    ·exact(bY w2 vC).1 _ hRW),fS,.inr (.inr rfl),hgM,.inl hRF,.inr (.inl rfl),rfl⟩
   ⟨fun a ha=>.inl ha,fun a ha e=>hRM (e▸ha),vC⟩ (hFm w2 vC) (m0 _ W4)
  refine(Tz.more (SF:=S) (XF:=X') aim fun S1 X1 g1 w3 hd=>?_).bT (fun a=>⟨fun h=>h.elim (fun y=>y.elim (hS a) fun z=>z.elim (fun e=>e▸Ql) fun e=>e▸Ut) id,.inr⟩) (fun a=>⟨fun h=>h.elim (fun y=>by subst y;exact hXM) id,.inr⟩);obtain⟨⟨T,rfl⟩,h1,h2,h3⟩:=hd;simp_all
end
end Ph
namespace Ph
open Conc Ren
open WideElems (Fit rd rg rd_val)
open Maps (Keyed IsMap Tidy has)
theorem adf:PR.underlying 166=some (.map 3 3):=by simp
theorem u3:PR.underlying 3=some (.int .i64):=by simp
theorem aav(w:World):(zeroValue 3).run PR w=.ok (.int .i64 0) w:=il (by kernel_rfl) w
theorem K3k:Keyed PR 3:=Go.Maps.int_keyed u3
def uV(l:List MapEntry):=∀x∈l,∃a:Int,x.key=.int .i64 a
theorem oP(e:Int):∀l i,uV l->∃r,amU (.int .i64) (.int .i64 e) l i=some r/\∀j v,r=some (j,v)->i<=j/\∃x,l[j-i]?=some x/\x.key=.int .i64 e
 |[],i,_=>⟨none,rfl,fun j v h=>by cases h⟩
 |x::l,i,h=>by
  obtain⟨a,ha⟩:=h x (by simp);by_cases he:e=a
  ·subst he;refine⟨some (i,x.val),?_,fun j v hj=>?_⟩
   ·simp[amU,Instr.sameNow,ha]
   ·simp_all
  ·obtain⟨r,h1,h2⟩:=oP e l (i+1) fun y hy=>h y (by simp[hy]);refine⟨r,?_,fun j v hj=>?_⟩
   ·have hb:(e==a)=false:=by simp_all
    simp[amU,Instr.sameNow,ha,hb,h1]
   ·obtain⟨h3,x',h4,h5⟩:=h2 j v hj;refine⟨by omega,x',?_,h5⟩;rw[show j-i=(j-(i+1))+1 by omega];simp_all
def upO(es:Array MapEntry)(clock:Nat)(e d:Int):Obj:=match amU (.int .i64) (.int .i64 e) es.toList 0 with
 |some (some (i,_))=>.map (es.modify i fun x=>{x with key:=.int .i64 e,val:=.int .i64 d}) clock
 |_=>.map (es.push {key:=.int .i64 e,val:=.int .i64 d,born:=clock}) (clock+1)
section
variable{w:World}{b:Nat}{es:Array MapEntry}{clock:Nat}{e d:Int}
theorem jW(hb:w.heap[b]?=some (.map es clock))(ev:Array _):(getObj b).events PR w ev=ev.push ⟨.obj b,false,false⟩:=by
 simp[getObj,amG,Sem.runT,hb,Obj.isChan,-Sem.runT_eq]
theorem rL(kA:Array _)(c':Nat)(hb:w.heap[b]?=some (.map es clock))(ev:Array _):(setObj b (.map kA c')).events PR w ev=ev.push ⟨.obj b,true,false⟩:=by
 simp[setObj,amG,Sem.runT,hb,Obj.isChan]
theorem qP(em:Bool):(Instr.checkKey em 10000 3 (.int .i64 e)).run PR w=.ok () w:=il (by kernel_rfl) w
theorem Fq(em:Bool)(ev:Array _):(Instr.checkKey em 10000 3 (.int .i64 e)).events PR w ev=ev:=nz (a:=()) (by kernel_rfl) w ev
theorem xh{r:Option _}(h:amU (.int .i64) (.int .i64 e) es.toList 0=some r):(anK 3 (.int .i64 e) es.toList).run PR w=.ok r w:=MapKept.run_findKey u3 h
theorem Ow{r:Option _}(h:amU (.int .i64) (.int .i64 e) es.toList 0=some r)(ev:Array _):(anK 3 (.int .i64 e) es.toList).events PR w ev=ev:=by
 simp[anK,h]
theorem Ox(hk:uV es.toList)(hb:w.heap[b]?=some (.map es clock)):(aml 166 (.map (some b)) (.int .i64 e) (.int .i64 d)).run PR w=.ok () {w with heap:=w.heap.setIfInBounds b (upO es clock e d)}:=by
 obtain⟨r,h1,h2⟩:=oP e _ 0 hk;cases r with
 |none=>simp[aml,amo hb,qP,xh h1,anD _ hb,upO,h1]
 |some x=>
  obtain⟨i,v⟩:=x;obtain⟨_,y,h3,h4⟩:=h2 i v rfl;have h3':=by simpa using h3
  simp[aml,amo hb,qP,xh h1,anD _ hb,upO,h1,anT,h3',h4,Instr.sameBits]
theorem adh(hk:uV es.toList)(hb:w.heap[b]?=some (.map es clock)):∀ev∈amG PR (aml 166 (.map (some b)) (.int .i64 e) (.int .i64 d)) w #[],ev.loc=.obj b/\ev.sync=false:=by
 obtain⟨r,h1,h2⟩:=oP e es.toList 0 hk;intro ev pF;cases r with
 |none=>
  simp[aml,amo hb,jW hb,qP,Fq,xh h1,Ow h1,rL _ _ hb]at pF;rcases pF with rfl|rfl<;>exact⟨rfl,rfl⟩
 |some x=>
  obtain⟨i,v⟩:=x;obtain⟨_,y,h3,h4⟩:=h2 i v rfl;have h3':=by simpa using h3
  simp[aml,amo hb,jW hb,qP,Fq,xh h1,Ow h1,rL _ _ hb,anT,h3',h4,Instr.sameBits]at pF;rcases pF with rfl|rfl<;>exact⟨rfl,rfl⟩
theorem Yn(hk:uV es.toList)(hb:w.heap[b]?=some (.map es clock)):∀ev∈amG PR (amz 166 (.map (some b)) (.int .i64 e) true) w #[],ev.loc=.obj b/\ev.sync=false/\ev.write=false:=by
 obtain⟨r,h1,h2⟩:=oP e _ 0 hk;intro ev pF;cases r with
 |none=>
  simp[amz,amo hb,jW hb,qP,Fq,xh h1,Ow h1]at pF;simp_all
 |some x=>
  simp[amz,amo hb,jW hb,qP,Fq,xh h1,Ow h1]at pF;simp_all
end
abbrev KB:=2000
abbrev Cq:=Nat->Option Nat
def better(g:Cq)(h:Nat×Nat):Cq:=fun e=>if e=h.1 then(match g e with|some d=>some (min d h.2)|none=>some h.2)else g e
structure IK(l:List (Lit×DataW Unit))(g:Cq):Prop where
 has:∀e:Nat,has (.map l) (.int .i64 (e:Int))=(g e).isSome
 at_:∀e:Nat,(DataW.map l).atKey (.int .i64 (e:Int)) (.lit (.int .i64 0))=.lit (.int .i64 (((g e).getD 0:Nat):Int))
 keys:∀p∈l,∃e:Nat,e<KB/\p.1=.int .i64 (e:Int)
def oQ(g:Cq)(o:Option Obj):Prop:=∃es clock l,o=some (.map es clock)/\Fit PR 3 (plainElem (H:=Unit) PR 3) es clock/\l=(es.toList.map (rg PR 3 (plainElem (H:=Unit) PR 3))).foldr DataW.insert []/\IK l g
theorem Ms(g:Cq)(c:Array _)(t:TypeId):¬oQ g (some (.cells c t)):=by
 rintro⟨es,clock,l,h,_⟩;cases h
theorem AW{es:Array _}(F:Fit PR 3 (plainElem (H:=Unit) PR 3) es clock):uV es.toList:=by
 intro x hx;obtain⟨y,hy⟩:=F.reads x hx;have:∃kl,keyOf PR 3 x.key=some kl:=by
  obtain⟨kl,h1,_⟩:=Option.bind_eq_some_iff.1 hy;simp_all
 obtain⟨kl,hkl⟩:=this;generalize hxk:x.key=kv at hkl;unfold keyOf at hkl;cases kv<;>simp[mapKey]at hkl;simp_all
theorem AX:∀K (l:List Nat),l.Nodup->(∀x∈l,x<K)->l.length<=K
 |0,l,_,h=>by
  cases l with
  |nil=>exact ams _
  |cons a l=>have:=h a (by simp);omega
 |K+1,l,hn,h=>by
  by_cases hk:K∈l
  ·have h1:=AX K _ (hn.erase K) (fun x hx=>by
    have h2:=(List.Nodup.mem_erase_iff hn).1 hx;have h3:=h x h2.2;omega)
   simp_all
  ·have:=AX K l hn (fun x hx=>by
    have h3:=h x hx;have:x≠K:=fun e=>hk (e▸hx);omega)
   omega
def adi:Lit->Nat
 |.int _ a=>a.toNat
 |_=>0
theorem UC{l:List _}{g:Cq}(h:IK l g)(ht:l.Pairwise fun p q=>p.1≠q.1):l.length<=KB:=by
 have h1:(l.map fun p=>adi p.1).Nodup:=by
  show List.Pairwise _ _
  rw[List.pairwise_map];refine ht.imp_of_mem fun{p q} hp hq bj e=>bj ?_;obtain⟨e1,_,h1⟩:=h.keys p hp;obtain⟨e2,_,h2⟩:=h.keys q hq;rw[h1,h2]at e;simp[adi]at e;simp_all
 have h2:=AX KB _ h1 (fun x hx=>by
  obtain⟨p,hp,rfl⟩:=List.mem_map.1 hx;obtain⟨e1,h3,h4⟩:=h.keys p hp;rw[h4];simpa[adi]using h3)
 simp_all
theorem UD:IK [] (fun _=>none):=⟨fun e=>rfl,fun e=>rfl,fun p hp=>by cases hp⟩
theorem aio(e:Nat):WideAt.IsKeyLit (.int .i64 e):=by first|trivial
theorem UE{l:List _}{g:Cq}(h:IK l g){e d:Nat}(he:e<KB):IK (ChangeMaps.putKey (.int .i64 e) (.lit (.int .i64 d)) l) (fun x=>if x=e then some d else g x):=by
 have hm:IsMap _:=⟨l,rfl⟩;refine⟨fun x=>?_,fun x=>?_,fun p hp=>?_⟩
 ·rw[<-DataW.put_eq];by_cases hx:x=e
  ·subst hx;rw[Go.Maps.has_put_same hm (aio x),if_pos rfl];rfl
  ·rw[Go.Maps.has_put_other (by intro y;cases y;omega),if_neg hx];exact h.has x
 ·rw[<-DataW.put_eq];by_cases hx:x=e
  ·subst hx;rw[Go.Maps.atKey_put_same hm (aio x),if_pos rfl];rfl
  ·rw[Go.Maps.atKey_put_other (by intro y;cases y;omega),if_neg hx];exact h.at_ x
 ·rcases ChangeMaps.mem_insert_iff.1 hp with rfl|PG
  ·exact⟨e,he,rfl⟩
  ·exact h.keys p (List.mem_filter.1 PG).1
theorem AY{e:Nat}(h:e<1000000):(Lit.int .i64 e).wf=true:=by
 simp[Lit.wf,IntKind.min,IntKind.bits,IntKind.signed];omega
theorem UF{g:Cq}{es:Array _}{e d:Nat}(h:oQ g (some (.map es clock)))(he:e<KB)(hd:d<1000000):oQ (fun x=>if x=e then some d else g x) (some (upO es clock e d)):=by
 obtain⟨es0,apD,l,h0,F,hl,R⟩:=h;cases h0
 let w:={(default:World)with heap:=#[.map es clock]}
 have hb:w.heap[0]?=some _:=rfl;have own:w.ownsMap PR 3 _ 0 _ (.map l):=⟨es,clock,hb,F,ams _,by rw[hl]⟩;obtain⟨l1,e1,ht⟩:=own.tidy K3k;cases e1;have hlen:es.size<maxLen:=by
  have h1:=UC R ht;have h2:l.length=es.size:=by rw[hl,length_sorted];simp
  have h3:KB<maxLen:=by decide
  omega
 obtain⟨w',bm,apE,_⟩:=own.store K3k adf hlen (Go.Maps.keyOf_int_mk u3 (AY (e:=e) (by have:KB=2000:=rfl;omega))) (plainElem_int u3 (AY hd));rw[Ox (AW F) hb]at bm;cases bm;obtain⟨kA,Mt,Rk,F',_,hD⟩:=apE;have di:some (upO es clock e d)=some (Obj.map kA Mt):=Rk.symm.trans Rk▸(by
  have:(w.heap.setIfInBounds 0 (upO es clock e d))[0]?=some _:=rfl;simp_all)
 rw[di];refine⟨kA,Mt,_,rfl,F',(DataW.map.inj hD),UE R he⟩
theorem Yo(Mp:Nat)(g:Cq)(L:List (Nat×Nat))(hL:∀h∈L,h.1<KB/\h.2<1000000):Mr Mp L (fun i o=>oQ ((L.take i).foldl better g) o):=by
 intro i o hi hM;have hg:L[i]?=some (L.getD i (0,0)):=by simp_all
 generalize hh:L.getD i (0,0)=h at hg;obtain⟨e,d⟩:=h;obtain⟨he,hd⟩:=hL _ (anI hg);have UG:(L.take (i+1)).foldl better g=better ((L.take i).foldl better g) (e,d):=by rw[List.take_add_one,hg,List.foldl_append];rfl
 simp only[UG];generalize(L.take i).foldl better g=γ at hM⊢;have hM0:=hM;obtain⟨es,clock,l,rfl,F,hl,R⟩:=hM;have hk:=AW F;refine⟨(((γ e).getD 0:Nat):Int),(γ e).isSome,some (upO es clock (e:Int) (d:Int)),fun w hb=>?_,fun w hb=>Yn hk hb,fun w hb=>?_,fun w hb=>adh hk hb,?_⟩
 ·have own:w.ownsMap PR 3 _ Mp es.size (.map l):=⟨es,clock,hb,F,ams _,by rw[hl]⟩;obtain⟨v,ps,bm,hv⟩:=own.look_ok K3k adf (aav w) (plainElem_int (H:=Unit) u3 (AY (e:=0) (by omega))) (Go.Maps.keyOf_int_mk u3 (AY (e:=e) (by have:KB=2000:=rfl;omega)));obtain⟨c,rfl,hc,_⟩:=plainElem_int_inv u3 hv;have h1:=congrArg Prod.fst hc;rw[R.at_ e]at h1;have h2:c=(((γ e).getD 0:Nat):Int):=by simp_all
  rw[bm,h2,R.has e]
 ·refine⟨(),_,Ox hk hb,⟨fun a ha=>?_,by simp,rfl,.refl _,rfl⟩,?_⟩
  ·rw[amq fun y=>ha y.symm]
  ·rw[amV (amp.1 hb).1]
 ·have hb:=UF hM0 he hd;cases hγ:γ e with
  |none=>
   have e1:better γ (e,d)=fun x=>if x=e then some d else γ x:=by
    funext x;unfold better;simp_all
   rw[e1];exact hb
  |some c=>
   by_cases hdc:d<c
   ·have e1:better γ (e,d)=fun x=>if x=e then some d else γ x:=by
     funext x;unfold better;by_cases hx:x=e
     ·subst hx;simp[hγ];omega
     ·simp[hx]
    rw[e1,if_pos (by simpa using hdc)];exact hb
   ·have e1:better γ (e,d)=γ:=by
     funext x;unfold better;by_cases hx:x=e
     ·subst hx;simp[hγ];omega
     ·simp[hx]
    rw[e1,if_neg (by simpa using hdc)];exact hM0
end Ph
namespace Ph
open Conc Ren
open Lock (Word PC)
section
variable{P:Program}{main:Bool}{U:Nat->Nat->Prop}{D:(Nat->Prop)->(Nat->Prop)->Frame->List Frame->World->Prop}{S X:Nat->Prop}{f:Frame}{l:List Frame}{w:World}
theorem Tr.one(h:∀w2,aP U S w w2->∃f1 l1 w1 es S1 X1,stepG P main (G f l) w2=.go (G f1 l1) w1 es/\Did S X w2 w1 es S1 X1/\Tr P main U D S1 X1 f1 l1 w1):Tr P main U D S X f l w:=by
 refine .step (fun w2 hr=>?_) fun w2 f1 l1 w1 es S1 X1 hr e hd=>?_
 ·obtain⟨f1,l1,w1,es,S1,X1,e,hd,_⟩:=h w2 hr;exact⟨f1,l1,w1,es,S1,X1,e,hd⟩
 ·obtain⟨f1',l1',w1',kA,S1',X1',e',S4,ht⟩:=h w2 hr;rw[e]at e';cases e';obtain⟨rfl,rfl⟩:=hd.same S4;exact ht
theorem Tr.pure:∀n {f:Frame} {l:List _} {w:World},(∀w2,aP U S w w2->Tr P main U D S X (bD P n f l).1 (bD P n f l).2 w2)->Tr P main U D S X f l w
 |0,f,l,w,h=>h w (.refl _ _ _)
 |n+1,f,l,w,h=>by
  unfold bD at h;split at h
  ·rename_i f1 l1 e;exact Tr.one fun w2 hr=>⟨_,_,w2,#[],S,X,fX e,(aL (U:=U) S X w2).toDid,Tr.pure n fun w3 bV=>h w3 (hr.trans bV)⟩
  ·exact h w (.refl _ _ _)
end
theorem aZ.pure{P:Program}{Q:QT}(n:Nat)(k:∀w',Kept (fun _=>False) (fun _=>False) w w'->aZ P Q Z (bD P n f l).1 (bD P n f l).2 w'):aZ P Q Z f l w:=by
 refine aot (U:=fun _ _=>False) (S:=fun _=>False) (X:=fun _=>False) (Done:=fun S X f' l' w'=>X=(fun _=>False)/\f'=(bD P n f l).1/\l'=(bD P n f l).2) (Tr.pure n fun w2 hr=>.stop ⟨rfl,rfl,rfl⟩) (fun a h=>h.elim) fun S' X' f' l' w' hd hk=>?_;obtain⟨rfl,rfl,rfl⟩:=hd;exact k w' hk
structure yV(Z:Loc->Prop)(Fd Mp Wg Gv By Rf Sg Fp k q st n:Nat)(X P:ByteArray)(b:Option Addr)(ay:List Nat)(w:World):Prop where
 cin:CIn Fd By Rf Sg Fp k q st X P w
 fd:w.heap[Fd]?=some (.cells #[.int .i32 0,.int .u32 0,.map (some Mp)] 191)
 mp:w.heap[Mp]?=some (.map #[] 0)
 wg:w.heap[Wg]?=some (.cells #[.int .u64 0,.int .u32 0] 212)
 gv:w.heap[Gv]?=some (.cells (sO [] n) 214)
 num:∀i x:Nat,ay[i]?=some x->∃Nb o,b=some ⟨Nb,o,none⟩/\w.cell? ⟨Nb,o+i,none⟩=some (.int .i64 (x:Int))/\Nb≠Mp/\Nb≠Gv/\Nb≠Fd/\Nb≠Wg/\lJ Z Nb
 off:∀a,a=Fd\/a=Mp\/a=Wg\/a=Gv\/Kp By Rf Sg Fp a->lJ Z a
 fm:Fd≠Mp
 fw:Fd≠Wg
 fg:Fd≠Gv
 mw:Mp≠Wg
 mg:Mp≠Gv
 wgg:Gv≠Wg
 kp:∀a,Kp By Rf Sg Fp a->a≠Fd/\a≠Mp/\a≠Wg/\a≠Gv
 n0:0<n
 n8:n<=8
 len:ay.length<1000000
 hX:X.size<=200
 hP:P.size<=30
 hk:k<=6
 aA:st<=200
 ok:∀x∈ay,x *st<=X.size/\x<=100000
def mC(Fd Mp Wg:Nat)(X P:ByteArray)(k st:Nat):Env where
 Fd:=Fd
 Mp:=Mp
 Wg:=Wg
 tF:=191
 tW:=212
 zc:=zc0
 Γ:=Cq
 upd g x:=(yi X P k st x).foldl better g
 iA:=oQ
def jk(Z:Loc->Prop)(Mp Gv B:Nat)(a:Nat):=a<B/\a≠Mp/\a≠Gv/\lJ Z a
theorem aO{o:Obj}(h:w.heap[a]?=some o):a<w.heap.size:=(amp.1 h).1
section
variable{Z:Loc->Prop}{Fd Mp Wg Gv By Rf Sg Fp k q st n:Nat}{X P:ByteArray}{b:Option Addr}{ay:List Nat}{w:World}
theorem yV.adj(h:yV Z Fd Mp Wg Gv By Rf Sg Fp k q st n X P b ay w)(ha:Kp By Rf Sg Fp a):jk Z Mp Gv w.heap.size a:=by
 obtain⟨h1,h2,h3,h4⟩:=h.kp a ha;refine⟨?_,h2,h4,h.off a (.inr (.inr (.inr (.inr ha))))⟩;rcases ha with rfl|rfl|rfl|rfl
 ·exact aO h.cin.b
 ·exact aO h.cin.r
 ·exact aO h.cin.s
 ·exact aO h.cin.f
theorem yV.Qw(h:yV Z Fd Mp Wg Gv By Rf Sg Fp k q st n X P b ay w):jk Z Mp Gv w.heap.size Fd:=⟨aO h.fd,h.fm,h.fg,h.off Fd (.inl rfl)⟩
theorem yV.Qx(h:yV Z Fd Mp Wg Gv By Rf Sg Fp k q st n X P b ay w):jk Z Mp Gv w.heap.size Wg:=⟨aO h.wg,fun e=>h.mw e.symm,fun e=>h.wgg e.symm,h.off Wg (.inr (.inr (.inl rfl)))⟩
theorem AZ(h1:a≠Fd)(h2:a≠Wg)(i:Nat):¬(mC Fd Mp Wg X P k st).U a i:=fun y=>y.1.elim h1 h2
theorem yV.same(h:yV Z Fd Mp Wg Gv By Rf Sg Fp k q st n X P b ay w)(ha:jk Z Mp Gv w.heap.size a)(h1:a≠Fd)(h2:a≠Wg)(hf:Wa (mC Fd Mp Wg X P k st) (jk Z Mp Gv w.heap.size) w w2):w2.heap[a]?=w.heap[a]?:=
 (hf.kept a ha).eq (AZ h1 h2)
theorem yV.aip(h:yV Z Fd Mp Wg Gv By Rf Sg Fp k q st n X P b ay w)(hf:Wa (mC Fd Mp Wg X P k st) (jk Z Mp Gv w.heap.size) w w2):CIn Fd By Rf Sg Fp k q st X P w2:=by
 have s:=fun a ha=>h.same (h.adj ha) (h.kp a ha).1 (h.kp a ha).2.2.1 hf;exact⟨(s _ (.inl rfl)).trans h.cin.b,(s _ (.inr (.inl rfl))).trans h.cin.r,(s _ (.inr (.inr (.inl rfl)))).trans h.cin.s,(s _ (.inr (.inr (.inr rfl)))).trans h.cin.f,am7 h.cin.low hf.grow⟩
theorem yV.known(h:yV Z Fd Mp Wg Gv By Rf Sg Fp k q st n X P b ay w):(mC Fd Mp Wg X P k st).AL (jk Z Mp Gv w.heap.size) (Wa (mC Fd Mp Wg X P k st) (jk Z Mp Gv w.heap.size) w):=
 ⟨fun S w1 w2 hS hF hr=>anu hF ⟨fun a ha=>hr.kept a (hS a ha),hr.grow,hr.env⟩,fun w1 hF=>Env.Ht.rely ⟨_,_,_,h.fd,rfl⟩ h.Qw hF,fun w1 hF=>Env.ui.rely ⟨_,_,_,h.wg,rfl⟩ h.Qx hF⟩
theorem A0(t p:ByteArray)(k:Nat):∀n,∀h∈cQ t p k n,h.2<=k
 |0,h,hh=>by simp[cQ]at hh
 |n+1,h,hh=>by
  have ih:=A0 t p k n;rw[cQ]at hh;split at hh
  ·rcases List.mem_append.1 hh with h1|h1
   ·exact ih h h1
   ·simp_all
  ·exact ih h hh
theorem Dz{x:Nat}(hX:X.size<=200)(hP:P.size<=30)(hk:k<=6)(aA:st<=200)(hx:x *st<=X.size/\x<=100000):(yi X P k st x).length<=1000/\∀h∈yi X P k st x,h.1<KB/\h.2<1000000:=by
 have hs:(fA X P k st x).size<=300:=by unfold fA;rw[ByteArray.size_extract];omega
 have hl:(yi X P k st x).length=(e_ _ P k).length:=lG _ _ _;have h1:(e_ _ P k).length<=(fA X P k st x).size:=ou _ _ _ _;refine⟨by omega,fun h hh=>?_⟩;unfold yi dQ at hh;rw[aoj,List.drop_length,List.append_nil]at hh;obtain⟨h0,hh0,rfl⟩:=List.mem_map.1 hh;have h2:=sL _ _ _ _ h0 hh0;have h3:=A0 _ _ _ _ h0 hh0;have:KB=2000:=rfl;omega
theorem yV.apF(h:yV Z Fd Mp Wg Gv By Rf Sg Fp k q st n X P b ay w)(ch:Nat):Env.w_ (mC Fd Mp Wg X P k st) ch (fun x=>x *st<=X.size/\x<=100000) (dL By Rf Sg Fp) (jk Z Mp Gv w.heap.size) (Wa (mC Fd Mp Wg X P k st) (jk Z Mp Gv w.heap.size) w):=by
 have bY:∀w2,Wa (mC Fd Mp Wg X P k st) (jk Z Mp Gv w.heap.size) w w2->(∀b,jk Z Mp Gv w.heap.size b->b<w2.heap.size)/\(mC Fd Mp Wg X P k st).Mp<w2.heap.size:=fun w2 hf=>⟨fun b hb=>amj hb.1 hf.grow,amj (aO h.mp) hf.grow⟩;have hRM:¬jk Z Mp Gv w.heap.size (mC Fd Mp Wg X P k st).Mp:=fun y=>y.2.1 rfl;have bj:∀i,¬(mC Fd Mp Wg X P k st).U (mC Fd Mp Wg X P k st).Mp i:=AZ (fun e=>h.fm e.symm) h.mw;refine Env.Mg bj h.known (fun hF hM he hM'=>anu hF (N6 _ hM hM' he)) (fun hF=>anu hF ⟨fun a _=>.inl rfl,ams _,⟨_,rfl⟩⟩) (Env.Ye _ X P k st) h.Qw h.Qx (h.adj (.inr (.inr (.inr rfl)))) (AZ (h.kp Fp (.inr (.inr (.inr rfl)))).1 (h.kp Fp (.inr (.inr (.inr rfl)))).2.2.1 0) (fun w2 hF=>?_) hRM ?_ ?_
 ·rw[cell_of_row _ Fp 0 _ _ _ (h.aip hF).f];rfl
 ·exact Yg X P k q st h.hX h.hP h.hk h.aA (fun x hx=>hx) h.known (fun w2 hF=>h.aip hF) (fun b hb=>h.adj hb) (fun b hb=>AZ (h.kp b hb).1 (h.kp b hb).2.2.1) bY
 ·have law:∀(γ:Cq) (x:Nat),(x *st<=X.size/\x<=100000)->∃M:Nat->Option Obj->Prop,(∀o,oQ γ o->M 0 o)/\(∀o,M (yi X P k st x).length o->oQ ((yi X P k st x).foldl better γ) o)/\Mr Mp (yi X P k st x) M:=fun γ x hx=>
   ⟨fun i o=>oQ (((yi X P k st x).take i).foldl better γ) o,(fun o ho=>by show oQ (((yi X P k st x).take 0).foldl better γ) o;rw[List.take_zero];exact ho),(fun o ho=>by
    have h1:oQ (((yi X P k st x).take (yi X P k st x).length).foldl better γ) o:=ho;rw[aoj]at h1;exact h1),Yo Mp γ _ (Dz h.hX h.hP h.hk h.aA hx).2⟩
  have fF:w.cell? ⟨Fd,2,none⟩=some (.map (some Mp)):=by rw[cell_of_row _ Fd 2 _ _ _ h.fd];rfl
  exact ade X P k st h.known bY h.Qw h.Qx hRM (fun w2 hF=>dG (U:=(mC Fd Mp Wg X P k st).U) (S:=jk Z Mp Gv w.heap.size) h.Qw (fun y=>by have:=y.2;omega) fF hF) bj h.fm (fun x hx=>(Dz h.hX h.hP h.hk h.aA hx).1) (fun γ c t=>Ms γ c t) law
end
end Ph
namespace Ph
open Conc Ren
open Lock (Word PC)
open ConcN (sumTo upd sumTo_upd upd_ne upd_same sumTo_le)
theorem DC{E:Env}{b:Nat}{a:Addr}(h:¬E.U a.block a.off):iW E RO b XX (.cell a)=nW E RO b XX a.block:=by
 simp[iW];simp_all
theorem Qy{E:Env}{b:Nat}{a:Addr}(h:E.U a.block a.off):iW E RO b XX (.cell a)=.at:=by
 simp[iW];simp_all
def Yp(E:Env)(cO:E.Γ):jE E:=⟨0,[],fun _=>.no,.st [],.run,Word.zero,0,0,0,0,cO,[],none⟩
theorem A1(n:Nat):sumTo n (fun _=>0)=0:=by
 induction n with
 |zero=>rfl
 |succ n ih=>simp[sumTo,ih]
theorem ci0{E:Env}{J:jf}{cO:E.Γ}(hn:0<J.n):CI J cO (Yp E cO):=by
 have h0:Lock.Inv (fun _=>PC.out) J.n Word.zero 0:=by
  refine⟨fun i _=>trivial,by rw[dB _ rfl];rfl,fun _=>⟨by rw[dB Lock.pO rfl,dB Lock.mR rfl,dB Lock.gm rfl];rfl,by rw[dB Lock.pH rfl,dB Lock.gm rfl];rfl,dB _ rfl _,dB _ rfl _,fun _ _ h=>absurd h (Nat.lt_irrefl 0)⟩,fun h=>by cases h⟩
 refine⟨Nat.zero_le _,rfl,List.nodup_nil,fun _ _=>rfl,fun k hk=>absurd hk (amJ _),h0,nofun,nofun,nofun,⟨nofun,nofun,nofun⟩,fun y=>?_,rfl,?_,?_,fun k hk=>hk.elim,⟨rfl,hn⟩,nofun,nofun,nofun,nofun⟩
 ·show 0+sumTo J.n (fun _=>0)=(J.ay.take 0).count y
  rw[A1];simp
 ·show 0+sumTo J.n (fun _=>0)=0+0
  rw[A1]
 ·show E5 (.st []) 0 0 0 (sumTo J.n fun _=>0) (sumTo J.n fun _=>0)
  rw[A1];exact .inl ⟨rfl,rfl,rfl,rfl,id,nofun⟩
theorem aiq{E:Env}{J:jf}{cO:E.Γ}:Calm J (Yp E cO):=⟨nofun,nofun,nofun,nofun⟩
theorem IM(g:Cq)(h1 h2:Nat×Nat):better (better g h1) h2=better (better g h2) h1:=by
 funext e;unfold better;by_cases e1:e=h1.1<;>by_cases e2:e=h2.1<;>simp[e1]<;>(try rfl)
 ·subst e1;by_cases e3:h1.1=h2.1
  ·rw[if_pos e3,if_pos e3];cases g _ with
   |none=>simp;omega
   |some d=>simp;omega
  ·omega
 simp_all
theorem mY(g:Cq):∀(L:List _) h,L.foldl better (better g h)=better (L.foldl better g) h
 |[],h=>rfl
 |a::L,h=>by
  rw[am_,am_,IM g h a];exact mY _ L h
theorem A2(g:Cq):∀(L1 L2:List _),L2.foldl better (L1.foldl better g)=L1.foldl better (L2.foldl better g)
 |[],L2=>rfl
 |a::L1,L2=>by
  rw[am_,am_,A2 _ L1 L2,mY g L2 a]
theorem Mu{f:Cq->Nat->Cq}(hf:∀g x y,f (f g x) y=f (f g y) x)(h:l1.Perm l2):∀g,l1.foldl f g=l2.foldl f g:=by
 induction h with
 |nil=>exact fun _=>rfl
 |cons x _ ih=>exact fun g=>ih _
 |swap x y l=>exact fun g=>by simp_all
 |trans _ _ ih1 ih2=>exact fun g=>(ih1 g).trans (ih2 g)
def kH(X P:ByteArray)(k st:Nat)(ay:List Nat):=ay.foldl (fun g x=>(yi X P k st x).foldl better g) (fun _=>none)
section
variable{Z:Loc->Prop}{Fd Mp Wg Gv By Rf Sg Fp k q st n:Nat}{X P:ByteArray}{b:Option Addr}{ay:List Nat}{w:World}
noncomputable def air (Z:Loc->Prop) (Fd Mp Wg Gv By Rf Sg Fp k st n:Nat) (X P:ByteArray) (ay:List Nat) (w:World) (c:Frame) (cs:List Frame) (b:Nat):bA where
 P:=PR
 E:=mC Fd Mp Wg X P k st
 J:=⟨n,ay⟩
 b:=b
 A ch:=Env.AtRecv (mC Fd Mp Wg X P k st) ch (dL By Rf Sg Fp) (jk Z Mp Gv w.heap.size) (Wa (mC Fd Mp Wg X P k st) (jk Z Mp Gv w.heap.size) w)
 uk:=ah8 (mC Fd Mp Wg X P k st) (jk Z Mp Gv w.heap.size) w (dL By Rf Sg Fp)
 Fin:=ah9 (mC Fd Mp Wg X P k st) (jk Z Mp Gv w.heap.size) w c cs
 RO:=jk Z Mp Gv w.heap.size
 dS l:=Z l\/AA (mC Fd Mp Wg X P k st) l
 ok x:=x *st<=X.size/\x<=100000
 cO:=fun _=>none
 w0:=w
theorem yV.apG(h:yV Z Fd Mp Wg Gv By Rf Sg Fp k q st n X P b ay w)(c:Frame)(cs:List _)(nb:Nat)(hb:0<nb):(air Z Fd Mp Wg Gv By Rf Sg Fp k st n X P ay w c cs nb).Laws where
 n0:=h.n0
 n8:=h.n8
 b0:=hb
 okn:=h.ok
 fw:=h.fw
 mf:=fun e=>h.fm e.symm
 mw:=h.mw
 rf:=h.Qw
 rw:=h.Qx
 rm:=fun y=>y.2.1 rfl
 shU:=fun l hl=>.inr hl
 TG:=fun hA=>Env.Io hA
 TH:=fun hA w2=>Env.Qi hA
 acn:=fun hA hr hx kk=>Env.Ip h.known (h.apF _) hA hr hx kk
 Z4:=fun hA hr kk=>Env.Iq h.known hA hr _ kk
 kid:=fun{ch g w2} hK=>by
  obtain⟨rfl,hF⟩:=hK;exact Env.X5 h.known ⟨fun _ y=>y,fun y=>y.2.1 rfl,id,h.Qw,h.Qx,fun _ _ y=>y⟩ hF
theorem yV.dl(h:yV Z Fd Mp Wg Gv By Rf Sg Fp k q st n X P b ay w):Dl (mC Fd Mp Wg X P k st) (jk Z Mp Gv w.heap.size) w Gv ⟨n,ay⟩ b:=by
 refine⟨h.n0,h.n8,h.len,AZ (fun e=>h.fg e.symm) h.wgg,h.wgg,fun y=>y.2.2.1 rfl,h.Qx,⟨_,_,_,h.wg,rfl⟩,fun a i hu=>?_,fun i x hx=>?_⟩
 ·rcases hu.1 with e|e
  ·rw[e];exact aO h.fd
  ·rw[e];exact aO h.wg
 ·obtain⟨Nb,o,hb,hc,h1,h2,h3,h4,h5⟩:=h.num i x hx;have aV:Nb<w.heap.size:=anv fun y=>by
   simp[amr,amx y]at hc
  have fL:jk Z Mp Gv _ Nb:=⟨aV,h1,h2,h5⟩;refine⟨Nb,o,hb,fL,AZ h3 h4 _,fun w2 hF=>?_⟩;simp[amr]at hc⊢;rw[h.same fL h3 h4 hF];exact hc
theorem yV.mu0(h:yV Z Fd Mp Wg Gv By Rf Sg Fp k q st n X P b ay w):(mC Fd Mp Wg X P k st).MuAt w Word.zero 0:=by
 exact h.fd
theorem yV.wg0(h:yV Z Fd Mp Wg Gv By Rf Sg Fp k q st n X P b ay w):(mC Fd Mp Wg X P k st).WgAt w 0 0 0:=by
 exact h.wg
theorem yV.phase(h:yV Z Fd Mp Wg Gv By Rf Sg Fp k q st n X P b ay w){Qq:QT}{c:Frame}
  (hf:uo 137 55 zo (sA (J_ (Ru (mC Fd Mp Wg X P k st) ⟨n,ay⟩ b cap (dL By Rf Sg Fp) Gv) n 0)) f)(Ux:f.tmps.getD 18 undef=.bool (decide (0<n)))
  (kk:∀w',aP (mC Fd Mp Wg X P k st).U (jk Z Mp Gv w.heap.size) w w'->oQ (kH X P k st ay) (w'.heap[Mp]?)->(mC Fd Mp Wg X P k st).MuAt w' Word.zero 0->w'.tape=w.tape->w'.output=w.output->Mp<w'.heap.size->aZ PR Qq (fun l=>Z l\/AA (mC Fd Mp Wg X P k st) l) (c.finish unit) cs w'):
  aZ PR Qq Z f (c::cs) w:=by
 rintro m t ⟨gs,sl,qq,rfl,hB⟩;have abw:0<gs.size:=(amp.1 hB.g0).1;have hQ:=h.apG c cs gs.size abw
 let Qp:=air Z Fd Mp Wg Gv By Rf Sg Fp k st n X P ay w c cs gs.size
 let S0:Nat->Prop:=fun a=>jk Z Mp Gv w.heap.size a\/a=Gv
 let X0:Nat->Prop:=fun a=>a=Gv
 have hG:Gv<w.heap.size:=aO h.gv;have hDW:DW (mC Fd Mp Wg X P k st) (jk Z Mp Gv w.heap.size) w Gv n [] [] S0 X0 w:=
  ⟨fun a ha=>.inl ha,fun a ha e=>ha.2.2.1 e,.inr rfl,rfl,h.gv,aP.refl _ _ _,fun a ha=>ha.elim (fun y=>y.1) fun e=>e▸hG,nofun⟩
 have aA:(⟨n,ay⟩:jf).cE []=.st []:=by unfold jf.cE;rw[if_pos (show([]:List Nat).length<n from h.n0)]
 have ais:∀fu,Tz PR true (mC Fd Mp Wg X P k st).U (Qp.DS fu (.st [])) S0 X0 (G f (c::cs)) w:=by
  intro fu;have:=aie (E:=mC Fd Mp Wg X P k st) (cap:=cap) (work:=dL By Rf Sg Fp) (c:=c) (cs:=cs) h.dl n [] (by simp) fu S0 X0 f w hf Ux hDW;rw[aA]at this;exact this
 have acx:∀l,Qp.cls (fun _=>⟨S0,X0,G f (c::cs),w⟩) 0 [] l≠.no->¬Z l:=by
  have hU:∀l,AA (mC Fd Mp Wg X P k st) l->¬Z l:=by
   intro l hl;cases l with
   |cell a=>
    rcases hl.1 with e|e
    ·exact h.off Fd (.inl rfl) _ e
    ·exact h.off Wg (.inr (.inr (.inl rfl))) _ e
   |_=>exact hl.elim
  have hb:∀a,nW (mC Fd Mp Wg X P k st) (jk Z Mp Gv w.heap.size) gs.size (bA.rp (fun _=>⟨S0,X0,G f (c::cs),w⟩) 0 []) a≠.no->lJ Z a:=by
   intro a ha;unfold nW at ha;split at ha
   ·rename_i y;exact y.2.2.2
   ·split at ha
    ·rename_i y;rw[show a=Mp from y];exact h.off Mp (.inr (.inl rfl))
    ·split at ha
     ·rename_i y;obtain⟨i,y⟩:=y;rcases y with⟨_,y⟩|⟨_,y⟩
      ·rw[show a=Gv from y];exact h.off Gv (.inr (.inr (.inr (.inl rfl))))
      ·cases y
     ·exact absurd rfl ha
  intro l hl;cases l with
  |cell a=>
   by_cases hu:(mC Fd Mp Wg X P k st).U a.block a.off
   ·exact hU (.cell a) hu
   ·refine hb _ (fun e=>hl ?_) (.cell a) rfl;exact(DC hu).trans e
  |obj a=>exact hb a hl (.obj a) rfl
  |output=>exact absurd rfl hl
  |goroutines=>exact absurd rfl hl
  |mark m=>exact absurd rfl hl
 have aJ:∀l g,Qp.cls (fun _=>⟨S0,X0,G f (c::cs),w⟩) 0 [] l=.own g->g=0:=by
  have hb:∀a g,nW (mC Fd Mp Wg X P k st) (jk Z Mp Gv w.heap.size) gs.size (bA.rp (fun _=>⟨S0,X0,G f (c::cs),w⟩) 0 []) a=.own g->g=0:=by
   intro a g ha;unfold nW at ha;split at ha
   ·cases ha
   ·split at ha
    ·cases ha
    ·split at ha
     ·rename_i y;have hs:=Classical.choose_spec y;have:Classical.choose y=0:=by
       rcases hs with⟨z,_⟩|⟨z,_⟩
       ·omega
       ·exact z
      rw[this]at ha;cases ha;rfl
     ·cases ha
  intro l g hl;cases l with
  |cell a=>
   by_cases hu:(mC Fd Mp Wg X P k st).U a.block a.off
   ·have h1:=(Qy hu).symm.trans hl;cases h1
   ·exact hb _ _ ((DC hu).symm.trans hl)
  |obj a=>exact hb a g hl
  |output=>cases hl
  |goroutines=>cases hl
  |mark m=>cases hl
 have ait:∀a,NoRelease a t:=fun a i hi=>by
  obtain⟨op,ho,he⟩:=amy.1 hi;exact hB.nr op (Array.mem_of_getElem? ho) a he
 have Tb:∀op∈t,Seen w.heap.size op:=fun op bg=>⟨hB.past.seen op bg,hB.nr op bg⟩;have hMI:Qp.MI (Yp Qp.E Qp.cO) (fun _=>⟨S0,X0,G f (c::cs),w⟩) (fun _=>mu Qp.J (Yp Qp.E Qp.cO)) gs w t qq (fun _=>none):=by
  refine⟨rfl,⟨hB.g0,ais _⟩,fun kx hk=>absurd hk (amJ _),fun i g hi _ hg=>hB.jU.old i g hi hg,fun _ _=>ams _,fun _ _=>aP.refl _ _ _,?_,?_,?_,hB.past.hears,fun kx hk=>absurd hk (amJ _),fun i hi=>hB.jU.above i hi,fun kx hk=>absurd hk (amJ _),fun _ _=>rfl,Tb⟩
  ·refine⟨fun i i' hi eO bj=>?_,fun i _ a ha=>ha.elim (fun y=>y.1) fun e=>e▸hG,fun i _ a ha=>ha,fun i _ a ha e=>ha.2.2.1 e,fun i _ a e=>.inr e,fun i _ ha=>?_,fun a ha=>ha.1,aO h.mp,nofun⟩
   ·have h1:i=0:=Nat.le_zero.1 hi;have h2:i'=0:=Nat.le_zero.1 eO;exact absurd (h1.trans h2.symm) bj
   ·rcases ha with y|y
    ·exact absurd rfl y.2.1
    ·exact absurd y h.mg
  ·refine⟨h.mu0,h.wg0,fun _=>?_,fun kx hk=>absurd hk (amJ _),fun kx hk=>absurd hk (amJ _),rfl,rfl⟩;rw[show w.heap[Qp.E.Mp]?=some (.map #[] 0)from h.mp];exact⟨#[],0,[],rfl,⟨by simp,Go.MapKept.stamped_empty 0,by simp⟩,rfl,UD⟩
  ·exact PT.init hB.past abw acx aJ Dr (fun l hl=>.inr (H7 hl)) (fun l hl=>.inl hl) ⟨ait _,ait _⟩
 obtain⟨N,m',t',bm,eU⟩:=bA.phase (sl:=sl) hQ (ci0 h.n0) aiq hMI;obtain⟨iQ,w',tj,q',S',X',g',dn,rfl,vO,hF,hL,hP,TQ,Oy,mW,Dt,aiu,apH,bY,_,aiv,hsn⟩:=eU;obtain⟨np,f',l',rfl,apI,hFx,_,_⟩:=hF;have aix:oQ (kH X P k st ay) (w'.heap[Mp]?):=by
  have e:dn.foldl (fun g x=>(yi X P k st x).foldl better g) (fun _=>none)=kH X P k st ay:=Mu (fun g x y=>A2 g _ _) Oy _;rw[<-e];exact TQ
 have aiy:v_ (fun l=>Z l\/AA (mC Fd Mp Wg X P k st) l) w'.heap.size:=by
  intro l hl;rcases hl with y|y
  ·exact⟨(hB.qe l y).1,Loc.low_mono hFx.grow (hB.qe l y).2⟩
  ·cases l with
   |cell a=>
    refine⟨rfl,?_⟩;show a.block<_
    rcases y.1 with e|e
    ·rw[e];exact amj (aO h.fd) hFx.grow
    ·rw[e];exact amj (aO h.wg) hFx.grow
   |_=>exact y.elim
 have aiz:aZ PR Qq (fun l=>Z l\/AA (mC Fd Mp Wg X P k st) l) f' l' w':=by
  refine aZ.pure np fun w2 hk=>?_;rw[apI];have aiA:aP (mC Fd Mp Wg X P k st).U (jk Z Mp Gv w.heap.size) w w2:=anu hFx ⟨fun a ha=>.inl (hk.kept a (amj ha.1 hFx.grow) id),hk.grow,hk.env⟩;refine kk w2 aiA ?_ ?_ (hk.tape.trans aiu) (hk.output.trans apH) (amj aiv hk.grow)
  ·rw[hk.kept Mp aiv id];exact aix
  ·have h1:w'.heap[(mC Fd Mp Wg X P k st).Fd]?=_:=mW;have h2:w2.heap[Fd]?=w'.heap[Fd]?:=hk.kept Fd (aO h1) id;exact h2.trans h1
 obtain⟨N2,m2,t2,Z2,f2,l2,w2,fU,hA2,Hj⟩:=aiz _ t' ⟨iQ,tj,q',rfl,vO,hL,hP,(fun a y=>y.elim),aiy,fun op bg=>(hsn op bg).2⟩;exact⟨N+N2,m2,t2,Z2,f2,l2,w2,by rw[Go.Proofs.YtdcjnhipenbcfaaGreatDoor.Ren.runNT_add PR N N2 _ _ _ _ bm];exact fU,hA2,Hj⟩
end
end Ph
namespace Ph
open Conc Ren
structure cA(Z:Loc->Prop)(w w':World):Prop where
 old:∀a,a<w.heap.size->lJ Z a->w'.heap[a]?=w.heap[a]?
 grow:w.heap.size<=w'.heap.size
 tape:w'.tape=w.tape
 env:pG w'.os w.os
 output:w'.output=w.output
theorem cA.trans{Z:Loc->Prop}{w w1 w2:World}(h:cA Z w w1)(k:cA Z w1 w2):cA Z w w2:=⟨fun a ha ho=>(k.old a (amj ha h.grow) ho).trans (h.old a ha ho),am7 h.grow k.grow,k.tape.trans h.tape,k.env.trans h.env,k.output.trans h.output⟩
theorem cA.of(h:Kept (fun _=>False) X' w w'):cA Z w w':=⟨fun a ha _=>h.kept a ha id,h.grow,h.tape,h.env,h.output⟩
section
variable{P:Program}{Q:QT}{Z:Loc->Prop}{f:Frame}{l:List Frame}{w:World}
theorem aZ.Mw(k:v_ Z w.heap.size->aZ P Q Z f l w):aZ P Q Z f l w:=by
 rintro m t ⟨gs,sl,q,rfl,hB⟩;exact k hB.qe _ t ⟨gs,sl,q,rfl,hB⟩
theorem aZ.alloc{F:Nat->Frame}{o:Obj}(aA:∀w2,stepG P true (G f l) w2=.go (G (F w2.heap.size) l) (w2.alloc o) #[])
  (k:∀B w',w.heap.size<=B->B<w'.heap.size->w'.heap[B]?=some o->lJ Z B->cA Z w w'->aZ P Q Z (F B) l w'):aZ P Q Z f l w:=by
 refine aZ.Mw fun bY=>?_;refine aot (U:=fun _ _=>False) (S:=fun _=>False) (X:=fun _=>False) (Done:=fun S X f' l' w'=>∃B,w.heap.size<=B/\B<w'.heap.size/\w'.heap[B]?=some o/\f'=F B/\l'=l) (Tr.one fun w2 hr=>⟨_,_,_,_,_,_,aA w2,(xe (U:=fun _ _=>False) o).toDid,.stop ⟨w2.heap.size,hr.grow,by simp,heap_alloc_new w2 o,rfl,rfl⟩⟩) (fun a h=>h.elim) fun S' X' f' l' w' hd hk=>?_;obtain⟨B,h1,h2,h3,rfl,rfl⟩:=hd;exact k B w' h1 h2 h3 (bY.off h1) (cA.of hk)
theorem aZ.read{a:Addr}(aA:∀w2,w2.cell? a=some v->stepG P true (G f l) w2=.go (G f1 l) w2 #[⟨.cell a,false,false⟩])(hc:w.cell? a=some v)(hz:lJ Z a.block)(k:∀w',cA Z w w'->aZ P Q Z f1 l w'):aZ P Q Z f l w:=by
 have aV:a.block<w.heap.size:=anv fun y=>by simp[amr,amx y]at hc
 refine aot (U:=fun _ _=>False) (S:=fun b=>b=a.block) (X:=fun _=>False) (Done:=fun S X f' l' w'=>X=(fun _=>False)/\f'=f1/\l'=l) (Tr.one fun w2 hr=>?_) (fun b h=>by simp_all) fun S' X' f' l' w' hd hk=>?_
 ·have BT:w2.cell? a=some v:=by
   simp[amr]at hc⊢;rw[(hr.kept _ rfl).eq (fun i y=>y)];exact hc
  exact⟨_,_,_,_,_,_,aA w2 BT,(km (U:=fun _ _=>False) (S:=fun b=>b=a.block) rfl id).toDid,.stop ⟨rfl,rfl,rfl⟩⟩
 ·obtain⟨rfl,rfl,rfl⟩:=hd;exact k w' (cA.of hk)
theorem aZ.eR(n:Nat)(k:∀w',cA Z w w'->(∀b,b<w.heap.size->w'.heap[b]?=w.heap[b]?)->aZ P Q Z (bu P n f l).1 (bu P n f l).2 w'):aZ P Q Z f l w:=by
 have tr:∀(n:Nat) (f:Frame) (l:List _) (w:World) (D:(Nat->Prop)->(Nat->Prop)->Frame->List _->World->Prop),(∀w2,aP (fun _ _=>False) (fun _=>False) w w2->Tr P true (fun _ _=>False) D (fun _=>False) (fun _=>False) (bu P n f l).1 (bu P n f l).2 w2)->Tr P true (fun _ _=>False) D (fun _=>False) (fun _=>False) f l w:=by
  intro n;induction n with
  |zero=>exact fun f l w D h=>h w (.refl _ _ _)
  |succ n ih=>
   intro f l w D h;unfold bu at h;split at h
   ·exact h w (.refl _ _ _)
   ·split at h
    ·rename_i f1 l1 e;exact Tr.one fun w2 hr=>⟨_,_,w2,#[],_,_,fX e,(aL (U:=fun _ _=>False) _ _ w2).toDid,ih f1 l1 w2 D fun w3 bV=>h w3 (hr.trans bV)⟩
    ·exact h w (.refl _ _ _)
 refine aot (Done:=fun S X f' l' w'=>X=(fun _=>False)/\f'=(bu P n f l).1/\l'=(bu P n f l).2) (tr n f l w _ fun w2 hr=>.stop ⟨rfl,rfl,rfl⟩) (fun a h=>h.elim) fun S' X' f' l' w' hd hk=>?_;obtain⟨rfl,rfl,rfl⟩:=hd;exact k w' (cA.of hk) fun b hb=>hk.kept b hb id
end
theorem aiB{U:Nat->Nat->Prop}{X:Nat->Prop}(hS:∀a,S a->a<w.heap.size/\∀l,Inb a l->Z l->∃ad:Addr,l=.cell ad/\U ad.block ad.off)(hZ:v_ Z w.heap.size)(hu:w.heap.size<=u){e:Event}(h:EvS S X w u e)(hn:∀a,e.loc=.cell a->¬U a.block a.off):EvL Z u e:=by
 obtain⟨loc,wr,sy⟩:=e;rcases h with⟨a,rfl,h2,h3⟩|⟨a,rfl,h2,h3⟩|⟨m,rfl,h2⟩|rfl
 ·have hz:¬Z (.cell a)/\a.block<u:=by
   rcases h3 with⟨h,_⟩|h
   ·refine⟨fun hz=>?_,amj (hS _ h).1 hu⟩;obtain⟨ad,e,hU⟩:=(hS _ h).2 (.cell a) rfl hz;simp_all
   ·exact⟨hZ.off h.1 _ rfl,h.2⟩
  refine⟨fun x hx hs=>?_,by simp,by simp,?_⟩
  ·simp[am0,anm]at hx;subst hx;simp_all
  ·exact hz.2
 ·subst h2;have hz:¬Z (.obj a)/\a<u:=by
   rcases h3 with⟨h,_⟩|h
   ·refine⟨fun hz=>?_,amj (hS _ h).1 hu⟩;obtain⟨ad,e,_⟩:=(hS _ h).2 (.obj a) rfl hz;cases e
   ·exact⟨hZ.off h.1 _ rfl,h.2⟩
  refine⟨fun x hx hs=>?_,by simp,by simp,?_⟩
  ·simp[am0,anm]at hx;subst hx;simp_all
  ·simp[am0];exact hz.2
 ·refine⟨fun x hx hs=>?_,?_,?_,?_⟩
  ·rcases h2 with rfl|⟨f,rfl⟩<;>simp[am0,anm]at hx
  ·rcases h2 with rfl|⟨f,rfl⟩<;>simp
  ·rcases h2 with rfl|⟨f,rfl⟩<;>simp
  ·rcases h2 with rfl|⟨f,rfl⟩<;>trivial
 ·refine⟨fun x hx hs=>?_,by simp,by simp,trivial⟩;simp[am0,anm]at hx;subst hx;have:=(hZ _ hs).1;cases this
structure qQ(P:Program)(Z:Loc->Prop)(U:Nat->Nat->Prop)(S:Nat->Prop)(g:Goroutine)(w:World)(gs:Array Goroutine)(t:Trace)(q:Nat->Nat):Prop where
 g0:gs[0]?=some g
 jU:Leavers P t gs q
 past:Past Z w.heap.size t
 held:∀a,S a->a<w.heap.size/\∀l,Inb a l->Z l->∃ad:Addr,l=.cell ad/\U ad.block ad.off
 qe:v_ Z w.heap.size
 nr:∀op∈t,∀a,op.act≠.mark (.release a)
open Go.ConcN (sumTo upd sumTo_upd upd_ne upd_same)
theorem Qz{P:Program}{U:Nat->Nat->Prop}{Done:(Nat->Prop)->(Nat->Prop)->Goroutine->World->Prop}{X:Nat->Prop}{g:Goroutine}(h:Tz P true U Done S X g w):
  ∀(gs:Array Goroutine) (sl:Option (Nat×Nat)) (t:Trace) (q:Nat->Nat),qQ P Z U S g w gs t q->
   ∃(N:Nat) (iQ:Array Goroutine) (g':Goroutine) (w':World) (tj:Option (Nat×Nat)) (t':Trace) (q':Nat->Nat) (S' X':Nat->Prop),
    runNT P N (crowd gs w sl) t=(.next (crowd iQ w' tj),t')/\Done S' X' g' w'/\qQ P Z U S' g' w' iQ t' q'/\Kept X X' w w':=by
 induction h with
 |stop hd=>exact fun gs sl t q hB=>⟨0,gs,_,_,sl,t,q,_,_,rfl,hd,hB,Kept.refl _ _⟩
 |@step S X g w hs ex _ ih=>
  have inner:∀(M:Nat) (gs:Array Goroutine) (w0:World) (sl:Option (Nat×Nat)) (t:Trace) (q:Nat->Nat),sumTo gs.size q=M->aP U S w w0->qQ P Z U S g w0 gs t q->
    ∃(N:Nat) (iQ:Array Goroutine) (g':Goroutine) (w':World) (tj:Option (Nat×Nat)) (t':Trace) (q':Nat->Nat) (S' X':Nat->Prop),
     runNT P N (crowd gs w0 sl) t=(.next (crowd iQ w' tj),t')/\Done S' X' g' w'/\qQ P Z U S' g' w' iQ t' q'/\Kept X X' w0 w':=by
   intro M;induction M using Nat.strongRecOn with
   |_ M ihM=>
   intro gs w0 sl t q hM hr hB;have hL:=hB.jU;have h0:=hB.g0;have EP:∀x∈gs,awake x:=by
    intro x hx;obtain⟨i,hi,rfl⟩:=Array.mem_iff_getElem.1 hx;rcases anU i with rfl|t_
    ·have:gs[0]=g:=by simpa[ans hi]using h0
     rw[this];exact awake_of (.inl hs)
    ·exact awake_of ((hL.old i _ t_ (ans hi)).status.elim .inl fun x=>.inr (.inr x))
   obtain⟨i,x,d,tj,hi,hx,aA⟩:=crowd_pick (P:=P) (w:=w0) (sl:=sl) EP ⟨0,_,h0,hs⟩;rcases anU i with rfl|t_
   ·obtain rfl:x=g:=by rw[h0]at hi;exact(aom hi).symm
    have fU:=hr.trans (tZ U S w0 d);obtain⟨g1,w1,es,S1,X1,hgo,hd⟩:=ex (w0.at d) fU;have Ah:=runT_crowd_go (P:=P) (sl:=tj) (i:=0) hi (hgo);have aV:0<gs.size:=(amp.1 h0).1;have aD:=hd.grow;have hB1:qQ P Z U S1 g1 w1 ((gs.map (woken P x g1 w1)).setIfInBounds 0 g1) (t++MemOp.ofEvents 0 x.frame.fn x.frame.place es) q:=by
     refine⟨by simp[aV],⟨fun j y hj hy=>?_,fun j hj=>?_⟩,?_,fun a ha=>?_,hB.qe.mono aD,EO hB.nr (SZ hd.ev)⟩
     ·have bj:0≠j:=by omega
      rw[amq bj,anh]at hy;obtain⟨z,hz,rfl⟩:=amy.1 hy;have hq:=hL.old j z hj hz;rw[woken_quitsD hq,Deaf_other t (by omega) _ (fun op bg=>Ren.ofEvents_g bg)];exact hq
     ·rw[Deaf_other t (g':=0) (by simp at hj;omega) _ (fun op bg=>Ren.ofEvents_g bg)];exact hL.above j (by simpa using hj)
     ·exact(hB.past.mono aD).own fun e he=>aiB (w:=w0.at d) hB.held hB.qe aD (hd.ev e he) (hd.nou e he)
     ·rcases(hd.held a).1 ha with y|y
      ·exact⟨amj (hB.held a y).1 aD,(hB.held a y).2⟩
      ·exact⟨y.2,fun l hl hz=>absurd hz (hB.qe.off y.1 l hl)⟩
    obtain⟨N,iQ,g',w',Lm,t',q',S',X',F7,hD',ER,vO⟩:=ih (w0.at d) g1 w1 es S1 X1 fU hgo hd _ tj _ q hB1;exact⟨N+1,iQ,g',w',Lm,t',q',S',X',by simp only[runNT,aA,Ah];exact F7,hD',ER,((Kept.at w0 d).trans hd.toDid.toKept).trans vO⟩
   ·have hq:=hL.old i x t_ hi;have tG:(i==0)=false:=by simp;omega
    have aV:i<gs.size:=(amp.1 hi).1;cases S3:q i with
    |zero=>rw[S3]at hq;rw[hq.1]at hx;cases hx
    |succ k=>
     rw[S3]at hq;rcases hq with⟨hf,_⟩|⟨_,g',es,hm,ab7,vy⟩
     ·rw[hf]at hx;cases hx
     have Ah:=runT_crowd_go (P:=P) (sl:=tj) (i:=i) hi (by rw[tG];exact ab7 (w0.at d));have mK:((gs.map (woken P x g' (w0.at d))).setIfInBounds i g').size=gs.size:=by simp
     have W9:sumTo gs.size (upd q i k)+(k+1)=sumTo gs.size q+k:=by
      have:=sumTo_upd q k id aV;simpa[S3]using this
     have hB1:qQ P Z U S g (w0.at d) ((gs.map (woken P x g' (w0.at d))).setIfInBounds i g') (t++MemOp.ofEvents i x.frame.fn x.frame.place es) (upd q i k):=by
      refine⟨?_,⟨fun j y hj hy=>?_,fun j hj=>?_⟩,hB.past.mute (by omega) hm,hB.held,hB.qe,EO hB.nr (NO hm)⟩
      ·have bj:i≠0:=by omega
       rw[amq bj,anh,h0];simp[woken_run (b:=g) hs]
      ·by_cases W_:i=j
       ·subst W_;rw[amV (by simpa using aV)]at hy;obtain rfl:=aom hy;rw[upd_same,Deaf_own];exact vy
       ·rw[amq W_,anh]at hy;obtain⟨z,hz,rfl⟩:=amy.1 hy;have hqj:=hL.old j z hj hz;rw[woken_quitsD hqj,upd_ne q k (Ne.symm W_),Deaf_other t W_ _ (fun op bg=>Ren.ofEvents_g bg)];exact hqj
      ·rw[Deaf_other t (g':=i) (by simp at hj;omega) _ (fun op bg=>Ren.ofEvents_g bg)];exact hL.above j (by simpa using hj)
     obtain⟨N,iQ,g'',w',Lm,t',q',S',X',F7,hD',ER,vO⟩:=ihM (sumTo gs.size (upd q i k)) (by omega) _ (w0.at d) tj _ (upd q i k) (by rw[mK]) (hr.trans (tZ U S w0 d)) hB1;exact⟨N+1,iQ,g'',w',Lm,t',q',S',X',by simp only[runNT,aA,Ah];exact F7,hD',ER,(Kept.at w0 d).trans vO⟩
  exact fun gs sl t q hB=>inner _ gs w sl t q rfl (aP.refl U S w) hB
theorem aZ.tz{P:Program}{Q:QT}{U:Nat->Nat->Prop}{Done:(Nat->Prop)->(Nat->Prop)->Goroutine->World->Prop}{X:Nat->Prop}(h:Tz P true U Done S X (G f l) w)(hS:v_ Z w.heap.size->∀a,S a->a<w.heap.size/\∀l,Inb a l->Z l->∃ad:Addr,l=.cell ad/\U ad.block ad.off)
  (k:∀S' X' g' w',Done S' X' g' w'->Kept X X' w w'->∃f' l',g'=G f' l'/\aZ P Q Z f' l' w'):aZ P Q Z f l w:=by
 rintro m t ⟨gs,sl,q,rfl,hB⟩;obtain⟨N,iQ,g',w',tj,t',q',S',X',hr,hD,ER,hK⟩:=Qz (Z:=Z) h gs sl t q ⟨hB.g0,hB.jU,hB.past,hS hB.qe,hB.qe,hB.nr⟩;obtain⟨f',l',rfl,hG⟩:=k S' X' g' w' hD hK;obtain⟨N2,m2,t2,Z2,f2,l2,w2,fU,hA2,Hj⟩:=hG _ t' ⟨iQ,tj,q',rfl,ER.g0,ER.jU,ER.past,(fun a h=>h.elim),ER.qe,ER.nr⟩;exact⟨N+N2,m2,t2,Z2,f2,l2,w2,by rw[Go.Proofs.YtdcjnhipenbcfaaGreatDoor.Ren.runNT_add P N N2 _ _ _ _ hr];exact fU,hA2,Hj⟩
abbrev eF(site:List _)(al:List (Nat×Value))(j:Nat->Value):=zj 122 24 site (sA al) j
abbrev qp(k q st:Nat):Value:=.agg #[iv k,iv q,iv st]
def aE(X P:ByteArray)(k q st n:Nat):=[(0,.string X),(1,.string P),(2,qp k q st),(3,iv n)]
def ZE:=aE .empty .empty 0 0 0 1
noncomputable abbrev xi (site:List _) (al:List _) (v:Value):=bu PR 60 ((eF site al fun _=>undef).finish v) []
def aE4(a:List _)(Rf:Nat):=a++[(4,ptr Rf)]
def aE5(a:List _)(Rf Sg:Nat):=a++[(4,ptr Rf),(5,ptr Sg)]
def Oz(a:List _)(Rf Sg By:Nat):=a++[(4,ptr Rf),(5,ptr Sg),(6,ptr By)]
def fdV(Mp:Nat):Value:=.agg #[.int .i32 0,.int .u32 0,.map (some Mp)]
noncomputable def sB0:=(bu PR 60 (am1 PR 122 #[.string .empty,.string .empty,qp 0 0 0,iv 1] .normal) []).1.todo
noncomputable def sB1:=(xi sB0 ZE (ptr 0)).1.todo
noncomputable def sB2:=(xi sB1 (aE4 ZE 0) (ptr 0)).1.todo
noncomputable def sMM:=(xi sB2 (aE5 ZE 0 0) (ptr 0)).1.todo
noncomputable def sB3:=(xi sMM (Oz ZE 0 0 0) (.map (some 0))).1.todo
noncomputable def sAL:=(xi sB3 (Oz ZE 0 0 0++[(11,fdV 0)]) (ptr 0)).1.todo
noncomputable def sFS:=(xi sAL (Oz ZE 0 0 0++[(12,ptr 0)]) (ptr 0)).1.todo
def qR(a:List _)(Rf Sg By Fp:Nat):=Oz a Rf Sg By++[(9,ptr Fp)]
noncomputable def sE1:=(xi sFS (qR ZE 0 0 0 0++[(12,ptr 0)]) undef).1.todo
noncomputable def sE2:=(xi sE1 (qR ZE 0 0 0 0) (.string .empty)).1.todo
noncomputable def sE3:=(xi sE2 (qR ZE 0 0 0 0++[(13,.string .empty)]) (.string .empty)).1.todo
noncomputable def sE4:=(xi sE3 (qR ZE 0 0 0 0++[(13,.string .empty),(14,.string .empty)]) (qp 0 0 0)).1.todo
noncomputable def sE5:=(xi sE4 (qR ZE 0 0 0 0++[(13,.string .empty),(14,.string .empty),(15,qp 0 0 0)]) (.slice none 0 0)).1.todo
noncomputable def sE6:=(xi sE5 (qR ZE 0 0 0 0++[(16,.slice none 0 0),(17,iv 1),(18,dL 0 0 0 0)]) unit).1.todo
noncomputable def sE7:=(xi sE6 (qR ZE 0 0 0 0) (ptr 0)).1.todo
section
variable(X P:ByteArray)(k q st n Rf Sg By Mp Fd Fp:Nat)(v:Value)(J:Nat->Value)(l:List Frame)
noncomputable def EB0:=bu PR 60 (am1 PR 122 #[.string X,.string P,qp k q st,iv n] .normal) l
noncomputable def EB1:=bu PR 60 ((eF sB0 (aE X P k q st n) J).finish (ptr Rf)) l
noncomputable def EB2:=bu PR 60 ((eF sB1 (aE4 (aE X P k q st n) Rf) J).finish (ptr Sg)) l
noncomputable def EMM:=bu PR 60 ((eF sB2 (aE5 (aE X P k q st n) Rf Sg) J).finish (ptr By)) l
noncomputable def EB3:=bu PR 60 ((eF sMM (Oz (aE X P k q st n) Rf Sg By) J).finish (.map (some Mp))) l
noncomputable def EAL:=bu PR 60 ((eF sB3 (Oz (aE X P k q st n) Rf Sg By++[(11,fdV Mp)]) J).finish (ptr Fd)) l
noncomputable def EFS:=bu PR 60 ((eF sAL (Oz (aE X P k q st n) Rf Sg By++[(12,ptr Fd)]) J).finish (ptr Fp)) l
noncomputable def EE1:=bu PR 60 ((eF sFS (qR (aE X P k q st n) Rf Sg By Fp++[(12,ptr Fd)]) J).finish undef) l
noncomputable def EE2:=bu PR 60 ((eF sE1 (qR (aE X P k q st n) Rf Sg By Fp) J).finish (.string X)) l
noncomputable def EE3:=bu PR 60 ((eF sE2 (qR (aE X P k q st n) Rf Sg By Fp++[(13,.string X)]) J).finish (.string P)) l
noncomputable def EE4:=bu PR 60 ((eF sE3 (qR (aE X P k q st n) Rf Sg By Fp++[(13,.string X),(14,.string P)]) J).finish (qp k q st)) l
noncomputable def EE5:=bu PR 60 ((eF sE4 (qR (aE X P k q st n) Rf Sg By Fp++[(13,.string X),(14,.string P),(15,qp k q st)]) J).finish v) l
noncomputable def EE6:=bu PR 60 ((eF sE5 (qR (aE X P k q st n) Rf Sg By Fp++[(16,v),(17,iv n),(18,dL By Rf Sg Fp)]) J).finish unit) l
noncomputable def EE7:=bu PR 60 ((eF sE6 (qR (aE X P k q st n) Rf Sg By Fp) J).finish (ptr Fd)) l
end
section
variable{X P:ByteArray}{k q st n Rf Sg By Mp Fd Fp:Nat}{v:Value}{J:Nat->Value}{l cs:List Frame}{c:Frame}
theorem eb0:look [0,1,2,3] (EB0 X P k q st n l)=bh 122 24 l sB0 (aE X P k q st n) none none:=by kernel_rfl
theorem eb1:look [0,1,2,3,4] (EB1 X P k q st n Rf J l)=bh 122 24 l sB1 (aE4 (aE X P k q st n) Rf) none none:=by kernel_rfl
theorem eb2:look [0,1,2,3,4,5] (EB2 X P k q st n Rf Sg J l)=bh 122 24 l sB2 (aE5 (aE X P k q st n) Rf Sg) none none:=by kernel_rfl
theorem emm:look [0,1,2,3,4,5,6] (EMM X P k q st n Rf Sg By J l)=bh 122 24 l sMM (Oz (aE X P k q st n) Rf Sg By) none none:=by kernel_rfl
theorem eb3:look [0,1,2,3,4,5,6,11] (EB3 X P k q st n Rf Sg By Mp J l)=bh 122 24 l sB3 (Oz (aE X P k q st n) Rf Sg By++[(11,fdV Mp)]) none none:=by kernel_rfl
theorem eal:look [0,1,2,3,4,5,6,12] (EAL X P k q st n Rf Sg By Mp Fd J l)=bh 122 24 l sAL (Oz (aE X P k q st n) Rf Sg By++[(12,ptr Fd)]) none none:=by kernel_rfl
theorem efs:look [0,1,2,3,4,5,6,9,12] (EFS X P k q st n Rf Sg By Fd Fp J l)=bh 122 24 l sFS (qR (aE X P k q st n) Rf Sg By Fp++[(12,ptr Fd)]) none none:=by kernel_rfl
theorem ee1:look [0,1,2,3,4,5,6,9] (EE1 X P k q st n Rf Sg By Fd Fp J l)=bh 122 24 l sE1 (qR (aE X P k q st n) Rf Sg By Fp) none (some (9,ptr Rf)):=by kernel_rfl
theorem ee2:look [0,1,2,3,4,5,6,9,13] (EE2 X P k q st n Rf Sg By Fp J l)=bh 122 24 l sE2 (qR (aE X P k q st n) Rf Sg By Fp++[(13,.string X)]) none (some (9,ptr Sg)):=by kernel_rfl
theorem ee3:look [0,1,2,3,4,5,6,9,13,14] (EE3 X P k q st n Rf Sg By Fp J l)=bh 122 24 l sE3 (qR (aE X P k q st n) Rf Sg By Fp++[(13,.string X),(14,.string P)]) none (some (75,ptr By)):=by kernel_rfl
theorem ee4:look [0,1,2,3,4,5,6,9,13,14,15] (EE4 X P k q st n Rf Sg By Fp J l)=bh 122 24 l sE4 (qR (aE X P k q st n) Rf Sg By Fp++[(13,.string X),(14,.string P),(15,qp k q st)]) (some (48,#[.string X,.string P,qp k q st])) none:=by kernel_rfl
theorem ee5:look [0,1,2,3,4,5,6,9,16,17,18] (EE5 X P k q st n Rf Sg By Fp v J l)=bh 122 24 l sE5 (qR (aE X P k q st n) Rf Sg By Fp++[(16,v),(17,iv n),(18,dL By Rf Sg Fp)]) (some (137,#[v,iv n,dL By Rf Sg Fp])) none:=by kernel_rfl
theorem ee6:look [0,1,2,3,4,5,6,9] (EE6 X P k q st n Rf Sg By Fp v J l)=bh 122 24 l sE6 (qR (aE X P k q st n) Rf Sg By Fp) none (some (182,ptr Fp)):=by kernel_rfl
theorem ee7:look [0,1,2,3,4,5,6,9] (EE7 X P k q st n Rf Sg By Fd Fp J l)=bh 122 24 l sE7 (qR (aE X P k q st n) Rf Sg By Fp) none (some (166,.pointer (some ⟨Fd,2,none⟩))):=by kernel_rfl
theorem aiK:bD PR 1 (eF sE4 (qR (aE X P k q st n) Rf Sg By Fp++[(13,.string X),(14,.string P),(15,qp k q st)]) J) l=(am1 PR 48 #[.string X,.string P,qp k q st] .normal,eF sE4 (qR (aE X P k q st n) Rf Sg By Fp++[(13,.string X),(14,.string P),(15,qp k q st)]) J::l):=by kernel_rfl
theorem aiL:bD PR 1 (eF sE5 (qR (aE X P k q st n) Rf Sg By Fp++[(16,v),(17,iv n),(18,dL By Rf Sg Fp)]) J) l=(am1 PR 137 #[v,iv n,dL By Rf Sg Fp] .normal,eF sE5 (qR (aE X P k q st n) Rf Sg By Fp++[(16,v),(17,iv n),(18,dL By Rf Sg Fp)]) J::l):=by kernel_rfl
theorem aiM:(opAt (eF sB0 (aE X P k q st n) J)).map (fun o=>o.op)=some (.box 9 (.tmp 0)):=by kernel_rfl
theorem aiN:(opAt (eF sB1 (aE4 (aE X P k q st n) Rf) J)).map (fun o=>o.op)=some (.box 9 (.tmp 1)):=by kernel_rfl
theorem aiO:(opAt (eF sB2 (aE5 (aE X P k q st n) Rf Sg) J)).map (fun o=>o.op)=some (.box 75 (.tmp 2)):=by kernel_rfl
theorem aiP:(opAt (eF sMM (Oz (aE X P k q st n) Rf Sg By) J)).map (fun o=>o.op)=some (.makeMap 166 none):=by kernel_rfl
theorem aiQ:(opAt (eF sB3 (Oz (aE X P k q st n) Rf Sg By++[(11,fdV Mp)]) J)).map (fun o=>o.op)=some (.box 191 (.tmp 11)):=by kernel_rfl
theorem aiR:(opAt (eF sAL (Oz (aE X P k q st n) Rf Sg By++[(12,ptr Fd)]) J)).map (fun o=>o.op)=some (.alloc 182):=by kernel_rfl
theorem aiS:(opAt (eF sFS (qR (aE X P k q st n) Rf Sg By Fp++[(12,ptr Fd)]) J)).map (fun o=>o.op)=some (.store 182 (.tmp 9) (.tmp 12)):=by kernel_rfl
end
noncomputable def sA0:=(bu PR 60 (am1 PR 137 #[.slice none 0 0,iv 1,undef] .normal) []).1.todo
def aA0(nv:Value)(n:Nat)(work:Value):=[(0,nv),(1,iv n),(2,work)]
noncomputable def sA1:=(uP sA0 (aA0 (.slice none 0 0) 1 undef) (ptr 0)).1.todo
def aA1(nv:Value)(n:Nat)(work:Value)(Wg:Nat):=[(0,nv),(1,iv n),(2,work),(6,ptr Wg),(13,iv n)]
section
variable(nv:Value)(n Wg Gv:Nat)(work:Value)(J:Nat->Value)(l:List Frame)
noncomputable def RA0:=bu PR 60 (am1 PR 137 #[nv,iv n,work] .normal) l
noncomputable def RA1:=bu PR 60 ((dF sA0 (aA0 nv n work) J).finish (ptr Wg)) l
end
section
variable{b:Option Addr}{len cap:Nat}{nv:Value}{n Wg Gv:Nat}{work:Value}{J:Nat->Value}{l:List Frame}
noncomputable def aiV (b:Option _) (len cap n Wg Gv:Nat) (work:Value) (J:Nat->Value) (l:List _):=bu PR 60 ((dF sA1 (aA1 (cX b len cap) n work Wg) J).finish (Rt Gv n)) l
theorem ra0:look [0,1,2] (RA0 nv n work l)=bh 137 55 l sA0 (aA0 nv n work) none none:=by kernel_rfl
theorem ra1:look [0,1,2,6,13] (RA1 nv n Wg work J l)=bh 137 55 l sA1 (aA1 nv n work Wg) none none:=by kernel_rfl
theorem apO:look [0,1,2,6,7,16,17,18] (aiV b len cap n Wg Gv work J l)=bh 137 55 l zo (J_ (im (cX b len cap) n work Wg Gv) n 0++[(18,.bool (decide ((0:Int)<n)))]) none none:=by kernel_rfl
theorem aiW:(opAt (dF sA0 (aA0 nv n work) J)).map (fun o=>o.op)=some (.alloc 212):=by kernel_rfl
theorem aiX:(opAt (dF sA1 (aA1 nv n work Wg) J)).map (fun o=>o.op)=some (.makeSlice 213 (.tmp 13) (.tmp 13)):=by kernel_rfl
end
section
variable{P:Program}{Q:QT}{Z:Loc->Prop}{f:Frame}{l:List Frame}{w:World}
theorem aZ.bg(m:Nat)(r:Frame×List _)(hr:bu P m f l=r){site:List _}{al:List _}{call:Option _}{load:Option _}(h:look ks r=bh fn n l site al call load)(hk:al.map (·.1)=ks)
  (k:∀J w',cA Z w w'->(∀b,b<w.heap.size->w'.heap[b]?=w.heap[b]?)->ahead (zj fn n site (sA al) J)=call->jC (zj fn n site (sA al) J)=load->uo fn n site (sA al) (zj fn n site (sA al) J)->aZ P Q Z (zj fn n site (sA al) J) l w'):aZ P Q Z f l w:=by
 subst hr;refine aZ.eR m fun w' hg hh=>?_;have hs:=cm h hk;have h1:=hs.call;have h2:=hs.load;have h3:=hs.fr;rw[hs.fr.eq]at h1 h2;rw[hs.fr.eq]at h3;rw[hs.callers,hs.fr.eq];simp_all
end
section
variable{main:Bool}{f:Frame}{cs:List Frame}
theorem uW{x:Operand}(h:(opAt f).map (fun o=>o.op)=some (.box t x)){c:Array _}(hx:f.eval x=v)(hv:v.cells=c)(w:World):
  stepG PR main (G f cs) w=.go (G (f.finish (ptr w.heap.size)) cs) (w.alloc (.cells c t)) #[]:=by
 obtain⟨op,ho,bg⟩:=pf h;subst hv;have hr:(execOp f.eval op).run PR w=.ok (.value (ptr w.heap.size)) (w.alloc (.cells v.cells t)):=by
  unfold execOp;simp[bg,hx];rfl
 have he:(execOp f.eval op).events PR w #[]=#[]:=by
  unfold execOp;simp[bg];simp[go_sem]
 rw[cz ho hr,he,seen_none]
theorem A3(h:(opAt f).map (fun o=>o.op)=some (.alloc t)){c:Array Value}(hz:(PR.info? t).map (·.zero)=some (some z))(hv:z.cells=c)(w:World):
  stepG PR main (G f cs) w=.go (G (f.finish (ptr w.heap.size)) cs) (w.alloc (.cells c t)) #[]:=by
 obtain⟨op,ho,bg⟩:=pf h;subst hv;have hs:∃inf,PR.info? t=some inf/\inf.zero=some z:=by simp_all
 obtain⟨inf,pE,Dx⟩:=hs;have hr:(execOp f.eval op).run PR w=.ok (.value (ptr w.heap.size)) (w.alloc (.cells z.cells t)):=by
  unfold execOp;simp only[bg];simp[go_sem,zeroValue,typeInfo,pE,Dx];rfl
 have he:(execOp f.eval op).events PR w #[]=#[]:=by
  unfold execOp;simp only[bg];simp[go_sem,zeroValue,typeInfo,pE,Dx]
 rw[cz ho hr,he,seen_none]
theorem Yq(h:(opAt f).map (fun o=>o.op)=some (.makeMap t none))(w:World):
  stepG PR main (G f cs) w=.go (G (f.finish (.map (some w.heap.size))) cs) (w.alloc (.map #[] 0)) #[]:=by
 obtain⟨op,ho,bg⟩:=pf h;have hr:(execOp f.eval op).run PR w=.ok (.value (.map (some w.heap.size))) (w.alloc (.map #[] 0)):=by
  unfold execOp;simp[bg];rfl
 have he:(execOp f.eval op).events PR w #[]=#[]:=by
  unfold execOp;simp[bg];rfl
 rw[cz ho hr,he,seen_none]
theorem Yr{x:Operand}(h:(opAt f).map (fun o=>o.op)=some (.makeSlice 213 x y))(h8:n<=8)(hx:f.eval x=iv n)(hy:f.eval y=iv n)(w:World):
  stepG PR main (G f cs) w=.go (G (f.finish (Rt w.heap.size n)) cs) (w.alloc (.cells (sO [] n) 214)) #[]:=by
 obtain⟨op,ho,bg⟩:=pf h;have hu:PR.underlying 213=some (.slice 214):=by kernel_rfl
 have hi:∃inf,PR.info? 214=some inf/\inf.zero=some (.chan none)/\inf.size=1/\inf.bytes=8:=by
  have:(PR.info? 214).map (fun i=>(i.zero,i.size,i.bytes))=some (some (.chan none),1,8):=by kernel_rfl
  simp_all
 obtain⟨inf,ry,WB,hi3,hi4⟩:=hi;have h1:=run_makeSlice (P:=PR) w 213 214 inf (.chan none) hu ry WB .i64 .i64 (n:Int) (n:Int) (by omega) (Int.le_refl _) (by rw[hi3];omega) (by rw[hi4];omega) (by omega);have e1:madeCells (Value.chan none).cells ((n:Int).toNat *inf.size)=sO [] n:=by
  rw[hi3];apply Array.ext
  ·simp[madeCells,sO]
  ·intro i h1 h2;simp[madeCells,sO,Value.cells,Nat.mod_one]
 rw[e1]at h1;have hr:(execOp f.eval op).run PR w=.ok (.value (Rt w.heap.size n)) (w.alloc (.cells (sO [] n) 214)):=by
  unfold execOp;simp only[bg,hx,hy];rw[Sem.run_bind];show((aon 213 (.int .i64 (n:Int)) (.int .i64 (n:Int))).run PR w).andThen _=_
  rw[h1];rfl
 have he:(execOp f.eval op).events PR w #[]=#[]:=by
  unfold execOp;simp only[bg,hx,hy];have:n=0\/n=1\/n=2\/n=3\/n=4\/n=5\/n=6\/n=7\/n=8:=by omega
  rcases this with rfl|rfl|rfl|rfl|rfl|rfl|rfl|rfl|rfl<;>
  simp[go_sem,aon,run_underlying hu,underlying,zeroValue,typeInfo,sizeOf,ry,WB,hi3,hi4,askRoom,roomBytes]<;>(try decide)
 rw[cz ho hr,he,seen_none]
theorem Ys{x:Operand}(h:(opAt f).map (fun o=>o.op)=some (.store t x y)){b:Nat}{row:Array Value}(hx:f.eval x=.pointer (some ⟨B,i,none⟩))(hy:f.eval y=ptr b)(hB:w.heap[B]?=some (.cells row t'))(hi:i<row.size)(hq:(PR.funcs[f.fn]?).any (·.norace)=false)(kK:(PR.info? t).map (·.size)=some 1):
  stepG PR main (G f cs) w=.go (G (f.finish undef) cs) (w.setCell ⟨B,i,none⟩ (ptr b)) #[⟨.cell ⟨B,i,none⟩,true,false⟩]:=by
 obtain⟨op,ho,bg⟩:=pf h;have hc:w.cell? ⟨B,i,none⟩=some row[i]:=by simp[amr,hB,hi]
 have hz:w.frozen? ⟨B,i,none⟩=false:=by simp[World.frozen?,hB]
 have hs:∃inf,PR.info? t=some inf/\inf.size=1:=by simp_all
 obtain⟨inf,pE,Dx⟩:=hs;have hr:(execOp f.eval op).run PR w=.ok .skip (w.setCell ⟨B,i,none⟩ (ptr b)):=by
  unfold execOp;simp only[bg,hx,hy];simp[go_sem,storeVar,sizeOf,typeInfo,pE,Dx,hc,hz,ptr]
 have he:(execOp f.eval op).events PR w #[]=#[⟨.cell ⟨B,i,none⟩,true,false⟩]:=by
  unfold execOp;simp only[bg,hx,hy];simp[go_sem,storeVar,sizeOf,typeInfo,pE,Dx,hc,hz,ptr,events_store PR w _ _ (.pointer _) .plain rfl]
 rw[step_skip ho hr,he,seen_def,hq];simp[seenStep]
theorem Yt(h:jC f=some (75,ptr B)){a b c:Value}(hB:w.heap[B]?=some (.cells #[a,b,c] t'))(hq:(PR.funcs[f.fn]?).any (·.norace)=false):
  stepG PR main (G f cs) w=.go (G (f.finish (.agg #[a,b,c])) cs) w #[⟨.cell ⟨B,0,none⟩,false,false⟩,⟨.cell ⟨B,1,none⟩,false,false⟩,⟨.cell ⟨B,2,none⟩,false,false⟩]:=by
 obtain⟨op,x,ho,bg,hx⟩:=mQ h;have c0:w.cell? ⟨B,0,none⟩=some a:=by simp[amr,hB]
 have c1:w.cell? ⟨B,1,none⟩=some b:=by simp[amr,hB]
 have c2:w.cell? ⟨B,2,none⟩=some c:=by simp[amr,hB]
 have hr:(execOp f.eval op).run PR w=.ok (.value (.agg #[a,b,c])) w:=by
  unfold execOp;simp only[bg,hx,ptr];simp[go_sem,c0,c1,c2]
 have he:(execOp f.eval op).events PR w #[]=#[⟨.cell ⟨B,0,none⟩,false,false⟩,⟨.cell ⟨B,1,none⟩,false,false⟩,⟨.cell ⟨B,2,none⟩,false,false⟩]:=by
  unfold execOp;simp only[bg,hx,ptr];simp[go_sem,c0,c1,c2]
 rw[cz ho hr,he,seen_def,hq];simp[seenStep]
end
end Ph
end Go.Proofs.YtdcjnhipenbcfaaGreatDoor
namespace Go.Proofs
open Shelf
def Tryz.yk:Go.Shelf.Ren:=⟨fun|156=>110|165=>121|166=>63|169=>68|240=>96|241=>136|276=>113|277=>156|n=>n,fun|31=>65|9=>9|3=>3|4=>4|0=>0|20=>20|72=>102|76=>105|70=>100|37=>79|75=>104|127=>139|164=>159|5=>5|80=>108|n=>n,fun|n=>n⟩
theorem Tryz.Yu:Go.Proofs.Lays.n156 ami Tryz.yk:={
 mixed:=by kernel_rfl
 f156:=Tryz.func110.trans (congrArg some (by kernel_rfl))
 f165:=Tryz.func121.trans (congrArg some (by kernel_rfl))
 f166:=Tryz.func63.trans (congrArg some (by kernel_rfl))
 f169:=Tryz.func68.trans (congrArg some (by kernel_rfl))
 f240:=Tryz.func96.trans (congrArg some (by kernel_rfl))
 f241:=Tryz.func136.trans (congrArg some (by kernel_rfl))
 f276:=Tryz.func113.trans (congrArg some (by kernel_rfl))
 f277:=Tryz.func156.trans (congrArg some (by kernel_rfl))
 t0:=amu
 a0:=amW
 z0:=amQ
 v0:=amC
 t3:=amm
 a3:=amH
 z3:=amA
 v3:=amn
 t4:=am2
 a4:=anE
 z4:=anw
 v4:=ana
 t9:=amI
 a9:=anf
 z9:=anc
 v9:=amX
 t20:=aob
 a20:=Tryz.isAgg20
 z20:=Tryz.sizeOf20
 v20:=aok
 t31:=Tryz.underlying65
 a31:=Tryz.isAgg65
 z31:=Tryz.sizeOf65
 v31:=Tryz.zeroValue65
 t37:=amF
 a37:=anx
 z37:=ann
 v37:=am4
 t70:=amB
 a70:=anL
 z70:=anF
 v70:=ano
 t72:=ank
 a72:=anM
 z72:=anG
 v72:=anq
 t75:=Tryz.underlying104
 a75:=Tryz.isAgg104
 z75:=Tryz.sizeOf104
 v75:=Tryz.zeroValue104
 t76:=Tryz.underlying105
 a76:=Tryz.isAgg105
 z76:=Tryz.sizeOf105
 v76:=Tryz.zeroValue105
 t127:=anW
 a127:=Tryz.isAgg139
 z127:=Tryz.sizeOf139
 v127:=aoc
 t164:=anl
 a164:=Tryz.isAgg159
 z164:=Tryz.sizeOf159
 v164:=Tryz.zeroValue159}
theorem Tryz.uX:Builder.Extra ami Tryz.yk:={
 sizeBuilder:=by kernel_rfl
 liesBuilder:=by kernel_rfl
 t5:=amS
 a5:=ang
 z5:=ane
 v5:=amY
 infoByte:=by kernel_rfl
 cellsByte:=by kernel_rfl
 sizeByte:=by kernel_rfl
 neB5:=by decide}
open Go.RowKit in
theorem Tryz.strings_Join(bk o c:Nat)(xs:List ByteArray)(sep:ByteArray)(w:World)(adn:∀(j:Nat) x,xs[j]?=some x->w.cell? ⟨bk,o+j,none⟩=some (.string x))(Fs:bk<w.heap.size)(hN:xs.length<=140737488355328)(ado:xs.length<=c)(hlen:(Lib.join (xs.map (·.data.toList)) sep.data.toList).length<=140737488355328):
  Calls ami 110 #[.slice (some ⟨bk,o,none⟩) xs.length c,.string sep] w fun e w'=>e=.returned (.string ⟨(Lib.join (xs.map (·.data.toList)) sep.data.toList).toArray⟩)/\Below w.heap.size w w':=Any.strings_Join Tryz.Yu Tryz.uX bk o c xs sep w adn Fs hN ado hlen
def Tryz.QA:Go.Shelf.Ren:=⟨fun|7=>124|10=>143|n=>n,fun|23=>166|26=>3|3=>3|28=>170|0=>0|27=>169|33=>197|4=>4|n=>n,fun|n=>n⟩
theorem Tryz.aaw:Go.Proofs.SlLaysZI.n7 ami Tryz.QA:={
 mixed:=by kernel_rfl
 f7:=⟨Tryz.f124.name,by decide,Tryz.func124.trans (congrArg some (by kernel_rfl))⟩
 f10:=⟨Tryz.f143.name,by decide,Tryz.func143.trans (congrArg some (by kernel_rfl))⟩
 t0:=amu
 a0:=amW
 z0:=amQ
 v0:=amC
 t4:=am2
 a4:=anE
 z4:=anw
 v4:=ana
 t23:=Tryz.underlying166
 a23:=Tryz.isAgg166
 z23:=Tryz.sizeOf166
 v23:=Tryz.zeroValue166
 t26:=amm
 a26:=amH
 z26:=amA
 v26:=amn
 t27:=Tryz.underlying169
 a27:=Tryz.isAgg169
 z27:=Tryz.sizeOf169
 v27:=Tryz.zeroValue169
 t28:=anZ
 a28:=Tryz.isAgg170
 z28:=Tryz.sizeOf170
 v28:=aod
 t33:=Tryz.underlying197
 a33:=Tryz.isAgg197
 z33:=Tryz.sizeOf197
 v33:=Tryz.zeroValue197}
def Tryz.yl:Go.Shelf.Ren:=⟨fun|6=>123|8=>141|9=>142|11=>162|13=>164|12=>163|23=>198|24=>152|14=>189|15=>190|16=>191|17=>192|18=>193|19=>194|20=>195|21=>196|22=>197|25=>208|26=>209|27=>210|28=>211|29=>212|30=>213|31=>221|n=>n,fun|26=>3|28=>170|24=>25|0=>0|3=>3|37=>204|48=>185|50=>176|4=>4|40=>239|39=>238|45=>217|5=>5|9=>9|51=>258|55=>261|57=>264|58=>80|33=>197|n=>n,fun|n=>n⟩
theorem Tryz.Yv:Go.Proofs.SlLaysZI.n6 ami Tryz.yl:={
 mixed:=by kernel_rfl
 f6:=⟨Tryz.f123.name,by decide,Tryz.func123.trans (congrArg some (by kernel_rfl))⟩
 f8:=⟨Tryz.f141.name,by decide,Tryz.func141.trans (congrArg some (by kernel_rfl))⟩
 f11:=⟨Tryz.f162.name,by decide,Tryz.func162.trans (congrArg some (by kernel_rfl))⟩
 t0:=amu
 a0:=amW
 z0:=amQ
 v0:=amC
 t24:=anr
 a24:=an0
 z24:=anQ
 v24:=anz
 t26:=amm
 a26:=amH
 z26:=amA
 v26:=amn
 t28:=anZ
 a28:=Tryz.isAgg170
 z28:=Tryz.sizeOf170
 v28:=aod
 i26:=by kernel_rfl}
def Tryz.QB:Go.Shelf.Ren:=⟨fun|5=>142|8=>164|7=>163|19=>198|20=>152|10=>189|11=>190|12=>191|13=>192|14=>193|15=>194|16=>195|17=>196|18=>197|30=>208|31=>209|32=>210|33=>211|34=>212|35=>213|40=>221|n=>n,fun|23=>25|25=>3|3=>3|32=>204|22=>25|0=>0|44=>185|46=>176|4=>4|36=>239|35=>238|41=>217|5=>5|9=>9|53=>258|57=>261|63=>264|64=>80|n=>n,fun|n=>n⟩
theorem Tryz.aax:Go.Proofs.SlLaysM.n5 ami Tryz.QB:={
 mixed:=by kernel_rfl
 f5:=⟨Tryz.f142.name,by decide,Tryz.func142.trans (congrArg some (by kernel_rfl))⟩
 f7:=⟨Tryz.f163.name,by decide,Tryz.func163.trans (congrArg some (by kernel_rfl))⟩
 f8:=Tryz.func164.trans (congrArg some (by kernel_rfl))
 f10:=⟨Tryz.f189.name,by decide,Tryz.func189.trans (congrArg some (by kernel_rfl))⟩
 f11:=⟨Tryz.f190.name,by decide,Tryz.func190.trans (congrArg some (by kernel_rfl))⟩
 f12:=⟨Tryz.f191.name,by decide,Tryz.func191.trans (congrArg some (by kernel_rfl))⟩
 f13:=⟨Tryz.f192.name,by decide,Tryz.func192.trans (congrArg some (by kernel_rfl))⟩
 f14:=⟨Tryz.f193.name,by decide,Tryz.func193.trans (congrArg some (by kernel_rfl))⟩
 f15:=⟨Tryz.f194.name,by decide,Tryz.func194.trans (congrArg some (by kernel_rfl))⟩
 f16:=⟨Tryz.f195.name,by decide,Tryz.func195.trans (congrArg some (by kernel_rfl))⟩
 f17:=⟨Tryz.f196.name,by decide,Tryz.func196.trans (congrArg some (by kernel_rfl))⟩
 f18:=⟨Tryz.f197.name,by decide,Tryz.func197.trans (congrArg some (by kernel_rfl))⟩
 f19:=Tryz.func198.trans (congrArg some (by kernel_rfl))
 f20:=Tryz.func152.trans (congrArg some (by kernel_rfl))
 f30:=⟨Tryz.f208.name,by decide,Tryz.func208.trans (congrArg some (by kernel_rfl))⟩
 f31:=Tryz.func209.trans (congrArg some (by kernel_rfl))
 f32:=Tryz.func210.trans (congrArg some (by kernel_rfl))
 f33:=⟨Tryz.f211.name,by decide,Tryz.func211.trans (congrArg some (by kernel_rfl))⟩
 f34:=⟨Tryz.f212.name,by decide,Tryz.func212.trans (congrArg some (by kernel_rfl))⟩
 f35:=⟨Tryz.f213.name,by decide,Tryz.func213.trans (congrArg some (by kernel_rfl))⟩
 f40:=⟨Tryz.f221.name,by decide,Tryz.func221.trans (congrArg some (by kernel_rfl))⟩
 t0:=amu
 a0:=amW
 z0:=amQ
 v0:=amC
 t3:=amm
 a3:=amH
 z3:=amA
 v3:=amn
 t4:=am2
 a4:=anE
 z4:=anw
 v4:=ana
 t5:=amS
 a5:=ang
 z5:=ane
 v5:=amY
 t9:=amI
 a9:=anf
 z9:=anc
 v9:=amX
 t22:=anr
 a22:=an0
 z22:=anQ
 v22:=anz
 t23:=anr
 a23:=an0
 z23:=anQ
 v23:=anz
 t25:=amm
 a25:=amH
 z25:=amA
 v25:=amn
 t32:=an5
 a32:=Tryz.isAgg204
 z32:=Tryz.sizeOf204
 v32:=aof
 t35:=Tryz.underlying238
 a35:=Tryz.isAgg238
 z35:=Tryz.sizeOf238
 v35:=Tryz.zeroValue238
 t36:=Tryz.underlying239
 a36:=Tryz.isAgg239
 z36:=Tryz.sizeOf239
 v36:=Tryz.zeroValue239
 t41:=Tryz.underlying217
 a41:=Tryz.isAgg217
 z41:=Tryz.sizeOf217
 v41:=Tryz.zeroValue217
 t44:=an6
 a44:=Tryz.isAgg185
 z44:=Tryz.sizeOf185
 v44:=aog
 t46:=an7
 a46:=Tryz.isAgg176
 z46:=Tryz.sizeOf176
 v46:=aoh
 t53:=Tryz.underlying258
 a53:=Tryz.isAgg258
 z53:=Tryz.sizeOf258
 v53:=Tryz.zeroValue258
 t57:=Tryz.underlying261
 a57:=Tryz.isAgg261
 z57:=Tryz.sizeOf261
 v57:=Tryz.zeroValue261
 t63:=Tryz.underlying264
 a63:=Tryz.isAgg264
 z63:=Tryz.sizeOf264
 v63:=Tryz.zeroValue264
 t64:=Tryz.underlying80
 a64:=Tryz.isAgg80
 z64:=Tryz.sizeOf80
 v64:=Tryz.zeroValue80}
def Tryz.IP:Go.Shelf.Ren:=⟨fun|170=>66|n=>n,fun|70=>100|3=>3|0=>0|72=>102|37=>79|5=>5|n=>n,fun|n=>n⟩
theorem Tryz.Yw:Go.Proofs.Lays.n170 ami Tryz.IP:={
 mixed:=by kernel_rfl
 f170:=Tryz.func66.trans (congrArg some (by kernel_rfl))
 t0:=amu
 a0:=amW
 z0:=amQ
 v0:=amC
 t3:=amm
 a3:=amH
 z3:=amA
 v3:=amn
 t37:=amF
 a37:=anx
 z37:=ann
 v37:=am4
 t70:=amB
 a70:=anL
 z70:=anF
 v70:=ano
 t72:=ank
 a72:=anM
 z72:=anG
 v72:=anq}
open Go.RowKit in
theorem Tryz.Builder_Len(B b:Nat)(bs:List Value)(w:World)(h:amD 102 5 B b bs w):
  Calls ami 66 #[.pointer (some ⟨b,0,none⟩)] w fun e w'=>e=.returned (.int .i64 bs.length)/\w'=w:=Any.Builder_Len Tryz.Yw B b bs w h
def Tryz.ym:Go.Shelf.Ren:=⟨fun|169=>68|n=>n,fun|70=>100|9=>9|0=>0|72=>102|37=>79|127=>139|3=>3|5=>5|n=>n,fun|n=>n⟩
theorem Tryz.Yx:Go.Proofs.Lays.n169 ami Tryz.ym:={
 mixed:=by kernel_rfl
 f169:=Tryz.func68.trans (congrArg some (by kernel_rfl))
 t0:=amu
 a0:=amW
 z0:=amQ
 v0:=amC
 t3:=amm
 a3:=amH
 z3:=amA
 v3:=amn
 t9:=amI
 a9:=anf
 z9:=anc
 v9:=amX
 t37:=amF
 a37:=anx
 z37:=ann
 v37:=am4
 t70:=amB
 a70:=anL
 z70:=anF
 v70:=ano
 t72:=ank
 a72:=anM
 z72:=anG
 v72:=anq
 t127:=anW
 a127:=Tryz.isAgg139
 z127:=Tryz.sizeOf139
 v127:=aoc}
theorem Tryz.uY:Builder.Extra ami Tryz.ym:={
 sizeBuilder:=by kernel_rfl
 liesBuilder:=by kernel_rfl
 t5:=amS
 a5:=ang
 z5:=ane
 v5:=amY
 infoByte:=by kernel_rfl
 cellsByte:=by kernel_rfl
 sizeByte:=by kernel_rfl
 neB5:=by decide}
open Go.RowKit in
theorem Tryz.Builder_String_any(B b:Nat)(l:List UInt8)(w:World)(h:amD 102 5 B b (amE l) w)(hBw:B<=w.heap.size):
  Calls ami 68 #[.pointer (some ⟨b,0,none⟩)] w fun e w'=>e=.returned (.string ⟨l.toArray⟩)/\Below B w w':=Any.Builder_String_any Tryz.Yx Tryz.uY B b l w h hBw
def Tryz.IQ:Go.Shelf.Ren:=⟨fun|137=>99|217=>115|266=>134|n=>n,fun|9=>9|5=>5|3=>3|n=>n,fun|n=>n⟩
theorem Tryz.Yy:Go.Proofs.Lays.n137 ami Tryz.IQ:={
 mixed:=by kernel_rfl
 f137:=Tryz.func99.trans (congrArg some (by kernel_rfl))
 f217:=Tryz.func115.trans (congrArg some (by kernel_rfl))
 f266:=Tryz.func134.trans (congrArg some (by kernel_rfl))
 t3:=amm
 a3:=amH
 z3:=amA
 v3:=amn
 t5:=amS
 a5:=ang
 z5:=ane
 v5:=amY
 t9:=amI
 a9:=anf
 z9:=anc
 v9:=amX}
open Go.RowKit in
theorem Tryz.strings_IndexByte(s:ByteArray)(c:Int)(w:World):
  Calls ami 99 #[.string s,.int .u8 c] w fun e w'=>e=.returned (.int .i64 (Lib.indexByte s.data.toList c.toNat.toUInt8))/\w'=w:=Any.strings_IndexByte Tryz.Yy s c w
def Tryz.Fu:Go.Shelf.Ren:=⟨fun|171=>74|243=>98|246=>114|283=>130|284=>131|285=>132|286=>133|129=>152|317=>151|318=>153|319=>154|320=>155|337=>166|338=>167|n=>n,fun|3=>3|9=>9|2=>2|4=>4|171=>175|0=>0|53=>176|37=>79|5=>5|173=>179|212=>202|51=>185|20=>20|213=>203|46=>204|232=>245|233=>246|n=>n,fun|17=>0|18=>2|19=>3|n=>n⟩
theorem Tryz.UH:Go.Proofs.LaysM.n171 ami Tryz.Fu:={
 mixed:=by kernel_rfl
 f129:=Tryz.func152.trans (congrArg some (by kernel_rfl))
 f171:=Tryz.func74.trans (congrArg some (by kernel_rfl))
 f243:=Tryz.func98.trans (congrArg some (by kernel_rfl))
 f246:=Tryz.func114.trans (congrArg some (by kernel_rfl))
 f283:=Tryz.func130.trans (congrArg some (by kernel_rfl))
 f284:=Tryz.func131.trans (congrArg some (by kernel_rfl))
 f285:=Tryz.func132.trans (congrArg some (by kernel_rfl))
 f286:=Tryz.func133.trans (congrArg some (by kernel_rfl))
 f317:=Tryz.func151.trans (congrArg some (by kernel_rfl))
 f318:=Tryz.func153.trans (congrArg some (by kernel_rfl))
 f319:=Tryz.func154.trans (congrArg some (by kernel_rfl))
 f320:=Tryz.func155.trans (congrArg some (by kernel_rfl))
 f337:=Tryz.func166.trans (congrArg some (by kernel_rfl))
 f338:=Tryz.func167.trans (congrArg some (by kernel_rfl))
 t0:=amu
 a0:=amW
 z0:=amQ
 v0:=amC
 t2:=Tryz.underlying2
 a2:=Tryz.isAgg2
 z2:=Tryz.sizeOf2
 v2:=Tryz.zeroValue2
 t3:=amm
 a3:=amH
 z3:=amA
 v3:=amn
 t4:=am2
 a4:=anE
 z4:=anw
 v4:=ana
 t5:=amS
 a5:=ang
 z5:=ane
 v5:=amY
 t9:=amI
 a9:=anf
 z9:=anc
 v9:=amX
 t20:=aob
 a20:=Tryz.isAgg20
 z20:=Tryz.sizeOf20
 v20:=aok
 t37:=amF
 a37:=anx
 z37:=ann
 v37:=am4
 t46:=an5
 a46:=Tryz.isAgg204
 z46:=Tryz.sizeOf204
 v46:=aof
 t51:=an6
 a51:=Tryz.isAgg185
 z51:=Tryz.sizeOf185
 v51:=aog
 t53:=an7
 a53:=Tryz.isAgg176
 z53:=Tryz.sizeOf176
 v53:=aoh
 t171:=Tryz.underlying175
 a171:=Tryz.isAgg175
 z171:=Tryz.sizeOf175
 v171:=Tryz.zeroValue175
 t173:=Tryz.underlying179
 a173:=Tryz.isAgg179
 z173:=Tryz.sizeOf179
 v173:=Tryz.zeroValue179
 t212:=Tryz.underlying202
 a212:=Tryz.isAgg202
 z212:=Tryz.sizeOf202
 v212:=Tryz.zeroValue202
 t213:=Tryz.underlying203
 a213:=Tryz.isAgg203
 z213:=Tryz.sizeOf203
 t232:=Tryz.underlying245
 a232:=Tryz.isAgg245
 z232:=Tryz.sizeOf245
 v232:=Tryz.zeroValue245
 t233:=Tryz.underlying246
 a233:=Tryz.isAgg246
 z233:=Tryz.sizeOf246
 v233:=Tryz.zeroValue246
 g17:=by kernel_rfl
 g18:=by kernel_rfl
 g19:=by kernel_rfl
 i0:=by kernel_rfl
 i2:=by kernel_rfl
 i3:=by kernel_rfl
 i4:=by kernel_rfl
 i5:=by kernel_rfl
 i9:=by kernel_rfl
 i20:=by kernel_rfl
 i37:=by kernel_rfl
 i46:=by kernel_rfl
 i51:=by kernel_rfl
 i53:=by kernel_rfl
 i171:=by kernel_rfl
 i173:=by kernel_rfl
 i212:=by kernel_rfl
 i232:=by kernel_rfl
 i233:=by kernel_rfl
 m17:=by kernel_rfl
 m18:=by kernel_rfl
 m19:=by kernel_rfl}
open Go.RowKit Go.Sort Go.Lib in
theorem Tryz.strconv_Itoa(n:Int)(h0: -9223372036854775808<=n)(h1:n<=9223372036854775807)(w:World)(mD:Lib.TabIs ami w "internal/strconv.uint64pow10" .u64 Lib.pow10Tab):
  Calls ami 74 #[.int .i64 n] w fun e w'=>e=.returned (.string ⟨(Lib.itoa n).toArray⟩)/\∃k os,w'=grow (w.drewN k) os:=Any.strconv_Itoa Tryz.UH n h0 h1 w mD
end Go.Proofs
namespace Go.Proofs.YtdcjnhipenbcfaaGreatDoor
variable {bd:Bool}{NM m mk s:ByteArray}{f f1:Frame}{fn:FuncId}{cs l:List Frame}{k0 kk:List Item}{L ks l1 l2:List Nat}{Z:Loc->Prop}{B Fd a cap clock i k n nb p q r u:Nat}{XX:Nat->Nat->Prop}{RO S X':Nat->Prop}{y:Operand}{t t':TypeId}{v z:Value}{w w' w2 wr:World}
section
open RowKit
theorem aay:(ami.info? 102).map (·.size)=some 2:=by kernel_rfl
theorem aiZ:liesAt ami ami.depth 102 (2/ami.cellsOf 102) 0 102 1=true:=by kernel_rfl
theorem OA:(ami.info? 5).map (fun i=>(i.zero,i.size,i.bytes))=some (some (.int .u8 0),1,1):=by kernel_rfl
theorem qu(b:Nat)(w:World)(h0:w.cell? ⟨b,0,none⟩=some (.pointer (some ⟨b,0,none⟩))):
  Calls ami 96 #[.pointer (some ⟨b,0,none⟩)] w fun e w'=>e=.returned (.tuple #[])/\w'=w:=by
 obtain⟨j,hj,_⟩:=amy.1 aay;go_wp2
 rw[Lib.run_neq_ptr_same w _ amB hj];go_wp2
 go_end0
 exact⟨rfl,rfl⟩
theorem pA(b:Nat)(w:World)(h0:w.cell? ⟨b,0,none⟩=some (.pointer none))(ZU:w.shape? b=some (102,2))(hfz:w.frozen? ⟨b,0,none⟩=false):
  Calls ami 96 #[.pointer (some ⟨b,0,none⟩)] w fun e w'=>e=.returned (.tuple #[])/\w'=w.setCell ⟨b,0,none⟩ (.pointer (some ⟨b,0,none⟩)):=by
 obtain⟨j,hj,hjs⟩:=amy.1 aay;go_wp2
 rw[Lib.run_to_unsafe w ⟨b,0,none⟩ amB anl hj (by rw[hjs];decide) ZU (Nat.zero_lt_succ 1)];simp only[anH];go_wp2
 rw[run_callFunc_extern Tryz.func113 (by kernel_rfl) (by kernel_rfl) (by kernel_rfl) (by kernel_rfl)];rw[Lib.run_noEscape];simp only[anH];rw[aoo];go_wp2
 rw[Lib.run_from_unsafe w ⟨b,0,none⟩ anl amB hj ZU aiZ];simp only[anH];rw[aoo];go_wp2
 go_end0
 exact⟨rfl,rfl⟩
theorem rM(B b:Nat)(bs:List _)(w:World)(h:amD 102 5 B b bs w):
  Calls ami 96 #[.pointer (some ⟨b,0,none⟩)] w fun e w'=>e=.returned (.tuple #[])/\anR 102 5 B b (.pointer (some ⟨b,0,none⟩)) bs w'/\Below B w w':=by
 rcases h with h|h
 ·refine(pA b w h.cell0 h.shape h.frozen0).mono ?_;rintro e w' ⟨rfl,rfl⟩;exact⟨rfl,h.used _,(anJ B w).setCell h.1 _⟩
 ·refine(qu b w h.cell0).mono ?_;rintro e w' ⟨rfl,rfl⟩;exact⟨rfl,h,anJ B _⟩
theorem bNe:(102:TypeId)≠5:=by simp
theorem yW(B b:Nat)(bs:List Value)(s:ByteArray)(w:World)(h:amD 102 5 B b bs w)(hlen:bs.length+s.size<=1000000)(hBw:B<=w.heap.size):
  Calls ami 63 #[.pointer (some ⟨b,0,none⟩),.string s] w fun e w'=>e=.returned (.tuple #[.int .i64 (s.size:Int),.nilIface])/\amD 102 5 B b (bs++anA s) w'/\Below B w w':=by
 obtain⟨i0,hi,nJ,kK,iI⟩:=info_parts OA
 go_enter Tryz.func63,Tryz.ntmps63
 go_wp2_with(go_at_call 96;refine(rM B b bs _ h).mono ?_)
 rintro e w1 ⟨rfl,⟨hB,v,Fs,aJ,bj⟩,cn⟩;have c0:w1.cell? ⟨b,0,none⟩=some (.pointer (some ⟨b,0,none⟩)):=by rw[amT Fs];rfl
 have c1:w1.cell? ⟨b,1,none⟩=some v:=by rw[amT Fs];rfl
 go_wp2_with(at_builtin;refine Lib.wpList_append_own_string _ rfl _ _ 79 9 rfl B 5 i0 amF amI hi nJ kK iI _ _ _ rfl aJ s rfl ?c3 ?c4 ?c5 ?_)
 case c3=>unfold maxLen;omega
 case c4=>omega
 case c5=>have:=cn.size;omega
 intro v' w2 aW aD _;have aV:b<w1.heap.size:=by
  rcases Nat.lt_or_ge b w1.heap.size with h'|h'
  ·exact h'
  ·simp[amx h']at Fs
 have di:w2.heap[b]?=some (.cells #[.pointer (some ⟨b,0,none⟩),v] 102 (0,0)):=by
  rw[aD.block b aV (fun e=>bj e.symm)];exact Fs
 have d1:w2.cell? ⟨b,1,none⟩=some v:=by rw[amT di];rfl
 have f1:w2.frozen? ⟨b,1,none⟩=false:=an8 di 1;obtain⟨ao,n',cap,rfl⟩:∃ao n' cap,v'=.slice ao n' cap:=by
  rcases aW.2 with⟨hv,_⟩|⟨g,cap,cur,hv,_⟩
  ·exact⟨_,_,_,hv⟩
  ·exact⟨_,_,_,hv⟩
 go_wp2
 go_ret2
 refine⟨rfl,.inr ?_,?_⟩
 ·exact aoi (T:=102) (e:=5) hB di (bs':=bs++anA s) (by simpa[Lib.strCells_length]using aW) bNe
 ·exact(cn.grown aD (by have:=cn.size;omega) (fun k hk=>(aJ.lt k hk).1)).setCell (p:=⟨b,1,none⟩) hB _
theorem Cr(B b:Nat)(bs:List Value)(c:Int)(w:World)(h:amD 102 5 B b bs w)(hlen:bs.length+1<=1000000)(hBw:B<=w.heap.size):
  Calls ami 73 #[.pointer (some ⟨b,0,none⟩),.int .u8 c] w fun e w'=>e=.returned .nilIface/\amD 102 5 B b (bs++[.int .u8 c]) w'/\Below B w w':=by
 obtain⟨i0,hi,nJ,kK,iI⟩:=info_parts OA
 go_enter Tryz.func73,Tryz.ntmps73
 go_wp2_with(go_at_call 96;refine(rM B b bs _ h).mono ?_)
 rintro e w1 ⟨rfl,⟨hB,v,Fs,aJ,bj⟩,cn⟩;have c1:w1.cell? ⟨b,1,none⟩=some v:=by rw[amT Fs];rfl
 go_wp2_with(at_builtin;refine wpList_append_own _ rfl _ _ 79 rfl B 5 i0 (.int .u8 0) 1 1 amF hi nJ kK iI rfl (by decide) _ _ _ rfl (aJ.alloc _) ⟨w1.heap.size,0,none⟩ 1 1 [.int .u8 c] rfl rfl ?c1 ?c2 ?c3 ?c4 ?c5 ?_)
 case c1=>
  intro j u hj
  match j,hj with
  |0,hj=>simp at hj;subst hj;simp[aol]
 case c2=>intro u hu;simp at hu;subst hu;rfl
 case c3=>unfold maxLen;omega
 case c4=>omega
 case c5=>have:=cn.size;simp;omega
 intro v' w2 aW aD _;have aV:b<w1.heap.size:=by
  rcases Nat.lt_or_ge b w1.heap.size with h'|h'
  ·exact h'
  ·simp[amx h']at Fs
 have di:w2.heap[b]?=some (.cells #[.pointer (some ⟨b,0,none⟩),v] 102 (0,0)):=by
  rw[aD.block b (by simp;omega) (fun e=>bj e.symm),Lib.alloc_old w1 _ b aV];exact Fs
 have d1:w2.cell? ⟨b,1,none⟩=some v:=by rw[amT di];rfl
 have f1:w2.frozen? ⟨b,1,none⟩=false:=an8 di 1;obtain⟨g,cap,rfl⟩:∃g cap,v'=.slice (some ⟨g,0,none⟩) (bs.length+1) cap:=by
  rcases aW.2 with⟨_,h0⟩|⟨g,cap,cur,hv,_⟩
  ·omega
  ·exact⟨g,cap,hv⟩
 go_wp2
 go_ret
 refine⟨rfl,.inr ?_,?_⟩
 ·exact aoi (T:=102) (e:=5) hB di (bs':=bs++[.int .u8 c]) (by simpa using aW) bNe
 ·exact((cn.alloc (by have:=cn.size;omega) _).grown aD (by have:=cn.size;simp;omega) (fun k hk=>(aJ.lt k hk).1)).setCell (p:=⟨b,1,none⟩) hB _
theorem Yz(s:ByteArray):mB s=bB (dZ s 62 0) fun p=>bB (bN s 200 p) (vH s (s.size+1) (cR s 200 p)):=by
 unfold mB dZ;rw[sb]
theorem QC{o o':Obj}(h:((w.alloc o).alloc o').grownBy w' (some r))(hr:w.heap.size<=r):Below w.heap.size w w':=
 (((anJ _ _).alloc (ams _) _).alloc (by simp) _).grown h (by simp;omega) (by simp_all)
theorem qv(s:ByteArray)(f:Nat)(acc:List _)(st:Nat×Bool)(h:st.2=true):dK s f acc st=(st,acc):=eN (.inl h) rfl
theorem rN(s:ByteArray):∀f acc p,acc≠ []->p<=s.size->(dK s f acc (p,false)).1=vH s f acc.length p
 |0,acc,p,_,_=>rfl
 |f+1,acc,p,ha,hp=>by
  by_cases h:p<s.size
  ·have h1:=lP (f:=f+1) (acc:=acc) (st:=(p,false)) (by omega) rfl (.inr h) rfl;rw[<-h1,Nat.add_sub_cancel];simp only[vH];rw[if_neg (by omega)];by_cases hb:(bN s (200-acc.length) p).2=true
   ·rw[qv _ _ _ _ hb,gW hb]
   ·rw[amv]at hb;have hle:=(gX s (200-acc.length) p hp).2;have hlen:(acc++Np s (200-acc.length) p).length=acc.length+cR s (200-acc.length) p:=by rw[amP,y_ s _ p hp]
    rw[<-hlen];have e:bN s (200-acc.length) p=((bN s (200-acc.length) p).1,false):=by rw[<-hb]
    rw[e];exact rN s f _ _ (by simp[ha]) hle
  ·rw[eN (.inr ⟨ha,by omega⟩) rfl];simp only[vH];simp_all
theorem xj(s:ByteArray):(cD s).1=mB s:=by
 unfold cD;rw[Yz];have e:bB _ _=dZ s 62 0:=rfl;rw[e];by_cases hb:(dZ s 62 0).2=true
 ·rw[qv _ _ _ _ hb,gW hb]
 ·rw[amv]at hb;rw[fC hb];have hle:=(j7 s 62 0 (by omega)).2;generalize dZ s 62 0=st at *;obtain⟨p,b⟩:=st;subst hb;have h1:=lP (s:=s) (f:=s.size+2) (st:=(p,false)) (by omega) rfl (.inl rfl) rfl;rw[<-h1];simp at *;by_cases hb:(bN s 200 p).2=true
  ·rw[qv _ _ _ _ hb,gW hb]
  ·rw[amv]at hb;have hm:=ij s 200 p hb;have hlen:=y_ s 200 p hle;have e2:bN s 200 p=((bN s 200 p).1,false):=by rw[<-hb]
   rw[e2,<-hlen];refine rN s _ _ _ ?_ (gX s 200 p hle).2;intro h;rw[h]at hlen;simp at hlen;omega
theorem yn{R:Nat×Bool}(h:R.2=true):placeOf R=(R.1):=if_pos h
theorem uZ{R:Nat×Bool}(h:R.2=false):placeOf R= -1:=if_neg (by simp[h])
abbrev ie(B:Nat)(acc:List _)(w:World):=amD 102 5 B B (amE acc) w
theorem A4{p:Value}{bs:List _}(h:anR 102 5 B B p bs w)(hg:w.grownBy w' (some r))(hr:r<B):anR 102 5 B B p bs w':=by
 obtain⟨hB,v,hb,aJ,bj⟩:=h;have aV:=Lib.BuilderAt.lt ⟨hB,v,hb,aJ,bj⟩;refine⟨hB,v,?_,aJ.kept hg (.inr ?_),bj⟩
 ·rw[hg.block B aV (by intro e;simp_all)];exact hb
 ·intro e;have:=(aJ.lt r e).1;omega
theorem ie.kept{acc:List _}(h:ie B acc w)(hg:w.grownBy w' (some r))(hr:r<B):ie B acc w':=
 h.imp (fun h=>A4 h hg hr) (fun h=>A4 h hg hr)
theorem ie.drewN{acc:List _}(h:ie B acc w)(m:Nat):ie B acc (w.drewN m):=h
theorem ie.lt{acc:List _}(h:ie B acc w):B<w.heap.size:=by
 rcases h with h|h<;>exact h.lt
theorem ie.new(w:World):ie w.heap.size [] (w.alloc (.cells #[.pointer none,.slice none 0 0] 102)):=Lib.fresh_isBuilder 102 5 w
theorem adp(B:Nat)(acc:List _)(w:World)(h:ie B acc w):
  Calls ami 66 #[.pointer (some ⟨B,0,none⟩)] w fun e w'=>e=.returned (.int .i64 acc.length)/\w'=w:=by
 have:=Tryz.Builder_Len B B _ w h
 rwa [show(amE acc).length=acc.length by simp[amE]]at this
theorem qS(B:Nat)(acc:List _)(w:World)(h:ie B acc w):
  Calls ami 68 #[.pointer (some ⟨B,0,none⟩)] w fun e w'=>e=.returned (.string (str acc))/\Below B w w':=Tryz.Builder_String_any B B acc w h (by have:=h.lt;omega)
theorem DG(acc:List _)(x:ByteArray):amE acc++anA x=amE (acc++x.data.toList):=by
 simp[amE,anA]
theorem u_(B:Nat)(acc:List _)(x:ByteArray)(w:World)(h:ie B acc w)(hl:acc.length+x.size<=1000000):
  Calls ami 63 #[.pointer (some ⟨B,0,none⟩),.string x] w fun e w'=>e=.returned (.tuple #[.int .i64 x.size,.nilIface])/\ie B (acc++x.data.toList) w'/\Below B w w':=by
 refine(yW B B _ x w h (by simp[amE];omega) (by have:=h.lt;omega)).mono ?_;rintro e w' ⟨he,h1,h2⟩;rw[DG]at h1;simp_all
def Fv(NM:ByteArray)(w:World)(R:(Nat×Bool)×List UInt8)(e:Ending)(w':World):Prop:=
 (R.1.2=false->e=.returned (.agg #[.string NM,.string (str R.2)]))/\(R.1.2=true->e=.panicked (gives 2 (R.1.1:Int)))/\Below w.heap.size w w'
theorem sP{w1:World}{st:Nat×Bool}{l:List _}{R:(Nat×Bool)×List _}(hR:R=(st,l))(aA:st.2=true)(hb:Below w.heap.size w w1):Fv NM w R (.panicked (gives 2 (st.1))) w1:=by
 subst hR;exact⟨fun h=>by simp_all,fun _=>rfl,hb⟩
theorem IU{w1:World}{l:List _}{R:(Nat×Bool)×List _}(hR:R=((p,false),l))(hb:Below w.heap.size w w1):Fv NM w R (.returned (.agg #[.string NM,.string (str l)])) w1:=by
 subst hR;exact⟨fun _=>rfl,fun h=>anC h,hb⟩
theorem IV(s:ByteArray)(m p:Nat)(hp:p<=s.size):(kO s m p).data.toList.map gb=Np s m p:=by
 unfold Np kO;simp only[rest];simp
theorem UI(l:List _):(str l).data.toList=l:=by simp[str]
def QD(s:ByteArray):=WK s (aI s 62 0).1
theorem A5{o o':Obj}(hg:((w.alloc o).alloc o').grownBy w' (some r))(hr:r≠w.heap.size):w'.heap[w.heap.size]?=some o:=by
 rw[hg.block _ (by simp;omega) (by simpa using fun h=>hr h.symm),heap_alloc_old _ _ (by simp),heap_alloc_new]
theorem vb(s:ByteArray)(w:World)(hs:s.size<=1000):
  Calls ami 43 #[.string s] w fun e w'=>Fv (QD s) w (cD s) e w':=by
 generalize hR:cD s=R;have HR:=laid (show dK s (s.size+2) [] (dZ s 62 0)=R from hR);clear hR;generalize hM:QD s=NM;have HM:=laid (show WK s (aI s 62 0).1=NM from hM);clear hM
 go_enter Tryz.func43,Tryz.ntmps43
 go_wp2_with fail
 have adq:=Gz (w.alloc (.cells #[.string ⟨#[]⟩,.string ⟨#[]⟩] 68)) s 0 2;have ai0:(w.alloc (.cells #[.string ⟨#[]⟩,.string ⟨#[]⟩] 68)).heap.size=w.heap.size+1:=by simp
 rw[ai0]at adq;refine(tx _ _ s 0 2 _ 62 rfl adq hs (by omega)).mono ?_;rw[HM.out];clear HM;rintro e w1 ⟨h1,h2,dE,ju⟩;have ns:=j7 s 62 0 (by omega);have aaz:=A5 ju (by omega);have cn:Below w.heap.size w w1:=QC ju (by omega);clear ju adq ai0;generalize hQ:w.heap.size+1=Q at *;by_cases aA:(dZ s 62 0).2=true
 ·obtain rfl:=h2 aA;exact⟨rfl,sP (eN (.inl aA) HR.out) aA cn⟩
 ·rw[amv]at aA;obtain rfl:=h1 aA;clear h1 h2;have KC:=laid (lP (by omega) aA (.inl rfl) HR.out);generalize(dZ s 62 0).1=p1 at *;clear aA HR;have aV:=dE.lt;go_wp2_with fail
  refine(oz _ _ s p1 2 _ 200 rfl (by omega) (dE.alloc _) hs ns.2).mono ?_;rintro e w2 ⟨h1,h2,fU,fS⟩;have hB2:=(ie.new w1).kept fS aV;have UJ:=fS.block w.heap.size (by simp;omega) (by simp;omega);rw[heap_alloc_old _ _ (by omega),aaz]at UJ;have di:Below w.heap.size w w2:=(cn.alloc cn.size _).grown fS (by simp;have:=cn.size;omega) (by intro k hk;cases hk;omega);clear fS dE cn aaz;have vG:=gX s 200 p1 ns.2;by_cases aA:(bN s 200 p1).2=true
  ·obtain rfl:=h2 aA;exact⟨rfl,sP (eN (.inl aA) KC.out) aA di⟩
  ·rw[amv]at aA;obtain rfl:=h1 aA;clear h1 h2;have rz:=ij s 200 p1 aA;have hnl:=lN s 200 p1;have pN:=sa s 200 p1 ns.2;have oB:=IV s 200 p1 ns.2;have R6:Hid (s.size-(bN s 200 p1).1<s.size+1/\dK s (s.size+1) ((kO s 200 p1).data.toList.map gb) ((bN s 200 p1).1,false)=R):=laid ⟨by omega,by
    have:=KC.out;rw[show s.size+2-1=s.size+1 by omega]at this;rw[oB,<-aA];exact this⟩
   clear KC oB;have hxs:1<=(kO s 200 p1).size/\(kO s 200 p1).size<=200:=by omega
   generalize kO s 200 p1=X at *;generalize(bN s 200 p1).1=p2 at *;clear aA rz hnl pN ns;generalize w1.heap.size=B at *;go_wp2_with fail
   refine(u_ B [] X _ hB2 (by simp;omega)).mono ?_;rintro e w3 ⟨rfl,hB3,Kb⟩;have bV:=fU.below Kb aV;have UK:=Kb.block w.heap.size (by omega);rw[UJ]at UK;have fj:Below w.heap.size w w3:=di.trans (Kb.mono (by omega));clear Kb fU di hB2 UJ;rw[List.nil_append]at hB3;go_wp2
   go_loopw [] (fun wr=>∃(acc:List UInt8) (p fuel:Nat),1<=acc.length/\acc.length<=200/\p<=s.size/\RD wr Q s p 2/\ie B acc wr/\wr.heap[w.heap.size]?=some (.cells #[.string ⟨#[]⟩,.string ⟨#[]⟩] 68)/\Below w.heap.size w wr/\Hid (s.size-p<fuel/\dK s fuel (acc.map gb) (p,false)=R)) (fun wr=>s.size-cj wr Q)
   case atStart=>exact⟨X.data.toList,p2,s.size+1,by simp;omega,by simp;omega,vG.2,bV,hB3,UK,fj,R6⟩
   case round=>
    obtain⟨acc,p,fuel,ha1,WR,hp,eM,pK,ai1,aH,HF⟩:=hrel;clear R6 bV hB3 fj vG hxs UK;by_cases bR:p<s.size
    ·have HL:=laid (lP (by have:=HF.out.1;omega) rfl (.inr bR) HF.out.2);go_wp2_with fail
     refine(tw _ _ s p 2 eM bR).mono ?_;rintro e w4 ⟨rfl,mq,rfl⟩;go_wp2_with fail
     refine(adp B acc _ (pK.drewN mq)).mono ?_;rintro e w4 ⟨rfl,rfl⟩;go_wp2_with fail
     refine(oz _ _ s p 2 _ (200-acc.length) (by omega) (by omega) (eM.drewN mq) hs hp).mono ?_;rintro e w4 ⟨h1,h2,lQ,Ns⟩;have hB4:=(pK.drewN mq).kept Ns aV;have aaA:=Ns.block w.heap.size (by have:=eM.lt;simp;omega) (by simp;omega);have sU:Below w.heap.size w w4:=(Go.below_drewN aH mq).grown Ns (by have:=aH.size;simpa using this) (by intro k hk;cases hk;omega);have Nt:=gX s (200-acc.length) p hp;have HL':=HL.out;rw[aos]at HL';by_cases aA:(bN s (200-acc.length) p).2=true
     ·obtain rfl:=h2 aA;exact⟨rfl,sP (eN (.inl aA) HL') aA sU⟩
     ·rw[amv]at aA;obtain rfl:=h1 aA;clear h1 h2 Ns;have UL:w4.heap[w.heap.size]?=some (.cells #[.string ⟨#[]⟩,.string ⟨#[]⟩] 68):=aaA.trans ai1;clear aaA;have rz:=ij s (200-acc.length) p aA;have hnl:=lN s (200-acc.length) p;have pN:=sa s (200-acc.length) p hp;have oB:=IV s (200-acc.length) p hp;have HL1:Hid (s.size-(bN s (200-acc.length) p).1<fuel-1/\dK s (fuel-1) ((acc++(kO s (200-acc.length) p).data.toList).map gb) ((bN s (200-acc.length) p).1,false)=R):=laid ⟨by have:=HF.out.1;omega,by
       rw[List.map_append,oB,<-aA];exact HL'⟩
      clear HL HL' HF oB;have hxs:(kO s (200-acc.length) p).size+acc.length<=200:=by omega
      have hpm:p<(bN s (200-acc.length) p).1:=by omega
      have BL:=laid eM.cj;have WC:=laid lQ.cj;generalize kO s (200-acc.length) p=X at *;generalize(bN s (200-acc.length) p).1=p4 at *;clear aA rz hnl pN;go_wp2_with fail
      refine(u_ B acc X _ hB4 (by omega)).mono ?_;rintro e w5 ⟨rfl,hB5,Kb⟩;have lT:=lQ.below Kb aV;have aaB:=Kb.block w.heap.size (by omega);rw[UL]at aaB;have Ka:Below w.heap.size w w5:=sU.trans (Kb.mono (by omega));have apS:=laid lT.cj;clear Kb lQ sU hB4 UL;go_wp2
      go_roundw
      case rel=>go_light;exact⟨acc++X.data.toList,p4,fuel-1,by simp;omega,by simp;omega,Nt.2,lT,hB5,aaB,Ka,HL1⟩
      case measure=>go_light;rw[BL.out,apS.out];omega
    ·have Wc:s.size=p:=by omega
     have HPE:=laid Wc;have eU:=eN (.inr ⟨by intro h;have h0:=congrArg List.length h;rw[aos,List.length_nil]at h0;omega,by simp only;omega⟩) HF.out.2;have zL:=laid eU;clear eU Wc HF;go_wp2_with fail
     refine(vM _ _ s p 2 eM HPE.out).mono ?_;rintro e w4 ⟨rfl,mq,rfl⟩;go_wp2_with fail
     refine(qS B acc _ (pK.drewN mq)).mono ?_;rintro e w5 ⟨rfl,Kb⟩;go_wp2_with fail
     refine(nI (str acc) _ (by rw[au];omega)).mono ?_;rintro e w6 ⟨rfl,Rv⟩;have Ka:Below w.heap.size w w5:=(Go.below_drewN aH mq).trans (Kb.mono (by omega));have KH:Below w.heap.size w w6:=Ka.trans (Rv.mono Ka.size);have IW:w6.heap[w.heap.size]?=some (.cells #[.string ⟨#[]⟩,.string ⟨#[]⟩] 68):=by
      have Ov:=Kb.size;have Sc:=eM.lt;simp at Ov;rw[Rv.block w.heap.size (by omega),Kb.block w.heap.size (by omega)];exact ai1
     have n0:w6.cell? ⟨w.heap.size,0,none⟩=some (.string ⟨#[]⟩):=by rw[cell_of_row _ _ _ _ _ _ IW];rfl
     have n1:w6.cell? ⟨w.heap.size,1,none⟩=some (.string ⟨#[]⟩):=by rw[cell_of_row _ _ _ _ _ _ IW];rfl
     have z0:w6.frozen? ⟨w.heap.size,0,none⟩=false:=frozen_of_row _ _ _ _ _ IW;have z1:w6.frozen? ⟨w.heap.size,1,none⟩=false:=frozen_of_row _ _ _ _ _ IW;have aaC:str ((str acc).data.toList.map gb)=str (acc.map gb):=by rw[UI]
     rw[aaC];generalize apT:acc.map gb=ACC at *;obtain⟨m0,m1,hg8⟩:=oA (.string NM) (.string (str ACC)) n0 n1;have hb8:Below w.heap.size w ((w6.setCell ⟨w.heap.size,0,none⟩ (.string NM)).setCell ⟨w.heap.size,1,none⟩ (.string (str ACC))):=KH.grown hg8 KH.size (by intro k hk;cases hk;exact ams _);have HG:=laid (IU (NM:=NM) zL.out hb8);clear apT aaC IW hg8;go_wp2
     generalize(w6.setCell ⟨w.heap.size,0,none⟩ (.string NM)).setCell ⟨w.heap.size,1,none⟩ (.string (str ACC))=w8 at *;refine bodyPost_ret (v:=.agg #[.string NM,.string (str ACC)]) ?_ rfl HG.out;simp[results,Tryz.results43,go_sem,m0,m1]
theorem kJ(s:ByteArray)(w:World)(hs:s.size<=1000):
  Calls ami 43 #[.string s] w fun e w'=>((mB s).2=false->e=.returned (.agg #[.string (QD s),.string (str (cD s).2)]))/\((mB s).2=true->e=.panicked (gives 2 ((mB s).1)))/\Below w.heap.size w w':=by
 have:=vb s w hs;unfold Fv at this
 rwa [xj]at this
theorem yo{R:Nat×Bool}(hk:k<5)(hp:p<s.size)(h:bO s (5-k) p=R):bB (ff s p) (bO s (5-(k+1)))=R:=by
 rw[<-h,show 5-k=(5-(k+1))+1 by omega];simp only[bO];rw[if_neg (by omega)]
theorem sV{R:Nat×Bool}(hp:s.size=p)(h:bO s (5-k) p=R):R=(p,false):=by
 rw[<-h];generalize 5-k=m;cases m with
 |zero=>simp[bO];simp_all
 |succ m=>simp[bO];simp_all
theorem IX{R:Nat×Bool}(hp:p<s.size)(h:bO s (5-5) p=R):(p,true)=R:=by
 rw[<-h];simp[bO,Nat.sub_self];simp_all
theorem A6(s:ByteArray)(p:Nat)(h:(ff s p).2=false)(hp:p<=s.size):p<(ff s p).1:=by
 unfold ff at *;obtain⟨h1,h2⟩:=eT h;rw[fC h1];have hm:=zG s 64 p h1;have hl:(aI s 64 p).1<=s.size:=by omega
 have:=dJ (zH s _ hl) fun q hq=>dJ (gX s 30 q hq) fun q1 hq1=>dJ (dc s 43 q1 hq1) fun q2 hq2=>dJ (dc s 10 q2 hq2) fun q3 hq3=>dJ (lM s mA (cR s 30 q) (cR s 30 q) q3 hq3) fun q4 hq4=>dc s 10 q4 hq4;omega
theorem ads:(ami.info? 131).map (fun i=>(i.zero,i.size,i.bytes))=some (some (.agg #[.string ⟨#[]⟩,.string ⟨#[]⟩,.string ⟨#[]⟩]),3,48):=by kernel_rfl
def Fw(w:World)(R:Nat×Bool)(LR:List (ByteArray×ByteArray×ByteArray))(e:Ending)(w':World):Prop:=
 (R.2=false->∃V,e=.returned V/\w'.ownsRow (w.heap.size+1) 131 3 V LR.length (dv LR))/\(R.2=true->e=.panicked (gives 3 (R.1:Int)))/\Below w.heap.size w w'
theorem yq{w1:World}{st R:Nat×Bool}{LR:List _}(hR:st=R)(aA:st.2=true)(hb:Below w.heap.size w w1):Fw w R LR (.panicked (gives 3 (st.1))) w1:=by
 subst hR;exact⟨fun h=>by simp_all,fun _=>rfl,hb⟩
theorem vd{w1:World}{R:Nat×Bool}{L LR:List _}{V:Value}(hR:R.2=false)(hL:L=LR)(ho:w1.ownsRow (w.heap.size+1) 131 3 V L.length (dv L))(hb:Below w.heap.size w w1):Fw w R LR (.returned V) w1:=by
 subst hL;exact⟨fun _=>⟨V,rfl,ho⟩,fun h=>by simp_all,hb⟩
theorem Fy{L LR:List _}(hk:k<5)(hp:p<s.size)(aA:(ff s p).2=false)(h:L++aj s (5-k) p=LR):(L++[(pNm s p,pBs s p,pMk s p)])++aj s (5-(k+1)) (ff s p).1=LR:=by
 rw[<-h,show 5-k=(5-(k+1))+1 by omega];simp only[aj];rw[if_neg (by omega),if_neg (by simp_all),abA s p (by omega) aA,List.append_assoc];rfl
theorem yu{L LR:List _}(hp:s.size<=p)(h:L++aj s k p=LR):L=LR:=by
 rw[<-h];cases k with
 |zero=>simp[aj]
 |succ k=>simp[aj];simp_all
theorem A7{b:Nat}{e:TypeId}{xs:List _}(h:wr.ownsRow b e k v n xs)(r:Nat)(hr:r<b\/wr.heap.size<=r):v.ownBlock=none\/v.ownBlock≠some r:=by
 cases hb:v.ownBlock with
 |none=>exact .inl rfl
 |some g=>
  right;have:=h.lt g hb;intro hh;cases hh;omega
theorem xk{B':Nat}{e:TypeId}{xs:List _}(h:w.ownsRow B e k v n xs)(hB:B'<=B):w.ownsRow B' e k v n xs:=by
 refine⟨h.1,?_⟩;rcases h.2 with h'|⟨g,cap,cur,h1,h2,h3⟩
 ·simp_all
 ·exact .inr ⟨g,cap,cur,h1,by omega,h3⟩
theorem rO(s:ByteArray)(w:World)(hs:s.size<=1000):
  Calls ami 90 #[.string s] w fun e w'=>Fw w (bO s 5 0) (aj s 5 0) e w':=by
 obtain⟨i0,hi,hz,hsi,ox⟩:=info_parts ads;generalize hR:bO s 5 0=R;have HR:=laid hR;clear hR;generalize hLR:aj s 5 0=LR;have HLR:=laid (show []++aj s 5 0=LR from hLR);clear hLR
 go_enter Tryz.func90,Tryz.ntmps90
 go_wp2
 go_loopw [4] (fun v wr=>∃(L:List (ByteArray×ByteArray×ByteArray)) (p:Nat),L.length<=5/\p<=s.size/\RD wr w.heap.size s p 3/\wr.ownsRow (w.heap.size+1) 131 3 v L.length (dv L)/\Below w.heap.size w wr/\Hid (bO s (5-L.length) p=R)/\Hid (L++aj s (5-L.length) p=LR)) (fun _ wr=>s.size-cj wr w.heap.size)
 case atStart=>exact⟨[],0,by simp,by omega,Gz w s 0 3,World.ownsRow_nil _ _ _ _,(anJ _ _).alloc (ams _) _,HR,HLR⟩
 case round=>
  obtain⟨L,p,hk,hp,eM,aJ,aH,HF,HL⟩:=hrel;clear HR HLR;obtain⟨av,cap,rfl⟩:∃a cap,u4=.slice a L.length cap:=by
   rcases aJ.2 with⟨h1,h2⟩|⟨g,cap,cur,h1,_⟩
   ·exact⟨none,0,by rw[h1,h2]⟩
   ·exact⟨_,cap,h1⟩
  generalize hn:L.length=n at *;have HN:=laid hn;clear hn;by_cases aV:n<5
  ·by_cases bR:p<s.size
   ·have HS:=laid (yo aV bR HF.out);clear HF;go_wp2_with fail
    refine(tw _ _ s p 3 eM bR).mono ?_;rintro e w3 ⟨rfl,mq,rfl⟩;go_wp2_with fail
    refine(GB _ _ s p 3 (eM.drewN mq) hs hp).mono ?_;rintro e w4 ⟨h1,h2,lQ,Ns⟩;have xP:=World.ownsRow.kept (w:=wr.drewN mq) aJ Ns (A7 aJ _ (.inl (by omega)));have iN:Below w.heap.size w w4:=(Go.below_drewN aH mq).grown Ns (by have:=aH.size;simpa using this) (by intro k hk;cases hk;exact ams _);have Nt:=GA s p hp;by_cases aA:(ff s p).2=true
    ·obtain rfl:=h2 aA;exact⟨rfl,yq (fT HS.out aA) aA iN⟩
    ·rw[amv]at aA;obtain rfl:=h1 aA;clear h1 h2;have HS1:=laid (kV HS.out aA);have HL1:=laid (Fy aV bR aA HL.out);have hmo:=A6 s p aA hp;have BL:=laid eM.cj;unfold KG;generalize(ff s p).1=p4 at *;generalize pNm s p=PN at *;generalize pBs s p=PB at *;generalize pMk s p=PM at *;clear aA HS HL Ns;have ayi:=lQ.lt;go_wp2_with(first
      |(at_builtin;refine wpList_append_own _ rfl _ _ 90 rfl (w.heap.size+1) 131 i0 (.agg #[.string ⟨#[]⟩,.string ⟨#[]⟩,.string ⟨#[]⟩]) 3 48 Tryz.underlying90 hi hz hsi ox rfl (by decide) _ _ _ rfl (xP.alloc _) ⟨w4.heap.size,0,none⟩ 1 1 [.string PN,.string PB,.string PM] rfl rfl ?c1 ?c2 ?c3 ?c4 ?c5 ?_)
      |go_in)
     case c1=>
      intro j u hj
      match j,hj with
      |0,hj=>simp at hj;subst hj;simp[aol,go_sem]
      |1,hj=>simp at hj;subst hj;simp[aol,go_sem]
      |2,hj=>simp at hj;subst hj;simp[aol,go_sem]
     case c2=>intro u hu;simp at hu;rcases hu with rfl|rfl|rfl<;>rfl
     case c3=>unfold maxLen;omega
     case c4=>omega
     case c5=>simp;omega
     intro v' w7 aW aD _;have bj:=A7 xP w.heap.size (.inl (by omega));have pW:RD w7 w.heap.size s p4 3:=by
      have ha:=lQ.alloc (.cells #[.string PN,.string PB,.string PM] 131);unfold RD at *;rw[aD.block _ (by simp;omega) (by rcases bj with h|h<;>simp_all;exact fun h'=>h h'.symm)];exact ha
     have UM:Below w.heap.size w w7:=(iN.alloc iN.size _).grown aD (by simp;have:=iN.size;omega) (fun k hk=>by have:=xP.lt k hk;omega);have ai5:w7.ownsRow (w.heap.size+1) 131 3 v' (L++[(PN,PB,PM)]).length (dv (L++[(PN,PB,PM)])):=by
      rw[zQ,amP,HN.out];exact aW
     have apU:=laid pW.cj;have HS2:Hid (bO s (5-(L++[(PN,PB,PM)]).length) p4=R):=laid (by rw[amP,HN.out];exact HS1.out);have BW:Hid ((L++[(PN,PB,PM)])++aj s (5-(L++[(PN,PB,PM)]).length) p4=LR):=laid (by rw[amP,HN.out];exact HL1.out);obtain⟨g,GG,n',rfl⟩:∃g cap n',v'=.slice (some ⟨g,0,none⟩) n' cap:=by
      rcases aW.2 with⟨_,h0⟩|⟨g,cap,cur,hv,_⟩
      ·omega
      ·exact⟨g,cap,_,hv⟩
     clear aW aD bj xP HS1 HL1;go_wp2
     go_roundw
     case rel=>go_light;exact⟨L++[(PN,PB,PM)],p4,by rw[amP,HN.out];simp;omega,Nt.2,pW,ai5,UM,HS2,BW⟩
     case measure=>go_light;rw[BL.out,apU.out];omega
   ·have Wc:s.size=p:=by omega
    have HPE:=laid Wc;have eU:=sV Wc HF.out;have zL:=laid (show R.2=false by rw[eU]);have YA:=laid (yu (by omega) HL.out);clear eU Wc HF;go_wp2_with fail
    refine(vM _ _ s p 3 eM HPE.out).mono ?_;rintro e w3 ⟨rfl,mq,rfl⟩;go_wp2_with fail
    refine(tA _ _ s p 3 (eM.drewN mq) (by rw[HPE.out])).mono ?_;rintro e w4 ⟨rfl,mr,rfl⟩;go_wp2
    go_ret
    exact vd zL.out YA.out (by rw[HN.out];exact aJ) (Go.below_drewN aH _)
  ·have hk5:n=5:=by omega
   have HK:=laid hk5;clear hk5;by_cases bR:p<s.size
   ·have HS:=laid (IX bR (HK.out▸HF.out));clear HF;go_wp2_with fail
    refine(B4 _ _ s p 3 eM (by omega)).mono ?_;rintro e w4 ⟨rfl,mr,rfl⟩;exact⟨rfl,yq (st:=(p,true)) HS.out rfl (Go.below_drewN aH mr)⟩
   ·have Wc:s.size=p:=by omega
    have HPE:=laid Wc;have eU:=sV Wc HF.out;have zL:=laid (show R.2=false by rw[eU]);have YA:=laid (yu (by omega) HL.out);clear eU Wc HF;go_wp2_with fail
    refine(tA _ _ s p 3 eM (by rw[HPE.out])).mono ?_;rintro e w4 ⟨rfl,mr,rfl⟩;go_wp2
    go_ret
    exact vd zL.out YA.out (by rw[HN.out];exact aJ) (Go.below_drewN aH mr)
def ig(w:World)(s:ByteArray)(st:Nat×Bool)(v:Value)(L:List (ByteArray×ByteArray×ByteArray))(wr:World):=
 RF wr w.heap.size s st.1 st.2/\Below w.heap.size w wr/\wr.ownsRow (w.heap.size+1) 118 3 v L.length (dv L)
theorem UN{b:Nat}{e:TypeId}{xs:List _}(h:wr.ownsRow b e k v n xs)(r:Nat)(hr:r<b\/wr.heap.size<=r):v.ownBlock=none\/v.ownBlock≠some r:=by
 cases hb:v.ownBlock with
 |none=>exact .inl rfl
 |some g=>
  right;have:=h.lt g hb;intro hh;cases hh;omega
theorem ig.step{w:World}{s:ByteArray}{st BX:Nat×Bool}{v:Value}{L:List _}{wr w':World}(h:ig w s st v L wr)(hp:fD wr w.heap.size s BX w'):ig w s BX v L w':=by
 obtain⟨h1,h2,h3⟩:=h;obtain⟨k1,k2⟩:=hp;exact⟨k1,h2.grown k2 h2.size (by simp),h3.kept k2 (UN h3 _ (.inl (by omega)))⟩
def dP(w:World)(s:ByteArray)(x:Nat)(st:Nat×Bool)(v:Value)(L:List (ByteArray×ByteArray×ByteArray))(n b m:ByteArray)(wr:World):=
 ig w s st v L wr/\XR wr x n b m/\w.heap.size<x/\(v.ownBlock=none\/v.ownBlock≠some x)
theorem dP.step{w:World}{s:ByteArray}{x:Nat}{st BX:Nat×Bool}{v:Value}{L:List _}{n b m:ByteArray}{wr w':World}(h:dP w s x st v L n b m wr)(hp:fD wr w.heap.size s BX w'):dP w s x BX v L n b m w':=
 ⟨h.1.step hp,h.2.1.grown hp.2 (by have:=h.2.2.1;omega),h.2.2.1,h.2.2.2⟩
theorem ig.set{x:Nat}{st:Nat×Bool}{L:List _}(h:ig w s st v L wr)(hx:w.heap.size<x)(ho:v.ownBlock=none\/v.ownBlock≠some x)(j:Nat)(u:Value):ig w s st v L (wr.setCell ⟨x,j,none⟩ u):=
 ⟨h.1.set _ (by simp;omega),h.2.1.setCell (by simp;omega) _,h.2.2.kept (aB wr x j u) ho⟩
theorem dP.Pd{x:Nat}{st:Nat×Bool}{L:List _}{n b:ByteArray}(h:dP w s x st v L n b m wr)(u:ByteArray):dP w s x st v L u b m (wr.setCell ⟨x,0,none⟩ (.string u)):=
 ⟨h.1.set h.2.2.1 h.2.2.2 _ _,h.2.1.Pd u,h.2.2⟩
theorem dP.Pe{x:Nat}{st:Nat×Bool}{L:List _}{n b:ByteArray}(h:dP w s x st v L n b m wr)(u:ByteArray):dP w s x st v L n u m (wr.setCell ⟨x,1,none⟩ (.string u)):=
 ⟨h.1.set h.2.2.1 h.2.2.2 _ _,h.2.1.Pe u,h.2.2⟩
theorem dP.R5{x:Nat}{st:Nat×Bool}{L:List _}{n b:ByteArray}(h:dP w s x st v L n b m wr)(u:ByteArray):dP w s x st v L n b u (wr.setCell ⟨x,2,none⟩ (.string u)):=
 ⟨h.1.set h.2.2.1 h.2.2.2 _ _,h.2.1.R5 u,h.2.2⟩
theorem ig.adt{st:Nat×Bool}{L:List _}(h:ig w s st v L wr):
  dP w s wr.heap.size st v L ⟨#[]⟩ ⟨#[]⟩ ⟨#[]⟩ (wr.alloc (.cells #[.string ⟨#[]⟩,.string ⟨#[]⟩,.string ⟨#[]⟩] 118)):=by
 obtain⟨h1,h2,h3⟩:=h;have hb:=by have:=block_lt_of_cell h1.c0;omega
 refine⟨⟨?_,h2.alloc h2.size _,h3.alloc _⟩,heap_alloc_new wr _,hb,UN h3 _ (.inr (ams _))⟩;unfold RF at *;rw[Below.heap_alloc _ _ _ hb];exact h1
def kq(s:ByteArray)(nb:Nat)(st:Nat×Bool)(q:Nat)(bd:Bool)(mk:ByteArray):=
 (st.2=true/\(q,bd)=st/\mk=⟨#[]⟩)\/
 (st.2=false/\st.1<=q/\q<=st.1+aK mA (rest s st.1) nb/\mk=cut s st.1 q/\(bd=true->q=st.1+aK mA (rest s st.1) nb/\aK mA (rest s st.1) nb<nb))
theorem IY(s:ByteArray)(nb:Nat)(st:Nat×Bool):kq s nb st st.1 st.2 ⟨#[]⟩:=by
 obtain⟨p,b⟩:=st;cases b with
 |true=>exact .inl ⟨rfl,rfl,rfl⟩
 |false=>exact .inr ⟨rfl,ams _,by simp,by unfold cut;rw[Nat.sub_self];rfl,fun h=>anC h⟩
theorem Mx{st:Nat×Bool}(h:kq s nb st q bd mk)(hp:st.1<=s.size):mk.size<=nb/\q<=s.size:=by
 rcases h with⟨_,h2,rfl⟩|⟨_,h2,h3,rfl,_⟩
 ·rw[<-h2]at hp;exact⟨Nat.zero_le _,hp⟩
 ·have:=cH mA (rest s st.1) nb;rw[br]at this;rw[nN _ _ _ (by omega)];omega
theorem A8{st:Nat×Bool}(h:kq s nb st q bd mk)(hp:st.1<=s.size)(hd:bd=true\/¬mk.size<nb):
  (q,bd)=bB st (db s mA nb nb)/\mk=B5 s nb st:=by
 rcases h with⟨h1,h2,rfl⟩|⟨h1,h2,h3,rfl,h5⟩
 ·rw[gW h1];exact⟨h2,by unfold B5;simp_all⟩
 ·have hr:=cH mA (rest s st.1) nb;rw[br]at hr;have hq:q=st.1+aK mA (rest s st.1) nb/\(bd=true↔aK mA (rest s st.1) nb<nb):=by
   rcases hd with hd|hd
   ·simp_all
   ·rw[nN _ _ _ (by omega)]at hd;refine⟨by omega,fun hb=>(h5 hb).2,fun hb=>?_⟩;omega
  rw[fC h1];refine⟨?_,by unfold B5;simp_all⟩;unfold db;rw[<-hq.1];cases bd with
  |true=>rw[decide_eq_true (hq.2.1 rfl)]
  |false=>rw[decide_eq_false (fun hb=>by simp_all)]
theorem xl{st:Nat×Bool}(h:kq s nb st q false mk)(hp:st.1<=s.size)(aV:mk.size<nb)(hb:∀hq,mA s[q]=false):kq s nb st q true mk:=by
 rcases h with⟨h1,h2,rfl⟩|⟨h1,h2,h3,rfl,h5⟩
 ·rw[<-h2]at h1;simp_all
 ·have hr:=cH mA (rest s st.1) nb;rw[br]at hr;rw[nN _ _ _ (by omega)]at aV;have hq:aK mA (rest s st.1) nb=q-st.1:=by
   by_cases hqs:q<s.size
   ·exact fJ mA _ nb _ _ (by omega) (by rw[dH s _ q h2 hqs];simp_all)
   ·omega
  exact .inr ⟨h1,h2,h3,rfl,fun _=>⟨by omega,by omega⟩⟩
theorem My{st:Nat×Bool}(h:kq s nb st q false mk)(hp:st.1<=s.size)(aV:mk.size<nb)(hq:q<s.size)(hb:mA s[q]=true):
  kq s nb st (q+1) false (mk++⟨#[s[q]]⟩):=by
 rcases h with⟨h1,h2,rfl⟩|⟨h1,h2,h3,rfl,h5⟩
 ·rw[<-h2]at h1;simp_all
 ·rw[nN _ _ _ (by omega)]at aV;have:=fI mA (rest s st.1) nb (q-st.1) _ (by omega) (by omega) (by rw[dH s _ q h2 hq];exact hb);refine .inr ⟨h1,by omega,by omega,?_,fun h=>anC h⟩;have e:=Gr s _ q h2 hq
  rwa [mJ s q hq]at e
end
end Go.Proofs.YtdcjnhipenbcfaaGreatDoor
