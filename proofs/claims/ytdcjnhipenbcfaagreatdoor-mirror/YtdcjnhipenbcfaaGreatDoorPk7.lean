/-
  Own text. Part 7 of what the claim rests on.
-/
import Derived.Test.YtdcjnhipenbcfaaGreatDoorPk6
import Derived.Shelf.Strings.OnBuilder
import Derived.Shelf.SlIterI.Nil
import Derived.Shelf.SortM.Plain
import Derived.Shelf.SortM.SortNone
import Derived.Ground.GgzProg
import Derived.Ground.SlgmProg
import Derived.Test.YtdcjnhipenbcfaaGreatDoorProg
import Derived.Shelf.Strings.Builder1
import Derived.Shelf.Small.Strs
import Derived.Shelf.LaysM
import Derived.Shelf.Strconv.Itoa3
import Derived.OwnWalk
import Derived.Deep.RegionHeld3
import Derived.Laws.BytesString
set_option linter.unusedVariables false
set_option linter.unusedSectionVars false
set_option linter.unusedSimpArgs false
set_option maxRecDepth 100000
set_option maxHeartbeats 16000000
open Array renaming getElem?_eq_getElem->ah,getElem?_eq_none->bj,getElem?_eq_some_iff->bk,replicate->bm,getD->bJ,getElem?_map->bK,getElem?_setIfInBounds_ne->bL,getElem_append->cy,getElem_setIfInBounds_ne->cA,getElem_setIfInBounds_self->cB,length_toList->cC
open Bool renaming not_eq_true->ay
open Go.Instr renaming makeFunc->cG,makeSlice->cH
open Go.Lib renaming IsBuilder->az,byteCells->aA,cell_of_heap->aT,strCells->bp,BuilderAt->bM,frozen_of_heap->cL
open Go.Lib.BuilderAt renaming put->cK
open Go.MemAct renaming ofEvent->aV,touch?->bu
open Go.MemOp renaming ofEvents->cR
open Go.Oper renaming upon_value->cX
open Go.Proofs.Builder renaming Extra->cE
open Go.Proofs.Tryz renaming isAgg3->ak,sizeOf3->ao,underlying3->ar,zeroValue3->au,underlying79->aD,underlying9->aH,isAgg0->aK,sizeOf0->aL,underlying0->aM,underlying5->aN,zeroValue0->aO,underlying100->aQ,isAgg5->aX,isAgg9->aY,sizeOf5->aZ,sizeOf9->a_,zeroValue5->bc,zeroValue9->bg,isAgg4->bB,isAgg79->bC,sizeOf4->bD,sizeOf79->bE,underlying4->bF,zeroValue4->bG,zeroValue79->bH,func58->bR,func89->bS,isAgg100->bT,isAgg102->bU,isAgg25->bV,ntmps58->bW,ntmps89->bX,results58->bY,sizeOf100->bZ,sizeOf102->b_,sizeOf25->cf,underlying102->cg,underlying159->cj,underlying25->ck,zeroValue100->cm,zeroValue102->cn,zeroValue25->cu,func113->cY,func152->cZ,isAgg139->c7,isAgg170->c8,isAgg176->c9,isAgg185->c_,isAgg20->da,isAgg204->db,ntmps19->dc,ntmps41->de,results41->dh,sizeOf139->di,sizeOf170->dj,sizeOf176->dk,sizeOf185->dp,sizeOf20->dq,sizeOf204->dt,underlying139->du,underlying170->dx,underlying176->dy,underlying185->dz,underlying20->dA,underlying204->dB,zeroValue139->dC,zeroValue170->dD,zeroValue176->dE,zeroValue185->dG,zeroValue20->dH,zeroValue204->dI
open Go.Proofs.YtdcjnhipenbcfaaGreatDoor.Ren.gK renaming refl->cw
open Go.Proofs.YtdcjnhipenbcfaaGreatDoor.Ren.gu renaming tree->cx
open Go.RowKit.Below renaming refl->ai,heap_alloc->cD
open Go.World renaming cell?->ax,cell?_alloc_past->bI,frozen?->dJ
open Int renaming natCast_emod->cI,toNat_of_nonneg->cJ
open List renaming length_append->af,countP_append->aj,length_nil->aI,nil_append->aJ,getElem?_eq_getElem->aU,cons_append->bq,foldl_cons->br,length_cons->bt,getD_eq_getElem?_getD->bN,length_map->bO,length_singleton->bP,length_take->bQ,append_assoc->cM,mem_map->cO,range_succ->cP,take_left'->cQ
open Nat renaming le_refl->ae,lt_of_lt_of_le->aB,not_lt_zero->aP,zero_le->bA,add_sub_cancel_left->cS,eq_zero_or_pos->cT,le_trans->cU,lt_of_not_le->cV,lt_or_ge->cW
open Option renaming map_eq_some_iff->aW
open UInt8 renaming ofNat->bh,toNat_ofNat'->cv
namespace Go.Proofs.YtdcjnhipenbcfaaGreatDoor
variable {NM a ref s:ByteArray}{f f1:Frame}{fn:FuncId}{cs l:List Frame}{ks l1 l2:List Nat}{Z:Loc->Prop}{cap i k m n p r u y z:Nat}{XX:Nat->Nat->Prop}{RO S X':Nat->Prop}{o o':Obj}{e t t':TypeId}{v:Value}{w w' wr:World}
namespace Ph
open Conc Ren
open Lock (Word PC)
open ConcN (sumTo upd sumTo_upd upd_ne upd_same sumTo_le)
theorem Pv{E:Env}{b:Nat}{a:Addr}(h:¬E.U a.block a.off):nc E RO b XX (.cell a)=mK E RO b XX a.block:=by
 simp[nc];simp_all
theorem abv{E:Env}{b:Nat}{a:Addr}(h:E.U a.block a.off):nc E RO b XX (.cell a)=.at:=by
 simp[nc];simp_all
def EM(E:Env)(gL:E.Γ):iB E:=⟨0,[],fun _=>.no,.st [],.run,Word.zero,0,0,0,0,gL,[],none⟩
theorem Is(n:Nat):sumTo n (fun _=>0)=0:=by
 induction n with
 |zero=>rfl
 |succ n Y=>simp[sumTo,Y]
theorem ci0{E:Env}{J:iq}{gL:E.Γ}(K:0<J.n):CI J gL (EM E gL):=by
 have Y:Lock.Inv (fun _=>PC.out) J.n Word.zero 0:=by
  refine⟨fun i _=>trivial,by rw[nJ _ rfl];rfl,fun _=>⟨by rw[nJ Lock.jy rfl,nJ Lock.gP rfl,nJ Lock.jM rfl];rfl,by rw[nJ Lock.jm rfl,nJ Lock.jM rfl];rfl,nJ _ rfl _,nJ _ rfl _,fun _ _ h=>absurd h (Nat.lt_irrefl 0)⟩,fun h=>by cases h⟩
 refine⟨bA _,rfl,List.nodup_nil,fun _ _=>rfl,fun k hk=>absurd hk (aP _),Y,nofun,nofun,nofun,⟨nofun,nofun,nofun⟩,fun y=>?_,rfl,?_,?_,fun k hk=>hk.elim,⟨rfl,K⟩,nofun,nofun,nofun,nofun⟩
 ·show 0+sumTo J.n (fun _=>0)=(J.gE.take 0).count y
  rw[Is];simp
 ·show 0+sumTo J.n (fun _=>0)=0+0
  rw[Is]
 ·show nD (.st []) 0 0 0 (sumTo J.n fun _=>0) (sumTo J.n fun _=>0)
  rw[Is];exact .inl ⟨rfl,rfl,rfl,rfl,id,nofun⟩
theorem ajl{E:Env}{J:iq}{gL:E.Γ}:Calm J (EM E gL):=⟨nofun,nofun,nofun,nofun⟩
theorem YG(g:ma)(I h2:Nat×Nat):better (better g I) h2=better (better g h2) I:=by
 funext e;unfold better;by_cases Y:e=I.1<;>by_cases H:e=h2.1<;>simp[Y]<;>(try rfl)
 ·subst Y;by_cases K:I.1=h2.1
  ·rw[if_pos K,if_pos K];cases g _ with
   |none=>simp;omega
   |some d=>simp;omega
  ·omega
 simp_all
theorem M3(g:ma):∀(L:List _) h,L.foldl better (better g h)=better (L.foldl better g) h
 |[],h=>rfl
 |a::L,h=>by
  rw[br,br,YG g h a];exact M3 _ L h
theorem OP(g:ma):∀(D K:List _),K.foldl better (D.foldl better g)=D.foldl better (K.foldl better g)
 |[],K=>rfl
 |a::D,K=>by
  rw[br,br,OP _ D K,M3 g K a]
theorem ZY{f:ma->Nat->ma}(D:∀g x y,f (f g x) y=f (f g y) x)(h:l1.Perm l2):∀g,l1.foldl f g=l2.foldl f g:=by
 induction h with
 |nil=>exact fun _=>rfl
 |cons x _ H=>exact fun g=>H _
 |swap x y l=>exact fun g=>by simp_all
 |trans _ _ Y K=>exact fun g=>(Y g).trans (K g)
def qN(X P:ByteArray)(k st:Nat)(gE:List Nat):=gE.foldl (fun g x=>(ll X P k st x).foldl better g) (fun _=>none)
section
variable{Z:Loc->Prop}{Fd Mp Wg Gv By Rf Sg Fp k q st n:Nat}{X P:ByteArray}{b:Option Addr}{gE:List Nat}{w:World}
noncomputable def Uo (Z:Loc->Prop) (Fd Mp Wg Gv By Rf Sg Fp k st n:Nat) (X P:ByteArray) (gE:List Nat) (w:World) (c:Frame) (cs:List Frame) (b:Nat):gI where
 P:=PR
 E:=iQ Fd Mp Wg X P k st
 J:=⟨n,gE⟩
 b:=b
 A ch:=Env.AtRecv (iQ Fd Mp Wg X P k st) ch (j_ By Rf Sg Fp) (kF Z Mp Gv w.heap.size) (sY (iQ Fd Mp Wg X P k st) (kF Z Mp Gv w.heap.size) w)
 kt:=Uk (iQ Fd Mp Wg X P k st) (kF Z Mp Gv w.heap.size) w (j_ By Rf Sg Fp)
 Fin:=Ul (iQ Fd Mp Wg X P k st) (kF Z Mp Gv w.heap.size) w c cs
 RO:=kF Z Mp Gv w.heap.size
 i_ l:=Z l\/rS (iQ Fd Mp Wg X P k st) l
 ok x:=x *st<=X.size/\x<=100000
 gL:=fun _=>none
 w0:=w
theorem lu.akB(h:lu Z Fd Mp Wg Gv By Rf Sg Fp k q st n X P b gE w)(c:Frame)(cs:List _)(D:Nat)(hb:0<D):(Uo Z Fd Mp Wg Gv By Rf Sg Fp k st n X P gE w c cs D).Laws where
 n0:=h.n0
 n8:=h.n8
 b0:=hb
 Lm:=h.ok
 fw:=h.fw
 mf:=fun e=>h.fm e.symm
 mw:=h.mw
 rf:=h.zu
 rw:=h.zv
 rm:=fun y=>y.2.1 rfl
 Ln:=fun l R=>.inr R
 JZ:=fun Y=>Env.Yz Y
 J0:=fun Y w2=>Env.abn Y
 KC:=fun Y hr hx K=>Env.YA h.known (h.akA _) Y hr hx K
 Tc:=fun Y hr K=>Env.YB h.known Y hr _ K
 E6:=fun{ch g w2} H=>by
  obtain⟨rfl,hF⟩:=H;exact Env.afe h.known ⟨fun _ y=>y,fun y=>y.2.1 rfl,id,h.zu,h.zv,fun _ _ y=>y⟩ hF
theorem lu.dl(h:lu Z Fd Mp Wg Gv By Rf Sg Fp k q st n X P b gE w):Dl (iQ Fd Mp Wg X P k st) (kF Z Mp Gv w.heap.size) w Gv ⟨n,gE⟩ b:=by
 refine⟨h.n0,h.n8,h.len,xw (fun e=>h.fg e.symm) h.F2,h.F2,fun y=>y.2.2.1 rfl,h.zv,⟨_,_,_,h.wg,rfl⟩,fun a i U=>?_,fun i x hx=>?_⟩
 ·rcases U.1 with e|e
  ·rw[e];exact jQ h.fd
  ·rw[e];exact jQ h.wg
 ·obtain⟨Nb,o,hb,K,I,h2,D,R,A⟩:=h.num i x hx;have H:Nb<w.heap.size:=cV fun y=>by
   simp[ax,bj y]at K
  have Y:kF Z Mp Gv _ Nb:=⟨H,I,h2,A⟩;refine⟨Nb,o,hb,Y,xw D R _,fun w2 hF=>?_⟩;simp[ax]at K⊢;rw[h.same Y D R hF];exact K
theorem lu.mu0(h:lu Z Fd Mp Wg Gv By Rf Sg Fp k q st n X P b gE w):(iQ Fd Mp Wg X P k st).MuAt w Word.zero 0:=by
 exact h.fd
theorem lu.FY(h:lu Z Fd Mp Wg Gv By Rf Sg Fp k q st n X P b gE w):(iQ Fd Mp Wg X P k st).WgAt w 0 0 0:=by
 exact h.wg
theorem lu.phase(h:lu Z Fd Mp Wg Gv By Rf Sg Fp k q st n X P b gE w){Qq:QT}{c:Frame}
  (hf:kJ 137 55 lD (sA (oH (ri (iQ Fd Mp Wg X P k st) ⟨n,gE⟩ b cap (j_ By Rf Sg Fp) Gv) n 0)) f)(Vj:f.tmps.getD 18 undef=.bool (decide (0<n)))
  (kk:∀w',gK (iQ Fd Mp Wg X P k st).U (kF Z Mp Gv w.heap.size) w w'->nj (qN X P k st gE) (w'.heap[Mp]?)->(iQ Fd Mp Wg X P k st).MuAt w' Word.zero 0->w'.tape=w.tape->w'.output=w.output->Mp<w'.heap.size->gu PR Qq (fun l=>Z l\/rS (iQ Fd Mp Wg X P k st) l) (c.finish unit) cs w'):
  gu PR Qq Z f (c::cs) w:=by
 rintro m t ⟨gs,sl,qq,rfl,H⟩;have C:0<gs.size:=(bk.1 H.g0).1;have hQ:=h.akB c cs gs.size C
 let R:=Uo Z Fd Mp Wg Gv By Rf Sg Fp k st n X P gE w c cs gs.size
 let A:Nat->Prop:=fun a=>kF Z Mp Gv w.heap.size a\/a=Gv
 let B:Nat->Prop:=fun a=>a=Gv
 have hG:Gv<w.heap.size:=jQ h.gv;have hDW:DW (iQ Fd Mp Wg X P k st) (kF Z Mp Gv w.heap.size) w Gv n [] [] A B w:=
  ⟨fun a Y=>.inl Y,fun a Y e=>Y.2.2.1 e,.inr rfl,rfl,h.gv,cw _ _ _,fun a Y=>Y.elim (fun y=>y.1) fun e=>e▸hG,nofun⟩
 have gq:(⟨n,gE⟩:iq).ky []=.st []:=by unfold iq.ky;rw[if_pos (show([]:List Nat).length<n from h.n0)]
 have d:∀fu,Tz PR true (iQ Fd Mp Wg X P k st).U (R.DS fu (.st [])) A B (G f (c::cs)) w:=by
  intro fu;have:=ajj (E:=iQ Fd Mp Wg X P k st) (cap:=cap) (work:=j_ By Rf Sg Fp) (c:=c) (cs:=cs) h.dl n [] (by simp) fu A B f w hf Vj hDW;rw[gq]at this;exact this
 have o:∀l,R.cls (fun _=>⟨A,B,G f (c::cs),w⟩) 0 [] l≠.no->¬Z l:=by
  have hU:∀l,rS (iQ Fd Mp Wg X P k st) l->¬Z l:=by
   intro l K;cases l with
   |cell a=>
    rcases K.1 with e|e
    ·exact h.off Fd (.inl rfl) _ e
    ·exact h.off Wg (.inr (.inr (.inl rfl))) _ e
   |_=>exact K.elim
  have hb:∀a,mK (iQ Fd Mp Wg X P k st) (kF Z Mp Gv w.heap.size) gs.size (gI.oB (fun _=>⟨A,B,G f (c::cs),w⟩) 0 []) a≠.no->iV Z a:=by
   intro a Y;unfold mK at Y;split at Y
   ·rename_i y;exact y.2.2.2
   ·split at Y
    ·rename_i y;rw[show a=Mp from y];exact h.off Mp (.inr (.inl rfl))
    ·split at Y
     ·rename_i y;obtain⟨i,y⟩:=y;rcases y with⟨_,y⟩|⟨_,y⟩
      ·rw[show a=Gv from y];exact h.off Gv (.inr (.inr (.inr (.inl rfl))))
      ·cases y
     ·exact absurd rfl Y
  intro l K;cases l with
  |cell a=>
   by_cases hu:(iQ Fd Mp Wg X P k st).U a.block a.off
   ·exact hU (.cell a) hu
   ·refine hb _ (fun e=>K ?_) (.cell a) rfl;exact(Pv hu).trans e
  |obj a=>exact hb a K (.obj a) rfl
  |output=>exact absurd rfl K
  |goroutines=>exact absurd rfl K
  |mark m=>exact absurd rfl K
 have u:∀l g,R.cls (fun _=>⟨A,B,G f (c::cs),w⟩) 0 [] l=.own g->g=0:=by
  have hb:∀a g,mK (iQ Fd Mp Wg X P k st) (kF Z Mp Gv w.heap.size) gs.size (gI.oB (fun _=>⟨A,B,G f (c::cs),w⟩) 0 []) a=.own g->g=0:=by
   intro a g Y;unfold mK at Y;split at Y
   ·cases Y
   ·split at Y
    ·cases Y
    ·split at Y
     ·rename_i y;have hs:=Classical.choose_spec y;have:Classical.choose y=0:=by
       rcases hs with⟨z,_⟩|⟨z,_⟩
       ·omega
       ·exact z
      rw[this]at Y;cases Y;rfl
     ·cases Y
  intro l g K;cases l with
  |cell a=>
   by_cases hu:(iQ Fd Mp Wg X P k st).U a.block a.off
   ·have I:=(abv hu).symm.trans K;cases I
   ·exact hb _ _ ((Pv hu).symm.trans K)
  |obj a=>exact hb a g K
  |output=>cases K
  |goroutines=>cases K
  |mark m=>cases K
 have L:∀a,NoRelease a t:=fun a i O=>by
  obtain⟨op,ho,he⟩:=aW.1 O;exact H.nr op (Array.mem_of_getElem? ho) a he
 have W:∀op∈t,Seen w.heap.size op:=fun op gC=>⟨H.past.seen op gC,H.nr op gC⟩;have hMI:R.MI (EM R.E R.gL) (fun _=>⟨A,B,G f (c::cs),w⟩) (fun _=>mu R.J (EM R.E R.gL)) gs w t qq (fun _=>none):=by
  refine⟨rfl,⟨H.g0,d _⟩,fun kx hk=>absurd hk (aP _),fun i g O _ hg=>H.se.old i g O hg,fun _ _=>ae _,fun _ _=>cw _ _ _,?_,?_,?_,H.past.hears,fun kx hk=>absurd hk (aP _),fun i O=>H.se.above i O,fun kx hk=>absurd hk (aP _),fun _ _=>rfl,W⟩
  ·refine⟨fun i i' O E0 hne=>?_,fun i _ a Y=>Y.elim (fun y=>y.1) fun e=>e▸hG,fun i _ a Y=>Y,fun i _ a Y e=>Y.2.2.1 e,fun i _ a e=>.inr e,fun i _ Y=>?_,fun a Y=>Y.1,jQ h.mp,nofun⟩
   ·have I:i=0:=Nat.le_zero.1 O;have h2:i'=0:=Nat.le_zero.1 E0;exact absurd (I.trans h2.symm) hne
   ·rcases Y with y|y
    ·exact absurd rfl y.2.1
    ·exact absurd y h.mg
  ·refine⟨h.mu0,h.FY,fun _=>?_,fun kx hk=>absurd hk (aP _),fun kx hk=>absurd hk (aP _),rfl,rfl⟩;rw[show w.heap[R.E.Mp]?=some (.map #[] 0)from h.mp];exact⟨#[],0,[],rfl,⟨by simp,Go.MapKept.stamped_empty 0,by simp⟩,rfl,adh⟩
  ·exact PT.init H.past C o u Pr (fun l K=>.inr (Qv K)) (fun l K=>.inl K) ⟨L _,L _⟩
 obtain⟨N,m',t',akC,p⟩:=gI.phase (sl:=sl) hQ (ci0 h.n0) ajl hMI;obtain⟨Fa,w',sl',q',S',X',g',dn,rfl,hg',hF,hL,hP,r,T,Lr,hwg,j,s,apr,_,F,hsn⟩:=p;obtain⟨np,f',l',rfl,v,D,_,_⟩:=hF;have S:nj (qN X P k st gE) (w'.heap[Mp]?):=by
  have e:dn.foldl (fun g x=>(ll X P k st x).foldl better g) (fun _=>none)=qN X P k st gE:=ZY (fun g x y=>OP g _ _) T _;rw[<-e];exact r
 have Q:qo (fun l=>Z l\/rS (iQ Fd Mp Wg X P k st) l) w'.heap.size:=by
  intro l K;rcases K with y|y
  ·exact⟨(H.ob l y).1,Loc.low_mono D.grow (H.ob l y).2⟩
  ·cases l with
   |cell a=>
    refine⟨rfl,?_⟩;show a.block<_
    rcases y.1 with e|e
    ·rw[e];exact aB (jQ h.fd) D.grow
    ·rw[e];exact aB (jQ h.wg) D.grow
   |_=>exact y.elim
 have M:gu PR Qq (fun l=>Z l\/rS (iQ Fd Mp Wg X P k st) l) f' l' w':=by
  refine gu.pure np fun w2 hk=>?_;rw[v];have V:gK (iQ Fd Mp Wg X P k st).U (kF Z Mp Gv w.heap.size) w w2:=gK.trans D ⟨fun a Y=>.inl (hk.kept a (aB Y.1 D.grow) id),hk.grow,hk.env⟩;refine kk w2 V ?_ ?_ (hk.tape.trans j) (hk.output.trans s) (aB F hk.grow)
  ·rw[hk.kept Mp F id];exact S
  ·have I:w'.heap[(iQ Fd Mp Wg X P k st).Fd]?=_:=Lr;have h2:w2.heap[Fd]?=w'.heap[Fd]?:=hk.kept Fd (jQ I) id;exact h2.trans I
 obtain⟨N2,m2,t2,Z2,f2,l2,w2,qz,hA2,hQ2⟩:=M _ t' ⟨Fa,sl',q',rfl,hg',hL,hP,(fun a y=>y.elim),Q,fun op gC=>(hsn op gC).2⟩;exact⟨N+N2,m2,t2,Z2,f2,l2,w2,by rw[Go.Proofs.YtdcjnhipenbcfaaGreatDoor.Ren.runNT_add PR N N2 _ _ _ _ akC];exact qz,hA2,hQ2⟩
end
end Ph
namespace Ph
open Conc Ren
structure gU(Z:Loc->Prop)(w w':World):Prop where
 old:∀a,a<w.heap.size->iV Z a->w'.heap[a]?=w.heap[a]?
 grow:w.heap.size<=w'.heap.size
 tape:w'.tape=w.tape
 env:mD w'.os w.os
 output:w'.output=w.output
theorem gU.trans{Z:Loc->Prop}{w w1 w2:World}(h:gU Z w w1)(k:gU Z w1 w2):gU Z w w2:=⟨fun a Y K=>(k.old a (aB Y h.grow) K).trans (h.old a Y K),cU h.grow k.grow,k.tape.trans h.tape,k.env.trans h.env,k.output.trans h.output⟩
theorem gU.of(h:Kept (fun _=>False) X' w w'):gU Z w w':=⟨fun a Y _=>h.kept a Y id,h.grow,h.tape,h.env,h.output⟩
section
variable{P:Program}{Q:QT}{Z:Loc->Prop}{f:Frame}{l:List Frame}{w:World}
theorem gu.xN(k:qo Z w.heap.size->gu P Q Z f l w):gu P Q Z f l w:=by
 rintro m t ⟨gs,sl,q,rfl,Y⟩;exact k Y.ob _ t ⟨gs,sl,q,rfl,Y⟩
theorem gu.alloc{F:Nat->Frame}(gq:∀w2,stepG P true (G f l) w2=.go (G (F w2.heap.size) l) (w2.alloc o) #[])
  (k:∀B w',w.heap.size<=B->B<w'.heap.size->w'.heap[B]?=some o->iV Z B->gU Z w w'->gu P Q Z (F B) l w'):gu P Q Z f l w:=by
 refine gu.xN fun Y=>?_;refine cx (U:=fun _ _=>False) (S:=fun _=>False) (X:=fun _=>False) (Done:=fun S X f' l' w'=>∃B,w.heap.size<=B/\B<w'.heap.size/\w'.heap[B]?=some o/\f'=F B/\l'=l) (Tr.one fun w2 hr=>⟨_,_,_,_,_,_,gq w2,(HU (U:=fun _ _=>False) o).toDid,.stop ⟨w2.heap.size,hr.grow,by simp,heap_alloc_new w2 o,rfl,rfl⟩⟩) (fun a h=>h.elim) fun S' X' f' l' w' hd hk=>?_;obtain⟨B,I,h2,K,rfl,rfl⟩:=hd;exact k B w' I h2 K (Y.off I) (gU.of hk)
theorem gu.read{a:Addr}(gq:∀w2,w2.cell? a=some v->stepG P true (G f l) w2=.go (G f1 l) w2 #[⟨.cell a,false,false⟩])(K:w.cell? a=some v)(D:iV Z a.block)(k:∀w',gU Z w w'->gu P Q Z f1 l w'):gu P Q Z f l w:=by
 have H:a.block<w.heap.size:=cV fun y=>by simp[ax,bj y]at K
 refine cx (U:=fun _ _=>False) (S:=fun b=>b=a.block) (X:=fun _=>False) (Done:=fun S X f' l' w'=>X=(fun _=>False)/\f'=f1/\l'=l) (Tr.one fun w2 hr=>?_) (fun b h=>by simp_all) fun S' X' f' l' w' hd hk=>?_
 ·have Y:w2.cell? a=some v:=by
   simp[ax]at K⊢;rw[(hr.kept _ rfl).eq (fun i y=>y)];exact K
  exact⟨_,_,_,_,_,_,gq w2 Y,(uP (U:=fun _ _=>False) (S:=fun b=>b=a.block) rfl id).toDid,.stop ⟨rfl,rfl,rfl⟩⟩
 ·obtain⟨rfl,rfl,rfl⟩:=hd;exact k w' (gU.of hk)
theorem gu.k4(n:Nat)(k:∀w',gU Z w w'->(∀b,b<w.heap.size->w'.heap[b]?=w.heap[b]?)->gu P Q Z (gY P n f l).1 (gY P n f l).2 w'):gu P Q Z f l w:=by
 have tr:∀(n:Nat) (f:Frame) (l:List _) (w:World) (D:(Nat->Prop)->(Nat->Prop)->Frame->List _->World->Prop),(∀w2,gK (fun _ _=>False) (fun _=>False) w w2->Tr P true (fun _ _=>False) D (fun _=>False) (fun _=>False) (gY P n f l).1 (gY P n f l).2 w2)->Tr P true (fun _ _=>False) D (fun _=>False) (fun _=>False) f l w:=by
  intro n;induction n with
  |zero=>exact fun f l w D h=>h w (.refl _ _ _)
  |succ n K=>
   intro f l w D h;unfold gY at h;split at h
   ·exact h w (.refl _ _ _)
   ·split at h
    ·rename_i f1 l1 e;exact Tr.one fun w2 hr=>⟨_,_,w2,#[],_,_,tu e,(jc (U:=fun _ _=>False) _ _ w2).toDid,K f1 l1 w2 D fun w3 Y=>h w3 (hr.trans Y)⟩
    ·exact h w (.refl _ _ _)
 refine cx (Done:=fun S X f' l' w'=>X=(fun _=>False)/\f'=(gY P n f l).1/\l'=(gY P n f l).2) (tr n f l w _ fun w2 hr=>.stop ⟨rfl,rfl,rfl⟩) (fun a h=>h.elim) fun S' X' f' l' w' hd hk=>?_;obtain⟨rfl,rfl,rfl⟩:=hd;exact k w' (gU.of hk) fun b hb=>hk.kept b hb id
end
theorem ajm{U:Nat->Nat->Prop}{X:Nat->Prop}(K:∀a,S a->a<w.heap.size/\∀l,E4 a l->Z l->∃ad:Addr,l=.cell ad/\U ad.block ad.off)(R:qo Z w.heap.size)(A:w.heap.size<=u){e:Event}(h:zH S X w u e)(B:∀a,e.loc=.cell a->¬U a.block a.off):EvL Z u e:=by
 obtain⟨loc,wr,C⟩:=e;rcases h with⟨a,rfl,h2,D⟩|⟨a,rfl,h2,D⟩|⟨m,rfl,h2⟩|rfl
 ·have Y:¬Z (.cell a)/\a.block<u:=by
   rcases D with⟨h,_⟩|h
   ·refine⟨fun Y=>?_,aB (K _ h).1 A⟩;obtain⟨ad,e,I⟩:=(K _ h).2 (.cell a) rfl Y;simp_all
   ·exact⟨R.off h.1 _ rfl,h.2⟩
  refine⟨fun x hx H=>?_,by simp,by simp,?_⟩
  ·simp[aV,bu]at hx;subst hx;simp_all
  ·exact Y.2
 ·subst h2;have Y:¬Z (.obj a)/\a<u:=by
   rcases D with⟨h,_⟩|h
   ·refine⟨fun Y=>?_,aB (K _ h).1 A⟩;obtain⟨ad,e,_⟩:=(K _ h).2 (.obj a) rfl Y;cases e
   ·exact⟨R.off h.1 _ rfl,h.2⟩
  refine⟨fun x hx H=>?_,by simp,by simp,?_⟩
  ·simp[aV,bu]at hx;subst hx;simp_all
  ·simp[aV];exact Y.2
 ·refine⟨fun x hx H=>?_,?_,?_,?_⟩
  ·rcases h2 with rfl|⟨f,rfl⟩<;>simp[aV,bu]at hx
  ·rcases h2 with rfl|⟨f,rfl⟩<;>simp
  ·rcases h2 with rfl|⟨f,rfl⟩<;>simp
  ·rcases h2 with rfl|⟨f,rfl⟩<;>trivial
 ·refine⟨fun x hx H=>?_,by simp,by simp,trivial⟩;simp[aV,bu]at hx;subst hx;have:=(R _ H).1;cases this
structure yN(P:Program)(Z:Loc->Prop)(U:Nat->Nat->Prop)(S:Nat->Prop)(g:Goroutine)(w:World)(gs:Array Goroutine)(t:Trace)(q:Nat->Nat):Prop where
 g0:gs[0]?=some g
 se:Leavers P t gs q
 past:Past Z w.heap.size t
 held:∀a,S a->a<w.heap.size/\∀l,E4 a l->Z l->∃ad:Addr,l=.cell ad/\U ad.block ad.off
 ob:qo Z w.heap.size
 nr:∀op∈t,∀a,op.act≠.mark (.release a)
open Go.ConcN (sumTo upd sumTo_upd upd_ne upd_same)
theorem abw{P:Program}{U:Nat->Nat->Prop}{Done:(Nat->Prop)->(Nat->Prop)->Goroutine->World->Prop}{X:Nat->Prop}{g:Goroutine}(h:Tz P true U Done S X g w):
  ∀(gs:Array Goroutine) (sl:Option (Nat×Nat)) (t:Trace) (q:Nat->Nat),yN P Z U S g w gs t q->
   ∃(N:Nat) (K:Array Goroutine) (A:Goroutine) (w':World) (D:Option (Nat×Nat)) (t':Trace) (q':Nat->Nat) (S' X':Nat->Prop),
    runNT P N (crowd gs w sl) t=(.next (crowd K w' D),t')/\Done S' X' A w'/\yN P Z U S' A w' K t' q'/\Kept X X' w w':=by
 induction h with
 |stop hd=>exact fun gs sl t q H=>⟨0,gs,_,_,sl,t,q,_,_,rfl,hd,H,Kept.refl _ _⟩
 |@step S X g w hs ex _ ih=>
  have inner:∀(M:Nat) (gs:Array Goroutine) (w0:World) (sl:Option (Nat×Nat)) (t:Trace) (q:Nat->Nat),sumTo gs.size q=M->gK U S w w0->yN P Z U S g w0 gs t q->
    ∃(N:Nat) (K:Array Goroutine) (A:Goroutine) (w':World) (D:Option (Nat×Nat)) (t':Trace) (q':Nat->Nat) (S' X':Nat->Prop),
     runNT P N (crowd gs w0 sl) t=(.next (crowd K w' D),t')/\Done S' X' A w'/\yN P Z U S' A w' K t' q'/\Kept X X' w0 w':=by
   intro M;induction M using Nat.strongRecOn with
   |_ M KU=>
   intro gs w0 sl t q hM hr H;have o:=H.se;have p:=H.g0;have KV:∀x∈gs,awake x:=by
    intro x hx;obtain⟨i,C,rfl⟩:=Array.mem_iff_getElem.1 hx;rcases cT i with rfl|I
    ·have:gs[0]=g:=by simpa[ah C]using p
     rw[this];exact awake_of (.inl hs)
    ·exact awake_of ((o.old i _ I (ah C)).status.elim .inl fun x=>.inr (.inr x))
   obtain⟨i,x,d,D,C,hx,gq⟩:=crowd_pick (P:=P) (w:=w0) (sl:=sl) KV ⟨0,_,p,hs⟩;rcases cT i with rfl|I
   ·obtain rfl:x=g:=by rw[p]at C;exact(Option.some.inj C).symm
    have u:=hr.trans (AE U S w0 d);obtain⟨g1,w1,es,S1,X1,r,hd⟩:=ex (w0.at d) u;have R:=runT_crowd_go (P:=P) (sl:=D) (i:=0) C (r);have L:0<gs.size:=(bk.1 p).1;have Y:=hd.grow;have Q:yN P Z U S1 g1 w1 ((gs.map (woken P x g1 w1)).setIfInBounds 0 g1) (t++cR 0 x.frame.fn x.frame.place es) q:=by
     refine⟨by simp[L],⟨fun j y F f=>?_,fun j F=>?_⟩,?_,fun a ha=>?_,H.ob.mono Y,DI H.nr (Sm hd.ev)⟩
     ·have E:0≠j:=by omega
      rw[bL E,bK]at f;obtain⟨z,m,rfl⟩:=aW.1 f;have G:=o.old j z F m;rw[woken_quitsD G,Deaf_other t (by omega) _ (fun op gC=>Ren.ofEvents_g gC)];exact G
     ·rw[Deaf_other t (g':=0) (by simp at F;omega) _ (fun op gC=>Ren.ofEvents_g gC)];exact o.above j (by simpa using F)
     ·exact(H.past.mono Y).own fun e he=>ajm (w:=w0.at d) H.held H.ob Y (hd.ev e he) (hd.KW e he)
     ·rcases(hd.held a).1 ha with y|y
      ·exact⟨aB (H.held a y).1 Y,(H.held a y).2⟩
      ·exact⟨y.2,fun l hl m=>absurd m (H.ob.off y.1 l hl)⟩
    obtain⟨N,K,A,w',B,t',q',S',X',c,T,O,V⟩:=ih (w0.at d) g1 w1 es S1 X1 u r hd _ D _ q Q;exact⟨N+1,K,A,w',B,t',q',S',X',by simp only[runNT,gq,R];exact c,T,O,((Kept.at w0 d).trans hd.toDid.toKept).trans V⟩
   ·have G:=o.old i x I C;have E5:(i==0)=false:=by simp;omega
    have L:i<gs.size:=(bk.1 C).1;cases W:q i with
    |zero=>rw[W]at G;rw[G.1]at hx;cases hx
    |succ k=>
     rw[W]at G;rcases G with⟨hf,_⟩|⟨_,A,es,hm,v,zI⟩
     ·rw[hf]at hx;cases hx
     have R:=runT_crowd_go (P:=P) (sl:=D) (i:=i) C (by rw[E5];exact v (w0.at d));have Vk:((gs.map (woken P x A (w0.at d))).setIfInBounds i A).size=gs.size:=by simp
     have TW:sumTo gs.size (upd q i k)+(k+1)=sumTo gs.size q+k:=by
      have:=sumTo_upd q k id L;simpa[W]using this
     have Q:yN P Z U S g (w0.at d) ((gs.map (woken P x A (w0.at d))).setIfInBounds i A) (t++cR i x.frame.fn x.frame.place es) (upd q i k):=by
      refine⟨?_,⟨fun j y F f=>?_,fun j F=>?_⟩,H.past.mute (by omega) hm,H.held,H.ob,DI H.nr (Rm hm)⟩
      ·have E:i≠0:=by omega
       rw[bL E,bK,p];simp[woken_run (b:=g) hs]
      ·by_cases J:i=j
       ·subst J;rw[Array.getElem?_setIfInBounds_self_of_lt (by simpa using L)]at f;obtain rfl:=Option.some.inj f;rw[upd_same,Deaf_own];exact zI
       ·rw[bL J,bK]at f;obtain⟨z,m,rfl⟩:=aW.1 f;have s:=o.old j z F m;rw[woken_quitsD s,upd_ne q k (Ne.symm J),Deaf_other t J _ (fun op gC=>Ren.ofEvents_g gC)];exact s
      ·rw[Deaf_other t (g':=i) (by simp at F;omega) _ (fun op gC=>Ren.ofEvents_g gC)];exact o.above j (by simpa using F)
     obtain⟨N,K,n,w',B,t',q',S',X',c,T,O,V⟩:=KU (sumTo gs.size (upd q i k)) (by omega) _ (w0.at d) D _ (upd q i k) (by rw[Vk]) (hr.trans (AE U S w0 d)) Q;exact⟨N+1,K,n,w',B,t',q',S',X',by simp only[runNT,gq,R];exact c,T,O,(Kept.at w0 d).trans V⟩
  exact fun gs sl t q H=>inner _ gs w sl t q rfl (cw U S w) H
theorem gu.tz{P:Program}{Q:QT}{U:Nat->Nat->Prop}{Done:(Nat->Prop)->(Nat->Prop)->Goroutine->World->Prop}{X:Nat->Prop}(h:Tz P true U Done S X (G f l) w)(O:qo Z w.heap.size->∀a,S a->a<w.heap.size/\∀l,E4 a l->Z l->∃ad:Addr,l=.cell ad/\U ad.block ad.off)
  (k:∀S' X' D w',Done S' X' D w'->Kept X X' w w'->∃f' l',D=G f' l'/\gu P Q Z f' l' w'):gu P Q Z f l w:=by
 rintro m t ⟨gs,sl,q,rfl,K⟩;obtain⟨N,H,D,w',B,t',V,S',X',hr,J,Y,M⟩:=abw (Z:=Z) h gs sl t q ⟨K.g0,K.se,K.past,O K.ob,K.ob,K.nr⟩;obtain⟨f',l',rfl,L⟩:=k S' X' D w' J M;obtain⟨C,T,t2,F,f2,l2,w2,A,R,I⟩:=L _ t' ⟨H,B,V,rfl,Y.g0,Y.se,Y.past,(fun a h=>h.elim),Y.ob,Y.nr⟩;exact⟨N+C,T,t2,F,f2,l2,w2,by rw[Go.Proofs.YtdcjnhipenbcfaaGreatDoor.Ren.runNT_add P N C _ _ _ _ hr];exact A,R,I⟩
abbrev eF(site:List _)(al:List (Nat×Value))(j:Nat->Value):=kR 122 24 site (sA al) j
abbrev jE(k q st:Nat):Value:=.agg #[iv k,iv q,iv st]
def aE(X P:ByteArray)(k q st n:Nat):=[(0,.string X),(1,.string P),(2,jE k q st),(3,iv n)]
def ZE:=aE .empty .empty 0 0 0 1
noncomputable abbrev qs (site:List _) (al:List _) (v:Value):=gY PR 60 ((eF site al fun _=>undef).finish v) []
def BW(a:List _)(Rf:Nat):=a++[(4,ptr Rf)]
def BX(a:List _)(Rf Sg:Nat):=a++[(4,ptr Rf),(5,ptr Sg)]
def pS(a:List _)(Rf Sg By:Nat):=a++[(4,ptr Rf),(5,ptr Sg),(6,ptr By)]
def F3(Mp:Nat):Value:=.agg #[.int .i32 0,.int .u32 0,.map (some Mp)]
noncomputable def BZ:=(gY PR 60 (Frame.enter PR 122 #[.string .empty,.string .empty,jE 0 0 0,iv 1] .normal) []).1.todo
noncomputable def B0:=(qs BZ ZE (ptr 0)).1.todo
noncomputable def B1:=(qs B0 (BW ZE 0) (ptr 0)).1.todo
noncomputable def B2:=(qs B1 (BX ZE 0 0) (ptr 0)).1.todo
noncomputable def B3:=(qs B2 (pS ZE 0 0 0) (.map (some 0))).1.todo
noncomputable def B4:=(qs B3 (pS ZE 0 0 0++[(11,F3 0)]) (ptr 0)).1.todo
noncomputable def zX:=(qs B4 (pS ZE 0 0 0++[(12,ptr 0)]) (ptr 0)).1.todo
def jI(a:List _)(Rf Sg By Fp:Nat):=pS a Rf Sg By++[(9,ptr Fp)]
noncomputable def Mk:=(qs zX (jI ZE 0 0 0 0++[(12,ptr 0)]) undef).1.todo
noncomputable def Ml:=(qs Mk (jI ZE 0 0 0 0) (.string .empty)).1.todo
noncomputable def Mm:=(qs Ml (jI ZE 0 0 0 0++[(13,.string .empty)]) (.string .empty)).1.todo
noncomputable def ye:=(qs Mm (jI ZE 0 0 0 0++[(13,.string .empty),(14,.string .empty)]) (jE 0 0 0)).1.todo
noncomputable def zY:=(qs ye (jI ZE 0 0 0 0++[(13,.string .empty),(14,.string .empty),(15,jE 0 0 0)]) (.slice none 0 0)).1.todo
noncomputable def Mn:=(qs zY (jI ZE 0 0 0 0++[(16,.slice none 0 0),(17,iv 1),(18,j_ 0 0 0 0)]) unit).1.todo
noncomputable def Mo:=(qs Mn (jI ZE 0 0 0 0) (ptr 0)).1.todo
section
variable(X P:ByteArray)(k q st n Rf Sg By Mp Fd Fp:Nat)(v:Value)(J:Nat->Value)(l:List Frame)
noncomputable def Vl:=gY PR 60 (Frame.enter PR 122 #[.string X,.string P,jE k q st,iv n] .normal) l
noncomputable def Vm:=gY PR 60 ((eF BZ (aE X P k q st n) J).finish (ptr Rf)) l
noncomputable def EB2:=gY PR 60 ((eF B0 (BW (aE X P k q st n) Rf) J).finish (ptr Sg)) l
noncomputable def EMM:=gY PR 60 ((eF B1 (BX (aE X P k q st n) Rf Sg) J).finish (ptr By)) l
noncomputable def Vn:=gY PR 60 ((eF B2 (pS (aE X P k q st n) Rf Sg By) J).finish (.map (some Mp))) l
noncomputable def EAL:=gY PR 60 ((eF B3 (pS (aE X P k q st n) Rf Sg By++[(11,F3 Mp)]) J).finish (ptr Fd)) l
noncomputable def EFS:=gY PR 60 ((eF B4 (pS (aE X P k q st n) Rf Sg By++[(12,ptr Fd)]) J).finish (ptr Fp)) l
noncomputable def EE1:=gY PR 60 ((eF zX (jI (aE X P k q st n) Rf Sg By Fp++[(12,ptr Fd)]) J).finish undef) l
noncomputable def EE2:=gY PR 60 ((eF Mk (jI (aE X P k q st n) Rf Sg By Fp) J).finish (.string X)) l
noncomputable def EE3:=gY PR 60 ((eF Ml (jI (aE X P k q st n) Rf Sg By Fp++[(13,.string X)]) J).finish (.string P)) l
noncomputable def EE4:=gY PR 60 ((eF Mm (jI (aE X P k q st n) Rf Sg By Fp++[(13,.string X),(14,.string P)]) J).finish (jE k q st)) l
noncomputable def EE5:=gY PR 60 ((eF ye (jI (aE X P k q st n) Rf Sg By Fp++[(13,.string X),(14,.string P),(15,jE k q st)]) J).finish v) l
noncomputable def EE6:=gY PR 60 ((eF zY (jI (aE X P k q st n) Rf Sg By Fp++[(16,v),(17,iv n),(18,j_ By Rf Sg Fp)]) J).finish unit) l
noncomputable def Vo:=gY PR 60 ((eF Mn (jI (aE X P k q st n) Rf Sg By Fp) J).finish (ptr Fd)) l
end
section
variable{X P:ByteArray}{k q st n Rf Sg By Mp Fd Fp:Nat}{v:Value}{J:Nat->Value}{l cs:List Frame}{c:Frame}
theorem eb0:look [0,1,2,3] (Vl X P k q st n l)=iz 122 24 l BZ (aE X P k q st n) none none:=by kernel_rfl
theorem eb1:look [0,1,2,3,4] (Vm X P k q st n Rf J l)=iz 122 24 l B0 (BW (aE X P k q st n) Rf) none none:=by kernel_rfl
theorem eb2:look [0,1,2,3,4,5] (EB2 X P k q st n Rf Sg J l)=iz 122 24 l B1 (BX (aE X P k q st n) Rf Sg) none none:=by kernel_rfl
theorem emm:look [0,1,2,3,4,5,6] (EMM X P k q st n Rf Sg By J l)=iz 122 24 l B2 (pS (aE X P k q st n) Rf Sg By) none none:=by kernel_rfl
theorem eb3:look [0,1,2,3,4,5,6,11] (Vn X P k q st n Rf Sg By Mp J l)=iz 122 24 l B3 (pS (aE X P k q st n) Rf Sg By++[(11,F3 Mp)]) none none:=by kernel_rfl
theorem eal:look [0,1,2,3,4,5,6,12] (EAL X P k q st n Rf Sg By Mp Fd J l)=iz 122 24 l B4 (pS (aE X P k q st n) Rf Sg By++[(12,ptr Fd)]) none none:=by kernel_rfl
theorem efs:look [0,1,2,3,4,5,6,9,12] (EFS X P k q st n Rf Sg By Fd Fp J l)=iz 122 24 l zX (jI (aE X P k q st n) Rf Sg By Fp++[(12,ptr Fd)]) none none:=by kernel_rfl
theorem ee1:look [0,1,2,3,4,5,6,9] (EE1 X P k q st n Rf Sg By Fd Fp J l)=iz 122 24 l Mk (jI (aE X P k q st n) Rf Sg By Fp) none (some (9,ptr Rf)):=by kernel_rfl
theorem ee2:look [0,1,2,3,4,5,6,9,13] (EE2 X P k q st n Rf Sg By Fp J l)=iz 122 24 l Ml (jI (aE X P k q st n) Rf Sg By Fp++[(13,.string X)]) none (some (9,ptr Sg)):=by kernel_rfl
theorem ee3:look [0,1,2,3,4,5,6,9,13,14] (EE3 X P k q st n Rf Sg By Fp J l)=iz 122 24 l Mm (jI (aE X P k q st n) Rf Sg By Fp++[(13,.string X),(14,.string P)]) none (some (75,ptr By)):=by kernel_rfl
theorem ee4:look [0,1,2,3,4,5,6,9,13,14,15] (EE4 X P k q st n Rf Sg By Fp J l)=iz 122 24 l ye (jI (aE X P k q st n) Rf Sg By Fp++[(13,.string X),(14,.string P),(15,jE k q st)]) (some (48,#[.string X,.string P,jE k q st])) none:=by kernel_rfl
theorem ee5:look [0,1,2,3,4,5,6,9,16,17,18] (EE5 X P k q st n Rf Sg By Fp v J l)=iz 122 24 l zY (jI (aE X P k q st n) Rf Sg By Fp++[(16,v),(17,iv n),(18,j_ By Rf Sg Fp)]) (some (137,#[v,iv n,j_ By Rf Sg Fp])) none:=by kernel_rfl
theorem ee6:look [0,1,2,3,4,5,6,9] (EE6 X P k q st n Rf Sg By Fp v J l)=iz 122 24 l Mn (jI (aE X P k q st n) Rf Sg By Fp) none (some (182,ptr Fp)):=by kernel_rfl
theorem ee7:look [0,1,2,3,4,5,6,9] (Vo X P k q st n Rf Sg By Fd Fp J l)=iz 122 24 l Mo (jI (aE X P k q st n) Rf Sg By Fp) none (some (166,.pointer (some ⟨Fd,2,none⟩))):=by kernel_rfl
theorem ajn:gF PR 1 (eF ye (jI (aE X P k q st n) Rf Sg By Fp++[(13,.string X),(14,.string P),(15,jE k q st)]) J) l=(Frame.enter PR 48 #[.string X,.string P,jE k q st] .normal,eF ye (jI (aE X P k q st n) Rf Sg By Fp++[(13,.string X),(14,.string P),(15,jE k q st)]) J::l):=by kernel_rfl
theorem ajo:gF PR 1 (eF zY (jI (aE X P k q st n) Rf Sg By Fp++[(16,v),(17,iv n),(18,j_ By Rf Sg Fp)]) J) l=(Frame.enter PR 137 #[v,iv n,j_ By Rf Sg Fp] .normal,eF zY (jI (aE X P k q st n) Rf Sg By Fp++[(16,v),(17,iv n),(18,j_ By Rf Sg Fp)]) J::l):=by kernel_rfl
theorem ajp:(opAt (eF BZ (aE X P k q st n) J)).map (fun o=>o.op)=some (.box 9 (.tmp 0)):=by kernel_rfl
theorem ajq:(opAt (eF B0 (BW (aE X P k q st n) Rf) J)).map (fun o=>o.op)=some (.box 9 (.tmp 1)):=by kernel_rfl
theorem ajr:(opAt (eF B1 (BX (aE X P k q st n) Rf Sg) J)).map (fun o=>o.op)=some (.box 75 (.tmp 2)):=by kernel_rfl
theorem ajs:(opAt (eF B2 (pS (aE X P k q st n) Rf Sg By) J)).map (fun o=>o.op)=some (.makeMap 166 none):=by kernel_rfl
theorem ajt:(opAt (eF B3 (pS (aE X P k q st n) Rf Sg By++[(11,F3 Mp)]) J)).map (fun o=>o.op)=some (.box 191 (.tmp 11)):=by kernel_rfl
theorem aju:(opAt (eF B4 (pS (aE X P k q st n) Rf Sg By++[(12,ptr Fd)]) J)).map (fun o=>o.op)=some (.alloc 182):=by kernel_rfl
theorem ajv:(opAt (eF zX (jI (aE X P k q st n) Rf Sg By Fp++[(12,ptr Fd)]) J)).map (fun o=>o.op)=some (.store 182 (.tmp 9) (.tmp 12)):=by kernel_rfl
end
noncomputable def B5:=(gY PR 60 (Frame.enter PR 137 #[.slice none 0 0,iv 1,undef] .normal) []).1.todo
def B6(nv:Value)(n:Nat)(work:Value):=[(0,nv),(1,iv n),(2,work)]
noncomputable def F4:=(pD B5 (B6 (.slice none 0 0) 1 undef) (ptr 0)).1.todo
def F5(nv:Value)(n:Nat)(work:Value)(Wg:Nat):=[(0,nv),(1,iv n),(2,work),(6,ptr Wg),(13,iv n)]
section
variable(nv:Value)(n Wg Gv:Nat)(work:Value)(J:Nat->Value)(l:List Frame)
noncomputable def Vp:=gY PR 60 (Frame.enter PR 137 #[nv,iv n,work] .normal) l
noncomputable def Vq:=gY PR 60 ((dF B5 (B6 nv n work) J).finish (ptr Wg)) l
end
section
variable{b:Option Addr}{len cap:Nat}{nv:Value}{n Wg Gv:Nat}{work:Value}{J:Nat->Value}{l:List Frame}
noncomputable def Up (b:Option _) (len cap n Wg Gv:Nat) (work:Value) (J:Nat->Value) (l:List _):=gY PR 60 ((dF F4 (F5 (gN b len cap) n work Wg) J).finish (rh Gv n)) l
theorem ra0:look [0,1,2] (Vp nv n work l)=iz 137 55 l B5 (B6 nv n work) none none:=by kernel_rfl
theorem ra1:look [0,1,2,6,13] (Vq nv n Wg work J l)=iz 137 55 l F4 (F5 nv n work Wg) none none:=by kernel_rfl
theorem akD:look [0,1,2,6,7,16,17,18] (Up b len cap n Wg Gv work J l)=iz 137 55 l lD (oH (ie (gN b len cap) n work Wg Gv) n 0++[(18,.bool (decide ((0:Int)<n)))]) none none:=by kernel_rfl
theorem ajw:(opAt (dF B5 (B6 nv n work) J)).map (fun o=>o.op)=some (.alloc 212):=by kernel_rfl
theorem ajx:(opAt (dF F4 (F5 nv n work Wg) J)).map (fun o=>o.op)=some (.makeSlice 213 (.tmp 13) (.tmp 13)):=by kernel_rfl
end
section
variable{P:Program}{Q:QT}{Z:Loc->Prop}{f:Frame}{l:List Frame}{w:World}
theorem gu.gC(m:Nat)(r:Frame×List _)(hr:gY P m f l=r){site:List _}{al:List _}{call:Option _}{load:Option _}(h:look ks r=iz fn n l site al call load)(hk:al.map (·.1)=ks)
  (k:∀J w',gU Z w w'->(∀b,b<w.heap.size->w'.heap[b]?=w.heap[b]?)->ahead (kR fn n site (sA al) J)=call->qK (kR fn n site (sA al) J)=load->kJ fn n site (sA al) (kR fn n site (sA al) J)->gu P Q Z (kR fn n site (sA al) J) l w'):gu P Q Z f l w:=by
 subst hr;refine gu.k4 m fun w' H D=>?_;have Y:=jV h hk;have I:=Y.call;have h2:=Y.load;have K:=Y.fr;rw[Y.fr.eq]at I h2;rw[Y.fr.eq]at K;rw[Y.callers,Y.fr.eq];simp_all
end
section
variable{main:Bool}{f:Frame}{cs:List Frame}
theorem wv{x:Operand}(h:(opAt f).map (fun o=>o.op)=some (.box t x)){c:Array _}(hx:f.eval x=v)(D:v.cells=c)(w:World):
  stepG PR main (G f cs) w=.go (G (f.finish (ptr w.heap.size)) cs) (w.alloc (.cells c t)) #[]:=by
 obtain⟨op,K,gC⟩:=sD h;subst D;have hr:(execOp f.eval op).run PR w=.ok (.value (ptr w.heap.size)) (w.alloc (.cells v.cells t)):=by
  unfold execOp;simp[gC,hx];rfl
 have Y:(execOp f.eval op).events PR w #[]=#[]:=by
  unfold execOp;simp[gC];simp[go_sem]
 rw[pj K hr,Y,seen_none]
theorem QF(h:(opAt f).map (fun o=>o.op)=some (.alloc t)){c:Array Value}{z:Value}(U:(PR.info? t).map (·.zero)=some (some z))(A:z.cells=c)(w:World):
  stepG PR main (G f cs) w=.go (G (f.finish (ptr w.heap.size)) cs) (w.alloc (.cells c t)) #[]:=by
 obtain⟨op,R,gC⟩:=sD h;subst A;have I:∃Y,PR.info? t=some Y/\Y.zero=some z:=by simp_all
 obtain⟨Y,K,H⟩:=I;have hr:(execOp f.eval op).run PR w=.ok (.value (ptr w.heap.size)) (w.alloc (.cells z.cells t)):=by
  unfold execOp;simp only[gC];simp[go_sem,zeroValue,typeInfo,K,H];rfl
 have D:(execOp f.eval op).events PR w #[]=#[]:=by
  unfold execOp;simp only[gC];simp[go_sem,zeroValue,typeInfo,K,H]
 rw[pj R hr,D,seen_none]
theorem afu(h:(opAt f).map (fun o=>o.op)=some (.makeMap t none))(w:World):
  stepG PR main (G f cs) w=.go (G (f.finish (.map (some w.heap.size))) cs) (w.alloc (.map #[] 0)) #[]:=by
 obtain⟨op,K,gC⟩:=sD h;have hr:(execOp f.eval op).run PR w=.ok (.value (.map (some w.heap.size))) (w.alloc (.map #[] 0)):=by
  unfold execOp;simp[gC];rfl
 have Y:(execOp f.eval op).events PR w #[]=#[]:=by
  unfold execOp;simp[gC];rfl
 rw[pj K hr,Y,seen_none]
theorem afv{x y:Operand}(h:(opAt f).map (fun o=>o.op)=some (.makeSlice 213 x y))(L:n<=8)(hx:f.eval x=iv n)(U:f.eval y=iv n)(w:World):
  stepG PR main (G f cs) w=.go (G (f.finish (rh w.heap.size n)) cs) (w.alloc (.cells (oR [] n) 214)) #[]:=by
 obtain⟨op,J,gC⟩:=sD h;have A:PR.underlying 213=some (.slice 214):=by kernel_rfl
 have F:∃Y,PR.info? 214=some Y/\Y.zero=some (.chan none)/\Y.size=1/\Y.bytes=8:=by
  have:(PR.info? 214).map (fun i=>(i.zero,i.size,i.bytes))=some (some (.chan none),1,8):=by kernel_rfl
  simp_all
 obtain⟨Y,H,D,K,R⟩:=F;have I:=run_makeSlice (P:=PR) w 213 214 Y (.chan none) A H D .i64 .i64 (n:Int) (n:Int) (by omega) (Int.le_refl _) (by rw[K];omega) (by rw[R];omega) (by omega);have B:madeCells (Value.chan none).cells ((n:Int).toNat *Y.size)=oR [] n:=by
  rw[K];apply Array.ext
  ·simp[madeCells,oR]
  ·intro i I h2;simp[madeCells,oR,Value.cells,Nat.mod_one]
 rw[B]at I;have hr:(execOp f.eval op).run PR w=.ok (.value (rh w.heap.size n)) (w.alloc (.cells (oR [] n) 214)):=by
  unfold execOp;simp only[gC,hx,U];rw[Sem.run_bind];show((cH 213 (.int .i64 (n:Int)) (.int .i64 (n:Int))).run PR w).andThen _=_
  rw[I];rfl
 have C:(execOp f.eval op).events PR w #[]=#[]:=by
  unfold execOp;simp only[gC,hx,U];have:n=0\/n=1\/n=2\/n=3\/n=4\/n=5\/n=6\/n=7\/n=8:=by omega
  rcases this with rfl|rfl|rfl|rfl|rfl|rfl|rfl|rfl|rfl<;>
  simp[go_sem,cH,run_underlying A,underlying,zeroValue,typeInfo,sizeOf,H,D,K,R,askRoom,roomBytes]<;>(try decide)
 rw[pj J hr,C,seen_none]
theorem afw{x y:Operand}(h:(opAt f).map (fun o=>o.op)=some (.store t x y)){B b:Nat}{row:Array Value}(hx:f.eval x=.pointer (some ⟨B,i,none⟩))(A:f.eval y=ptr b)(D:w.heap[B]?=some (.cells row t'))(C:i<row.size)(L:(PR.funcs[f.fn]?).any (·.norace)=false)(M:(PR.info? t).map (·.size)=some 1):
  stepG PR main (G f cs) w=.go (G (f.finish undef) cs) (w.setCell ⟨B,i,none⟩ (ptr b)) #[⟨.cell ⟨B,i,none⟩,true,false⟩]:=by
 obtain⟨op,F,gC⟩:=sD h;have R:w.cell? ⟨B,i,none⟩=some row[i]:=by simp[ax,D,C]
 have I:w.frozen? ⟨B,i,none⟩=false:=by simp[dJ,D]
 have J:∃Y,PR.info? t=some Y/\Y.size=1:=by simp_all
 obtain⟨Y,K,H⟩:=J;have hr:(execOp f.eval op).run PR w=.ok .skip (w.setCell ⟨B,i,none⟩ (ptr b)):=by
  unfold execOp;simp only[gC,hx,A];simp[go_sem,storeVar,sizeOf,typeInfo,K,H,R,I,ptr]
 have U:(execOp f.eval op).events PR w #[]=#[⟨.cell ⟨B,i,none⟩,true,false⟩]:=by
  unfold execOp;simp only[gC,hx,A];simp[go_sem,storeVar,sizeOf,typeInfo,K,H,R,I,ptr,events_store PR w _ _ (.pointer _) .plain rfl]
 rw[step_skip F hr,U,seen_def,L];simp[seenStep]
theorem afx{B:Nat}(h:qK f=some (75,ptr B)){a b c:Value}(K:w.heap[B]?=some (.cells #[a,b,c] t'))(D:(PR.funcs[f.fn]?).any (·.norace)=false):
  stepG PR main (G f cs) w=.go (G (f.finish (.agg #[a,b,c])) cs) w #[⟨.cell ⟨B,0,none⟩,false,false⟩,⟨.cell ⟨B,1,none⟩,false,false⟩,⟨.cell ⟨B,2,none⟩,false,false⟩]:=by
 obtain⟨op,x,H,gC,hx⟩:=GV h;have c0:w.cell? ⟨B,0,none⟩=some a:=by simp[ax,K]
 have c1:w.cell? ⟨B,1,none⟩=some b:=by simp[ax,K]
 have c2:w.cell? ⟨B,2,none⟩=some c:=by simp[ax,K]
 have hr:(execOp f.eval op).run PR w=.ok (.value (.agg #[a,b,c])) w:=by
  unfold execOp;simp only[gC,hx,ptr];simp[go_sem,c0,c1,c2]
 have Y:(execOp f.eval op).events PR w #[]=#[⟨.cell ⟨B,0,none⟩,false,false⟩,⟨.cell ⟨B,1,none⟩,false,false⟩,⟨.cell ⟨B,2,none⟩,false,false⟩]:=by
  unfold execOp;simp only[gC,hx,ptr];simp[go_sem,c0,c1,c2]
 rw[pj H hr,Y,seen_def,D];simp[seenStep]
end
end Ph
end Go.Proofs.YtdcjnhipenbcfaaGreatDoor
namespace Go.Proofs
open Shelf
def Tryz.N5:Go.Shelf.Ren:=⟨fun|156=>110|165=>121|166=>63|169=>68|240=>96|241=>136|276=>113|277=>156|n=>n,fun|31=>65|9=>9|3=>3|4=>4|0=>0|20=>20|72=>102|76=>105|70=>100|37=>79|75=>104|127=>139|164=>159|5=>5|80=>108|n=>n,fun|n=>n⟩
theorem Tryz.afy:Go.Proofs.Lays.n156 Tryz.prog Tryz.N5:={
 mixed:=by kernel_rfl
 f156:=Tryz.func110.trans (congrArg some (by kernel_rfl))
 f165:=Tryz.func121.trans (congrArg some (by kernel_rfl))
 f166:=Tryz.func63.trans (congrArg some (by kernel_rfl))
 f169:=Tryz.func68.trans (congrArg some (by kernel_rfl))
 f240:=Tryz.func96.trans (congrArg some (by kernel_rfl))
 f241:=Tryz.func136.trans (congrArg some (by kernel_rfl))
 f276:=cY.trans (congrArg some (by kernel_rfl))
 f277:=Tryz.func156.trans (congrArg some (by kernel_rfl))
 t0:=aM
 a0:=aK
 z0:=aL
 v0:=aO
 t3:=ar
 a3:=ak
 z3:=ao
 v3:=au
 t4:=bF
 a4:=bB
 z4:=bD
 v4:=bG
 t9:=aH
 a9:=aY
 z9:=a_
 v9:=bg
 t20:=dA
 a20:=da
 z20:=dq
 v20:=dH
 t31:=Tryz.underlying65
 a31:=Tryz.isAgg65
 z31:=Tryz.sizeOf65
 v31:=Tryz.zeroValue65
 t37:=aD
 a37:=bC
 z37:=bE
 v37:=bH
 t70:=aQ
 a70:=bT
 z70:=bZ
 v70:=cm
 t72:=cg
 a72:=bU
 z72:=b_
 v72:=cn
 t75:=Tryz.underlying104
 a75:=Tryz.isAgg104
 z75:=Tryz.sizeOf104
 v75:=Tryz.zeroValue104
 t76:=Tryz.underlying105
 a76:=Tryz.isAgg105
 z76:=Tryz.sizeOf105
 v76:=Tryz.zeroValue105
 t127:=du
 a127:=c7
 z127:=di
 v127:=dC
 t164:=cj
 a164:=Tryz.isAgg159
 z164:=Tryz.sizeOf159
 v164:=Tryz.zeroValue159}
theorem Tryz.WQ:cE Tryz.prog Tryz.N5:={
 sizeBuilder:=by kernel_rfl
 liesBuilder:=by kernel_rfl
 t5:=aN
 a5:=aX
 z5:=aZ
 v5:=bc
 infoByte:=by kernel_rfl
 cellsByte:=by kernel_rfl
 sizeByte:=by kernel_rfl
 neB5:=by decide}
open Go.RowKit in
theorem Tryz.strings_Join(U o c:Nat)(xs:List ByteArray)(D:ByteArray)(w:World)(K:∀(j:Nat) x,xs[j]?=some x->w.cell? ⟨U,o+j,none⟩=some (.string x))(B:U<w.heap.size)(hN:xs.length<=140737488355328)(R:xs.length<=c)(A:(Lib.join (xs.map (·.data.toList)) D.data.toList).length<=140737488355328):
  Calls Tryz.prog 110 #[.slice (some ⟨U,o,none⟩) xs.length c,.string D] w fun e w'=>e=.returned (.string ⟨(Lib.join (xs.map (·.data.toList)) D.data.toList).toArray⟩)/\Below w.heap.size w w':=Any.strings_Join Tryz.afy Tryz.WQ U o c xs D w K B hN R A
def Tryz.abx:Go.Shelf.Ren:=⟨fun|7=>124|10=>143|n=>n,fun|23=>166|26=>3|3=>3|28=>170|0=>0|27=>169|33=>197|4=>4|n=>n,fun|n=>n⟩
theorem Tryz.Tv:Go.Proofs.SlLaysZI.n7 Tryz.prog Tryz.abx:={
 mixed:=by kernel_rfl
 f7:=⟨Tryz.f124.name,by decide,Tryz.func124.trans (congrArg some (by kernel_rfl))⟩
 f10:=⟨Tryz.f143.name,by decide,Tryz.func143.trans (congrArg some (by kernel_rfl))⟩
 t0:=aM
 a0:=aK
 z0:=aL
 v0:=aO
 t4:=bF
 a4:=bB
 z4:=bD
 v4:=bG
 t23:=Tryz.underlying166
 a23:=Tryz.isAgg166
 z23:=Tryz.sizeOf166
 v23:=Tryz.zeroValue166
 t26:=ar
 a26:=ak
 z26:=ao
 v26:=au
 t27:=Tryz.underlying169
 a27:=Tryz.isAgg169
 z27:=Tryz.sizeOf169
 v27:=Tryz.zeroValue169
 t28:=dx
 a28:=c8
 z28:=dj
 v28:=dD
 t33:=Tryz.underlying197
 a33:=Tryz.isAgg197
 z33:=Tryz.sizeOf197
 v33:=Tryz.zeroValue197}
def Tryz.N6:Go.Shelf.Ren:=⟨fun|6=>123|8=>141|9=>142|11=>162|13=>164|12=>163|23=>198|24=>152|14=>189|15=>190|16=>191|17=>192|18=>193|19=>194|20=>195|21=>196|22=>197|25=>208|26=>209|27=>210|28=>211|29=>212|30=>213|31=>221|n=>n,fun|26=>3|28=>170|24=>25|0=>0|3=>3|37=>204|48=>185|50=>176|4=>4|40=>239|39=>238|45=>217|5=>5|9=>9|51=>258|55=>261|57=>264|58=>80|33=>197|n=>n,fun|n=>n⟩
theorem Tryz.afz:Go.Proofs.SlLaysZI.n6 Tryz.prog Tryz.N6:={
 mixed:=by kernel_rfl
 f6:=⟨Tryz.f123.name,by decide,Tryz.func123.trans (congrArg some (by kernel_rfl))⟩
 f8:=⟨Tryz.f141.name,by decide,Tryz.func141.trans (congrArg some (by kernel_rfl))⟩
 f11:=⟨Tryz.f162.name,by decide,Tryz.func162.trans (congrArg some (by kernel_rfl))⟩
 t0:=aM
 a0:=aK
 z0:=aL
 v0:=aO
 t24:=ck
 a24:=bV
 z24:=cf
 v24:=cu
 t26:=ar
 a26:=ak
 z26:=ao
 v26:=au
 t28:=dx
 a28:=c8
 z28:=dj
 v28:=dD
 i26:=by kernel_rfl}
def Tryz.aby:Go.Shelf.Ren:=⟨fun|5=>142|8=>164|7=>163|19=>198|20=>152|10=>189|11=>190|12=>191|13=>192|14=>193|15=>194|16=>195|17=>196|18=>197|30=>208|31=>209|32=>210|33=>211|34=>212|35=>213|40=>221|n=>n,fun|23=>25|25=>3|3=>3|32=>204|22=>25|0=>0|44=>185|46=>176|4=>4|36=>239|35=>238|41=>217|5=>5|9=>9|53=>258|57=>261|63=>264|64=>80|n=>n,fun|n=>n⟩
theorem Tryz.Tw:Go.Proofs.SlLaysM.n5 Tryz.prog Tryz.aby:={
 mixed:=by kernel_rfl
 f5:=⟨Tryz.f142.name,by decide,Tryz.func142.trans (congrArg some (by kernel_rfl))⟩
 f7:=⟨Tryz.f163.name,by decide,Tryz.func163.trans (congrArg some (by kernel_rfl))⟩
 f8:=Tryz.func164.trans (congrArg some (by kernel_rfl))
 f10:=⟨Tryz.f189.name,by decide,Tryz.func189.trans (congrArg some (by kernel_rfl))⟩
 f11:=⟨Tryz.f190.name,by decide,Tryz.func190.trans (congrArg some (by kernel_rfl))⟩
 f12:=⟨Tryz.f191.name,by decide,Tryz.func191.trans (congrArg some (by kernel_rfl))⟩
 f13:=⟨Tryz.f192.name,by decide,Tryz.func192.trans (congrArg some (by kernel_rfl))⟩
 f14:=⟨Tryz.f193.name,by decide,Tryz.func193.trans (congrArg some (by kernel_rfl))⟩
 f15:=⟨Tryz.f194.name,by decide,Tryz.func194.trans (congrArg some (by kernel_rfl))⟩
 f16:=⟨Tryz.f195.name,by decide,Tryz.func195.trans (congrArg some (by kernel_rfl))⟩
 f17:=⟨Tryz.f196.name,by decide,Tryz.func196.trans (congrArg some (by kernel_rfl))⟩
 f18:=⟨Tryz.f197.name,by decide,Tryz.func197.trans (congrArg some (by kernel_rfl))⟩
 f19:=Tryz.func198.trans (congrArg some (by kernel_rfl))
 f20:=cZ.trans (congrArg some (by kernel_rfl))
 f30:=⟨Tryz.f208.name,by decide,Tryz.func208.trans (congrArg some (by kernel_rfl))⟩
 f31:=Tryz.func209.trans (congrArg some (by kernel_rfl))
 f32:=Tryz.func210.trans (congrArg some (by kernel_rfl))
 f33:=⟨Tryz.f211.name,by decide,Tryz.func211.trans (congrArg some (by kernel_rfl))⟩
 f34:=⟨Tryz.f212.name,by decide,Tryz.func212.trans (congrArg some (by kernel_rfl))⟩
 f35:=⟨Tryz.f213.name,by decide,Tryz.func213.trans (congrArg some (by kernel_rfl))⟩
 f40:=⟨Tryz.f221.name,by decide,Tryz.func221.trans (congrArg some (by kernel_rfl))⟩
 t0:=aM
 a0:=aK
 z0:=aL
 v0:=aO
 t3:=ar
 a3:=ak
 z3:=ao
 v3:=au
 t4:=bF
 a4:=bB
 z4:=bD
 v4:=bG
 t5:=aN
 a5:=aX
 z5:=aZ
 v5:=bc
 t9:=aH
 a9:=aY
 z9:=a_
 v9:=bg
 t22:=ck
 a22:=bV
 z22:=cf
 v22:=cu
 t23:=ck
 a23:=bV
 z23:=cf
 v23:=cu
 t25:=ar
 a25:=ak
 z25:=ao
 v25:=au
 t32:=dB
 a32:=db
 z32:=dt
 v32:=dI
 t35:=Tryz.underlying238
 a35:=Tryz.isAgg238
 z35:=Tryz.sizeOf238
 v35:=Tryz.zeroValue238
 t36:=Tryz.underlying239
 a36:=Tryz.isAgg239
 z36:=Tryz.sizeOf239
 v36:=Tryz.zeroValue239
 t41:=Tryz.underlying217
 a41:=Tryz.isAgg217
 z41:=Tryz.sizeOf217
 v41:=Tryz.zeroValue217
 t44:=dz
 a44:=c_
 z44:=dp
 v44:=dG
 t46:=dy
 a46:=c9
 z46:=dk
 v46:=dE
 t53:=Tryz.underlying258
 a53:=Tryz.isAgg258
 z53:=Tryz.sizeOf258
 v53:=Tryz.zeroValue258
 t57:=Tryz.underlying261
 a57:=Tryz.isAgg261
 z57:=Tryz.sizeOf261
 v57:=Tryz.zeroValue261
 t63:=Tryz.underlying264
 a63:=Tryz.isAgg264
 z63:=Tryz.sizeOf264
 v63:=Tryz.zeroValue264
 t64:=Tryz.underlying80
 a64:=Tryz.isAgg80
 z64:=Tryz.sizeOf80
 v64:=Tryz.zeroValue80}
def Tryz.YH:Go.Shelf.Ren:=⟨fun|170=>66|n=>n,fun|70=>100|3=>3|0=>0|72=>102|37=>79|5=>5|n=>n,fun|n=>n⟩
theorem Tryz.afA:Go.Proofs.Lays.n170 Tryz.prog Tryz.YH:={
 mixed:=by kernel_rfl
 f170:=Tryz.func66.trans (congrArg some (by kernel_rfl))
 t0:=aM
 a0:=aK
 z0:=aL
 v0:=aO
 t3:=ar
 a3:=ak
 z3:=ao
 v3:=au
 t37:=aD
 a37:=bC
 z37:=bE
 v37:=bH
 t70:=aQ
 a70:=bT
 z70:=bZ
 v70:=cm
 t72:=cg
 a72:=bU
 z72:=b_
 v72:=cn}
open Go.RowKit in
theorem Tryz.Builder_Len(B b:Nat)(bs:List Value)(w:World)(h:az 102 5 B b bs w):
  Calls Tryz.prog 66 #[.pointer (some ⟨b,0,none⟩)] w fun e w'=>e=.returned (.int .i64 bs.length)/\w'=w:=Any.Builder_Len Tryz.afA B b bs w h
def Tryz.N7:Go.Shelf.Ren:=⟨fun|169=>68|n=>n,fun|70=>100|9=>9|0=>0|72=>102|37=>79|127=>139|3=>3|5=>5|n=>n,fun|n=>n⟩
theorem Tryz.afB:Go.Proofs.Lays.n169 Tryz.prog Tryz.N7:={
 mixed:=by kernel_rfl
 f169:=Tryz.func68.trans (congrArg some (by kernel_rfl))
 t0:=aM
 a0:=aK
 z0:=aL
 v0:=aO
 t3:=ar
 a3:=ak
 z3:=ao
 v3:=au
 t9:=aH
 a9:=aY
 z9:=a_
 v9:=bg
 t37:=aD
 a37:=bC
 z37:=bE
 v37:=bH
 t70:=aQ
 a70:=bT
 z70:=bZ
 v70:=cm
 t72:=cg
 a72:=bU
 z72:=b_
 v72:=cn
 t127:=du
 a127:=c7
 z127:=di
 v127:=dC}
theorem Tryz.WR:cE Tryz.prog Tryz.N7:={
 sizeBuilder:=by kernel_rfl
 liesBuilder:=by kernel_rfl
 t5:=aN
 a5:=aX
 z5:=aZ
 v5:=bc
 infoByte:=by kernel_rfl
 cellsByte:=by kernel_rfl
 sizeByte:=by kernel_rfl
 neB5:=by decide}
open Go.RowKit in
theorem Tryz.Builder_String_any(B b:Nat)(l:List UInt8)(w:World)(h:az 102 5 B b (aA l) w)(K:B<=w.heap.size):
  Calls Tryz.prog 68 #[.pointer (some ⟨b,0,none⟩)] w fun e w'=>e=.returned (.string ⟨l.toArray⟩)/\Below B w w':=Any.Builder_String_any Tryz.afB Tryz.WR B b l w h K
def Tryz.YI:Go.Shelf.Ren:=⟨fun|137=>99|217=>115|266=>134|n=>n,fun|9=>9|5=>5|3=>3|n=>n,fun|n=>n⟩
theorem Tryz.afC:Go.Proofs.Lays.n137 Tryz.prog Tryz.YI:={
 mixed:=by kernel_rfl
 f137:=Tryz.func99.trans (congrArg some (by kernel_rfl))
 f217:=Tryz.func115.trans (congrArg some (by kernel_rfl))
 f266:=Tryz.func134.trans (congrArg some (by kernel_rfl))
 t3:=ar
 a3:=ak
 z3:=ao
 v3:=au
 t5:=aN
 a5:=aX
 z5:=aZ
 v5:=bc
 t9:=aH
 a9:=aY
 z9:=a_
 v9:=bg}
open Go.RowKit in
theorem Tryz.strings_IndexByte(s:ByteArray)(c:Int)(w:World):
  Calls Tryz.prog 99 #[.string s,.int .u8 c] w fun e w'=>e=.returned (.int .i64 (Lib.indexByte s.data.toList c.toNat.toUInt8))/\w'=w:=Any.strings_IndexByte Tryz.afC s c w
def Tryz.X0:Go.Shelf.Ren:=⟨fun|171=>74|243=>98|246=>114|283=>130|284=>131|285=>132|286=>133|129=>152|317=>151|318=>153|319=>154|320=>155|337=>166|338=>167|n=>n,fun|3=>3|9=>9|2=>2|4=>4|171=>175|0=>0|53=>176|37=>79|5=>5|173=>179|212=>202|51=>185|20=>20|213=>203|46=>204|232=>245|233=>246|n=>n,fun|17=>0|18=>2|19=>3|n=>n⟩
theorem Tryz.adk:Go.Proofs.LaysM.n171 Tryz.prog Tryz.X0:={
 mixed:=by kernel_rfl
 f129:=cZ.trans (congrArg some (by kernel_rfl))
 f171:=Tryz.func74.trans (congrArg some (by kernel_rfl))
 f243:=Tryz.func98.trans (congrArg some (by kernel_rfl))
 f246:=Tryz.func114.trans (congrArg some (by kernel_rfl))
 f283:=Tryz.func130.trans (congrArg some (by kernel_rfl))
 f284:=Tryz.func131.trans (congrArg some (by kernel_rfl))
 f285:=Tryz.func132.trans (congrArg some (by kernel_rfl))
 f286:=Tryz.func133.trans (congrArg some (by kernel_rfl))
 f317:=Tryz.func151.trans (congrArg some (by kernel_rfl))
 f318:=Tryz.func153.trans (congrArg some (by kernel_rfl))
 f319:=Tryz.func154.trans (congrArg some (by kernel_rfl))
 f320:=Tryz.func155.trans (congrArg some (by kernel_rfl))
 f337:=Tryz.func166.trans (congrArg some (by kernel_rfl))
 f338:=Tryz.func167.trans (congrArg some (by kernel_rfl))
 t0:=aM
 a0:=aK
 z0:=aL
 v0:=aO
 t2:=Tryz.underlying2
 a2:=Tryz.isAgg2
 z2:=Tryz.sizeOf2
 v2:=Tryz.zeroValue2
 t3:=ar
 a3:=ak
 z3:=ao
 v3:=au
 t4:=bF
 a4:=bB
 z4:=bD
 v4:=bG
 t5:=aN
 a5:=aX
 z5:=aZ
 v5:=bc
 t9:=aH
 a9:=aY
 z9:=a_
 v9:=bg
 t20:=dA
 a20:=da
 z20:=dq
 v20:=dH
 t37:=aD
 a37:=bC
 z37:=bE
 v37:=bH
 t46:=dB
 a46:=db
 z46:=dt
 v46:=dI
 t51:=dz
 a51:=c_
 z51:=dp
 v51:=dG
 t53:=dy
 a53:=c9
 z53:=dk
 v53:=dE
 t171:=Tryz.underlying175
 a171:=Tryz.isAgg175
 z171:=Tryz.sizeOf175
 v171:=Tryz.zeroValue175
 t173:=Tryz.underlying179
 a173:=Tryz.isAgg179
 z173:=Tryz.sizeOf179
 v173:=Tryz.zeroValue179
 t212:=Tryz.underlying202
 a212:=Tryz.isAgg202
 z212:=Tryz.sizeOf202
 v212:=Tryz.zeroValue202
 t213:=Tryz.underlying203
 a213:=Tryz.isAgg203
 z213:=Tryz.sizeOf203
 t232:=Tryz.underlying245
 a232:=Tryz.isAgg245
 z232:=Tryz.sizeOf245
 v232:=Tryz.zeroValue245
 t233:=Tryz.underlying246
 a233:=Tryz.isAgg246
 z233:=Tryz.sizeOf246
 v233:=Tryz.zeroValue246
 g17:=by kernel_rfl
 g18:=by kernel_rfl
 g19:=by kernel_rfl
 i0:=by kernel_rfl
 i2:=by kernel_rfl
 i3:=by kernel_rfl
 i4:=by kernel_rfl
 i5:=by kernel_rfl
 i9:=by kernel_rfl
 i20:=by kernel_rfl
 i37:=by kernel_rfl
 i46:=by kernel_rfl
 i51:=by kernel_rfl
 i53:=by kernel_rfl
 i171:=by kernel_rfl
 i173:=by kernel_rfl
 i212:=by kernel_rfl
 i232:=by kernel_rfl
 i233:=by kernel_rfl
 m17:=by kernel_rfl
 m18:=by kernel_rfl
 m19:=by kernel_rfl}
open Go.RowKit Go.Sort Go.Lib in
theorem Tryz.strconv_Itoa(n:Int)(D: -9223372036854775808<=n)(I:n<=9223372036854775807)(w:World)(K:Lib.TabIs Tryz.prog w "internal/strconv.uint64pow10" .u64 Lib.pow10Tab):
  Calls Tryz.prog 74 #[.int .i64 n] w fun e w'=>e=.returned (.string ⟨(Lib.itoa n).toArray⟩)/\∃k os,w'=grow (w.drewN k) os:=Any.strconv_Itoa Tryz.adk n D I w K
end Go.Proofs
namespace Go.Proofs.YtdcjnhipenbcfaaGreatDoor
variable {NM a ref s:ByteArray}{f f1:Frame}{fn:FuncId}{cs l:List Frame}{ks l1 l2:List Nat}{Z:Loc->Prop}{cap i k m n p r u y z:Nat}{XX:Nat->Nat->Prop}{RO S X':Nat->Prop}{o o':Obj}{e t t':TypeId}{v:Value}{w w' wr:World}
section
open RowKit
theorem Tx:(Tryz.prog.info? 102).map (·.size)=some 2:=by kernel_rfl
theorem ajy:liesAt Tryz.prog Tryz.prog.depth 102 (2/Tryz.prog.cellsOf 102) 0 102 1=true:=by kernel_rfl
theorem Eu:(Tryz.prog.info? 5).map (fun i=>(i.zero,i.size,i.bytes))=some (some (.int .u8 0),1,1):=by kernel_rfl
theorem Nf(b:Nat)(w:World)(K:w.cell? ⟨b,0,none⟩=some (.pointer (some ⟨b,0,none⟩))):
  Calls Tryz.prog 96 #[.pointer (some ⟨b,0,none⟩)] w fun e w'=>e=.returned (.tuple #[])/\w'=w:=by
 obtain⟨j,Y,_⟩:=aW.1 Tx;go_wp2
 rw[Lib.run_neq_ptr_same w _ aQ Y];go_wp2
 go_end0
 exact⟨rfl,rfl⟩
theorem M9(b:Nat)(w:World)(R:w.cell? ⟨b,0,none⟩=some (.pointer none))(K:w.shape? b=some (102,2))(D:w.frozen? ⟨b,0,none⟩=false):
  Calls Tryz.prog 96 #[.pointer (some ⟨b,0,none⟩)] w fun e w'=>e=.returned (.tuple #[])/\w'=w.setCell ⟨b,0,none⟩ (.pointer (some ⟨b,0,none⟩)):=by
 obtain⟨j,H,Y⟩:=aW.1 Tx;go_wp2
 rw[Lib.run_to_unsafe w ⟨b,0,none⟩ aQ cj H (by rw[Y];decide) K (Nat.zero_lt_succ 1)];simp only[Result.andThen];go_wp2
 rw[run_callFunc_extern cY (by kernel_rfl) (by kernel_rfl) (by kernel_rfl) (by kernel_rfl)];rw[Lib.run_noEscape];simp only[Result.andThen];rw[cX];go_wp2
 rw[Lib.run_from_unsafe w ⟨b,0,none⟩ cj aQ H K ajy];simp only[Result.andThen];rw[cX];go_wp2
 go_end0
 exact⟨rfl,rfl⟩
theorem Nq(B b:Nat)(bs:List _)(w:World)(h:az 102 5 B b bs w):
  Calls Tryz.prog 96 #[.pointer (some ⟨b,0,none⟩)] w fun e w'=>e=.returned (.tuple #[])/\bM 102 5 B b (.pointer (some ⟨b,0,none⟩)) bs w'/\Below B w w':=by
 rcases h with h|h
 ·refine(M9 b w h.cell0 h.shape h.frozen0).mono ?_;rintro e w' ⟨rfl,rfl⟩;exact⟨rfl,h.used _,(ai B w).setCell h.1 _⟩
 ·refine(Nf b w h.cell0).mono ?_;rintro e w' ⟨rfl,rfl⟩;exact⟨rfl,h,ai B _⟩
theorem F6:(102:TypeId)≠5:=by simp
theorem W6(B b:Nat)(bs:List Value)(s:ByteArray)(w:World)(h:az 102 5 B b bs w)(O:bs.length+s.size<=1000000)(V:B<=w.heap.size):
  Calls Tryz.prog 63 #[.pointer (some ⟨b,0,none⟩),.string s] w fun e w'=>e=.returned (.tuple #[.int .i64 (s.size:Int),.nilIface])/\az 102 5 B b (bs++bp s) w'/\Below B w w':=by
 obtain⟨i0,S,F,J,L⟩:=info_parts Eu
 go_enter Tryz.func63,Tryz.ntmps63
 go_wp2_with(go_at_call 96;refine(Nq B b bs _ h).mono ?_)
 rintro e w1 ⟨rfl,⟨N,v,H,D,U⟩,R⟩;have c0:w1.cell? ⟨b,0,none⟩=some (.pointer (some ⟨b,0,none⟩)):=by rw[aT H];rfl
 have c1:w1.cell? ⟨b,1,none⟩=some v:=by rw[aT H];rfl
 go_wp2_with(at_builtin;refine Lib.wpList_append_own_string _ rfl _ _ 79 9 rfl B 5 i0 aD aH S F J L _ _ _ rfl D s rfl ?c3 ?c4 ?c5 ?_)
 case c3=>unfold maxLen;omega
 case c4=>omega
 case c5=>have:=R.size;omega
 intro v' w2 K Y _;have A:b<w1.heap.size:=by
  rcases cW b w1.heap.size with h'|h'
  ·exact h'
  ·simp[bj h']at H
 have I:w2.heap[b]?=some (.cells #[.pointer (some ⟨b,0,none⟩),v] 102 (0,0)):=by
  rw[Y.block b A (fun e=>U e.symm)];exact H
 have d1:w2.cell? ⟨b,1,none⟩=some v:=by rw[aT I];rfl
 have f1:w2.frozen? ⟨b,1,none⟩=false:=cL I 1;obtain⟨M,P,cap,rfl⟩:∃M P cap,v'=.slice M P cap:=by
  rcases K.2 with⟨C,_⟩|⟨g,cap,Q,C,_⟩
  ·exact⟨_,_,_,C⟩
  ·exact⟨_,_,_,C⟩
 go_wp2
 go_ret2
 refine⟨rfl,.inr ?_,?_⟩
 ·exact cK (T:=102) (e:=5) N I (bs':=bs++bp s) (by simpa[Lib.strCells_length]using K) F6
 ·exact(R.grown Y (by have:=R.size;omega) (fun k hk=>(D.lt k hk).1)).setCell (p:=⟨b,1,none⟩) N _
theorem XC(B b:Nat)(bs:List Value)(c:Int)(w:World)(h:az 102 5 B b bs w)(N:bs.length+1<=1000000)(V:B<=w.heap.size):
  Calls Tryz.prog 73 #[.pointer (some ⟨b,0,none⟩),.int .u8 c] w fun e w'=>e=.returned .nilIface/\az 102 5 B b (bs++[.int .u8 c]) w'/\Below B w w':=by
 obtain⟨i0,Q,F,J,L⟩:=info_parts Eu
 go_enter Tryz.func73,Tryz.ntmps73
 go_wp2_with(go_at_call 96;refine(Nq B b bs _ h).mono ?_)
 rintro e w1 ⟨rfl,⟨M,v,I,D,C⟩,H⟩;have c1:w1.cell? ⟨b,1,none⟩=some v:=by rw[aT I];rfl
 go_wp2_with(at_builtin;refine wpList_append_own _ rfl _ _ 79 rfl B 5 i0 (.int .u8 0) 1 1 aD Q F J L rfl (by decide) _ _ _ rfl (D.alloc _) ⟨w1.heap.size,0,none⟩ 1 1 [.int .u8 c] rfl rfl ?c1 ?c2 ?c3 ?c4 ?c5 ?_)
 case c1=>
  intro j u A
  match j,A with
  |0,A=>simp at A;subst A;simp[Addr.add]
 case c2=>intro u O;simp at O;subst O;rfl
 case c3=>unfold maxLen;omega
 case c4=>omega
 case c5=>have:=H.size;simp;omega
 intro v' w2 K Y _;have U:b<w1.heap.size:=by
  rcases cW b w1.heap.size with h'|h'
  ·exact h'
  ·simp[bj h']at I
 have R:w2.heap[b]?=some (.cells #[.pointer (some ⟨b,0,none⟩),v] 102 (0,0)):=by
  rw[Y.block b (by simp;omega) (fun e=>C e.symm),Lib.alloc_old w1 _ b U];exact I
 have d1:w2.cell? ⟨b,1,none⟩=some v:=by rw[aT R];rfl
 have f1:w2.frozen? ⟨b,1,none⟩=false:=cL R 1;obtain⟨g,cap,rfl⟩:∃g cap,v'=.slice (some ⟨g,0,none⟩) (bs.length+1) cap:=by
  rcases K.2 with⟨_,X⟩|⟨g,cap,P,S,_⟩
  ·omega
  ·exact⟨g,cap,S⟩
 go_wp2
 go_ret
 refine⟨rfl,.inr ?_,?_⟩
 ·exact cK (T:=102) (e:=5) M R (bs':=bs++[.int .u8 c]) (by simpa using K) F6
 ·exact((H.alloc (by have:=H.size;omega) _).grown Y (by have:=H.size;simp;omega) (fun k hk=>(D.lt k hk).1)).setCell (p:=⟨b,1,none⟩) M _
theorem afD(s:ByteArray):lX s=iC (kL s 62 0) fun p=>iC (jd s 200 p) (xb s (s.size+1) (jR s 200 p)):=by
 unfold lX kL;rw[G9]
theorem abz(h:((w.alloc o).alloc o').grownBy w' (some r))(hr:w.heap.size<=r):Below w.heap.size w w':=
 (((ai _ _).alloc (ae _) _).alloc (by simp) _).grown h (by simp;omega) (by simp_all)
theorem GX(s:ByteArray)(f:Nat)(acc:List _)(st:Nat×Bool)(h:st.2=true):nZ s f acc st=(st,acc):=ym (.inl h) rfl
theorem Nr(s:ByteArray):∀f acc p,acc≠ []->p<=s.size->(nZ s f acc (p,false)).1=xb s f acc.length p
 |0,acc,p,_,_=>rfl
 |f+1,acc,p,H,D=>by
  by_cases h:p<s.size
  ·have I:=Cv (f:=f+1) (acc:=acc) (st:=(p,false)) (by omega) rfl (.inr h) rfl;rw[<-I,Nat.add_sub_cancel];simp only[xb];rw[if_neg (by omega)];by_cases hb:(jd s (200-acc.length) p).2=true
   ·rw[GX _ _ _ _ hb,v_ hb]
   ·rw[ay]at hb;have K:=(uN s (200-acc.length) p D).2;have Y:(acc++sQ s (200-acc.length) p).length=acc.length+jR s (200-acc.length) p:=by rw[af,II s _ p D]
    rw[<-Y];have e:jd s (200-acc.length) p=((jd s (200-acc.length) p).1,false):=by rw[<-hb]
    rw[e];exact Nr s f _ _ (by simp[H]) K
  ·rw[ym (.inr ⟨H,by omega⟩) rfl];simp only[xb];simp_all
theorem abA(s:ByteArray):(mY s).1=lX s:=by
 unfold mY;rw[afD];have e:iC _ _=kL s 62 0:=rfl;rw[e];by_cases hb:(kL s 62 0).2=true
 ·rw[GX _ _ _ _ hb,v_ hb]
 ·rw[ay]at hb;rw[kK hb];have K:=(wi s 62 0 (by omega)).2;generalize kL s 62 0=st at *;obtain⟨p,b⟩:=st;subst hb;have I:=Cv (s:=s) (f:=s.size+2) (st:=(p,false)) (by omega) rfl (.inl rfl) rfl;rw[<-I];simp at *;by_cases hb:(jd s 200 p).2=true
  ·rw[GX _ _ _ _ hb,v_ hb]
  ·rw[ay]at hb;have D:=G6 s 200 p hb;have Y:=II s 200 p K;have H:jd s 200 p=((jd s 200 p).1,false):=by rw[<-hb]
   rw[H,<-Y];refine Nr s _ _ _ ?_ (uN s 200 p K).2;intro h;rw[h]at Y;simp at Y;omega
abbrev ic(B:Nat)(acc:List _)(w:World):=az 102 5 B B (aA acc) w
theorem OQ{p:Value}{B:Nat}{bs:List _}(h:bM 102 5 B B p bs w)(R:w.grownBy w' (some r))(hr:r<B):bM 102 5 B B p bs w':=by
 obtain⟨D,v,hb,Y,K⟩:=h;have H:=Lib.BuilderAt.lt ⟨D,v,hb,Y,K⟩;refine⟨D,v,?_,Y.kept R (.inr ?_),K⟩
 ·rw[R.block B H (by intro e;simp_all)];exact hb
 ·intro e;have:=(Y.lt r e).1;omega
theorem ic.kept{B:Nat}{acc:List _}(h:ic B acc w)(K:w.grownBy w' (some r))(hr:r<B):ic B acc w':=
 h.imp (fun h=>OQ h K hr) (fun h=>OQ h K hr)
theorem ic.drewN{B:Nat}{acc:List _}(h:ic B acc w)(m:Nat):ic B acc (w.drewN m):=h
theorem ic.lt{B:Nat}{acc:List _}(h:ic B acc w):B<w.heap.size:=by
 rcases h with h|h<;>exact h.lt
theorem ic.new(w:World):ic w.heap.size [] (w.alloc (.cells #[.pointer none,.slice none 0 0] 102)):=Lib.fresh_isBuilder 102 5 w
theorem aht(B:Nat)(acc:List _)(w:World)(h:ic B acc w):
  Calls Tryz.prog 66 #[.pointer (some ⟨B,0,none⟩)] w fun e w'=>e=.returned (.int .i64 acc.length)/\w'=w:=by
 have:=Tryz.Builder_Len B B _ w h
 rwa [show(aA acc).length=acc.length by simp[aA]]at this
theorem CK(B:Nat)(acc:List _)(w:World)(h:ic B acc w):
  Calls Tryz.prog 68 #[.pointer (some ⟨B,0,none⟩)] w fun e w'=>e=.returned (.string (str acc))/\Below B w w':=Tryz.Builder_String_any B B acc w h (by have:=h.lt;omega)
theorem Pw(acc:List _)(x:ByteArray):aA acc++bp x=aA (acc++x.data.toList):=by
 simp[aA,bp]
theorem C7(B:Nat)(acc:List _)(x:ByteArray)(w:World)(h:ic B acc w)(K:acc.length+x.size<=1000000):
  Calls Tryz.prog 63 #[.pointer (some ⟨B,0,none⟩),.string x] w fun e w'=>e=.returned (.tuple #[.int .i64 x.size,.nilIface])/\ic B (acc++x.data.toList) w'/\Below B w w':=by
 refine(W6 B B _ x w h (by simp[aA];omega) (by have:=h.lt;omega)).mono ?_;rintro e w' ⟨Y,I,h2⟩;rw[Pw]at I;simp_all
def D3(NM:ByteArray)(w:World)(R:(Nat×Bool)×List UInt8)(e:Ending)(w':World):Prop:=
 (R.1.2=false->e=.returned (.agg #[.string NM,.string (str R.2)]))/\(R.1.2=true->e=.panicked (oN 2 (R.1.1:Int)))/\Below w.heap.size w w'
theorem Hg{w1:World}{st:Nat×Bool}{l:List _}{R:(Nat×Bool)×List _}(K:R=(st,l))(gq:st.2=true)(hb:Below w.heap.size w w1):D3 NM w R (.panicked (oN 2 (st.1))) w1:=by
 subst K;exact⟨fun h=>by simp_all,fun _=>rfl,hb⟩
theorem YJ{w1:World}{l:List _}{R:(Nat×Bool)×List _}(K:R=((p,false),l))(hb:Below w.heap.size w w1):D3 NM w R (.returned (.agg #[.string NM,.string (str l)])) w1:=by
 subst K;exact⟨fun _=>rfl,fun h=>Bool.noConfusion h,hb⟩
theorem QG(s:ByteArray)(m p:Nat)(K:p<=s.size):(ov s m p).data.toList.map gb=sQ s m p:=by
 unfold sQ ov;simp only[rest];simp
theorem adl(l:List _):(str l).data.toList=l:=by simp[str]
def qB(s:ByteArray):=uj s (h_ s 62 0).1
theorem Xe(K:((w.alloc o).alloc o').grownBy w' (some r))(hr:r≠w.heap.size):w'.heap[w.heap.size]?=some o:=by
 rw[K.block _ (by simp;omega) (by simpa using fun h=>hr h.symm),heap_alloc_old _ _ (by simp),heap_alloc_new]
theorem WT(s:ByteArray)(w:World)(hs:s.size<=1000):
  Calls Tryz.prog 43 #[.string s] w fun e w'=>D3 (qB s) w (mY s) e w':=by
 generalize hR:mY s=R;have HR:=laid (show nZ s (s.size+2) [] (kL s 62 0)=R from hR);clear hR;generalize hM:qB s=o;have HM:=laid (show uj s (h_ s 62 0).1=o from hM);clear hM
 go_enter Tryz.func43,Tryz.ntmps43
 go_wp2_with fail
 have O:=CW (w.alloc (.cells #[.string ⟨#[]⟩,.string ⟨#[]⟩] 68)) s 0 2;have f:(w.alloc (.cells #[.string ⟨#[]⟩,.string ⟨#[]⟩] 68)).heap.size=w.heap.size+1:=by simp
 rw[f]at O;refine(Nw _ _ s 0 2 _ 62 rfl O hs (by omega)).mono ?_;rw[HM.out];clear HM;rintro e w1 ⟨I,h2,b,m⟩;have M:=wi s 62 0 (by omega);have P:=Xe m (by omega);have J:Below w.heap.size w w1:=abz m (by omega);clear m O f;generalize hQ:w.heap.size+1=Q at *;by_cases gq:(kL s 62 0).2=true
 ·obtain rfl:=h2 gq;exact⟨rfl,Hg (ym (.inl gq) HR.out) gq J⟩
 ·rw[ay]at gq;obtain rfl:=I gq;clear I h2;have l:=laid (Cv (by omega) gq (.inl rfl) HR.out);generalize(kL s 62 0).1=C at *;clear gq HR;have j:=b.lt;go_wp2_with fail
  refine(GG _ _ s C 2 _ 200 rfl (by omega) (b.alloc _) hs M.2).mono ?_;rintro e w2 ⟨I,h2,qz,W⟩;have Vr:=(ic.new w1).kept W j;have D:=W.block w.heap.size (by simp;omega) (by simp;omega);rw[heap_alloc_old _ _ (by omega),P]at D;have u:Below w.heap.size w w2:=(J.alloc J.size _).grown W (by simp;have:=J.size;omega) (by intro k hk;cases hk;omega);clear W b J P;have Mq:=uN s 200 C M.2;by_cases gq:(jd s 200 C).2=true
  ·obtain rfl:=h2 gq;exact⟨rfl,Hg (ym (.inl gq) l.out) gq u⟩
  ·rw[ay]at gq;obtain rfl:=I gq;clear I h2;have H:=G6 s 200 C gq;have n:=Aw s 200 C;have a:=G8 s 200 C M.2;have V:=QG s 200 C M.2;have Vs:Hid (s.size-(jd s 200 C).1<s.size+1/\nZ s (s.size+1) ((ov s 200 C).data.toList.map gb) ((jd s 200 C).1,false)=R):=laid ⟨by omega,by
    have:=l.out;rw[show s.size+2-1=s.size+1 by omega]at this;rw[V,<-gq];exact this⟩
   clear l V;have EX:1<=(ov s 200 C).size/\(ov s 200 C).size<=200:=by omega
   generalize ov s 200 C=X at *;generalize(jd s 200 C).1=p2 at *;clear gq H n a M;generalize w1.heap.size=B at *;go_wp2_with fail
   refine(C7 B [] X _ Vr (by simp;omega)).mono ?_;rintro e w3 ⟨rfl,r,Y⟩;have vJ:=qz.below Y j;have A:=Y.block w.heap.size (by omega);rw[D]at A;have Vt:Below w.heap.size w w3:=u.trans (Y.mono (by omega));clear Y qz u Vr D;rw[aJ]at r;go_wp2
   go_loopw [] (fun wr=>∃(acc:List UInt8) (p fuel:Nat),1<=acc.length/\acc.length<=200/\p<=s.size/\RD wr Q s p 2/\ic B acc wr/\wr.heap[w.heap.size]?=some (.cells #[.string ⟨#[]⟩,.string ⟨#[]⟩] 68)/\Below w.heap.size w wr/\Hid (s.size-p<fuel/\nZ s fuel (acc.map gb) (p,false)=R)) (fun wr=>s.size-mX wr Q)
   case atStart=>exact⟨X.data.toList,p2,s.size+1,by simp;omega,by simp;omega,Mq.2,vJ,r,A,Vt,Vs⟩
   case round=>
    obtain⟨acc,p,fuel,ha1,ha2,hp,F,y,d,L,HF⟩:=hrel;clear Vs vJ r Vt Mq EX A;by_cases z:p<s.size
    ·have HL:=laid (Cv (by have:=HF.out.1;omega) rfl (.inr z) HF.out.2);go_wp2_with fail
     refine(CV _ _ s p 2 F z).mono ?_;rintro e w4 ⟨rfl,i,rfl⟩;go_wp2_with fail
     refine(aht B acc _ (y.drewN i)).mono ?_;rintro e w4 ⟨rfl,rfl⟩;go_wp2_with fail
     refine(GG _ _ s p 2 _ (200-acc.length) (by omega) (by omega) (F.drewN i) hs hp).mono ?_;rintro e w4 ⟨I,h2,t,q⟩;have Vu:=(y.drewN i).kept q j;have S:=q.block w.heap.size (by have:=F.lt;simp;omega) (by simp;omega);have x:Below w.heap.size w w4:=(Go.below_drewN L i).grown q (by have:=L.size;simpa using this) (by intro k hk;cases hk;omega);have Mr:=uN s (200-acc.length) p hp;have E:=HL.out;rw[bO]at E;by_cases gq:(jd s (200-acc.length) p).2=true
     ·obtain rfl:=h2 gq;exact⟨rfl,Hg (ym (.inl gq) E) gq x⟩
     ·rw[ay]at gq;obtain rfl:=I gq;clear I h2 q;have U:w4.heap[w.heap.size]?=some (.cells #[.string ⟨#[]⟩,.string ⟨#[]⟩] 68):=S.trans d;clear S;have H:=G6 s (200-acc.length) p gq;have n:=Aw s (200-acc.length) p;have a:=G8 s (200-acc.length) p hp;have V:=QG s (200-acc.length) p hp;have HL1:Hid (s.size-(jd s (200-acc.length) p).1<fuel-1/\nZ s (fuel-1) ((acc++(ov s (200-acc.length) p).data.toList).map gb) ((jd s (200-acc.length) p).1,false)=R):=laid ⟨by have:=HF.out.1;omega,by
       rw[List.map_append,V,<-gq];exact E⟩
      clear HL E HF V;have EX:(ov s (200-acc.length) p).size+acc.length<=200:=by omega
      have hpm:p<(jd s (200-acc.length) p).1:=by omega
      have F7:=laid F.mX;have aps:=laid t.mX;generalize ov s (200-acc.length) p=X at *;generalize(jd s (200-acc.length) p).1=p4 at *;clear gq H n a;go_wp2_with fail
      refine(C7 B acc X _ Vu (by omega)).mono ?_;rintro e w5 ⟨rfl,hB5,Y⟩;have zS:=t.below Y j;have T:=Y.block w.heap.size (by omega);rw[U]at T;have G:Below w.heap.size w w5:=x.trans (Y.mono (by omega));have akE:=laid zS.mX;clear Y t x Vu U;go_wp2
      go_roundw
      case rel=>go_light;exact⟨acc++X.data.toList,p4,fuel-1,by simp;omega,by simp;omega,Mr.2,zS,hB5,T,G,HL1⟩
      case measure=>go_light;rw[F7.out,akE.out];omega
    ·have Vv:s.size=p:=by omega
     have HPE:=laid Vv;have c:=ym (.inr ⟨by intro h;have h0:=congrArg List.length h;rw[bO,aI]at h0;omega,by simp only;omega⟩) HF.out.2;have akF:=laid c;clear c Vv HF;go_wp2_with fail
     refine(Ho _ _ s p 2 F HPE.out).mono ?_;rintro e w4 ⟨rfl,i,rfl⟩;go_wp2_with fail
     refine(CK B acc _ (y.drewN i)).mono ?_;rintro e w5 ⟨rfl,Y⟩;go_wp2_with fail
     refine(Gs (str acc) _ (by rw[gV];omega)).mono ?_;rintro e g ⟨rfl,Vw⟩;have G:Below w.heap.size w w5:=(Go.below_drewN L i).trans (Y.mono (by omega));have Vx:Below w.heap.size w g:=G.trans (Vw.mono G.size);have K:g.heap[w.heap.size]?=some (.cells #[.string ⟨#[]⟩,.string ⟨#[]⟩] 68):=by
      have zV:=Y.size;have hrl:=F.lt;simp at zV;rw[Vw.block w.heap.size (by omega),Y.block w.heap.size (by omega)];exact d
     have n0:g.cell? ⟨w.heap.size,0,none⟩=some (.string ⟨#[]⟩):=by rw[cell_of_row _ _ _ _ _ _ K];rfl
     have n1:g.cell? ⟨w.heap.size,1,none⟩=some (.string ⟨#[]⟩):=by rw[cell_of_row _ _ _ _ _ _ K];rfl
     have z0:g.frozen? ⟨w.heap.size,0,none⟩=false:=frozen_of_row _ _ _ _ _ K;have z1:g.frozen? ⟨w.heap.size,1,none⟩=false:=frozen_of_row _ _ _ _ _ K;have N:str ((str acc).data.toList.map gb)=str (acc.map gb):=by rw[adl]
     rw[N];generalize akG:acc.map gb=Z at *;obtain⟨m0,m1,Vy⟩:=tM (.string o) (.string (str Z)) n0 n1;have F8:Below w.heap.size w ((g.setCell ⟨w.heap.size,0,none⟩ (.string o)).setCell ⟨w.heap.size,1,none⟩ (.string (str Z))):=Vx.grown Vy Vx.size (by intro k hk;cases hk;exact ae _);have HG:=laid (YJ (NM:=o) akF.out F8);clear akG N K Vy;go_wp2
     generalize(g.setCell ⟨w.heap.size,0,none⟩ (.string o)).setCell ⟨w.heap.size,1,none⟩ (.string (str Z))=w8 at *;refine bodyPost_ret (v:=.agg #[.string o,.string (str Z)]) ?_ rfl HG.out;simp[results,Tryz.results43,go_sem,m0,m1]
theorem Gu(s:ByteArray)(w:World)(K:s.size<=1000):
  Calls Tryz.prog 43 #[.string s] w fun e w'=>((lX s).2=false->e=.returned (.agg #[.string (qB s),.string (str (mY s).2)]))/\((lX s).2=true->e=.panicked (oN 2 ((lX s).1)))/\Below w.heap.size w w':=by
 have:=WT s w K;unfold D3 at this
 rwa [abA]at this
theorem YK{R:Nat×Bool}(hk:k<5)(K:p<s.size)(h:kY s (5-k) p=R):iC (lP s p) (kY s (5-(k+1)))=R:=by
 rw[<-h,show 5-k=(5-(k+1))+1 by omega];simp only[kY];rw[if_neg (by omega)]
theorem OS{R:Nat×Bool}(K:s.size=p)(h:kY s (5-k) p=R):R=(p,false):=by
 rw[<-h];generalize 5-k=m;cases m with
 |zero=>simp[kY];simp_all
 |succ m=>simp[kY];simp_all
theorem YL{R:Nat×Bool}(K:p<s.size)(h:kY s (5-5) p=R):(p,true)=R:=by
 rw[<-h];simp[kY,Nat.sub_self];simp_all
theorem ZZ(s:ByteArray)(p:Nat)(h:(lP s p).2=false)(L:p<=s.size):p<(lP s p).1:=by
 unfold lP at *;obtain⟨I,h2⟩:=r9 h;rw[kK I];have J:=Ot s 64 p I;have R:(h_ s 64 p).1<=s.size:=by omega
 have:=qc (Qa s _ R) fun q A=>qc (uN s 30 q A) fun U Y=>qc (qI s 43 U Y) fun B K=>qc (qI s 10 B K) fun C H=>qc (wh s kG (jR s 30 q) (jR s 30 q) C H) fun F D=>qI s 10 F D;omega
theorem ahu:(Tryz.prog.info? 131).map (fun i=>(i.zero,i.size,i.bytes))=some (some (.agg #[.string ⟨#[]⟩,.string ⟨#[]⟩,.string ⟨#[]⟩]),3,48):=by kernel_rfl
def I1(w:World)(R:Nat×Bool)(K:List (ByteArray×ByteArray×ByteArray))(e:Ending)(w':World):Prop:=
 (R.2=false->∃V,e=.returned V/\w'.ownsRow (w.heap.size+1) 131 3 V K.length (lG K))/\(R.2=true->e=.panicked (oN 3 (R.1:Int)))/\Below w.heap.size w w'
theorem N8{w1:World}{st R:Nat×Bool}{K:List _}(D:st=R)(gq:st.2=true)(hb:Below w.heap.size w w1):I1 w R K (.panicked (oN 3 (st.1))) w1:=by
 subst D;exact⟨fun h=>by simp_all,fun _=>rfl,hb⟩
theorem NH{w1:World}{R:Nat×Bool}{L K:List _}{V:Value}(U:R.2=false)(D:L=K)(A:w1.ownsRow (w.heap.size+1) 131 3 V L.length (lG L))(hb:Below w.heap.size w w1):I1 w R K (.returned V) w1:=by
 subst D;exact⟨fun _=>⟨V,rfl,A⟩,fun h=>by simp_all,hb⟩
theorem X3{L K:List _}(hk:k<5)(D:p<s.size)(gq:(lP s p).2=false)(h:L++iX s (5-k) p=K):(L++[(xY s p,xZ s p,x5 s p)])++iX s (5-(k+1)) (lP s p).1=K:=by
 rw[<-h,show 5-k=(5-(k+1))+1 by omega];simp only[iX];rw[if_neg (by omega),if_neg (by simp_all),agK s p (by omega) gq,cM];rfl
theorem N9{L K:List _}(D:s.size<=p)(h:L++iX s k p=K):L=K:=by
 rw[<-h];cases k with
 |zero=>simp[iX]
 |succ k=>simp[iX];simp_all
theorem AZ{b:Nat}{xs:List _}(h:wr.ownsRow b e k v n xs)(r:Nat)(hr:r<b\/wr.heap.size<=r):v.ownBlock=none\/v.ownBlock≠some r:=by
 cases hb:v.ownBlock with
 |none=>exact .inl rfl
 |some g=>
  right;have:=h.lt g hb;intro Y;cases Y;omega
theorem CL{B B':Nat}{xs:List _}(h:w.ownsRow B e k v n xs)(D:B'<=B):w.ownsRow B' e k v n xs:=by
 refine⟨h.1,?_⟩;rcases h.2 with h'|⟨g,cap,Y,I,h2,K⟩
 ·simp_all
 ·exact .inr ⟨g,cap,Y,I,by omega,K⟩
theorem Ns(s:ByteArray)(w:World)(hs:s.size<=1000):
  Calls Tryz.prog 90 #[.string s] w fun e w'=>I1 w (kY s 5 0) (iX s 5 0) e w':=by
 obtain⟨i0,hi,hz,hsi,hby⟩:=info_parts ahu;generalize hR:kY s 5 0=R;have HR:=laid hR;clear hR;generalize d:iX s 5 0=LR;have q:=laid (show []++iX s 5 0=LR from d);clear d
 go_enter Tryz.func90,Tryz.ntmps90
 go_wp2
 go_loopw [4] (fun v wr=>∃(L:List (ByteArray×ByteArray×ByteArray)) (p:Nat),L.length<=5/\p<=s.size/\RD wr w.heap.size s p 3/\wr.ownsRow (w.heap.size+1) 131 3 v L.length (lG L)/\Below w.heap.size w wr/\Hid (kY s (5-L.length) p=R)/\Hid (L++iX s (5-L.length) p=LR)) (fun _ wr=>s.size-mX wr w.heap.size)
 case atStart=>exact⟨[],0,by simp,by omega,CW w s 0 3,World.ownsRow_nil _ _ _ _,(ai _ _).alloc (ae _) _,HR,q⟩
 case round=>
  obtain⟨L,p,hk,hp,J,U,H,P,b⟩:=hrel;clear HR q;obtain⟨av,cap,rfl⟩:∃a cap,u4=.slice a L.length cap:=by
   rcases U.2 with⟨I,h2⟩|⟨g,cap,cur,I,_⟩
   ·exact⟨none,0,by rw[I,h2]⟩
   ·exact⟨_,cap,I⟩
  generalize hn:L.length=n at *;have G:=laid hn;clear hn;by_cases l:n<5
  ·by_cases D:p<s.size
   ·have z:=laid (YK l D P.out);clear P;go_wp2_with fail
    refine(CV _ _ s p 3 J D).mono ?_;rintro e w3 ⟨rfl,m,rfl⟩;go_wp2_with fail
    refine(Ye _ _ s p 3 (J.drewN m) hs hp).mono ?_;rintro e w4 ⟨I,h2,x,Z⟩;have K:=World.ownsRow.kept (w:=wr.drewN m) U Z (AZ U _ (.inl (by omega)));have Y:Below w.heap.size w w4:=(Go.below_drewN H m).grown Z (by have:=H.size;simpa using this) (by intro k hk;cases hk;exact ae _);have Mr:=acm s p hp;by_cases gq:(lP s p).2=true
    ·obtain rfl:=h2 gq;exact⟨rfl,N8 (ts z.out gq) gq Y⟩
    ·rw[ay]at gq;obtain rfl:=I gq;clear I h2;have c:=laid (tL z.out gq);have W:=laid (X3 l D gq b.out);have hmo:=ZZ s p gq hp;have F7:=laid J.mX;unfold oX;generalize(lP s p).1=i at *;generalize xY s p=T at *;generalize xZ s p=Q at *;generalize x5 s p=S at *;clear gq z b Z;have apt:=x.lt;go_wp2_with(first
      |(at_builtin;refine wpList_append_own _ rfl _ _ 90 rfl (w.heap.size+1) 131 i0 (.agg #[.string ⟨#[]⟩,.string ⟨#[]⟩,.string ⟨#[]⟩]) 3 48 Tryz.underlying90 hi hz hsi hby rfl (by decide) _ _ _ rfl (K.alloc _) ⟨w4.heap.size,0,none⟩ 1 1 [.string T,.string Q,.string S] rfl rfl ?c1 ?c2 ?c3 ?c4 ?c5 ?_)
      |go_in)
     case c1=>
      intro j u N
      match j,N with
      |0,N=>simp at N;subst N;simp[Addr.add,go_sem]
      |1,N=>simp at N;subst N;simp[Addr.add,go_sem]
      |2,N=>simp at N;subst N;simp[Addr.add,go_sem]
     case c2=>intro u hu;simp at hu;rcases hu with rfl|rfl|rfl<;>rfl
     case c3=>unfold maxLen;omega
     case c4=>omega
     case c5=>simp;omega
     intro v' w7 C B _;have o:=AZ K w.heap.size (.inl (by omega));have y:RD w7 w.heap.size s i 3:=by
      have ha:=x.alloc (.cells #[.string T,.string Q,.string S] 131);unfold RD at *;rw[B.block _ (by simp;omega) (by rcases o with h|h<;>simp_all;exact fun h'=>h h'.symm)];exact ha
     have X:Below w.heap.size w w7:=(Y.alloc Y.size _).grown B (by simp;have:=Y.size;omega) (fun k hk=>by have:=K.lt k hk;omega);have E:w7.ownsRow (w.heap.size+1) 131 3 v' (L++[(T,Q,S)]).length (lG (L++[(T,Q,S)])):=by
      rw[Zh,af,G.out];exact C
     have r:=laid y.mX;have HS2:Hid (kY s (5-(L++[(T,Q,S)]).length) i=R):=laid (by rw[af,G.out];exact c.out);have HL2:Hid ((L++[(T,Q,S)])++iX s (5-(L++[(T,Q,S)]).length) i=LR):=laid (by rw[af,G.out];exact W.out);obtain⟨g,EN,n',rfl⟩:∃g cap n',v'=.slice (some ⟨g,0,none⟩) n' cap:=by
      rcases C.2 with⟨_,h0⟩|⟨g,cap,cur,hv,_⟩
      ·omega
      ·exact⟨g,cap,_,hv⟩
     clear C B o K c W;go_wp2
     go_roundw
     case rel=>go_light;exact⟨L++[(T,Q,S)],i,by rw[af,G.out];simp;omega,Mr.2,y,E,X,HS2,HL2⟩
     case measure=>go_light;rw[F7.out,r.out];omega
   ·have F:s.size=p:=by omega
    have O:=laid F;have A:=OS F P.out;have M:=laid (show R.2=false by rw[A]);have V:=laid (N9 (by omega) b.out);clear A F P;go_wp2_with fail
    refine(Ho _ _ s p 3 J O.out).mono ?_;rintro e w3 ⟨rfl,m,rfl⟩;go_wp2_with fail
    refine(GH _ _ s p 3 (J.drewN m) (by rw[O.out])).mono ?_;rintro e w4 ⟨rfl,t,rfl⟩;go_wp2
    go_ret
    exact NH M.out V.out (by rw[G.out];exact U) (Go.below_drewN H _)
  ·have f:n=5:=by omega
   have HK:=laid f;clear f;by_cases D:p<s.size
   ·have z:=laid (YL D (HK.out▸P.out));clear P;go_wp2_with fail
    refine(Ni _ _ s p 3 J (by omega)).mono ?_;rintro e w4 ⟨rfl,t,rfl⟩;exact⟨rfl,N8 (st:=(p,true)) z.out rfl (Go.below_drewN H t)⟩
   ·have F:s.size=p:=by omega
    have O:=laid F;have A:=OS F P.out;have M:=laid (show R.2=false by rw[A]);have V:=laid (N9 (by omega) b.out);clear A F P;go_wp2_with fail
    refine(GH _ _ s p 3 J (by rw[O.out])).mono ?_;rintro e w4 ⟨rfl,t,rfl⟩;go_wp2
    go_ret
    exact NH M.out V.out (by rw[G.out];exact U) (Go.below_drewN H t)
structure lW(w w':World)(y z:Nat):Prop where
 os:w'.os=w.os
 tape:w'.tape=w.tape
 output:w'.output=w.output
 size:w.heap.size<=w'.heap.size
 block:∀k,k<w.heap.size->k≠y->k≠z->w'.heap[k]?=w.heap[k]?
theorem lW.of{wm:World}(I:w.grownBy wm (some y))(h2:wm.grownBy w' (some z)):lW w w' y z:=
 ⟨h2.os.trans I.os,h2.tape.trans I.tape,h2.output.trans I.output,cU I.size h2.size,fun k hk Y K=>by
  rw[h2.block k (by have:=I.size;omega) (by simp_all),I.block k hk (by simp_all)]⟩
theorem lW.below{B:Nat}(h:lW w w' y z)(K:B<=w.heap.size)(D:B<=y)(R:B<=z):Below B w w':=
 ⟨h.os,h.tape,h.output,h.size,fun k hk=>h.block k (by omega) (by omega) (by omega)⟩
theorem lW.new{w w1 w2:World}{o:Obj}{y z:Nat}(K:lW (w.alloc o) w1 y z)(h2:w1.grownBy w2 (some w.heap.size)):lW w w2 y z:=by
 refine⟨h2.os.trans K.os,h2.tape.trans K.tape,h2.output.trans K.output,?_,fun k hk H D=>?_⟩
 ·have:=K.size;have:=h2.size;simp at *;omega
 ·have Y:=K.size;simp at Y;rw[h2.block k (by omega) (by simp;omega),K.block k (by simp;omega) H D,cD w o k hk]
theorem lW.alloc{w1:World}(K:lW w w1 y z)(o:Obj):lW w (w1.alloc o) y z:=
 ⟨K.os,K.tape,K.output,by have:=K.size;simp;omega,fun k hk Y H=>by
  have:=K.size;rw[cD w1 o k (by omega)];exact K.block k hk Y H⟩
theorem Xf(h:Below w.heap.size w w')(y z:Nat):lW w w' y z:=⟨h.os,h.tape,h.output,h.size,fun k hk _ _=>h.block k hk⟩
def ku(ref reads:ByteArray):=
 if(lX ref).2=true then(2,(lX ref).1)else if(kY reads 5 0).2=true then(3,(kY reads 5 0).1)else(0,0)
def m_(ref reads:ByteArray):Int:=if 400<ref.size\/600<reads.size then 1 else((ku ref reads).1:Int)
def y8(ref reads:ByteArray):Int:=if 400<ref.size\/600<reads.size then 0 else((ku ref reads).2:Int)
def RB(w:World)(y:Nat)(a b:ByteArray):=w.heap[y]?=some (.cells #[.string a,.string b] 68 (0,0))
def ZB(w:World)(z:Nat)(v:Value):=w.heap[z]?=some (.cells #[v] 90 (0,0))
def FB(w:World)(m:Nat)(c p:Int):=w.heap[m]?=some (.cells #[.int .i64 c,.int .i64 p] 70 (0,0))
theorem RB.c0{b:ByteArray}(h:RB w y a b):w.cell? ⟨y,0,none⟩=some (.string a):=by rw[cell_of_row w y 0 _ _ _ h];rfl
theorem RB.c1{b:ByteArray}(h:RB w y a b):w.cell? ⟨y,1,none⟩=some (.string b):=by rw[cell_of_row w y 1 _ _ _ h];rfl
theorem RB.fz{b:ByteArray}(h:RB w y a b)(j:Nat):w.frozen? ⟨y,j,none⟩=false:=frozen_of_row w y j _ _ h
theorem RB.lt{b:ByteArray}(h:RB w y a b):y<w.heap.size:=by have:=block_lt_of_cell h.c0;omega
theorem RB.put{b:ByteArray}(h:RB w y a b)(a' b':ByteArray):RB ((w.setCell ⟨y,0,none⟩ (.string a')).setCell ⟨y,1,none⟩ (.string b')) y a' b':=by
 have I:RB (w.setCell ⟨y,0,none⟩ (.string a')) y a' b:=by unfold RB at *;rw[heap_setCell_same w y 0 _ _ _ h];rfl
 unfold RB at *;rw[heap_setCell_same _ y 1 _ _ _ I];rfl
theorem RB.at{b:ByteArray}(h:RB w y a b)(K:w'.heap[y]?=w.heap[y]?):RB w' y a b:=by unfold RB at *;simp_all
theorem ZB.c0(h:ZB w z v):w.cell? ⟨z,0,none⟩=some v:=by rw[cell_of_row w z 0 _ _ _ h];rfl
theorem ZB.fz(h:ZB w z v)(j:Nat):w.frozen? ⟨z,j,none⟩=false:=frozen_of_row w z j _ _ h
theorem ZB.lt(h:ZB w z v):z<w.heap.size:=by have:=block_lt_of_cell h.c0;omega
theorem ZB.put(h:ZB w z v)(v':Value):ZB (w.setCell ⟨z,0,none⟩ v') z v':=by
 unfold ZB at *;rw[heap_setCell_same w z 0 _ _ v' h];rfl
theorem ZB.at(h:ZB w z v)(K:w'.heap[z]?=w.heap[z]?):ZB w' z v:=by unfold ZB at *;simp_all
theorem FB.c0{c p:Int}(h:FB w m c p):w.cell? ⟨m,0,none⟩=some (.int .i64 c):=by rw[cell_of_row w m 0 _ _ _ h];rfl
theorem FB.c1{c p:Int}(h:FB w m c p):w.cell? ⟨m,1,none⟩=some (.int .i64 p):=by rw[cell_of_row w m 1 _ _ _ h];rfl
theorem FB.fz{c p:Int}(h:FB w m c p)(j:Nat):w.frozen? ⟨m,j,none⟩=false:=frozen_of_row w m j _ _ h
theorem FB.lt{c p:Int}(h:FB w m c p):m<w.heap.size:=by have:=block_lt_of_cell h.c0;omega
theorem Z3(ref reads:ByteArray)(x y u z:Nat)(a b:ByteArray)(v:Value)(w:World)(I:ref.size<=400)(h2:reads.size<=600)
  (hx:w.cell? ⟨x,0,none⟩=some (.string ref))(hu:w.cell? ⟨u,0,none⟩=some (.string reads))(hy:RB w y a b)(hz:ZB w z v)(huy:u≠y)(O:z≠y)(ha:(lX ref).2=false)(hb:(kY reads 5 0).2=false):
  Calls Tryz.prog 89 #[.pointer (some ⟨x,0,none⟩),.pointer (some ⟨y,0,none⟩),.pointer (some ⟨u,0,none⟩),.pointer (some ⟨z,0,none⟩)] w fun e w'=>
   e=.returned (.tuple #[])/\RB w' y (qB ref) (str (mY ref).2)/\(∃V,ZB w' z V/\w'.ownsRow w.heap.size 131 3 V (iX reads 5 0).length (lG (iX reads 5 0)))/\lW w w' y z:=by
 have q:=laid ha;have j:=laid hb;clear ha hb;have T:=hy.lt;have G:=hz.lt;have Q:u<w.heap.size:=by have:=block_lt_of_cell hu;simpa using this
 generalize hX:str (mY ref).2=X;generalize o:qB ref=Y;have d:=laid hX;have f:=laid o;clear hX o;generalize l:iX reads 5 0=U;have c:=laid l;clear l
 go_enter bS,bX
 go_wp2_with fail
 refine(Gu ref _ (by omega)).mono ?_;rintro e w1 ⟨J,W,D⟩;rw[d.out,f.out]at J;obtain rfl:=J q.out;clear J W q d f;have R:RB w1 y a b:=hy.at (D.block y T);have Z:ZB w1 z v:=hz.at (D.block z G);have m:w1.cell? ⟨u,0,none⟩=some (.string reads):=by rw[(Eb D).1 u 0 Q];exact hu
 have c0:=R.c0;have c1:=R.c1;have f0:=R.fz 0;have f1:=R.fz 1;have M:=R.put Y X;obtain⟨_,_,K⟩:=tM (.string Y) (.string X) c0 c1;have p:=D.size;have C:=Z.at (K.block z (by omega) (by simpa using O));have L:=jq (th D _) K;clear D K;go_wp2_with fail
 generalize(w1.setCell ⟨y,0,none⟩ (.string Y)).setCell ⟨y,1,none⟩ (.string X)=w2 at *;refine(Ns reads _ (by omega)).mono ?_;rintro e w3 ⟨J,W,A⟩;rw[c.out]at J;obtain⟨V,rfl,H⟩:=J j.out;clear J W j c;obtain⟨va,cap,rfl⟩:∃va cap,V=.slice va U.length cap:=by
  rcases H.2 with⟨I,h2⟩|⟨g,cap,s,I,_⟩
  ·exact⟨none,0,by rw[I,h2]⟩
  ·exact⟨_,cap,I⟩
 have N:RB w3 y Y X:=M.at (A.block y M.lt);have F:ZB w3 z v:=C.at (A.block z C.lt);have c0:=F.c0;have f0:=F.fz 0;have E:=F.put (.slice va U.length cap);have K:=pW w3 z 0 (.slice va U.length cap);have S:=N.at (K.block y N.lt (by simpa using fun h=>O h.symm));have P:=jq (th A _) K;have r:=L.size;have B:(w3.setCell ⟨z,0,none⟩ (.slice va U.length cap)).ownsRow w.heap.size 131 3 (.slice va U.length cap) U.length (lG U):=
  CL (H.kept K (AZ H z (.inl (by have:=C.lt;omega)))) (by omega)
 clear K A H;go_wp2
 go_end0
 exact⟨rfl,S,⟨_,E,B⟩,lW.of L P⟩
theorem YM(ref reads:ByteArray)(x y u z:Nat)(a b:ByteArray)(v:Value)(w:World)(I:ref.size<=400)(h2:reads.size<=600)
  (hx:w.cell? ⟨x,0,none⟩=some (.string ref))(G:w.cell? ⟨u,0,none⟩=some (.string reads))(T:RB w y a b)(V:ZB w z v)(j:u≠y)(E:z≠y)(D:(lX ref).2=true\/(kY reads 5 0).2=true):
  Calls Tryz.prog 89 #[.pointer (some ⟨x,0,none⟩),.pointer (some ⟨y,0,none⟩),.pointer (some ⟨u,0,none⟩),.pointer (some ⟨z,0,none⟩)] w fun e w'=>
   e=.panicked (oN ((ku ref reads).1:Int) ((ku ref reads).2:Int))/\(∃a' b',RB w' y a' b')/\ZB w' z v/\lW w w' y z:=by
 have F:=T.lt;have L:=V.lt;have Q:u<w.heap.size:=by have:=block_lt_of_cell G;simpa using this
 by_cases R:(lX ref).2=true
 ·have B:ku ref reads=(2,(lX ref).1):=if_pos R;rw[B];have N:=laid R;clear D B R
  go_enter bS,bX
  go_wp2_with fail
  refine(Gu ref _ (by omega)).mono ?_;rintro e w1 ⟨O,M,K⟩;obtain rfl:=M N.out;exact⟨rfl,rfl,⟨a,b,T.at (K.block y F)⟩,V.at (K.block z L),Xf K _ _⟩
 ·have hb:=D.resolve_left R;have B:ku ref reads=(3,(kY reads 5 0).1):=by unfold ku;rw[if_neg R,if_pos hb]
  rw[B];rw[ay]at R;have N:=laid R;have W:=laid hb;clear D B R hb
  go_enter bS,bX
  go_wp2_with fail
  refine(Gu ref _ (by omega)).mono ?_;rintro e w1 ⟨O,M,K⟩;generalize str (mY ref).2=X at *;generalize qB ref=Y at *;obtain rfl:=O N.out;clear O M N;have H:RB w1 y a b:=T.at (K.block y F);have S:ZB w1 z v:=V.at (K.block z L);have q:w1.cell? ⟨u,0,none⟩=some (.string reads):=by rw[(Eb K).1 u 0 Q];exact G
  have c0:=H.c0;have c1:=H.c1;have f0:=H.fz 0;have f1:=H.fz 1;have C:=H.put Y X;obtain⟨_,_,U⟩:=tM (.string Y) (.string X) c0 c1;have Z:=K.size;have J:=S.at (U.block z (by omega) (by simpa using E));have P:=jq (th K _) U;clear K U;go_wp2_with fail
  refine(Ns reads _ (by omega)).mono ?_;rintro e w3 ⟨O,M,A⟩;obtain rfl:=M W.out;exact⟨rfl,rfl,⟨Y,X,C.at (A.block y C.lt)⟩,J.at (A.block z J.lt),lW.of P (th A _)⟩
theorem Xg(ref reads:ByteArray)(x y u z:Nat)(a b:ByteArray)(v:Value)(w:World)(I:ref.size<=400)(h2:reads.size<=600)
  (hx:w.cell? ⟨x,0,none⟩=some (.string ref))(E:w.cell? ⟨u,0,none⟩=some (.string reads))(G:RB w y a b)(W:ZB w z v)(L:u≠y)(O:z≠y)(T:(lX ref).2=false)(hb:(kY reads 5 0).2=false):
  Calls Tryz.prog 41 #[.func (.func 89) #[] #[.pointer (some ⟨x,0,none⟩),.pointer (some ⟨y,0,none⟩),.pointer (some ⟨u,0,none⟩),.pointer (some ⟨z,0,none⟩)]] w fun e w'=>
   e=.returned (.agg #[.int .i64 0,.int .i64 0])/\RB w' y (qB ref) (str (mY ref).2)/\(∃V,ZB w' z V/\w'.ownsRow w.heap.size 131 3 V (iX reads 5 0).length (lG (iX reads 5 0)))/\lW w w' y z:=by
 have P:=laid T;have Q:=laid hb;clear T hb;have J:x<w.heap.size:=by have:=block_lt_of_cell hx;simpa using this
 have F:u<w.heap.size:=by have:=block_lt_of_cell E;simpa using this
 have M:=G.lt;have N:=W.lt
 go_enter_defers Tryz.func41,de
 go_wp2_with fail
 refine(Z3 ref reads x y u z a b v _ I h2 ?_ ?_ (G.at (heap_alloc_old _ _ M)) (W.at (heap_alloc_old _ _ N)) L O P.out Q.out).mono ?_
 ·rw[bI _ _ _ J];exact hx
 ·rw[bI _ _ _ F];exact E
 rintro e w1 ⟨rfl,H,⟨V,D,K⟩,B⟩;have hN:=B.block w.heap.size (by simp) (by omega) (by omega);rw[heap_alloc_new]at hN;have n0:w1.cell? ⟨w.heap.size,0,none⟩=some (.int .i64 0):=by rw[cell_of_row _ _ _ _ _ _ hN];rfl
 have n1:w1.cell? ⟨w.heap.size,1,none⟩=some (.int .i64 0):=by rw[cell_of_row _ _ _ _ _ _ hN];rfl
 have z0:w1.frozen? ⟨w.heap.size,0,none⟩=false:=frozen_of_row _ _ _ _ _ hN;have Z:w1.frozen? ⟨w.heap.size,1,none⟩=false:=frozen_of_row _ _ _ _ _ hN;go_wp2
 obtain⟨m0,S,Y⟩:=tM (.int .i64 0) (.int .i64 0) n0 n1;have A:=H.at (Y.block y H.lt (by simp;omega));have U:=D.at (Y.block z D.lt (by simp;omega));have R:=CL (K.kept Y (AZ K w.heap.size (.inl (by simp)))) (show w.heap.size<=_ by simp);have C:=lW.new B Y;clear H D hN n0 n1 z0 Z B Y K;refine leaves_cons (f:=61) (args:=#[.pointer (some ⟨w.heap.size,0,none⟩)]) (by simp) (by simp[go_sem]) ?_;refine(Ow _ _).mono ?_;rintro e q X ⟨rfl,rfl,rfl⟩;refine⟨.agg #[.int .i64 0,.int .i64 0],?_,rfl,A,⟨V,U,R⟩,C⟩;simp[results,dh,go_sem,m0,S]
theorem W7(ref reads:ByteArray)(x y u z:Nat)(a b:ByteArray)(v:Value)(w:World)(I:ref.size<=400)(h2:reads.size<=600)
  (hx:w.cell? ⟨x,0,none⟩=some (.string ref))(T:w.cell? ⟨u,0,none⟩=some (.string reads))(V:RB w y a b)(E:ZB w z v)(F:u≠y)(N:z≠y)(K:(lX ref).2=true\/(kY reads 5 0).2=true):
  Calls Tryz.prog 41 #[.func (.func 89) #[] #[.pointer (some ⟨x,0,none⟩),.pointer (some ⟨y,0,none⟩),.pointer (some ⟨u,0,none⟩),.pointer (some ⟨z,0,none⟩)]] w fun e w'=>
   e=.returned (.agg #[.int .i64 ((ku ref reads).1:Int),.int .i64 ((ku ref reads).2:Int)])/\(∃a' b',RB w' y a' b')/\ZB w' z v/\lW w w' y z:=by
 have P:=laid K;clear K;have J:x<w.heap.size:=by have:=block_lt_of_cell hx;simpa using this
 have C:u<w.heap.size:=by have:=block_lt_of_cell T;simpa using this
 have L:=V.lt;have M:=E.lt
 go_enter_defers Tryz.func41,de
 go_wp2_with fail
 refine(YM ref reads x y u z a b v _ I h2 ?_ ?_ (V.at (heap_alloc_old _ _ L)) (E.at (heap_alloc_old _ _ M)) F N P.out).mono ?_
 ·rw[bI _ _ _ J];exact hx
 ·rw[bI _ _ _ C];exact T
 rintro e w1 ⟨rfl,⟨a',b',R⟩,A,O⟩;have hN:=O.block w.heap.size (by simp) (by omega) (by omega);rw[heap_alloc_new]at hN;have n0:w1.cell? ⟨w.heap.size,0,none⟩=some (.int .i64 0):=by rw[cell_of_row _ _ _ _ _ _ hN];rfl
 have n1:w1.cell? ⟨w.heap.size,1,none⟩=some (.int .i64 0):=by rw[cell_of_row _ _ _ _ _ _ hN];rfl
 have z0:w1.frozen? ⟨w.heap.size,0,none⟩=false:=frozen_of_row _ _ _ _ _ hN;have Z:w1.frozen? ⟨w.heap.size,1,none⟩=false:=frozen_of_row _ _ _ _ _ hN;refine leaves_cons (f:=61) (args:=#[.pointer (some ⟨w.heap.size,0,none⟩)]) (by simp) (by simp[go_sem]) ?_;refine(Ov _ _ _ _ _ [] _ n0 n1 z0 Z).mono ?_;rintro e W X ⟨rfl,rfl,rfl⟩;have Q:w.heap.size<w1.heap.size:=by have:=block_lt_of_cell n0;simpa using this
 obtain⟨m0,S,Y⟩:=tM (.int .i64 ((ku ref reads).1:Int)) (.int .i64 ((ku ref reads).2:Int)) n0 n1;have H:=R.at (Y.block y R.lt (by simp;omega));have D:=A.at (Y.block z A.lt (by simp;omega));have U:=lW.new O Y;generalize G:(w1.setCell ⟨w.heap.size,0,none⟩ (.int .i64 ((ku ref reads).1:Int))).setCell ⟨w.heap.size,1,none⟩ (.int .i64 ((ku ref reads).2:Int))=w2 at *;have B:w.heap.size<w2.heap.size:=by have:=Y.size;omega
 refine⟨.agg #[.int .i64 ((ku ref reads).1:Int),.int .i64 ((ku ref reads).2:Int)],?_,rfl,⟨a',b',H.at (heap_alloc_old _ _ H.lt)⟩,D.at (heap_alloc_old _ _ D.lt),U.alloc _⟩;simp[results,dh,go_sem,m0,S,B]
def Iu(w:World)(ref reads:ByteArray)(E P:Int)(K:List (ByteArray×ByteArray×ByteArray))(e:Ending)(w':World):=
 ∃a b V,e=.returned (.tuple #[.agg #[.string a,.string b],V,.agg #[.int .i64 E,.int .i64 P]])/\(∃va n cap,V=.slice va n cap)/\Below w.heap.size w w'/\
  (E=0->a=qB ref/\b=str (mY ref).2/\w'.ownsRow w.heap.size 131 3 V K.length (lG K))
theorem FB.put{c p:Int}(h:FB w m c p)(c' p':Int):FB ((w.setCell ⟨m,0,none⟩ (.int .i64 c')).setCell ⟨m,1,none⟩ (.int .i64 p')) m c' p':=by
 have I:FB (w.setCell ⟨m,0,none⟩ (.int .i64 c')) m c' p:=by unfold FB at *;rw[heap_setCell_same w m 0 _ _ _ h];rfl
 unfold FB at *;rw[heap_setCell_same _ m 1 _ _ _ I];rfl
theorem ahv{w1:World}{o0 o1 o2 o3 o4:Obj}(h:lW (((((w.alloc o0).alloc o1).alloc o2).alloc o3).alloc o4) w1 (w.heap.size+1+1) (w.heap.size+1+1+1)):Below w.heap.size w w1/\w1.heap[w.heap.size+1+1+1+1]?=some o4/\w.heap.size+5<=w1.heap.size:=by
 have hb:=h.below (B:=w.heap.size) (by simp;omega) (by omega) (by omega);refine⟨((((((ai _ _).alloc (ae _) o0).alloc (by simp) o1).alloc (by simp;omega) o2).alloc (by simp;omega) o3).alloc (by simp;omega) o4).trans hb,?_,by have:=h.size;simp_all⟩;rw[h.block _ (by simp) (by omega) (by omega)];have e:w.heap.size+1+1+1+1=((((w.alloc o0).alloc o1).alloc o2).alloc o3).heap.size:=by simp
 rw[e,heap_alloc_new]
theorem adm(w:World)(K o1:Obj)(o3 o4:Obj):RB (((((w.alloc K).alloc o1).alloc (.cells #[.string ⟨#[]⟩,.string ⟨#[]⟩] 68)).alloc o3).alloc o4) (w.heap.size+1+1) ⟨#[]⟩ ⟨#[]⟩:=by
 unfold RB;rw[heap_alloc_old _ _ (by simp),heap_alloc_old _ _ (by simp)];have e:w.heap.size+1+1=((w.alloc K).alloc o1).heap.size:=by simp
 rw[e,heap_alloc_new]
theorem adn(w:World)(K o1 o2:Obj)(o4:Obj)(v:Value):ZB (((((w.alloc K).alloc o1).alloc o2).alloc (.cells #[v] 90)).alloc o4) (w.heap.size+1+1+1) v:=by
 unfold ZB;rw[heap_alloc_old _ _ (by simp)];have e:w.heap.size+1+1+1=(((w.alloc K).alloc o1).alloc o2).heap.size:=by simp
 rw[e,heap_alloc_new]
theorem A0{a:Addr}(h:w.cell? a=some v):w.setCell a v=w:=by
 have e:(w.heap.modify a.block fun
   |.cells c Y frozen=>.cells (if a.spot.isSome then c else c.setIfInBounds a.off v) Y frozen
   |o=>o)=w.heap:=by
  apply Array.ext
  ·simp
  ·intro i I h2;rw[Array.getElem_modify];split
   ·rename_i K;subst K;unfold ax at h;rw[ah h2]at h;generalize w.heap[a.block]=o at *;cases o with
    |cells c Y frozen=>
     simp only at h⊢;split at h
     ·simp at h
     ·rename_i H;rw[if_neg H];congr 1;apply Array.ext
      ·simp
      ·intro j D R;rw[Array.getElem_setIfInBounds];split
       ·simp_all
       ·rfl
    |_=>simp at h
   ·rfl
 exact congrArg (fun h=>({w with heap:=h})) e
theorem ado{B:Nat}{xs:List _}(h:w.ownsRow B e k v n xs):w.drew.ownsRow B e k v n xs:=h
theorem Xh(ref reads:ByteArray)(w:World)(I:ref.size<=400)(h2:reads.size<=600):
  Calls Tryz.prog 58 #[.string ref,.string reads] w fun e w'=>Iu w ref reads ((ku ref reads).1:Int) ((ku ref reads).2:Int) (iX reads 5 0) e w':=by
 have u:∀(fn:Fn) (first cap:Array Value) (w:World),(cG fn first cap).run Tryz.prog w=.ok (.func fn first cap) w:=fun _ _ _ _=>rfl;have Q:∀W:World,W.cell? ⟨w.heap.size,0,none⟩=some (.string ref)->W.cell? ⟨w.heap.size+1,0,none⟩=some (.string reads)->RB W (w.heap.size+1+1) ⟨#[]⟩ ⟨#[]⟩->ZB W (w.heap.size+1+1+1) (.slice none 0 0)->w.heap.size<=W.heap.size->
   Calls Tryz.prog 41 #[.func (.func 89) #[] #[.pointer (some ⟨w.heap.size,0,none⟩),.pointer (some ⟨w.heap.size+1+1,0,none⟩),.pointer (some ⟨w.heap.size+1,0,none⟩),.pointer (some ⟨w.heap.size+1+1+1,0,none⟩)]] W fun e w'=>
    e=.returned (.agg #[.int .i64 ((ku ref reads).1:Int),.int .i64 ((ku ref reads).2:Int)])/\lW W w' (w.heap.size+1+1) (w.heap.size+1+1+1)/\
    ∃a b V,RB w' (w.heap.size+1+1) a b/\ZB w' (w.heap.size+1+1+1) V/\(∃va n cap,V=.slice va n cap)/\(((ku ref reads).1:Int)=0->a=qB ref/\b=str (mY ref).2/\w'.ownsRow W.heap.size 131 3 V (iX reads 5 0).length (lG (iX reads 5 0))):=by
  intro W c0 c1 L M hW;by_cases Y:(lX ref).2=true\/(kY reads 5 0).2=true
  ·refine(W7 ref reads _ _ _ _ _ _ _ W I h2 c0 c1 L M (by omega) (by omega) Y).mono ?_;rintro e w' ⟨rfl,⟨a,b,j⟩,z,X⟩;refine⟨rfl,X,a,b,_,j,z,⟨_,_,_,rfl⟩,fun h=>?_⟩;exfalso;unfold ku at h;by_cases F:(lX ref).2=true
   ·rw[if_pos F]at h;simp at h
   ·rw[if_neg F,if_pos (Y.resolve_left F)]at h;simp at h
  ·have F:(lX ref).2=false:=by simpa using fun h=>Y (.inl h)
   have hb:(kY reads 5 0).2=false:=by simpa using fun h=>Y (.inr h)
   have r:ku ref reads=(0,0):=by unfold ku;rw[F,hb];rfl
   rw[r];refine(Xg ref reads _ _ _ _ _ _ _ W I h2 c0 c1 L M (by omega) (by omega) F hb).mono ?_;rintro e w' ⟨rfl,j,⟨V,z,X⟩,y⟩;refine⟨rfl,y,_,_,V,j,z,?_,fun _=>⟨rfl,rfl,X⟩⟩;rcases X.2 with⟨I,h2⟩|⟨g,cap,l,I,_⟩
   ·exact⟨none,0,0,I⟩
   ·exact⟨_,_,cap,I⟩
 have N:=laid Q;clear Q;generalize o:((ku ref reads).1:Int)=E at *;generalize hP:((ku ref reads).2:Int)=P at *;generalize p:iX reads 5 0=T at *;clear o hP p
 go_enter bR,bW
 go_wp2_with fail
 refine(N.out _ (by simp[go_sem]) (by simp[go_sem]) (adm w _ _ _ _) (adn w _ _ _ _ _) (by simp;omega)).mono ?_;rintro e w1 ⟨rfl,S,a,b,V,L,M,⟨va,n,cap,rfl⟩,R⟩;obtain⟨D,d,x⟩:=ahv S;have J:FB w1 (w.heap.size+1+1+1+1) 0 0:=d;have c:Hid (E=0->a=qB ref/\b=str (mY ref).2/\w1.ownsRow (w.heap.size+5) 131 3 (.slice va n cap) T.length (lG T)):=laid fun h=>by
  obtain⟨g1,O,C⟩:=R h;refine⟨g1,O,?_⟩;simpa using C
 clear S d R N;have f0:=J.c0;have f1:=J.c1;have G:=J.fz 0;have q:=J.fz 1;have K:=J.put E P;obtain⟨_,_,H⟩:=tM (.int .i64 E) (.int .i64 P) f0 f1;have A:=L.at (H.block _ L.lt (by simp));have B:=M.at (H.block _ M.lt (by simp));have U:=D.grown H D.size (by intro k hk;cases hk;omega);have Z:Hid (E=0->a=qB ref/\b=str (mY ref).2/\((w1.setCell ⟨w.heap.size+1+1+1+1,0,none⟩ (.int .i64 E)).setCell ⟨w.heap.size+1+1+1+1,1,none⟩ (.int .i64 P)).ownsRow (w.heap.size+5) 131 3 (.slice va n cap) T.length (lG T)):=laid fun h=>by
  obtain⟨g1,O,C⟩:=c.out h;exact⟨g1,O,C.kept H (AZ C _ (.inl (by omega)))⟩
 have f:=H.size;clear H D c;go_wp2_with fail
 generalize(w1.setCell ⟨w.heap.size+1+1+1+1,0,none⟩ (.int .i64 E)).setCell ⟨w.heap.size+1+1+1+1,1,none⟩ (.int .i64 P)=w2 at *;clear f0 f1 G q;have a0:=A.c0;have a1:=A.c1;have b0:=B.c0;have c0:=K.c0;have c1:=K.c1;have m:=A.fz 0;have t:=A.fz 1;have i:=B.fz 0;have FQ:=K.fz 0;have zc1:=K.fz 1;have s1:=A0 a0;have s2:=A0 a1;have s3:=A0 b0;have s4:=A0 c0;have s5:=A0 c1;have s:=K.lt;clear L M J A B K
 go_region
 all_goals
  go_wp2
  refine bodyPost_ret (v:=.tuple #[.agg #[.string a,.string b],.slice va n cap,.agg #[.int .i64 E,.int .i64 P]]) ?_ rfl ?_
  ·simp[results,bY,go_sem,a0,a1,b0,c0,c1]
  ·exact⟨a,b,.slice va n cap,rfl,⟨_,_,_,rfl⟩,U.drew,fun h=>by
    obtain⟨g1,O,C⟩:=Z.out h;exact⟨g1,O,CL (ado C) (by omega)⟩⟩
theorem XD(ref reads:ByteArray)(w:World)(I:ref.size<=maxLen)(h2:reads.size<=maxLen)(K:400<ref.size\/600<reads.size):
  Calls Tryz.prog 58 #[.string ref,.string reads] w fun e w'=>Iu w ref reads 1 0 (iX reads 5 0) e w':=by
 have D:∀(fn:Fn) (first cap:Array Value) (w:World),(cG fn first cap).run Tryz.prog w=.ok (.func fn first cap) w:=fun _ _ _ _=>rfl;unfold maxLen at I h2;generalize Y:iX reads 5 0=R at *;clear Y;by_cases H:400<ref.size
 ·clear K
  go_enter bR,bW
  go_wp2
  refine bodyPost_ret (v:=.tuple #[.agg #[.string ⟨#[]⟩,.string ⟨#[]⟩],.slice none 0 0,.agg #[.int .i64 1,.int .i64 0]]) ?_ rfl ?_
  ·simp[results,bY,go_sem]
  ·refine⟨_,_,_,rfl,⟨_,_,_,rfl⟩,?_,fun h=>by simp at h⟩;exact((((((ai _ _).alloc (ae _) _).alloc (by simp) _).alloc (by simp;omega) _).alloc (by simp;omega) _).alloc (by simp;omega) _)
 ·have hb:=K.resolve_left H;clear K
  go_enter bR,bW
  go_wp2
  refine bodyPost_ret (v:=.tuple #[.agg #[.string ⟨#[]⟩,.string ⟨#[]⟩],.slice none 0 0,.agg #[.int .i64 1,.int .i64 0]]) ?_ rfl ?_
  ·simp[results,bY,go_sem]
  ·refine⟨_,_,_,rfl,⟨_,_,_,rfl⟩,?_,fun h=>by simp at h⟩;exact((((((ai _ _).alloc (ae _) _).alloc (by simp) _).alloc (by simp;omega) _).alloc (by simp;omega) _).alloc (by simp;omega) _)
theorem X4(ref reads:ByteArray)(w:World)(I:ref.size<=maxLen)(h2:reads.size<=maxLen):
  Calls Tryz.prog 58 #[.string ref,.string reads] w fun e w'=>Iu w ref reads (m_ ref reads) (y8 ref reads) (iX reads 5 0) e w':=by
 by_cases Y:400<ref.size\/600<reads.size
 ·have K:m_ ref _=1:=if_pos Y;have H:y8 ref _=0:=if_pos Y;rw[K,H];exact XD ref _ w I h2 Y
 ·have K:m_ ref _=((ku ref _).1):=if_neg Y;have H:y8 ref _=((ku ref _).2):=if_neg Y;rw[K,H];exact Xh ref _ w (by omega) (by omega)
def pE(len X k st b:Nat):=min (b *st+st+len+k) X
def looked(P X:ByteArray)(k q st:Nat)(t:Int)(b:Nat):Bool:=decide (t<=0)||decide (t<=(sJ P (X.extract (b *st) (pE P.size X.size k st b)) q:Int))
theorem om(n:Nat)(h:n<=9999):1<=(gR n).length/\(gR n).length<=4:=by
 by_cases I:n<=9
 ·rw[vR n I];simp
 rw[yD n I];by_cases h2:n/10<=9
 ·rw[vR _ h2];simp
 rw[yD _ h2];by_cases Y:n/10/10<=9
 ·rw[vR _ Y];simp
 rw[yD _ Y,vR _ (by omega)];simp
def stretches(X st:Nat):=(X+st-1)/st
theorem Ci(X st b:Nat)(K:1<=st):b *st<X↔b<stretches X st:=by
 unfold stretches;rw[Nat.lt_div_iff_mul_lt (by omega)];omega
def o_(len k q:Nat):Int:=(len:Int)-(q:Int)+1-((k *q:Nat):Int)
theorem N_(s:ByteArray):∀f acc st,acc.length<=200->st.1<=s.size->(nZ s f acc st).2.length<=200
 |0,acc,st,h,_=>h
 |f+1,acc,st,h,Y=>by
  simp[nZ];split
  ·refine N_ s f _ _ ?_ (uN s _ _ Y).2;have:=II s (200-acc.length) _ Y;have:=Aw s (200-acc.length) st.1;rw[af];omega
  omega
theorem Z4(s:ByteArray):(mY s).2.length<=200:=N_ s _ _ _ (by simp) (wi s 62 0 (by omega)).2
def jx(s:ByteArray)
 |0=>([],0)
 |i+1=>if i+1=s.size\/at8 s (i+1)≠at8 s i then((jx s i).1++gR ((jx s i).2+1)++[at8 s i],0)else((jx s i).1,(jx s i).2+1)
def py(s:ByteArray):=(jx s s.size).1
theorem I2(s:ByteArray):∀i,i<=9000->(jx s i).2<=i/\(jx s i).1.length<=5 *i
 |0,_=>by simp[jx]
 |i+1,h=>by
  have Y:=I2 s i (by omega);have hd:=om ((jx s i).2+1) (by omega);rw[jx];split
  ·simp;omega
  ·simp only;omega
theorem adp{s:ByteArray}{i:Nat}(h:i+1=s.size\/at8 s (i+1)≠at8 s i):jx s (i+1)=((jx s i).1++gR ((jx s i).2+1)++[at8 s i],0):=by rw[jx,if_pos h]
theorem afE{s:ByteArray}{i:Nat}(h:¬(i+1=s.size\/at8 s (i+1)≠at8 s i)):jx s (i+1)=((jx s i).1,(jx s i).2+1):=by rw[jx,if_neg h]
theorem toNat_ne{a b:UInt8}(h:a≠b):(a.toNat != (b.toNat:Int))=true:=by
 rw[bne_iff_ne];intro Y;exact h (UInt8.toNat.inj (by omega))
theorem toNat_eq{a b:UInt8}(h:a=b):((a.toNat:Int) != b.toNat)=false:=by simp_all
structure Df where
 o:List UInt8
 i:Nat
 j:Nat
 n:Nat
def uW(p t s:ByteArray)(x:Nat)(st:Df):Df:=
 if at8 s x=77 then(if ag (at8 p st.i) (at8 t st.j)=true then⟨st.o,st.i+1,st.j+1,st.n+1⟩else⟨st.o++gR st.n++[at8 t st.j],st.i+1,st.j+1,0⟩)
 else if at8 s x=73 then⟨st.o,st.i+1,st.j,st.n⟩
 else if x=0\/at8 s (x-1)≠68 then⟨st.o++gR st.n++[94]++[at8 t st.j],st.i,st.j+1,0⟩else⟨st.o++[at8 t st.j],st.i,st.j+1,st.n⟩
def ja(p t s:ByteArray):Nat->Df
 |0=>⟨[],0,0,0⟩
 |x+1=>uW p t s x (ja p t s x)
def oS(p t s:ByteArray):=(ja p t s s.size).o++gR (ja p t s s.size).n
theorem I3(p t s:ByteArray):∀x,x<=9000->(ja p t s x).i<=x/\(ja p t s x).j<=x/\(ja p t s x).n<=x/\(ja p t s x).o.length<=6 *x
 |0,_=>by simp[ja]
 |x+1,h=>by
  have Y:=I3 p t s x (by omega);have hd:=om (ja p t s x).n (by omega);simp only[ja,uW];split
  ·split
   ·simp only;omega
   ·simp;omega
  ·split
   ·simp only;omega
   ·split
    ·simp;omega
    ·simp only[af,bt,aI];omega
def Fits(p t s:ByteArray):=∀x,x<s.size->(at8 s x=77->(ja p t s x).i<p.size/\(ja p t s x).j<t.size)/\(at8 s x≠77->at8 s x≠73->(ja p t s x).j<t.size)
theorem adq(a:UInt8)(n:Nat)(K:n<256):(a.toNat==(n:Int))=decide (a=bh n):=by
 by_cases h:a=bh n
 ·rw[decide_eq_true h,h];simp only[beq_iff_eq];rw[cv];omega
 ·rw[decide_eq_false h];simp;intro Y;apply h;apply UInt8.toNat.inj;rw[cv];omega
def r5(c:UInt8):=c==77||c==73
def qC(c:UInt8):=c != 73
theorem ss(l:List _)(x:Nat):at8 (str l) x=l.getD x 0:=rfl
theorem RJ(s:ByteArray)(x:Nat)(h:x<s.size):s.data.toList.take (x+1)=s.data.toList.take x++[at8 s x]:=by
 have Y:x<s.data.toList.length:=by simpa using h
 rw[List.take_add_one,aU Y];unfold at8;rw[bN,aU Y];rfl
theorem RL(p t s:ByteArray):∀x,x<=s.size->(ja p t s x).i=(s.data.toList.take x).countP r5/\(ja p t s x).j=(s.data.toList.take x).countP qC
 |0,_=>by simp[ja]
 |x+1,h=>by
  have R:=RL p t s x (by omega);rw[RJ s x (by omega),aj,aj];simp only[ja,uW];by_cases K:at8 s x=77
  ·rw[if_pos K];have H:[at8 s x].countP r5=1:=by rw[K];rfl
   have D:[at8 s x].countP qC=1:=by rw[K];rfl
   split<;>simp only<;>omega
  ·rw[if_neg K];by_cases Y:at8 s x=73
   ·rw[if_pos Y];have H:[at8 s x].countP r5=1:=by rw[Y];rfl
    have D:[at8 s x].countP qC=0:=by rw[Y];rfl
    simp_all
   ·rw[if_neg Y];have H:[at8 s x].countP r5=0:=by simp[r5,K,Y]
    have D:[at8 s x].countP qC=1:=by simp[qC,Y]
    split<;>simp only<;>omega
theorem CA(p t:ByteArray):∀(f i j:Nat),i+j<=f->(iO p t f i j).countP r5=i/\(iO p t f i j).countP qC=j
 |0,i,j,h=>by
  have I:i=0:=by omega
  have h2:j=0:=by omega
  subst I h2;simp[iO]
 |f+1,i,j,h=>by
  rw[iO];by_cases A:i=0/\j=0
  ·simp_all
  ·rw[if_neg A];by_cases H:pJ p t i j=true
   ·rw[if_pos H];have U:=Di H;have Y:=CA p t f (i-1) (j-1) (by omega);rw[aj,aj,Y.1,Y.2];have D:[(77:UInt8)].countP r5=1:=rfl;have R:[(77:UInt8)].countP qC=1:=rfl;omega
   ·rw[if_neg H];by_cases K:oD p t i j=true
    ·rw[if_pos K];have U:=Dj K;have Y:=CA p t f (i-1) j (by omega);rw[aj,aj,Y.1,Y.2];have D:[(73:UInt8)].countP r5=1:=rfl;have R:[(73:UInt8)].countP qC=0:=rfl;omega
    ·rw[if_neg K];have U:=CX (by simpa using K) A;have Y:=CA p t f i (j-1) (by omega);rw[aj,aj,Y.1,Y.2];have D:[(68:UInt8)].countP r5=0:=rfl;have R:[68].countP qC=1:=rfl;omega
theorem abB(p t:ByteArray):Fits p t (str (iA p t)):=by
 intro x hx;have C:=CA p t _ p.size t.size (ae _);have H:=RL p t (str (iA p t)) x (by omega);have Y:=RJ _ x hx;have D:∀f,((str (iA p t)).data.toList.take (x+1)).countP f<=(iA p t).countP f:=fun f=>(List.take_sublist _ _).countP_le;have I:=D r5;have h2:=D qC;have A:iA p t=iO p t _ _ _:=rfl;rw[Y,aj]at I h2;rw[A]at I h2;rw[H.1,H.2];rw[A]at *;refine⟨fun K=>?_,fun K R=>?_⟩
 ·rw[K]at I h2;have B:[77].countP r5=1:=rfl;have U:[77].countP qC=1:=rfl;omega
 ·have U:[at8 (str (iO p t (p.size+t.size) p.size t.size)) x].countP qC=1:=by simp[qC,R]
  omega
def xO(s:ByteArray)
 |0=>[]
 |x+1=>xO s x++[at8 s (s.size-1-x)]
def jW(s:ByteArray):=xO s s.size
theorem QH(s:ByteArray):∀x,(xO s x).length=x
 |0=>rfl
 |x+1=>by rw[xO,af,QH s x];rfl
theorem Iv(s:ByteArray):∀x,x<=s.size->xO s x=(s.data.toList.drop (s.size-x)).reverse
 |0,_=>by simp[xO]
 |x+1,h=>by
  rw[xO,Iv s x (by omega)];have Y:s.size-(x+1)<s.data.toList.length:=by simp;omega
  rw[List.drop_eq_getElem_cons Y,List.reverse_cons,show s.size-(x+1)+1=s.size-x by omega];unfold at8;rw[show s.size-1-x=s.size-(x+1) by omega,bN,aU Y];rfl
theorem C8(s:ByteArray):jW s=s.data.toList.reverse:=by
 unfold jW;rw[Iv s _ (ae _)];simp
def pT(C:Array _)(n k:Nat):=(Array.range C.size).map fun x=>if x<n/\(x<k\/n<=x+k)then C.getD (n-1-x) undef else C.getD x undef
theorem tK(C:Array _)(n k:Nat):(pT C n k).size=C.size:=by simp[pT]
theorem tQ(C:Array _)(n k x:Nat)(h:x<C.size):(pT C n k)[x]?=some (if x<n/\(x<k\/n<=x+k)then C.getD (n-1-x) undef else C.getD x undef):=by
 simp[pT,h]
theorem adr(C:Array _)(n:Nat):pT C n 0=C:=by
 apply Array.ext
 ·exact tK C n 0
 ·intro i I h2;have:=tQ C n 0 i h2;rw[ah I]at this;rw[Option.some.inj this,if_neg (by omega)];simp[h2]
theorem ads(C:Array Value)(n k:Nat)(D:n<=C.size)(hk:k+1+k<n):((pT C n k).setIfInBounds k (C.getD (n-1-k) undef)).setIfInBounds (n-1-k) (C.getD k undef)=pT C n (k+1):=by
 apply Array.ext
 ·simp[tK]
 ·intro i I h2;have Y:i<C.size:=by rw[tK]at h2;exact h2
  have H:=tQ C n (k+1) i Y;rw[ah h2]at H;rw[Option.some.inj H];have K:=tQ C n k i Y;by_cases a1:i=n-1-k
  ·subst a1;rw[cB,if_pos (by omega),show n-1-(n-1-k)=k by omega]
  ·rw[cA (by simp_all) (fun h=>a1 h.symm)];by_cases a2:i=k
   ·subst a2;rw[cB,if_pos (by omega)]
   ·rw[cA (by rw[tK];exact Y) (fun h=>a2 h.symm)];rw[ah (by rw[tK];exact Y)]at K;rw[Option.some.inj K];by_cases c:i<n/\(i<k\/n<=i+k)
    ·rw[if_pos c,if_pos (by omega)]
    ·rw[if_neg c,if_neg (by omega)]
theorem yt{g:Nat}{c:Array _}{fz:Nat×Nat}(v:Value)(h:w.heap[g]?=some (.cells c e fz)):(w.setCell ⟨g,k,none⟩ v).heap[g]?=some (.cells (c.setIfInBounds k v) e fz):=by
 have K:=(bk.1 h).1;have Y:w.heap[g]=.cells c e fz:=by simp_all
 simp only[World.setCell];rw[ah (by simp_all),Array.getElem_modify_self,Y];rfl
theorem yA{g:Nat}{c:Array _}{fz:Nat×Nat}(h:w.heap[g]?=some (.cells c e fz))(hk:¬(fz.1<=k/\k<fz.2)):w.frozen? ⟨g,k,none⟩=false:=by
 simp[dJ,h];omega
theorem Oa(C:Array Value)(g n cap:Nat)(fz:Nat×Nat)(w:World)(hn:n<=1000)(V:n<=C.size)(D:∀k,k<n->¬(fz.1<=k/\k<fz.2))(hb:∀x,x<n->∃z:Int,C.getD x undef=.int .u8 z)(hw:w.heap[g]?=some (.cells C 5 fz)):
  Calls Tryz.prog 148 #[.slice (some ⟨g,0,none⟩) n cap] w fun e w'=>(∃v,e=.returned v)/\w'.heap[g]?=some (.cells (pT C n n) 5 fz)/\w.grownBy w' (some g):=by
 have J:=laid hb;have L:=laid D;clear D;have B:Hid (∀(W:World) (k:Nat),n<=k+1+k->W.heap[g]?=some (.cells (pT C n k) 5 fz)->W.heap[g]?=some (.cells (pT C n n) 5 fz)):=laid fun W k hk h=>by
  rw[h];congr 2;apply Array.ext
  ·simp[tK]
  ·intro i I h2;have O:i<C.size:=by rw[tK]at h2;exact h2
   have M:=tQ C n k i O;have N:=tQ C n n i O;rw[ah I]at M;rw[ah h2]at N;rw[Option.some.inj M,Option.some.inj N];by_cases c:i<n
   ·by_cases c2:i<k\/n<=i+k
    ·rw[if_pos ⟨c,c2⟩,if_pos ⟨c,.inl c⟩]
    ·rw[if_neg (by omega),if_pos ⟨c,.inl c⟩,show n-1-i=i by omega]
   ·rw[if_neg (by omega),if_neg (by omega)]
 have S:=laid hw;clear hb hw
 go_enter Tryz.func148,Tryz.ntmps148
 go_wp2
 go_loopw [2,3] (fun iv G wr=>∃k:Nat,iv=.int .i64 (k:Int)/\G=.int .i64 ((n:Int)-1-(k:Int))/\k<=n/\wr.heap[g]?=some (.cells (pT C n k) 5 fz)/\w.grownBy wr (some g)) (fun iv _ _=>n-(intOf iv).toNat)
 case atStart=>exact⟨0,rfl,by go_num,bA _,by rw[adr];exact S.out,World.grownBy.refl _ _⟩
 case round=>
  obtain⟨k,rfl,rfl,E,K,R⟩:=hrel;by_cases F:k+1+k<n
  ·have c1:(k:Int)<(n:Int)-1-(k:Int):=by omega
   obtain⟨m,U⟩:∃m:Nat,m=n-1-k:=⟨_,rfl⟩;have H:(n:Int)-1-(k:Int)=(m:Int):=by omega
   rw[H];rw[H]at c1;have s1:wr.cell? ⟨g,k,none⟩=some (C.getD k undef):=by
    rw[cell_of_row wr g k _ _ _ K,tQ C n k k (by omega),if_neg (by omega)]
   have q:wr.cell? ⟨g,m,none⟩=some (C.getD m undef):=by
    rw[cell_of_row wr g m _ _ _ K,tQ C n k m (by omega),if_neg (by omega)]
   have l:wr.frozen? ⟨g,k,none⟩=false:=yA K (L.out k (by omega));have z2:wr.frozen? ⟨g,m,none⟩=false:=yA K (L.out m (by omega));have j:(k:Int)<(n:Int):=by omega
   have d:(m:Int)<(n:Int):=by omega
   have f:IntKind.i64.wrap ((m:Int)-1)=(m:Int)-1:=IntWalk.i64_in _ (by omega);obtain⟨X,hX⟩:=J.out k (by omega);obtain⟨Y,A⟩:=J.out m (by omega);have Q:Hid ((((wr.setCell ⟨g,k,none⟩ (.int .u8 Y)).setCell ⟨g,m,none⟩ (.int .u8 X)).drew).heap[g]?=some (.cells (pT C n (k+1)) 5 fz)):=laid (by
    have I:=yt (k:=m) (.int .u8 X) (yt (k:=k) (.int .u8 Y) K);rw[<-hX,<-A,U,ads C n k V F]at I;rw[<-hX,<-A,U];exact I)
   rw[hX]at s1;rw[A]at q;have P:=laid U;have Z:k≠m:=by omega
   clear U H hX A K B;go_wp2_with fail
   go_region
   go_wp2
   go_roundw
   case rel=>go_light;exact⟨k+1,by go_num,by have:=P.out;congr 1;omega,by omega,Q.out,jq R (jq (jq (pW wr g k _) (pW _ g m _)) (nG _ 1 _))⟩
   case measure=>go_light;simp[intOf];omega
  ·have c1:¬(k:Int)<(n:Int)-1-(k:Int):=by omega
   have T:=laid (B.out wr k (by omega) K);clear B K;go_wp2
   go_end0
   exact⟨⟨_,rfl⟩,T.out,R⟩
theorem abC(l:List UInt8)(m:Nat):pT ((l.map bv).toArray++bm m (.int .u8 0)) l.length l.length=(l.reverse.map bv).toArray++bm m (.int .u8 0):=by
 apply Array.ext
 ·simp[tK]
 ·intro i I h2;have K:=by rw[tK]at I;exact I
  have Y:=tQ _ l.length l.length i K;rw[ah I]at Y;rw[Option.some.inj Y];by_cases c:i<l.length
  ·rw[if_pos ⟨c,.inl c⟩];simp[bJ,c,show l.length-1-i<l.length by omega];omega
  ·rw[if_neg (by omega)];rw[bJ,dif_pos K];simp[cy,c]
theorem Nt(s:ByteArray)(w:World)(L:s.size<=1000):
  Calls Tryz.prog 129 #[.string s] w fun e w'=>e=.returned (.string (str (jW s)))/\Below w.heap.size w w':=by
 have F:=fun w:World=>run_bytes_of_string (P:=Tryz.prog) w 9 79 5 s aH aD aN
 go_enter Tryz.func129,Tryz.ntmps129
 go_wp2_with fail
 have R:bytesRow s (grownCap w s.size 0 5)=(s.data.toList.map bv).toArray++bm (grownCap w s.size 0 5-s.size) (Value.int .u8 0):=by
  unfold bytesRow;congr 1;apply Array.ext<;>simp[bv]
 have H:s.data.toList.length=s.size:=by simp
 rw[R];have D:=fun o=>heap_alloc_new w.drew o;refine(Oa _ w.heap.size s.size _ _ _ L (by simp) (fun k hk=>by simp;omega) (fun x hx=>?_) (D _)).mono ?_
 ·have U:x<s.data.size:=hx;have J:x<((s.data.toList.map bv).toArray++bm (grownCap w s.size 0 5-s.size) (Value.int .u8 0)).size:=by simp;omega
  rw[bJ,dif_pos J];simp[cy,hx,U,bv]
 rintro e w2 ⟨⟨v,rfl⟩,h2,A⟩;rw[<-H,abC]at h2;have I:=by
  have:=run_convert_bytes_back (P:=Tryz.prog) w2 79 9 5 ⟨w.heap.size,0,none⟩ (grownCap w s.size 0 5) (jW s) aD aN aH (fun j B=>?_)
  ·rw[show(jW s).length=s.size by rw[C8];simp]at this;exact this
  ·rw[C8]at B;have C:(⟨w.heap.size,0,none⟩:Addr).add j=⟨w.heap.size,j,none⟩:=by unfold Addr.add;split<;>simp_all
   rw[C,cell_of_row w2 w.heap.size j _ _ _ h2];have K:=B;rw[Array.getElem?_append_left (by simpa using K),List.getElem?_toArray,List.getElem?_map,aU K];simp only[Option.map_some,bv];congr 4;simp only[C8]
 have Y:Below w.heap.size w w2:=by
  refine Below.grown ((Go.below_drewN (ai _ _) 1).alloc (ae _) _) A (by simp) ?_;intro k e;cases e;exact ae _
 go_wp2
 go_ret
 exact⟨rfl,Y⟩
theorem JG:(Tryz.prog.info? 131).map (·.size)=some 3:=by kernel_rfl
theorem Z5(rn rb rm:ByteArray)(w:World)(hb:rb.size<=200)(T:rm.size<=1000):
  Calls Tryz.prog 112 #[.agg #[.string rn,.string rb,.string rm]] w fun e w'=>e=.returned (.agg #[.string rn,.string (g_ rb 0),.string (str (jW rm))])/\Below w.heap.size w w':=by
 have Q:=laid (fun W:World=>P6 rb W hb);have P:=laid (fun W:World=>Nt rm W T);generalize g_ rb 0=OB at *;generalize str (jW rm)=O at *
 go_enter Tryz.func112,Tryz.ntmps112
 go_wp2_with fail
 obtain⟨w0,R,S⟩:∃w0:World,((w.alloc (.cells #[.string rn,.string rb,.string rm] 131)).alloc (.cells #[.string ⟨#[]⟩,.string ⟨#[]⟩,.string ⟨#[]⟩] 131))=w0/\w0.heap.size=w.heap.size+2:=⟨_,rfl,by simp⟩;have F:w0.heap[w.heap.size]?=some (.cells #[.string rn,.string rb,.string rm] 131 (0,0)):=by
  rw[<-R,heap_alloc_old _ _ (by simp)];exact heap_alloc_new w _
 have A:w0.heap[w.heap.size+1]?=some (.cells #[.string ⟨#[]⟩,.string ⟨#[]⟩,.string ⟨#[]⟩] 131 (0,0)):=by
  rw[<-R];have:=heap_alloc_new (w.alloc (.cells #[.string rn,.string rb,.string rm] 131)) (.cells #[.string ⟨#[]⟩,.string ⟨#[]⟩,.string ⟨#[]⟩] 131);simpa using this
 have M:Below w.heap.size w w0:=by rw[<-R];exact((ai _ _).alloc (ae _) _).alloc (by simp) _
 rw[R];clear R;have a0:w0.cell? ⟨w.heap.size,0,none⟩=some (.string rn):=by rw[cell_of_row w0 _ 0 _ _ _ F];rfl
 have a1:w0.cell? ⟨w.heap.size,1,none⟩=some (.string rb):=by rw[cell_of_row w0 _ 1 _ _ _ F];rfl
 have a2:w0.cell? ⟨w.heap.size,2,none⟩=some (.string rm):=by rw[cell_of_row w0 _ 2 _ _ _ F];rfl
 have c0:w0.cell? ⟨w.heap.size+1,0,none⟩=some (.string ⟨#[]⟩):=by rw[cell_of_row w0 _ 0 _ _ _ A];rfl
 have c1:w0.cell? ⟨w.heap.size+1,1,none⟩=some (.string ⟨#[]⟩):=by rw[cell_of_row w0 _ 1 _ _ _ A];rfl
 have c2:w0.cell? ⟨w.heap.size+1,2,none⟩=some (.string ⟨#[]⟩):=by rw[cell_of_row w0 _ 2 _ _ _ A];rfl
 have f0:w0.frozen? ⟨w.heap.size+1,0,none⟩=false:=yA A (by simp);have f1:w0.frozen? ⟨w.heap.size+1,1,none⟩=false:=yA A (by simp);have f2:w0.frozen? ⟨w.heap.size+1,2,none⟩=false:=yA A (by simp);have U:w.heap.size<w0.heap.size:=by omega
 have K:w.heap.size+1<w0.heap.size:=by omega
 have I:Hid (∀W:World,Below w0.drew.heap.size w0.drew W->W.heap[w.heap.size+1]?=some (.cells #[.string ⟨#[]⟩,.string ⟨#[]⟩,.string ⟨#[]⟩] 131 (0,0))):=laid fun W H=>by rw[H.block _ K];exact A
 clear F A;have J:Hid (∀W:World,Below w0.drew.heap.size w0.drew W->W.cell? ⟨w.heap.size,0,none⟩=some (.string rn)/\W.cell? ⟨w.heap.size,1,none⟩=some (.string rb)/\W.cell? ⟨w.heap.size,2,none⟩=some (.string rm)):=laid fun W H=>⟨by rw[H.cell (p:=⟨w.heap.size,0,none⟩) U];exact a0,by rw[H.cell (p:=⟨w.heap.size,1,none⟩) U];exact a1,by rw[H.cell (p:=⟨w.heap.size,2,none⟩) U];exact a2⟩;have B:Hid (∀W:World,Below w0.drew.heap.size w0.drew W->W.cell? ⟨w.heap.size+1,0,none⟩=some (.string ⟨#[]⟩)/\W.cell? ⟨w.heap.size+1,1,none⟩=some (.string ⟨#[]⟩)/\W.cell? ⟨w.heap.size+1,2,none⟩=some (.string ⟨#[]⟩)/\W.frozen? ⟨w.heap.size+1,0,none⟩=false/\W.frozen? ⟨w.heap.size+1,1,none⟩=false/\W.frozen? ⟨w.heap.size+1,2,none⟩=false):=laid fun W H=>⟨by rw[H.cell (p:=⟨w.heap.size+1,0,none⟩) K];exact c0,by rw[H.cell (p:=⟨w.heap.size+1,1,none⟩) K];exact c1,by rw[H.cell (p:=⟨w.heap.size+1,2,none⟩) K];exact c2,by rw[H.frozen (p:=⟨w.heap.size+1,0,none⟩) K];exact f0,by rw[H.frozen (p:=⟨w.heap.size+1,1,none⟩) K];exact f1,by rw[H.frozen (p:=⟨w.heap.size+1,2,none⟩) K];exact f2⟩;clear c0 c1 c2 f0 f1 f2
 go_region_law
  (first
   |(go_simp;go_at_call 51;refine(Q.out _).mono ?_;rintro e w' ⟨rfl,Y⟩;obtain⟨V,d1,d2⟩:=J.out _ Y)
   |(go_simp;go_at_call 129;refine(P.out _).mono ?_;rintro e N ⟨rfl,D⟩;obtain⟨g0,g1,X,Z,E,G⟩:=B.out _ (Y.trans (D.mono Y.size));obtain⟨q,j,z⟩:=J.out _ (Y.trans (D.mono Y.size))))
 all_goals
  have L:Hid (Below w.heap.size w (((N.setCell ⟨w.heap.size+1,0,none⟩ (.string rn)).setCell ⟨w.heap.size+1,1,none⟩ (.string OB)).setCell ⟨w.heap.size+1,2,none⟩ (.string O))):=laid (((((Go.below_drewN M 1).trans (Y.mono (by simp;omega))).trans (D.mono (by have:=Y.size;simp at this;omega))).setCell (p:=⟨w.heap.size+1,0,none⟩) (by simp) _|>.setCell (p:=⟨w.heap.size+1,1,none⟩) (by simp) _).setCell (p:=⟨w.heap.size+1,2,none⟩) (by simp) _);have C:=yt (k:=2) (.string O) (yt (k:=1) (.string OB) (yt (k:=0) (.string rn) (I.out _ (Y.trans (D.mono Y.size)))));clear Q P J B I Y D;go_wp2
  (try simp only[Exit.inBlock,Exit.then])
  refine bodyPost_ret (results_cell_row rfl _ _ (w.heap.size+1) _ _ _ _ rfl C Tryz.underlying131 rfl JG) rfl ?_;exact⟨rfl,L.out⟩
theorem Dq(p t:ByteArray)(k:Nat):∀n,n<=t.size+1->∀h∈jC p t k n,h.1<=h.2.1/\h.2.1<=t.size/\h.2.2<=k
 |0,_,h,Y=>by simp[jC]at Y
 |e+1,H,h,Y=>by
  have K:=Dq p t k e (by omega);rw[jC]at Y;split at Y
  ·rename_i hb;rw[List.mem_append,List.mem_singleton]at Y;rcases Y with Y|Y
   ·exact K h Y
   ·subst Y;have:=GJ p t k e (tries p k e);exact⟨this,by simp_all,hb⟩
  ·exact K h Y
def zw(D rn p mk t K:ByteArray)(n s d:Nat):=
 rn.data.toList++[9]++gR n++[9]++D.data.toList++[9]++gR (s+1)++[9]++py K++[9]++gR d++[9]++oS p t K++[9]++p.data.toList++[9]++mk.data.toList++[10]
def w_(D K rn p mk:ByteArray)(n:Nat)(h:Nat×Nat×Nat):=
 zw D rn p mk (K.extract h.1 h.2.1) (str (iA p (K.extract h.1 h.2.1))) n h.1 h.2.2
def nL(add:Nat)(more:Bool)(i:Nat):=if more=true\/0<i then add+256 else add
def qu(D K rn p mk:ByteArray)(add:Nat)(more:Bool)(L:List (Nat×Nat×Nat)):Nat->List UInt8
 |0=>[]
 |i+1=>qu D K rn p mk add more L i++w_ D K rn p mk (nL add more i) (L.getD i (0,0,0))
def sz(D K rn p mk:ByteArray)(add k:Nat)(more:Bool):=qu D K rn p mk add more (iE p K k) (iE p K k).length
theorem Px(s:ByteArray)(h:s.size<=9000):(py s).length<=5 *s.size:=(I2 s _ h).2
theorem QI(p t s:ByteArray)(h:s.size<=9000):(oS p t s).length<=6 *s.size+4:=by
 have I:=I3 p t s _ h;have h2:=om (ja p t s s.size).n (by omega);unfold oS;rw[af];omega
theorem QJ(D K rn p mk:ByteArray)(add:Nat)(more:Bool)(L:List (Nat×Nat×Nat))(B:D.size<=1000)(U:K.size<=300)(A:rn.size<=1000)(M:p.size<=100)(R:mk.size<=1000)(F:add<=1000)
  (C:∀h∈L,h.1<=h.2.1/\h.2.1<=K.size/\h.2.2<=1000):∀i,i<=L.length->(qu D K rn p mk add more L i).length<=20000 *i
 |0,_=>by simp[qu]
 |i+1,T=>by
  have V:=QJ D K rn p mk add more L B U A M R F C i (by omega);rw[qu,af];have S:=C (L.getD i (0,0,0)) (by rw[bN,aU (by omega)];exact List.getElem_mem _);generalize L.getD i _=h at *;have J:(K.extract h.1 h.2.1).size<=300:=by rw[ByteArray.size_extract];omega
  have gq:=Ib p (K.extract h.1 h.2.1);have I:(str _).size=(iA p (K.extract h.1 h.2.1)).length:=gV _;have H:=Px (str (iA p (K.extract h.1 h.2.1))) (by omega);have Y:=QI p (K.extract h.1 h.2.1) (str (iA p (K.extract h.1 h.2.1))) (by omega);have d1:=om (nL add more i) (by unfold nL;split<;>omega);have d2:=om (h.1+1) (by omega);have d3:=om h.2.2 (by omega);unfold w_ zw;simp;have N:rn.data.size=rn.size:=rfl;have O:D.data.size=D.size:=rfl;have P:p.data.size=p.size:=rfl;have Q:mk.data.size=mk.size:=rfl;omega
abbrev mM:=ByteArray×ByteArray×ByteArray
def qi(D K:ByteArray)(k:Nat)(r:mM):=sz D K r.1 r.2.1 r.2.2 0 k false
def rN(D K:ByteArray)(k:Nat)(r:mM):=sz D K r.1 (g_ r.2.1 0) (str (jW r.2.2)) 16 k (decide (qi D K k r≠ []))
def xx(r:mM):=r.1.data.toList++[9,52,9,42,9,48,9,42,9,45,9,45,9]++r.2.1.data.toList++[9]++r.2.2.data.toList++[10]
def qb(D K:ByteArray)(k:Nat)(r:mM):=
 (if qi D K k r=[]/\rN D K k r=[]then xx r else qi D K k r)++rN D K k r
def rE(D K:ByteArray):=[64]++D.data.toList++[9]++gR K.size++[10]
def oa(D K:ByteArray)(k:Nat)(L:List mM)
 |0=>rE D K
 |i+1=>oa D K k L i++qb D K k (L.getD i (⟨#[]⟩,⟨#[]⟩,⟨#[]⟩))
def mo(ref reads:ByteArray)(k:Nat):=
 oa (wW ref) (str (mY ref).2) k (iX reads 5 0) (iX reads 5 0).length
def fewer(L:List mM)(k:Int):Bool:=L.all fun r=>decide (k<(r.2.1.size:Int))
def nk(ref reads:ByteArray)(k q step wk:Int):=
 if m_ ref reads≠0 then m_ ref reads else if xc k 30 q step=false\/wk<1\/8<wk then 4 else if fewer (iX reads 5 0) k=false then 4 else 0
def qv(ref reads:ByteArray)(k q step wk:Int):=if nk ref reads k q step wk=0 then str (mo ref reads k.toNat)else⟨#[]⟩
def vs(ref reads:ByteArray):=if m_ ref reads≠0 then y8 ref reads else 0
theorem Py(s:ByteArray)(st:Nat×Bool):(sH s st).size<=10:=by
 unfold sH;split
 ·decide
 ·unfold cut;have:=(rA lh (rest s st.1) 10).1;rw[gV,bQ];omega
theorem X5(s:ByteArray)(m p:Nat):(sI s m p).size<=m:=by
 unfold sI zo;have:=Aw s m p;rw[gV,bO,bQ];omega
theorem abD(s:ByteArray)(st:Nat×Bool):(zp s 30 st).size<=30:=by
 unfold zp;split
 ·decide
 ·exact X5 s 30 _
theorem abE(s:ByteArray)(K:Nat)(st:Nat×Bool):(xD s K st).size<=K:=by
 unfold xD;split
 ·exact bA _
 ·unfold cut;have:=(rA kG (rest s st.1) K).1;rw[gV,bQ];omega
theorem Z6(s:ByteArray)(p:Nat):(uZ s p).1.size<=10/\(uZ s p).2.1.size<=30/\(uZ s p).2.2.size<=30:=by
 have h2:(nP s p).size<=30:=abD s _;refine⟨Py s _,h2,?_⟩;have:=abE s (nP s p).size (sU s p);show(xD s _ _).size<=30
 omega
theorem Ng(s:ByteArray):∀n p,∀r∈iX s n p,r.1.size<=10/\r.2.1.size<=30/\r.2.2.size<=30
 |0,_,r,h=>by simp[iX]at h
 |n+1,p,r,h=>by
  rw[iX]at h;split at h
  ·simp at h
  ·rw[List.mem_cons]at h;rcases h with rfl|h
   ·exact Z6 s p
   ·split at h
    ·simp at h
    ·exact Ng s n _ r h
theorem Nu(s:ByteArray):∀n p,(iX s n p).length<=n
 |0,_=>by simp[iX]
 |n+1,p=>by
  rw[iX];split
  ·simp
  ·rw[bt];split
   ·simp
   ·have:=Nu s n (lP s p).1;omega
theorem OT(B K rn p mk:ByteArray)(add k:Nat)(more:Bool)(U:B.size<=1000)(A:K.size<=300)(R:rn.size<=1000)(F:p.size<=100)(D:mk.size<=1000)(C:add<=1000)(hk:k<=1000):(sz B K rn p mk add k more).length<=7000000:=by
 have I:(iE p K k).length<=301:=by have:=yo p K k (K.size+1);unfold iE;omega
 have h2:=QJ B K rn p mk add more (iE p K k) U A R F D C (fun h Y=>by have:=Dq p K k _ (ae _) h Y;omega) _ (ae _);unfold sz;omega
theorem ahw{reads:ByteArray}(h:m_ ref reads=0):ref.size<=400/\reads.size<=600/\(lX ref).2=false/\(kY reads 5 0).2=false:=by
 unfold m_ at h;split at h
 ·omega
 ·unfold ku at h;split at h
  ·omega
  ·split at h
   ·omega
   ·simp_all
theorem adt{L:List mM}(K:i<L.length):L.getD i (⟨#[]⟩,⟨#[]⟩,⟨#[]⟩)∈L:=by simp_all
theorem abF(A R:ByteArray)(k:Nat)(r:mM)(D:A.size<=1000)(K:R.size<=300)(hr:r.1.size<=10/\r.2.1.size<=30/\r.2.2.size<=30)(hk:k<=100):(qi A R k r).length<=7000000:=
 OT A R r.1 _ _ 0 k _ D K (by omega) (by omega) (by omega) (by omega) (by omega)
theorem Pz(s:ByteArray):(str (jW s)).size=s.size:=by rw[gV,jW,QH]
theorem abG(A R:ByteArray)(k:Nat)(r:mM)(D:A.size<=1000)(K:R.size<=300)(hr:r.1.size<=10/\r.2.1.size<=30/\r.2.2.size<=30)(hk:k<=100):(rN A R k r).length<=7000000:=
 OT A R r.1 _ _ 16 k _ D K (by omega) (by have:=Ct r.2.1 0;omega) (by rw[Pz];omega) (by omega) (by omega)
theorem abH(r:mM)(hr:r.1.size<=10/\r.2.1.size<=30/\r.2.2.size<=30):(xx r).length<=1000:=by
 unfold xx;have Y:r.1.data.size=r.1.size:=rfl;have K:r.2.1.data.size=r.2.1.size:=rfl;have H:r.2.2.data.size=r.2.2.size:=rfl;simp only[af,bt,aI,cC];omega
theorem GL(A R:ByteArray)(k:Nat)(r:mM)(D:A.size<=1000)(K:R.size<=300)(hr:r.1.size<=10/\r.2.1.size<=30/\r.2.2.size<=30)(hk:k<=100):(qb A R k r).length<=15000000:=by
 have I:=abF A R k r D K hr hk;have h2:=abG A R k r D K hr hk;have Y:=abH r hr;unfold qb;rw[af];split<;>omega
theorem HY(K A:ByteArray)(k:Nat)(L:List mM)(R:K.size<=1000)(D:A.size<=300)(U:∀r∈L,r.1.size<=10/\r.2.1.size<=30/\r.2.2.size<=30)(hk:k<=100):∀i,i<=L.length->(oa K A k L i).length<=2000+15000000 *i
 |0,_=>by
  have:=om A.size (by omega);have e:K.data.size=K.size:=rfl;simp only[oa,rE,af,bt,aI,cC];omega
 |i+1,h=>by
  have Y:=HY K A k L R D U hk i (by omega);have hr:=GL K A k (L.getD i _) R D (U _ (adt (by omega))) hk;rw[oa,af];omega
def gP(c:UInt8):Prop:=iM c=true/\gb c=c
def iF(x:List UInt8):List UInt8:=[62,114,10]++x++[10]
def iG(n:Nat):List UInt8:=(List.range n).map fun i=>bh (33+i)
def iH(b:List UInt8):List UInt8:=[64,97,10]++b++[10,43,10]++iG b.length++[10]
theorem nY(n:Nat):(iG n).length=n:=by simp[iG]
theorem RP(h:n<=30):∀c∈iG n,kG c=true:=by
 intro c Y;obtain⟨i,K,rfl⟩:=cO.1 Y;have:i<n:=by simpa using K
 have e:(33+i)%256=33+i:=by omega
 simp only[kG,EC,cv,e,decide_eq_true_eq];omega
theorem wy(A B:List UInt8):rest (str (A++B)) A.length=B:=by simp[rest,str]
theorem uL(A B:List UInt8)(c:UInt8):h_ (str (A++c::B)) c A.length=(A.length+1,false):=by
 have h:A.length<(str (A++c::B)).size:=by rw[gV];simp
 have e:(str (A++c::B))[A.length]=c:=by simp[ByteArray.getElem_eq_getElem_data,str]
 rw[h_,dif_pos h,if_pos e]
theorem Ap(f:UInt8->Bool):∀(x:List UInt8) (B:List UInt8) (m:Nat),(∀c∈x,f c=true)->x.length<=m->(∀c K,B=c::K->f c=true->x.length=m)->iy f (x++B) m=x.length
 |[],B,m,_,_,Y=>by
  cases B with
  |nil=>rw[aJ,Oq];rfl
  |cons c K=>
   cases m with
   |zero=>rw[GO];rfl
   |succ m=>
    rw[aJ,pV];split
    ·rename_i h;have:=Y c K rfl h;simp at this
    ·rfl
 |y::x,B,0,_,H,_=>by simp at H
 |y::x,B,m+1,hx,H,Y=>by
  rw[bq,pV,if_pos (hx y (by simp)),Ap f x B m (fun c D=>hx c (by simp[D])) (by simpa using H) (fun c K e h=>by have:=Y c K e h;simpa using this)];rfl
theorem HZ(f:UInt8->Bool)(A x B:List UInt8)(l m:Nat)(hx:∀c∈x,f c=true)(I:l<=x.length)(h2:x.length<=m)(D:∀c K,B=c::K->f c=true->x.length=m):lF (str (A++(x++B))) f l m A.length=(A.length+x.length,false):=by
 rw[lF,wy,Ap f x B m hx h2 D];simp;omega
theorem ahx:iM 10=false:=by decide
theorem ahy:lh 10=false:=by decide
theorem H0(A x B:List UInt8)(m:Nat)(hx:∀c∈x,gP c)(I:1<=x.length)(h2:x.length<=m):jd (str (A++(x++10::B))) m A.length=(A.length+x.length+1,false)/\jR (str (A++(x++10::B))) m A.length=x.length/\sQ (str (A++(x++10::B))) m A.length=x:=by
 have hb:∀c K,10::B=c::K->iM c=true->x.length=m:=fun c K e h=>by cases e;rw[ahx]at h;cases h
 have H:jR (str (A++(x++10::B))) m A.length=x.length:=by rw[jR,wy,Ap iM x _ m (fun c Y=>(hx c Y).1) h2 hb]
 refine⟨?_,H,?_⟩
 ·rw[jd,HZ iM A x _ 1 m (fun c Y=>(hx c Y).1) I h2 hb,kK rfl];have:=uL (A++x) B 10;rw[cM,af]at this;exact this
 ·rw[sQ,wy,H,cQ]
  ·exact(List.map_congr_left fun c Y=>(hx c Y).2).trans (List.map_id _)
  ·rfl
theorem H2(A B:List UInt8)(c:UInt8)(K:lh c=true):qO (str (A++c::10::B)) A.length=(A.length+2,false)/\iy lh (rest (str (A++c::10::B)) A.length) 10=1:=by
 have hb:∀d Y,10::B=d::Y->lh d=true->[c].length=10:=fun d Y e h=>by cases e;rw[ahy]at h;cases h
 have hx:∀d∈[c],lh d=true:=by simpa using K
 refine⟨?_,?_⟩
 ·have h:=HZ lh A [c] (10::B) 1 10 hx (by simp) (by simp) hb;rw[qO];simp only[bq,aJ,bP]at h;rw[h,kK rfl];have:=uL (A++[c]) B 10;simpa using this
 ·rw[wy];exact Ap lh [c] (10::B) 10 hx (by simp) hb
section
variable{x:List UInt8}(hx:∀c∈x,gP c)(I:1<=x.length)(h2:x.length<=200)
theorem RQ(x:List UInt8):iF x=[62,114,10]++(x++10:: []):=by simp[iF]
include hx I h2
theorem PA:iC (h_ (str (iF x)) 62 0) (qO (str (iF x)))=(3,false):=by
 have a:=uL [] (114::10::(x++[10])) 62;have b:=(H2 [62] (x++[10]) 114 (by decide)).1;simp only[aJ,aI,bq,bP]at a b;rw[show iF x=62::114::10::(x++[10]) by simp[iF],a,kK rfl];exact b
theorem Z8:mY (str (iF x))=((x.length+4,false),x):=by
 obtain⟨l1,_,K⟩:=H0 [62,114,10] x [] 200 hx I h2;have Y:(str (iF x)).size=x.length+4:=by rw[gV];simp[iF]
 rw[mY,Y,PA hx I h2,nZ,if_pos ⟨rfl,.inl rfl⟩];simp only[aI,Nat.sub_zero,aJ];rw[RQ]at Y⊢;have H:([62,114,10]:List UInt8).length=3:=rfl;rw[H]at l1 K;rw[l1,K,nZ,if_neg]
 ·simp;omega
 ·rintro⟨_,h|h⟩
  ·rw[h]at I;simp at I
  ·rw[Y]at h;simp at h;omega
theorem adu:(lX (str (iF x))).2=false:=by
 obtain⟨l1,l2,_⟩:=H0 [62,114,10] x [] 200 hx I h2;have D:([62,114,10]:List UInt8).length=3:=rfl;have Y:=PA hx I h2;obtain⟨H,R⟩:=r9 (by rw[Y]:(iC (h_ (str (iF x)) 62 0) (qO (str (iF x)))).2=false);rw[kK H]at Y;have K:(str (iF x)).size=x.length+4:=by rw[gV];simp[iF]
 rw[lX,kK H,kK R,Y,K];rw[RQ]at K⊢;rw[D]at l1 l2;rw[l1,l2,kK rfl,xb,if_pos (by rw[K];simp;omega)]
theorem YN:wW (str (iF x))=⟨#[114]⟩:=by
 have a:=uL [] (114::10::(x++[10])) 62;have b:=(H2 [62] (x++[10]) 114 (by decide)).2;have c:=wy [62] (114::10::(x++[10]));simp only[aJ,aI,bq,bP]at a b c;rw[show iF x=62::114::10::(x++[10]) by simp[iF],wW,sH,a,if_neg (by simp),cut];simp only[Nat.zero_add];rw[b,c];rfl
end
section
variable{b:List UInt8}(hb:∀c∈b,gP c)(I:1<=b.length)(h2:b.length<=30)
include hb I h2
theorem adv(A B:List UInt8):lP (str (A++(iH b++B))) A.length=(A.length+(iH b).length,false)/\uZ (str (A++(iH b++B))) A.length=(⟨#[97]⟩,str b,str (iG b.length)):=by
 obtain⟨s,Y⟩:∃s,s=str (A++(iH b++B)):=⟨_,rfl⟩;have f1:s=str (A++64::(97::10::(b++10::43::10::(iG b.length++10::B)))):=by rw[Y];simp[iH]
 have f2:s=str ((A++[64])++97::10::(b++10::43::10::(iG b.length++10::B))):=by rw[Y];simp[iH]
 have M:s=str ((A++[64,97,10])++(b++10::(43::10::(iG b.length++10::B)))):=by rw[Y];simp[iH]
 have N:s=str ((A++[64,97,10]++b++[10])++43::(10::(iG b.length++10::B))):=by rw[Y];simp[iH]
 have f5:s=str ((A++[64,97,10]++b++[10,43])++10::(iG b.length++10::B)):=by rw[Y];simp[iH]
 have f6:s=str ((A++[64,97,10]++b++[10,43,10])++(iG b.length++10::B)):=by rw[Y];simp[iH]
 have f7:s=str ((A++[64,97,10]++b++[10,43,10]++iG b.length)++10::B):=by rw[Y];simp[iH]
 have g1:=uL A (97::10::(b++10::43::10::(iG b.length++10::B))) 64;have R:=H2 (A++[64]) (b++10::43::10::(iG b.length++10::B)) 97 (by decide);have K:=wy (A++[64]) (97::10::(b++10::43::10::(iG b.length++10::B)));have D:=H0 (A++[64,97,10]) b (43::10::(iG b.length++10::B)) 30 hb I h2;have U:=uL (A++[64,97,10]++b++[10]) (10::(iG b.length++10::B)) 43;have C:=uL (A++[64,97,10]++b++[10,43]) (iG b.length++10::B) 10;have F:=HZ kG (A++[64,97,10]++b++[10,43,10]) (iG b.length) (10::B) b.length b.length (RP h2) (by rw[nY];exact ae _) (by rw[nY];exact ae _) (fun _ _ _ _=>nY _);have H:=wy (A++[64,97,10]++b++[10,43,10]) (iG b.length++10::B);have J:=uL (A++[64,97,10]++b++[10,43,10]++iG b.length) B 10;rw[<-f1]at g1;rw[<-f2]at R K;rw[<-M]at D;rw[<-N]at U;rw[<-f5]at C;rw[<-f6]at F H;rw[<-f7]at J;rw[<-Y];have n1:(A++[64]).length=A.length+1:=by simp
 have n3:(A++[64,97,10]).length=A.length+1+2:=by simp
 have Q:(A++[64,97,10]++b++[10]).length=A.length+1+2+b.length+1:=by simp;omega
 have S:(A++[64,97,10]++b++[10,43]).length=A.length+1+2+b.length+1+1:=by simp;omega
 have L:(A++[64,97,10]++b++[10,43,10]).length=A.length+1+2+b.length+1+1+1:=by simp;omega
 have T:(A++[64,97,10]++b++[10,43,10]++iG b.length).length=A.length+1+2+b.length+1+1+1+b.length:=by simp[nY];omega
 rw[n1]at R K;rw[n3]at D;rw[Q]at U;rw[S]at C;rw[L,nY]at F;rw[L]at H;rw[T]at J;have r2:nB s A.length=(A.length+1+2,false):=by rw[nB,vu,g1,kK rfl,R.1]
 have O:nP s A.length=str b:=by rw[nP,zp,r2,if_neg (by simp),Re,D.2.2]
 have X:sU s A.length=(A.length+1+2+b.length+1+1+1,false):=by
  have r3:vv s A.length=(A.length+1+2+b.length+1,false):=by rw[vv,r2,kK rfl,D.1]
  have V:vw s A.length=(A.length+1+2+b.length+1+1,false):=by rw[vw,r3,kK rfl,U]
  rw[sU,V,kK rfl,C]
 refine⟨?_,?_⟩
 ·have P:(iH b).length=1+2+b.length+1+1+1+b.length+1:=by simp[iH,nY];omega
  rw[lP,g1,kK rfl,R.1,kK rfl,D.1,kK rfl,U,kK rfl,C,kK rfl,D.2.1,F,kK rfl,J,P];simp;omega
 ·rw[uZ,O,sH,xD,vu,g1,X,if_neg (by simp),if_neg (by simp),cut,cut];simp only;rw[R.2,K,gV,H,Ap kG (iG b.length) (10::B) b.length (RP h2) (by rw[nY];exact ae _) (fun _ _ _ _=>nY _),nY,cS,cS,cQ (nY _)];rfl
end
def kN(c:Int)(n:Nat):Nat:=(if c<0 then-(c+1)else c).toNat%n
theorem wN(c:Int)(h:0<n):kN c n<n:=Nat.mod_lt _ h
def k_(c:Int):Prop:= -9223372036854775808<=c/\c<=9223372036854775807
theorem adw{c:Int}(h:c<0): -(c+1).tmod (n:Int)=(kN c n:Nat):=by
 unfold kN;rw[if_pos h,<-Int.neg_tmod,Int.tmod_eq_emod_of_nonneg (by omega),cI,cJ (by omega)]
theorem adx{c:Int}(h:0<=c):c%(n:Int)=(kN c n:Nat):=by
 unfold kN;rw[if_neg (by omega),cI,cJ h]
theorem QK(c:Int)(n:Nat)(w:World)(K:k_ c)(I:1<=n)(h2:n<=1000):
  Calls Tryz.prog 19 #[.int .i64 c,.int .i64 n] w fun e w'=>e=.returned (.int .i64 (kN c n:Nat))/\w'=w:=by
 obtain⟨c1,c2⟩:=K;by_cases h:c<0
 ·go_enter Tryz.func19,dc
  go_wp2
  go_ret
  exact⟨congrArg Ending.returned (iY (adw h)),rfl⟩
 ·go_enter Tryz.func19,dc
  go_wp2
  go_ret
  exact⟨congrArg Ending.returned (iY (adx h)),rfl⟩
theorem afF(x:List UInt8)(w:World)(hx:x.length<=1000):
  Calls Tryz.prog 23 #[.string (str x)] w fun e w'=>e=.returned (.string (str (iF x)))/\w'=w:=by
 have Y:(str x).size<=1000:=hx
 go_enter Tryz.func23,Tryz.ntmps23
 go_wp2
 go_ret
 refine⟨congrArg Ending.returned (AD ?_),rfl⟩;exact(congrArg (· ++str [10]) (pX [62,114,10] x)).trans (pX _ _)
theorem ady(w:World)(c:Int):(convert 79 9 (.slice (some ⟨w.heap.size,0,none⟩) 1 1)).run Tryz.prog (w.alloc (.cells #[.int .u8 c] 5))=.ok (.string ⟨#[bh c.toNat]⟩) (w.alloc (.cells #[.int .u8 c] 5)):=by
 rw[run_convert_bytes_string _ _ _ 5 _ _ _ (by kernel_rfl) (by kernel_rfl) (by kernel_rfl),run_bytesToString _ _ _ _ [c]]
 ·rfl
 ·have h:(w.alloc (.cells #[.int .u8 c] 5)).cell? ⟨w.heap.size,0,none⟩=some (.int .u8 c):=by rw[cell_of_row _ _ 0 _ _ _ (heap_alloc_new w _)];rfl
  simp[loadCells,go_sem,h]
theorem abI(n:Nat):iG (n+1)=iG n++[bh (33+n)]:=by simp[iG,cP]
theorem abJ(n:Nat)(w:World)(D:n<=60):
  Calls Tryz.prog 30 #[.int .i64 n] w fun e w'=>e=.returned (.string (str (iG n)))/\Below w.heap.size w w':=by
 go_enter Tryz.func30,Tryz.ntmps30
 go_wp2
 go_loopw [3,4] (fun t i wr=>∃k:Nat,k<=n/\i=.int .i64 k/\t=.string (str (iG k))/\Below w.heap.size w wr) (fun _ i _=>n-(intOf i).toNat)
 case atStart=>exact⟨0,bA _,rfl,rfl,ai _ _⟩
 case round=>
  obtain⟨k,hk,rfl,rfl,Y⟩:=hrel;have H:(str (iG k)).size<=60:=by rw[gV,nY];omega
  by_cases K:k<n
  ·have I:=ady wr (33+(k:Int));have h2:∀o,Below w.heap.size w (wr.alloc o):=fun o=>Y.alloc Y.size o;go_wp2
   go_roundw
   case rel=>go_light;exact⟨k+1,by omega,by go_num,AD (by rw[abI,<-H_,UInt8.ofNat_add];rfl),h2 _⟩
   case measure=>go_light;simp[intOf];omega
  ·go_wp2
   go_ret
   obtain rfl:k=n:=by omega
   exact⟨rfl,Y⟩
theorem adz(b:List UInt8)(w:World)(hb:b.length<=60):
  Calls Tryz.prog 24 #[.string (str b)] w fun e w'=>e=.returned (.string (str (iH b)))/\Below w.heap.size w w':=by
 have R:(str b).size=b.length:=rfl;have D:(str (iG b.length)).size=b.length:=by rw[gV,nY]
 go_enter Tryz.func24,Tryz.ntmps24
 go_wp2_with fail
 refine(abJ b.length _ hb).mono ?_;rintro e w1 ⟨rfl,Y⟩;go_wp2
 go_ret
 refine⟨congrArg Ending.returned (AD ?_),Y⟩;have I:=pX [64,97,10] b;have h2:=pX ([64,97,10]++b) [10,43,10];have H:=pX ([64,97,10]++b++[10,43,10]) (iG b.length);have K:=pX ([64,97,10]++b++[10,43,10]++iG b.length) [10];rw[<-H,<-h2,<-I]at K;exact K
def Ba(z:Int):UInt8:=if kN z 25=24 then 78 else [65,67,71,84].getD (kN z 25%4) 0
def iS(zs:Nat->Int)(n:Nat):List UInt8:=(List.range n).map fun i=>Ba (zs i)
theorem sb(zs:Nat->Int)(n:Nat):(iS zs n).length=n:=by simp[iS]
theorem Z9(zs:Nat->Int)(n:Nat):iS zs (n+1)=iS zs n++[Ba (zs n)]:=by simp[iS,cP]
theorem adA(z:Int):gP (Ba z):=by
 unfold Ba;split
 ·exact⟨by decide,by decide⟩
 ·have:=Nat.mod_lt (kN z 25) (show 0<4 by decide);generalize kN z 25%4=j at this;have:j=0\/j=1\/j=2\/j=3:=by omega
  rcases this with rfl|rfl|rfl|rfl<;>exact⟨by decide,by decide⟩
theorem C9(zs:Nat->Int)(n:Nat):∀c∈iS zs n,gP c:=by
 intro c Y;obtain⟨i,_,rfl⟩:=cO.1 Y;exact adA _
def pq(w:World)(a:Option Addr)(len:Nat)(zs:Nat->Int):Prop:=
 len=0\/∃b off,a=some ⟨b,off,none⟩/\len<=maxLen/\∀i,i<len->w.cell? ⟨b,off+i,none⟩=some (.int .i64 (zs i))/\k_ (zs i)
def Uq(p t:ByteArray)(i:Nat)(r:Nat->Nat):Nat->Nat
 |0=>i+1
 |j+1=>min (min (r j+cost p t i j) (r (j+1)+1)) (Uq p t i r j+1)
def dS(p t:ByteArray):Nat->Nat->Nat
 |0=>fun j=>j
 |i+1=>Uq p t i (dS p t i)
theorem xy(p t:ByteArray):∀i j,dT p t i j=dS p t i j
 |0,j=>by rw[dT];rfl
 |i+1,0=>by rw[dT];rfl
 |i+1,j+1=>by
  rw[dT,xy p t i j,xy p t i (j+1),xy p t (i+1) j];rfl
def Kf(p t:ByteArray):Nat:=dS p t p.size t.size
def xA(p t:ByteArray)(k e:Nat):Nat->Nat×Nat
 |0=>(k+1,0)
 |c+1=>if Kf p (t.extract (e-c) e)<(xA p t k e c).1 then(Kf p (t.extract (e-c) e),e-c)else xA p t k e c
def zk(p t:ByteArray)(k:Nat):Nat->List (Nat×Nat×Nat)
 |0=>[]
 |e+1=>if(xA p t k e (tries p k e)).1<=k then zk p t k e++[((xA p t k e (tries p k e)).2,e,(xA p t k e (tries p k e)).1)]else zk p t k e
def xP(p t:ByteArray):Nat->Nat->Nat->List UInt8
 |0,_,_=>[]
 |f+1,i,j=>if i=0/\j=0 then []else if(decide (0<i)&&decide (0<j)&&decide (dS p t i j=dS p t (i-1) (j-1)+cost p t (i-1) (j-1)))=true then xP p t f (i-1) (j-1)++[77]else if(decide (0<i)&&decide (dS p t i j=dS p t (i-1) j+1))=true then xP p t f (i-1) j++[73]else xP p t f i (j-1)++[68]
theorem ahz(p t:ByteArray):jf p t=Kf p t:=xy p t _ _
theorem SI(p t:ByteArray)(k e:Nat):∀c,nK p t k e c=xA p t k e c
 |0=>rfl
 |c+1=>by rw[nK,xA,SI p t k e c,ahz]
theorem SJ(p t:ByteArray)(k:Nat):∀e,jC p t k e=zk p t k e
 |0=>rfl
 |e+1=>by rw[jC,zk,SJ p t k e,gX,SI]
theorem Ev(p t:ByteArray):∀f i j,iO p t f i j=xP p t f i j
 |0,_,_=>rfl
 |f+1,i,j=>by rw[iO,xP,Ev p t f,Ev p t f,Ev p t f,pJ,oD,xy,xy,xy]
section
variable(H:ByteArray->ByteArray->Nat->List (Nat×Nat×Nat))(Y:ByteArray->ByteArray->List UInt8)
def F_(D K rn p mk:ByteArray)(add:Nat)(more:Bool)(L:List (Nat×Nat×Nat)):Nat->List UInt8
 |0=>[]
 |i+1=>F_ D K rn p mk add more L i++zw D rn p mk (K.extract (L.getD i (0,0,0)).1 (L.getD i (0,0,0)).2.1) (str (Y p (K.extract (L.getD i (0,0,0)).1 (L.getD i (0,0,0)).2.1))) (nL add more i) (L.getD i (0,0,0)).1 (L.getD i (0,0,0)).2.2
def JH(D K rn p mk:ByteArray)(add k:Nat)(more:Bool):List UInt8:=F_ Y D K rn p mk add more (H p K k) (H p K k).length
def Kg(D K:ByteArray)(k:Nat)(r:mM):List UInt8:=
 let a:=JH H Y D K r.1 r.2.1 r.2.2 0 k false
 let b:=JH H Y D K r.1 (g_ r.2.1 0) (str (jW r.2.2)) 16 k (decide (a≠ []))
 (if a=[]/\b=[]then xx r else a)++b
def EO(D K:ByteArray)(k:Nat)(L:List mM):Nat->List UInt8
 |0=>rE D K
 |i+1=>EO D K k L i++Kg H Y D K k (L.getD i (⟨#[]⟩,⟨#[]⟩,⟨#[]⟩))
end
theorem Ur(D K rn p mk:ByteArray)(add:Nat)(more:Bool)(L:List (Nat×Nat×Nat)):∀i,qu D K rn p mk add more L i=F_ iA D K rn p mk add more L i
 |0=>rfl
 |i+1=>by rw[qu,F_,Ur D K rn p mk add more L i];rfl
theorem afG(D K rn p mk:ByteArray)(add k:Nat)(more:Bool):sz D K rn p mk add k more=JH iE iA D K rn p mk add k more:=Ur ..
theorem ahA(D K:ByteArray)(k:Nat)(r:mM):qb D K k r=Kg iE iA D K k r:=by
 simp only[qb,Kg,rN,qi,afG]
theorem Ty(D K:ByteArray)(k:Nat)(L:List mM):∀i,oa D K k L i=EO iE iA D K k L i
 |0=>rfl
 |i+1=>by rw[oa,EO,Ty D K k L i,ahA]
theorem afH:iE=fun p t k=>zk p t k (t.size+1):=by funext p t k;exact SJ p t k _
theorem ahB:iA=fun p t=>xP p t (p.size+t.size) p.size t.size:=by funext p t;exact Ev p t _ _ _
theorem QL(ref reads:ByteArray)(k:Nat):mo ref reads k=EO (fun p t k=>zk p t k (t.size+1)) (fun p t=>xP p t (p.size+t.size) p.size t.size) (wW ref) (str (mY ref).2) k (iX reads 5 0) (iX reads 5 0).length:=by
 rw[mo,Ty,afH,ahB]
def vM:ByteArray:=⟨#[62,114,10,65,67,71,84,65,67,71,84,84,84,10]⟩
def Gb:ByteArray:=⟨#[64,97,10,71,84,65,10,43,10,49,50,51,10]⟩
def EP:ByteArray:=⟨#[64,97,10,71,71,84,65,10,43,10,49,50,51,52,10]⟩
abbrev Ms:ByteArray:={data:=#[64,114,9,49,48,10,97,9,48,9,114,9,51,9,51,77,9,48,9,51,9,71,84,65,9,49,50,51,10,97,9,50,55,50,9,114,9,52,9,51,77,9,48,9,51,9,84,65,67,9,51,50,49,10]}
abbrev Mt:ByteArray:={data:=([64,114,9,49,48,10,97,9,48,9,114,9,51,9,49,73,51,77,9,49,9,51,9,71,71,84,65,9,49,50,51,52,10,97,9,50,55,50,9,114,9,52,9,50,77,49].append [73,49,77,9,49,9,51,9,84,65,67,67,9,52,51,50,49,10,97,9,50,55,50,9,114,9,52,9,52,77,9,49,9,51,71,48,9,84,65,67,67,9,52,51,50,49,10]).toArray}
theorem Us:nk vM Gb 0 2 4 3=0:=by kernel_rfl
theorem Ut:nk vM EP 1 1 3 2=0:=by kernel_rfl
theorem akH:qv vM Gb 0 2 4 3=Ms:=by
 rw[qv,if_pos Us,QL];kernel_rfl
theorem akI:qv vM EP 1 1 3 2=Mt:=by
 rw[qv,if_pos Ut,QL];kernel_rfl
end
end Go.Proofs.YtdcjnhipenbcfaaGreatDoor
