/-
  Own text. Part 6 of what the claim rests on.
-/
import Derived.Laws.Bits64
import Derived.Test.YtdcjnhipenbcfaaGreatDoorProg
import Derived.Conc.CompanyMem
import Derived.Test.YtdcjnhipenbcfaaGreatDoorPk5
set_option linter.unusedVariables false
set_option linter.unusedSectionVars false
set_option linter.unusedSimpArgs false
set_option maxRecDepth 100000
set_option maxHeartbeats 16000000
open Array renaming all_eq_true_iff_forall_mem->alG,mem_of_getElem?->alI,getElem?_eq_getElem->alJ,getElem?_map->alQ,getElem?_eq_none->alU,getD_eq_getD_getElem?->alY,getElem?_eq_some_iff->alZ,ext->amh
open Bool renaming and_eq_true->alB,or_eq_true->al4
open Exists renaming intro->al3
open Go.Frame renaming enter->alH
open Go.Instr renaming mapUpdate->amg
open Go.IntKind renaming i64->alP,wrap_u64->amd
open Go.Made renaming reckonStruct->alK,reckon->alR,infoAt->al9
open Go.Proofs.Tryz renaming prog->alF,f140->alM
open Go.Proofs.YtdcjnhipenbcfaaGreatDoor.Ph.Tz renaming pure->alE,one->alL
open Go.Region renaming wanted->ama,noSelect->amf
open Go.World renaming cell?->al7
open List renaming range->alN,all_eq_true->al1,getElem?_eq_none->al_,getElem?_take->amb
open Nat renaming lt_of_not_le->alO,le_refl->al8,lt_of_lt_of_le->amc,strongRecOn->ame
open Option renaming bind_eq_some_iff->alA,map_eq_some_iff->alT
open Option.some renaming inj->alX
namespace Go.Proofs.YtdcjnhipenbcfaaGreatDoor
variable {ad:Addr}{main rd:Bool}{f:Frame}{fn:FuncId}{g1:Goroutine}{z:Int}{cs:List Frame}{L R ks:List Nat}{B Wg cc fuel i id m n wt:Nat}{qH:Nat->Nat->Prop}{S X':Nat->Prop}{y:Operand}{ow:Option Nat}{s t:TypeId}{u v work:Value}{v0 w:World}
namespace Ph
open Conc Ren
theorem sI{P:Program}{cs:List _}{g:FuncId}{k:IntKind}(X:cG P g (Extern.Atomic.loadT (.int k))){v:Int}(h:ahead f=some (g,#[.pointer (some ad)]))(hc:w.cell? ad=some (.int k v)):
  stepG P main (G f cs) w=.go (G (f.finish (.int k v)) cs) w #[⟨.cell ad,false,true⟩]:=by
 obtain⟨o,ars,SO,ho,bg,Xd⟩:=fO h;obtain⟨fn,h1,h2,h3,h4,h5⟩:=X.ex;obtain⟨x,rfl⟩:∃x,ars=#[x]:=by
  have:=by have:=congrArg Array.size Xd;simpa using this
  refine⟨ars[0],?_⟩;apply amh
  ·omega
  ·simp_all
 have hx:=by simpa using Xd
 exact conv ho fun ops i rest kk hi hw hk=>stepG_load_atomic hi hw hk bg h1 h2 h3 h4 k h5 hx hc
theorem Il{P:Program}{g:FuncId}{k:IntKind}(X:cG P g Extern.Atomic.storeT){v:Int}(h:ahead f=some (g,#[.pointer (some ad),.int k v]))(hc:w.cell? ad=some u)(hz:w.frozen? ad=false):
  stepG P main (G f cs) w=.go (G (f.finish (.tuple #[])) cs) (w.setCell ad (.int k v)) #[⟨.cell ad,true,true⟩]:=by
 obtain⟨o,ars,SO,ho,bg,Xd⟩:=fO h;obtain⟨fn,h1,h2,h3,h4,h5⟩:=X.ex;obtain⟨x,y,rfl⟩:∃x y,ars=#[x,y]:=by
  have hs:=by have:=congrArg Array.size Xd;simpa using this
  refine⟨ars[0],ars[1],?_⟩;apply amh
  ·omega
  ·intro i hi eO;have:i=0\/i=1:=by omega
   rcases this with rfl|rfl<;>rfl
 have hx:=by simpa using Xd
 exact conv ho fun ops i rest kk hi hw hk=>stepG_store_atomic hi hw hk bg h1 h2 h3 h4 h5 hx.1 hx.2 hc hz
theorem sub_one{v:Nat}(hv:v<=8)(hwt:wt<=1):IntKind.u64.wrap ((((v+1) *4294967296+wt:Nat))+18446744069414584320)=((v *4294967296+wt:Nat)):=by
 rw[amd];omega
theorem ahc{v:Nat}(hv:v<=8)(hwt:wt<=1)(h:¬(v=0/\wt=1)):v *4294967296+wt∈zs:=by
 have h1:v=0\/v=1\/v=2\/v=3\/v=4\/v=5\/v=6\/v=7\/v=8:=by omega
 have h2:wt=0\/wt=1:=by omega
 rcases h1 with rfl|rfl|rfl|rfl|rfl|rfl|rfl|rfl|rfl<;>rcases h2 with rfl|rfl<;>first|(exact absurd ⟨rfl,rfl⟩ h)|(simp[zs])
namespace Env
theorem jK{P:Program}{Q:Goroutine->Prop}:∀n0 {n:Nat} {f:Frame} {l:List _},rj P Q n (G (bD P n0 f l).1 (bD P n0 f l).2)->∃n',rj P Q n' (G f l)
 |0,n,f,l,h=>⟨n,h⟩
 |n0+1,n,f,l,h=>by
  unfold bD at h;split at h
  ·rename_i f1 l1 e;obtain⟨n',h'⟩:=jK n0 h;exact⟨n'+1,rfl,_,fun w=>fX e,h'⟩
  ·exact⟨n,h⟩
theorem XV{E:Env}{A:(Nat->Prop)->(Nat->Prop)->Goroutine->World->Prop}{X:Nat->Prop}{tmps:Array _}{todo:List _}(hS:S E.Wg)(k:Nat)(hF:E.ui w):
  E.Tree PR false (E.eJ PR A k .wr) S X (G (DA0 E.Wg (jJ tmps todo) [bot]).1 (DA0 E.Wg (jJ tmps todo) [bot]).2) w:=by
 refine alL rfl fun w2 fU=>?_;have vC:=hF.rely hS fU;obtain⟨v0,hv0⟩:=vC.cell0;refine⟨_,w2,#[],S,X,iz da0 acH Ij i212 hv0,aL S X w2,alE 60 fun w3 bV=>?_⟩;refine .stop ?_;cases k with
 |zero=>trivial
 |succ k=>
  refine⟨rfl,rfl,fun w4 lQ=>⟨G _ _,iy (by simp) agU da1,jK 60 (n:=0) ?_⟩⟩;refine⟨rfl,G _ _,fun w6=>dO (by simp) T2 da2,?_⟩;have h3:∃n,rj PR (E.EW PR 3) n (G (DA3 E.Wg (jJ tmps todo) [bot]).1 (DA3 E.Wg (jJ tmps todo) [bot]).2):=by
   obtain⟨n,hn⟩:∃n,rj PR (E.EW PR 3) n (G ((DA3 E.Wg (jJ tmps todo) [bot]).1.finish (.bool false)) (DA3 E.Wg (jJ tmps todo) [bot]).2):=by
    refine jK 90 (n:=0) ?_;refine⟨rfl,fun wA v wt hv hwt hG=>?_⟩;have aA:=uf (main:=false) (cs:=(DA4 E.Wg (jJ tmps todo) [bot]).2) ag9 (da4 (c:=jJ tmps todo) (cs:=[bot])) hG.cell0 (hG.thaw 0);rw[sub_one hv hwt]at aA;refine⟨_,_,_,aA,hG.oJ v wt,Eff.set _ _ _ _,EvA.two _ _ (by omega),fun hx=>?_,fun hx=>?_⟩
    ·obtain⟨rfl,rfl⟩:=hx;refine jK 300 (n:=0) ?_;refine⟨rfl,fun wC hG=>⟨_,_,sI acG da5 hG.cell0,EvA.one _ _ _ (by omega),jK 300 (n:=0) ?_⟩⟩;refine⟨rfl,fun wE hG=>⟨_,_,_,Il an9 da6 hG.cell0 (hG.thaw 0),hG.oJ 0 0,Eff.set _ _ _ _,EvA.one _ _ _ (by omega),jK 300 (n:=0) ?_⟩⟩;refine⟨rfl,wc aha da7,fun wG hG=>?_⟩;have aA:=kD (main:=false) (cs:=(DA7 E.Wg (jJ tmps todo) [bot]).2) aha (da7 (c:=jJ tmps todo) (cs:=[bot])) rfl hG.qh (hG.thaw 1);refine⟨_,_,_,aA,hG.yT 1,Eff.set _ _ _ _,EvA.sem _ _ (by omega),?_⟩;have:=Ik (r:=DA8 E.Wg (jJ tmps todo) _) acL acM;obtain⟨q,hq⟩:=this;exact oL 300 hq
    ·have dU:=ahc hv hwt hx;obtain⟨q,hq⟩:=Ik (pP acJ dU) (pP acK dU);exact oL 300 hq
   exact⟨n+1,rfl,_,fun w8=>Dh ag8 da3,hn⟩
  obtain⟨n,hn⟩:=h3;exact jK 60 hn
end Env
section
variable(Wg:Nat)(c:Frame)(cs:List Frame)
noncomputable def AA0:Frame×List Frame:=bD PR 60 (alH PR 157 #[ptr Wg,.int .i64 1] .normal) (c::cs)
noncomputable def AA1:Frame×List Frame:=bD PR 60 ((AA0 Wg c cs).1.finish unit) (AA0 Wg c cs).2
noncomputable def AA2:Frame×List Frame:=bD PR 90 ((AA1 Wg c cs).1.finish (.bool false)) (AA1 Wg c cs).2
noncomputable def XW (z:Int):Frame×List Frame:=bD PR 300 ((AA2 Wg c cs).1.finish (.int .u64 z)) (AA2 Wg c cs).2
noncomputable def AA4:Frame×List Frame:=bD PR 60 ((XW Wg c cs 4294967296).1.finish (.pointer (some ⟨Wg,1,none⟩))) (XW Wg c cs 4294967296).2
noncomputable def AA5:Frame×List Frame:=bD PR 300 ((AA4 Wg c cs).1.finish unit) (AA4 Wg c cs).2
noncomputable def WW0:Frame×List Frame:=bD PR 60 (alH PR 159 #[ptr Wg] .normal) (c::cs)
noncomputable def WWh:Frame×List Frame:=Aq PR 60 ((WW0 Wg c cs).1.finish unit) (WW0 Wg c cs).2
end
section
variable{Wg:Nat}{c:Frame}{cs:List Frame}
theorem aa0:ahead (AA0 Wg c cs).1=some (169,#[]):=by kernel_rfl
theorem aa1:ahead (AA1 Wg c cs).1=some (171,#[]):=by kernel_rfl
theorem aa2:ahead (AA2 Wg c cs).1=some (200,#[ptr Wg,.int .u64 4294967296]):=by kernel_rfl
theorem aa3:kE (XW Wg c cs 4294967296).1=some (227,159,.pointer (some ⟨Wg,1,none⟩)):=by kernel_rfl
theorem aa4:ahead (AA4 Wg c cs).1=some (176,#[.pointer (some ⟨Wg,1,none⟩)]):=by kernel_rfl
theorem aa5:((AA5 Wg c cs).1.mode,(AA5 Wg c cs).1.roundOf,(AA5 Wg c cs).1.defers)=(.returning,none,[dcall 170 #[]]):=by kernel_rfl
theorem aoe:bD PR 1 {(AA5 Wg c cs).1 with defers:=[]} (AA5 Wg c cs).2=(c.finish unit,cs):=by kernel_rfl
def zA:List Nat:=[8589934592,12884901888,17179869184,21474836480,25769803776,30064771072,34359738368]
theorem acN:(zA.map fun z:Nat=>((XW Wg c cs (z:Int)).1.mode,(XW Wg c cs (z:Int)).1.roundOf,(XW Wg c cs (z:Int)).1.defers))=zA.map fun z:Nat=>(.returning,none,[dcall 170 #[]]):=by kernel_rfl
theorem acO:(zA.map fun z:Nat=>bD PR 1 {(XW Wg c cs (z:Int)).1 with defers:=[]} (XW Wg c cs (z:Int)).2)=zA.map fun z:Nat=>(c.finish unit,cs):=by kernel_rfl
theorem ww0:ahead (WW0 Wg c cs).1=some (169,#[]):=by kernel_rfl
end
theorem ahe:PR.underlying 227=some (.pointer 185):=by simp
theorem i185:(PR.info? 185).map (fun i=>decide (i.size=0))=some false:=by kernel_rfl
noncomputable def Oh:List Item:=(WWh 0 bot []).1.todo
def alV(Wg:Nat):List (Nat×Value):=[(0,ptr Wg)]
section
variable(Wg:Nat)(c:Frame)(cs:List Frame)(j:Nat->Value)
noncomputable def WL1:Frame×List Frame:=bD PR 60 (zj 159 84 Oh (sA (alV Wg)) j) (c::cs)
noncomputable def T5 (z:Int):Frame×List Frame:=bD PR 300 ((WL1 Wg c cs j).1.finish (.int .u64 z)) (WL1 Wg c cs j).2
noncomputable def WL3 (z:Int):Frame×List Frame:=bD PR 300 ((T5 Wg c cs j z).1.finish (.bool true)) (T5 Wg c cs j z).2
noncomputable def WLf (z:Int):Frame×List Frame:=Aq PR 300 ((T5 Wg c cs j z).1.finish (.bool false)) (T5 Wg c cs j z).2
noncomputable def WL4 (z:Int):Frame×List Frame:=bD PR 300 ((WL3 Wg c cs j z).1.finish (.pointer (some ⟨Wg,1,none⟩))) (WL3 Wg c cs j z).2
noncomputable def WL5 (z:Int):Frame×List Frame:=bD PR 300 ((WL4 Wg c cs j z).1.finish unit) (WL4 Wg c cs j z).2
noncomputable def WL6 (z:Int):Frame×List Frame:=bD PR 300 ((WL5 Wg c cs j z).1.finish unit) (WL5 Wg c cs j z).2
noncomputable def WL7 (z:Int):Frame×List Frame:=bD PR 300 ((WL6 Wg c cs j z).1.finish (.int .u64 0)) (WL6 Wg c cs j z).2
noncomputable def WL8 (z:Int):Frame×List Frame:=bD PR 300 ((WL7 Wg c cs j z).1.finish unit) (WL7 Wg c cs j z).2
noncomputable def WL9 (z:Int):Frame×List Frame:=bD PR 300 ((WL8 Wg c cs j z).1.finish (ptr Wg)) (WL8 Wg c cs j z).2
noncomputable def WZ8:Frame×List Frame:=bD PR 300 ((T5 Wg c cs j 0).1.finish unit) (T5 Wg c cs j 0).2
noncomputable def WZ9:Frame×List Frame:=bD PR 300 ((WZ8 Wg c cs j).1.finish (ptr Wg)) (WZ8 Wg c cs j).2
end
def zW:List Nat:=[4294967296,8589934592,12884901888,17179869184,21474836480,25769803776,30064771072,34359738368]
section
variable{Wg:Nat}{c:Frame}{cs:List Frame}{j:Nat->Value}
theorem wwh:look [0] (WWh Wg c cs)=bh 159 84 (c::cs) Oh (alV Wg) none none:=by kernel_rfl
theorem wl1:ahead (WL1 Wg c cs j).1=some (201,#[ptr Wg]):=by kernel_rfl
theorem aop:ahead (T5 Wg c cs j 0).1=some (170,#[]):=by kernel_rfl
theorem wl2:(zW.map fun z:Nat=>ahead (T5 Wg c cs j (z:Int)).1)=zW.map fun z:Nat=>some (203,#[ptr Wg,.int .u64 (z:Int),.int .u64 (z+1:Int)]):=by kernel_rfl
theorem wlf:(zW.map fun z:Nat=>look [0] (WLf Wg c cs j (z:Int)))=zW.map fun z:Nat=>bh 159 84 (c::cs) Oh (alV Wg) none none:=by kernel_rfl
theorem wl3:(zW.map fun z:Nat=>kE (WL3 Wg c cs j (z:Int)).1)=zW.map fun z:Nat=>some (227,159,.pointer (some ⟨Wg,1,none⟩)):=by kernel_rfl
theorem wl4:(zW.map fun z:Nat=>ahead (WL4 Wg c cs j (z:Int)).1)=zW.map fun z:Nat=>some (185,#[.pointer (some ⟨Wg,1,none⟩)]):=by kernel_rfl
theorem wl5:(zW.map fun z:Nat=>ahead (WL5 Wg c cs j (z:Int)).1)=zW.map fun z:Nat=>some (186,#[.pointer (some ⟨Wg,1,none⟩),.bool false]):=by kernel_rfl
theorem wl6:(zW.map fun z:Nat=>ahead (WL6 Wg c cs j (z:Int)).1)=zW.map fun z:Nat=>some (201,#[ptr Wg]):=by kernel_rfl
theorem wl7:(zW.map fun z:Nat=>ahead (WL7 Wg c cs j (z:Int)).1)=zW.map fun z:Nat=>some (170,#[]):=by kernel_rfl
theorem wl8:(zW.map fun z:Nat=>kE (WL8 Wg c cs j (z:Int)).1)=zW.map fun z:Nat=>some (216,159,ptr Wg):=by kernel_rfl
theorem wl9:(zW.map fun z:Nat=>ahead (WL9 Wg c cs j (z:Int)).1)=zW.map fun z:Nat=>some (182,#[ptr Wg]):=by kernel_rfl
theorem wz8:kE (WZ8 Wg c cs j).1=some (216,159,ptr Wg):=by kernel_rfl
theorem wz9:ahead (WZ9 Wg c cs j).1=some (182,#[ptr Wg]):=by kernel_rfl
end
theorem add_one{v:Nat}(hv:v<=8):IntKind.u64.wrap (((v *4294967296+0:Nat))+4294967296)=(((v+1) *4294967296+0:Nat)):=by
 rw[amd];omega
theorem ahf{v:Nat}(h1:1<=v)(h8:v<8):(v+1) *4294967296+0∈zA:=by
 have:v=1\/v=2\/v=3\/v=4\/v=5\/v=6\/v=7:=by omega
 rcases this with rfl|rfl|rfl|rfl|rfl|rfl|rfl<;>simp[zA]
theorem ahg{v:Nat}(h1:v≠0)(h8:v<=8):v *4294967296+0∈zW:=by
 have:v=1\/v=2\/v=3\/v=4\/v=5\/v=6\/v=7\/v=8:=by omega
 rcases this with rfl|rfl|rfl|rfl|rfl|rfl|rfl|rfl<;>simp[zW]
section
variable{Wg:Nat}{c:Frame}{cs:List Frame}{j:Nat->Value}
theorem aoq:(zW.map fun z:Nat=>bD PR 10 ((WL9 Wg c cs j (z:Int)).1.finish unit) (WL9 Wg c cs j z).2)=zW.map fun z:Nat=>(c.finish unit,cs):=by kernel_rfl
theorem aor:bD PR 20 ((WZ9 Wg c cs j).1.finish unit) (WZ9 Wg c cs j).2=(c.finish unit,cs):=by kernel_rfl
end
namespace Env
structure KnM(E:Env)(S:Nat->Prop)(Fx:World->Prop):Prop where
 rely:∀{w w2:World},Fx w->aP E.U S w w2->Fx w2
 wg:∀{w:World},Fx w->E.ui w
 Ap:∀{w w1:World} {v wt ws v' eP eI:Nat},Fx w->E.WgAt w v wt ws->Eff E.Wg w w1->E.WgAt w1 v' eP eI->Fx w1
section
variable{E:Env}{J:jf}{uk:Nat->Goroutine->World->Prop}{Fin:(Nat->Prop)->(Nat->Prop)->Goroutine->World->Prop}{S X:Nat->Prop}{Fx:World->Prop}{c:Frame}{cs:List Frame}
theorem XY(K:E.KnM S Fx){ch:Nat}(hL:L.length<8)(hgo:∀k w,Fx w->E.Tree PR true (E.lh PR J uk Fin k (.go L ch)) S X (G (c.finish unit) cs) w)(k:Nat)(hF:Fx w):
  E.Tree PR true (E.lh PR J uk Fin k (.st L)) S X (G (alH PR 157 #[ptr E.Wg,.int .i64 1] .normal) (c::cs)) w:=by
 have out:∀(r:Frame×List _) (k:Nat) (w:World),(r.1.mode,r.1.roundOf,r.1.defers)=(.returning,none,[dcall 170 #[]])->bD PR 1 {r.1 with defers:=[]} r.2=(c.finish unit,cs)->Fx w->E.Tree PR true (E.lh PR J uk Fin k (.a4 L ch)) S X (G r.1 r.2) w:=by
  intro r k w h1 h2 hF;refine .stop ?_;cases k with
  |zero=>trivial
  |succ k=>
   simp at h1;refine⟨rfl,rfl,fun w2 hr=>⟨G _ r.2,yf (by simp) h1.1 h1.2.1 h1.2.2 LX,alE 1 fun w3 bV=>?_⟩⟩;rw[h2];exact hgo k w3 (K.rely (K.rely hF hr) bV)
 refine alE 60 fun w1 dE=>?_;have zm:=K.rely hF dE;refine .stop ?_;cases k with
 |zero=>trivial
 |succ k=>
  refine⟨rfl,rfl,ch,fun w2 fU=>⟨G _ _,dO (by simp) T2 aa0,alE 60 fun w3 bV=>?_⟩⟩;have wY:=K.rely (K.rely zm fU) bV;refine alL rfl fun w4 lQ=>⟨G _ _,w4,#[],S,X,Dh ag8 aa1,aL S X w4,alE 90 fun w5 lT=>?_⟩;have Qb:=K.rely (K.rely wY lQ) lT;refine .stop ?_;cases k with
  |zero=>trivial
  |succ k=>
   refine⟨rfl,rfl,fun w6 tC hG=>?_⟩;have aA:=uf (main:=true) (cs:=(AA2 E.Wg c cs).2) ag9 (aa2 (c:=c) (cs:=cs)) hG.cell0 (hG.thaw 0);rw[add_one (by omega)]at aA;have L3:=K.Ap (K.rely Qb tC) hG (Eff.set _ _ _ _) (hG.oJ (L.length+1) 0);refine⟨_,_,_,aA,hG.oJ _ 0,Eff.set _ _ _ _,EvA.two _ _ (by omega),?_⟩;by_cases hL0:L=[]
   ·subst hL0;refine alE 300 fun w7 pW=>?_;have hF7:=K.rely L3 pW;refine alL rfl fun w8 CO=>?_;have hF8:=K.rely hF7 CO;obtain⟨v1,hv1⟩:=(K.wg hF8).qh;refine⟨_,w8,#[],S,X,iz aa3 ahe Ij i185 hv1,aL S X w8,alE 60 fun w9 L4=>?_⟩;have hF9:=K.rely hF8 L4;refine .stop ?_;cases k with
    |zero=>trivial
    |succ k=>
     refine⟨rfl,rfl,fun wA BR=>⟨G _ _,iy (by simp) an_ aa4,alE 300 fun wB Qe=>?_⟩⟩;change E.Tree PR _ _ S X (G (AA5 E.Wg c cs).1 _) wB;exact out _ k wB aa5 aoe (K.rely (K.rely hF9 BR) Qe)
   ·rw[if_neg hL0];refine alE 300 fun w7 pW=>?_;change E.Tree PR _ _ S X (G (XW _ c cs _).1 _) w7;have hm:=ahf (by
     cases L with
     |nil=>exact absurd rfl hL0
     |cons a l=>simp) hL
    exact out _ k w7 (pP acN hm) (pP acO hm) (K.rely L3 pW)
theorem XZ(K:E.KnM S Fx)(aou:∀(n:Nat) (f:Frame) (l:List Frame) (w:World),Fx w->bD PR n f l=(c.finish unit,cs)->Fin S X (G f l) w)(k:Nat)(hF:Fx w):
  E.Tree PR true (E.lh PR J uk Fin k .kd) S X (G (alH PR 159 #[ptr E.Wg] .normal) (c::cs)) w:=by
 have last:∀(r:Frame×List Frame) (n k:Nat) (w:World),ahead r.1=some (182,#[ptr E.Wg])->bD PR n (r.1.finish unit) r.2=(c.finish unit,cs)->Fx w->E.Tree PR true (E.lh PR J uk Fin k .aq) S X (G r.1 r.2) w:=by
  intro r n k w h1 h2 hF;refine .stop ?_;cases k with
  |zero=>trivial
  |succ k=>exact⟨rfl,rfl,fun w2 hr=>⟨G (r.1.finish unit) r.2,iy (by simp) agT h1,aou n _ _ w2 (K.rely hF hr) h2⟩⟩
 have head:∀(k:Nat) (j:Nat->Value) (w:World),Fx w->E.Tree PR true (E.lh PR J uk Fin k .w1) S X (G (zj 159 84 Oh (sA (alV E.Wg)) j) (c::cs)) w:=by
  intro k;induction k using ame with
  |_ k ih=>
  intro j w hF;refine alE 60 fun w1 dE=>?_;have zm:=K.rely hF dE;refine .stop ?_;cases k with
  |zero=>trivial
  |succ k=>
   refine⟨rfl,rfl,fun w2 v fU hv hG=>?_⟩;have vC:=K.rely zm fU;refine⟨_,_,sI acG wl1 hG.cell0,EvA.one _ _ _ (by omega),fun h0=>?_,fun h0=>?_⟩
   ·subst h0;refine alE 300 fun w3 bV=>?_;have wY:=K.rely vC bV;refine .stop ?_;cases k with
    |zero=>trivial
    |succ k=>
     refine⟨rfl,rfl,fun w4 lQ=>⟨G _ (T5 E.Wg c cs j 0).2,dO (by simp) LX aop,alE 300 fun w5 lT=>?_⟩⟩;have Qb:=K.rely (K.rely wY lQ) lT;refine alL rfl fun w6 tC=>?_;have L3:=K.rely Qb tC;obtain⟨v0,hv0⟩:=(K.wg L3).cell0;refine⟨_,w6,#[],S,X,iz wz8 acH Ij i212 hv0,aL S X w6,alE 300 fun w7 pW=>?_⟩;exact last _ 20 k w7 wz9 aor (K.rely L3 pW)
   ·have hm:=ahg h0 hv;refine alE 300 fun w3 bV=>?_;have wY:=K.rely vC bV;have a2:=pP (wl2 (Wg:=E.Wg) (c:=c) (cs:=cs) (j:=j)) hm;have aC:=pP (wl3 (Wg:=E.Wg) (c:=c) (cs:=cs) (j:=j)) hm;have a4:=pP (wl4 (Wg:=E.Wg) (c:=c) (cs:=cs) (j:=j)) hm;have a5:=pP (wl5 (Wg:=E.Wg) (c:=c) (cs:=cs) (j:=j)) hm;have a6:=pP (wl6 (Wg:=E.Wg) (c:=c) (cs:=cs) (j:=j)) hm;have a7:=pP (wl7 (Wg:=E.Wg) (c:=c) (cs:=cs) (j:=j)) hm;have a8:=pP (wl8 (Wg:=E.Wg) (c:=c) (cs:=cs) (j:=j)) hm;have a9:=pP (wl9 (Wg:=E.Wg) (c:=c) (cs:=cs) (j:=j)) hm;have aE:=pP (aoq (Wg:=E.Wg) (c:=c) (cs:=cs) (j:=j)) hm;have aF:=pP (wlf (Wg:=E.Wg) (c:=c) (cs:=cs) (j:=j)) hm;refine .stop ?_;cases k with
    |zero=>trivial
    |succ k=>
     refine⟨rfl,rfl,fun w4 v2 lQ hv2 hG4=>⟨fun he=>?_,fun he=>?_⟩⟩
     ·subst he;have Gb:=K.rely wY lQ;have aA:=iR (main:=true) (cs:=(T5 E.Wg c cs j ((v2 *4294967296+0:Nat):Int)).2) ag_ a2 hG4.cell0 (hG4.thaw 0);have en:(((v2 *4294967296+0:Nat):Int)+1)=((v2 *4294967296+1:Nat):Int):=by omega
      rw[en]at aA;have aov:=K.Ap Gb hG4 (Eff.set _ _ _ _) (hG4.oJ v2 1);refine⟨_,_,_,aA,hG4.oJ v2 1,Eff.set _ _ _ _,EvA.two _ _ (by omega),alE 300 fun w5 lT=>?_⟩;have Qb:=K.rely aov lT;refine alL rfl fun w6 tC=>?_;have L3:=K.rely Qb tC;obtain⟨v1,hv1⟩:=(K.wg L3).qh;refine⟨_,w6,#[],S,X,iz aC ahe Ij i185 hv1,aL S X w6,alE 300 fun w7 pW=>?_⟩;have hF7:=K.rely L3 pW;refine .stop ?_;cases k with
      |zero=>trivial
      |succ k=>
       refine⟨rfl,rfl,fun w8 CO=>⟨G _ _,iy (by simp) aoa a4,alE 300 fun w9 L4=>?_⟩⟩;have hF9:=K.rely (K.rely hF7 CO) L4;refine .stop ?_;cases k with
       |zero=>trivial
       |succ k=>
        refine⟨rfl,rfl,fun wA v3 wt3 BR hGA=>rF ahb a5 rfl hGA.qh,fun wA BR hGA=>?_⟩;have aA:=pv (main:=true) (cs:=(WL5 E.Wg c cs j ((v2 *4294967296+0:Nat):Int)).2) ahb a5 rfl hGA.qh (by simp) (hGA.thaw 1);have hFA:=K.Ap (K.rely hF9 BR) hGA (Eff.set _ _ _ _) (hGA.yT 0);refine⟨_,_,_,aA,hGA.yT 0,Eff.set _ _ _ _,EvA.sem _ _ (by omega),alE 300 fun wB Qe=>?_⟩;have hFB:=K.rely hFA Qe;refine .stop ?_;cases k with
        |zero=>trivial
        |succ k=>
         refine⟨rfl,rfl,fun wC hrC hGC=>⟨_,_,sI acG a6 hGC.cell0,EvA.one _ _ _ (by omega),alE 300 fun wD hrD=>?_⟩⟩;have hFD:=K.rely (K.rely hFB hrC) hrD;refine .stop ?_;cases k with
         |zero=>trivial
         |succ k=>
          refine⟨rfl,rfl,fun wE hrE=>⟨G _ _,dO (by simp) LX a7,alE 300 fun wF hrF=>?_⟩⟩;have hFF:=K.rely (K.rely hFD hrE) hrF;refine alL rfl fun wG hrG=>?_;have hFG:=K.rely hFF hrG;obtain⟨v0,hv0⟩:=(K.wg hFG).cell0;refine⟨_,wG,#[],S,X,iz a8 acH Ij i212 hv0,aL S X wG,alE 300 fun wH hrH=>?_⟩;exact last _ 10 k wH a9 aE (K.rely hFG hrH)
     ·have Gb:=K.rely wY lQ;have aA:=h_ (main:=true) (cs:=(T5 E.Wg c cs j ((v *4294967296+0:Nat):Int)).2) ag_ a2 hG4.cell0 (hG4.thaw 0) (by omega);refine⟨_,_,aA,EvA.one _ _ _ (by omega),Tz.Hu 300 fun w5 lT=>?_⟩;change E.Tree PR true _ S X (G (WLf E.Wg c cs j _).1 (WLf E.Wg c cs j _).2) w5;have hs:=cm aF rfl;rw[hs.callers,hs.fr.eq];exact ih k (by omega) _ w5 (K.rely Gb lT)
 refine alE 60 fun w1 dE=>?_;have zm:=K.rely hF dE;refine .stop ?_;cases k with
 |zero=>trivial
 |succ k=>
  refine⟨rfl,rfl,fun w2 fU=>⟨G ((WW0 E.Wg c cs).1.finish unit) (WW0 E.Wg c cs).2,dO (by simp) T2 ww0,Tz.Hu 60 fun w3 bV=>?_⟩⟩;change E.Tree PR true _ S X (G (WWh E.Wg c cs).1 (WWh E.Wg c cs).2) w3;have hs:=cm (wwh (Wg:=E.Wg) (c:=c) (cs:=cs)) rfl;rw[hs.callers,hs.fr.eq];exact head k _ w3 (K.rely (K.rely zm fU) bV)
end
end Env
def T6:Op->Bool
 |.indexAddr .. =>true
 |.binOp .rem .. =>true
 |.makeSlice .. =>true
 |.call {callee:=.value _,..}=>true
 |_=>false
def Qf(f:Frame):=match f.todo with
 |.code (.cond _ _ _)::_=>true
 |_=>match opAt f with
  |some o=>T6 o.op
  |none=>false
def bu(P:Program):Nat->Frame->List Frame->Frame×List Frame
 |0,f,l=>(f,l)
 |n+1,f,l=>if Qf f then(f,l)else match J0 P f l with
   |some (f1,l1)=>bu P n f1 l1
   |none=>(f,l)
theorem Tz.eR{P:Program}{U:Nat->Nat->Prop}{D:(Nat->Prop)->(Nat->Prop)->Goroutine->World->Prop}{X:Nat->Prop}:∀n {f:Frame} {l:List _} {w:World},(∀w2,aP U S w w2->Tz P main U D S X (G (bu P n f l).1 (bu P n f l).2) w2)->Tz P main U D S X (G f l) w
 |0,f,l,w,h=>h w (.refl _ _ _)
 |n+1,f,l,w,h=>by
  unfold bu at h;split at h
  ·exact h w (.refl _ _ _)
  ·split at h
   ·rename_i f1 l1 e;exact alL rfl fun w2 hr=>⟨_,w2,#[],S,X,fX e,aL S X w2,Tz.eR n fun w3 bV=>h w3 (hr.trans bV)⟩
   ·exact h w (.refl _ _ _)
abbrev iv(n:Nat):Value:=.int .i64 (n:Int)
abbrev Rt(Gv n:Nat):Value:=.slice (some ⟨Gv,0,none⟩) n n
def im(nv:Value)(n:Nat)(work:Value)(Wg Gv:Nat):=[(0,nv),(1,iv n),(2,work),(6,ptr Wg),(7,Rt Gv n)]
noncomputable def ahi:List Item:=match Tryz.f137.body with
 |some (.seq _ (.seq _ rest))=>[.code rest]
 |_=>[]
def yes:List Item->List Item
 |.code (.cond _ a _)::k=>.code a::k
 |k=>k
def no:List Item->List Item
 |.code (.cond _ _ b)::k=>.code b::k
 |k=>k
def cX(b:Option Addr)(len cap:Nat):Value:=.slice b len cap
abbrev dF(site:List _)(al:List (Nat×Value))(j:Nat->Value):=zj 137 55 site (sA al) j
def Z0:=im (cX none 0 0) 1 undef 0 0
noncomputable abbrev go1 (site:List _) (al:List _):=bu PR 60 (dF site al fun _=>undef) []
noncomputable def zo:=(go1 ahi Z0).1.todo
def J_(a:List _)(n j:Nat):=a++[(16,iv n),(17,iv j)]
noncomputable def sMK:=(go1 (yes zo) (J_ Z0 1 0)).1.todo
def aMK(a:List _)(Gv n j:Nat):=J_ a n j++[(8,iv j),(20,Rt Gv n),(21,iv j)]
section
variable{b:Option Addr}{len cap n j Wg Gv ch:Nat}{work:Value}{J:Nat->Value}{l:List Frame}
noncomputable def RMK (b:Option _) (len cap n j Wg Gv:Nat) (work:Value) (J:Nat->Value) (l:List _):=bu PR 60 (dF (yes zo) (J_ (im (cX b len cap) n work Wg Gv) n j) J) l
theorem rmk:look [0,1,2,6,7,16,17,8,20,21] (RMK b len cap n j Wg Gv work J l)=bh 137 55 l sMK (aMK (im (cX b len cap) n work Wg Gv) Gv n j) none none:=by kernel_rfl
end
noncomputable abbrev uP (site:List _) (al:List _) (v:Value):=bu PR 60 ((dF site al fun _=>undef).finish v) []
noncomputable def sI1:=(uP sMK (aMK Z0 0 1 0) (.chan none)).1.todo
def aI1(a:List _)(Gv n j ch:Nat):=J_ a n j++[(8,iv j),(20,Rt Gv n),(21,iv j),(22,.chan (some ch))]
noncomputable def sS1:=(uP sI1 (aI1 Z0 0 1 0 0) (ptr 0)).1.todo
def aS1(a:List _)(Gv n j ch:Nat):=J_ a n j++[(8,iv j),(22,.chan (some ch)),(23,.pointer (some ⟨Gv,j,none⟩))]
noncomputable def sC1:=(uP sS1 (aS1 Z0 0 1 0 0) undef).1.todo
def aC1(a:List _)(n j:Nat):=J_ a n j++[(8,iv j)]
noncomputable def sI2:=(uP sC1 (aC1 Z0 1 0) unit).1.todo
def aI2(a:List _)(Gv n j:Nat):=J_ a n j++[(25,Rt Gv n),(26,iv j)]
noncomputable def sL2:=(uP sI2 (aI2 Z0 0 1 0) (ptr 0)).1.todo
def aL2(a:List _)(Gv n j:Nat):=J_ a n j++[(27,.pointer (some ⟨Gv,j,none⟩))]
noncomputable def sG:=(uP sL2 (aL2 Z0 0 1 0) (.chan none)).1.todo
def aG(a:List _)(n j ch:Nat)(work:Value):=J_ a n j++[(28,.chan (some ch)),(29,work)]
section
variable{b:Option Addr}{len cap n j Wg Gv ch:Nat}{work:Value}{J:Nat->Value}{l:List Frame}
variable(b:Option Addr)(len cap n j Wg Gv ch:Nat)(work:Value)(J:Nat->Value)(l:List Frame)
noncomputable def RI1:=bu PR 60 ((dF sMK (aMK (im (cX b len cap) n work Wg Gv) Gv n j) J).finish (.chan (some ch))) l
noncomputable def RS1:=bu PR 60 ((dF sI1 (aI1 (im (cX b len cap) n work Wg Gv) Gv n j ch) J).finish (.pointer (some ⟨Gv,j,none⟩))) l
noncomputable def RC1:=bu PR 60 ((dF sS1 (aS1 (im (cX b len cap) n work Wg Gv) Gv n j ch) J).finish undef) l
noncomputable def RI2:=bu PR 60 ((dF sC1 (aC1 (im (cX b len cap) n work Wg Gv) n j) J).finish unit) l
noncomputable def RL2:=bu PR 60 ((dF sI2 (aI2 (im (cX b len cap) n work Wg Gv) Gv n j) J).finish (.pointer (some ⟨Gv,j,none⟩))) l
noncomputable def RG:=bu PR 60 ((dF sL2 (aL2 (im (cX b len cap) n work Wg Gv) Gv n j) J).finish (.chan (some ch))) l
noncomputable def ahn:=bu PR 60 ((dF sG (aG (im (cX b len cap) n work Wg Gv) n j ch work) J).finish undef) l
end
section
variable{b:Option Addr}{len cap n j Wg Gv ch:Nat}{work:Value}{J:Nat->Value}{l:List Frame}
theorem aho:opAt (dF sMK (aMK (im (cX b len cap) n work Wg Gv) Gv n j) J)=some {dst:=some 22,op:=.makeChan 214 (.const (.int .i64 0)),type:=214,pos:= "workers.go:52",after:=#[],guard:=none}:=by kernel_rfl
theorem ri1:look [0,1,2,6,7,16,17,8,20,21,22] (RI1 b len cap n j Wg Gv ch work J l)=bh 137 55 l sI1 (aI1 (im (cX b len cap) n work Wg Gv) Gv n j ch) none none:=by kernel_rfl
theorem Rl:look [0,1,2,6,7,16,17,8,22,23] (RS1 b len cap n j Wg Gv ch work J l)=bh 137 55 l sS1 (aS1 (im (cX b len cap) n work Wg Gv) Gv n j ch) none none:=by kernel_rfl
theorem rc1:look [0,1,2,6,7,16,17,8] (RC1 b len cap n j Wg Gv ch work J l)=bh 137 55 l sC1 (aC1 (im (cX b len cap) n work Wg Gv) n j) (some (157,#[ptr Wg,.int .i64 1])) none:=by kernel_rfl
theorem ri2:look [0,1,2,6,7,16,17,25,26] (RI2 b len cap n j Wg Gv work J l)=bh 137 55 l sI2 (aI2 (im (cX b len cap) n work Wg Gv) Gv n j) none none:=by kernel_rfl
theorem rl2:look [0,1,2,6,7,16,17,27] (RL2 b len cap n j Wg Gv work J l)=bh 137 55 l sL2 (aL2 (im (cX b len cap) n work Wg Gv) Gv n j) none (some (214,.pointer (some ⟨Gv,j,none⟩))):=by kernel_rfl
theorem z87:look [0,1,2,6,7,16,17,28,29] (RG b len cap n j Wg Gv ch work J l)=bh 137 55 l sG (aG (im (cX b len cap) n work Wg Gv) n j ch work) none none:=by kernel_rfl
theorem aoA:NL PR (dF sG (aG (im (cX b len cap) n work Wg Gv) n j ch work) J)=some (.spawn {target:=.fn (.func 158) #[],args:=#[.chan (some ch),work,ptr Wg]}):=by kernel_rfl
theorem aoB:look [0,1,2,6,7,16,17,18] (ahn b len cap n j Wg Gv ch work J l)=bh 137 55 l zo (im (cX b len cap) n work Wg Gv++[(16,iv n),(17,.int .i64 (alP.wrap (j+1))),(18,.bool (decide (alP.wrap (j+1)<n)))]) none none:=by kernel_rfl
end
noncomputable def AJ:=(go1 (no zo) (J_ Z0 1 0)).1.todo
def Oi(a:List _)(nv:Value)(len i:Nat):=a++[(31,nv),(32,iv len),(33,iv i)]
noncomputable def sI3:=(go1 (yes AJ) (Oi Z0 (cX none 0 0) 0 0)).1.todo
def aI3(a:List _)(nv:Value)(len i:Nat):=Oi a nv len i++[(35,iv i)]
noncomputable def sL3:=(uP sI3 (aI3 Z0 (cX none 0 0) 0 0) (ptr 0)).1.todo
def aL3(a:List _)(nv:Value)(len i:Nat)(p:Addr):=Oi a nv len i++[(35,iv i),(36,.pointer (some p))]
noncomputable def sR:=(uP sL3 (aL3 Z0 (cX none 0 0) 0 0 ⟨0,0,none⟩) (iv 0)).1.todo
def aR(a:List _)(nv:Value)(len i x n Gv:Nat):=Oi a nv len i++[(9,iv i),(10,iv x),(38,Rt Gv n),(39,iv i),(40,iv n)]
noncomputable def sI4:=(uP sR (aR Z0 (cX none 0 0) 0 0 0 1 0) (iv 0)).1.todo
def aI4(a:List _)(nv:Value)(len i x n Gv m:Nat):=Oi a nv len i++[(10,iv x),(38,Rt Gv n),(41,iv m)]
noncomputable def sL4:=(uP sI4 (aI4 Z0 (cX none 0 0) 0 0 0 1 0 0) (ptr 0)).1.todo
def aL4(a:List _)(nv:Value)(len i x Gv m:Nat):=Oi a nv len i++[(10,iv x),(42,.pointer (some ⟨Gv,m,none⟩))]
noncomputable def sS:=(uP sL4 (aL4 Z0 (cX none 0 0) 0 0 0 0 0) (.chan none)).1.todo
def aS(a:List _)(nv:Value)(len i x ch:Nat):=Oi a nv len i++[(43,.chan (some ch)),(44,iv x)]
noncomputable def AK:=(go1 (no AJ) (Oi Z0 (cX none 0 0) 0 0)).1.todo
def Oj(a:List _)(Gv n i:Nat):=a++[(46,Rt Gv n),(47,iv n),(48,iv i)]
noncomputable def sI5:=(go1 (yes AK) (Oj Z0 0 1 0)).1.todo
noncomputable def sL5:=(uP sI5 (Oj Z0 0 1 0) (ptr 0)).1.todo
def aL5(a:List _)(Gv n i:Nat):=Oj a Gv n i++[(50,.pointer (some ⟨Gv,i,none⟩))]
noncomputable def sCl:=(uP sL5 (aL5 Z0 0 1 0) (.chan none)).1.todo
def aCl(a:List _)(Gv n i ch:Nat):=Oj a Gv n i++[(52,.chan (some ch))]
noncomputable def sC2:=(go1 (no AK) (Oj Z0 0 1 0)).1.todo
section
variable(b:Option Addr)(len cap n i x m Wg Gv ch:Nat)(p:Addr)(work:Value)(J:Nat->Value)(l:List Frame)
noncomputable def RK2:=bu PR 60 (dF (no zo) (J_ (im (cX b len cap) n work Wg Gv) n i) J) l
noncomputable def RI3:=bu PR 60 (dF (yes AJ) (Oi (im (cX b len cap) n work Wg Gv) (cX b len cap) len i) J) l
noncomputable def RL3:=bu PR 60 ((dF sI3 (aI3 (im (cX b len cap) n work Wg Gv) (cX b len cap) len i) J).finish (.pointer (some p))) l
noncomputable def RR:=bu PR 60 ((dF sL3 (aL3 (im (cX b len cap) n work Wg Gv) (cX b len cap) len i p) J).finish (iv x)) l
noncomputable def RI4:=bu PR 60 ((dF sR (aR (im (cX b len cap) n work Wg Gv) (cX b len cap) len i x n Gv) J).finish (iv m)) l
noncomputable def RL4:=bu PR 60 ((dF sI4 (aI4 (im (cX b len cap) n work Wg Gv) (cX b len cap) len i x n Gv m) J).finish (.pointer (some ⟨Gv,m,none⟩))) l
noncomputable def RS:=bu PR 60 ((dF sL4 (aL4 (im (cX b len cap) n work Wg Gv) (cX b len cap) len i x Gv m) J).finish (.chan (some ch))) l
noncomputable def ahr:=bu PR 60 ((dF sS (aS (im (cX b len cap) n work Wg Gv) (cX b len cap) len i x ch) J).finish undef) l
noncomputable def RK3:=bu PR 60 (dF (no AJ) (Oi (im (cX b len cap) n work Wg Gv) (cX b len cap) len i) J) l
noncomputable def RI5:=bu PR 60 (dF (yes AK) (Oj (im (cX b len cap) n work Wg Gv) Gv n i) J) l
noncomputable def RL5:=bu PR 60 ((dF sI5 (Oj (im (cX b len cap) n work Wg Gv) Gv n i) J).finish (.pointer (some ⟨Gv,i,none⟩))) l
noncomputable def RCl:=bu PR 60 ((dF sL5 (aL5 (im (cX b len cap) n work Wg Gv) Gv n i) J).finish (.chan (some ch))) l
noncomputable def ahs:=bu PR 60 ((dF sCl (aCl (im (cX b len cap) n work Wg Gv) Gv n i ch) J).finish unit) l
noncomputable def RC2:=bu PR 60 (dF (no AK) (Oj (im (cX b len cap) n work Wg Gv) Gv n i) J) l
end
section
variable{b:Option Addr}{len cap n i x m Wg Gv ch:Nat}{p:Addr}{work:Value}{J:Nat->Value}{l cs:List Frame}{c:Frame}
theorem rk2:look [0,1,2,6,7,31,32,33,34] (RK2 b len cap n i Wg Gv work J l)=bh 137 55 l AJ (Oi (im (cX b len cap) n work Wg Gv) (cX b len cap) len 0++[(34,.bool (decide ((0:Int)<len)))]) none none:=by kernel_rfl
theorem ri3:look [0,1,2,6,7,31,32,33,35] (RI3 b len cap n i Wg Gv work J l)=bh 137 55 l sI3 (aI3 (im (cX b len cap) n work Wg Gv) (cX b len cap) len i) none none:=by kernel_rfl
theorem rl3:look [0,1,2,6,7,31,32,33,35,36] (RL3 b len cap n i Wg Gv p work J l)=bh 137 55 l sL3 (aL3 (im (cX b len cap) n work Wg Gv) (cX b len cap) len i p) none (some (3,.pointer (some p))):=by kernel_rfl
theorem rr:look [0,1,2,6,7,31,32,33,9,10,38,39,40] (RR b len cap n i x Wg Gv p work J l)=bh 137 55 l sR (aR (im (cX b len cap) n work Wg Gv) (cX b len cap) len i x n Gv) none none:=by kernel_rfl
theorem ri4:look [0,1,2,6,7,31,32,33,10,38,41] (RI4 b len cap n i x m Wg Gv work J l)=bh 137 55 l sI4 (aI4 (im (cX b len cap) n work Wg Gv) (cX b len cap) len i x n Gv m) none none:=by kernel_rfl
theorem rl4:look [0,1,2,6,7,31,32,33,10,42] (RL4 b len cap n i x m Wg Gv work J l)=bh 137 55 l sL4 (aL4 (im (cX b len cap) n work Wg Gv) (cX b len cap) len i x Gv m) none (some (214,.pointer (some ⟨Gv,m,none⟩))):=by kernel_rfl
theorem rs:look [0,1,2,6,7,31,32,33,43,44] (RS b len cap n i x m Wg Gv ch work J l)=bh 137 55 l sS (aS (im (cX b len cap) n work Wg Gv) (cX b len cap) len i x ch) none none:=by kernel_rfl
theorem aoL:NL PR (dF sS (aS (im (cX b len cap) n work Wg Gv) (cX b len cap) len i x ch) J)=some (.comm #[scase ch (.int .i64 x) undef] true .send):=by kernel_rfl
theorem aoM:look [0,1,2,6,7,31,32,33,34] (ahr b len cap n i x Wg Gv ch work J l)=bh 137 55 l AJ (im (cX b len cap) n work Wg Gv++[(31,cX b len cap),(32,iv len),(33,.int .i64 (alP.wrap (i+1))),(34,.bool (decide (alP.wrap (i+1)<len)))]) none none:=by kernel_rfl
theorem rk3:look [0,1,2,6,7,46,47,48,49] (RK3 b len cap n i Wg Gv work J l)=bh 137 55 l AK (Oj (im (cX b len cap) n work Wg Gv) Gv n 0++[(49,.bool (decide ((0:Int)<n)))]) none none:=by kernel_rfl
theorem ri5:look [0,1,2,6,7,46,47,48] (RI5 b len cap n i Wg Gv work J l)=bh 137 55 l sI5 (Oj (im (cX b len cap) n work Wg Gv) Gv n i) none none:=by kernel_rfl
theorem rl5:look [0,1,2,6,7,46,47,48,50] (RL5 b len cap n i Wg Gv work J l)=bh 137 55 l sL5 (aL5 (im (cX b len cap) n work Wg Gv) Gv n i) none (some (214,.pointer (some ⟨Gv,i,none⟩))):=by kernel_rfl
theorem rcl:look [0,1,2,6,7,46,47,48,52] (RCl b len cap n i Wg Gv ch work J l)=bh 137 55 l sCl (aCl (im (cX b len cap) n work Wg Gv) Gv n i ch) none none:=by kernel_rfl
theorem aaj:(opAt (dF sCl (aCl (im (cX b len cap) n work Wg Gv) Gv n i ch) J)).map (fun o=>(o.dst,o.op))=some (none,.call {callee:=.builtin .close,args:=#[.tmp 52],argTypes:=#[214]}):=by kernel_rfl
theorem aoN:look [0,1,2,6,7,46,47,48,49] (ahs b len cap n i Wg Gv ch work J l)=bh 137 55 l AK (im (cX b len cap) n work Wg Gv++[(46,Rt Gv n),(47,iv n),(48,.int .i64 (alP.wrap (i+1))),(49,.bool (decide (alP.wrap (i+1)<n)))]) none none:=by kernel_rfl
theorem rc2:look [0,1,2,6,7] (RC2 b len cap n i Wg Gv work J l)=bh 137 55 l sC2 (im (cX b len cap) n work Wg Gv) (some (159,#[ptr Wg])) none:=by kernel_rfl
theorem aht:bD PR 1 (dF sC2 (im (cX b len cap) n work Wg Gv) J) l=(alH PR 159 #[ptr Wg] .normal,dF sC2 (im (cX b len cap) n work Wg Gv) J::l):=by kernel_rfl
theorem ahu{j:Nat}:bD PR 1 (dF sC1 (aC1 (im (cX b len cap) n work Wg Gv) n j) J) l=(alH PR 157 #[ptr Wg,.int .i64 1] .normal,dF sC1 (aC1 (im (cX b len cap) n work Wg Gv) n j) J::l):=by kernel_rfl
theorem ahv{j:Nat}:(opAt (dF sI1 (aI1 (im (cX b len cap) n work Wg Gv) Gv n j ch) J)).map (fun o=>o.op)=some (.indexAddr 213 (.tmp 20) (.tmp 21)):=by kernel_rfl
theorem ahw{j:Nat}:(opAt (dF sS1 (aS1 (im (cX b len cap) n work Wg Gv) Gv n j ch) J)).map (fun o=>o.op)=some (.store 214 (.tmp 23) (.tmp 22)):=by kernel_rfl
theorem ahx{j:Nat}:(opAt (dF sI2 (aI2 (im (cX b len cap) n work Wg Gv) Gv n j) J)).map (fun o=>o.op)=some (.indexAddr 213 (.tmp 25) (.tmp 26)):=by kernel_rfl
theorem ahy:(opAt (dF sI3 (aI3 (im (cX b len cap) n work Wg Gv) (cX b len cap) len i) J)).map (fun o=>o.op)=some (.indexAddr 25 (.tmp 31) (.tmp 33)):=by kernel_rfl
theorem aoO:(opAt (dF sR (aR (im (cX b len cap) n work Wg Gv) (cX b len cap) len i x n Gv) J)).map (fun o=>o.op)=some (.binOp .rem 3 (.tmp 39) (.tmp 40) 3):=by kernel_rfl
theorem ahz:(opAt (dF sI4 (aI4 (im (cX b len cap) n work Wg Gv) (cX b len cap) len i x n Gv m) J)).map (fun o=>o.op)=some (.indexAddr 213 (.tmp 38) (.tmp 41)):=by kernel_rfl
theorem ahA:(opAt (dF sI5 (Oj (im (cX b len cap) n work Wg Gv) Gv n i) J)).map (fun o=>o.op)=some (.indexAddr 213 (.tmp 46) (.tmp 48)):=by kernel_rfl
end
section
variable{main:Bool}{f:Frame}{cs:List Frame}{w w':World}
theorem pf{x:Op}(h:(opAt f).map (fun o=>o.op)=some x):∃o,opAt f=some o/\o.op=x:=by simp_all
theorem step_skip{P:Program}{o:Oper}(h:opAt f=some o)(hr:(execOp f.eval o).run P w=.ok .skip w'):stepG P main (G f cs) w=.go (G (f.finish undef) cs) w' (seen P f.fn ((execOp f.eval o).events P w #[])):=by
 obtain⟨ops,i,rest,k,e,ho,hw,hk⟩:=fY h;have pF:f.eval=Act.eval ⟨f.tmps,f.defers⟩:=by rw[e];exact Frame.eval_at' _ _ _
 have:=stepG_none (main:=main) (a:=⟨f.tmps,f.defers⟩) (k:=k) (cs:=cs) (rest:=rest) ho hw hk (by exact hr);rw[<-e]at this;rw[this];have eU:f.finish undef=f.at (Act.put ⟨f.tmps,f.defers⟩ o.dst undef) (.inRegion ops rest::k):=by
  conv=>lhs;rw[e]
  rw[Frame.finish_at,ho];rfl
 rw[<-eU];unfold listed;rw[<-pF]
theorem uQ{x:Operand}(h:(opAt f).map (fun o=>o.op)=some (.indexAddr t x y)){o cap:Nat}(hx:f.eval x=.slice (some ⟨B,o,none⟩) n cap)(hy:f.eval y=.int .i64 (i:Int))(hi:i<n)(hu:PR.underlying t=some (.slice (PR.elem t)))(hz:(PR.info? (PR.elem t)).map (·.size)=some 1):
  stepG PR main (G f cs) w=.go (G (f.finish (.pointer (some ⟨B,o+i,none⟩))) cs) w #[]:=by
 obtain⟨op,ho,bg⟩:=pf h;have hs:∃inf,PR.info? (PR.elem t)=some inf/\inf.size=1:=by simp_all
 obtain⟨inf,pE,Dx⟩:=hs;have hr:(execOp f.eval op).run PR w=.ok (.value (.pointer (some ⟨B,o+i,none⟩))) w:=by
  unfold execOp;simp only[bg,hx,hy];simp[Instr.indexAt,run_underlying hu,asIntOf,hi,sizeOf,typeInfo,pE,Dx,Addr.add];try(intro e;subst e;rfl)
 have he:(execOp f.eval op).events PR w #[]=#[]:=by
  unfold execOp;simp only[bg,hx,hy];simp[Instr.indexAt,run_underlying hu,asIntOf,hi,sizeOf,typeInfo,pE,Addr.add]
 rw[cz ho hr,he,seen_none]
theorem T7{x:Operand}(h:(opAt f).map (fun o=>o.op)=some (.binOp .rem 3 x y 3))(hx:f.eval x=.int .i64 i)(hy:f.eval y=.int .i64 n)(hn:0<n)(hi:i<9223372036854775808):
  stepG PR main (G f cs) w=.go (G (f.finish (.int .i64 ((i%n:Nat)))) cs) w #[]:=by
 obtain⟨op,ho,bg⟩:=pf h;have hr:(execOp f.eval op).run PR w=.ok (.value (.int .i64 ((i%n:Nat)))) w:=by
  unfold execOp;simp[bg,hx,hy];simp[go_sem];rw[if_neg (by omega),Int.tmod_eq_emod_of_nonneg (by omega)]
 have he:(execOp f.eval op).events PR w #[]=#[]:=by
  unfold execOp;simp[bg,hx,hy];simp[go_sem]
 rw[cz ho hr,he,seen_none]
theorem step_mk{o:Oper}(ho:opAt f=some o)(bg:o.op=.makeChan 214 (.const (.int .i64 0))):
  stepG PR main (G f cs) w=.go (G (f.finish (.chan (some w.heap.size))) cs) (w.alloc (.chan 0 #[] false 0 0 false)) #[]:=by
 have hr:(execOp f.eval o).run PR w=.ok (.value (.chan (some w.heap.size))) (w.alloc (.chan 0 #[] false 0 0 false)):=by
  unfold execOp;simp only[bg];rfl
 have he:(execOp f.eval o).events PR w #[]=#[]:=by
  unfold execOp;simp[bg];rfl
 rw[cz ho hr,he,seen_none]
theorem EN{x:Operand}(h:(opAt f).map (fun o=>o.op)=some (.store 214 x y)){v:Option Nat}{row:Array Value}(hx:f.eval x=.pointer (some ⟨B,i,none⟩))(hy:f.eval y=.chan v)(hB:w.heap[B]?=some (.cells row t))(hi:i<row.size)(hq:(PR.funcs[f.fn]?).any (·.norace)=false):
  stepG PR main (G f cs) w=.go (G (f.finish undef) cs) (w.setCell ⟨B,i,none⟩ (.chan v)) #[⟨.cell ⟨B,i,none⟩,true,false⟩]:=by
 obtain⟨op,ho,bg⟩:=pf h;have hc:w.cell? ⟨B,i,none⟩=some row[i]:=by simp[al7,hB,hi]
 have hz:w.frozen? ⟨B,i,none⟩=false:=by simp[World.frozen?,hB]
 have hs:(PR.info? 214).map (·.size)=some 1:=by kernel_rfl
 have hs:∃inf,PR.info? 214=some inf/\inf.size=1:=by simp_all
 obtain⟨inf,pE,Dx⟩:=hs;have hr:(execOp f.eval op).run PR w=.ok .skip (w.setCell ⟨B,i,none⟩ (.chan v)):=by
  unfold execOp;simp only[bg,hx,hy];simp[go_sem,sizeOf,typeInfo,pE,Dx,hc,hz]
 have he:(execOp f.eval op).events PR w #[]=#[⟨.cell ⟨B,i,none⟩,true,false⟩]:=by
  unfold execOp;simp only[bg,hx,hy];simp[go_sem,sizeOf,typeInfo,pE,Dx,hc,hz]
 rw[step_skip ho hr,he,seen_def,hq];simp[seenStep]
theorem X3{x:Operand}(h:(opAt f).map (fun o=>(o.dst,o.op))=some (none,.call {callee:=.builtin .close,args:=#[x],argTypes:=#[214]})){c s:Nat}(hx:f.eval x=.chan (some c))(hc:w.heap[c]?=some (.chan 0 #[] false s s false))(hq:(PR.funcs[f.fn]?).any (·.norace)=false):
  stepG PR main (G f cs) w=.go (G (f.finish unit) cs) (w.setChan c 0 #[] true s s false) (closeEvents c):=by
 obtain⟨op,ho,bg⟩:∃o,opAt f=some o/\o.op=.call _:=by
  cases e:opAt f with
  |none=>rw[e]at h;cases h
  |some o=>rw[e]at h;exact⟨o,rfl,congrArg Prod.snd (alX h)⟩
 refine conv ho fun ops i rest k hi hw hk=>?_
 exact stepG_close hi hw hk bg (by exact hx) hc hq
theorem T8{x:Operand}(h:(opAt f).map (fun o=>(o.dst,o.op))=some (none,.call {callee:=.builtin .close,args:=#[x],argTypes:=#[214]})):mayWake PR (G f cs)=true:=by
 obtain⟨op,ho,bg⟩:∃o,opAt f=some o/\o.op=.call _:=by
  cases e:opAt f with
  |none=>rw[e]at h;cases h
  |some o=>rw[e]at h;exact⟨o,rfl,congrArg Prod.snd (alX h)⟩
 obtain⟨ops,i,rest,k,e1,hi,hw,hk⟩:=fY ho;have hm:f.mode=.run:=by rw[e1];rfl
 have ht:f.todo=.inRegion ops (i::rest)::k:=by rw[e1];rfl
 unfold mayWake;simp[G,hm,ht,hi,Option.map_some,bg]
theorem oM{P:Program}{u:Nat}{a b:Code}{k:List _}{t:Bool}(hm:f.mode=.run)(hr:f.roundOf=none)(hk:f.kind≠.early)(ht:f.todo=.code (.cond (.tmp u) a b)::k)(hv:f.tmps.getD u undef=.bool t):stepG P main (G f cs) w=.go (G {f with todo:=.code (if t then a else b)::k} cs) w #[]:=by
 refine Am hr hk hm ?_;have he:f.eval (.tmp u)=.bool t:=hv;unfold prun;simp_all
end
noncomputable def Fa (ch Wg:Nat) (work:Value):={(default:Frame)with fn:=PR.funcs.size,defers:=[dcall 158 #[.chan (some ch),work,ptr Wg]],mode:=.panicking [goexitEntry]}
theorem born{ch:Nat}:stepG PR false (G (Fa ch Wg work) []) w=.go (G (alH PR 158 #[.chan (some ch),work,ptr Wg] .deferred) [bot]) w #[]:=by kernel_rfl
noncomputable def WA0 (ch Wg:Nat) (work:Value):=bD PR 60 (alH PR 158 #[.chan (some ch),work,ptr Wg] .deferred) [bot]
noncomputable def Im:=(WA0 0 0 undef).1.todo
def lfW(Wg:Nat)(site:List Item)(s:Nat->Option Value)(j:Nat->Value):Frame:={fn:=158,tmps:=TN 15 s j,todo:=site,defers:=[dcall 181 #[ptr Wg]],mode:=.run,kind:=.deferred}
def alW(ch Wg:Nat)(work:Value):=[(0,.chan (some ch)),(1,work),(2,ptr Wg),(8,.chan (some ch))]
structure FrW(Wg:Nat)(site:List Item)(s:Nat->Option Value)(f:Frame):Prop where
 fn:f.fn=158
 todo:f.todo=site
 defers:f.defers=[dcall 181 #[ptr Wg]]
 mode:f.mode=.run
 kind:f.kind=.deferred
 round:f.roundOf=none
 size:f.tmps.size=15
 slot:∀i v,s i=some v->f.tmps.getD i undef=v
theorem FrW.eq{site:List _}{s:Nat->Option _}(h:FrW Wg site s f):f=lfW Wg site s (fun i=>f.tmps.getD i undef):=by
 obtain⟨fn,tmps,todo,defers,mode,kind,ro⟩:=f;obtain⟨h1,h2,h3,h4,h5,h6,h7,h8⟩:=h;congr 1;apply amh
 ·simp[TN,h7]
 ·intro i hi _;simp[TN,List.getElem_toArray,List.getElem_map,List.getElem_range];cases e:s i with
  |none=>simp[alJ hi]
  |some v=>
   rw[<-h8 i v e];simp[alJ hi]
def Ol(ks:List Nat)(r:Frame×List _):=(look ks r,S8 r.1)
def Om(Wg:Nat)(l:List Frame)(site:List Item)(al:List (Nat×Value)):Ar×Option (TypeId×Value×Bool):=(⟨l,158,site,[dcall 181 #[ptr Wg]],.run,.deferred,none,15,al.map (·.2),none,none⟩,some (232,(al.map (·.2)).headD undef,true))
theorem T9{r:Frame×List _}{l:List _}{site:List _}{al:List _}(h:Ol ks r=Om Wg l site al)(hk:al.map (·.1)=ks):r.2=l/\FrW Wg site (sA al) r.1/\S8 r.1=some (232,(al.map (·.2)).headD undef,true):=by
 subst hk;simp only[Ol,look,Om,Prod.mk.injEq,Ar.mk.injEq,List.map_map]at h;obtain⟨⟨h1,h2,h3,h4,h5,h6,h7,h8,h9,h10,h11⟩,h12⟩:=h;exact⟨h1,⟨h2,h3,h4,h5,h6,h7,h8,wh h9⟩,h12⟩
def dL(By Rf Sg Fp:Nat):Value:=.func (.func 138) #[] #[.pointer (some ⟨By,0,none⟩),.pointer (some ⟨Rf,0,none⟩),.pointer (some ⟨Sg,0,none⟩),.pointer (some ⟨Fp,0,none⟩)]
noncomputable def WG (ch Wg:Nat) (work:Value) (v:Value) (b:Bool) (j:Nat->Value):=bD PR 60 ((lfW Wg Im (sA (alW ch Wg work)) j).finish (.tuple #[v,.bool b])) [bot]
section
variable{ch Wg By Rf Sg Fp:Nat}{work:Value}{x:Int}{v:Value}{j:Nat->Value}
theorem wa0:Ol [0,1,2,8] (WA0 ch Wg work)=Om Wg [bot] Im (alW ch Wg work):=by kernel_rfl
theorem Qg:WG ch Wg work v false j=DA0 Wg (jJ ((WG ch Wg work v false j).2.getD 1 bot).tmps ((WG ch Wg work v false j).2.getD 1 bot).todo) [bot]:=by kernel_rfl
end
def zc0:Value:=.int .i64 0
section
variable{ch Wg:Nat}{work:Value}{j:Nat->Value}
theorem X4:NL PR (lfW Wg Im (sA (alW ch Wg work)) j)=some (.comm #[rcase ch zc0] true (.recv true)):=by kernel_rfl
end
namespace Env
structure Qh(E:Env)(RO S X:Nat->Prop):Prop where
 ro:∀a,RO a->S a
 mp:¬S E.Mp
 mpx:¬X E.Mp
 fd:RO E.Fd
 wg:RO E.Wg
 Ds:∀a,RO a->¬X a
structure AL(E:Env)(RO:Nat->Prop)(Fx:World->Prop):Prop where
 rely:∀S w w2,(∀a,RO a->S a)->Fx w->aP E.U S w w2->Fx w2
 fd:∀w,Fx w->E.Ht w
 wg:∀w,Fx w->E.ui w
variable(E:Env)(ch:Nat)(ok:Nat->Prop)(work:Value)(RO:Nat->Prop)(Fx:World->Prop)
def AtRecv(S X:Nat->Prop)(g:Goroutine)(w:World):=∃f,g=G f [bot]/\FrW E.Wg Im (sA (alW ch E.Wg work)) f/\E.Qh RO S X/\Fx w
def w_:Prop:=∀(k x:Nat) (S X:Nat->Prop) (j:Nat->Value) (w:World),ok x->E.Qh RO S X->Fx w->E.Tree PR false (E.eJ PR (AtRecv E ch work RO Fx) k (.ld x)) S X (G (WG ch E.Wg work (.int .i64 (x:Int)) true j).1 (WG ch E.Wg work (.int .i64 (x:Int)) true j).2) w
variable{E ch ok work RO Fx}{S X:Nat->Prop}{g:Goroutine}{w w2:World}
theorem Io(h:AtRecv E ch work RO Fx S X g w):g.status=.running/\g.offers=none:=by
 obtain⟨f,rfl,_⟩:=h;exact⟨rfl,rfl⟩
theorem Qi(h:AtRecv E ch work RO Fx S X g w):stepG PR false g w2=.comm g #[rcase ch zc0] true (.recv true) w2 #[]:=by
 obtain⟨f,rfl,hf,_⟩:=h;rw[hf.eq];exact Di X4
theorem Ip(K:E.AL RO Fx)(hC:w_ E ch ok work RO Fx)(h:AtRecv E ch work RO Fx S X g w)(hr:aP E.U S w w2){x:Nat}(hx:ok x)(k:Nat):E.Tree PR false (E.eJ PR (AtRecv E ch work RO Fx) k (.ld x)) S X (Go.Conc.served g (recvd true (.int .i64 x) true)) w2:=by
 obtain⟨f,rfl,hf,hW,hF⟩:=h;rw[hf.eq];refine alE 60 fun w3 bV=>?_;exact hC k x S X _ w3 hx hW (K.rely S _ _ hW.ro (K.rely S _ _ hW.ro hF hr) bV)
theorem Iq(K:E.AL RO Fx)(h:AtRecv E ch work RO Fx S X g w)(hr:aP E.U S w w2)(v:Value)(k:Nat):E.Tree PR false (E.eJ PR (AtRecv E ch work RO Fx) k .wr) S X (Go.Conc.served g (recvd true v false)) w2:=by
 obtain⟨f,rfl,hf,hW,hF⟩:=h;rw[hf.eq];refine alE 60 fun w3 bV=>?_;have e:=Qg (ch:=ch) (Wg:=E.Wg) (work:=work) (v:=v) (j:=fun i=>f.tmps.getD i undef);change E.Tree PR _ _ S X (G (WG ch _ _ v _ _).1 (WG ch _ _ v _ _).2) w3;rw[e];exact XV (hW.ro _ hW.wg) k (K.wg _ (K.rely S _ _ hW.ro (K.rely S _ _ hW.ro hF hr) bV))
theorem X5(K:E.AL RO Fx)(hW:E.Qh RO S X)(hF:Fx w):E.Tree PR false (AtRecv E ch work RO Fx) S X (G (Fa ch E.Wg work) []) w:=by
 refine alL rfl fun w2 hr=>⟨_,w2,#[],S,X,Ph.born,aL S X w2,alE 60 fun w3 bV=>?_⟩;obtain⟨h1,h2,_⟩:=T9 (wa0) rfl;change E.Tree PR _ _ S X (G _ (WA0 ch _ _).2) w3;rw[h1];exact .stop ⟨_,rfl,h2,hW,K.rely S _ _ hW.ro (K.rely S _ _ hW.ro hF hr) bV⟩
end Env
end Ph
namespace Ph
open Conc Ren
open Lock (Word PC Mv bn)
def cout(fn:FuncId)(tmps:Array Value)(todo:List Item)(kind:CallKind)(ro:Option Nat):Frame:=⟨fn,tmps,todo,[],.returning,kind,ro⟩
section
variable(Fd:Nat)(c:Frame)(cs:List Frame)(v:Value)
noncomputable def UA0:Frame×List Frame:=bD PR 60 (alH PR 161 #[ptr Fd] .deferred) (c::cs)
noncomputable def UA1:Frame×List Frame:=bD PR 60 ((UA0 Fd c cs).1.finish v) (UA0 Fd c cs).2
noncomputable def UA2:Frame×List Frame:=bD PR 60 ((UA1 Fd c cs v).1.finish (ptr Fd)) (UA1 Fd c cs v).2
noncomputable def UA3:Frame×List Frame:=bD PR 60 ((UA2 Fd c cs v).1.finish unit) (UA2 Fd c cs v).2
noncomputable def UA4:Frame×List Frame:=bD PR 60 ((UA3 Fd c cs v).1.finish unit) (UA3 Fd c cs v).2
noncomputable def UA5 (z:Int):Frame×List Frame:=bD PR 300 ((UA4 Fd c cs v).1.finish (.int .i32 z)) (UA4 Fd c cs v).2
def acU(f:Frame):Frame:=match f.todo with
 |.code (.cond _ a _)::k=>{f with todo:=.code a::k}
 |_=>f
noncomputable def UBz (z:Int):Frame×List Frame:=E0 PR 16 300 ((UA4 Fd c cs v).1.finish (.int .i32 z)) (UA4 Fd c cs v).2
noncomputable def UB (z:Int):List Frame:=(bD PR 4 (acU (UBz Fd c cs v z).1) (UBz Fd c cs v z).2).2
end
def outs:List Nat:=(alN 72).filter fun i=>i%2==0&&i/4%2==0&&(i/8==0||i/2%2==1)
def ucs:List Nat:=(alN 72).filter fun i=>i%2==0&&i/4%2==0&&!(i/8==0||i/2%2==1)
def uhs:List Nat:=(alN 72).filter fun i=>i%2==0&&i/4%2==1
section
variable{Fd:Nat}{fn:FuncId}{tmps:Array Value}{todo:List Item}{kind:CallKind}{ro:Option Nat}{cs:List Frame}{v:Value}{z:Int}{c:Frame}
theorem ua0:jC (UA0 Fd c cs).1=some (21,ptr Fd):=by kernel_rfl
theorem ua1:kE (UA1 Fd c cs v).1=some (253,159,ptr Fd):=by kernel_rfl
theorem ua2:ahead (UA2 Fd c cs v).1=some (168,#[ptr Fd]):=by kernel_rfl
theorem ua3:ahead (UA3 Fd c cs v).1=some (169,#[]):=by kernel_rfl
theorem ua4:ahead (UA4 Fd c cs v).1=some (206,#[ptr Fd,.int .i32 (-1)]):=by kernel_rfl
theorem aoW:(PR.funcs[188]?).any (·.norace)=true:=by kernel_rfl
theorem ahD:(UA0 Fd c cs).1.fn=188:=by kernel_rfl
theorem X6:(outs.map fun i:Nat=>ahead (UA5 Fd c cs v (i:Int)).1)=outs.map fun i:Nat=>some (170,#[]):=by kernel_rfl
theorem T_:(outs.map fun i:Nat=>bD PR 6 ((UA5 Fd (cout fn tmps todo kind ro) cs v (i:Int)).1.finish unit) (UA5 Fd (cout fn tmps todo kind ro) cs v (i:Int)).2)=outs.map fun i:Nat=>(cout fn tmps todo kind ro,cs):=by kernel_rfl
end
def al2(Fd:Nat)(old:Int):List (Nat×Value):=[(0,ptr Fd),(4,.int .i32 old)]
def alp(Fd:Nat):List (Nat×Value):=[(0,ptr Fd)]
noncomputable def L5:List Item:=(UA5 0 (cout 0 #[] [] .normal none) [] undef 8).1.todo
noncomputable def L6:List Item:=(UA5 0 (cout 0 #[] [] .normal none) [] undef 12).1.todo
noncomputable def xa (Fd:Nat) (old:Int) (b:Bool) (j:Nat->Value) (l:List Frame):Frame×List Frame:=bD PR 300 ((zj 207 43 L5 (sA (al2 Fd old)) j).finish (.bool b)) l
noncomputable def L7:List Item:=(xa 0 8 true jz []).1.todo
noncomputable def Ua:List Item:=(xa 0 8 false jz []).1.todo
noncomputable def Fb (Fd:Nat) (old:Int) (j:Nat->Value) (l:List Frame):Frame×List Frame:=bD PR 300 ((zj 207 43 Ua (sA (alp Fd)) j).finish (.int .i32 old)) l
noncomputable def L8 (Fd:Nat) (j:Nat->Value) (l:List Frame):Frame×List Frame:=bD PR 300 ((zj 207 43 L7 (sA (alp Fd)) j).finish unit) l
noncomputable def L9 (Fd:Nat) (j:Nat->Value) (l:List Frame):Frame×List Frame:=bD PR 300 ((zj 207 43 L6 (sA (alp Fd)) j).finish unit) l
def L_:List Nat:=(alN 72).filter fun i=>i%8==0&&!(i/8==0)
def AM:List Nat:=(alN 72).filter fun i=>!(i%8==0&&!(i/8==0))
noncomputable def toUC (l:List Frame) (Fd:Nat) (i:Nat):Ar:=bh 207 43 l L5 (al2 Fd (i:Int)) (some (204,#[ptr Fd,.int .i32 (i:Int),.int .i32 (val {wd i with W:=i/8-1,K:=true})])) none
section
variable{Fd:Nat}{fn:FuncId}{tmps:Array Value}{todo:List Item}{kind:CallKind}{ro:Option Nat}{cs l:List Frame}{v:Value}{z old:Int}{c:Frame}{j:Nat->Value}
theorem X7:(ucs.map fun i:Nat=>look [0,4] (UA5 Fd c cs v (i:Int)))=ucs.map fun i:Nat=>toUC (UB Fd c cs v (i:Int)) Fd i:=by kernel_rfl
theorem X8:(uhs.map fun i:Nat=>look [0] (UA5 Fd c cs v (i:Int)))=uhs.map fun i:Nat=>bh 207 43 (UB Fd c cs v (i:Int)) L6 (alp Fd) (some (220,#[.pointer (some ⟨Fd,1,none⟩),.bool true,.int .i64 2])) none:=by kernel_rfl
theorem Ub:look [0] (xa Fd old true j l)=bh 207 43 l L7 (alp Fd) (some (220,#[.pointer (some ⟨Fd,1,none⟩),.bool false,.int .i64 2])) none:=by kernel_rfl
theorem Uc:look [0] (xa Fd old false j l)=bh 207 43 l Ua (alp Fd) none (some (21,ptr Fd)):=by kernel_rfl
theorem Ma:(L_.map fun i:Nat=>look [0,4] (Fb Fd (i:Int) j l))=L_.map (toUC l Fd):=by kernel_rfl
theorem Mb:(AM.map fun i:Nat=>ahead (Fb Fd (i:Int) j (UB Fd c cs v z)).1)=AM.map fun i:Nat=>some (170,#[]):=by kernel_rfl
theorem Mc:(AM.map fun i:Nat=>bD PR 6 ((Fb Fd (i:Int) j (UB Fd (cout fn tmps todo kind ro) cs v z)).1.finish unit) (Fb Fd (i:Int) j (UB Fd (cout fn tmps todo kind ro) cs v z)).2)=AM.map fun i:Nat=>(cout fn tmps todo kind ro,cs):=by kernel_rfl
theorem ahE:ahead (L8 Fd j (UB Fd c cs v z)).1=some (170,#[]):=by kernel_rfl
theorem acV:bD PR 6 ((L8 Fd j (UB Fd (cout fn tmps todo kind ro) cs v z)).1.finish unit) (L8 Fd j (UB Fd (cout fn tmps todo kind ro) cs v z)).2=(cout fn tmps todo kind ro,cs):=by kernel_rfl
theorem ahF:ahead (L9 Fd j (UB Fd c cs v z)).1=some (170,#[]):=by kernel_rfl
theorem acW:bD PR 6 ((L9 Fd j (UB Fd (cout fn tmps todo kind ro) cs v z)).1.finish unit) (L9 Fd j (UB Fd (cout fn tmps todo kind ro) cs v z)).2=(cout fn tmps todo kind ro,cs):=by kernel_rfl
theorem aoY:(PR.funcs[207]?).any (·.norace)=true:=by kernel_rfl
end
end Ph
namespace Ph
open Conc Ren
noncomputable def uR:List Item:=match Tryz.f138.body with
 |some (.seq _ (.seq _ r6))=>[.code r6]
 |_=>[]
noncomputable def Ud:List Item:=match alM.body with
 |some (.seq _ (.seq _ (.seq _ bl)))=>[.code bl]
 |_=>[]
def X9(Fp:Nat)(sl:Value):=[(4,ptr Fp),(6,sl)]
noncomputable def CL0 (Fp:Nat) (sl:Value) (j:Nat->Value) (l:List _):=bD PR 60 (zj 138 39 uR (sA (X9 Fp sl)) j) l
noncomputable def CL1 (Fp Fd:Nat) (sl:Value) (j:Nat->Value) (l:List _):=bD PR 8 ((CL0 Fp sl j l).1.finish (ptr Fd)) (CL0 Fp sl j l).2
noncomputable def ahI (Fp Fd:Nat) (sl:Value) (j:Nat->Value) (l:List _):=(CL1 Fp Fd sl j l).2.headD bot
noncomputable def ccl (Fp Fd:Nat) (sl:Value) (j:Nat->Value) (l:List _):=(CL1 Fp Fd sl j l).2.tail
noncomputable def CL2 (Fp Fd:Nat) (a:Option _) (n cap:Nat) (j:Nat->Value) (l:List _):=bD PR 14 ((ahI Fp Fd (.slice a n cap) j l).finish unit) (ccl Fp Fd (.slice a n cap) j l)
section
variable{Fp Fd n cap ch Wg By Rf Sg:Nat}{sl work v:Value}{a:Option Addr}{j j2:Nat->Value}{l:List Frame}{T:Array Value}{x:Int}
theorem cl0:jC (CL0 Fp sl j l).1=some (182,ptr Fp):=by kernel_rfl
theorem ahJ:(CL0 Fp sl j l).1.fn=138:=by kernel_rfl
theorem cl1:CL1 Fp Fd sl j l=(alH PR 160 #[ptr Fd] .normal,ahI Fp Fd sl j l::ccl Fp Fd sl j l):=by kernel_rfl
theorem cl2:look [0,1,15,16,17] (CL2 Fp Fd a n cap j l)=⟨ccl Fp Fd (.slice a n cap) j l,140,Ud,[dcall 161 #[ptr Fd]],.run,.normal,none,48,[ptr Fd,.slice a n cap,.slice a n cap,.int .i64 n,.int .i64 0],none,none⟩:=by kernel_rfl
noncomputable def wfr (ch Wg:Nat) (work v:Value) (j:Nat->Value):=(WG ch Wg work v true j).2.headD bot
noncomputable def CL3 (Fp Fd:Nat) (sl:Value) (j j2:Nat->Value) (T:Array _) (ch Wg:Nat) (work v:Value):=bD PR 60 (cout 140 T [] .normal none) (ccl Fp Fd sl j [wfr ch Wg work v j2,bot])
theorem cl3:Ol [0,1,2,8] (CL3 Fp Fd sl j j2 T ch Wg (dL By Rf Sg Fp) (.int .i64 x))=Om Wg [bot] Im (alW ch Wg (dL By Rf Sg Fp)):=by kernel_rfl
theorem Me:(WG ch Wg (dL By Rf Sg Fp) (.int .i64 x) true j).2=[wfr ch Wg (dL By Rf Sg Fp) (.int .i64 x) j,bot]:=by kernel_rfl
def acX(Fd:Nat)(T:Array Value):Frame:=⟨140,T,[],[dcall 161 #[ptr Fd]],.run,.normal,none⟩
theorem cl4:bD PR 2 (acX Fd T) l=(alH PR 161 #[ptr Fd] .deferred,cout 140 T [] .normal none::l):=by kernel_rfl
theorem aoZ:(PR.funcs[138]?).any (·.norace)=false:=by kernel_rfl
theorem Ue:ua PR (isAgg 182)=some false:=by kernel_rfl
end
end Ph
namespace Ph
open Conc Ren
open Lock (Word PC Mv bn low dec)
theorem Uf(m:Word):(nv m%8==0&&!(nv m/8==0))=!(decide (m.W=0\/m.L=true\/m.K=true\/m.S=true)):=by
 have h:nv m%8=bn m.L+2 *bn m.K+4 *bn m.S:=by
  have:=Lock.qg m.L;have:=Lock.qg m.K;have:=Lock.qg m.S;unfold nv;omega
 rw[Cm,h];by_cases hW:m.W=0<;>cases m.L<;>cases m.K<;>cases m.S<;>simp[bn,hW]
namespace Env
theorem Qj{E:Env}{X:Nat->Prop}{D:(Nat->Prop)->(Nat->Prop)->Goroutine->World->Prop}{site:List _}{al:List _}{l:List _}(hf:uo fn n site (sA al) f)(k:∀j w3,aP E.U S w w3->E.Tree PR false D S X (G (bD PR 300 ((zj fn n site (sA al) j).finish v) l).1 (bD PR 300 ((zj fn n site (sA al) j).finish v) l).2) w3):E.Tree PR false D S X (G (f.finish v) l) w:=by
 rw[hf.eq];exact alE 300 fun w3 hr=>k _ w3 hr
section
variable{E:Env}{A:(Nat->Prop)->(Nat->Prop)->Goroutine->World->Prop}{S X:Nat->Prop}{Fx:World->Prop}{fn:FuncId}{tmps:Array Value}{todo:List Item}{kind:CallKind}{ro:Option Nat}{cs:List Frame}
def Out(E:Env)(A:(Nat->Prop)->(Nat->Prop)->Goroutine->World->Prop)(S X:Nat->Prop)(Fx:World->Prop)(c:Frame)(cs:List _):=∀k w,Fx w->E.Tree PR false (E.eJ PR A k .recv) S X (G c cs) w
variable(K:E.Kn S Fx)(hT:Out E A S X Fx (cout fn tmps todo kind ro) cs)
include K hT
theorem On{l:List _}(h:ahead f=some (170,#[]))(hn:bD PR 6 (f.finish unit) l=(cout fn tmps todo kind ro,cs))(k:Nat)(hF:Fx w):E.Tree PR false (E.eJ PR A k .ue) S X (G f l) w:=by
 refine .stop ?_;cases k with
 |zero=>trivial
 |succ k=>
  refine⟨rfl,rfl,fun w2 hr=>⟨G (f.finish unit) l,dO (by simp) LX h,alE 6 fun w3 bV=>?_⟩⟩;rw[hn];exact hT k w3 (K.rely (K.rely hF hr) bV)
omit K hT in
theorem wrap_u32(h:cc<=1):IntKind.u32.wrap (cc+1)=((cc+1:Nat)):=by
 have:cc=0\/cc=1:=by omega
 rcases this with rfl|rfl<;>rfl
theorem ahK{r:Frame×List _}(h:zk 207 43 (UB E.Fd (cout fn tmps todo kind ro) cs v z) L7 (alp E.Fd) (some (220,#[.pointer (some E.ms),.bool false,.int .i64 2])) none r)(k:Nat)(hF:Fx w):E.Tree PR false (E.eJ PR A k (.un .us)) S X (G r.1 r.2) w:=by
 refine .stop ?_;cases k with
 |zero=>trivial
 |succ k=>
  refine⟨rfl,rfl,fun w2 m cc hr hM ib nC hW hc=>.inr ?_⟩;have aA:=kD (main:=false) (cs:=r.2) XP h.call rfl hM.qh (hM.thaw 1);rw[wrap_u32 hc]at aA;refine⟨_,m,cc+1,_,_,_,Mv.us m cc,aA,hM.yT _,Eff.set _ _ _ _,EvA.sem _ _ (by omega),fun _=>wc XP h.call,?_⟩;refine Qj h.fr fun j w3 bV=>?_;rw[h.callers];exact On K hT ahE acV k (K.rely (K.Ap (K.rely hF hr) hM (Eff.set _ _ _ _) (hM.yT _)) bV)
theorem ahL{r:Frame×List _}(h:zk 207 43 (UB E.Fd (cout fn tmps todo kind ro) cs v z) L6 (alp E.Fd) (some (220,#[.pointer (some E.ms),.bool true,.int .i64 2])) none r)(k:Nat)(hF:Fx w):E.Tree PR false (E.eJ PR A k (.un .uh)) S X (G r.1 r.2) w:=by
 refine .stop ?_;cases k with
 |zero=>trivial
 |succ k=>
  refine⟨rfl,rfl,fun w2 m cc hr hM ib nC hW hc=>.inr ?_⟩;have aA:=kD (main:=false) (cs:=r.2) XP h.call rfl hM.qh (hM.thaw 1);rw[wrap_u32 hc]at aA;refine⟨_,m,cc+1,_,_,_,Mv.uh m cc,aA,hM.yT _,Eff.set _ _ _ _,EvA.sem _ _ (by omega),fun _=>wc XP h.call,?_⟩;refine Qj h.fr fun j w3 bV=>?_;rw[h.callers];exact On K hT ahF acW k (K.rely (K.Ap (K.rely hF hr) hM (Eff.set _ _ _ _) (hM.yT _)) bV)
theorem ahM:∀k {v:Value} {z:Int} {old:Word} {r:Frame×List _} {w:World},zk 207 43 (UB E.Fd (cout fn tmps todo kind ro) cs v z) L5 (al2 E.Fd (nv old)) (some (204,#[ptr E.Fd,.int .i32 (nv old),.int .i32 (val {old with W:=old.W-1,K:=true})])) none r->Fx w->E.Tree PR false (E.eJ PR A k (.un (.uc old))) S X (G r.1 r.2) w:=by
 intro k;induction k using ame with
 |_ k ih=>
 intro v z old r w h hF;refine .stop ?_;cases k with
 |zero=>trivial
 |succ k=>
  refine⟨rfl,rfl,fun w2 m cc hr hM ib nC hW hc=>.inr ?_⟩;by_cases hm:m=old
  ·subst hm;refine⟨_,_,cc,G _ r.2,_,_,Mv.ucy m cc,iR Ii h.call hM.cell0 (hM.thaw 0),hM.oJ _,Eff.set _ _ _ _,EvA.two _ _ (by omega),fun aV=>by omega,Qj h.fr fun j w3 bV=>?_⟩;rw[h.callers];have h1:=cm (Ub (Fd:=E.Fd) (old:=(nv m)) (j:=j) (l:=UB E.Fd (cout fn tmps todo kind ro) cs v z)) rfl;exact ahK K hT h1 k (K.rely (K.Ap (K.rely hF hr) hM (Eff.set _ _ _ _) (hM.oJ _)) bV)
  ·refine⟨_,_,cc,G _ r.2,_,_,Mv.ucn m old cc hm,h_ Ii h.call hM.cell0 (hM.thaw 0) (fun e=>hm (val_inj e)),hM,Eff.refl _ _,EvA.one _ _ _ (by omega),fun aV=>by omega,Qj h.fr fun j w3 bV=>?_⟩;rw[h.callers];have h1:=cm (Uc (Fd:=E.Fd) (old:=(nv old)) (j:=j) (l:=UB E.Fd (cout fn tmps todo kind ro) cs v z)) rfl;have wY:=K.rely (K.rely hF hr) bV;change E.Tree PR _ _ S X (G (xa _ _ _ j _).1 (xa _ _ _ j _).2) w3;refine .stop ?_;cases k with
   |zero=>trivial
   |succ k=>
    refine⟨rfl,rfl,fun w4 m4 c4 lQ hM4 awQ asE hW4 hc4=>.inr ?_⟩;refine⟨_,m4,c4,_,w4,#[],Mv.ur m4 c4,oH h1.load Og hM4.cell0 (by rw[h1.fr.fn];exact aoY),hM4,Eff.refl _ _,EvA.nil _,fun aV=>by omega,?_⟩;have h8:=Uf m4;by_cases hd:m4.W=0\/m4.L=true\/m4.K=true\/m4.S=true
    ·have e:dec m4=.out:=if_pos hd;rw[e];refine Qj h1.fr fun j2 w5 lT=>?_;rw[h1.callers];have dU:nv m4∈AM:=e9 hW4 (by rw[h8];simp[hd]);exact On K hT (pP Mb dU) (pP Mc dU) k (K.rely (K.rely wY lQ) lT)
    ·have e:dec m4=.uc m4:=if_neg hd;rw[e];refine Qj h1.fr fun j2 w5 lT=>?_;rw[h1.callers];have dU:nv m4∈L_:=e9 hW4 (by rw[h8];simp[hd]);have h2:=cm (pP (Ma (Fd:=E.Fd) (j:=j2) (l:=UB E.Fd (cout fn tmps todo kind ro) cs v z)) dU) rfl;rw[Dv,Cm]at h2;exact ih k (by omega) h2 (K.rely (K.rely wY lQ) lT)
end
section
variable{E:Env}{A:(Nat->Prop)->(Nat->Prop)->Goroutine->World->Prop}{S X:Nat->Prop}{Fx:World->Prop}{fn:FuncId}{tmps:Array Value}{todo:List Item}{kind:CallKind}{ro:Option Nat}{cs:List Frame}
theorem X_{m:Word}(h:m.L=true)(hW:m.W<=8):IntKind.i32.wrap (val m+ -1)=val (low m):=by
 have bK:=Lock.qg m.K;have bS:=Lock.qg m.S;have b1:bn true=1:=rfl;have b0:bn false=0:=rfl;unfold val low;simp only[h,b1];have e:((1+2 *bn m.K+4 *bn m.S+8 *m.W:Nat))+ -1=((0+2 *bn m.K+4 *bn m.S+8 *m.W:Nat):Int):=by omega
 rw[e];exact wrap_small (by omega)
theorem Qk(bj:∀i,¬E.U E.Mp i)(Ql:S E.Mp)(K:E.Kn (fun a=>S a/\a≠E.Mp) Fx)(hT:Out E A (fun a=>S a/\a≠E.Mp) (fun a=>X a/\a≠E.Mp) Fx (cout fn tmps todo kind ro) cs){γ:E.Γ}(k:Nat)(hF:Fx w)(hm:E.iA γ (w.heap[E.Mp]?)):
  E.Tree PR false (E.eJ PR A k (.ur γ)) S X (G (alH PR 161 #[ptr E.Fd] .deferred) (cout fn tmps todo kind ro::cs)) w:=by
 have mp:∀{w w2:World},aP E.U S w w2->E.iA γ (w.heap[E.Mp]?)->E.iA γ (w2.heap[E.Mp]?):=by
  intro w w2 hr h;rw[(hr.kept _ Ql).eq fun i hu=>bj i hu];exact h
 have kr:∀{w w2:World},Fx w->aP E.U S w w2->Fx w2:=fun h hr=>K.rely h (Dk (fun a ha=>ha.1) hr);refine alE 60 fun w1 dE=>?_;change E.Tree PR _ _ S X (G (UA0 _ _ cs).1 _) w1;refine alL rfl fun w2 fU=>?_;have vC:=kr (kr hF dE) fU;have W4:=mp fU (mp dE hm);obtain⟨v,hv⟩:=(K.fd vC).cell0;refine⟨_,w2,#[],S,X,oH ua0 Og hv (by rw[ahD];exact aoW),aL S X w2,alE 60 fun w3 bV=>?_⟩;refine alL rfl fun w4 lQ=>?_;have Gb:=kr (kr vC bV) lQ;have hm4:=mp lQ (mp bV W4);obtain⟨v4,hv4⟩:=(K.fd Gb).cell0;refine⟨_,w4,#[],S,X,iz ua1 acD Ij i187 hv4,aL S X w4,alE 60 fun w5 lT=>?_⟩;have Qb:=kr Gb lT;have hm5:=mp lT hm4;refine .stop ?_;cases k with
 |zero=>trivial
 |succ k=>
  refine⟨rfl,rfl,fun w6 tC=>⟨mp tC hm5,G _ _,iy (by simp) agU ua2,alE 60 fun w7 pW=>?_⟩⟩;have hF7:=K.rely (kr Qb tC) pW;refine .stop ?_;cases k with
  |zero=>trivial
  |succ k=>
   refine⟨rfl,rfl,fun w8 CO=>⟨G _ _,dO (by simp) T2 ua3,alE 60 fun w9 L4=>?_⟩⟩;refine .stop ?_;cases k with
   |zero=>trivial
   |succ k=>
    refine⟨rfl,rfl,fun wA m cc BR hM ib nC hW hc=>.inr ?_⟩;have aA:=uf (main:=false) (cs:=(UA4 E.Fd (cout fn tmps todo kind ro) cs v).2) agV (ua4 (c:=cout fn tmps todo kind ro) (cs:=cs) (v:=v)) hM.cell0 (hM.thaw 0);rw[X_ nC hW]at aA;refine⟨_,_,cc,_,_,_,Mv.u0 m cc,aA,hM.oJ _,Eff.set _ _ _ _,EvA.two _ _ (by omega),fun aV=>by omega,alE 300 fun wB Qe=>?_⟩;have hFB:=K.rely (K.Ap (K.rely (K.rely (K.rely hF7 CO) L4) BR) hM (Eff.set _ _ _ _) (hM.oJ _)) Qe;have lW:=hW;have l2:(nv (low m)%2==0)=true:=by rw[ic,LU];rfl
    cases hS2:m.S with
    |true=>
     have dU:nv (low m)∈uhs:=e9 lW (by rw[l2,Cl];exact hS2);have h1:=cm (pP (X8 (Fd:=E.Fd) (c:=cout fn tmps todo kind ro) (cs:=cs) (v:=v)) dU) rfl;exact ahL K hT h1 k hFB
    |false=>
     have hS3:(nv (low m)/4%2==0)=true:=by
      rw[ic,Cl];show(!m.S)=true
      rw[hS2];rfl
     by_cases hd:m.W=0\/m.K=true
     ·have e:dec (low m)=.out:=if_pos (hd.imp id fun y=>.inr (.inl y));rw[e];have dU:nv (low m)∈outs:=e9 lW (by
       rw[l2,hS3,Cm,LW];show(true&&true&&(m.W==0||m.K))=true
       rcases hd with y|y<;>simp[y])
      exact On K hT (pP X6 dU) (pP T_ dU) k hFB
     ·have e:dec (low m)=.uc _:=if_neg fun y=>by
       rcases y with y|y|y|y
       ·exact hd (.inl y)
       ·cases y
       ·exact hd (.inr y)
       ·exact absurd (hS2.symm.trans y) (by simp)
      rw[e];have dU:nv (low m)∈ucs:=e9 lW (by
       rw[l2,hS3,Cm,LW];show(true&&true&&!(m.W==0||m.K))=true
       simp_all)
      have h1:=cm (pP (X7 (Fd:=E.Fd) (c:=cout fn tmps todo kind ro) (cs:=cs) (v:=v)) dU) rfl;rw[Dv,Cm]at h1;exact ahM K hT k h1 hFB
end
end Env
end Ph
namespace Ph
open Conc Ren
theorem km{U:Nat->Nat->Prop}{X:Nat->Prop}{a:Addr}(h:S a.block)(hu:¬U a.block a.off):iF U S X w w #[⟨.cell a,false,false⟩] S X:=
 ⟨⟨fun _ _ _=>rfl,al8 _,fun a=>⟨.inl,fun h=>h.resolve_right fun y=>by omega⟩,fun a=>⟨.inl,fun h=>h.resolve_right fun y=>by omega⟩,fun e he=>by
  simp at he;subst he;exact .inl ⟨a,rfl,rfl,.inl ⟨h,fun y=>by cases y⟩⟩,rfl,.refl _,rfl⟩,fun e he b hb=>by simp_all⟩
structure Mf(Fd:Nat)(a:Option Addr)(n cap:Nat)(f:Frame):Prop where
 fn:f.fn=140
 todo:f.todo=Ud
 defers:f.defers=[dcall 161 #[ptr Fd]]
 mode:f.mode=.run
 kind:f.kind=.normal
 round:f.roundOf=none
 size:f.tmps.size=48
 s0:f.tmps.getD 0 undef=ptr Fd
 s1:f.tmps.getD 1 undef=.slice a n cap
 s15:f.tmps.getD 15 undef=.slice a n cap
 s16:f.tmps.getD 16 undef=.int .i64 (n:Int)
 s17:f.tmps.getD 17 undef=.int .i64 0
namespace Env
structure Ug(E:Env)(Hs:Nat->Option Addr->Nat->(Nat->Prop)->(Nat->Prop)->World->Prop):Prop where
 rely:∀{x:Nat} {a:Option Addr} {n:Nat} {S X:Nat->Prop} {w w2:World},Hs x a n S X w->aP E.U S w w2->Hs x a n S X w2
 Ap:∀{x:Nat} {a:Option Addr} {n:Nat} {S X:Nat->Prop} {w w1:World},Hs x a n S X w->Eff E.Fd w w1->Hs x a n S X w1
 more:∀{x:Nat} {a:Option Addr} {n:Nat} {S X S' X':Nat->Prop} {w:World},Hs x a n S X w->(∀b,S b->S' b)->(∀b,X b->X' b)->Hs x a n S' X' w
section
variable(E:Env)(ch:Nat)(ok:Nat->Prop)(By Rf Sg Fp:Nat)(RO:Nat->Prop)(Fx:World->Prop)(Hs:Nat->Option Addr->Nat->(Nat->Prop)->(Nat->Prop)->World->Prop)
def Uh:Prop:=∀(D:(Nat->Prop)->(Nat->Prop)->Goroutine->World->Prop) (x:Nat) (S X:Nat->Prop) (j:Nat->Value) (w:World),ok x->E.Qh RO S X->Fx w->
 (∀S' X' f' w' a n cap,E.Qh RO S' X'->Fx w'->uo 138 39 uR (sA (X9 Fp (.slice a n cap))) f'->Hs x a n S' X' w'->E.Tree PR false D S' X' (G f' [wfr ch E.Wg (dL By Rf Sg Fp) (.int .i64 (x:Int)) j,bot]) w')->
 E.Tree PR false D S X (G (WG ch E.Wg (dL By Rf Sg Fp) (.int .i64 (x:Int)) true j).1 [wfr ch E.Wg (dL By Rf Sg Fp) (.int .i64 (x:Int)) j,bot]) w
def aam:Prop:=∀(D:(Nat->Prop)->(Nat->Prop)->Goroutine->World->Prop) (x:Nat) (γ:E.Γ) (S X:Nat->Prop) (f:Frame) (l:List Frame) (w:World) (a:Option Addr) (n cap:Nat),ok x->(∀b,RO b->S b)->(∀b,RO b->¬X b)->S E.Mp->X E.Mp->Fx w->Hs x a n S X w->E.iA γ (w.heap[E.Mp]?)->Mf E.Fd a n cap f->
 (∀S' X' T w',(∀b,RO b->S' b)->(∀b,RO b->¬X' b)->S' E.Mp->Fx w'->E.iA (E.upd γ x) (w'.heap[E.Mp]?)->E.Tree PR false D S' X' (G (acX E.Fd T) l) w')->E.Tree PR false D S X (G f l) w
variable{E ch ok By Rf Sg Fp RO Fx Hs}
theorem Mg(bj:∀i,¬E.U E.Mp i)(K:E.AL RO Fx)(KE:∀{w w1:World} {m m':Lock.Word} {c c':Nat},Fx w->E.MuAt w m c->Eff E.Fd w w1->E.MuAt w1 m' c'->Fx w1)(KL:∀{w:World},Fx w->Fx w.later)(HO:E.Ug Hs)
  (fL:RO E.Fd)(hrw:RO E.Wg)(hFp:RO Fp)(hFu:¬E.U Fp 0)(hFv:∀w,Fx w->w.cell? ⟨Fp,0,none⟩=some (ptr E.Fd))(hRM:¬RO E.Mp)(ahO:Uh E ch ok By Rf Sg Fp RO Fx Hs)(hAdd:aam E ok RO Fx Hs):w_ E ch ok (dL By Rf Sg Fp) RO Fx:=by
 intro k x S X j w hx hW hF;rw[Me];refine ahO _ x S X j w hx hW hF fun S' X' f' w' a n cap hW' hF' hf' hH=>?_;rw[hf'.eq];generalize(fun i=>f'.tmps.getD i _)=j6;have kn:E.Kn S' (fun w=>Fx w/\Hs x a n S' X' w):=by
  refine⟨fun h hr=>⟨K.rely S' _ _ hW'.ro h.1 hr,HO.rely h.2 hr⟩,fun h=>K.fd _ h.1,fun h hM he hM'=>⟨KE h.1 hM he hM',HO.Ap h.2 he⟩,fun h=>⟨KL h.1,HO.Ap h.2 (Eff.later _ _)⟩⟩
 refine alE 60 fun w1 dE=>?_;change E.Tree PR _ _ S' X' (G (CL0 Fp _ j6 _).1 _) w1;refine alL rfl fun w2 fU=>?_;have h2:=kn.rely (kn.rely ⟨hF',hH⟩ dE) fU;refine⟨_,w2,_,S',X',ez cl0 Ue (hFv _ h2.1) (by rw[ahJ];exact aoZ),km (hW'.ro _ hFp) hFu,alE 8 fun w3 bV=>?_⟩;change E.Tree PR _ _ S' X' (G (CL1 Fp _ _ j6 _).1 (CL1 Fp _ _ j6 _).2) w3;rw[cl1];refine XU bj kn ?_ k (kn.rely h2 bV);intro k w4 γ h4 hm;refine alE 14 fun w5 lT=>?_;have hS5:∀b,RO b->(S' b\/b=E.Mp):=fun b hb=>.inl (hW'.ro b hb);have Qb:=K.rely _ _ _ hS5 h4.1 lT;have hH5:Hs x a n _ (fun b=>X' b\/b=E.Mp) w5:=HO.rely (HO.more h4.2 (fun b hb=>.inl hb) (fun b hb=>.inl hb)) lT;have hm5:E.iA γ (w5.heap[E.Mp]?):=by
  rw[(lT.kept _ (.inr rfl)).eq fun i hu=>bj i hu];exact hm
 have hl:=cl2 (Fp:=Fp) (Fd:=E.Fd) (a:=a) (n:=n) (cap:=cap) (j:=j6) (l:=[wfr ch E.Wg (dL By Rf Sg Fp) (.int .i64 x) j,bot]);change E.Tree PR _ _ _ _ (G (CL2 Fp _ a n cap j6 _).1 (CL2 Fp _ a n cap j6 _).2) w5;generalize CL2 Fp _ a n cap j6 _=r at hl;simp only[look,Ar.mk.injEq,List.map_cons,List.cons.injEq]at hl;obtain⟨e1,e2,e3,e4,e5,e6,e7,e8,⟨g0,g1,g15,g16,g17,_⟩,_⟩:=hl;rw[e1];refine hAdd _ x γ _ _ r.1 _ w5 a n cap hx hS5 (fun b hb h=>h.elim (hW'.Ds b hb) fun e=>hRM (e▸hb)) (.inr rfl) (.inr rfl) Qb hH5 hm5 ⟨e2,e3,e4,e5,e6,e7,e8,g0,g1,g15,g16,g17⟩ fun S2 X2 T w6 hS2 hX2 Ql L3 hm6=>?_;refine alE 2 fun w7 pW=>?_;rw[cl4];have hF7:=K.rely _ _ _ hS2 L3 pW;have hm7:E.iA (E.upd γ x) (w7.heap[E.Mp]?):=by
  rw[(pW.kept _ Ql).eq fun i hu=>bj i hu];omega
 have hS3:∀b,RO b->(S2 b/\b≠E.Mp):=fun b hb=>⟨hS2 b hb,fun e=>hRM (e▸hb)⟩;refine Qk bj Ql ⟨fun h hr=>K.rely _ _ _ hS3 h hr,fun h=>K.fd _ h,fun h hM he hM'=>KE h hM he hM',fun h=>KL h⟩ ?_ k hF7 hm7;intro k w8 hF8;refine alE 60 fun w9 L4=>?_;obtain⟨h1,h2,_⟩:=T9 (cl3) rfl;change E.Tree PR _ _ _ _ (G _ (CL3 Fp _ _ j6 j T ch _ _ _).2) w9;rw[h1];have:AtRecv E ch _ RO Fx _ (fun b=>X2 b/\b≠E.Mp) _ w9:=
  ⟨_,rfl,h2,⟨hS3,fun h=>h.2 rfl,fun h=>h.2 rfl,fL,hrw,fun b hb h=>hX2 b hb h.1⟩,K.rely _ _ _ hS3 hF8 L4⟩
 exact .stop (by unfold eJ;exact this)
end
end Env
end Ph
namespace Ren
structure Qm where
 cV:FuncId->Bool
 WM:Nat->Bool
 AN:String->Bool
 Cn:Bool
 wall:Array Oper->Bool:=fun _=>false
def jl:Nat->Value->Bool
 |_,.bool _|_,.int .. |_,.string _|_,.pointer none|_,.slice none _ _|_,.map none|_,.chan none|_,.nilFunc|_,.nilIface=>true
 |n+1,.agg c|n+1,.tuple c=>c.all (jl n)
 |n+1,.iface _ v=>jl n v
 |_,_=>false
theorem oN[ak]{r:Rn}:∀{n:Nat} {v:Value},jl n v=true->V r v v:=by
 intro n;induction n with
 |zero=>
  intro v h;cases v with
  |bool b=>exact .bool b
  |int k m=>exact .int k m
  |string s=>exact .string s
  |pointer a=>cases a with|none=>exact .nilPtr|some _=>simp[jl]at h
  |slice a l c=>cases a with|none=>exact .bt l c|some _=>simp[jl]at h
  |map a=>cases a with|none=>exact .ik|some _=>simp[jl]at h
  |chan a=>cases a with|none=>exact .fW|some _=>simp[jl]at h
  |nilFunc=>exact .nilFunc
  |nilIface=>exact .nilIface
  |_=>simp[jl]at h
 |succ n ih=>
  intro v h;have arr:∀(c:Array _),c.all (jl n)=true->∀(i:Nat) x x',c[i]?=some x->c[i]?=some x'->V r x x':=by
   intro c hc i x x' e e';obtain rfl:=alX (e.symm.trans e');obtain⟨hi,rfl⟩:=alZ.1 e;simp_all
  cases v with
  |bool b=>exact .bool b
  |int k m=>exact .int k m
  |string s=>exact .string s
  |pointer a=>cases a with|none=>exact .nilPtr|some _=>simp[jl]at h
  |slice a l c=>cases a with|none=>exact .bt l c|some _=>simp[jl]at h
  |map a=>cases a with|none=>exact .ik|some _=>simp[jl]at h
  |chan a=>cases a with|none=>exact .fW|some _=>simp[jl]at h
  |nilFunc=>exact .nilFunc
  |nilIface=>exact .nilIface
  |agg c=>exact .agg rfl (arr c h)
  |tuple c=>exact .tuple rfl (arr c h)
  |iface t v=>exact .iface t (ih h)
  |_=>simp[jl]at h
section
variable(K:Qm)(P:Program)
def jj:Operand->Bool
 |.tmp _=>true
 |.const v=>jl 4 v
 |.global g=>K.WM g
 |.func f=>K.cV f
def Ui:Option Operand->Bool
 |none=>true
 |some x=>jj K x
def nY:TypeDesc->Bool
 |.int _|.string|.bool=>true
 |_=>false
def qN(t:TypeId):Bool:=
 match P.underlying t with
 |some (.map k _)=>match P.underlying k with
  |some d=>nY d
  |none=>true
 |_=>true
def WJ(t:TypeId)(y:Operand):=
 !P.eqGuardType P.depth t&&match P.underlying t with
 |some (.pointer _)=>K.Cn
 |some (.interface _)=>match y with
  |.const .nilIface=>true
  |_=>false
 |some d=>nY d
 |none=>true
def Ya(t:TypeId):Bool:=
 match P.underlying t with
 |some (.int .u8)=>true
 |_=>false
def cvB(s d:TypeId):Bool:=
 match P.underlying s,P.underlying d with
 |some (.int _),some (.int _)=>true
 |some (.slice e),some .string=>Ya P e
 |some .string,some (.slice e)=>Ya P e&&K.Cn
 |some (.pointer _),some .unsafePointer|some .unsafePointer,some (.pointer _)=>K.Cn
 |_,_=>false
def Oo(t:TypeId):Bool:=
 match P.underlying t with
 |some (.int _)=>false
 |_=>true
def mh(b:Builtin)(ts:Array TypeId)(n:Nat):=
 match b with
 |.append=>match ts[1]? with
  |some t=>Oo P t
  |none=>true
 |.cap=>n==1
 |.copy|.len|.min|.recover=>true
 |.unsafeSliceData=>n==1&&K.Cn
 |.unsafeString=>n==2&&K.Cn
 |_=>false
def Oq(c:Call):=
 c.args.all (jj K)&&match c.callee with
 |.value f=>jj K f
 |.invoke x name=>jj K x&&K.AN name
 |.builtin b=>mh K P b c.argTypes c.args.size
def Ir:Callee->Bool
 |.value _=>true
 |_=>false
def Ot(t:TypeId):Bool:=
 match P.underlying t with
 |some (.interface _)=>false
 |_=>true
def Fc:Op->Bool
 |.move x|.assign x|.box _ x|.load _ x|.nilCheck x|.unOp _ _ x|.makeInterface _ x|.fieldAddr _ x _|.field _ x _|.range _ x|.next x _|.entry x|.extract x _|.panic x=>jj K x
 |.pick c a b=>jj K c&&jj K a&&jj K b
 |.alloc _=>true
 |.build _ ps|.buildSlice _ _ ps=>ps.all fun p=>jj K p.2
 |.store _ a x|.makeSlice _ a x|.indexAddr _ a x|.index _ a x=>jj K a&&jj K x
 |.binOp op t x y _=>jj K x&&jj K y&&(jT op||WJ K P t y)
 |.convert s d x=>jj K x&&cvB K P s d
 |.makeFunc (.func f) first cap=>K.cV f&&first.all (jj K)&&cap.all (jj K)
 |.makeMap _ x=>Ui K x
 |.slice _ x lo hi mx=>jj K x&&Ui K lo&&Ui K hi&&Ui K mx
 |.lookup t x i _=>jj K x&&jj K i&&qN P t
 |.mapUpdate t m k x=>jj K m&&jj K k&&jj K x&&qN P t
 |.typeAssert x _ a ok=>jj K x&&ok&&Ot P a
 |.call c=>Oq K P c
 |.defer c=>Oq K P c&&Ir c.callee
 |_=>false
def Fe:Op->Bool
 |.defer _=>false
 |.call c=>match c.callee with
  |.builtin .recover=>false
  |_=>true
 |_=>true
def Is(rd:Bool)(o:Oper):=Fc K P o.op&&(!rd||Fe o.op)
def fQ(rd:Bool):Code->Bool
 |.skip|.label _|.exit _|.goto _|.ret=>true
 |.refuse y=>!(y== "")
 |.region _ ops _=>K.wall ops||ops.all (Is K P rd)
 |.seq a b=>fQ rd a&&fQ rd b
 |.cond c a b=>jj K c&&fQ rd a&&fQ rd b
 |.block _ c|.loop c|.scope c=>fQ rd c
 |.rangeFunc f _ aBN bd=>jj K f&&fQ true aBN&&fQ true bd
@[reducible] def Qm.fK(ro:Nat->Prop)(qH:Nat->Nat->Prop)(rest:List Item->Prop)(pD:List Deferred->Prop):ak where
 size:=P.globals.size
 cV f:=K.cV f=true
 code c:=fQ K P true c=true
 methods n:=K.AN n=true
 WM g:=K.WM g=true
 wall ops:=K.wall ops=true
 ro:=ro
 qH:=qH
 rest:=rest
 pD:=pD
end
section
variable{K:Qm}{P:Program}{ro:Nat->Prop}{qH:Nat->Nat->Prop}{rest:List Item->Prop}{pD:List Deferred->Prop}(fL:K.Cn=true->∀b,¬ro b)
theorem iC{x:Operand}(h:jj K x=true):@cM (K.fK P ro qH rest pD) x:=by
 letI:=K.fK P ro qH rest pD
 cases x with
 |tmp t=>trivial
 |const v=>exact fun r=>oN h
 |global g=>exact h
 |func f=>exact h
theorem Qn{x:Option _}(h:Ui K x=true):@C8 (K.fK P ro qH rest pD) x:=by
 cases x with
 |none=>trivial
 |some y=>exact iC h
theorem qj{d:TypeDesc}(h:nY d=true):plainKey d:=by
 cases d with
 |int k=>exact .inl ⟨k,rfl⟩
 |string=>exact .inr (.inl rfl)
 |bool=>exact .inr (.inr rfl)
 |_=>simp[nY]at h
theorem qk(h:qN P t=true):Aa P t:=by
 intro k e ht d hd;unfold qN at h;rw[ht]at h;simp[hd]at h;exact qj h
include fL in
theorem Uj(h:WJ K P t y=true):@ZT (K.fK P ro qH rest pD) P t y:=by
 unfold WJ at h;simp at h;obtain⟨h1,h2⟩:=h;refine⟨h1,?_⟩;cases hu:P.underlying t with
 |none=>exact .inl ⟨.inl (fun d e=>by simp_all),fun he=>by simp_all⟩
 |some d=>
  rw[hu]at h2;have plain:nY d=true->SJ P t:=fun hp=>.inl fun d' e=>by rw[hu]at e;cases e;exact qj hp
  cases d with
  |pointer e=>exact .inl ⟨.inr ⟨e,hu⟩,fun _=>fL h2⟩
  |interface m=>
   refine .inr ⟨?_,m,rfl⟩;simp only at h2;split at h2
   ·rfl
   ·cases h2
  |_=>exact .inl ⟨plain h2,fun he=>by simp_all⟩
theorem Iu(h:Ya P t=true):P.underlying t=some (.int .u8):=by
 unfold Ya at h;split at h
 ·omega
 ·cases h
include fL in
theorem Uk{d:TypeId}(h:cvB K P s d=true):G_ P s d/\((∃k,P.underlying s=some (.int k))\/(∃e,P.underlying s=some (.slice e))\/∀b,¬ro b):=by
 unfold cvB at h;split at h
 ·rename_i a b;exact⟨.int a b,.inl ⟨_,a⟩⟩
 ·rename_i a b;exact⟨.toStr a (Iu h) b,.inr (.inl ⟨_,a⟩)⟩
 ·rename_i a b;simp at h;exact⟨.toBytes a b (Iu h.1),.inr (.inr (fL h.2))⟩
 ·rename_i a b;exact⟨.toUns a b,.inr (.inr (fL h))⟩
 ·rename_i a b;exact⟨.NH a b,.inr (.inr (fL h))⟩
 ·cases h
include fL in
theorem Co{b:Builtin}{ts:Array _}(h:mh K P b ts n=true):@vV (K.fK P ro qH rest pD) P b ts n:=by
 cases b with
 |append=>
  intro xT d hx hd k e;subst e;unfold mh at h;simp only[hx,Oo,hd]at h;cases h
 |cap=>exact(by simpa[mh]using h:n=1)
 |copy=>trivial
 |len=>trivial
 |min=>trivial
 |recover=>trivial
 |unsafeSliceData=>simp[mh]at h;exact⟨h.1,fL h.2⟩
 |unsafeString=>simp[mh]at h;exact⟨h.1,fL h.2⟩
 |_=>simp[mh]at h
theorem sJ{l:Array _}(h:l.all (jj K)=true):∀x∈l,@cM (K.fK P ro qH rest pD) x:=fun x hx=>iC (alG.1 h x hx)
include fL in
theorem AP{c:Call}(h:Oq K P c=true):@EK (K.fK P ro qH rest pD) P c:=by
 unfold Oq at h;simp only[alB]at h;refine⟨sJ h.1,?_⟩;have h2:=h.2;cases hc:c.callee with
 |value f=>rw[hc]at h2;exact iC h2
 |invoke x name=>rw[hc]at h2;simp at h2;exact⟨iC h2.1,h2.2⟩
 |builtin b=>rw[hc]at h2;exact Co fL h2
include fL in
theorem Iv{o:Op}(h:Fc K P o=true):@WW (K.fK P ro qH rest pD) P o:=by
 have od:=@iC K P ro;have ot:=@Qn K P ro;cases o with
 |pick c a b=>simp only[Fc,alB]at h;exact⟨od h.1.1,od h.1.2,od h.2⟩
 |alloc e=>trivial
 |build t ps=>exact fun p hp=>od (alG.1 h p hp)
 |buildSlice t n ps=>exact fun p hp=>od (alG.1 h p hp)
 |store t a x=>simp only[Fc,alB]at h;exact⟨od h.1,od h.2⟩
 |makeSlice t a x=>simp only[Fc,alB]at h;exact⟨od h.1,od h.2⟩
 |indexAddr t a x=>simp only[Fc,alB]at h;exact⟨od h.1,od h.2⟩
 |index t a x=>simp only[Fc,alB]at h;exact⟨od h.1,od h.2⟩
 |binOp op t x y yt=>simp only[Fc,alB,al4]at h;exact⟨od h.1.1,od h.1.2,h.2.imp id (Uj fL)⟩
 |convert s d x=>simp only[Fc,alB]at h;exact⟨od h.1,Uk fL h.2⟩
 |makeFunc fn first cap=>
  cases fn with
  |func f=>simp only[Fc,alB]at h;exact⟨⟨f,rfl,h.1.1⟩,sJ h.1.2,sJ h.2⟩
  |_=>simp[Fc]at h
 |makeMap t x=>exact ot h
 |slice t x lo hi mx=>simp only[Fc,alB]at h;exact⟨od h.1.1.1,ot h.1.1.2,ot h.1.2,ot h.2⟩
 |lookup t x i ok=>simp only[Fc,alB]at h;exact⟨od h.1.1,od h.1.2,qk h.2⟩
 |mapUpdate t m k x=>simp only[Fc,alB]at h;exact⟨od h.1.1.1,od h.1.1.2,od h.1.2,qk h.2⟩
 |typeAssert x xt a ok=>
  simp only[Fc,alB]at h;refine⟨od h.1.1,h.1.2,fun ms e=>?_⟩;have:=h.2;simp[Ot,e]at this
 |call c=>exact AP fL h
 |defer c=>
  simp only[Fc,alB]at h;refine⟨AP fL h.1,?_⟩;have:=h.2;cases hc:c.callee with
  |value f=>exact⟨f,rfl⟩
  |_=>rw[hc]at this;simp[Ir]at this
 |_=>first|exact od h|(simp[Fc]at h)
include fL in
theorem AQ{o:Oper}(h:Is K P rd o=true):@vW (K.fK P ro qH rest pD) P rd o:=by
 simp[Is,alB,al4]at h;refine⟨Iv fL h.1,fun hr=>?_⟩;have h2:=h.2.elim (fun x=>by simp_all) id;refine⟨fun c e=>by rw[e]at h2;simp[Fe]at h2,fun c e e2=>by rw[e]at h2;simp[Fe,e2]at h2⟩
include fL in
theorem jL:∀{c:Code} {rd:Bool},fQ K P rd c=true-> @dD (K.fK P ro qH rest pD) P rd c:=by
 intro c;induction c with
 |region i ops dr=>
  intro rd h;simp only[fQ,al4]at h;exact h.imp id fun h o ho=>AQ fL (alG.1 h o ho)
 |seq a b Rp V6=>intro rd h;simp only[fQ,alB]at h;exact⟨Rp h.1,V6 h.2⟩
 |cond q a b Rp V6=>intro rd h;simp[fQ,alB]at h;exact⟨iC h.1.1,Rp h.1.2,V6 h.2⟩
 |block i d ih=>exact fun h=>ih h
 |loop d ih=>exact fun h=>ih h
 |scope d ih=>exact fun h=>ih h
 |refuse y=>intro rd h;simp[fQ]at h;exact h
 |rangeFunc f ps aBN bd Rp V6=>intro rd h;simp[fQ,alB]at h;exact⟨iC h.1.1,h.1.2,h.2⟩
 |_=>intro rd h;trivial
end
def yh:TypeDesc->Bool
 |.float _|.complex _=>false
 |_=>true
theorem Iw{info:TypeId->Option _}{fs:Array Field}{i:TypeInfo}(h:alK info fs=some i):∃out,i.desc=.struct out:=by
 unfold alK at h;simp only[bind,alA]at h;obtain⟨a,_,h⟩:=h;split at h<;>(cases h;exact⟨_,rfl⟩)
theorem reckon_desc{info:TypeId->Option TypeInfo}{d:TypeDesc}{i:TypeInfo}(h:alR info d=some i):yh i.desc=true/\∀n u,i.desc≠.named n u:=by
 unfold alR at h;cases d with
 |pointer e=>
  simp only[bind,alA]at h;obtain⟨a,_,h⟩:=h;split at h
  ·cases h
  ·split at h
   ·cases h
   ·obtain⟨_,_,h⟩:=alA.1 h;cases h;exact⟨rfl,fun _ _ x=>by cases x⟩
  ·obtain⟨_,_,h⟩:=alA.1 h;cases h;exact⟨rfl,fun _ _ x=>by cases x⟩
 |struct fs=>obtain⟨out,e⟩:=Iw h;rw[e];exact⟨rfl,fun _ _ x=>by cases x⟩
 |slice e=>simp only[bind,alA]at h;obtain⟨_,_,_,_,h⟩:=h;cases h;exact⟨rfl,fun _ _ x=>by cases x⟩
 |map k e=>simp only[bind,alA]at h;obtain⟨_,_,_,_,_,_,_,_,h⟩:=h;cases h;exact⟨rfl,fun _ _ x=>by cases x⟩
 |chan dir e=>simp only[bind,alA]at h;obtain⟨_,_,_,_,h⟩:=h;cases h;exact⟨rfl,fun _ _ x=>by cases x⟩
 |func ps rs v=>simp only[bind,alA]at h;obtain⟨_,_,h⟩:=h;cases h;exact⟨rfl,fun _ _ x=>by cases x⟩
 |array n e=>simp only[bind,alA]at h;obtain⟨_,_,_,_,h⟩:=h;cases h;exact⟨rfl,fun _ _ x=>by cases x⟩
 |_=>cases h
theorem Dy{α σ:Type}(I:σ->Prop)(g:α->σ->Option _)(hs:∀a s x,I s->g a s=some x->∃s',x=.yield s'/\I s'):∀(l:List α) s s1,I s->forIn l s g=some s1->I s1
 |[],s,s1,h0,h=>by simp_all
 |a::l,s,s1,h0,h=>by
  rw[List.forIn_cons]at h;obtain⟨x,hx,h⟩:=alA.1 h;obtain⟨s',rfl,hI⟩:=hs a s x h0 hx;exact Dy I g hs l s' s1 hI h
section
variable[ak]{r:Rn}
def Cp(r:Rn)(z:Value):=V r z z
theorem Cp.cells{z:Value}(h:Cp r z):∀x∈z.cells,V r x x:=by
 intro x hx;cases z with
 |agg c=>
  cases h with
  |agg _ hi=>
   obtain⟨i,eO,rfl⟩:=Array.mem_iff_getElem.1 hx;exact hi i _ _ (alJ eO) (alJ eO)
 |_=>simp[Value.cells,Array.mem_singleton]at hx;rw[hx];exact h
theorem Ff{c:Array _}(h:∀x∈c,V r x x):V r (.agg c) (.agg c):=.agg rfl fun i x x' e e'=>by
 obtain rfl:=alX (e.symm.trans e');exact h x (alI e)
theorem Ix{info:TypeId->Option TypeInfo}(hi:∀t i z,info t=some i->i.zero=some z->Cp r z){fs:Array Field}{i:TypeInfo}(h:alK info fs=some i):∀z,i.zero=some z->Cp r z:=by
 unfold alK at h;simp only[bind,alA,pure]at h;obtain⟨a,ha,h⟩:=h;have inv:=Dy (fun s:Array Field×Nat×Nat×Nat×Nat×Bool×Bool×Option (Array Value)×String=>∀z,s.2.2.2.2.2.2.2.1=some z->∀x∈z,V r x x) _ ?_ fs.toList _ a ?_ (by rw[Array.forIn_toList];exact ha)
 ·have key:∀z,(a.2.2.2.2.2.2.2.1.map Value.agg)=some z->Cp r z:=by
   intro z hz;obtain⟨c,hc,rfl⟩:=alT.1 hz;exact Ff (inv c hc)
  split at h<;>(cases h;exact key)
 ·intro f s x hI hx;have fin:∀(i:TypeInfo) (q:Prop) [Decidable q] z,info f.type=some i->(if q then none else s.2.2.2.2.2.2.2.1.bind fun a=>i.zero.bind fun b=>some (a++b.cells))=some z->∀x∈z,V r x x:=by
   intro i q _ z ao3 hz;split at hz
   ·cases hz
   ·simp only[alA]at hz;obtain⟨a,ha,b,hb,e⟩:=hz;cases e;intro x hx;rcases Array.mem_append.1 hx with y|y
    ·exact hI a ha x y
    ·exact(hi _ _ _ ao3 hb).cells x y
  obtain⟨j,hj,hx⟩:=alA.1 hx;split at hx
  ·cases hx
  ·split at hx
   ·cases hx
   ·split at hx
    ·simp only[Option.bind_some]at hx;split at hx<;>(cases hx;exact⟨_,rfl,fun z hz=>fin j _ z hj hz⟩)
    ·obtain⟨tg,_,hx⟩:=alA.1 hx;split at hx<;>(cases hx;exact⟨_,rfl,fun z hz=>fin j _ z hj hz⟩)
 ·intro z hz x hx;cases hz;simp at hx
theorem Iy{info:TypeId->Option TypeInfo}(hi:∀t i z,info t=some i->i.zero=some z->Cp r z){d:TypeDesc}{i:TypeInfo}(h:alR info d=some i):∀z,i.zero=some z->Cp r z:=by
 unfold alR at h;cases d with
 |pointer e=>
  simp only[bind,alA]at h;obtain⟨a,_,h⟩:=h;split at h
  ·cases h
  ·split at h
   ·cases h
   ·obtain⟨_,_,h⟩:=alA.1 h;cases h;intro z hz;cases hz;exact .nilPtr
  ·obtain⟨_,_,h⟩:=alA.1 h;cases h;intro z hz;cases hz;exact .nilPtr
 |struct fs=>exact Ix hi h
 |slice e=>simp only[bind,alA]at h;obtain⟨_,_,_,_,h⟩:=h;cases h;intro z hz;cases hz;exact .bt _ _
 |map k e=>simp only[bind,alA]at h;obtain⟨_,_,_,_,_,_,_,_,h⟩:=h;cases h;intro z hz;cases hz;exact .ik
 |chan dir e=>simp only[bind,alA]at h;obtain⟨_,_,_,_,h⟩:=h;cases h;intro z hz;cases hz;exact .fW
 |func ps rs v=>simp only[bind,alA]at h;obtain⟨_,_,h⟩:=h;cases h;intro z hz;cases hz;exact .nilFunc
 |array n e=>
  simp only[bind,alA]at h;obtain⟨j,hj,_,_,h⟩:=h;cases h;intro z hz;split at hz
  ·cases hz
  ·split at hz
   ·cases hz;exact Ff fun x hx=>by simp_all
   ·obtain⟨y,hy,rfl⟩:=alT.1 hz;refine Ff fun x hx=>(hi _ _ _ hj hy).cells x ?_;obtain⟨c,hc,hxc⟩:=Array.mem_flatten.1 hx;simp_all
 |_=>cases h
def ql(T:Tables):=T.types.all fun i=>yh i.desc&&match i.zero with|some z=>jl 4 z|none=>true
theorem Iz{T:Tables}(h:ql T=true){i:TypeInfo}(e:T.types[t]?=some i):yh i.desc=true/\∀z,i.zero=some z->Cp r z:=by
 have:=alG.1 h i (alI e);simp at this;refine⟨this.1,fun z hz=>?_⟩;have h2:=this.2;rw[hz]at h2;exact oN h2
theorem Qo{T:Tables}(h:ql T=true):∀f t i,al9 T f t=some i->yh i.desc=true/\∀z,i.zero=some z->Cp r z:=by
 intro f;induction f with
 |zero=>intro t i e;cases e
 |succ f ih=>
  intro t i e;unfold al9 at e;split at e
  ·exact Iz h e
  ·obtain⟨d,_,e⟩:=alA.1 e;exact⟨(reckon_desc e).1,Iy (fun t i z a b=>(ih t i a).2 z b) e⟩
theorem Fg{T:Tables}(h:ql T=true){i:TypeInfo}(e:T.info? t=some i):yh i.desc=true/\∀z,i.zero=some z->Cp r z:=by
 unfold Tables.info? at e;split at e
 ·exact Iz h e
 ·exact Qo h _ _ _ e
theorem Ul{P:Program}(h:ql P.toTables=true):pg P:=fun t i z e hz r=>(Fg h e).2 z hz
theorem pz{P:Program}(h:ql P.toTables=true){d:TypeDesc}(e:P.underlying t=some d):yh d=true:=by
 have r:Rn:=⟨fun _=>none,(fun _ _ _ x=>by simp),(fun _ _ x=>by cases x)⟩;unfold Program.underlying at e;split at e
 ·obtain⟨i,hi,rfl⟩:=alT.1 e;exact(Fg (r:=r) h hi).1
 ·rename_i i hi;cases e;exact(Fg (r:=r) h hi).1
 ·cases e
theorem Yb{P:Program}(h:ql P.toTables=true):WO P:=by
 intro d;induction d with
 |zero=>intro u k x e;cases e
 |succ d ih=>
  intro u k x e;unfold plainCell at e;split at e
  ·obtain⟨f,_,e⟩:=Array.exists_of_findSome?_eq_some e;split at e
   ·exact ih _ _ _ e
   ·cases e
  ·dsimp only at e;split at e
   ·cases e
   ·exact ih _ _ _ e
  ·simp_all
  ·split at e<;>cases e;simp_all
  ·rename_i hu;have:=pz h hu;simp[yh]at this
  ·rename_i hu;have:=pz h hu;simp[yh]at this
  ·cases e
end
theorem IA{info:TypeId->Option TypeInfo}{d:TypeDesc}{i:TypeInfo}(h:alR info d=some i):i.methods=#[]:=by
 unfold alR at h;cases d with
 |pointer e=>
  simp only[bind,alA]at h;obtain⟨a,_,h⟩:=h;split at h
  ·cases h
  ·split at h
   ·cases h
   ·obtain⟨_,_,h⟩:=alA.1 h;cases h;rfl
  ·obtain⟨_,_,h⟩:=alA.1 h;cases h;rfl
 |struct fs=>
  unfold alK at h;simp only[bind,alA]at h;obtain⟨a,_,h⟩:=h;split at h<;>(cases h;rfl)
 |slice e=>simp only[bind,alA]at h;obtain⟨_,_,_,_,h⟩:=h;cases h;rfl
 |map k e=>simp only[bind,alA]at h;obtain⟨_,_,_,_,_,_,_,_,h⟩:=h;cases h;rfl
 |chan dir e=>simp only[bind,alA]at h;obtain⟨_,_,_,_,h⟩:=h;cases h;rfl
 |func ps rs v=>simp only[bind,alA]at h;obtain⟨_,_,h⟩:=h;cases h;rfl
 |array n e=>simp only[bind,alA]at h;obtain⟨_,_,_,_,h⟩:=h;cases h;rfl
 |_=>cases h
def Um(P:Program)(t:TypeId):Bool:=
 match P.underlying t with
 |some (.pointer _)=>false
 |_=>true
def ahQ(K:Qm)(P:Program)(t:TypeId)(i:TypeInfo):=i.methods.all fun m=>!K.AN m.name||(m.path.isEmpty&&(match m.func with
 |some (f,false)=>K.cV f
 |_=>false)&&Um P t)
def AR(K:Qm)(P:Program):=(alN P.types.size).all fun t=>match P.types[t]? with
 |some i=>ahQ K P t i
 |none=>true
theorem Mh{K:Qm}{P:Program}{ro:Nat->Prop}{rest:List Item->Prop}{pD:List _->Prop}(h:AR K P=true){n:String}(hn:K.AN n=true):@z_ (K.fK P ro qH rest pD) P n:=by
 intro t i m hi hm;have old:∀{i:TypeInfo},P.types[t]?=some i->i.methods.find? (·.name==n)=some m->m.path=#[]/\(∃f,m.func=some (f,false)/\K.cV f=true)/\∀e,P.underlying t≠some (.pointer e):=by
  intro i hi hm;have ht:=(alZ.1 hi).1;have h1:=al1.1 h t (List.mem_range.2 ht);simp[hi]at h1;have h2:=alG.1 h1 m (Array.mem_of_find?_eq_some hm);have S_:=by simpa using Array.find?_some hm
  simp[S_,hn,Bool.not_true,Bool.false_or,alB]at h2;refine⟨by simp_all,?_,fun e he=>?_⟩
  ·have h3:=h2.1.2;split at h3
   ·simp_all
   ·cases h3
  ·have h3:=h2.2;simp[Um,he]at h3
 have none_:∀f (i:TypeInfo),al9 P.toTables f t=some i->i.methods.find? (·.name==n)=some m->P.types[t]?=some i\/False:=by
  intro f i hi hm;cases f with
  |zero=>cases hi
  |succ f=>
   unfold al9 at hi;split at hi
   ·simp_all
   ·obtain⟨d,_,e⟩:=alA.1 hi;rw[IA e]at hm;simp at hm
 have eO:=hi;unfold Tables.info? at eO;split at eO
 ·exact old eO hm
 ·exact old ((none_ _ i eO hm).resolve_right id) hm
def uS(K:Qm)(P:Program)(ext:FuncId->Bool)(f:FuncId):Bool:=match P.funcs[f]? with
 |some fn=>!(fn.name== "runtime.NumGoroutine")&&(match fn.body with
  |some c=>fQ K P false c
  |none=>ext f)
 |none=>false
def aan(K:Qm)(P:Program)(ro:Nat->Prop)(qH:Nat->Nat->Prop)(rest:List _->Prop)(pD:List Deferred->Prop)(fn:Func):=
 letI:=K.fK P ro qH rest pD
 Extern.findNext fn=none/\∃e,Extern.find fn=some e/\∀r a a',VA r a a'->SR P V r (e a) (e a')
theorem Mi{K:Qm}{P:Program}{ro:Nat->Prop}{rest:List _->Prop}{pD:List _->Prop}(fL:K.Cn=true->∀b,¬ro b)(ext:FuncId->Bool)(ht:ql P.toTables=true)(hm:AR K P=true)(hf:∀f,K.cV f=true->uS K P ext f=true)(he:∀f fn,ext f=true->P.funcs[f]?=some fn->aan K P ro qH rest pD fn):@kX (K.fK P ro qH rest pD) P:=by
 letI:=K.fK P ro qH rest pD
 refine⟨⟨Ul ht,rfl,Yb ht,fun f hg=>?_,fun n hn=>Mh hm hn⟩,fun c hc=>jL fL hc,rfl,fun _=>rfl,fun _=>rfl,fun f fn c hg aY hb=>?_⟩
 ·have h:=hf f hg;unfold uS at h;split at h
  ·rename_i fn aY;simp only[alB,Bool.not_eq_true']at h;refine⟨fn,aY,h.1,fun hb=>?_⟩;have h2:=h.2;rw[hb]at h2;exact he f fn h2 aY
  ·cases h
 ·have h:=hf f hg;unfold uS at h;simp[aY,hb,alB]at h;exact jL fL h.2
def ahR:List Nat:=[0,1,2,3,4,5,6,7,8,9,10,11,12,13,14,15,16,22,37,38,39,60,92,111,122,137,138,140,157,158,159,160,161,168,169,170,171,172,173,174,175,176,177,178,179,180,181,182,183,184,185,186,187,188,199,200,201,202,203,204,205,206,207,214,215,216,217,218,219,220,222,223,224,225,226,227,228,229,230,231,232,233,234,235,236,237,242,243,244,245]
def IB(f:Nat):Bool:=[113,134,156].contains f
def K0:Qm:={cV:=fun f=>decide (f<246)&&!ahR.contains f,WM:=fun g=>[0,2,3].contains g,AN:=fun n=>n== "spotter/spotter.told"||n== "spotter/spotter.flag",Cn:=true}
theorem xc:ql alF.toTables=true:=by decide+kernel
theorem Qr:AR K0 alF=true:=by decide+kernel
theorem Qs:((alN 246).all fun f=>!K0.cV f||uS K0 alF IB f)=true:=by decide+kernel
theorem Un(f:Nat)(h:K0.cV f=true):uS K0 alF IB f=true:=by
 have hl:=by
  have:(decide _&&!ahR.contains f)=true:=h;simp only[alB,decide_eq_true_eq]at this;exact this.1
 have:=al1.1 Qs f (List.mem_range.2 hl);rw[h]at this;simpa using this
theorem Fh(K:Qm)(ro:Nat->Prop)(qH:Nat->Nat->Prop)(rest:List Item->Prop)(pD:List Deferred->Prop)(f:Nat)(fn:Func)(h:IB f=true)(hf:alF.funcs[f]?=some fn):aan K alF ro qH rest pD fn:=by
 letI:=K.fK alF ro qH rest pD
 have:f=113\/f=134\/f=156:=by simpa[IB]using h
 rcases this with rfl|rfl|rfl
 ·rw[Tryz.func113]at hf;cases hf;exact⟨by decide+kernel,Extern.AbiNoEscape.same,by rfl,fun r a a' h=>Ha h⟩
 ·rw[Tryz.func134]at hf;cases hf;exact⟨by decide+kernel,Extern.BytealgIndexByte.indexByte,by rfl,fun r a a' h=>EI h⟩
 ·rw[Tryz.func156]at hf;cases hf;exact⟨by decide+kernel,_,by rfl,fun r a a' h=>Ce _ _ h⟩
def IC:Nat->Prop:=fun _=>False
def sK:Nat->Nat->Prop:=fun _ _=>False
theorem ID(rest:List Item->Prop)(pD:List Deferred->Prop):@kX (K0.fK alF IC sK rest pD) alF:=Mi (fun _ _ h=>h) _ xc Qr Un (Fh K0 _ _ _ pD)
def K3:Qm:={cV:=fun f=>[77,139,144,145,150,165].contains f,WM:=fun _=>false,AN:=fun _=>false,Cn:=false}
theorem Mj:AR K3 alF=true:=by decide+kernel
theorem Mk:([77,139,144,145,150,165].all fun f=>uS K3 alF IB f)=true:=by decide+kernel
theorem Uo(f:Nat)(h:K3.cV f=true):uS K3 alF IB f=true:=by
 have:f∈[77,139,144,145,150,165]:=by
  have:[77,139,144,145,150,165].contains f=true:=h;simpa using this
 exact al1.1 Mk f this
theorem ahS(ro:Nat->Prop)(qH:Nat->Nat->Prop)(rest:List Item->Prop)(pD:List Deferred->Prop):@kX (K3.fK alF ro qH rest pD) alF:=Mi (fun h=>by cases h) _ xc Mj Uo (Fh K3 ro qH _ pD)
end Ren
namespace Ph
open Conc Ren
theorem Tz.inv{P:Program}{U:Nat->Nat->Prop}{D:(Nat->Prop)->(Nat->Prop)->Goroutine->World->Prop}{X:Nat->Prop}{g:Goroutine}(J:(Nat->Prop)->(Nat->Prop)->World->Prop)
  (hJ:∀S X w w2 w1 es S1 X1,J S X w->aP U S w w2->Did S X w2 w1 es S1 X1->J S1 X1 w1)(h:Tz P main U D S X g w)(j:J S X w):Tz P main U (fun S X g w=>D S X g w/\J S X w) S X g w:=by
 induction h with
 |stop hd=>exact .stop ⟨hd,j⟩
 |step hs ex _ ih=>exact .step hs ex fun w2 g1 w1 es S1 X1 hr e hd=>ih w2 g1 w1 es S1 X1 hr e hd (hJ _ _ _ _ _ _ _ _ j hr hd.toDid)
theorem Tz.bT{P:Program}{U:Nat->Nat->Prop}{D:(Nat->Prop)->(Nat->Prop)->Goroutine->World->Prop}{X S':Nat->Prop}{g:Goroutine}(h:Tz P main U D S X g w)(hS:∀a,S a↔S' a)(hX:∀a,X a↔X' a):Tz P main U D S' X' g w:=by
 obtain rfl:S=S':=funext fun a=>propext (hS a);obtain rfl:X=X':=funext fun a=>propext (hX a);exact h
def IE:Value->Value
 |.pointer (some _)=>.tuple #[]
 |v=>v
def ahT:Obj->Obj
 |.cells c e _=>.cells (c.map IE) e (0,(c.map IE).size)
 |o=>o
def Up(ow:Option Nat)(w:World):={w with heap:=w.heap.mapIdx fun i o=>if some i=ow then o else ahT o}
theorem AT{b:Nat}{o:Obj}(h:w.heap[b]?=some o):(Up ow w).heap[b]?=some (if some b=ow then o else ahT o):=by
 show(w.heap.mapIdx _)[b]?=_
 simp_all
theorem AU:(Up ow w).heap.size=w.heap.size:=by
 show(w.heap.mapIdx _).size=_
 simp
structure CIn(Fd By Rf Sg Fp k q st:Nat)(X P:ByteArray)(w:World):Prop where
 b:w.heap[By]?=some (.cells #[.int .i64 (k:Int),.int .i64 (q:Int),.int .i64 (st:Int)] 75)
 r:w.heap[Rf]?=some (.cells #[.string X] 9)
 s:w.heap[Sg]?=some (.cells #[.string P] 9)
 f:w.heap[Fp]?=some (.cells #[ptr Fd] 182)
 low:PR.globals.size<=w.heap.size
def Kp(By Rf Sg Fp b:Nat):=b=By\/b=Rf\/b=Sg\/b=Fp
section
variable{Fd By Rf Sg Fp k q st:Nat}{X P:ByteArray}{w:World}{ow:Option Nat}
theorem CIn.reads(h:CIn Fd By Rf Sg Fp k q st X P w)(hn:∀b,Kp By Rf Sg Fp b->some b≠ow)(T:Nat->Question->Nat):Reads (tp (Up ow w) T) By Rf Sg k q st X P:=by
 have e1:(tp (Up ow w) T).heap[By]?=_:=(AT h.b).trans (by rw[if_neg (hn By (.inl rfl))]);have e2:(tp (Up ow w) T).heap[Rf]?=_:=(AT h.r).trans (by rw[if_neg (hn Rf (.inr (.inl rfl)))]);have e3:(tp (Up ow w) T).heap[Sg]?=_:=(AT h.s).trans (by rw[if_neg (hn Sg (.inr (.inr (.inl rfl))))]);exact⟨by rw[cell_of_row _ By 0 _ _ _ e1];simp[IE],by rw[cell_of_row _ By 1 _ _ _ e1];simp[IE],by rw[cell_of_row _ By 2 _ _ _ e1];simp[IE],by rw[cell_of_row _ Rf 0 _ _ _ e2];simp[IE],by rw[cell_of_row _ Sg 0 _ _ _ e3];simp[IE]⟩
@[reducible] noncomputable def gl(By Rf Sg Fp:Nat)(kr:List _):=K3.fK PR (Kp By Rf Sg Fp) sK (fun k=>k=kr) (fun _=>False)
theorem CIn.W(kr:List Item)(h:CIn Fd By Rf Sg Fp k q st X P w)(hn:∀b,Kp By Rf Sg Fp b->some b≠ow)(ho:∀g,ow=some g->∃c e,w.heap[g]?=some (.cells c e)/\∀x∈c,∃z:Int,x=.int .i64 z):
  letI:=gl By Rf Sg Fp kr
  Ren.W (su fun b=>Kp By Rf Sg Fp b\/some b=ow) 0 (Up ow w) w:=by
 letI:=gl By Rf Sg Fp kr
 refine⟨fun b b' e=>?_,by rw[AU];exact h.low,h.low,fun b hb=>?_,fun i q hi=>by omega,rfl⟩
 ·obtain⟨hk,rfl⟩:=nU.1 e;rcases hk with hk|hk
  ·have key:∀(c:Array _) (t:TypeId),w.heap[b]?=some (.cells c t)->VA (su fun b=>Kp By Rf Sg Fp b\/some b=ow) (c.map IE) c->∃o o',(Up ow w).heap[b]?=some o/\w.heap[b]?=some o'/\OB (su fun b=>Kp By Rf Sg Fp b\/some b=ow) b o o':=by
    intro c t h1 h2;exact⟨_,_,(AT h1).trans (by rw[if_neg (hn b hk)];rfl),h1,.ro t hk h2 fun i hi=>absurd hi id⟩
   rcases hk with rfl|rfl|rfl|rfl
   ·refine key _ _ h.b ⟨by simp,fun i x x' e1 e2=>?_⟩;rw[alQ,e2]at e1;cases e1;have:=by
     have:=alI e2;simpa using this
    rcases this with rfl|rfl|rfl<;>exact .int _ _
   ·refine key _ _ h.r ⟨by simp,fun i x x' e1 e2=>?_⟩;rw[alQ,e2]at e1;cases e1;have:=by
     have:=alI e2;simpa using this
    subst this;exact .string _
   ·refine key _ _ h.s ⟨by simp,fun i x x' e1 e2=>?_⟩;rw[alQ,e2]at e1;cases e1;have:=by
     have:=alI e2;simpa using this
    subst this;exact .string _
   ·refine key _ _ h.f ⟨by simp,fun i x x' e1 e2=>?_⟩;rw[alQ,e2]at e1;cases e1;have:=by
     have:=alI e2;simpa using this
    subst this;exact .blank rfl
  ·obtain⟨c,t,h1,h2⟩:=ho b hk.symm;refine⟨_,_,(AT h1).trans (by simp_all),h1,.same (fun y=>hn b y hk) (S6 t _ fun x hx=>?_)⟩;obtain⟨z,rfl⟩:=h2 x hx;exact .int _ _
 ·rw[AU];rcases hb with rfl|rfl|rfl|rfl
  ·exact alO fun y=>by have:=h.b;simp_all
  ·exact alO fun y=>by have:=h.r;simp_all
  ·exact alO fun y=>by have:=h.s;rw[alU y]at this;cases this
  ·exact alO fun y=>by have:=h.f;rw[alU y]at this;cases this
end
noncomputable def kT:List Item:=match Tryz.f138.body with
 |some (.seq _ b)=>[.code b]
 |_=>[]
section
variable{ch Wg By Rf Sg Fp x:Nat}{j:Nat->Value}{l:List Frame}{T:Array Value}
theorem cp0:bD PR 1 (WG ch Wg (dL By Rf Sg Fp) (.int .i64 x) true j).1 l=(⟨138,FZ x By Rf Sg Fp (.tuple #[]) (fun _=>.tuple #[]),.code clA::kT,[],.run,.normal,none⟩,l):=by kernel_rfl
theorem cp1:bD PR 1 ⟨138,T,kT,[],.run,.normal,none⟩ l=(⟨138,T,.code Ww::uR,[],.run,.normal,none⟩,l):=by kernel_rfl
theorem Yc:fQ K3 PR false clA=true:=by decide+kernel
theorem Yd:fQ K3 PR false Ww=true:=by decide+kernel
theorem Ml:∃c k,kT=.code c::k:=⟨_,_,rfl⟩
theorem Mm:∃c k,uR=.code c::k:=⟨_,_,rfl⟩
end
section
variable{U:Nat->Nat->Prop}{Fd By Rf Sg Fp k q st:Nat}{X P:ByteArray}{w:World}{ow:Option Nat}{kr:List Item}{c:Code}
def ahU(U:Nat->Nat->Prop)(By Rf Sg Fp:Nat)(kr:List Item)(r0:@Rn (gl By Rf Sg Fp kr))(R:Array Value->World->Prop)(cs:List Frame)(S X S' X':Nat->Prop)(g:Goroutine)(w':World):Prop:=
 letI:=gl By Rf Sg Fp kr
 ∃(r:Rn) (a' t':Array Value) (v:World),Le r0 r/\Ren.W r 0 v w'/\(∀b,S' b↔Rd r b\/S b)/\(∀b,X' b↔Wr r b\/X b)/\R a' v/\Li U r/\VA r a' t'/\g=G ⟨138,t',kr,[],.run,.normal,none⟩ cs
theorem piece(hk:∃c k,kr=.code c::k)(hc:fQ K3 PR false c=true){r0:@Rn (gl By Rf Sg Fp kr)}(hW:@Ren.W (gl By Rf Sg Fp kr) r0 0 v0 w)
  {R:Array Value->World->Prop}{a t:Array Value}(hwp:∀T,c.wp PR (fun e a' v'=>e=.normal/\a'.defers=[]/\R a'.tmps v') ⟨a,[]⟩ (tp v0 T))
  (hVA:@VA (gl By Rf Sg Fp kr) r0 a t)(j_:@Li (gl By Rf Sg Fp kr) U r0)(hU:∀b i,U b i->b<w.heap.size)(hS:∀b,@Rd (gl By Rf Sg Fp kr) r0 b->S b)(hX:∀b,@Wr (gl By Rf Sg Fp kr) r0 b->X' b):
  Tz PR false U (ahU U By Rf Sg Fp kr r0 R cs S X') S X' (G ⟨138,t,.code c::kr,[],.run,.normal,none⟩ cs) w:=by
 letI:=gl By Rf Sg Fp kr
 have ib:dD PR false c:=jL (fun h=>by cases h) hc;have hf:FR PR r0 true (Frame.at ⟨138,#[],[],[],.run,.normal,none⟩ ⟨a,[]⟩ (.code c::yc)) ⟨138,t,.code c::kr,[],.run,.normal,none⟩:=by
  obtain⟨c0,k0,e0⟩:=hk;refine⟨rfl,hVA,?_,.nil,.run,rfl,.inl rfl,.none,fun _=>⟨_,Tryz.func138⟩⟩;show IL PR _ false true (.code c::yc) (.code c::kr)
  refine .cons (.code ib) ?_;rw[e0];exact .rest rfl rfl e0.symm rfl
 have ht:=Aj (main:=false) (U:=U) (ahS (Kp By Rf Sg Fp) sK (fun k=>k=kr) fun _=>False) (fun ops h=>by cases h) (fun g h=>by cases h) hwp rfl ib hf (cL:=cs) hW j_ hU;refine(Tz.of (SF:=S) (XF:=X') ht (fun b i hu=>⟨hU b i hu,fun h=>?_⟩) fun S1 X1 f l w1 hd=>?_).bT (fun b=>⟨fun h=>h.elim (hS b) id,.inr⟩) (fun b=>⟨fun h=>h.elim (hX b) id,.inr⟩)
 ·obtain⟨b0,e⟩:=h;exact(j_ b0 b i e hu).2
 ·obtain⟨rfl,r,a',v,h1,h2,e1,e2,⟨hd0,hR⟩,hv,hl,Pv,f1,f2,f3,f4,f5,f6⟩:=Dc (kr:=kr) (fun k h=>h) hd;subst e1 e2;refine .stop ⟨r,a'.tmps,f.tmps,v,h1,h2,fun b=>Iff.rfl,fun b=>Iff.rfl,hR,hv,Pv,?_⟩;obtain⟨fn,tmps,todo,defers,mode,kind,ro⟩:=f;simp only at f1 f2 f3 f4 f5 f6;rw[hd0]at f6;have:defers=[]:=by
   generalize defers=d at f6;cases f6 with
   |nil=>rfl
   |rest _ h=>exact h.elim
  subst this f1 f2 f3 f4 f5;rfl
end
inductive VL[ak](r:Rn):List Value->List Value->Prop
 |nil:VL r [] []
 |cons {x y:Value} {l l':List Value}:V r x y->VL r l l'->VL r (x::l) (y::l')
theorem VL.va[ak]{r:Rn}{l l':List _}(h:VL r l l'):VA r l.toArray l'.toArray:=by
 have hl:l.length=l'.length:=by
  induction h with
  |nil=>rfl
  |cons _ _ ih=>simp[ih]
 refine⟨by omega,fun i x x' e e'=>?_⟩;clear hl;induction h generalizing i with
 |nil=>simp at e
 |cons hv _ ih=>
  cases i with
  |zero=>simp at e e';simp_all
  |succ i=>exact ih i (by simp_all) (by simp_all)
theorem ac1[ak]{r:Rn}{x By Rf Sg Fp:Nat}(hb:r By=some By)(hr:r Rf=some Rf)(hs:r Sg=some Sg)(hf:r Fp=some Fp):VA r (FZ x By Rf Sg Fp (.tuple #[]) (fun _=>.tuple #[])) (FZ x By Rf Sg Fp (.tuple #[]) (fun _=>.tuple #[])):=
 VL.va (.cons (.int _ _) (.cons (.ptr ⟨hb,rfl,rfl⟩) (.cons (.ptr ⟨hr,rfl,rfl⟩) (.cons (.ptr ⟨hs,rfl,rfl⟩) (.cons (.ptr ⟨hf,rfl,rfl⟩) (.cons (.blank rfl) (.cons (.blank rfl) (.cons (.blank rfl) (.cons (.blank rfl) (.cons (.blank rfl) (.cons (.blank rfl) (.cons (.blank rfl) (.cons (.blank rfl) (.cons (.blank rfl) (.cons (.blank rfl) (.cons (.blank rfl) (.cons (.blank rfl) (.cons (.blank rfl) (.cons (.blank rfl) (.cons (.blank rfl) (.cons (.blank rfl) (.cons (.blank rfl) (.cons (.blank rfl) (.cons (.blank rfl) (.cons (.blank rfl) (.cons (.blank rfl) (.cons (.blank rfl) (.cons (.blank rfl) (.cons (.blank rfl) (.cons (.blank rfl) (.cons (.blank rfl) (.cons (.blank rfl) (.cons (.blank rfl) (.cons (.blank rfl) (.cons (.blank rfl) (.cons (.blank rfl) (.cons (.blank rfl) (.cons (.blank rfl) (.cons (.blank rfl) .nil)))))))))))))))))))))))))))))))))))))))
theorem sL(t p:ByteArray)(k:Nat):∀n,∀h∈cQ t p k n,h.1<=n
 |0,h,hh=>by simp[cQ]at hh
 |n+1,h,hh=>by
  have ih:=sL t p k n;rw[cQ]at hh;split at hh
  ·rcases List.mem_append.1 hh with h1|h1
   ·have:=ih h h1;omega
   ·simp_all
  ·have:=ih h hh;omega
def yi(X P:ByteArray)(k st x:Nat):=dQ (x *st) (e_ (fA X P k st x) P k) (e_ (fA X P k st x) P k).length
def Env.ac2(E:Env)(X P:ByteArray)(k st x:Nat)(a:Option Addr)(n:Nat)(S X':Nat->Prop)(w:World):=
 n=(yi X P k st x).length/\((a=none/\n=0)\/∃g cur,a=some ⟨g,0,none⟩/\S g/\X' g/\(∀i,¬E.U g i)/\w.heap[g]?=some (.cells cur 173)/\cur.toList.take (n *2)=da (yi X P k st x))
theorem Env.Ye(E:Env)(X P:ByteArray)(k st:Nat):E.Ug (E.ac2 X P k st):=by
 refine⟨fun h hr=>?_,fun h he=>?_,fun h hS hX=>?_⟩
 ·obtain⟨h1,h2|⟨g,cur,h2,h3,h4,h5,h6,h7⟩⟩:=h
  ·exact⟨h1,.inl h2⟩
  ·exact⟨h1,.inr ⟨g,cur,h2,h3,h4,h5,((hr.kept g h3).eq h5).trans h6,h7⟩⟩
 ·obtain⟨h1,h2|⟨g,cur,h2,h3,h4,h5,h6,h7⟩⟩:=h
  ·exact⟨h1,.inl h2⟩
  ·exact⟨h1,.inr ⟨g,cur,h2,h3,h4,h5,(he.heap g fun e=>h5 0 ⟨.inl e,by omega⟩).trans h6,h7⟩⟩
 ·obtain⟨h1,h2|⟨g,cur,h2,h3,h4,h5,h6,h7⟩⟩:=h
  ·exact⟨h1,.inl h2⟩
  ·exact⟨h1,.inr ⟨g,cur,h2,hS g h3,hX g h4,h5,h6,h7⟩⟩
theorem Uq(By Rf Sg Fp:Nat)(k1 k2:List _):Cst (gl By Rf Sg Fp k1) (gl By Rf Sg Fp k2):=⟨rfl,fun _ h=>h,fun _ h=>h,fun _ h=>h,fun _=>Iff.rfl,fun _ _ h=>h⟩
theorem Reads.later{w':World}{By Rf Sg k q st:Nat}{X P:ByteArray}(h:Reads w By Rf Sg k q st X P)(hb:Go.RowKit.Below B w w')(h1:By<B)(h2:Rf<B)(h3:Sg<B)(T:Nat->Question->Nat):Reads (tp w' T) By Rf Sg k q st X P:=
 ⟨(hb.cell h1).trans h.c0,(hb.cell h1).trans h.c1,(hb.cell h1).trans h.c2,(hb.cell h2).trans h.x,(hb.cell h3).trans h.p⟩
theorem Mn(F:List _):∀x∈da F,∃z:Int,x=.int .i64 z:=by
 intro x hx;simp only[da,List.mem_flatMap]at hx;obtain⟨h,_,hh⟩:=hx;simp at hh;rcases hh with rfl|rfl
 ·exact⟨_,rfl⟩
 ·exact⟨_,rfl⟩
theorem Yf[ak]{r:Rn}{c c':Array _}(h:VA r c c'){l:List _}(hl:∀x∈l,∃z:Int,x=.int .i64 z)(hm:l.length=m)(e:c.toList.take m=l):c'.toList.take m=l:=by
 apply List.ext_getElem?;intro i;rcases Nat.lt_or_ge i m with hi|hi
 ·have h1:(c.toList.take m)[i]?=l[i]?:=by rw[e]
  rw[amb,if_pos hi]at h1;rw[amb,if_pos hi];have h2:l[i]?=some l[i]:=List.getElem?_eq_getElem _;rw[h2]at h1⊢;obtain⟨z,hz⟩:=hl _ (List.getElem_mem _);rw[hz]at h1⊢;obtain⟨y,e1,e2⟩:=h.get (by simpa using h1);cases e2;simp_all
 ·rw[al_ (by simp;omega),al_ (by omega)]
theorem Fi(F:List _):(da F).length=F.length *2:=O6 F
theorem ahV[ak]{r:Rn}{b:Nat}{y:Value}(h:V r (ptr b) y)(e:r b=some b):y=ptr b:=by
 cases h with
 |@ptr a a' k=>
  obtain⟨h1,h2,h3⟩:=k;obtain⟨b',o',s'⟩:=a';simp only at h1 h2 h3;rw[e]at h1;cases h1;subst h2 h3;rfl
section
variable{E:Env}{ch:Nat}{ok:Nat->Prop}{By Rf Sg Fp:Nat}{RO:Nat->Prop}{Fx:World->Prop}
theorem Yg(X P:ByteArray)(k q st:Nat)(hX:X.size<=200)(hP:P.size<=30)(hk:k<=6)(hs:st<=200)(ib:∀x,ok x->x *st<=X.size/\x<=100000)
  (K:E.AL RO Fx)(hIn:∀w,Fx w->CIn E.Fd By Rf Sg Fp k q st X P w)(hRO:∀b,Kp By Rf Sg Fp b->RO b)(hKU:∀b,Kp By Rf Sg Fp b->∀i,¬E.U b i)(bY:∀w,Fx w->(∀b,RO b->b<w.heap.size)/\E.Mp<w.heap.size):
  Env.Uh E ch ok By Rf Sg Fp RO Fx (E.ac2 X P k st):=by
 intro D x S X' j w hx hW hF bR;obtain⟨pN,oB⟩:=ib x hx;generalize Rm:[wfr ch E.Wg (dL By Rf Sg Fp) (.int .i64 (x:Int)) j,bot]=cs at bR⊢;clear Rm;refine alE 1 fun w1 dE=>?_;rw[cp0];have zm:Fx w1:=K.rely S _ _ hW.ro hF dE;have hI1:=hIn w1 zm;have hUl:∀w,Fx w->∀b i,E.U b i->b<w.heap.size:=fun w h b i hu=>by
  rcases hu.1 with rfl|rfl
  ·exact(bY w h).1 _ hW.fd
  ·exact(bY w h).1 _ hW.wg
 have hJ:∀(S X:Nat->Prop) (w w2 w1:World) (es:Array Event) (S1 X1:Nat->Prop),((∀a,RO a->S a)/\¬S E.Mp/\¬X E.Mp/\(∀a,RO a->¬X a)/\Fx w)->aP E.U S w w2->Did S X w2 w1 es S1 X1->((∀a,RO a->S1 a)/\¬S1 E.Mp/\¬X1 E.Mp/\(∀a,RO a->¬X1 a)/\Fx w1):=by
  rintro S X w w2 w1 es S1 X1 ⟨j1,j2,j3,j4,j5⟩ hr hd;have vC:=K.rely S _ _ j1 j5 hr;refine⟨fun a ha=>(hd.held a).2 (.inl (j1 a ha)),fun y=>?_,fun y=>?_,fun a ha y=>?_,K.rely RO _ _ (fun _ h=>h) vC ⟨fun a ha=>.inl (hd.kept a ((bY _ vC).1 a ha) (j4 a ha)),hd.grow,hd.env⟩⟩
  ·rcases(hd.held _).1 y with z|z
   ·exact j2 z
   ·have:=(bY _ vC).2;omega
  ·rcases(hd.may _).1 y with z|z
   ·exact j3 z
   ·have:=(bY _ vC).2;omega
  ·rcases(hd.may _).1 y with z|z
   ·exact j4 a ha z
   ·have:=(bY _ vC).1 a ha;omega
 have hnn:∀b,Kp By Rf Sg Fp b->some b≠(none:Option Nat):=fun b _ e=>by cases e
 have p1:=piece (U:=E.U) (cs:=cs) (S:=S) (X':=X') Ml Yc (hI1.W (ow:=none) kT hnn (fun g e=>by cases e))
  (R:=fun a' v=>∃T val,a'=FZ x By Rf Sg Fp val (uA By k q st x X P (fA X P k st x) val)/\v.ownsRow w1.heap.size 173 2 val (e_ (fA X P k st x) P k).length (da (e_ (fA X P k st x) P k))/\Go.RowKit.Below w1.heap.size (tp (Up none w1) T) v)
  (fun T=>by
   have mK:(tp (Up none w1) T).heap.size=w1.heap.size:=AU;have h:=abj x By Rf Sg Fp k q st X P (tp (Up none w1) T) (hI1.reads hnn T) hX hP hk hs pN oB;rw[mK]at h;refine Code.wp_mono (fun e a w' hh=>?_) h;obtain⟨h1,val,rfl,h2,h3⟩:=hh;exact⟨h1,rfl,T,val,rfl,h2,h3⟩)
  (@ac1 (gl By Rf Sg Fp kT) _ x By Rf Sg Fp (@mP (gl By Rf Sg Fp kT) _ _ (.inl (.inl rfl))) (@mP (gl By Rf Sg Fp kT) _ _ (.inl (.inr (.inl rfl)))) (@mP (gl By Rf Sg Fp kT) _ _ (.inl (.inr (.inr (.inl rfl))))) (@mP (gl By Rf Sg Fp kT) _ _ (.inl (.inr (.inr (.inr rfl))))))
  (fun b b' i e hu=>by
   obtain⟨h1,rfl⟩:=(@nU (gl By Rf Sg Fp kT) _ _ _).1 e;exact absurd hu (hKU b (h1.resolve_right fun y=>by cases y) i))
  (hUl w1 zm)
  (fun b hb=>hW.ro b (hRO b (((@zi (gl By Rf Sg Fp kT) _ _).1 hb).resolve_right fun y=>by cases y)))
  (fun b hb=>by
   obtain⟨h1,h2⟩:=(@Xb (gl By Rf Sg Fp kT) _ _).1 hb;exact absurd (h1.resolve_right fun y=>by cases y) h2)
 refine(p1.inv _ hJ ⟨hW.ro,hW.mp,hW.mpx,hW.Ds,zm⟩).bind fun S1 X1 g w2 hd=>?_;obtain⟨⟨r,a',t',v,hle,hWr,hS1,hX1,⟨T0,val,rfl,aJ,aH⟩,j_,Pv,rfl⟩,hj⟩:=hd;clear p1;refine alE 1 fun w3 bV=>?_;rw[cp1];have wY:Fx w3:=K.rely S1 _ _ hj.1 hj.2.2.2.2 bV;have hW3:=@Ren.W.rely (gl By Rf Sg Fp kT) _ _ _ _ _ _ hWr j_ ⟨fun a ha=>bV.kept a ((hS1 a).2 (.inl ha)),bV.grow,bV.env⟩;have lB:By<w1.heap.size:=(bY w1 zm).1 _ (hRO _ (.inl rfl));have lR:Rf<w1.heap.size:=(bY w1 zm).1 _ (hRO _ (.inr (.inl rfl)));have lS:Sg<w1.heap.size:=(bY w1 zm).1 _ (hRO _ (.inr (.inr (.inl rfl))));have aA:(fA X P k st x).size<=300:=by unfold fA;rw[ByteArray.size_extract];omega
 have hL:(e_ (fA X P k st x) P k).length<=1000:=Nat.le_trans (ou _ _ _ _) (by omega);have hL2:∀h∈e_ (fA X P k st x) P k,h.1<=1000:=fun h hh=>Nat.le_trans (sL _ _ _ _ h hh) (by omega);have hgB:∀g,val.ownBlock=some g->g≠By:=fun g hg e=>by
  have:=(aJ.lt g hg).1;omega
 have p2:=piece (U:=E.U) (cs:=cs) (S:=S1) (X':=X1) Mm Yd (SQ (Uq By Rf Sg Fp kT uR) hW3)
  (R:=fun a' v2=>∃u2,a'=FZ x By Rf Sg Fp val u2/\v2.ownsRow w1.heap.size 173 2 val (e_ (fA X P k st x) P k).length (da (yi X P k st x)))
  (fun T=>by
   have h:=abk x By Rf Sg Fp k q st X P (e_ (fA X P k st x) P k) val (uA By k q st x X P (fA X P k st x) val) w1.heap.size (tp v T) (Reads.later (hI1.reads hnn T0) aH lB lR lS T) hgB hL hL2 (by omega) (by omega) oB aJ;refine Code.wp_mono (fun e a w' hh=>?_) h;obtain⟨h1,u2,rfl,h2⟩:=hh;exact⟨h1,rfl,u2,rfl,h2⟩)
  (qa (Uq By Rf Sg Fp kT uR) Pv) (fun b b' i e hu=>j_ b b' i e hu) (hUl w3 wY) (fun b hb=>(hS1 b).2 (.inl hb)) (fun b hb=>(hX1 b).2 (.inl hb))
 refine(p2.inv _ hJ ⟨hj.1,hj.2.1,hj.2.2.1,hj.2.2.2.1,wY⟩).bind fun S2 X2 g w4 hd=>?_;obtain⟨⟨r2,a2,t2,v2,ao6,ao7,hS2,hX2,⟨u2,rfl,bP⟩,ahX,ac3,rfl⟩,F_⟩:=hd;clear p2
 letI:=gl By Rf Sg Fp uR
 have hFp:r2 Fp=some Fp:=ao6 _ _ (hle _ _ (@mP (gl By Rf Sg Fp kT) _ _ (.inl (.inr (.inr (.inr rfl))))));obtain⟨y4,e4,hv4⟩:=ac3.get (i:=4) (x:=ptr Fp) rfl;obtain rfl:=ahV hv4 hFp;obtain⟨y6,e6,hv6⟩:=ac3.get (i:=6) (x:=val) rfl;have mK:t2.size=39:=ac3.size.symm;have hWS:E.Qh RO S2 X2:=⟨F_.1,F_.2.1,F_.2.2.1,hW.fd,hW.wg,F_.2.2.2.1⟩;have hfl:(yi X P k st x).length=(e_ (fA X P k st x) P k).length:=lG _ _ _;have IG:∀sl,y6=sl->uo 138 39 uR (sA (X9 Fp sl)) ⟨138,t2,uR,[],.run,.normal,none⟩:=fun sl e=>by
  subst e;refine⟨rfl,rfl,rfl,rfl,rfl,rfl,mK,fun i y hy=>?_⟩;unfold sA X9 at hy;by_cases h4:i=4
  ·subst h4;cases hy;show t2.getD 4 undef=_
   rw[alY,e4];rfl
  ·by_cases h6:i=6
   ·subst h6;cases hy;show t2.getD 6 undef=_
    rw[alY,e6];rfl
   ·have b4:(i==4)=false:=by simpa using h4
    have b6:(i==6)=false:=by simpa using h6
    simp[List.lookup,b4,b6]at hy
 rcases bP.2 with⟨ev,en⟩|⟨g,cap,cur,ev,hg,hh,hnc,bJ,Rm,htk⟩
 ·subst ev;cases hv6;exact bR S2 X2 _ w4 none 0 0 hWS F_.2.2.2.2 (IG _ rfl) ⟨by rw[hfl,en],.inl ⟨rfl,rfl⟩⟩
 ·subst ev;cases hv6 with
  |@slice a a' l c ad=>
   obtain⟨h1,h2,h3⟩:=ad;obtain⟨g',o',s'⟩:=a';simp only at h1 h2 h3;subst h2 h3;obtain⟨o,o',ho,ho',hob⟩:=ao7.obj g g' h1;have ahZ:¬Kp By Rf Sg Fp g:=fun y=>by
    have:=(bY w1 zm).1 g (hRO g y);omega
   cases hob with
   |ro e n _ _=>exact absurd n ahZ
   |same n hO=>
    rw[hh]at ho;cases ho;cases hO with
    |cells e fz hv=>
     exact bR S2 X2 _ w4 (some ⟨g',0,none⟩) _ cap hWS F_.2.2.2.2 (IG _ rfl) ⟨hfl.symm,.inr ⟨g',_,rfl,(hS2 g').2 (.inl ⟨g,h1⟩),(hX2 g').2 (.inl ⟨g,h1,ahZ⟩),fun i hu=>(ahX g g' i h1 hu).2,ho',Yf hv (Mn _) (by rw[Fi,hfl]) htk⟩⟩
end
section
variable{P:Program}{main:Bool}{U:Nat->Nat->Prop}{D:(Nat->Prop)->(Nat->Prop)->Goroutine->World->Prop}{S X:Nat->Prop}
abbrev RU(U:Nat->Nat->Prop)(S:Nat->Prop):=aP U S
abbrev DU(U:Nat->Nat->Prop)(S X:Nat->Prop):=fun w w1 es=>iF U S X w w1 es S X
theorem terms:Terms (RU U S) (DU U S X):=⟨fun _ _ _ h k=>h.trans k,fun w=>aL _ _ _⟩
theorem Tz.aap{Stop:Goroutine->World->Prop}(k:∀g w,Stop g w->Tz P main U D S X g w):∀n {g:Goroutine} {w:World},Goes P main (RU U S) (DU U S X) Stop n g w->Tz P main U D S X g w
 |0,g,w,h=>k g w (h w (.refl _ _ _))
 |n+1,g,w,h=>by
  rcases h with h|⟨hs,h⟩
  ·exact k g w (h w (.refl _ _ _))
  ·refine alL hs fun w2 hr=>?_;have aA:=h w2 hr;revert aA;generalize stepG P _ g w2=s;intro aA;cases s with
   |go g' w' es=>exact⟨g',w',es,S,X,rfl,aA.1,Tz.aap k n aA.2⟩
   |_=>exact aA.elim
theorem Tz.wpC{c:Code}{a:Act}{M:Act->World->Prop}(h:c.wpC P main (RU U S) (DU U S X) fn n (fun e a' w'=>e=.normal/\M a' w') a w){b:Frame}(hb:b.fn=fn)(hk:b.kind≠.early){k:List _}{cs:List _}
  (cont:∀a' w0 w',M a' w0->aP U S w0 w'->Tz P main U D S X (G (b.at a' k) cs) w'):Tz P main U D S X (G (b.at a (.code c::k)) cs) w:=by
 refine Tz.aap (Stop:=fun g w'=>∃a' w0,g=G (b.at a' k) cs/\M a' w0/\aP U S w0 w') (fun g w' hh=>?_) _ (h b k cs _ 0 hb hk fun e a' w' hq=>?_)
 ·obtain⟨a',w0,rfl,h1,h2⟩:=hh;exact cont a' w0 w' h1 h2
 ·obtain⟨rfl,hm⟩:=hq;exact fun w1 hr=>⟨a',w',rfl,hm,hr⟩
end
def rK(Fd b5:Nat)(v1 ko lq nG:Value)(u:Nat->Value):=#[.pointer (some ⟨Fd,0,none⟩),v1,u 2,u 3,u 4,.pointer (some ⟨b5,0,none⟩),u 6,u 7,u 8,u 9,u 10,u 11,u 12,u 13,u 14,ko,lq,nG,u 18,u 19,u 20,u 21,u 22,u 23,u 24,u 25,u 26,u 27,u 28,u 29,u 30,u 31,u 32,u 33,u 34,u 35,u 36,u 37,u 38,u 39,u 40,u 41,u 42,u 43,u 44,u 45,u 46,u 47]
theorem uT(Fd b5:Nat)(v1 ko lq nG a2 a3 a4 a6 a7 a8 a9 a10 a11 a12 a13 a14 a18 a19 a20 a21 a22 a23 a24 a25 a26 a27 a28 a29 a30 a31 a32 a33 a34 a35 a36 a37 a38 a39 a40 a41 a42 a43 a44 a45 a46 a47:Value):#[.pointer (some ⟨Fd,0,none⟩),v1,a2,a3,a4,.pointer (some ⟨b5,0,none⟩),a6,a7,a8,a9,a10,a11,a12,a13,a14,ko,lq,nG,a18,a19,a20,a21,a22,a23,a24,a25,a26,a27,a28,a29,a30,a31,a32,a33,a34,a35,a36,a37,a38,a39,a40,a41,a42,a43,a44,a45,a46,a47]=rK Fd b5 v1 ko lq nG (fun i=>[.tuple #[],.tuple #[],a2,a3,a4,.tuple #[],a6,a7,a8,a9,a10,a11,a12,a13,a14,.tuple #[],.tuple #[],.tuple #[],a18,a19,a20,a21,a22,a23,a24,a25,a26,a27,a28,a29,a30,a31,a32,a33,a34,a35,a36,a37,a38,a39,a40,a41,a42,a43,a44,a45,a46,a47].getD i (.tuple #[])):=rfl
noncomputable def ad5:=match alM.body with
 |some (.seq _ (.seq _ (.seq _ (.block _ (.loop (.seq _ (.seq _ (.seq (.block _ (.seq _ (.seq r5 _))) _))))))))=>r5
 |_=>.skip
structure AF(Fd Mp b5:Nat)(e d:Int)(o:Option Obj)(w:World):Prop where
 m:w.cell? ⟨Fd,2,none⟩=some (.map (some Mp))
 c0:w.cell? ⟨b5,0,none⟩=some (.int .i64 e)
 c1:w.cell? ⟨b5,1,none⟩=some (.int .i64 d)
 o:w.heap[Mp]?=o
section
variable{U:Nat->Nat->Prop}{S X:Nat->Prop}{Fd Mp b5:Nat}{e d:Int}{o:Option Obj}
theorem oO{es:Array _}(h:∀e∈es,(∃a:Addr,e.loc=.cell a/\e.sync=false/\e.write=false/\S a.block/\¬U a.block a.off)\/∃b,e.loc=.obj b/\e.sync=false/\e.write=false/\S b):DU U S X w w es:=
 ⟨⟨fun _ _ _=>rfl,al8 _,fun a=>⟨.inl,fun h=>h.resolve_right fun y=>by omega⟩,fun a=>⟨.inl,fun h=>h.resolve_right fun y=>by omega⟩,fun e he=>by
  rcases h e he with⟨a,h1,h2,h3,h4,h5⟩|⟨b,h1,h2,h3,h4⟩
  ·exact .inl ⟨a,h1,h2,.inl ⟨h4,fun y=>by simp_all⟩⟩
  ·exact .inr (.inl ⟨b,h1,h2,.inl ⟨h4,fun y=>by simp_all⟩⟩),rfl,.refl _,rfl⟩,fun e he b hb=>by
  rcases h e he with⟨a,h1,h2,h3,h4,h5⟩|⟨b,h1,h2,h3,h4⟩
  ·simp_all
  ·simp_all⟩
theorem lets:LetsDraw (DU U S X):=fun w=>⟨⟨fun _ _ _=>rfl,al8 _,fun a=>⟨.inl,fun h=>h.resolve_right fun y=>by have h1:=y.1;have h2:=y.2;exact absurd h2 (Nat.not_lt.2 h1)⟩,fun a=>⟨.inl,fun h=>h.resolve_right fun y=>by have h1:=y.1;have h2:=y.2;exact absurd h2 (Nat.not_lt.2 h1)⟩,fun e he=>by simp_all,rfl,.refl _,rfl⟩,fun e he=>by simp_all⟩
theorem ah0(w:World):RU U S w {w with drawn:=w.drawn+1}:=⟨fun a _=>.inl rfl,al8 _,.refl _⟩
structure Fj(U:Nat->Nat->Prop)(S:Nat->Prop)(Fd Mp b5:Nat):Prop where
 fd:S Fd
 mp:S Mp
 b:S b5
 u2:¬U Fd 2
 ub:∀i,¬U b5 i
 um:∀i,¬U Mp i
theorem dG{w1:World}{b:Nat}(hS:S b)(hu:¬U b i)(h:w.cell? ⟨b,i,none⟩=some v)(r:RU U S w w1):w1.cell? ⟨b,i,none⟩=some v:=by
 rcases r.kept b hS with h1|⟨c,c2,t,fz,_,h2,h3,h4,h5,_⟩
 ·simp only[al7]at h⊢;simp_all
 ·simp only[al7]at h⊢;simp_all
theorem AF.rely(H:Fj U S Fd Mp b5){w w1:World}(h:AF Fd Mp b5 e d o w)(r:RU U S w w1):AF Fd Mp b5 e d o w1:=
 ⟨dG H.fd H.u2 h.m r,dG H.b (H.ub 0) h.c0 r,dG H.b (H.ub 1) h.c1 r,((r.kept Mp H.mp).eq H.um).trans h.o⟩
theorem tk(H:Fj U S Fd Mp b5){Mz:Act->Prop}{P:Program}{md:Region.Mode}{ops:Array _}{oi:Oper}{li:Array _}{a:Act}(hi:ops[i]?=some oi)
  (hs:amf ops=true)(hf:Region.free md ops li i=true)(hr:(Region.ready md ops li).contains i=true)
  (hy:YieldsIfC P (DU U S X) fn ops (AF Fd Mp b5 e d o) oi v a)(hS:AF Fd Mp b5 e d o w)(h:AnyCH P (RU U S) (DU U S X) fn md ops (fun ex a' w'=>ex=.normal/\Mz a'/\AF Fd Mp b5 e d o w') (AF Fd Mp b5 e d o) fuel (li.setIfInBounds i true) (a.put oi.dst v) w):
  AnyCH P (RU U S) (DU U S X) fn md ops (fun ex a' w'=>ex=.normal/\Mz a'/\AF Fd Mp b5 e d o w') (AF Fd Mp b5 e d o) (fuel+1) li a w:=
 anyCH_take terms (fun _ _ h r=>AF.rely H h r) (fun _ _ _ h r=>⟨h.1,h.2.1,AF.rely H h.2.2 r⟩) hi hs hf hr hy hS h
theorem ah1(H:Fj U S Fd Mp b5)(dd:List Deferred)(v1 ko lq nG:Value)(u:Nat->Value)(x:Int)(bo:Bool)(Mo:∀w,AF Fd Mp b5 e d o w->(Instr.lookup 166 (.map (some Mp)) (.int .i64 e) true).run alF w=.ok (.tuple #[.int .i64 x,.bool bo]) w)
  (pF:∀w,AF Fd Mp b5 e d o w->∀ev∈Sem.events alF (Instr.lookup 166 (.map (some Mp)) (.int .i64 e) true) w #[],ev.loc=.obj Mp/\ev.sync=false/\ev.write=false):
  ∃k,∀w,AF Fd Mp b5 e d o w->ad5.wpC alF false (RU U S) (DU U S X) 140 k (fun ex a' w'=>ex=.normal/\(∃u',u' 6=.int .i64 x/\u' 7=.bool bo/\a'=⟨rK Fd b5 v1 ko lq nG u',dd⟩)/\AF Fd Mp b5 e d o w') ⟨rK Fd b5 v1 ko lq nG u,dd⟩ w:=by
 have eU:∀(t:Array Value) (u':Nat->Value) (w':World),t=rK Fd b5 v1 ko lq nG u'->u' 6=.int .i64 x->u' 7=.bool bo->AF Fd Mp b5 e d o w'->(fun(a':Act)=>∃u',u' 6=.int .i64 x/\u' 7=.bool bo/\a'=⟨rK Fd b5 v1 ko lq nG u',dd⟩) ⟨t,dd⟩:=fun t u' w' e1 e2 e3 _=>⟨u',e2,e3,by rw[e1]⟩;generalize hMz:(fun(a':Act)=>∃u',u' 6=.int .i64 x/\u' 7=.bool bo/\a'=⟨rK Fd b5 v1 ko lq nG u',dd⟩)=Mz at eU;rw[show(fun(ex:Exit) (a':Act) (w':World)=>ex=.normal/\(∃u',u' 6=.int .i64 x/\u' 7=.bool bo/\a'=⟨rK Fd b5 v1 ko lq nG u',dd⟩)/\AF Fd Mp b5 e d o w')=fun ex a' w'=>ex=.normal/\Mz a'/\AF Fd Mp b5 e d o w' by rw[<-hMz]];clear hMz
 co_apply al3
 intro w hF;unfold ad5 alM;dsimp only;rw[show rK Fd b5 v1 ko lq nG u=_ from rfl];simp only[rK];have rl:∀{w w1:World},AF Fd Mp b5 e d o w->RU U S w w1->AF Fd Mp b5 e d o w1:=fun h r=>AF.rely H h r
 co_held (terms (U:=U) (S:=S) (X:=X)) lets ah0 (AF Fd Mp b5 e d o) rl hF
 refine tk H (i:=0) (v:=.pointer (some ⟨Fd,0,none⟩)) rfl (by decide+kernel) (by decide+kernel) (by decide+kernel) (.inl ⟨by rfl,fun w2 hw=>⟨run_eq_of (fun K hK=>by go_simp;exact hK),by co_quiet (terms (U:=U) (S:=S) (X:=X))⟩⟩) hF ?_;try walk_nrm
 refine tk H (i:=1) (v:=.pointer (some ⟨Fd,0,none⟩)) rfl (by decide+kernel) (by decide+kernel) (by decide+kernel) (.inl ⟨by rfl,fun w2 hw=>⟨run_eq_of (fun K hK=>by go_simp;exact hK),by co_quiet (terms (U:=U) (S:=S) (X:=X))⟩⟩) hF ?_;try walk_nrm
 refine tk H (i:=2) (v:=.pointer (some ⟨Fd,2,none⟩)) rfl (by decide+kernel) (by decide+kernel) (by decide+kernel) (.inl ⟨by rfl,fun w2 hw=>⟨run_eq_of (fun K hK=>by go_simp;exact hK),by co_quiet (terms (U:=U) (S:=S) (X:=X))⟩⟩) hF ?_;try walk_nrm
 refine tk H (i:=3) (v:=.map (some Mp)) rfl (by decide+kernel) (by decide+kernel) (by decide+kernel) (.inl ⟨by rfl,fun w2 hw=>⟨run_eq_of (fun K hK=>by have hc:=hw.m;go_simp;exact hK),oO (by have hc:=hw.m;co_evs (exact .inl ⟨_,rfl,rfl,rfl,H.fd,H.u2⟩))⟩⟩) hF ?_;try walk_nrm
 refine tk H (i:=4) (v:=.pointer (some ⟨b5,0,none⟩)) rfl (by decide+kernel) (by decide+kernel) (by decide+kernel) (.inl ⟨by rfl,fun w2 hw=>⟨run_eq_of (fun K hK=>by go_simp;exact hK),by co_quiet (terms (U:=U) (S:=S) (X:=X))⟩⟩) hF ?_;try walk_nrm
 refine tk H (i:=5) (v:=.int .i64 e) rfl (by decide+kernel) (by decide+kernel) (by decide+kernel) (.inl ⟨by rfl,fun w2 hw=>⟨run_eq_of (fun K hK=>by have hc:=hw.c0;go_simp;exact hK),oO (by have hc:=hw.c0;co_evs (exact .inl ⟨_,rfl,rfl,rfl,H.b,H.ub 0⟩))⟩⟩) hF ?_;try walk_nrm
 refine tk H (i:=6) (v:=.tuple #[.int .i64 x,.bool bo]) rfl (by decide+kernel) (by decide+kernel) (by decide+kernel) (.inl ⟨by rfl,fun w2 hw=>⟨run_eq_of (fun K hK=>by have hc:=Mo w2 hw;go_simp;exact hK),oO (by intro ev he;have hm:=mem_listed he;simp[go_sem]at hm;have h3:=pF w2 hw ev hm;exact .inr ⟨Mp,h3.1,h3.2.1,h3.2.2,H.mp⟩)⟩⟩) hF ?_;try walk_nrm
 refine tk H (i:=7) (v:=.tuple #[.int .i64 x,.bool bo]) rfl (by decide+kernel) (by decide+kernel) (by decide+kernel) (.inl ⟨by rfl,fun w2 hw=>⟨run_eq_of (fun K hK=>by go_simp;exact hK),by co_quiet (terms (U:=U) (S:=S) (X:=X))⟩⟩) hF ?_;try walk_nrm
 refine tk H (i:=8) (v:=.int .i64 x) rfl (by decide+kernel) (by decide+kernel) (by decide+kernel) (.inl ⟨by rfl,fun w2 hw=>⟨run_eq_of (fun K hK=>by go_simp;exact hK),by co_quiet (terms (U:=U) (S:=S) (X:=X))⟩⟩) hF ?_;try walk_nrm
 refine tk H (i:=9) (v:=.bool bo) rfl (by decide+kernel) (by decide+kernel) (by decide+kernel) (.inl ⟨by rfl,fun w2 hw=>⟨run_eq_of (fun K hK=>by go_simp;exact hK),by co_quiet (terms (U:=U) (S:=S) (X:=X))⟩⟩) hF ?_;try walk_nrm
 refine tk H (i:=10) (v:=.int .i64 x) rfl (by decide+kernel) (by decide+kernel) (by decide+kernel) (.inl ⟨by rfl,fun w2 hw=>⟨run_eq_of (fun K hK=>by go_simp;exact hK),by co_quiet (terms (U:=U) (S:=S) (X:=X))⟩⟩) hF ?_;try walk_nrm
 refine tk H (i:=11) (v:=.bool bo) rfl (by decide+kernel) (by decide+kernel) (by decide+kernel) (.inl ⟨by rfl,fun w2 hw=>⟨run_eq_of (fun K hK=>by go_simp;exact hK),by co_quiet (terms (U:=U) (S:=S) (X:=X))⟩⟩) hF ?_;try walk_nrm
 refine anyCH_done (by first|kernel_rfl|decide+kernel) ?_ _;exact⟨rfl,eU _ _ _ (uT Fd b5 v1 ko lq nG _ _ _ _ _ _ _ _ _ _ _ _ _ _ _ _ _ _ _ _ _ _ _ _ _ _ _ _ _ _ _ _ _ _ _ _ _ _ _ _ _ _) rfl rfl hF,hF⟩
end
noncomputable def ad7:=match alM.body with
 |some (.seq _ (.seq _ (.seq _ (.block _ (.loop (.seq _ (.seq _ (.seq (.block _ (.seq _ (.seq _ (.seq _ (.cond _ r7 _))))) _))))))))=>r7
 |_=>.skip
structure AG(Fd Mp b5:Nat)(e d:Int)(w:World):Prop where
 m:w.cell? ⟨Fd,2,none⟩=some (.map (some Mp))
 c0:w.cell? ⟨b5,0,none⟩=some (.int .i64 e)
 c1:w.cell? ⟨b5,1,none⟩=some (.int .i64 d)
section
variable{U:Nat->Nat->Prop}{S X:Nat->Prop}{Fd Mp b5:Nat}{e d:Int}{o:Option Obj}
theorem AG.rely(H:Fj U S Fd Mp b5){w w1:World}(h:AG Fd Mp b5 e d w)(r:RU U S w w1):AG Fd Mp b5 e d w1:=
 ⟨dG H.fd H.u2 h.m r,dG H.b (H.ub 0) h.c0 r,dG H.b (H.ub 1) h.c1 r⟩
theorem tk7(H:Fj U S Fd Mp b5){Mz:Act->Prop}{P:Program}{md:Region.Mode}{ops:Array _}{oi:Oper}{li:Array _}{a:Act}(hi:ops[i]?=some oi)
  (hs:amf ops=true)(hf:Region.free md ops li i=true)(hr:(Region.ready md ops li).contains i=true)
  (hy:YieldsIfC P (DU U S X) fn ops (AG Fd Mp b5 e d) oi v a)(hS:AG Fd Mp b5 e d w)(h:AnyCH P (RU U S) (DU U S X) fn md ops (fun ex a' w'=>ex=.normal/\Mz a'/\AF Fd Mp b5 e d o w') (AG Fd Mp b5 e d) fuel (li.setIfInBounds i true) (a.put oi.dst v) w):
  AnyCH P (RU U S) (DU U S X) fn md ops (fun ex a' w'=>ex=.normal/\Mz a'/\AF Fd Mp b5 e d o w') (AG Fd Mp b5 e d) (fuel+1) li a w:=
 anyCH_take terms (fun _ _ h r=>AG.rely H h r) (fun _ _ _ h r=>⟨h.1,h.2.1,AF.rely H h.2.2 r⟩) hi hs hf hr hy hS h
theorem Ur{P:Program}{R:World->World->Prop}{D:World->World->Array _->Prop}{ops:Array _}{K:Act->World->Prop}{a:Act}{o:Oper}(hi:ops[i]?=some o)(hw:ama o (yielded ops a.tmps)=true)
  (h:∀w1,R w w1->∀Z:Result _->Prop,(∀w',D w1 w' (listed P fn a o w1)->K (a.put o.dst undef) w'->Z (.ok .skip w'))->Z ((execOp a.eval o).run P w1)):OpC P R D fn ops i K a w:=by
 unfold OpC;rw[hi];dsimp only;rw[if_pos hw];exact fun w1 hr=>h w1 hr _ fun w' h1 h2=>⟨h1,h2⟩
theorem AV{w1:World}{b g:Nat}(h:Env.Eff g w w1)(hb:b≠g):w1.cell? ⟨b,i,none⟩=w.cell? ⟨b,i,none⟩:=by
 simp[al7];rw[h.heap b hb]
theorem Us{w1:World}{es:Array _}(hX:X Mp)(hS:S Mp)(h:Env.Eff Mp w w1)(he:∀ev∈es,ev.loc=.obj Mp/\ev.sync=false):DU U S X w w1 es:=
 ⟨⟨fun a _ hx=>h.heap a fun e=>hx (e▸hX),Nat.le_of_eq h.size.symm,fun a=>⟨.inl,fun y=>y.resolve_right fun z=>by have:=h.size;omega⟩,fun a=>⟨.inl,fun y=>y.resolve_right fun z=>by have:=h.size;omega⟩,fun ev hm=>.inr (.inl ⟨Mp,(he ev hm).1,(he ev hm).2,.inl ⟨hS,fun _=>hX⟩⟩),h.tape,h.env,h.output⟩,fun ev hm a hl=>by simp_all⟩
theorem ah3(H:Fj U S Fd Mp b5)(hX:X Mp)(hFM:Fd≠Mp)(hbM:b5≠Mp)(dd:List Deferred)(v1 ko lq nG:Value)(u:Nat->Value)(o':Option Obj)
  (hup:∀w,w.heap[Mp]?=o->∃v w',(amg 166 (.map (some Mp)) (.int .i64 e) (.int .i64 d)).run alF w=.ok v w'/\Env.Eff Mp w w'/\w'.heap[Mp]?=o')
  (pF:∀w,w.heap[Mp]?=o->∀ev∈Sem.events alF (amg 166 (.map (some Mp)) (.int .i64 e) (.int .i64 d)) w #[],ev.loc=.obj Mp/\ev.sync=false):
  ∃k,∀w,AF Fd Mp b5 e d o w->ad7.wpC alF false (RU U S) (DU U S X) 140 k (fun ex a' w'=>ex=.normal/\(∃u',a'=⟨rK Fd b5 v1 ko lq nG u',dd⟩)/\AF Fd Mp b5 e d o' w') ⟨rK Fd b5 v1 ko lq nG u,dd⟩ w:=by
 have eU:∀(t:Array Value) (u':Nat->Value),t=rK Fd b5 v1 ko lq nG u'->(fun(a':Act)=>∃u',a'=⟨rK Fd b5 v1 ko lq nG u',dd⟩) ⟨t,dd⟩:=fun t u' e1=>⟨u',by rw[e1]⟩;generalize hMz:(fun(a':Act)=>∃u',a'=⟨rK Fd b5 v1 ko lq nG u',dd⟩)=Mz at eU;rw[show(fun(ex:Exit) (a':Act) (w':World)=>ex=.normal/\(∃u',a'=⟨rK Fd b5 v1 ko lq nG u',dd⟩)/\AF Fd Mp b5 e d o' w')=fun ex a' w'=>ex=.normal/\Mz a'/\AF Fd Mp b5 e d o' w' by rw[<-hMz]];clear hMz
 co_apply al3
 intro w hF0;have hF:AG Fd Mp b5 e d w:=⟨hF0.m,hF0.c0,hF0.c1⟩;have hO:=hF0.o;clear hF0;unfold ad7 alM;dsimp only;rw[show rK Fd b5 v1 ko lq nG u=_ from rfl];simp only[rK]
 co_apply wpC_region_held (terms (U:=U) (S:=S) (X:=X)) lets (S:=AG Fd Mp b5 e d) (by first|kernel_rfl|rfl)
 intro w1 hR;replace hF:=AG.rely H (AG.rely H hF hR) (ah0 w1);replace hO:=((hR.kept Mp H.mp).eq H.um).trans hO;replace hO:({w1 with drawn:=w1.drawn+1}:World).heap[Mp]?=o:=hO;generalize({w1 with drawn:=w1.drawn+1}:World)=wz at *;clear hR w1;refine tk7 H (i:=0) (v:=.pointer (some ⟨Fd,0,none⟩)) rfl (by decide+kernel) (by decide+kernel) (by decide+kernel) (.inl ⟨by rfl,fun w2 hw=>⟨run_eq_of (fun K hK=>by go_simp;exact hK),by co_quiet (terms (U:=U) (S:=S) (X:=X))⟩⟩) hF ?_;try walk_nrm
 refine tk7 H (i:=1) (v:=.pointer (some ⟨Fd,0,none⟩)) rfl (by decide+kernel) (by decide+kernel) (by decide+kernel) (.inl ⟨by rfl,fun w2 hw=>⟨run_eq_of (fun K hK=>by go_simp;exact hK),by co_quiet (terms (U:=U) (S:=S) (X:=X))⟩⟩) hF ?_;try walk_nrm
 refine tk7 H (i:=2) (v:=.pointer (some ⟨Fd,2,none⟩)) rfl (by decide+kernel) (by decide+kernel) (by decide+kernel) (.inl ⟨by rfl,fun w2 hw=>⟨run_eq_of (fun K hK=>by go_simp;exact hK),by co_quiet (terms (U:=U) (S:=S) (X:=X))⟩⟩) hF ?_;try walk_nrm
 refine tk7 H (i:=3) (v:=.map (some Mp)) rfl (by decide+kernel) (by decide+kernel) (by decide+kernel) (.inl ⟨by rfl,fun w2 hw=>⟨run_eq_of (fun K hK=>by have hc:=hw.m;go_simp;exact hK),oO (by have hc:=hw.m;co_evs (exact .inl ⟨_,rfl,rfl,rfl,H.fd,H.u2⟩))⟩⟩) hF ?_;try walk_nrm
 refine tk7 H (i:=4) (v:=.pointer (some ⟨b5,0,none⟩)) rfl (by decide+kernel) (by decide+kernel) (by decide+kernel) (.inl ⟨by rfl,fun w2 hw=>⟨run_eq_of (fun K hK=>by go_simp;exact hK),by co_quiet (terms (U:=U) (S:=S) (X:=X))⟩⟩) hF ?_;try walk_nrm
 refine tk7 H (i:=5) (v:=.int .i64 e) rfl (by decide+kernel) (by decide+kernel) (by decide+kernel) (.inl ⟨by rfl,fun w2 hw=>⟨run_eq_of (fun K hK=>by have hc:=hw.c0;go_simp;exact hK),oO (by have hc:=hw.c0;co_evs (exact .inl ⟨_,rfl,rfl,rfl,H.b,H.ub 0⟩))⟩⟩) hF ?_;try walk_nrm
 refine tk7 H (i:=6) (v:=.pointer (some ⟨b5,1,none⟩)) rfl (by decide+kernel) (by decide+kernel) (by decide+kernel) (.inl ⟨by rfl,fun w2 hw=>⟨run_eq_of (fun K hK=>by go_simp;exact hK),by co_quiet (terms (U:=U) (S:=S) (X:=X))⟩⟩) hF ?_;try walk_nrm
 refine tk7 H (i:=7) (v:=.int .i64 d) rfl (by decide+kernel) (by decide+kernel) (by decide+kernel) (.inl ⟨by rfl,fun w2 hw=>⟨run_eq_of (fun K hK=>by have hc:=hw.c1;go_simp;exact hK),oO (by have hc:=hw.c1;co_evs (exact .inl ⟨_,rfl,rfl,rfl,H.b,H.ub 1⟩))⟩⟩) hF ?_;try walk_nrm
 refine anyCH_all (rs:=[8]) (by decide+kernel) (by simp) fun i hi=>?_;simp only[List.mem_singleton]at hi;subst hi;refine Ur rfl (by rfl) fun w1 dE Z hZ=>?_;have hO1:w1.heap[Mp]?=o:=((dE.kept Mp H.mp).eq H.um).trans hO;have zm:=AG.rely H hF dE;obtain⟨v,w',bm,qm,hO'⟩:=hup w1 hO1;have hE:=pF w1 hO1;have hG:AG Fd Mp b5 e d w':=⟨(AV qm hFM).trans zm.m,(AV qm hbM).trans zm.c0,(AV qm hbM).trans zm.c1⟩;have hZ2:=hZ w' (Us hX H.mp qm fun ev he=>by
  have hm:=mem_listed he;simp[go_sem]at hm;exact hE ev hm) ⟨hG,anyCH_done (by first|kernel_rfl|decide+kernel) ⟨rfl,eU _ _ (uT Fd b5 v1 ko lq nG _ _ _ _ _ _ _ _ _ _ _ _ _ _ _ _ _ _ _ _ _ _ _ _ _ _ _ _ _ _ _ _ _ _ _ _ _ _ _ _ _ _),hG.m,hG.c0,hG.c1,hO'⟩ _⟩
 clear hZ
 go_simp
 exact hZ2
end
noncomputable def ad6:=match alM.body with
 |some (.seq _ (.seq _ (.seq _ (.block _ (.loop (.seq _ (.seq _ (.seq (.block _ (.seq _ (.seq _ (.seq r6 _)))) _))))))))=>r6
 |_=>.skip
section
variable{U:Nat->Nat->Prop}{S X:Nat->Prop}{Fd Mp b5:Nat}{e d:Int}{o:Option Obj}
theorem ac4(H:Fj U S Fd Mp b5)(dd:List Deferred)(v1 ko lq nG:Value)(u:Nat->Value)(h7:u 7=.bool false):
  ∃k,∀w,AF Fd Mp b5 e d o w->ad6.wpC alF false (RU U S) (DU U S X) 140 k (fun ex a' w'=>ex=.normal/\(∃u',u' 38=.bool true/\a'=⟨rK Fd b5 v1 ko lq nG u',dd⟩)/\AF Fd Mp b5 e d o w') ⟨rK Fd b5 v1 ko lq nG u,dd⟩ w:=by
 have eU:∀(t:Array Value) (u':Nat->Value) (w':World),t=rK Fd b5 v1 ko lq nG u'->u' 38=.bool true->AF Fd Mp b5 e d o w'->(fun(ex:Exit) (a':Act) w'=>ex=.normal/\(∃u',u' 38=.bool true/\a'=⟨rK Fd b5 v1 ko lq nG u',dd⟩)/\AF Fd Mp b5 e d o w') .normal ⟨t,dd⟩ w':=fun t u' w' e1 e2 e3=>⟨rfl,⟨u',e2,by rw[e1]⟩,e3⟩
 co_apply al3
 intro w hF;simp only[rK,h7];have rl:∀{w w1:World},AF Fd Mp b5 e d o w->RU U S w w1->AF Fd Mp b5 e d o w1:=fun h r=>AF.rely H h r
 co_reg (terms (U:=U) (S:=S) (X:=X))
 co_op rl hF (co_quiet (terms (U:=U) (S:=S) (X:=X)))
 co_op rl hF (co_quiet (terms (U:=U) (S:=S) (X:=X)))
 co_op rl hF (co_quiet (terms (U:=U) (S:=S) (X:=X)))
 co_apply opsC_unwanted (terms (U:=U) (S:=S) (X:=X)) rfl (by rfl)
 co_apply opsC_unwanted (terms (U:=U) (S:=S) (X:=X)) rfl (by rfl)
 co_apply opsC_unwanted (terms (U:=U) (S:=S) (X:=X)) rfl (by rfl)
 try walk_nrm
 co_apply opsC_unwanted (terms (U:=U) (S:=S) (X:=X)) rfl (by rfl)
 co_op rl hF (co_quiet (terms (U:=U) (S:=S) (X:=X)))
 co_apply opsC_nil (terms (U:=U))
 exact eU _ _ _ (uT Fd b5 v1 ko lq nG _ _ _ _ _ _ _ _ _ _ _ _ _ _ _ _ _ _ _ _ _ _ _ _ _ _ _ _ _ _ _ _ _ _ _ _ _ _ _ _ _ _) rfl hF
theorem Yh(H:Fj U S Fd Mp b5)(dd:List Deferred)(v1 ko lq nG:Value)(u:Nat->Value)(h7:u 7=.bool true)(x:Int)(h6:u 6=.int .i64 x):
  ∃k,∀w,AF Fd Mp b5 e d o w->ad6.wpC alF false (RU U S) (DU U S X) 140 k (fun ex a' w'=>ex=.normal/\(∃u',u' 38=.bool (decide (d<x))/\a'=⟨rK Fd b5 v1 ko lq nG u',dd⟩)/\AF Fd Mp b5 e d o w') ⟨rK Fd b5 v1 ko lq nG u,dd⟩ w:=by
 have eU:∀(t:Array Value) (u':Nat->Value) (w':World),t=rK Fd b5 v1 ko lq nG u'->u' 38=.bool (decide (d<x))->AF Fd Mp b5 e d o w'->(fun(ex:Exit) (a':Act) (w':World)=>ex=.normal/\(∃u',u' 38=.bool (decide (d<x))/\a'=⟨rK Fd b5 v1 ko lq nG u',dd⟩)/\AF Fd Mp b5 e d o w') .normal ⟨t,dd⟩ w':=fun t u' w' e1 e2 e3=>⟨rfl,⟨u',e2,by rw[e1]⟩,e3⟩
 co_apply al3
 intro w hF;unfold ad6 alM;dsimp only;simp only[rK,h7,h6];have rl:∀{w w1:World},AF Fd Mp b5 e d o w->RU U S w w1->AF Fd Mp b5 e d o w1:=fun h r=>AF.rely H h r
 co_reg (terms (U:=U) (S:=S) (X:=X))
 co_op rl hF (co_quiet (terms (U:=U) (S:=S) (X:=X)))
 co_op rl hF (co_quiet (terms (U:=U) (S:=S) (X:=X)))
 co_op rl hF (co_quiet (terms (U:=U) (S:=S) (X:=X)))
 co_op rl hF (co_quiet (terms (U:=U) (S:=S) (X:=X)))
 co_opw rl hF (have hc:=hF.c1) (exact oO (by have hc:=hF.c1;co_evs (exact .inl ⟨_,rfl,rfl,rfl,H.b,H.ub 1⟩)))
 co_op rl hF (co_quiet (terms (U:=U) (S:=S) (X:=X)))
 co_op rl hF (co_quiet (terms (U:=U) (S:=S) (X:=X)))
 co_op rl hF (co_quiet (terms (U:=U) (S:=S) (X:=X)))
 co_apply opsC_nil (terms (U:=U) (S:=S) (X:=X))
 exact eU _ _ _ (uT Fd b5 v1 ko lq nG _ _ _ _ _ _ _ _ _ _ _ _ _ _ _ _ _ _ _ _ _ _ _ _ _ _ _ _ _ _ _ _ _ _ _ _ _ _ _ _ _ _) rfl hF
end
section
variable{P:Program}{main:Bool}{U:Nat->Nat->Prop}{D:(Nat->Prop)->(Nat->Prop)->Goroutine->World->Prop}{S X:Nat->Prop}{b:Frame}{a:Act}{k:List Item}{cs:List Frame}{w:World}
theorem Tz.op{ops:Array _}{rest:List Nat}{o:Oper}(ho:ops[i]?=some o)(hw:ama o (yielded ops a.tmps)=true)(hk:b.kind≠.early)
  (h:∀w2,aP U S w w2->uponK o a (fun a' w'=>∃S1 X1,iF U S X w2 w' (listed P b.fn a o w2) S1 X1/\Tz P main U D S1 X1 (G (b.at a' (.inRegion ops rest::k)) cs) w') ((execOp a.eval o).run P w2)):
  Tz P main U D S X (G (b.at a (.inRegion ops (i::rest)::k)) cs) w:=by
 refine alL rfl fun w2 hr=>?_;have hg:(stepG P main (G (b.at a (.inRegion ops (i::rest)::k)) cs) w2).goes fun g' w' es=>∃S1 X1,iF U S X w2 w' es S1 X1/\Tz P main U D S1 X1 g' w':=by
  refine goes_oper ho hw hk ?_;have:=h w2 hr;revert this;cases(execOp _ o).run P w2 with
  |ok x w'=>cases x<;>exact id
  |halt _ _=>exact id
 revert hg;generalize stepG P _ _ w2=s;intro hg;cases s with
 |go g' w' es=>
  obtain⟨S1,X1,h1,h2⟩:=hg;exact⟨g',w',es,S1,X1,rfl,h1,h2⟩
 |_=>exact hg.elim
theorem Tz.opk{ops:Array _}{rest:List Nat}{o:Oper}(ho:ops[i]?=some o)(hw:ama o (yielded ops a.tmps)=true)(hk:b.kind≠.early)
  (h:∀w2,aP U S w w2->∀K,(∀a' w',(∃S1 X1,iF U S X w2 w' (listed P b.fn a o w2) S1 X1/\Tz P main U D S1 X1 (G (b.at a' (.inRegion ops rest::k)) cs) w')->K a' w')->uponK o a K ((execOp a.eval o).run P w2)):
  Tz P main U D S X (G (b.at a (.inRegion ops (i::rest)::k)) cs) w:=
 Tz.op ho hw hk fun w2 hr=>h w2 hr _ fun _ _ x=>x
theorem Tz.quiet{g:Goroutine}(hs:g.status=.running)(e:∀w,stepG P main g w=.go g1 w #[])(h:∀w2,aP U S w w2->Tz P main U D S X g1 w2):Tz P main U D S X g w:=
 alL hs fun w2 hr=>⟨g1,w2,#[],S,X,e w2,aL _ _ _,h w2 hr⟩
theorem Tz.region{ops:Array _}(h:∀w2,aP U S w w2->Tz P main U D S X (G (b.at a (.inRegion ops (alN ops.size)::k)) cs) w2):Tz P main U D S X (G (b.at a (.code (.region id ops false)::k)) cs) w:=
 Tz.quiet rfl (fun w=>stepG_region) h
theorem Tz.xd{ops:Array _}(h:∀w2,aP U S w w2->Tz P main U D S X (G (b.at a k) cs) w2):Tz P main U D S X (G (b.at a (.inRegion ops []::k)) cs) w:=
 Tz.quiet rfl (fun w=>stepG_region_end) h
end
def BS(Fd:Nat)(v1 v5 ko lq nG:Value)(u:Nat->Value):=#[.pointer (some ⟨Fd,0,none⟩),v1,u 2,u 3,u 4,v5,u 6,u 7,u 8,u 9,u 10,u 11,u 12,u 13,u 14,ko,lq,nG,u 18,u 19,u 20,u 21,u 22,u 23,u 24,u 25,u 26,u 27,u 28,u 29,u 30,u 31,u 32,u 33,u 34,u 35,u 36,u 37,u 38,u 39,u 40,u 41,u 42,u 43,u 44,u 45,u 46,u 47]
noncomputable def ad4:=match alM.body with
 |some (.seq _ (.seq _ (.seq _ (.block _ (.loop (.seq _ (.seq _ (.seq (.block _ (.seq r4 _)) _))))))))=>r4
 |_=>.skip
section
variable{U:Nat->Nat->Prop}{D:(Nat->Prop)->(Nat->Prop)->Goroutine->World->Prop}{S X:Nat->Prop}{Fd g:Nat}{e d:Int}
theorem xe(o:Obj):iF U S X w (w.alloc o) #[] (fun a=>S a\/a=w.heap.size) (fun a=>X a\/a=w.heap.size):=by
 have hs:(w.alloc o).heap.size=w.heap.size+1:=by simp
 refine⟨⟨fun a ha _=>heap_alloc_old w o ha,by omega,fun a=>?_,fun a=>?_,fun e he=>by simp_all,rfl,.refl _,rfl⟩,fun e he=>by simp_all⟩
 ·exact⟨fun h=>h.imp id fun y=>by omega,fun h=>h.imp id fun y=>by omega⟩
 ·exact⟨fun h=>h.imp id fun y=>by omega,fun h=>h.imp id fun y=>by omega⟩
theorem qO{w1:World}{b:Nat}{es:Array _}(hS:S b)(hX:X b)(hu:∀i,¬U b i)(h:Env.Eff b w w1)(he:∀ev∈es,∃a:Addr,ev.loc=.cell a/\ev.sync=false/\a.block=b):iF U S X w w1 es S X:=
 ⟨⟨fun a _ hx=>h.heap a fun e=>hx (e▸hX),Nat.le_of_eq h.size.symm,fun a=>⟨.inl,fun y=>y.resolve_right fun z=>by have:=h.size;omega⟩,fun a=>⟨.inl,fun y=>y.resolve_right fun z=>by have:=h.size;omega⟩,fun ev hm=>by
  obtain⟨a,h1,h2,h3⟩:=he ev hm;exact .inl ⟨a,h1,h2,.inl ⟨h3▸hS,fun _=>h3▸hX⟩⟩,h.tape,h.env,h.output⟩,fun ev hm a hl=>by
  obtain⟨a',h1,h2,h3⟩:=he ev hm;simp_all⟩
theorem dW{b:Nat}(v:Value):Env.Eff b w (w.setCell ⟨b,i,none⟩ v):=⟨fun a ha=>heap_setCell_other w _ a v ha,by simp,rfl,.refl _,rfl⟩
theorem fv{w1 w2:World}{b:Nat}(h:Env.Eff b w w1)(k:Env.Eff b w1 w2):Env.Eff b w w2:=⟨fun a ha=>(k.heap a ha).trans (h.heap a ha),k.size.trans h.size,k.tape.trans h.tape,k.env.trans h.env,k.output.trans h.output⟩
theorem ah6{b:Frame}{k:List Item}(hb:b.fn=140)(hk:b.kind≠.early)(dd:List Deferred)(v1 v5 lq:Value)(u:Nat->Value)(i n cap:Nat)(hi:i<n)(Ut:S g)
  (hc:∀w2,aP U S w w2->w2.cell? ⟨g,i *2,none⟩=some (.int .i64 e)/\w2.cell? ⟨g,i *2+1,none⟩=some (.int .i64 d))(II:∀i,¬U g i)(hUl:∀b i,U b i->b<w.heap.size)(hSl:∀a,S a->a<w.heap.size)
  (cont:∀nb w2 u',w.heap.size<=nb->(∀i,¬U nb i)->w2.cell? ⟨nb,0,none⟩=some (.int .i64 e)->w2.cell? ⟨nb,1,none⟩=some (.int .i64 d)->nb<w2.heap.size->aP U S w w2->
   Tz alF false U D (fun a=>S a\/a=nb) (fun a=>X a\/a=nb) (G (b.at ⟨rK Fd nb v1 (.slice (some ⟨g,0,none⟩) n cap) lq (.int .i64 (i:Int)) u',dd⟩ k) cs) w2):
  Tz alF false U D S X (G (b.at ⟨BS Fd v1 v5 (.slice (some ⟨g,0,none⟩) n cap) lq (.int .i64 (i:Int)) u,dd⟩ (.code ad4::k)) cs) w:=by
 have b1:(i:Int)<(n:Int):=by omega
 have b2:(0:Int)<=(i:Int):=Int.natCast_nonneg _;unfold ad4 alM;dsimp only;simp only[BS];refine Tz.region fun w1 dE=>?_;refine Tz.opk rfl (by rfl) hk fun w2 fU K hK=>?_
 go_simp
 refine hK _ _ ⟨S,X,?_,?_⟩
 ·rw[listed_nil (by simp[go_sem, *])];exact aL _ _ _
 clear hK K;try walk_nrm
 refine Tz.opk rfl (by rfl) hk fun w3 bV K hK=>?_;obtain⟨e0,e1⟩:=hc w3 ((dE.trans fU).trans bV)
 go_simp
 refine hK _ _ ⟨S,X,oO fun ev he=>?_,?_⟩
 ·have hm:=mem_listed he;simp[go_sem, *]at hm;rcases hm with rfl|rfl
  ·exact .inl ⟨_,rfl,rfl,rfl,Ut,II _⟩
  ·exact .inl ⟨_,rfl,rfl,rfl,Ut,II _⟩
 clear hK K;try walk_nrm
 refine Tz.opk rfl (by rfl) hk fun w4 lQ K hK=>?_
 go_simp
 refine hK _ _ ⟨_,_,(by rw[listed_nil (by simp[go_sem, *])];exact xe _),?_⟩;clear hK K;try walk_nrm
 have Uu:∀i,¬U w4.heap.size i:=fun j hu=>by
  have h1:=hUl _ _ hu;have h2:=(((dE.trans fU).trans bV).trans lQ).grow;omega
 have ac6:(w4.alloc (.cells #[.int .i64 0,.int .i64 0] 173)).heap[w4.heap.size]?=some (.cells #[.int .i64 0,.int .i64 0] 173):=heap_alloc_new w4 _;refine Tz.opk rfl (by rfl) hk fun w5 lT K hK=>?_;have Ka:=((lT.kept _ (.inr rfl)).eq Uu).trans ac6;have f0:w5.cell? ⟨w4.heap.size,0,none⟩=some (.int .i64 0):=by rw[cell_of_row _ _ 0 _ _ _ Ka];rfl
 have f1:w5.cell? ⟨w4.heap.size,1,none⟩=some (.int .i64 0):=by rw[cell_of_row _ _ 1 _ _ _ Ka];rfl
 have z0:w5.frozen? ⟨w4.heap.size,0,none⟩=false:=frozen_of_row _ _ 0 _ _ Ka;have z1:w5.frozen? ⟨w4.heap.size,1,none⟩=false:=frozen_of_row _ _ 1 _ _ Ka
 go_simp
 try(unfold stored;go_simp)
 have qm:Env.Eff w4.heap.size w5 ((w5.setCell ⟨w4.heap.size,0,none⟩ (.int .i64 e)).setCell ⟨w4.heap.size,1,none⟩ (.int .i64 d)):=fv (dW _) (dW _);have hbn:((w5.setCell ⟨w4.heap.size,0,none⟩ (.int .i64 e)).setCell ⟨w4.heap.size,1,none⟩ (.int .i64 d)).heap[w4.heap.size]?=some (.cells #[.int .i64 e,.int .i64 d] 173):=by
  have h1:=heap_setCell_same w5 w4.heap.size 0 _ _ (.int .i64 e) Ka;rw[heap_setCell_same _ w4.heap.size 1 _ _ (.int .i64 d) h1];rfl
 refine hK _ _ ⟨_,_,qO (.inr rfl) (.inr rfl) Uu qm fun ev he=>?_,?_⟩
 ·have hm:=mem_listed he;simp[go_sem, *]at hm;rcases hm with rfl|rfl
  ·exact⟨_,rfl,rfl,rfl⟩
  ·exact⟨_,rfl,rfl,rfl⟩
 clear hK K;try walk_nrm
 refine Tz.xd fun w7 pW=>?_;have Yi:=((dE.trans fU).trans bV).trans lQ;have KH:w7.heap[w4.heap.size]?=some (.cells #[.int .i64 e,.int .i64 d] 173):=((pW.kept _ (.inr rfl)).eq Uu).trans hbn;have aV:w4.heap.size<w7.heap.size:=alO fun y=>by rw[alU y]at KH;cases KH
 have bj:∀a,S a->a≠w4.heap.size:=fun a ha ee=>by
  have h1:=hSl a ha;have h2:=Yi.grow;omega
 have hrr:aP U S w w7:=by
  refine Yi.trans ⟨fun a ha=>?_,by omega,?_⟩
  ·have k1:=lT.kept a (.inl ha);have k2:=pW.kept a (.inl ha);rw[heap_alloc_old w4 _ (by have h1:=hSl a ha;have h2:=Yi.grow;omega)]at k1;rw[qm.heap a (bj a ha)]at k2;exact k1.trans k2
  ·exact pW.env.trans (qm.env.trans lT.env)
 rw[uT Fd w4.heap.size v1 _ lq _ _ _ _ _ _ _ _ _ _ _ _ _ _ _ _ _ _ _ _ _ _ _ _ _ _ _ _ _ _ _ _ _ _ _ _ _ _ _ _ _ _ _];exact cont w4.heap.size w7 _ Yi.grow Uu (by rw[cell_of_row _ _ 0 _ _ _ KH];rfl) (by rw[cell_of_row _ _ 1 _ _ _ KH];rfl) aV hrr
end
theorem Mq:ua PR (isAgg 214)=some false:=by kernel_rfl
theorem IJ:ua PR (isAgg 3)=some false:=by kernel_rfl
theorem Qt:(PR.funcs[137]?).any (·.norace)=false:=by kernel_rfl
theorem Yj:PR.underlying 213=some (.slice (PR.elem 213)):=by kernel_rfl
theorem z213:(PR.info? (PR.elem 213)).map (·.size)=some 1:=by kernel_rfl
theorem u25:PR.underlying 25=some (.slice (PR.elem 25)):=by kernel_rfl
theorem z25:(PR.info? (PR.elem 25)).map (·.size)=some 1:=by kernel_rfl
theorem y1:yes zo=.code .skip::zo.tail:=by kernel_rfl
theorem n1:no zo=.code (.exit 0)::zo.tail:=by kernel_rfl
theorem y2:yes AJ=.code .skip::AJ.tail:=by kernel_rfl
theorem n2:no AJ=.code (.exit 2)::AJ.tail:=by kernel_rfl
theorem y3:yes AK=.code .skip::AK.tail:=by kernel_rfl
theorem n3:no AK=.code (.exit 4)::AK.tail:=by kernel_rfl
theorem t1:zo=.code (.cond (.tmp 18) .skip (.exit 0))::zo.tail:=by kernel_rfl
theorem t2:AJ=.code (.cond (.tmp 34) .skip (.exit 2))::AJ.tail:=by kernel_rfl
theorem t3:AK=.code (.cond (.tmp 49) .skip (.exit 4))::AK.tail:=by kernel_rfl
theorem ac7{b:Option _}{len cap Gv:Nat}{J:Nat->Value}{c:Frame}{cs:List _}:bD PR 3 ((dF sC2 (im (cX b len cap) n work Wg Gv) J).finish unit) (c::cs)=(c.finish unit,cs):=by kernel_rfl
theorem Ou(P:Program):∀n m f l,bD P (n+m) f l=bD P m (bD P n f l).1 (bD P n f l).2
 |0,m,f,l=>by rw[Nat.zero_add];rfl
 |n+1,m,f,l=>by
  rw[show n+1+m=(n+m)+1 by omega];cases e:J0 P f l with
  |some x=>
   obtain⟨f1,l1⟩:=x;have h1:bD P (n+m+1) f l=bD P (n+m) f1 l1:=by simp[bD,e]
   have h2:bD P (n+1) f l=bD P n f1 l1:=by simp[bD,e]
   rw[h1,h2];exact Ou P n m f1 l1
  |none=>
   cases m with
   |zero=>rfl
   |succ m=>simp[bD,e]
theorem uo.less{site:List _}{s s':Nat->Option _}(h:uo fn n site s f)(hs:∀i v,s' i=some v->s i=some v):uo fn n site s' f:=⟨h.fn,h.todo,h.defers,h.mode,h.kind,h.round,h.size,fun i v e=>h.slot i v (hs i v e)⟩
theorem uo.dQ{site yj:List _}{s:Nat->Option _}(h:uo fn n site s f):uo fn n yj s {f with todo:=yj}:=⟨h.fn,rfl,h.defers,h.mode,h.kind,h.round,h.size,h.slot⟩
theorem sM{a b:List _}(h:sA a i=some v):sA (a++b) i=some v:=by
 unfold sA at h⊢;rw[List.lookup_append,h];rfl
def sO(R:List Nat)(n:Nat):=(R.map (fun c=>Value.chan (some c))++List.replicate (n-R.length) (Value.chan none)).toArray
theorem Qu(R:List Nat)(n:Nat)(h:R.length<=n):(sO R n).size=n:=by simp[sO];omega
theorem Uv(R:List Nat)(n c:Nat)(h:R.length<n):(sO R n).setIfInBounds R.length (.chan (some c))=sO (R++[c]) n:=by
 unfold sO;rw[show n-R.length=(n-(R++[c]).length)+1 by simp;omega,List.replicate_succ];simp
theorem Fl{c:Nat}(h:R[i]?=some c):(sO R n)[i]?=some (.chan (some c)):=by
 unfold sO;have hl:=(List.getElem?_eq_some_iff.1 h).1;rw[List.getElem?_toArray,List.getElem?_append_left (by simp_all),List.getElem?_map,h];rfl
section
variable(E:Env)(RO:Nat->Prop)(rq:World)(Gv n:Nat)
def Wa(w:World):=aP E.U RO rq w
structure DW(R L:List Nat)(S X:Nat->Prop)(w:World):Prop where
 ro:∀a,RO a->S a
 Ds:∀a,RO a->¬X a
 gs:S Gv
 gx:X Gv
 gv:w.heap[Gv]?=some (.cells (sO R n) 214)
 fx:Wa E RO rq w
 low:∀a,S a->a<w.heap.size
 lch:∀c∈L,¬S c/\c<w.heap.size
end
section
variable{E:Env}{RO:Nat->Prop}{rq:World}{Gv n:Nat}{R L:List Nat}{S X:Nat->Prop}{w w2:World}
theorem DW.rely(hu:∀i,¬E.U Gv i)(h:DW E RO rq Gv n R L S X w)(hr:aP E.U S w w2):DW E RO rq Gv n R L S X w2:=
 ⟨h.ro,h.Ds,h.gs,h.gx,((hr.kept Gv h.gs).eq hu).trans h.gv,aP.trans h.fx ⟨fun a ha=>hr.kept a (h.ro a ha),hr.grow,hr.env⟩,fun a ha=>amc (h.low a ha) hr.grow,fun c hc=>⟨(h.lch c hc).1,amc (h.lch c hc).2 hr.grow⟩⟩
theorem DW.Ap(hg:Gv≠E.Wg)(h:DW E RO rq Gv n R L S X w){v ws v' eP eI:Nat}(h1:E.WgAt w v wt ws)(he:Env.Eff E.Wg w w2)(h2:E.WgAt w2 v' eP eI):DW E RO rq Gv n R L S X w2:=
 ⟨h.ro,h.Ds,h.gs,h.gx,(he.heap _ hg).trans h.gv,aP.trans h.fx (E8 RO h1 h2 he),fun a ha=>by rw[he.size];exact h.low a ha,fun c hc=>by rw[he.size];exact h.lch c hc⟩
end
theorem qo{j:Nat}(h:j<1000000000):alP.wrap (j+1)=((j+1:Nat)):=by
 rw[Go.IntWalk.i64_in _ (by omega)];omega
end Ph
end Go.Proofs.YtdcjnhipenbcfaaGreatDoor
