/-
  Own text. Part 6 of what the claim rests on.
-/
import Derived.Test.YtdcjnhipenbcfaaGreatDoorPk5
import Derived.Conc.HoldsTime
import Derived.ProofKit
import Derived.OpenShut
import Derived.ShutString
import Derived.ChangeOld
import Derived.Deep.Slices
import Derived.Shelf.SlSortCmp.QuietGrown
set_option linter.unusedVariables false
set_option linter.unusedSectionVars false
set_option linter.unusedSimpArgs false
set_option maxRecDepth 100000
set_option maxHeartbeats 16000000
open Array renaming getD->aL,getElem?_setIfInBounds->bD,all_eq_true_iff_forall_mem->cn,getElem?_eq_none->cu,getElem?_eq_some_iff->cv,map_congr_left->cw,replicate->cx,any_eq_true'->c9,ext_getElem?->c_,getD_eq_getD_getElem?->da,getElem?_eq_getElem->db,getElem?_toList->dc,mem_of_getElem?->de
open Bool renaming toNat_le->bc,and_eq_true->bE,not_eq_true'->dh
open Classical renaming byContradiction->bu
open Go renaming Value->ae,World->af,FuncId->au,Calls->ax,Frame->ay,maxLen->aB,TypeId->aU,Operand->bq,execOp->br,Program->cT,cell_of_row->cW,run_store->cX,storeCells->cY,typeInfo->cZ,block_lt_of_cell->dG,heap_alloc_new->dH,run_string_add_sum->dI
open Go.Act renaming eval->aX
open Go.DataW renaming Trod->cy,trod->cz,trod_int->cA
open Go.Instr renaming loadAt->cB,storeAt->di
open Go.IntKind renaming i64->aD
open Go.IntWalk renaming i64_in->bQ
open Go.Lib renaming tabData->bR
open Go.Lib.laidMet renaming reads->cC
open Go.OpenSpec renaming ofChange->cS
open Go.Proofs.Tryz renaming prog->ak,f25->bM,underlying3->bN,f16->b_,f39->cf,func25->cg,func60->cj,func16->cU,underlying25->dB,underlying28->dC,underlying5->dD
open Go.Proofs.YtdcjnhipenbcfaaGreatDoor.Ph.GW renaming h_->ah,any->aM,cond->bg,ld->bA,piece->bF
open Go.Proofs.YtdcjnhipenbcfaaGreatDoor.Ph.gn renaming pure->aK,gu->bt,still->cm
open Go.Proofs.YtdcjnhipenbcfaaGreatDoor.Ph.iF renaming il->aW
open Go.Region renaming ready->ar,binds->aT
open Go.Region.linearise renaming go->bL
open Go.Value renaming cells->bO,int->bP,okWide->ck
open Go.World renaming cell?->ao,frozen?->cV
open List renaming getD_eq_getElem?_getD->ai,getElem?_append_right->az,mem_append->aA,getElem?_eq_getElem->aH,getElem?_map->aI,mem_map->aN,replicate->aO,getElem?_append_left->aP,length_append->aY,append_assoc->bh,getElem_mem->bj,mem_cons->bk,mem_singleton->bm,all_eq_true->bB,mem_of_getElem?->bC,foldl_append->bG,length_cons->bH,range->bI,foldl_cons->bS,getElem?_range->bT,length_map->bU,length_nil->bV,not_mem_nil->bW,take_of_length_le->bX,append_nil->cD,cons_append->cE,foldl_nil->cG,getElem?_cons_succ->cH,getElem?_eq_some_iff->cI,map_append->cJ,mem_cons_of_mem->cK,mem_of_mem_take->cL,mem_range->cM,nil_append->cO,replicate_succ'->cP,drop_of_length_le->dj,getD_cons_zero->dk,getElem?_eq_none->dp,length_singleton->dq,map_cons->dt,mem_reverse->du,range_succ->dx,take_add_one->dy,take_length->dz
open Nat renaming le_refl->aj,le_trans->aJ,add_sub_cancel->aQ,sub_self->aZ,zero_le->bp,strongRecOn->bJ,add_sub_cancel_left->bY,lt_of_lt_of_le->bZ,sub_zero->cQ,zero_add->cR,pos_of_ne_zero->dA
open Option renaming getD_some->a_,map_some->bK
open UInt8 renaming ofNat->aV,toNat_ofNat'->dE
namespace Go.Proofs.YtdcjnhipenbcfaaGreatDoor
noncomputable section
variable {listed:Array Bool}{args:Array ae}{main:Bool}{ref xb:ByteArray}{fn:au}{cs:List ay}{site:List Item}{Bs ks:List Nat}{D h mk rn x xn:List UInt8}{xs:List ae}{id j:Nat}{u:Nat->ae}{e t':aU}{w w0:af}
namespace Ph
open Conc Ren RowKit
def tH:Array Oper:=opsOf (cp [2,2,1] rI)
theorem ae6:tH.size=9:=by kernel_rfl
theorem aiU:(ab.all fun Y=>ab.all fun d1=>ab.all fun d2=>ab.all fun d3=>ab.all fun d4=>ab.all fun U=>ab.all fun B=>(ar .any tH #[Y,d1,d2,d3,d4,U,B,false,false]).all fun i=>(i==0&&!Y)||(i==1&&(!d1&&Y))||(i==2&&(!d2&&d1))||(i==3&&!d3)||(i==4&&(!d4&&d3))||(i==5&&(!U&&d4))||(i==6&&(!B&&U))||(i==7&&(d2&&B)))=true:=by decide+kernel
theorem tdy(Y d1 d2 d3 d4 U B:Bool)(i:Nat)(C:i∈ar .any tH #[Y,d1,d2,d3,d4,U,B,false,false]):(i=0/\Y=false)\/(i=1/\d1=false/\Y=true)\/(i=2/\d2=false/\d1=true)\/(i=3/\d3=false)\/(i=4/\d4=false/\d3=true)\/(i=5/\U=false/\d4=true)\/(i=6/\B=false/\U=true)\/(i=7/\d2=true/\B=true):=by
 have h:=bB.1 (kM (kM (kM (kM (kM (kM (kM aiU Y) d1) d2) d3) d4) U) B) i C;simpa[or_assoc]using h
theorem aiV:(ab.all fun U=>ab.all fun d1=>ab.all fun d2=>ab.all fun d3=>ab.all fun d4=>ab.all fun Y=>ab.all fun B=>(d1&&!U)||(d2&&!d1)||(d4&&!d3)||(Y&&!d4)||(B&&!Y)||!(ar .any tH #[U,d1,d2,d3,d4,Y,B,false,false]).isEmpty)=true:=by decide+kernel
theorem aiW:ar .any tH #[true,true,true,true,true,true,true,true,false]=[8]:=by decide+kernel
section
variable{tb:Bool}{Q:QT}{R:ae->af->Prop}{v:af}{fn:au}{k:List Item}{a:Array ae}{ops:Array Oper}{i:Nat}{is:List Nat}
theorem GW.cat(Y:∃F,PR.funcs[fn]?=some F)(p q:bq){x y:ByteArray}(hs:x.size+y.size<=100000000)(g:GW tb Q R fn (.inRegion ops is::k) (kD (jR ops i) (.string (x++y)) a) v)(h:mD ops i a=some (sr (do eqGuard .add 9 p q (.string x) (.string y);binOp .add 9 (.string x) (.string y))):=by kernel_rfl):GW tb Q R fn (.inRegion ops (i::is)::k) a v:=
 GW.vl Y h (by simp[go_sem,dI (w:=v) x y (by omega)]) rfl g
theorem GW.bs(Y:∃F,PR.funcs[fn]?=some F){x y:ByteArray}(g:∀v1,Kw v v1->v1.heap[v.heap.size]?=some (.cells #[.string x,.string y] 9)->GW tb Q R fn (.inRegion ops is::k) (kD (jR ops i) (.slice (some ⟨v.heap.size,0,none⟩) 2 2) a) v1)(h:mD ops i a=some (sr (Instr.buildSlice 65 2 #[(0,.string x),(1,.string y)])):=by kernel_rfl):GW tb Q R fn (.inRegion ops (i::is)::k) a v:=by
 obtain⟨K,h1,h2⟩:=wy (f:=fun i=>(i.zero,i.size)) (z:=(some (.string ⟨#[]⟩),1)) (t:=9) (by kernel_rfl);simp only[Prod.mk.injEq]at h2;exact GW.vl (v1:=v.alloc _) Y h (by simp[go_sem]) rfl (g _ (.alloc v _) (dH v _))
end
def FJ(XN X:ByteArray)(k q st n b4 b6 b9:Nat)(sl:ae)(Y d1 d2 d3 d4 U B:Bool):Array Value:=
 #[pq XN X,sl,jx k q st,iv n,ptr b4,undef,ptr b6,undef,.string ⟨#[]⟩,ptr b9,undef,undef,undef,undef,pk Y (qT b4 0),pk d1 (.string XN),pk d2 (.string (⟨#[64]⟩++XN)),pk d3 (qT b4 1),pk d4 (.string X),pk U (.int .i64 (X.size:Int)),pk B (.string (str (gJ X.size))),undef,undef,undef,undef,undef,undef,undef,undef,undef,undef,undef,undef,undef,undef,undef,undef,undef,undef,undef,undef,undef,undef,undef,undef,undef,undef,undef,undef]
section
variable{Q:QT}{R:ae->af->Prop}{v0 v:af}{XN X:ByteArray}{k q st n b4 b6 b9 cap len:Nat}{sl:ae}{K:List Item}
theorem aa9(hX:X.size<=200)(S:XN.size<=1000)(O:ln v0)(G:iS v0)(hv:TV v0 XN X k q st b4 b6 b9 [] v)
  (kk:∀z x v',TV v0 XN X k q st b4 b6 b9 (q_ XN X) v'->GW false Q R 60 (.inRegion tH []::K) (kD (some 22) x (kD (some 21) z (FJ XN X k q st n b4 b6 b9 sl true true true true true true true))) v'):
  GW false Q R 60 (.code (.region 2 tH true)::K) (FJ XN X k q st n b4 b6 b9 sl false false false false false false false) v:=by
 have Y:∃F,PR.funcs[60]?=some F:=⟨_,cj⟩;refine GW.draw fun t=>?_;rw[ae6];refine GW.Sw (md:=.any) (fun D=>FJ XN X k q st n b4 b6 b9 sl (D.getD 0 false) (D.getD 1 false) (D.getD 2 false) (D.getD 3 false) (D.getD 4 false) (D.getD 5 false) (D.getD 6 false)) (fun fuel D u=>∃U d1 d2 d3 d4 I A:Bool,D=#[U,d1,d2,d3,d4,I,A,false,false]/\(d1=true->U=true)/\(d2=true->d1=true)/\(d4=true->d3=true)/\(I=true->d4=true)/\(A=true->I=true)/\fuel+(U.toNat+d1.toNat+d2.toNat+d3.toNat+d4.toNat+I.toNat+A.toNat)=9/\TV v0 XN X k q st b4 b6 b9 [] u) ?_ ?_ 9 t (cx 9 false) v ⟨false,false,false,false,false,false,false,rfl,nofun,nofun,nofun,nofun,nofun,rfl,hv⟩
 ·rintro D i fuel t u ⟨U,d1,d2,d3,d4,I,A,rfl,h1,h2,C,J,L,B,T⟩ W H;rcases tdy U d1 d2 d3 d4 I A i W with⟨rfl,rfl⟩|⟨rfl,rfl,rfl⟩|⟨rfl,rfl,rfl⟩|⟨rfl,rfl⟩|⟨rfl,rfl,rfl⟩|⟨rfl,rfl,rfl⟩|⟨rfl,rfl,rfl⟩|⟨rfl,rfl,rfl⟩
  ·exact ah Y [0] (GW.to _ (H u ⟨true,d1,d2,d3,d4,I,A,rfl,fun _=>rfl,h2,C,J,L,by simp at B⊢;omega,T⟩))
  ·exact bA Y (mq 0 xu T.c4 rfl) (GW.to _ (H u ⟨true,true,d2,d3,d4,I,A,rfl,fun _=>rfl,fun _=>rfl,C,J,L,by simp at B⊢;omega,T⟩))
  ·exact GW.cat Y (.const (.string ⟨#[64]⟩)) (.tmp 15) (x:=⟨#[64]⟩) (y:=XN) (by show 1+XN.size<=_;omega) (GW.to _ (H u ⟨U,true,true,d3,d4,I,A,rfl,h1,fun _=>rfl,C,J,L,by simp at B⊢;omega,T⟩))
  ·exact ah Y [3] (GW.to _ (H u ⟨U,d1,d2,true,d4,I,A,rfl,h1,h2,fun _=>rfl,J,L,by simp at B⊢;omega,T⟩))
  ·exact bA Y (mq 1 xu T.c4 rfl) (GW.to _ (H u ⟨U,d1,d2,true,true,I,A,rfl,h1,h2,fun _=>rfl,fun _=>rfl,L,by simp at B⊢;omega,T⟩))
  ·exact ah Y [5] (GW.to _ (H u ⟨U,d1,d2,d3,true,true,A,rfl,h1,h2,C,fun _=>rfl,fun _=>rfl,by simp at B⊢;omega,T⟩))
  ·refine GW.call Y (aW (R:=fun x v'=>x=.string (str (gJ X.size))/\Kw u v') (by decide) fun N=>(yu _ X.size rfl (tp u N) (by omega) (T.old.r7 O G)).mono fun e w' h=>⟨_,h.1,rfl,fun a P=>h.2.block a P⟩) ?_;rintro x f ⟨rfl,E⟩;exact GW.to _ (H f ⟨U,d1,d2,d3,d4,true,true,rfl,h1,h2,C,J,fun _=>rfl,by simp at B⊢;omega,T.on E⟩)
  ·clear H;obtain rfl:=h2 rfl;obtain rfl:=h1 rfl;obtain rfl:=L rfl;obtain rfl:=J rfl;obtain rfl:=C rfl;obtain rfl:fuel=1:=by simp at B;omega
   refine GW.bs Y (x:=⟨#[64]⟩++XN) (y:=str (gJ X.size)) fun u1 c c1=>?_;rw[show(#[true,true,true,true,true,true,true,false,false]:Array Bool).setIfInBounds 7 true=#[true,true,true,true,true,true,true,true,false]from rfl,Dh aiW];have Z:=T.on c;have M:u1.ownsRow u.heap.size 9 1 (.slice (some ⟨u.heap.size,0,none⟩) 2 2) 2 [.string (⟨#[64]⟩++XN),.string (str (gJ X.size))]:=⟨rfl,.inr ⟨u.heap.size,2,_,rfl,aj _,c1,aj _,by unfold aB;omega,rfl,rfl⟩⟩;have j:(na [(⟨#[64]⟩:ByteArray)++XN,str (gJ X.size)]++[10]).length<=100000:=by
    rw[OQ];have:=GQ XN X 0 [] S (by omega) (by simp) (by omega) 0 (by simp);simp only[nP]at this;omega
   refine GW.call Y (aW (R:=fun x v'=>ia b9 (q_ XN X) v'/\∀g,g<b9->v'.heap[g]?=u1.heap[g]?) (by decide) fun N=>(FU b9 u.heap.size [] [(⟨#[64]⟩:ByteArray)++XN,str (gJ X.size)] (.slice (some ⟨u.heap.size,0,none⟩) 2 2) (tp u1 N) Z.BQ M (by simp) (by simp) (by simp at j⊢;omega)).mono fun e w' h=>⟨_,h.1,by have:=h.2.1;rw[cO,OQ]at this;exact this,fun a P=>h.2.2.1.block a P⟩) ?_;rintro x u2 ⟨hb,d⟩;exact GW.to _ (kk (.slice (some ⟨u.heap.size,0,none⟩) 2 2) x u2 (Z.wrote hb d))
 ·rintro fuel D u ⟨U,d1,d2,d3,d4,I,A,rfl,h1,h2,C,J,L,B,T⟩ V;exfalso;rcases V with rfl|V
  ·have:=bc U;have:=bc d1;have:=bc d2;have:=bc d3;have:=bc d4;have:=bc I;have:=bc A;omega
  ·have h:=kM (kM (kM (kM (kM (kM (kM aiV U) d1) d2) d3) d4) I) A;rw[V]at h;cases U<;>cases d1<;>cases d2<;>cases d3<;>cases d4<;>cases I<;>cases A<;>simp_all
end
section
variable{tb:Bool}{Q:QT}{R:ae->af->Prop}{v:af}{fn:au}{a:Array ae}
theorem GW.akd{F:Func}(Y:PR.funcs[fn]?=some F){d:Nat}(hr:F.results=#[.tmp d]){x:ae}(hx:a.getD d undef=x)(h:∀T,R x (tp v T)):GW false Q R fn [.code .ret] a v:=
 GW.rest Y rfl fun T=>wp_ret (bodyPost_ret (results_tmp hr _ _ _) rfl ⟨_,rfl,by have:=h T;rw[<-hx]at this;exact this⟩)
end
theorem ae7:(PR.info? 102).map (·.zero)=some (some (.agg #[.pointer none,.slice none 0 0])):=by kernel_rfl
theorem aiX:Tryz.f60.body=some rI:=by kernel_rfl
section
variable{Q:QT}{v:af}{XN X:ByteArray}{k q st n cap:Nat}{a:Option Addr}{I:List mn}
theorem agU(hX:X.size<=200)(B:XN.size<=1000)(hk:k<=6)(hq:1<=q)(O:q<=8)(hs:1<=st)(S:st<=200)(hn:1<=n)(M:n<=8)(hR:∀r∈I,(r.1.size<=10/\r.2.1.size<=30/\r.2.2.size<=30)/\k<r.2.1.size)(C:I.length<=5)(U:ln v)(G:iS v)(rows:v.ownsRow 0 131 3 (.slice a I.length cap) I.length (lD I)):
  iF Q 60 #[pq XN X,.slice a I.length cap,jx k q st,iv n] v fun x v'=>x=.string (str (nP XN X k I I.length))/\Kw v v':=by
 have Y:∃F,PR.funcs[60]?=some F:=⟨_,cj⟩;refine iF.of (n:=49) cj aiX (by kernel_rfl) ?_;refine GW.run 2 (k':=[.inRegion (opsOf (cp [1] rI)) [0,1,2],.code (cp [2] rI)]) ?_;refine GW.bx Y (t:=68) (y:=pq XN X) fun v1 V l1 c4=>?_;refine GW.bx Y (t:=75) (y:=jx k q st) fun v2 L l2 c6=>?_;refine ah Y [2] ?_;refine GW.run 3 (k':=[.inRegion (opsOf (cp [2,1] rI)) [0],.code (cp [2,2] rI)]) ?_;refine GW.al Y ae7 fun v3 N A E _=>?_;have hb:ia v2.heap.size [] v3:=by rw[N];exact ia.new v2
 have H:TV v XN X k q st v.heap.size v1.heap.size v2.heap.size [] v3:=⟨A.at (L.at c4),A.at c6,hb,(V.trans L).trans A,by omega,by omega,by omega⟩;refine GW.run 2 (k':=[.code (.region 2 tH true),.code (cp [2,2,2] rI)]) ?_;refine GW.to (FJ XN X k q st n v.heap.size v1.heap.size v2.heap.size (.slice a I.length cap) false false false false false false false) ?_;generalize v.heap.size=b4 at H⊢;generalize v1.heap.size=b6 at H⊢;generalize v2.heap.size=b9 at H⊢;refine aa9 hX B U G H fun z x v4 D=>?_;refine GW.run 4 (k':=[.inRegion (opsOf (cp [2,2,2,1,1] rI)) [0,1,2],.code (cp [2,2,2,1,2] rI),.code tE]) ?_;refine ah Y [0,1,2] ?_;refine GW.run 3 (k':=.code tB::kB) ?_;refine aM (fun u=>sJ XN X k q st n b4 b6 b9 (.slice a I.length cap) I.length (iv 0) (u 33) (u 34) (u 35) u) (by kernel_rfl) fun u=>?_;refine ac6 hX B hk hq O hs S hn M hR C U G rows (fun y z j u v5 K=>?_) I.length 0 (by omega) _ _ _ u v4 D;refine GW.run 2 (k':=[.inRegion (opsOf (cp [1] tE)) [0,1],.code .ret]) ?_;refine GW.call Y (aW (R:=fun x v'=>x=.string (str (nP XN X k I I.length))/\∀g,g<b9->v'.heap[g]?=v5.heap[g]?) (by decide) fun T=>(Cn b9 _ (tp v5 T) K.BQ).mono fun e w' h=>⟨_,h.1,rfl,fun a P=>h.2.block a P⟩) ?_;rintro x v6 ⟨rfl,Z⟩;refine ah Y [1] ?_;refine GW.run 1 (k':=[.code .ret]) ?_;exact GW.akd (d:=8) cj (by kernel_rfl) (x:=.string (str (nP XN X k I I.length))) (by kernel_rfl) fun T=>⟨rfl,fun g J=>(Z g (bZ J K.l0)).trans (K.old g J)⟩
end
section
variable{tb:Bool}{Q:QT}{R:ae->af->Prop}{v:af}{fn:au}{k:List Item}{a:Array ae}{ops:Array Oper}{i:Nat}{is:List Nat}
theorem GW.Vp(U:∃F,PR.funcs[fn]?=some F){t:aU}(O:(PR.info? t).map (·.size)=some 2){B:Nat}{x y:ae}{z0 z1:ae}(Y:v.heap[B]?=some (.cells #[z0,z1] t'))
  (g:∀v1,v1.heap[B]?=some (.cells #[x,y] t')->(∀b,b≠B->v1.heap[b]?=v.heap[b]?)->v1.heap.size=v.heap.size->GW tb Q R fn (.inRegion ops is::k) (kD (jR ops i) undef a) v1)(h:mD ops i a=some (A5 (di t (ptr B) (.agg #[x,y]))):=by kernel_rfl)(C:x.oneCell'=true:=by rfl)(M:y.oneCell'=true:=by rfl):GW tb Q R fn (.inRegion ops (i::is)::k) a v:=by
 obtain⟨A,H,D⟩:=wy O;have r0:=qX (i:=0) (v:=x) Y;have I:v.cell? ⟨B,0,none⟩=some z0:=by simp[ao,Y]
 have f0:v.frozen? ⟨B,0,none⟩=false:=by simp[cV,Y]
 have h1:(v.setCell ⟨B,0,none⟩ x).cell? ⟨B,1,none⟩=some z1:=by simp[ao,r0]
 have f1:(v.setCell ⟨B,0,none⟩ x).frozen? ⟨B,1,none⟩=false:=by simp[cV,r0]
 have K:=akb (a:=x) (b:=y) v Y;refine GW.sk (v1:=Eh B x y v) U h ?_ rfl (g _ K.2 (fun b hb=>K.1.heap b hb) K.1.size);simp[go_sem,storeVar,cY,sizeOf,cZ,H,D,bO,cX PR _ _ x _ C,cX PR _ _ y _ M,I,f0,h1,f1,ptr,Addr.add,Eh]
theorem GW.JD(Y:∃F,PR.funcs[fn]?=some F)(x y z:Nat)(h:∀t c cs,gC PR 2 ((bf fn).at ⟨t,[]⟩ (.code .ret::k)) (c::cs)=(c.finish (.tuple #[t.getD x undef,t.getD y undef,t.getD z undef]),cs))(hr:R (.tuple #[a.getD x undef,a.getD y undef,a.getD z undef]) v):GW false Q R fn (.code .ret::k) a v:=by
 intro r Z w t l H D K I;obtain⟨c,cs,rfl⟩:=CZ H;refine aK 2 fun w' hk=>?_;rw[h];have ev:∀n:Nat,@V gv r (a.getD n undef) (t.getD n undef):=fun n=>yv Y D K.gi (x:=.tmp n) trivial;refine I r Z _ _ v w' (fun _ _ e=>e) ?_ (K.quiet hk) (.qt hk) hr
 letI:=gv
 refine .tuple rfl fun i p p' e e'=>?_;have A:i<3:=by
  have:=(cv.1 e).1;simpa using this
 have:i=0\/i=1\/i=2:=by omega
 rcases this with rfl|rfl|rfl<;>cases e<;>cases e'<;>exact ev _
end
noncomputable def kF:Code:=cf.body.getD .skip
abbrev i6(n:Int):Value:=.int .i64 n
def tS(ref reads:ByteArray)(k q st wk:Int)(zD:Nat)(V:ae)(tT:Nat)(LY:ae)(u:Nat->ae):Array Value:=
 #[.string ref,.string reads,i6 k,i6 q,i6 st,i6 wk,u 6,u 7,u 8,u 9,u 10,u 11,.string ⟨#[]⟩,i6 0,i6 0,ptr zD,V,ptr tT,LY,u 19,u 20,u 21,u 22,u 23,u 24,u 25,u 26,u 27,u 28,u 29,u 30,u 31,u 32,u 33,u 34,u 35,u 36,u 37,u 38,u 39,u 40,u 41,u 42,u 43,u 44,u 45,u 46,u 47,u 48,u 49,u 50,u 51,u 52,u 53,u 54,u 55,u 56,u 57,u 58]
section
variable{v:af}{ref reads:ByteArray}{k q st wk E Pl:Int}{V LY:ae}{zD tT I:Nat}{u:Nat->ae}
theorem aiY(h:w.heap[tT]?=some (.cells #[i6 E,i6 Pl] 70)):(cp [2,2,1,2,1,1] kF).wp PR (fun e a' v'=>e=.normal/\a'.defers=[]/\(a'.tmps.getD 12 undef=.string ⟨#[]⟩/\a'.tmps.getD 13 undef=i6 E/\a'.tmps.getD 14 undef=i6 Pl)/\v'.heap=w.heap) ⟨tS ref reads k q st wk zD V tT LY u,[]⟩ w:=by
 have c0:w.cell? ⟨tT,0,none⟩=some (i6 E):=by simp[ao,h]
 have c1:w.cell? ⟨tT,1,none⟩=some (i6 Pl):=by simp[ao,h]
 obtain⟨Q,Y⟩:∃Q:Exit->Act->af->Prop,Q=(fun e a' v'=>e=.normal/\a'.defers=[]/\(a'.tmps.getD 12 undef=.string ⟨#[]⟩/\a'.tmps.getD 13 undef=i6 E/\a'.tmps.getD 14 undef=i6 Pl)/\v'.heap=w.heap):=⟨_,rfl⟩;rw[<-Y];have K:=laid Y;unfold kF cf tS;simp only[ptr]
 go_quiet(fail)
 rw[K.out];exact⟨rfl,rfl,⟨rfl,rfl,rfl⟩,rfl⟩
theorem aiZ{L:List mn}{B:Nat}(h:w.heap[I]?=some (.cells #[i6 k,i6 q,i6 st] 75))(U:w.ownsRow B 131 3 V L.length (lD L))(O:L.length<=1000)(hs:∀r∈L,r.2.1.size<=1000):(cp [2,2,2,2,1,1] kF).wp PR (fun e a' v'=>e=.normal/\a'.defers=[]/\(a'.tmps=tS ref reads k q st wk zD V tT (ptr I) (fun n=>a'.tmps.getD n undef)/\a'.tmps.getD 53 undef=.bool (!oI k q st||!oY k L||decide (wk<1)||decide (8<wk)))/\∀g,g<w.heap.size->v'.heap[g]?=w.heap[g]?) ⟨tS ref reads k q st wk zD V tT (ptr I) u,[]⟩ w:=by
 have H:=laid h;have M:=laid U;have N:=laid hs;have c0:w.cell? ⟨I,0,none⟩=some (i6 k):=by simp[ao,h]
 have c1:w.cell? ⟨I,1,none⟩=some (i6 q):=by simp[ao,h]
 have c2:w.cell? ⟨I,2,none⟩=some (i6 st):=by simp[ao,h]
 obtain⟨Q,C⟩:∃Q:Exit->Act->af->Prop,Q=(fun e a' v'=>e=.normal/\a'.defers=[]/\(a'.tmps=tS ref reads k q st wk zD V tT (ptr I) (fun n=>a'.tmps.getD n undef)/\a'.tmps.getD 53 undef=.bool (!oI k q st||!oY k L||decide (wk<1)||decide (8<wk)))/\∀g,g<w.heap.size->v'.heap[g]?=w.heap[g]?):=⟨_,rfl⟩;rw[<-C];have D:=laid C;clear C;unfold kF cf tS;simp only[a_,cp];simp only[ptr];go_wp2_with fail
 refine(aaJ k q st _).mono ?_;rintro e w1 ⟨rfl,Y⟩;cases J:oI k q st
 ·go_wp2
  rw[D.out];exact⟨rfl,rfl,⟨by kernel_rfl,by rw[J];rfl⟩,fun g K=>Y.block g K⟩
 ·have h1:=(Y.block I (jI H.out)).trans H.out;have S:w1.cell? ⟨I,0,none⟩=some (i6 k):=by simp[ao,h1]
  have d1:w1.cell? ⟨I,1,none⟩=some (i6 q):=by simp[ao,h1]
  have d2:w1.cell? ⟨I,2,none⟩=some (i6 st):=by simp[ao,h1]
  clear h1;have A:=laid (AH M.out fun g K=>Y.block g K);go_wp2_with fail
  refine(V4 k q st L V B w1 A.out O N.out).mono ?_;rintro e w2 ⟨rfl,F⟩;have R:=laid fun g K=>(F.block g (bZ K Y.size)).trans (Y.block g K);cases P:oY k L
  ·go_wp2
   rw[D.out];exact⟨rfl,rfl,⟨by kernel_rfl,by rw[J,P];rfl⟩,R.out⟩
  ·by_cases hw:wk<1
   ·go_wp2
    rw[D.out];exact⟨rfl,rfl,⟨by kernel_rfl,by simp_all⟩,R.out⟩
   ·go_wp2
    rw[D.out];exact⟨rfl,rfl,⟨by kernel_rfl,by simp_all⟩,R.out⟩
end
theorem agV:(PR.info? 68).map (·.zero)=some (some (.agg #[.string ⟨#[]⟩,.string ⟨#[]⟩])):=by kernel_rfl
theorem agW:(PR.info? 70).map (·.zero)=some (some (.agg #[i6 0,i6 0])):=by kernel_rfl
theorem agY:(PR.info? 75).map (·.zero)=some (some (.agg #[i6 0,i6 0,i6 0])):=by kernel_rfl
theorem agZ:(PR.info? 68).map (·.size)=some 2:=by kernel_rfl
theorem ag0:(PR.info? 70).map (·.size)=some 2:=by kernel_rfl
theorem ag1:(PR.info? 75).map (·.size)=some 3:=by kernel_rfl
theorem QO{reads:ByteArray}(h:mS ref reads=0):qf ref=vS ref:=by
 have h1:=(agu h).2.2.1;unfold lU at h1;obtain⟨h2,_⟩:=rM h1;exact(afH ref h2).symm
theorem NU{reads:ByteArray}{k q st wk:Int}(h:mS ref reads≠0):m_ ref reads k q st wk=mS ref reads:=by unfold m_;rw[if_pos h]
theorem Hn{reads:ByteArray}{k q st wk:Int}(h:mS ref reads=0)(h2:vZ k 30 q st=false\/wk<1\/8<wk):m_ ref reads k q st wk=4:=by unfold m_;rw[if_neg (by rw[h];simp),if_pos h2]
theorem ac7{reads:ByteArray}{k q st wk:Int}(h:mS ref reads=0)(h2:fewer (iR reads 5 0) k=false):m_ ref reads k q st wk=4:=by
 unfold m_;rw[if_neg (by rw[h];simp)];split
 ·rfl
 ·first
   |rfl
   |rw[if_pos h2]
theorem ae8{reads:ByteArray}{k q st wk:Int}(h:mS ref reads=0)(h2:¬(vZ k 30 q st=false\/wk<1\/8<wk))(Y:fewer (iR reads 5 0) k=true):m_ ref reads k q st wk=0:=by
 unfold m_;rw[if_neg (by rw[h];simp),if_neg h2,if_neg (by rw[Y];simp)]
theorem P2{reads:ByteArray}{k q st wk:Int}(h:m_ ref reads k q st wk≠0):qa ref reads k q st wk=⟨#[]⟩:=by unfold qa;rw[if_neg h]
theorem ae9{B:Nat}{z:Nat}{v:ae}{n:Nat}(h:w.ownsRow B e z v n xs):w.ownsRow 0 e z v n xs:=by
 refine⟨h.1,?_⟩;rcases h.2 with h'|⟨g,cap,Y,h1,h2,K⟩
 ·exact .inl h'
 ·exact .inr ⟨g,cap,Y,h1,bp _,K⟩
theorem ai0:cf.body=some kF:=by kernel_rfl
theorem ai1:j7 PR (isAgg 35)=some false:=by kernel_rfl
section
variable{Q:QT}{v:af}{ref reads:ByteArray}{k q st wk:Int}
theorem Ja(h1:ref.size<=aB)(h2:reads.size<=aB)(Vq:ln v)(hT:iS v):
  iF Q 39 #[.string ref,.string reads,i6 k,i6 q,i6 st,i6 wk] v fun x v'=>x=.tuple #[.string (qa ref reads k q st wk),i6 (m_ ref reads k q st wk),i6 (uZ ref reads)]/\Kw v v':=by
 have Y:∃F,PR.funcs[39]?=some F:=⟨_,Tryz.func39⟩;obtain⟨L,A⟩:∃L,L=iR reads 5 0:=⟨_,rfl⟩;obtain⟨E,d⟩:∃E,E=mS ref reads:=⟨_,rfl⟩;obtain⟨Pl,o⟩:∃Pl,Pl=yF ref reads:=⟨_,rfl⟩;refine iF.of (n:=59) Tryz.func39 ai0 (by kernel_rfl) ?_;refine GW.run 2 (k':=[.inRegion (opsOf (cp [1] kF)) [0,1,2],.code (cp [2] kF)]) ?_;refine ah Y [0,1,2] ?_;refine GW.run 3 (k':=[.inRegion (opsOf (cp [2,1] kF)) [0,1,2,3,4,5,6,7,8,9,10,11],.code (cp [2,2] kF)]) ?_;refine ah Y [0,1] ?_;refine GW.call Y (aW (R:=fun x v'=>∃a b V,x=.tuple #[.agg #[.string a,.string b],V,.agg #[i6 E,i6 Pl]]/\Kw v v'/\(E=0->a=qf ref/\b=str (mQ ref).2/\v'.ownsRow v.heap.size 131 3 V L.length (lD L))) (by decide) fun T=>(W8 ref reads (tp v T) h1 h2).mono fun e v' ⟨a,b,V,e1,e2,G,e4⟩=>⟨_,by rw[e1,<-d,<-o],a,b,V,rfl,fun g O=>G.block g O,by rw[d,A];exact e4⟩) ?_;rintro x v1 ⟨a,b,V,rfl,k1,Ld⟩;refine ah Y [3,4,5,6] ?_;refine GW.al Y agV fun v2 e2 k2 l2 H=>?_;refine GW.al Y agW fun v3 G k3 l3 U=>?_;refine GW.Vp Y agZ (x:=.string a) (y:=.string b) (k3.at H) fun v4 H o4 s4=>?_;refine ah Y [10] ?_;refine GW.Vp Y ag0 (x:=i6 E) (y:=i6 Pl) ((o4 _ (by omega)).trans U) fun v5 U o5 s5=>?_;have H:=(o5 v1.heap.size (by omega)).trans H;have K5:Kw v1 v5:=fun g O=>by
  have:=k2.size;rw[o5 g (by omega),o4 g (by omega),k3 g (by omega),k2 g O]
 have n17:v1.heap.size<=v2.heap.size:=k2.size;have s45:v3.heap.size=v5.heap.size:=by omega
 have l17:v2.heap.size<v5.heap.size:=by omega
 clear o4 o5 e2 G;have K05:=k1.trans K5;refine GW.run 4 (k':=[.inRegion (opsOf (cp [2,2,1,1] kF)) [0,1,2],.code (cp [2,2,1,2] kF),.code (cp [2,2,2] kF)]) ?_;refine ah Y [0] ?_;refine bA Y (mq 0 ai1 U rfl) ?_;refine ah Y [2] ?_;refine GW.run 1 (k':=[.code (.cond (.tmp 28) (cp [2,2,1,2,1] kF) .skip),.code (cp [2,2,2] kF)]) ?_;refine bg Y (t:=!(decide (E=0))) trivial (by kernel_rfl) ?_;refine aM (fun u=>tS ref reads k q st wk v1.heap.size V v2.heap.size (u 18) u) (by kernel_rfl) fun u=>?_;generalize v2.heap.size=X at *;generalize v1.heap.size=S at *;by_cases D:E=0
 ·rw[decide_eq_true D];obtain⟨ea,eb,J⟩:=Ld D;have K:mS ref reads=0:=by rw[<-d];exact D
  have l:uZ ref reads=0:=by unfold uZ;rw[if_neg (by rw[K];simp)]
  have hLl:L.length<=5:=by rw[A];exact Mu reads 5 0
  have f:∀r∈L,r.1.size<=10/\r.2.1.size<=30/\r.2.2.size<=30:=by rw[A];exact Mi reads 5 0
  have s:oY k L=fewer (iR reads 5 0) k:=by rw[A];rfl
  refine GW.run 3 (k':=[.inRegion (opsOf (cp [2,2,2,1] kF)) [0,1,2,3,4,5],.code (cp [2,2,2,2] kF)]) ?_;refine ah Y [0,1,2,3] ?_;refine GW.al Y agY fun v6 e6 k6 l6 B=>?_;refine GW.Vo Y ag1 (x:=i6 k) (y:=i6 q) (z:=i6 st) B fun v7 B o7 s7=>?_;have K7:Kw v5 v7:=fun g O=>(o7 g (by omega)).trans (k6 g O);have H:=K7.at H;have N:=K5.trans K7;have P:=k1.trans N;refine GW.run 3 (k':=[.code (cp [2,2,2,2,1,1] kF),.code (cp [2,2,2,2,1,2] kF),.code (cp [2,2,2,2,2] kF)]) ?_;refine aM (fun u=>tS ref reads k q st wk S V X (ptr v5.heap.size) u) (by kernel_rfl) fun u=>?_;generalize v5.heap.size=I at *;refine bF Y (by kernel_rfl) (R1:=fun a' v'=>(a'=tS ref reads k q st wk S V X (ptr I) (fun n=>a'.getD n undef)/\a'.getD 53 undef=.bool (!oI k q st||!oY k L||decide (wk<1)||decide (8<wk)))/\Kw v7 v') rfl (fun T=>aiZ (w:=tp v7 T) B (AH J N) (by omega) fun r hr=>by have:=f r hr;omega) ?_;rintro a' v8 ⟨⟨j,W⟩,k8⟩;refine GW.run 0 (k':=[.code (.cond (.tmp 53) (cp [2,2,2,2,1,2,1] kF) .skip),.code (cp [2,2,2,2,2] kF)]) ?_;refine bg Y trivial W ?_;refine GW.to _ ?_ j;generalize(fun n=>a'.getD n undef)=u';clear j W;cases hb:(!oI k q st||!oY k L||decide (wk<1)||decide (8<wk))with
  |true=>
   have h4:m_ ref reads k q st wk=4:=by
    simp only[Bool.or_eq_true,dh,decide_eq_true_eq]at hb;rcases hb with((h|h)|h)|h
    ·exact Hn K (.inl (by rw[OE,h];rfl))
    ·exact ac7 K (by rw[<-s];exact h)
    ·exact Hn K (.inr (.inl h))
    ·exact Hn K (.inr (.inr h))
   refine GW.run 2 (k':=[.inRegion (opsOf (cp [2,2,2,2,1,2,1,1] kF)) [0,1,2],.code .ret,.code (cp [2,2,2,2,2] kF)]) ?_;refine ah Y [0,1,2] ?_;refine GW.run 1 (k':=[.code .ret,.code (cp [2,2,2,2,2] kF)]) ?_;refine GW.JD Y 12 13 14 (fun t c cs=>by kernel_rfl) ⟨?_,P.trans k8⟩;rw[P2 (by rw[h4];decide),h4,l];kernel_rfl
  |false=>
   simp only[Bool.or_eq_false_iff,Bool.not_eq_false',decide_eq_false_iff_not]at hb;obtain⟨⟨⟨C,JK⟩,UO⟩,T9⟩:=hb;have hm:=of_decide_eq_true C;obtain⟨kn,rfl⟩:∃n:Nat,k=(n:Int):=⟨k.toNat,by omega⟩;obtain⟨qn,rfl⟩:∃n:Nat,q=(n:Int):=⟨q.toNat,by omega⟩;obtain⟨sn,rfl⟩:∃n:Nat,st=(n:Int):=⟨st.toNat,by omega⟩;obtain⟨wn,rfl⟩:∃n:Nat,wk=(n:Int):=⟨wk.toNat,by omega⟩;have i:=ae9 (AH J (N.trans k8));obtain⟨Vr,Z,rfl⟩:∃Vr Z,V=.slice Vr L.length Z:=by
    rcases i.2 with⟨hy,h0⟩|⟨g',Ea,cur,hv,_⟩
    ·exact⟨none,0,by rw[h0];exact hy⟩
    ·exact⟨_,_,hv⟩
   have hxb:b.size<=200:=by rw[eb,gR];exact Y_ ref
   have BR:a.size<=1000:=by rw[ea,QO K];have:=Ox ref (gW ref 62 0);show(r_ ref (gW ref 62 0)).size<=1000;omega
   have p:∀r∈L,(r.1.size<=10/\r.2.1.size<=30/\r.2.2.size<=30)/\kn<r.2.1.size:=fun r hr=>⟨f r hr,by
    have:=of_decide_eq_true (bB.1 JK r hr);omega⟩
   have m:m_ ref reads kn qn sn wn=0:=ae8 K (by
    rintro(h|h|h)
    ·rw[OE,C]at h;have:decide ((kn:Int)<30)=true:=decide_eq_true (by omega);rw[this]at h;cases h
    ·omega
    ·omega) (by rw[<-s];exact JK)
   have hS:qa ref reads kn qn sn wn=str (nP a b kn L L.length):=by
    unfold qa o9;rw[if_pos m,ea,eb,QO K,A];rfl
   refine GW.run 3 (k':=[.inRegion (opsOf (cp [2,2,2,2,2,1] kF)) [0,1,2,3,4,5,6,7],.code .ret]) ?_;refine bA Y (DR (k8.at H)) ?_;refine ah Y [1] ?_;refine bA Y (AY (k8.at B)) ?_;refine ah Y [3] ?_;have M:=P.trans k8;refine GW.call Y (agU (q:=qn) (st:=sn) (n:=wn) hxb BR (by omega) (by omega) (by omega) (by omega) (by omega) (by omega) (by omega) p hLl (M.nR Vq) (M.r7 Vq hT) i) ?_;rintro x v9 ⟨rfl,k9⟩;refine ah Y [5,6,7] ?_;refine GW.run 1 (k':=[.code .ret]) ?_;refine GW.JD Y 12 13 14 (fun t c cs=>by kernel_rfl) ⟨?_,M.trans k9⟩;rw[hS,m,l];kernel_rfl
 ·rw[decide_eq_false D];refine GW.run 1 (k':=[.code (cp [2,2,1,2,1,1] kF),.code .ret,.code (cp [2,2,2] kF)]) ?_;refine bF Y (by kernel_rfl) (R1:=fun a' v'=>(a'.getD 12 undef=.string ⟨#[]⟩/\a'.getD 13 undef=i6 E/\a'.getD 14 undef=i6 Pl)/\v'.heap=v5.heap) rfl (fun T=>aiY (w:=tp v5 T) U) ?_;rintro a' v' ⟨⟨e1,e2,G⟩,hh⟩;refine GW.JD Y 12 13 14 (fun t c cs=>by kernel_rfl) ?_;have K:mS ref reads≠0:=by rw[<-d];exact D
  rw[e1,e2,G,P2 (by rw[NU K];exact K),NU K,show uZ ref reads=yF ref reads by unfold uZ;rw[if_pos K],<-d,<-o];exact⟨rfl,fun g O=>by rw[hh];exact K05 g O⟩
end
theorem Di{i:Nat}(h:i+1<=aB):aD.wrap ((i:Int)+1)=((i+1:Nat):Int):=by
 unfold aB at h;rw[Go.IntWalk.i64_in _ (by omega)];omega
abbrev ii(n:Int):Value:=.int .i64 n
section
variable{P:cT}{Q:QT}{Z:Loc->Prop}{f:ay}{l:List ay}{w:af}
theorem gn.JE(m:Nat)(r:ay×List ay)(hr:gC P m f l=r){n:Nat}{al:List (Nat×ae)}{call:Option (au×Array ae)}{load:Option (aU×ae)}(h:look ks r=iu fn n l site al call load)(hk:al.map (·.1)=ks)
  (k:∀J w',g_ Z w w'->(∀b,b<w.heap.size->w'.heap[b]?=w.heap[b]?)->ahead (kX fn n site (sA al) J)=call->qv (kX fn n site (sA al) J)=load->ky fn n site (sA al) (kX fn n site (sA al) J)->gn P Q Z (kX fn n site (sA al) J) l w'):gn P Q Z f l w:=by
 subst hr;refine aK m fun w' K=>?_;have hs:=jO h hk;have h1:=hs.call;have h2:=hs.load;have Y:=hs.fr;rw[hs.fr.eq]at h1 h2;rw[hs.fr.eq]at Y;rw[hs.callers,hs.fr.eq];exact k _ w' (g_.of K) (fun b hb=>K.kept b hb (fun y=>y)) h1 h2 Y
theorem gn.Jb{n:Nat}{al ex:List (Nat×ae)}{u:Nat}{a b:Code}{k:List Item}(t:Bool)(Y:ky fn n site (sA (al++ex)) f)(U:site=.code (.cond (.tmp u) a b)::k)(B:sA (al++ex) u=some (.bool t))
  (C:∀J w',g_ Z w w'->(∀a,a<w.heap.size->w'.heap[a]?=w.heap[a]?)->gn P Q Z (kX fn n (.code (if t then a else b)::k) (sA al) J) l w'):gn P Q Z f l w:=by
 refine cm (fun w2=>vW Y.mode Y.round (by rw[Y.kind];nofun) (Y.todo.trans U) (Y.slot u _ B)) fun w' g h=>?_;have K:ky fn n _ _ {f with todo:=.code (if t then a else b)::k}:=⟨Y.fn,rfl,Y.defers,Y.mode,Y.kind,Y.round,Y.size,fun i v e=>Y.slot i v (wq e)⟩;rw[K.eq];exact C _ w' g h
end
def y9:Op->Option (List bq)
 |.move x|.assign x|.load _ x|.fieldAddr _ x _|.extract x _|.unOp _ _ x=>some [x]
 |.binOp _ _ x y _|.indexAddr _ x y|.store _ x y=>some [x,y]
 |.build _ l=>some (l.toList.map (·.2))
 |.alloc _=>some []
 |.call c=>match c.callee with
  |.value f=>some (f::c.args.toList)
  |.builtin _=>some c.args.toList
  |_=>none
 |_=>none
theorem execOp_congr{U Y:bq->ae}{o:Oper}{l:List bq}(h:y9 o.op=some l)(e:∀x∈l,U x=Y x):br U o=br Y o:=by
 unfold br;generalize o.op=p at h;cases p<;>simp only[y9]at h<;>first|(cases h;done)|skip
 case call c=>
  obtain⟨K,args,D⟩:=c;have H:∀l',(∀x∈l',U x=Y x)->l'=args.toList->args.map U=args.map Y:=fun l' h1 h2=>cw fun x hx=>h1 x (by rw[h2];simpa using hx);cases K with
  |builtin b=>cases h;simp only[resolve,H _ e rfl]
  |value f=>cases h;simp only[resolve,H _ (fun x hx=>e x (cK _ hx)) rfl,e f (by simp)]
  |invoke r n=>cases h
 case build t l=>
  cases h;have:(l.map fun(i,x)=>(i,U x))=l.map fun(i,x)=>(i,Y x):=cw fun p hp=>by have:=e p.2 (aN.2 ⟨p,by simpa using hp,rfl⟩);simp only[this]
  simp only[this]
 all_goals(cases h;simp at e;simp only[e])
def FK:bq->List Nat
 |.tmp j=>[j]
 |_=>[]
def Sx(ops:Array Oper):Bool:=(bI ops.size).all fun i=>match ops[i]? with
 |some o=>(o.after.all fun e=>!aT .any e||decide (e.on<i))&&match y9 o.op with
  |some l=>l.all fun x=>(FK x).all fun j=>(bI ops.size).all fun m=>!(jR ops m==some j)||o.after.any fun e=>e.on==m&&aT .any e
  |none=>false
 |none=>false
def Vs(ops:Array Oper)(listed:Array Bool)(A a:Array ae):Prop:=a.size=A.size/\∀j,(∀m,jR ops m=some j->listed.getD m false=true)->a[j]?=A[j]?
def dv(ops:Array Oper)(A:Array ae)(i:Nat):Value:=match jR ops i with
 |some j=>A.getD j undef
 |none=>undef
section
variable{tb:Bool}{Q:QT}{R:ae->af->Prop}{v:af}{fn:au}{k:List Item}{a A:Array ae}{ops:Array Oper}{Inv I J:af->Prop}{i:Nat}
def A7(ops:Array Oper)(i:Nat)(A a:Array ae):Prop:=a.size=A.size/\∃o l,ops[i]?=some o/\y9 o.op=some l/\∀x∈l,aX ⟨a,[]⟩ x=aX ⟨A,[]⟩ x
theorem A7.ex(h:A7 ops i A a):mD ops i a=mD ops i A:=by
 obtain⟨_,o,l,K,Y,e⟩:=h;simp only[mD,K,execOp_congr Y e]
theorem A7.os(h:A7 ops i A a):(sI ops i).map (aX ⟨a,[]⟩)=(sI ops i).map (aX ⟨A,[]⟩):=by
 obtain⟨_,o,l,D,Y,e⟩:=h;unfold sI;rw[D];simp only[bK];split
 ·rename_i c H;rw[Option.some.inj H]at Y;simp only[y9]at Y;refine cw fun x hx=>e x ?_;have K:x∈c.args.toList:=by simpa using hx
  split at Y
  ·cases Y;exact cK _ K
  ·cases Y;exact K
  ·cases Y
 ·simp
def Stp(tb:Bool)(Q:QT)(R:ae->af->Prop)(fn:au)(k:List Item)(ops:Array Oper)(A:Array ae)(I J:af->Prop)(i:Nat):Prop:=
 ∀is a v,I v->A7 ops i A a->(∀v',J v'->GW tb Q R fn (.inRegion ops is::k) (kD (jR ops i) (dv ops A i) a) v')->GW tb Q R fn (.inRegion ops (i::is)::k) a v
theorem Stp.pu(B:∃F,PR.funcs[fn]?=some F)(h:vp ops i A=some A)(U:∀v,I v->J v):Stp tb Q R fn k ops A I J i:=by
 intro is a v K hs g;replace K:=U v K;have e:=hs.ex;unfold vp at h;cases hx:mD ops i A with
 |none=>rw[hx]at h;cases h
 |some s=>
  rw[hx]at h e;simp only at h;split at h
  ·rename_i x D;refine GW.ex B e (n_ D v) (.inl rfl) rfl ?_;have H:=Option.some.inj h;cases hd:jR ops i with
   |none=>have:=g v K;rw[hd]at this;exact this
   |some j=>
    have Y:=g v K;rw[hd]at H Y;simp only[kD,dv,hd]at H Y⊢;by_cases C:j<A.size
    ·have:A.getD j undef=x:=by rw[<-H];simp[aL,C]
     rw[this]at Y;exact Y
    ·rw[Array.setIfInBounds_eq_of_size_le (by rw[hs.1];omega)]at Y⊢;exact Y
  ·cases h
theorem Stp.ld(Y:∃F,PR.funcs[fn]?=some F){t:aU}{y x:ae}(U:∀v,I v->(cB t y).run PR v=.ok x v/\J v)(h:mD ops i A=some (sr (cB t y)):=by kernel_rfl)(hx:dv ops A i=x:=by kernel_rfl):Stp tb Q R fn k ops A I J i:=
 fun is a v K hs g=>GW.vl Y (hs.ex.trans h) (U v K).1 rfl (hx▸g v (U v K).2)
theorem Stp.call(U:∃F,PR.funcs[fn]?=some F){f:au}{x:ae}(C:∀v,I v->iF Q f args v fun y v'=>y=x/\J v')(Y:(sI ops i).map (aX ⟨A,[]⟩)=args:=by kernel_rfl)(h:∀t,ss ops i t=some (f,(sI ops i).map (aX ⟨t,[]⟩)):=by intro t;kernel_rfl)(B:(sI ops i).all (j0 K0)=true:=by kernel_rfl)(hx:dv ops A i=x:=by kernel_rfl):Stp tb Q R fn k ops A I J i:=
 fun is a v H hs g=>GW.call U (C v H) (fun y v' K=>by rw[K.1,<-hx];exact g v' K.2) (hs.os.trans Y) h B
theorem GW.ag2{md:Region.Mode}(I:Nat->Array Bool->Array ae->af->Prop)
  (U:∀listed i fuel t a v,I (fuel+1) listed a v->i∈ar md ops listed->(∀a' v',I fuel (listed.setIfInBounds i true) a' v'->GW tb Q R fn (.inRegion ops (bL md ops fuel t (listed.setIfInBounds i true) [])::k) a' v')->GW tb Q R fn (.inRegion ops (i::bL md ops fuel t (listed.setIfInBounds i true) [])::k) a v)
  (Y:∀fuel listed a v,I fuel listed a v->fuel=0\/ar md ops listed=[]->GW tb Q R fn (.inRegion ops []::k) a v):
  ∀fuel t listed a v,I fuel listed a v->GW tb Q R fn (.inRegion ops (bL md ops fuel t listed [])::k) a v:=by
 intro fuel;induction fuel with
 |zero=>intro t listed a v h;exact Y 0 listed a v h (.inl rfl)
 |succ fuel A=>
  intro t listed a v h;simp only[bL];change GW tb Q R fn (.inRegion ops (match(ar md ops listed)[t%(ar md ops listed).length]? with
   |some i=>bL md ops fuel (t/(ar md ops listed).length) (listed.setIfInBounds i true) [i]
   |none=>[].reverse)::k) a v
  cases H:(ar md ops listed)[t%(ar md ops listed).length]? with
  |none=>
   have K:ar md ops listed=[]:=by
    cases hr:ar md ops listed with
    |nil=>rfl
    |cons x xs=>
     rw[hr]at H;have D:t%(x::xs).length<(x::xs).length:=Nat.mod_lt _ (by simp);simp at H;simp at D;omega
   exact Y (fuel+1) listed a v h (.inr K)
  |some i=>
   simp only[];rw[linearise_go_acc,List.reverse_singleton,List.singleton_append];exact U listed i fuel _ a v h (bC H) fun a' v' h'=>A _ _ a' v' h'
theorem ac8(h:Vs ops listed A a){x:bq}(hx:∀j∈FK x,∀m,jR ops m=some j->listed.getD m false=true):aX ⟨a,[]⟩ x=aX ⟨A,[]⟩ x:=by
 cases x with
 |tmp j=>
  have:=h.2 j (hx j (by simp[FK]));show a.getD j undef=A.getD j undef
  simp only[da,this]
 |_=>rfl
theorem getD_set_ne{l:Array Bool}{i m:Nat}(h:m≠i):(l.setIfInBounds i true).getD m false=l.getD m false:=by
 simp only[da,bD,if_neg (Ne.symm h)]
theorem Sy{m:Nat}(h:jR ops m=some j):m<ops.size:=by
 unfold jR at h;cases e:ops[m]? with
 |none=>rw[e]at h;cases h
 |some o=>exact(cv.1 e).1
def zE(ops:Array Oper)(A:Array ae):Nat->Array ae->Array ae
 |0,a=>a
 |m+1,a=>kD (jR ops m) (dv ops A m) (zE ops A m a)
theorem ag3(n:Nat)(h:∀m,jR ops m≠some j):(zE ops A n a)[j]?=a[j]?/\(zE ops A n a).size=a.size:=by
 induction n with
 |zero=>exact⟨rfl,rfl⟩
 |succ n Y=>
  unfold zE kD;cases hd:jR ops n with
  |none=>exact Y
  |some d=>simp only[bD,Array.size_setIfInBounds];rw[if_neg (by rintro rfl;exact h n hd)];exact Y
theorem GW.Sz(Inv:Array Bool->af->Prop)(G:Inv (cx ops.size false) v)(L:List Nat)(hI:∀i∈L,∀listed v,Inv listed v->Inv (listed.setIfInBounds i true) v)(hM:∀i listed,i<ops.size->i∉L->listed.size=ops.size->listed.getD i true=false->(∀o,ops[i]?=some o->∀e∈o.after,aT .any e=true->listed.getD e.on false=true)->Stp tb Q R fn k ops A (Inv listed) (Inv (listed.setIfInBounds i true)) i)(g:∀v' listed,(∀m,m<ops.size->listed.getD m false=true)->Inv listed v'->GW tb Q R fn (.inRegion ops []::k) A v')(y:∃F,PR.funcs[fn]?=some F)
  (hL:L.map (fun i=>vp ops i A)=L.map (fun _=>some A):=by kernel_rfl)(hB:Sx ops=true:=by kernel_rfl)(hA:zE ops A ops.size a=A:=by kernel_rfl)(zi:a.size=A.size:=by kernel_rfl):GW tb Q R fn (.code (.region id ops true)::k) a v:=by
 have st:∀i listed,i<ops.size->listed.size=ops.size->listed.getD i true=false->(∀o,ops[i]?=some o->∀e∈o.after,aT .any e=true->listed.getD e.on false=true)->Stp tb Q R fn k ops A (Inv listed) (Inv (listed.setIfInBounds i true)) i:=fun i listed C h1 h2 U=>by
  by_cases h:i∈L
  ·exact .pu y (iV hL h) (hI i h listed)
  ·exact hM i listed C h h1 h2 U
 have P:∀i,i<ops.size->∃o l,ops[i]?=some o/\(∀e∈o.after,aT .any e=true->e.on<i)/\y9 o.op=some l/\∀x∈l,∀j∈FK x,∀m,jR ops m=some j->∃e∈o.after,e.on=m/\aT .any e=true:=by
  intro i C;have h:=bB.1 hB i (cM.2 C);split at h
  ·rename_i o M;simp only[bE]at h;obtain⟨h1,h2⟩:=h;split at h2
   ·rename_i l X;refine⟨o,l,M,fun e K hb=>by simpa[hb]using cn.1 h1 e K,X,fun x hx j J m Y=>?_⟩;have U:=bB.1 (bB.1 (bB.1 h2 x hx) j J) m (cM.2 (Sy Y));rw[Y]at U;simp only[beq_self_eq_true,Bool.not_true,Bool.false_or]at U;obtain⟨e,K,q⟩:=c9.1 U;simp only[bE,beq_iff_eq]at q;exact⟨e,K,q⟩
   ·cases h2
  ·cases h
 have FI:∀(listed:Array Bool) i,i∈ar .any ops listed↔i<ops.size/\listed.getD i true=false/\∃o,ops[i]?=some o/\∀e∈o.after,aT .any e=true->listed.getD e.on false=true:=by
  intro listed i;unfold ar;simp only[List.mem_filter,cM,bE,dh];refine and_congr_right fun C=>and_congr_right fun _=>?_;rw[db C];simp only[bK,a_,Option.some.injEq,exists_eq_left',cn];refine forall_congr' fun e=>forall_congr' fun K=>?_;cases aT .any e<;>simp
 refine GW.draw fun t=>GW.ag2 (fun fuel listed a v=>listed.size=ops.size/\listed.toList.countP (fun b=>!b)<=fuel/\Vs ops listed A a/\Inv listed v) ?_ ?_ _ t _ a v ⟨by simp,?_,⟨zi,?_⟩,G⟩
 ·rintro listed i fuel t a v ⟨V,z2,ag,G⟩ C c;obtain⟨h1,h2,o,M,U⟩:=(FI listed i).1 C;obtain⟨o',l,N,_,X,hx⟩:=P i h1;obtain rfl:=Option.some.inj (M.symm.trans N);refine st i listed h1 V h2 (fun o' N e K hb=>by cases M.symm.trans N;exact U e K hb) _ a v G ⟨ag.1,o,l,M,X,fun x W=>ac8 ag fun j J m Y=>?_⟩ fun v' E=>c _ v' ⟨by simpa using V,?_,?_,E⟩
  ·obtain⟨e,K,rfl,hb⟩:=hx x W j J m Y;exact U e K hb
  ·have H:i<listed.toList.length:=by simpa[V]using h1
   have hb:listed.toList[i]=false:=by
    have:listed.getD i true=listed[i]'(by simpa using H):=by simp[aL,show i<listed.size by simpa using H]
    rw[this]at h2;simpa using h2
   have f:0<listed.toList.countP (fun b=>!b):=List.countP_pos_iff.2 ⟨_,bj H,by rw[hb];rfl⟩;rw[Array.toList_setIfInBounds,List.countP_set H,hb];show listed.toList.countP (fun b=>!b)-1+0<=fuel
   omega
  ·refine⟨by rw[<-ag.1];unfold kD;split<;>simp,fun j J=>?_⟩;have other:jR ops i≠some j->a[j]?=A[j]?:=fun Z=>ag.2 j fun m Y=>by
    have:=J m Y
    rwa [getD_set_ne (by rintro rfl;exact Z Y)]at this
   unfold kD dv;cases hd:jR ops i with
   |none=>exact other (by rw[hd];simp)
   |some d=>
    simp only;by_cases B:d=j
    ·subst B;rw[bD,if_pos rfl];by_cases D:d<a.size
     ·rw[if_pos D,db (by rw[<-ag.1];exact D)];simp[aL,show d<A.size by rw[<-ag.1];exact D]
     ·rw[if_neg D,cu (by rw[<-ag.1];omega)]
    ·rw[bD,if_neg B];exact other (by rw[hd];simpa using B)
 ·rintro fuel listed a v ⟨V,z2,ag,G⟩ T;have all:∀m,m<ops.size->listed.getD m false=true:=by
   rcases T with O|O
   ·subst O;have O:=List.countP_eq_zero.1 (Nat.le_zero.1 z2);intro m Y;have I:m<listed.size:=by omega
    have:=O listed[m] (by simp);simp[aL,I];simpa using this
   ·intro m;induction m using bJ with
    |ind m z=>
     intro Y;have I:m<listed.size:=by omega
     cases hb:listed[m]with
     |true=>simp[aL,I,hb]
     |false=>
      exfalso;obtain⟨o,l,M,S,_,_⟩:=P m Y;have:m∈ar .any ops listed:=(FI listed m).2 ⟨Y,by simp[aL,I,hb],o,M,fun e K hb=>z e.on (S e K hb) (by have:=S e K hb;omega)⟩;rw[O]at this;cases this
  have:a=A:=by
   apply c_;intro j;exact ag.2 j fun m Y=>all m (Sy Y)
  rw[this];exact g v listed all G
 ·have:=List.countP_le_length (p:=fun b=>!b) (l:=(cx ops.size false).toList);simpa using this
 ·intro j J;have:=(ag3 (ops:=ops) (A:=A) (a:=a) ops.size (j:=j) fun m e=>by
   have:=J m e;simp[aL]at this).1
  rwa [hA,eq_comm]at this
theorem GW.Tt(Inv:af->Prop)(O:Inv v)(L:List Nat)(M:∀i,i<ops.size->i∉L->Stp tb Q R fn k ops A Inv Inv i)(g:∀v',Inv v'->GW tb Q R fn (.inRegion ops []::k) A v')(Y:∃F,PR.funcs[fn]?=some F)
  (hL:L.map (fun i=>vp ops i A)=L.map (fun _=>some A):=by kernel_rfl)(C:Sx ops=true:=by kernel_rfl)(B:zE ops A ops.size a=A:=by kernel_rfl)(U:a.size=A.size:=by kernel_rfl):GW tb Q R fn (.code (.region id ops true)::k) a v:=
 GW.Sz (fun _=>Inv) O L (fun _ _ _ _ h=>h) (fun i _ h1 h2 _ _ _=>M i h1 h2) (fun v' _ _ h=>g v' h) Y hL C B U
end
section
variable{Q:QT}{R:ae->af->Prop}{v:af}{fn:au}{k:List Item}{a:Array ae}
theorem GW.Tu(Y:∃F,PR.funcs[fn]?=some F)(x y:Nat)(hr:R (.tuple #[a.getD x undef,a.getD y undef]) v)(h:∀t c cs,gC PR 2 ((bf fn).at ⟨t,[]⟩ (.code .ret::k)) (c::cs)=(c.finish (.tuple #[t.getD x undef,t.getD y undef]),cs):=by intro t c cs;kernel_rfl):GW false Q R fn (.code .ret::k) a v:=by
 intro r Z w t l H D K I;obtain⟨c,cs,rfl⟩:=CZ H;refine aK 2 fun w' hk=>?_;rw[h];have ev:∀n:Nat,@V gv r (a.getD n undef) (t.getD n undef):=fun n=>yv Y D K.gi (x:=.tmp n) trivial;refine I r Z _ _ v w' (fun _ _ e=>e) ?_ (K.quiet hk) (.qt hk) hr
 letI:=gv
 refine .tuple rfl fun i p p' e e'=>?_;have A:i<2:=by
  have:=(cv.1 e).1;simpa using this
 have:i=0\/i=1:=by omega
 rcases this with rfl|rfl<;>cases e<;>cases e'<;>exact ev _
end
theorem iF.mono{Q:QT}{R U:ae->af->Prop}{v:af}{f:au}(g:iF Q f args v R)(h:∀x v',R x v'->U x v'):iF Q f args v U:=
 fun r Z w Y c cs A I B=>g r Z w Y c cs A I fun r' Z' x x' v' w' h1 h2 K H D=>B r' Z' x x' v' w' h1 h2 K H (h _ _ D)
def jU(c:Int)(n:Nat):Int:=aD.wrap (1+(kV c n:Nat))
theorem ag4{c:Int}{n:Nat}(h:0<n)(h2:n<=1000):jU c n=1+(kV c n:Nat):=by
 have:=Ac c h;unfold jU;rw[Go.IntWalk.i64_in _ (by omega)]
theorem AJ{Q:QT}{v v1:af}{c:Int}{n:Nat}(Y:nA c)(h1:1<=n)(h2:n<=1000)(K:Kw v1 v):iF Q 19 #[i6 c,i6 n] v fun y v'=>y=i6 (kV c n:Nat)/\Kw v1 v':=
 aW (R:=fun y v'=>y=i6 (kV c n:Nat)/\Kw v1 v') (by decide) fun T=>(PH c n (tp v T) Y h1 h2).mono fun e w' h=>⟨_,h.1,rfl,by rw[h.2];exact K⟩
noncomputable def zF:Code:=Tryz.f22.body.getD .skip
theorem ai2:Tryz.f22.body=some zF:=by kernel_rfl
def Vt:Array Oper:=opsOf (cp [2,1] zF)
theorem ac9:Vt.size=23:=by kernel_rfl
def slK(ref reads:ByteArray)(k q s wk:Int)(B:Nat)(S:ByteArray)(E P:Int):Array Value:=
 #[.string ref,.string reads,i6 k,.agg #[i6 q,i6 s,i6 wk],undef,undef,undef,ptr B,.string ⟨#[]⟩,i6 0,.string S,i6 E,i6 P,.tuple #[.string S,i6 E,i6 P],.string ref,.string reads,i6 k,
  qT B 0,i6 q,i6 (kV q 8:Nat),i6 (jU q 8),qT B 1,i6 s,i6 (kV s 200:Nat),i6 (jU s 200),qT B 2,i6 wk,i6 (kV wk 8:Nat),i6 (jU wk 8),.tuple #[.string S,i6 E,i6 P],.string S,i6 E,i6 P,undef,undef]
section
variable{Q:QT}{v:af}{ref reads:ByteArray}{k q s wk:Int}
theorem ac_(h1:ref.size<=aB)(h2:reads.size<=aB)(C:nA q)(hs:nA s)(hw:nA wk)(U:ln v)(B:iS v):
  iF Q 22 #[.string ref,.string reads,i6 k,.agg #[i6 q,i6 s,i6 wk]] v fun x v'=>x=.tuple #[.string (qa ref reads k (jU q 8) (jU s 200) (jU wk 8)),i6 (m_ ref reads k (jU q 8) (jU s 200) (jU wk 8))]/\Kw v v':=by
 have Y:∃F,PR.funcs[22]?=some F:=⟨_,Tryz.func22⟩;refine iF.of (n:=35) Tryz.func22 ai2 (by kernel_rfl) ?_;refine GW.run 2 (k':=[.inRegion (opsOf (cp [1] zF)) [0,1,2],.code (cp [2] zF)]) ?_;refine GW.bx Y (t:=28) (y:=.agg #[i6 q,i6 s,i6 wk]) fun v1 H l1 c1=>?_;replace c1:v1.heap[v.heap.size]?=some (.cells #[i6 q,i6 s,i6 wk] 28):=c1;refine ah Y [1,2] ?_;refine GW.run 2 (k':=[.code (.region 1 Vt true),.code (cp [2,2] zF)]) ?_;refine GW.Tt (A:=slK ref reads k q s wk v.heap.size (qa ref reads k (jU q 8) (jU s 200) (jU wk 8)) (m_ ref reads k (jU q 8) (jU s 200) (jU wk 8)) (uZ ref reads)) (Kw v1) (.refl v1) [0,1,2,3,6,7,10,11,14,16,17,18,19,20,21,22] ?_ ?_ Y
 ·intro i D R;rw[ac9]at D;have:i=4\/i=8\/i=12\/i=5\/i=9\/i=13\/i=15:=by simp at R;omega
  rcases this with rfl|rfl|rfl|rfl|rfl|rfl|rfl
  ·exact .ld Y fun u K=>⟨mq 0 A3 (K.at c1) rfl,K⟩
  ·exact .ld Y fun u K=>⟨mq 1 A3 (K.at c1) rfl,K⟩
  ·exact .ld Y fun u K=>⟨mq 2 A3 (K.at c1) rfl,K⟩
  ·exact .call Y fun u K=>AJ (n:=8) C (by omega) (by omega) K
  ·exact .call Y fun u K=>AJ (n:=200) hs (by omega) (by omega) K
  ·exact .call Y fun u K=>AJ (n:=8) hw (by omega) (by omega) K
  ·exact .call Y fun u K=>iF.mono (Ja (k:=k) (q:=jU q 8) (st:=jU s 200) (wk:=jU wk 8) h1 h2 ((H.trans K).nR U) ((H.trans K).r7 U B)) fun y v' h=>⟨h.1,K.trans h.2⟩
 ·intro v2 K;refine GW.run 3 (k':=[.inRegion (opsOf (cp [2,2,1] zF)) [0,1,2,3],.code .ret]) ?_;refine ah Y [0,1,2,3] ?_;refine GW.run 1 (k':=[.code .ret]) ?_;exact GW.Tu Y 8 9 ⟨by kernel_rfl,H.trans K⟩
end
noncomputable def sK:Code:=b_.body.getD .skip
theorem ai3:b_.body=some sK:=by kernel_rfl
def LZ(S T:ByteArray)(p q:Int)(u:Nat->ae):Array Value:=
 #[.bool false,.string S,i6 0,i6 p,.string T,i6 0,i6 q,u 7,u 8,u 9,u 10,u 11,u 12,u 13,u 14,u 15,u 16,u 17,u 18,u 19,u 20,u 21,u 22,u 23,u 24,u 25,u 26,u 27,u 28,u 29,u 30,u 31,u 32]
section
variable{Q:QT}{v:af}
theorem ai4{p q:Int}(K:Kw v w):(cp [2,2,2] sK).wp PR (bodyPost PR b_ fun e v'=>∃x,e=.returned x/\x=.bool true/\Kw v v') ⟨LZ Lx Ly p q u,[]⟩ w:=by
 unfold sK b_ LZ;simp only[a_,cp];go_wp2
 go_ret
 exact⟨_,rfl,rfl,K⟩
theorem ae_(U:ln v)(B:iS v):iF Q 16 #[] v fun x v'=>x=.bool true/\Kw v v':=by
 have Y:∃F,PR.funcs[16]?=some F:=⟨_,cU⟩;refine iF.of (n:=33) cU ai3 (by kernel_rfl) ?_;refine GW.run 2 (k':=[.inRegion (opsOf (cp [1] sK)) [0],.code (cp [2] sK)]) ?_;refine ah Y [0] ?_;refine GW.run 3 (k':=[.inRegion (opsOf (cp [2,1] sK)) [0,1,2,3,4,5,6,7],.code (cp [2,2] sK)]) ?_;refine GW.call Y (Ja (ref:=vn) (reads:=FA) (k:=0) (q:=2) (st:=4) (wk:=3) (by decide) (by decide) U B) ?_;rintro x v1 ⟨rfl,K⟩;refine ah Y [1,2,3,4,5,6,7] ?_;refine GW.run 3 (k':=[.inRegion (opsOf (cp [2,2,1] sK)) [0,1,2,3,4,5,6,7],.code (cp [2,2,2] sK)]) ?_;refine GW.call Y (Ja (ref:=vn) (reads:=Ec) (k:=1) (q:=1) (st:=3) (wk:=2) (by decide) (by decide) (K.nR U) (K.r7 U B)) ?_;rintro x v2 ⟨rfl,H⟩;refine ah Y [1,2,3,4,5,6,7] ?_;refine GW.run 1 (k':=[.code (cp [2,2,2] sK)]) ?_;rw[ajV,Tj,ajW,Tk];refine aM (fun u=>LZ Lx Ly (uZ vn FA) (uZ vn Ec) u) (by kernel_rfl) fun u=>?_;exact GW.rest cU (by kernel_rfl) fun T=>ai4 (K.trans H)
end
def DT(f:au)(args:Array ae)(y:ae):Prop:=∀(Qq:QT) (Z:Loc->Prop) (w:af) (c:ay) (cs:List ay),PR.globals.size<=w.heap.size->ln w->iS w->(∀g,g=0\/g=2\/g=3->iP Z g)->
 (∀Z' w',(∀l,Z l->Z' l)->(∀l,Z' l->Z l\/∃a:Addr,l=.cell a/\w.heap.size<=a.block)->g_ Z w w'->gn PR Qq Z' (c.finish y) cs w')->gn PR Qq Z (Frame.enter PR f args .normal) (c::cs) w
theorem RH{f:au}{y:ae}(hb:args.all (mW 3)=true)(O:uO 1 y=true)(h:∀Q v,ln v->iS v->iF Q f args v fun x v'=>x=y/\Kw v v'):DT f args y:=by
 intro J Z w c cs D A H B S
 letI:=gv
 obtain⟨K,R⟩:∃K:Nat->Prop,∀a,K a↔(a=0\/a=2\/a=3):=⟨_,fun _=>Iff.rfl⟩;have I:GI (mj K):=fun g N=>rU ((R g).2 (by
  have:([0,2,3].contains g)=true:=N;simpa using this))
 have C:∀b,¬gq.ro b:=fun b h=>h;have U:W (mj K) 0 w w:=Ie C D fun b hb=>by
  obtain⟨T,t,fz,h,hp⟩:=A b ((R b).1 hb);exact⟨_,h,C5 _ _ fun x hx=>by obtain⟨k,n,rfl⟩:=hp x hx;exact .int _ _⟩
 refine h J w A H (mj K) Z w args c cs ⟨rfl,fun i z V e e'=>?_⟩ ⟨U,I,fun a y=>B a ((R a).1 (yo.1 y))⟩ fun r' Z' x x' v' w' h1 h2 L Y M=>?_
 ·obtain rfl:=Option.some.inj (e.symm.trans e');exact zT (cn.1 hb _ (de e))
 ·obtain⟨rfl,hk⟩:=M;obtain rfl:=PY O h2;refine S Z' w' Y.more Y.only ⟨fun a F P=>?_,Y.ke.grow,Y.ke.tape,Y.ke.env,Y.ke.output⟩;by_cases y:K a
  ·exact(L.nR (Kw.nR hk A) a ((R a).1 y)).trans (hk a F)
  ·exact Y.kept a F (fun z=>y (yo.1 z)) P
theorem ada:DT 16 #[] (.bool true):=RH (by kernel_rfl) rfl fun Q v h1 h2=>ae_ h1 h2
theorem afa{c:Int}{n:Nat}(Y:nA c)(h1:1<=n)(h2:n<=1000):DT 19 #[ii c,ii n] (ii (kV c n:Nat)):=RH (by kernel_rfl) rfl fun Q v _ _=>AJ Y h1 h2 (.refl v)
abbrev mJ(site:List Item)(al:List (Nat×ae))(J:Nat->ae):Frame:=kX 18 35 site (sA al) J
def mb(sl:ae)(m i:Int)(s:ByteArray):List (Nat×ae):=[(0,sl),(1,ii m),(5,.string s),(6,ii i)]
def zm:List (Nat×ae):=mb (.slice none 0 0) 0 0 ⟨#[]⟩
abbrev uV:Nat->Value:=fun _=>undef
def mH:List Item:=(gC PR 22 (Frame.enter PR 18 #[.slice none 0 0,ii 0] .normal) []).1.todo
abbrev Vu (site:List Item) (al:List (Nat×ae)):List Item:=(gX PR 60 (mJ site al uV) []).1.todo
abbrev Vv (site:List Item) (al:List (Nat×ae)) (v:ae):List Item:=(gX PR 60 ((mJ site al uV).finish v) []).1.todo
def mC:List Item:=Vu mH (zm++[(11,.bool false)])
def Ei:List Item->Code
 |.code (.cond _ a _)::_=>a
 |_=>.skip
def y_:List Item->Code
 |.code (.cond _ _ b)::_=>b
 |_=>.skip
def mI:List Item:=Vu (.code (Ei mC)::mC.tail) zm
def FL(m:List (Nat×ae))(sl:ae)(i:Int):List (Nat×ae):=m++[(19,sl),(20,ii i)]
def mL:List Item:=Vv mI (FL zm (.slice none 0 0) 0) (ptr 0)
def L0(m:List (Nat×ae))(p:Addr):List (Nat×ae):=m++[(21,.pointer (some p))]
def mP:List Item:=Vv mL (L0 zm ⟨0,0,none⟩) (ii 0)
def BS(m:List (Nat×ae))(z:Int):List (Nat×ae):=m++[(22,ii z)]
def L1(v:Nat):UInt8:=if v=24 then 78 else [65,67,71,84].getD (v%4) 0
section
variable{m i z:Int}{s:ByteArray}{a:Option Addr}{len cap:Nat}{p:Addr}{J:Nat->ae}{l:List ay}{c:ay}{t:Bool}
abbrev ms(a:Option Addr)(len cap:Nat)(m i:Int)(s:ByteArray):List (Nat×ae):=mb (.slice a len cap) m i s
theorem mt0:look [0,1,5,6,11] (gC PR 22 (Frame.enter PR 18 #[.slice a len cap,ii m] .normal) l)=iu 18 35 l mH (ms a len cap m 0 ⟨#[]⟩++[(11,.bool (decide ((0:Int)<(len:Int))))]) none none:=by kernel_rfl
theorem Vw:look [0,1,5,6,16] (gX PR 60 (mJ mH (ms a len cap m i s++[(11,.bool true)]) J) l)=iu 18 35 l mC (ms a len cap m i s++[(16,.bool (decide (i<m)))]) none none:=by kernel_rfl
theorem Vx:look [0,1,5,6,16] (gX PR 60 (mJ mH (ms a len cap m i s++[(11,.bool false)]) J) l)=iu 18 35 l mC (ms a len cap m i s++[(16,.bool false)]) none none:=by kernel_rfl
theorem Jc:mC=.code (.cond (.tmp 16) (Ei mC) (y_ mC))::mC.tail:=by kernel_rfl
theorem mt3:look [0,1,5,6,19,20] (gX PR 60 (mJ (.code (Ei mC)::mC.tail) (ms a len cap m i s) J) l)=iu 18 35 l mI (FL (ms a len cap m i s) (.slice a len cap) i) none none:=by kernel_rfl
theorem ag5:(opAt (mJ mI (FL (ms a len cap m i s) (.slice a len cap) i) J)).map (fun o=>o.op)=some (.indexAddr 25 (.tmp 19) (.tmp 20)):=by kernel_rfl
theorem mt4:look [0,1,5,6,21] (gX PR 60 ((mJ mI (FL (ms a len cap m i s) (.slice a len cap) i) J).finish (.pointer (some p))) l)=iu 18 35 l mL (L0 (ms a len cap m i s) p) none (some (3,.pointer (some p))):=by kernel_rfl
theorem mt5:look [0,1,5,6,22] (gX PR 60 ((mJ mL (L0 (ms a len cap m i s) p) J).finish (ii z)) l)=iu 18 35 l mP (BS (ms a len cap m i s) z) (some (19,#[ii z,ii 25])) none:=by kernel_rfl
theorem ag6:gC PR 1 (mJ mP (BS (ms a len cap m i s) z) J) l=(Frame.enter PR 19 #[ii z,ii 25] .normal,mJ mP (BS (ms a len cap m i s) z) J::l):=by kernel_rfl
def mA:List Item:=(gC PR 18 ((mJ mP (BS zm 0) uV).finish (ii 24)) []).1.todo
def L2(m:List (Nat×ae))(s t:ByteArray):List (Nat×ae):=m++[(28,.string s),(32,.string t)]
theorem mt6{v:Nat}(Y:v<25):look [0,1,5,6,28,32] (gC PR (if v=24 then 18 else 20) ((mJ mP (BS (ms a len cap m i s) z) J).finish (ii v)) l)=iu 18 35 l mA (L2 (ms a len cap m i s) s ⟨#[L1 v]⟩) none none:=by
 have:v=0\/v=1\/v=2\/v=3\/v=4\/v=5\/v=6\/v=7\/v=8\/v=9\/v=10\/v=11\/v=12\/v=13\/v=14\/v=15\/v=16\/v=17\/v=18\/v=19\/v=20\/v=21\/v=22\/v=23\/v=24:=by omega
 rcases this with rfl|rfl|rfl|rfl|rfl|rfl|rfl|rfl|rfl|rfl|rfl|rfl|rfl|rfl|rfl|rfl|rfl|rfl|rfl|rfl|rfl|rfl|rfl|rfl|rfl<;>(show _=_;kernel_rfl)
theorem ag7{r:ByteArray}:(opAt (mJ mA (L2 (ms a len cap m i s) s r) J)).map (fun o=>o.op)=some (.binOp .add 9 (.tmp 28) (.tmp 32) 9):=by kernel_rfl
theorem mt8{r u:ByteArray}:look [0,1,5,6,11] (gC PR 16 ((mJ mA (L2 (ms a len cap m i s) s r) J).finish (.string u)) l)=iu 18 35 l mH (ms a len cap m (aD.wrap (i+1)) u++[(11,.bool (decide (aD.wrap (i+1)<(len:Int))))]) none none:=by kernel_rfl
theorem Vy:gC PR 8 (mJ (.code (y_ mC)::mC.tail) (ms a len cap m i s) J) (c::l)=(c.finish (.string s),l):=by kernel_rfl
end
theorem aa_:(PR.funcs[18]?).any (·.norace)=false:=by kernel_rfl
theorem ai5:PR.underlying 25=some (.slice (PR.elem 25)):=by kernel_rfl
theorem ag8:(PR.info? (PR.elem 25)).map (·.size)=some 1:=by kernel_rfl
theorem P3{f:ay}{x y:bq}(h:(opAt f).map (fun o=>o.op)=some (.binOp .add 9 x y 9)){s t:ByteArray}(hx:f.eval x=.string s)(Y:f.eval y=.string t)(hs:s.size+t.size<=100000000)(w:af):
  stepG PR main (G f cs) w=.go (G (f.finish (.string (s++t))) cs) w #[]:=by
 obtain⟨op,H,gu⟩:=r5 h;have hr:(br f.eval op).run PR w=.ok (.value (.string (s++t))) w:=by
  unfold br;simp only[gu,hx,Y];simp[go_sem,dI (P:=PR) (w:=w) s t (by omega)]
 have K:(br f.eval op).events PR w #[]=#[]:=by
  unfold br;simp only[gu,hx,Y];simp[go_sem,Op.stringOp]
 rw[oX H hr,K,seen_none]
theorem g_.on{Z0 Z:Loc->Prop}{wa wb:af}(only:∀l,Z l->Z0 l\/∃a:Addr,l=.cell a/\w0.heap.size<=a.block)(Y:g_ Z0 w0 wa)(gb:g_ Z wa wb):g_ Z0 w0 wb:=
 ⟨fun a K H=>(gb.old a (bZ K Y.grow) (uw only H K)).trans (Y.old a K H),aJ Y.grow gb.grow,gb.tape.trans Y.tape,gb.env.trans Y.env,gb.output.trans Y.output⟩
structure qM(Z0:Loc->Prop)(w0:af):Prop where
 low:PR.globals.size<=w0.heap.size
 nR:ln w0
 iV:iS w0
 off:∀b,b<w0.heap.size->iP Z0 b
theorem qM.gl{Z0:Loc->Prop}(h:qM Z0 w0){g:Nat}(Y:g=0\/g=2\/g=3):g<w0.heap.size:=by
 obtain⟨_,_,_,e,_⟩:=h.nR g Y;exact jI e
theorem qM.call{Z0 Z:Loc->Prop}{f:au}{y:ae}{Qq:QT}{c:ay}(h:qM Z0 w0)(r:DT f args y)(more:∀l,Z0 l->Z l)(only:∀l,Z l->Z0 l\/∃a:Addr,l=.cell a/\w0.heap.size<=a.block)(g:g_ Z0 w0 w)
  (k:∀Z' w',(∀l,Z0 l->Z' l)->(∀l,Z' l->Z0 l\/∃a:Addr,l=.cell a/\w0.heap.size<=a.block)->g_ Z0 w0 w'->gn PR Qq Z' (c.finish y) cs w'):gn PR Qq Z (Frame.enter PR f args .normal) (c::cs) w:=by
 have Y:∀g,g=0\/g=2\/g=3->w.heap[g]?=w0.heap[g]?:=fun b hb=>g.old b (h.gl hb) (h.off b (h.gl hb));refine r Qq Z w c cs (aJ h.low g.grow) (h.nR.same Y) (zV h.iV (Y 0 (.inl rfl))) (fun b hb=>uw only (h.off b (h.gl hb)) (h.gl hb)) fun Z' w' m o K=>?_;exact k Z' w' (fun l y=>m l (more l y)) (fun l y=>(o l y).elim (only l) fun⟨a,e,q⟩=>.inr ⟨a,e,aJ g.grow q⟩) (g.on only K)
section
variable{Qq:QT}{Z0:Loc->Prop}{w0:af}{c:ay}{cs:List ay}{b off len cap I:Nat}{zs:Nat->Int}
theorem abb(M:I<=60)(C:∀i,i<len->w0.cell? ⟨b,off+i,none⟩=some (ii (zs i))/\nA (zs i))(H:qM Z0 w0)
  (y:∀Z' w',(∀l,Z0 l->Z' l)->(∀l,Z' l->Z0 l\/∃a:Addr,l=.cell a/\w0.heap.size<=a.block)->g_ Z0 w0 w'->gn PR Qq Z' (c.finish (.string (str (lT zs (min len I))))) cs w'):
  ∀n i,i+n=min len I->∀Z J w,(∀l,Z0 l->Z l)->(∀l,Z l->Z0 l\/∃a:Addr,l=.cell a/\w0.heap.size<=a.block)->g_ Z0 w0 w->gn PR Qq Z (mJ mH (ms (some ⟨b,off,none⟩) len cap I i (str (lT zs i))++[(11,.bool (decide ((i:Int)<(len:Int))))]) J) (c::cs) w:=by
 intro n;induction n with
 |zero=>
  intro i p Z J w more only G;have fin:∀f w1,ky 18 35 mC (sA (ms (some ⟨b,off,none⟩) len cap I i (str (lT zs i))++[(16,.bool false)])) f->g_ Z0 w0 w1->gn PR Qq Z f (c::cs) w1:=by
   intro f w1 o S;refine gn.Jb false o Jc rfl fun J w2 B _=>?_;refine aK 8 fun w3 v=>?_;change gn PR Qq Z (gC PR 8 (mJ (.code (y_ mC)::mC.tail) (ms (some ⟨b,off,none⟩) len cap I i (str (lT zs i))) J) (c::cs)).1 (gC PR 8 (mJ (.code (y_ mC)::mC.tail) (ms (some ⟨b,off,none⟩) len cap I i (str (lT zs i))) J) (c::cs)).2 w3;rw[Vy];obtain rfl:i=min len I:=by omega
   exact y Z w3 more only ((S.on only B).on only (g_.of v))
  by_cases h:i<len
  ·rw[show decide ((i:Int)<(len:Int))=true from decide_eq_true (by omega)];refine bt 60 _ rfl Vw rfl fun O w1 g1 _ _ _ Y=>?_;rw[show decide ((i:Int)<(I:Int))=false from decide_eq_false (by omega)]at Y⊢;exact fin _ w1 Y (G.on only g1)
  ·rw[show decide ((i:Int)<(len:Int))=false from decide_eq_false (by omega)];refine bt 60 _ rfl Vx rfl fun O w1 g1 _ _ _ Y=>?_;exact fin _ w1 Y (G.on only g1)
 |succ n u=>
  intro i p Z J w more only G;have R:i<len:=by omega
  have r:i<I:=by omega
  obtain⟨A,s⟩:=C i R;have U:b<w0.heap.size:=dG A;rw[show decide ((i:Int)<(len:Int))=true from decide_eq_true (by omega)];refine bt 60 _ rfl Vw rfl fun O w1 g1 _ _ _ Y=>?_;refine gn.Jb (decide ((i:Int)<(I:Int))) Y Jc rfl fun V w2 B _=>?_;rw[show decide ((i:Int)<(I:Int))=true from decide_eq_true (by omega)];change gn PR Qq Z (mJ (.code (Ei mC)::mC.tail) (ms (some ⟨b,off,none⟩) len cap I i (str (lT zs i))) V) (c::cs) w2;refine bt 60 _ rfl mt3 rfl fun e w3 E _ _ _ K=>?_;refine cm (fun w4=>ac2 ag5 (K.slot 19 _ rfl) (K.slot 20 _ rfl) R ai5 ag8 w4) fun w4 W _=>?_;refine bt 60 _ rfl mt4 rfl fun J5 t q _ _ L _=>?_;have N:=G.on only ((((g1.trans B).trans E).trans W).trans q);have F:t.cell? ⟨b,off+i *1,none⟩=some (ii (zs i)):=by
   rw[Nat.mul_one,<-A];simp only[ao,N.old b U (H.off b U)]
  refine gn.read (a:=⟨b,off+i *1,none⟩) (fun w' A=>rP L A3 A aa_) F (uw only (H.off b U) U) fun w6 j=>?_;refine bt 60 _ rfl mt5 rfl fun J7 w7 z _ _ _ _=>?_;refine aK 1 fun w8 x=>?_;rw[ag6];refine H.call (afa (n:=25) s (by omega) (by omega)) more only (((N.on only j).on only z).on only (g_.of x)) fun Z' w9 m P T=>?_;refine gn.JE (if kV (zs i) 25=24 then 18 else 20) _ rfl (mt6 (Ac (zs i) (by omega))) rfl fun JA wA gA _ _ _ D=>?_;refine cm (fun Q=>P3 ag7 (D.slot 28 _ rfl) (D.slot 32 _ rfl) (by have:(str (lT zs i)).size=i:=(gR _).trans (Cp zs i);have:(⟨#[L1 (kV (zs i) 25)]⟩:ByteArray).size=1:=rfl;omega) Q) fun Q d _=>?_;refine gn.JE 16 _ rfl mt8 rfl fun X k g _ _ _ _=>?_;rw[Di (by unfold aB;omega),show L1 (kV (zs i) 25)=AW (zs i)from rfl,Cw,<-Zd];exact u (i+1) (by omega) Z' X k m P (T.on P ((gA.trans d).trans g))
theorem QP{a:Option Addr}{Z:Loc->Prop}(h:uC w0 a len zs)(Y:I<=60)(H:qM Z0 w0)(more:∀l,Z0 l->Z l)(only:∀l,Z l->Z0 l\/∃a:Addr,l=.cell a/\w0.heap.size<=a.block)(G:g_ Z0 w0 w)
  (U:∀Z' w',(∀l,Z0 l->Z' l)->(∀l,Z' l->Z0 l\/∃a:Addr,l=.cell a/\w0.heap.size<=a.block)->g_ Z0 w0 w'->gn PR Qq Z' (c.finish (.string (str (lT zs (min len I))))) cs w'):
  gn PR Qq Z (Frame.enter PR 18 #[.slice a len cap,ii I] .normal) (c::cs) w:=by
 refine gn.JE 22 _ rfl mt0 rfl fun J w1 g1 _ _ _ _=>?_;rcases h with rfl|⟨b,off,rfl,_,K⟩
 ·refine bt 60 _ rfl Vx rfl fun C w2 D _ _ _ A=>?_;refine gn.Jb false A Jc rfl fun J w3 R _=>?_;refine aK 8 fun w4 B=>?_;change gn PR Qq Z (gC PR 8 (mJ (.code (y_ mC)::mC.tail) (ms a 0 cap I 0 ⟨#[]⟩) J) (c::cs)).1 (gC PR 8 (mJ (.code (y_ mC)::mC.tail) (ms a 0 cap I 0 ⟨#[]⟩) J) (c::cs)).2 w4;rw[Vy];have:=U Z w4 more only (G.on only (((g1.trans D).trans R).trans (g_.of B)))
  rwa [Nat.zero_min]at this
 ·exact abb Y K H U (min len I) 0 (by omega) Z J w1 more only (G.on only g1)
end
theorem GW.JG{Q:QT}{R:ae->af->Prop}{v:af}{k:List Item}{a:Array ae}(Y:∃F,PR.funcs[fn]?=some F)(x:Nat)(hr:R (a.getD x undef) v)(h1:∀t,(gC PR 1 ((bf fn).at ⟨t,[]⟩ (.code .ret::k)) []).2=[]:=by intro t;kernel_rfl)(h:∀t u,stepG PR true (G (gC PR 1 ((bf fn).at ⟨t,[]⟩ (.code .ret::k)) []).1 []) u=.ended (.done (t.getD x undef)) u #[]:=by intro t u;kernel_rfl):GW true Q R fn (.code .ret::k) a v:=by
 intro r Z w t l H D K I;obtain rfl:l=[]:=List.isEmpty_iff.1 H;refine aK 1 fun w' hk=>?_;rw[h1];exact I r Z _ _ v w' (fun _ _ e=>e) (yv Y D K.gi (x:=.tmp x) trivial) (K.quiet hk) (.qt hk) hr _ (h t)
def blk:ae->ae
 |.slice .. =>.tuple #[]
 |x=>x
theorem afb{I:ae->af->Prop}{n:Nat}{al:List (Nat×ae)}{Z:Loc->Prop}{W0:af}(hp:∀O d,g_ (fun _=>False) W0 O->I (.bool true) (O.at d))(H:qM (fun _=>False) W0)(only:∀l,Z l->False\/∃a:Addr,l=.cell a/\W0.heap.size<=a.block)(Y:g_ (fun _=>False) W0 w)
  (C:∀b∈Bs,W0.heap.size<=b/\iP Z b/\∃x y z:Int,w.heap[b]?=some (.cells #[ii x,ii y,ii z] 28))
  (M:∀p∈al,(∃a l c,p.2=.slice a l c)\/mW 3 p.2=true\/∃b∈Bs,p.2=ptr b)
  (g:ln w->iS w->GW true (Ren.Ends PR I) (fun x v'=>x=.bool true/\Kw w v') fn site ((TN n (sA al) fun _=>undef).map blk) w):
  gn PR (Ren.Ends PR I) Z (kX fn n site (sA al) fun _=>undef) [] w:=by
 have S:∀g,g=0\/g=2\/g=3->w.heap[g]?=W0.heap[g]?:=fun b hb=>Y.old b (H.gl hb) (H.off b (H.gl hb));have F:ln w:=H.nR.same S;have A:iS w:=zV H.iV (S 0 (.inl rfl))
 letI:=gv
 obtain⟨K,R⟩:∃K:Nat->Prop,∀a,K a↔((a=0\/a=2\/a=3)\/a∈Bs):=⟨_,fun _=>Iff.rfl⟩;have B:GI (mj K):=fun g j=>rU ((R g).2 (.inl (by
  have:([0,2,3].contains g)=true:=j;simpa using this)))
 have N:∀b,¬gq.ro b:=fun b h=>h;have J:W (mj K) 0 w w:=Ie N (aJ H.low Y.grow) fun b hb=>by
  rcases(R b).1 hb with hb|hb
  ·obtain⟨v,t,fz,h,hp⟩:=F b hb;exact⟨_,h,C5 _ _ fun x hx=>by obtain⟨k,n,rfl⟩:=hp x hx;exact .int _ _⟩
  ·obtain⟨_,_,x,y,z,h⟩:=C b hb;exact⟨_,h,C5 _ _ fun u P=>by simp at P;rcases P with rfl|rfl|rfl<;>exact .int _ _⟩
 have E:∀x∈TN n (sA al) fun _=>undef,V (mj K) (blk x) x:=by
  intro x hx;unfold TN at hx;simp only[List.mem_toArray,aN]at hx;obtain⟨i,_,rfl⟩:=hx;unfold sA;cases o:al.lookup i with
  |none=>exact .blank rfl
  |some y=>
   obtain⟨p,hp,rfl⟩:=OP o;simp only[a_];rcases M p hp with⟨a,l,c,e⟩|e|⟨b,hb,e⟩
   ·rw[e];exact .blank rfl
   ·have:=zT (r:=mj K) e;revert e this;cases p.2 with
    |slice a l c=>exact fun _ _=>.blank rfl
    |_=>intro e h;exact h
   ·rw[e];exact .ptr ⟨rU ((R b).2 (.inr hb)),rfl,rfl⟩
 refine g F A (mj K) Z w (TN n (sA al) fun _=>undef) [] rfl ⟨Array.size_map ..,fun i x x' e e'=>?_⟩ ⟨J,B,fun a y=>?_⟩ fun r' Z' x x' v' w' h1 h2 T D X f q=>?_
 ·rw[Array.getElem?_map,e']at e;cases e;exact E x' (de e')
 ·rcases(R a).1 (yo.1 y)with h|h
  ·exact uw only (H.off a (H.gl h)) (H.gl h)
  ·exact(C a h).2.1
 ·obtain⟨rfl,hk⟩:=X;cases h2;refine gn.done fun s ⟨d,hd⟩=>⟨rfl,_,_,q s,(fun e G=>by simp at G),?_⟩;subst hd;refine hp w' d ⟨fun a L Q=>?_,aJ Y.grow D.ke.grow,D.ke.tape.trans Y.tape,D.ke.env.trans Y.env,D.ke.output.trans Y.output⟩;have U:=bZ L Y.grow;refine Eq.trans ?_ (Y.old a L Q);by_cases y:K a
  ·rcases(R a).1 y with y|y
   ·exact(T.nR (Kw.nR hk F) a y).trans (hk a U)
   ·have:=(C a y).1;omega
  ·exact D.kept a U (fun z=>y (yo.1 z)) (uw only Q L)
theorem ai6{v:af}{b:Nat}{x y z:ae}{fz:Nat×Nat}(h:v.heap[b]?=some (.cells #[x,y,z] e fz)):(cB 28 (ptr b)).run PR v=.ok (.agg #[x,y,z]) v:=by
 have c0:v.cell? ⟨b,0,none⟩=some x:=by simp[ao,h]
 have c1:v.cell? ⟨b,1,none⟩=some y:=by simp[ao,h]
 have c2:v.cell? ⟨b,2,none⟩=some z:=by simp[ao,h]
 simp[ptr,go_sem,c0,c1,c2]
theorem ai7{Q:QT}{v v1:af}(hx:x.length<=1000)(K:Kw v1 v):iF Q 23 #[.string (str x)] v fun y v'=>y=.string (str (jo x))/\Kw v1 v':=
 aW (R:=fun y v'=>y=.string (str (jo x))/\Kw v1 v') (by decide) fun T=>(aeI x (tp v T) hx).mono fun e w' h=>⟨_,h.1,rfl,by rw[h.2];exact K⟩
theorem ag9{Q:QT}{v v1:af}(hx:x.length<=60)(K:Kw v1 v):iF Q 24 #[.string (str x)] v fun y v'=>y=.string (str (jl x))/\Kw v1 v':=
 aW (R:=fun y v'=>y=.string (str (jl x))/\Kw v1 v') (by decide) fun T=>(acG x (tp v T) hx).mono fun e w' h=>⟨_,h.1,rfl,K.trans fun a Y=>h.2.block a Y⟩
def kp(j m:Nat)(x:ae):Value:=if Nat.ble j m then x else undef
theorem OS{B:Nat}{t:aU}:∀(cs:List ae) (off:Nat) (row:Array ae) (w:af),(∀x∈cs,x.oneCell'=true)->w.heap[B]?=some (.cells row t)->off+cs.length<=row.size->
  ∃w',(cY ⟨B,0,none⟩ cs off).run PR w=.ok () w'/\w'.drawn=w.drawn/\w'.heap.size=w.heap.size/\(∀b,b≠B->w'.heap[b]?=w.heap[b]?)/\∃Y,w'.heap[B]?=some (.cells Y t)/\Y.size=row.size/\∀j,Y[j]?=if off<=j/\j<off+cs.length then cs[j-off]? else row[j]?
 |[],off,row,w,_,h,_=>⟨w,rfl,rfl,rfl,fun _ _=>rfl,row,h,rfl,fun j=>by rw[if_neg (by simp)]⟩
 |x::cs,off,row,w,H,h,hs=>by
  have hx:=H x (by simp);simp only[bH]at hs;have L:(⟨B,0,none⟩:Addr).add off=⟨B,off,none⟩:=by unfold Addr.add;split<;>simp_all
  have h1:w.cell? ⟨B,off,none⟩=some row[off]:=by simp[ao,h,show off<row.size by omega]
  have f1:w.frozen? ⟨B,off,none⟩=false:=by simp[cV,h]
  have h2:=qX (i:=off) (v:=x) h;obtain⟨w',R,I,A,U,Y,C,F,J⟩:=OS cs (off+1) _ _ (fun y N=>H y (by simp[N])) h2 (by simp;omega);have D:=rW (w:=w) (b:=B) (i:=off) x;refine⟨w',?_,I,A.trans D.size,fun b hb=>(U b hb).trans (D.heap b hb),Y,C,by simpa using F,fun j=>?_⟩
  ·rw[cY,Sem.run_bind,L,cX PR _ _ x _ hx,h1];simp only[f1];exact R
  ·rw[J j];by_cases M:j=off
   ·subst M;rw[if_neg (by omega),if_pos (by simp)];simp[show j<row.size by omega]
   ·by_cases K:off+1<=j/\j<off+1+cs.length
    ·rw[if_pos K,if_pos (by simp;omega),show j-off=(j-(off+1))+1 by omega,cH]
    ·rw[if_neg K,if_neg (by simp;omega),bD,if_neg (by omega)]
def qk(m:Bool)(x y:ae):Value:=if m then x else y
def qU(u:Nat->ae)(s:ByteArray)(l I:ae)(n i:Int):Array Value:=#[.string s,u 1,u 2,u 3,l,I,ii n,ii i,u 8,u 9,u 10,u 11,u 12,u 13,u 14,u 15,u 16,u 17,u 18,u 19,u 20,u 21,u 22,u 23,u 24,u 25,u 26,u 27,u 28,u 29,u 30,u 31,u 32,u 33,u 34,u 35,u 36,u 37,u 38,u 39,u 40,u 41,u 42,u 43,u 44,u 45,u 46,u 47,u 48,u 49,u 50,u 51,u 52,u 53,u 54,u 55,u 56,u 57,u 58,u 59,u 60,u 61,u 62,u 63,u 64,u 65,u 66,u 67,u 68,u 69,u 70,u 71,u 72,u 73,u 74,u 75,u 76,u 77,u 78,u 79,u 80,u 81,u 82,u 83,u 84,u 85,u 86,u 87,u 88,u 89,u 90,u 91,u 92,u 93,u 94]
def sL(u:Nat->ae)(s:ByteArray)(l I pv:ae)(n i:Int)(g b:Nat)(P:Nat->ByteArray)(Z:Nat->Int)(m:Bool):Array Value:=#[.string s,u 1,u 2,u 3,l,I,ii n,ii i,pv,qk m (ptr b) (u 9),u 10,u 11,u 12,u 13,u 14,u 15,u 16,u 17,u 18,u 19,u 20,u 21,u 22,u 23,u 24,u 25,u 26,u 27,u 28,u 29,u 30,u 31,u 32,u 33,u 34,u 35,u 36,u 37,u 38,u 39,u 40,u 41,u 42,u 43,u 44,u 45,u 46,u 47,u 48,u 49,u 50,u 51,qk m pv (u 52),qk m (.pointer (some ⟨g,0,none⟩)) (u 53),qk m (.string (P 0)) (u 54),qk m pv (u 55),qk m (.pointer (some ⟨g,1,none⟩)) (u 56),qk m (.string (P 1)) (u 57),qk m (ii (Z 1)) (u 58),qk m pv (u 59),qk m (.pointer (some ⟨g,2,none⟩)) (u 60),qk m (.string (P 2)) (u 61),qk m pv (u 62),qk m (.pointer (some ⟨g,3,none⟩)) (u 63),qk m (.string (P 3)) (u 64),qk m (ii (Z 3)) (u 65),qk m pv (u 66),qk m (.pointer (some ⟨g,4,none⟩)) (u 67),qk m (.string (P 4)) (u 68),qk m pv (u 69),qk m (.pointer (some ⟨g,5,none⟩)) (u 70),qk m (.string (P 5)) (u 71),qk m pv (u 72),qk m (.pointer (some ⟨g,6,none⟩)) (u 73),qk m (.string (P 6)) (u 74),qk m pv (u 75),qk m (.pointer (some ⟨g,7,none⟩)) (u 76),qk m (.string (P 7)) (u 77),qk m pv (u 78),qk m (.pointer (some ⟨g,8,none⟩)) (u 79),qk m (.string (P 8)) (u 80),qk m (.agg #[.string (P 0),ii (Z 1),.string (P 2),ii (Z 3),.string (P 4),.string (P 5),.string (P 6),.string (P 7),.string (P 8)]) (u 81),u 82,u 83,u 84,u 85,u 86,u 87,u 88,u 89,u 90,u 91,u 92,u 93,u 94]
noncomputable def kG:Code:=bM.body.getD .skip
theorem ag_:bM.body=some kG:=by kernel_rfl
def tU:Array Oper:=opsOf (cp [2,2,2,2,2,1,2,1,1,2,1,1,2,2,1] kG)
theorem CL:tU.size=32:=by kernel_rfl
def mX(P:Nat->ByteArray)(Z:Nat->Int):Array Value:=#[.string (P 0),ii (Z 1),.string (P 2),ii (Z 3),.string (P 4),.string (P 5),.string (P 6),.string (P 7),.string (P 8)]
theorem r8:j7 PR (isAgg 9)=some false:=by kernel_rfl
theorem aha:(PR.info? 42).map (·.zero)=some (some (.agg #[.string nS,ii 0,.string nS,ii 0,.string nS,.string nS,.string nS,.string nS,.string nS])):=by kernel_rfl
theorem ahb:(PR.info? 42).map (·.size)=some 9:=by kernel_rfl
structure xQ(v:af)(b:Nat)(row:Array ae)(listed:Array Bool)(u:af):Prop where
 ord:listed.getD 31 false=true->listed.getD 30 false=true
 kw:Kw v u
 no:listed.getD 30 false=false->u.heap.size=b
 yes:listed.getD 30 false=true->∃r,u.heap[b]?=some (.cells r 42)/\r.size=9
 laid:listed.getD 31 false=true->u.heap[b]?=some (.cells row 42)
theorem xQ.on{v u u':af}{b:Nat}{row:Array ae}{i:Nat}(h:xQ v b row listed u)(h1:i≠30)(h2:i≠31)(e:u'.heap=u.heap):xQ v b row (listed.setIfInBounds i true) u':=by
 have Y:=getD_set_ne (l:=listed) (Ne.symm h1);have K:=getD_set_ne (l:=listed) (Ne.symm h2);exact⟨by rw[Y,K];exact h.ord,fun a H=>by rw[e];exact h.kw a H,by rw[Y,e];exact h.no,by rw[Y,e];exact h.yes,by rw[K,e];exact h.laid⟩
section
variable{Q:QT}{R:ae->af->Prop}{v:af}{k:List Item}{u:Nat->ae}{s:ByteArray}{l I:ae}{n i:Int}{g b cap:Nat}{P:Nat->ByteArray}{Z:Nat->Int}{cur:Array ae}
theorem adb(C:v.heap[g]?=some (.cells cur 9))(U:∀j,j<9->cur[j]?=some (.string (P j)))(qS:kt (P 1)=Z 1)(hz3:kt (P 3)=Z 3)(G:(P 1).size<=100000000)(hs3:(P 3).size<=100000000)(hb:b=v.heap.size)
  (kk:∀v',Kw v v'->v'.heap[b]?=some (.cells (mX P Z) 42)->GW false Q R 25 (.inRegion tU []::k) (sL u s l I (.slice (some ⟨g,0,none⟩) 9 cap) n i g b P Z true) v'):
  GW false Q R 25 (.code (.region 12 tU true)::k) (sL u s l I (.slice (some ⟨g,0,none⟩) 9 cap) n i g b P Z false) v:=by
 have K:∃F,PR.funcs[25]?=some F:=⟨_,cg⟩;have num:∀(x:ByteArray) (z:Int) (listed:Array Bool) (m:Nat) (w:af),m≠30->m≠31->x.size<=100000000->kt x=z->xQ v b (mX P Z) listed w->iF Q 26 #[.string x] w fun y v'=>y=ii z/\xQ v b (mX P Z) (listed.setIfInBounds m true) v':=fun x z listed m w h1 h2 hx W Y=>
  aW (R:=fun y v'=>y=ii z/\xQ v b (mX P Z) (listed.setIfInBounds m true) v') (by decide) fun T=>(NP x (tp w T) hx).mono fun e w' h=>⟨_,h.1,by rw[W],Y.on h1 h2 (by rw[h.2];rfl)⟩
 refine GW.Sz (A:=sL u s l I (.slice (some ⟨g,0,none⟩) 9 cap) n i g b P Z true) (xQ v b (mX P Z)) ?_ [0,1,3,4,7,8,10,11,14,15,17,18,20,21,23,24,26,27,29] ?_ ?_ ?_ K
 ·refine⟨fun h=>?_,.refl v,fun _=>hb.symm,fun h=>?_,fun h=>?_⟩<;>simp[aL]at h
 ·intro j L listed w Y;exact Y.on (by rintro rfl;simp at L) (by rintro rfl;simp at L) rfl
 ·intro j listed L hn d hf ha;rw[CL]at L;have:j=2\/j=5\/j=9\/j=12\/j=16\/j=19\/j=22\/j=25\/j=28\/j=6\/j=13\/j=30\/j=31:=by simp at hn;omega
  rcases this with rfl|rfl|rfl|rfl|rfl|rfl|rfl|rfl|rfl|rfl|rfl|rfl|rfl
  ·exact .ld K fun w Y=>⟨mq 0 r8 (Y.kw.at C) (U 0 (by omega)),Y.on (by omega) (by omega) rfl⟩
  ·exact .ld K fun w Y=>⟨mq 1 r8 (Y.kw.at C) (U 1 (by omega)),Y.on (by omega) (by omega) rfl⟩
  ·exact .ld K fun w Y=>⟨mq 2 r8 (Y.kw.at C) (U 2 (by omega)),Y.on (by omega) (by omega) rfl⟩
  ·exact .ld K fun w Y=>⟨mq 3 r8 (Y.kw.at C) (U 3 (by omega)),Y.on (by omega) (by omega) rfl⟩
  ·exact .ld K fun w Y=>⟨mq 4 r8 (Y.kw.at C) (U 4 (by omega)),Y.on (by omega) (by omega) rfl⟩
  ·exact .ld K fun w Y=>⟨mq 5 r8 (Y.kw.at C) (U 5 (by omega)),Y.on (by omega) (by omega) rfl⟩
  ·exact .ld K fun w Y=>⟨mq 6 r8 (Y.kw.at C) (U 6 (by omega)),Y.on (by omega) (by omega) rfl⟩
  ·exact .ld K fun w Y=>⟨mq 7 r8 (Y.kw.at C) (U 7 (by omega)),Y.on (by omega) (by omega) rfl⟩
  ·exact .ld K fun w Y=>⟨mq 8 r8 (Y.kw.at C) (U 8 (by omega)),Y.on (by omega) (by omega) rfl⟩
  ·exact .call K fun w Y=>num (P 1) (Z 1) listed 6 w (by omega) (by omega) G qS Y
  ·exact .call K fun w Y=>num (P 3) (Z 3) listed 13 w (by omega) (by omega) hs3 hz3 Y
  ·intro is a w Y hs N;have f0:listed.getD 30 false=false:=by
    have H:30<listed.size:=by rw[d,CL];omega
    simpa[aL,H]using hf
   have J:=Y.no f0;obtain⟨q,h1,h2⟩:=wy aha;rw[show dv tU (sL u s l I (.slice (some ⟨g,0,none⟩) 9 cap) n i g b P Z true) 30=ptr b by kernel_rfl]at N;refine GW.vl (v1:=w.alloc (.cells (Value.agg #[.string nS,ii 0,.string nS,ii 0,.string nS,.string nS,.string nS,.string nS,.string nS]).cells 42)) (x:=ptr b) K (hs.ex.trans (show mD tU 30 (sL u s l I (.slice (some ⟨g,0,none⟩) 9 cap) n i g b P Z true)=some (sr (Instr.alloc 42 true (.tuple #[]))) by kernel_rfl)) (by simp[go_sem,Instr.alloc,zeroValue,cZ,h1,h2,J,ptr]) rfl (N _ ?_);have D:(listed.setIfInBounds 30 true).getD 30 false=true:=by
    have H:30<listed.size:=by rw[d,CL];omega
    simp[aL,H]
   have S:=getD_set_ne (l:=listed) (i:=30) (m:=31) (by omega);exact⟨fun _=>D,Y.kw.trans (.alloc w _),(fun h=>by rw[D]at h;cases h),fun _=>⟨_,J▸dH w _,rfl⟩,(fun h=>by rw[S]at h;rw[Y.ord h]at f0;cases f0)⟩
  ·intro is a w Y hs N;have H:listed.getD 30 false=true:=by
    have hx:(tU[31]?).any (fun o=>o.after.any fun e=>e.on==30&&aT .any e)=true:=by kernel_rfl
    obtain⟨o,ho,hx⟩:=(Option.any_eq_true _ _).1 hx;obtain⟨e,he,hx⟩:=c9.1 hx;simp only[bE,beq_iff_eq]at hx;exact hx.1▸ha o ho e he hx.2
   obtain⟨r,hr,E⟩:=Y.yes H;obtain⟨w',S,f,e3,p,O,V,e6,t⟩:=OS (B:=b) (mX P Z).toList 0 r w (by simp[mX,ii,Value.oneCell']) hr (by rw[E];exact aj _);have M:O=mX P Z:=c_ fun j=>by
    rw[t j];by_cases L:j<9
    ·rw[if_pos ⟨bp _,by show j<0+9;omega⟩,cQ,dc]
    ·rw[if_neg (by show¬(0<=j/\j<0+9);omega),cu (by omega),cu (by show 9<=j;omega)]
   rw[M]at V;obtain⟨q,h1,h2⟩:=wy ahb;rw[show dv tU (sL u s l I (.slice (some ⟨g,0,none⟩) 9 cap) n i g b P Z true) 31=undef by kernel_rfl]at N;refine GW.sk (v1:=w') K (hs.ex.trans (show mD tU 31 (sL u s l I (.slice (some ⟨g,0,none⟩) 9 cap) n i g b P Z true)=some (A5 (di 42 (ptr b) (.agg (mX P Z)))) by kernel_rfl)) ?_ f (N w' ?_)
   ·have W:(mX P Z).size=9:=rfl;simp[go_sem,storeVar,sizeOf,cZ,h1,h2,bO,ptr,W,S]
   ·have D:(listed.setIfInBounds 31 true).getD 30 false=true:=(getD_set_ne (by omega)).trans H;exact⟨fun _=>D,fun c X=>(p c (by omega)).trans (Y.kw c X),(fun h=>by rw[D]at h;cases h),fun _=>⟨_,V,rfl⟩,fun _=>V⟩
 ·intro v' listed all Y;exact kk v' Y.kw (Y.laid (all 31 (by rw[CL];omega)))
end
def rL:Code:=cp [2,2,2,2,2,1,2,1,1] kG
def oV:List Item:=[.inBlock 0,.code (cp [2,2,2,2,2,2] kG)]
section
variable{u:Nat->ae}{s:ByteArray}{l I pv:ae}{n i:Int}{g b:Nat}{P:Nat->ByteArray}{Z:Nat->Int}{w:af}
def L3(s:ByteArray)(l I pv:ae)(n i:Int)(b:Nat)(a:Array ae):Prop:=a=qU (fun j=>a.getD j undef) s l I n i/\a.getD 8 undef=pv/\a.getD 9 undef=ptr b
theorem ahc(h:w.heap[b]?=some (.cells (mX P Z) 42))(h1:0<=Z 1)(U:0<=Z 3):(cp [2,1,1,2,2,2,1,1] rL).wp PR (fun e a' v'=>e=.normal/\a'.defers=[]/\(L3 s l I pv n i b a'.tmps/\a'.tmps.getD 89 undef=.bool false)/\v'.heap=w.heap) ⟨sL u s l I pv n i g b P Z true,[]⟩ w:=by
 have c1:w.cell? ⟨b,1,none⟩=some (ii (Z 1)):=by simp[ao,h,mX]
 have H:w.cell? ⟨b,3,none⟩=some (ii (Z 3)):=by simp[ao,h,mX]
 clear h;obtain⟨Q,Y⟩:∃Q:Exit->Act->af->Prop,Q=(fun e a' v'=>e=.normal/\a'.defers=[]/\(L3 s l I pv n i b a'.tmps/\a'.tmps.getD 89 undef=.bool false)/\v'.heap=w.heap):=⟨_,rfl⟩;rw[<-Y];have K:=laid Y;clear Y;generalize Z 1=D at *;generalize Z 3=z3 at *;unfold rL kG bM sL;simp only[a_,cp,qk,if_true,ptr];go_wp2
 rw[K.out];exact⟨rfl,rfl,⟨⟨by kernel_rfl,by kernel_rfl,by kernel_rfl⟩,congrArg Value.bool (by rw[decide_eq_false (by omega),decide_eq_false (by omega)];rfl)⟩,rfl⟩
theorem ahe{B:Nat}(u9:u 9=ptr b)(h:w.heap[b]?=some (.cells (mX P Z) 42))(U:w.ownsRow B 42 9 l j xs)(G:B<=w.heap.size)(Y:j<=100000001):
  (cp [2,1,1,2,2,2,2] rL).wp PR (fun e a' v'=>e=.normal/\a'.defers=[]/\∃l',(a'.tmps=qU (fun j=>a'.tmps.getD j undef) s l' I n i)/\v'.ownsRow B 42 9 l' (j+1) (xs++(mX P Z).toList)/\∀c,c<B->v'.heap[c]?=w.heap[c]?) ⟨qU u s l I n i,[]⟩ w:=by
 obtain⟨i0,W,R,A,C⟩:=info_parts QH;have c:∀k x,(mX P Z)[k]?=some x->w.cell? ⟨b,k,none⟩=some x:=fun k x hx=>by rw[cW w _ k _ _ _ h];exact hx
 have c0:w.cell? ⟨b,0,none⟩=some (.string (P 0)):=c 0 _ rfl;have c1:w.cell? ⟨b,1,none⟩=some (ii (Z 1)):=c 1 _ rfl;have c2:w.cell? ⟨b,2,none⟩=some (.string (P 2)):=c 2 _ rfl;have c3:w.cell? ⟨b,3,none⟩=some (ii (Z 3)):=c 3 _ rfl;have c4:w.cell? ⟨b,4,none⟩=some (.string (P 4)):=c 4 _ rfl;have c5:w.cell? ⟨b,5,none⟩=some (.string (P 5)):=c 5 _ rfl;have c6:w.cell? ⟨b,6,none⟩=some (.string (P 6)):=c 6 _ rfl;have f:w.cell? ⟨b,7,none⟩=some (.string (P 7)):=c 7 _ rfl;have g:w.cell? ⟨b,8,none⟩=some (.string (P 8)):=c 8 _ rfl;obtain⟨Q,D⟩:∃Q:Exit->Act->af->Prop,Q=(fun e a' v'=>e=.normal/\a'.defers=[]/\∃l',(a'.tmps=qU (fun j=>a'.tmps.getD j undef) s l' I n i)/\v'.ownsRow B 42 9 l' (j+1) (xs++(mX P Z).toList)/\∀c,c<B->v'.heap[c]?=w.heap[c]?):=⟨_,rfl⟩;rw[<-D];have V:=laid D;have X:Hid ((mX P Z).toList=[.string (P 0),ii (Z 1),.string (P 2),ii (Z 3),.string (P 4),.string (P 5),.string (P 6),.string (P 7),.string (P 8)]):=laid rfl;clear D c h;generalize Z 1=T at *;generalize Z 3=z3 at *;generalize P 0=F at *;generalize P 2=J at *;generalize P 4=L at *;generalize P 5=M at *;generalize P 6=N at *;generalize P 7=O at *;generalize P 8=S at *;unfold rL kG bM qU;simp only[a_,cp,u9,ptr];go_wp2_with(first
  |(at_builtin;refine wpList_append_own _ rfl _ _ 38 rfl B 42 i0 (.agg #[.string nS,.int .i64 0,.string nS,.int .i64 0,.string nS,.string nS,.string nS,.string nS,.string nS]) 9 128 Tryz.underlying38 W R A C rfl (by decide) _ _ _ rfl (U.alloc _) ⟨w.heap.size,0,none⟩ 1 1 [.string F,ii T,.string J,ii z3,.string L,.string M,.string N,.string O,.string S] rfl rfl ?c1 ?c2 ?c3 ?c4 ?c5 ?_)
  |go_in)
 case c1=>
  intro j x Y
  match j,Y with
  |0,Y|1,Y|2,Y|3,Y|4,Y|5,Y|6,Y|7,Y|8,Y=>simp at Y;subst Y;simp[Addr.add,go_sem]
 case c2=>intro x hx;simp at hx;rcases hx with rfl|rfl|rfl|rfl|rfl|rfl|rfl|rfl|rfl<;>rfl
 case c3=>unfold aB;omega
 case c4=>omega
 case c5=>simp;omega
 intro v' d H K _;have hk:∀c,c<B->d.heap[c]?=w.heap[c]?:=fun c E=>by
  have:=((Below.refl B w).alloc G (.cells #[.string F,ii T,.string J,ii z3,.string L,.string M,.string N,.string O,.string S] 42)).grown K (by simp;omega) (fun q z=>(U.lt q z).1);exact this.block c E
 go_wp2
 rw[V.out];exact⟨rfl,rfl,v',by kernel_rfl,by rw[X.out];exact H,hk⟩
end
theorem ai8:PR.underlying 65=some (.slice (PR.elem 65)):=by kernel_rfl
theorem ahf:(PR.info? (PR.elem 65)).map (·.size)=some 1:=by kernel_rfl
theorem QQ{Q:QT}{v:af}{s:ByteArray}{c:UInt8}(hs:s.size<=100000000):iF Q 40 #[.string s,.int .u8 (c.toNat:Int)] v fun y v'=>v'.ownsRow v.heap.size 9 1 y (iK s c (s.size+1)).length ((iK s c (s.size+1)).map sV)/\Kw v v':=
 aW (R:=fun y v'=>v'.ownsRow v.heap.size 9 1 y (iK s c (s.size+1)).length ((iK s c (s.size+1)).map sV)/\Kw v v') (by decide) fun T=>(aaR s c (tp v T) hs).mono fun e w' ⟨y,h1,h2,Y⟩=>⟨y,h1,h2,fun a K=>Y.block a K⟩
def SA(x:ByteArray):Prop:=x.size<=100000000/\(oh x).length=9/\0<=kt ((oh x).getD 1 nS)/\0<=kt ((oh x).getD 3 nS)
section
variable{Q:QT}{R:ae->af->Prop}{v0:af}{s:ByteArray}{L:List ByteArray}{g cap N:Nat}{cur:Array ae}
theorem ade(hg:v0.heap[g]?=some (.cells cur 9))(M:∀j,j<N->cur[j]?=some (.string (L.getD j nS)))(hN:N<=100000001)(S:∀j,j+2<N->SA (L.getD (j+1) nS))
  (kk:∀u l v,Kw v0 v->v.ownsRow v0.heap.size 42 9 l (N-2) (wu L (N-2))->GW false Q R 25 [.code (cp [2,2,2,2,2,2] kG)] (qU u s l (.slice (some ⟨g,0,none⟩) N cap) N (N-1:Nat)) v):
  ∀m j,j+m+2=N->∀u l v,Kw v0 v->v.ownsRow v0.heap.size 42 9 l j (wu L j)->GW false Q R 25 (.code rL:: .inLoop rL::oV) (qU u s l (.slice (some ⟨g,0,none⟩) N cap) N (j+1:Nat)) v:=by
 have Y:∃F,PR.funcs[25]?=some F:=⟨_,cg⟩;intro m;induction m with
 |zero=>
  intro j b u l v K D;obtain rfl:N=j+2:=by omega
  refine GW.run 3 (k':=.inRegion (opsOf (cp [1,1] rL)) [0,1,2,3]:: .code (cp [1,2] rL):: .code (cp [2] rL):: .inLoop rL::oV) ?_;refine ah Y [0,1,2,3] ?_;refine GW.run 1 (k':=.code (.cond (.tmp 41) .skip (.exit 0)):: .code (cp [2] rL):: .inLoop rL::oV) ?_;refine bg Y (t:=decide (aD.wrap (((j+1:Nat):Int)+1)<((j+2:Nat):Int))) trivial (by kernel_rfl) ?_;rw[Di (by unfold aB;omega),show decide (((j+1+1:Nat):Int)<((j+2:Nat):Int))=false from decide_eq_false (by omega)];refine GW.run 1 (k':=[.code (cp [2,2,2,2,2,2] kG)]) ?_;exact aM (fun u=>qU u s l (.slice (some ⟨g,0,none⟩) (j+2) cap) (j+2:Nat) (j+1:Nat)) (by kernel_rfl) fun u'=>kk u' l v K D
 |succ m h=>
  intro j b u l v K D;obtain⟨d,z,z1,z3⟩:=S j (by omega);refine GW.run 3 (k':=.inRegion (opsOf (cp [1,1] rL)) [0,1,2,3]:: .code (cp [1,2] rL):: .code (cp [2] rL):: .inLoop rL::oV) ?_;refine ah Y [0,1,2,3] ?_;refine GW.run 1 (k':=.code (.cond (.tmp 41) .skip (.exit 0)):: .code (cp [2] rL):: .inLoop rL::oV) ?_;refine bg Y (t:=decide (aD.wrap (((j+1:Nat):Int)+1)<(N:Int))) trivial (by kernel_rfl) ?_;rw[Di (by unfold aB;omega),show decide (((j+1+1:Nat):Int)<(N:Int))=true from decide_eq_true (by omega)];refine aM (fun u=>qU u s l (.slice (some ⟨g,0,none⟩) N cap) N (j+1:Nat)) (by kernel_rfl) fun u1=>?_;refine GW.run 5 (k':=.inRegion (opsOf (cp [2,1,1,1] rL)) [0,1,2,3,4,5]:: .code (cp [2,1,1,2] rL):: .inBlock 1:: .code (cp [2,2] rL):: .inLoop rL::oV) ?_;refine ah Y [0,1] ?_;refine GW.ix Y (t:=65) (B:=g) (off:=0) (n:=N) (cap:=cap) (j:=j+1) (by omega) ai8 ahf ?_;refine bA Y (mq (0+(j+1) *1) r8 (K.at hg) (by rw[show 0+(j+1) *1=j+1 by omega];exact M _ (by omega))) ?_;refine GW.call Y (QQ (c:=9) d) ?_;rintro y v1 ⟨A,f⟩;obtain⟨E,I,q,rfl,r,O,H⟩:=OK A (by show 1<=(oh _).length;omega);change∀i,i<(oh (L.getD (j+1) nS)).length->_ at H;rw[z]at H;rw[show(iK (L.getD (j+1) nS) 9 ((L.getD (j+1) nS).size+1)).length=9 from z];refine ah Y [5] ?_;refine GW.run 4 (k':=.inRegion (opsOf (cp [2,1,1,2,1,1] rL)) [0,1,2]:: .code (cp [2,1,1,2,1,2] rL):: .code (cp [2,1,1,2,2] rL):: .inBlock 1:: .code (cp [2,2] rL):: .inLoop rL::oV) ?_;refine ah Y [0,1,2] ?_;refine GW.run 1 (k':=.code (.cond (.tmp 51) (cp [2,1,1,2,1,2,1] rL) .skip):: .code (cp [2,1,1,2,2] rL):: .inBlock 1:: .code (cp [2,2] rL):: .inLoop rL::oV) ?_;refine bg Y (t:=false) trivial (by kernel_rfl) ?_;refine GW.run 2 (k':=.code (.region 12 tU true):: .code (cp [2,1,1,2,2,2] rL):: .inBlock 1:: .code (cp [2,2] rL):: .inLoop rL::oV) ?_;refine aM (fun u=>sL u s l (.slice (some ⟨g,0,none⟩) N cap) (.slice (some ⟨E,0,none⟩) 9 I) N (j+1:Nat) E v1.heap.size (fun k=>(oh (L.getD (j+1) nS)).getD k nS) (fun k=>kt ((oh (L.getD (j+1) nS)).getD k nS)) false) (by kernel_rfl) fun u2=>?_;have V:∀k,((oh (L.getD (j+1) nS)).getD k nS).size<=100000000:=fun k=>by
   rw[ai];cases e:(oh (L.getD (j+1) nS))[k]? with
   |none=>exact bp _
   |some x=>exact aJ (Cr _ 9 _ x (bC e)) d
  refine adb O H rfl rfl (V 1) (V 3) rfl fun v2 K2 J=>?_;refine GW.run 3 (k':=.code (cp [2,1,1,2,2,2,1,1] rL):: .code (cp [2,1,1,2,2,2,1,2] rL):: .code (cp [2,1,1,2,2,2,2] rL):: .inBlock 1:: .code (cp [2,2] rL):: .inLoop rL::oV) ?_;refine bF Y (by kernel_rfl) (R1:=fun a' v'=>(L3 s l (.slice (some ⟨g,0,none⟩) N cap) (.slice (some ⟨E,0,none⟩) 9 I) N (j+1:Nat) v1.heap.size a'/\a'.getD 89 undef=.bool false)/\v'.heap=v2.heap) (by kernel_rfl) (fun T=>ahc (w:=tp v2 T) J z1 z3) ?_;rintro a3 v3 ⟨⟨⟨p,_,o⟩,X⟩,P⟩;refine GW.run 0 (k':=.code (.cond (.tmp 89) (cp [2,1,1,2,2,2,1,2,1] rL) .skip):: .code (cp [2,1,1,2,2,2,2] rL):: .inBlock 1:: .code (cp [2,2] rL):: .inLoop rL::oV) ?_;refine bg Y (t:=false) trivial X ?_;refine GW.run 1 (k':=.code (cp [2,1,1,2,2,2,2] rL):: .inBlock 1:: .code (cp [2,2] rL):: .inLoop rL::oV) ?_;rw[p];have K3:Kw v v3:=(f.trans K2).trans fun a G=>by rw[P]
  have C:=K.trans K3;refine bF Y (by kernel_rfl) (R1:=fun a' v'=>∃l',(a'=qU (fun j=>a'.getD j undef) s l' (.slice (some ⟨g,0,none⟩) N cap) N (j+1:Nat))/\v'.ownsRow v0.heap.size 42 9 l' (j+1) (wu L j++(mX (fun k=>(oh (L.getD (j+1) nS)).getD k nS) (fun k=>kt ((oh (L.getD (j+1) nS)).getD k nS))).toList)/\∀c,c<v0.heap.size->v'.heap[c]?=v3.heap[c]?) (by kernel_rfl) (fun T=>ahe (w:=tp v3 T) o (by show v3.heap[_]?=_;rw[P];exact J) (AH D K3) C.size (by omega)) ?_;rintro a4 v4 ⟨l',Z,U,W⟩;rw[Z];refine GW.run 2 (k':=.inRegion (opsOf (cp [2,2] rL)) [0,1,2]:: .inLoop rL::oV) ?_;refine ah Y [0,1,2] ?_;refine GW.run 2 (k':=.code rL:: .inLoop rL::oV) ?_;refine aM (fun u=>qU u s l' (.slice (some ⟨g,0,none⟩) N cap) N (aD.wrap (((j+1:Nat):Int)+1))) (by kernel_rfl) fun u5=>?_;rw[Di (by unfold aB;omega)];exact h (j+1) (by omega) u5 l' v4 (fun a G=>(W a G).trans (C a G)) U
end
def zG(u:Nat->ae)(s:ByteArray)(I:ae)(n:Int):Array Value:=#[.string s,u 1,u 2,u 3,.slice none 0 0,I,ii n,u 7,u 8,u 9,u 10,u 11,u 12,u 13,u 14,u 15,u 16,u 17,u 18,u 19,u 20,u 21,u 22,u 23,u 24,u 25,u 26,u 27,u 28,u 29,u 30,u 31,u 32,u 33,u 34,u 35,u 36,u 37,u 38,u 39,u 40,u 41,u 42,u 43,u 44,u 45,u 46,u 47,u 48,u 49,u 50,u 51,u 52,u 53,u 54,u 55,u 56,u 57,u 58,u 59,u 60,u 61,u 62,u 63,u 64,u 65,u 66,u 67,u 68,u 69,u 70,u 71,u 72,u 73,u 74,u 75,u 76,u 77,u 78,u 79,u 80,u 81,u 82,u 83,u 84,u 85,u 86,u 87,u 88,u 89,u 90,u 91,u 92,u 93,u 94]
section
variable{Q:QT}{v:af}{s:ByteArray}{L:List ByteArray}{u:Nat->ae}{g cap N:Nat}{cur:Array ae}{w:af}
theorem ai9{l0:ByteArray}(U:w.heap[g]?=some (.cells cur 9))(c0:cur[0]?=some (.string l0))(c1:cur[N-1]?=some (.string nS))(C:2<=l0.size)(B:l0.size<=100000000)(Y:at8 l0 0=64)(hn:2<=N)(F:N<=100000001):
  (cp [2,2,2,2,1,1] kG).wp PR (fun e a' v'=>e=.normal/\a'.defers=[]/\(a'.tmps=zG (fun j=>a'.tmps.getD j undef) s (.slice (some ⟨g,0,none⟩) N cap) N/\a'.tmps.getD 37 undef=.bool false)/\v'.heap=w.heap) ⟨zG u s (.slice (some ⟨g,0,none⟩) N cap) N,[]⟩ w:=by
 have R:w.cell? ⟨g,0,none⟩=some (.string l0):=by rw[cW w _ 0 _ _ _ U];exact c0
 have d1:w.cell? ⟨g,N-1,none⟩=some (.string nS):=by rw[cW w _ _ _ _ _ U];exact c1
 have K:=jJ l0 0 (by omega);rw[Y]at K;have I:aD.wrap ((N:Int)-1)=((N-1:Nat):Int):=by rw[bQ _ (by omega)];omega
 have A:((N-1:Nat):Int)<(N:Int):=by omega
 have J:((N:Int)<2)=False:=by simp;omega
 have L:((l0.size:Int)<2)=False:=by simp;omega
 have M:(0:Int)<(l0.size:Int):=by omega
 clear U c0 c1 Y;obtain⟨Q,H⟩:∃Q:Exit->Act->af->Prop,Q=(fun e a' v'=>e=.normal/\a'.defers=[]/\(a'.tmps=zG (fun j=>a'.tmps.getD j undef) s (.slice (some ⟨g,0,none⟩) N cap) N/\a'.tmps.getD 37 undef=.bool false)/\v'.heap=w.heap):=⟨_,rfl⟩;rw[<-H];have D:=laid H;clear H;unfold kG bM zG;simp only[a_,cp];go_wp2
 rw[D.out];exact⟨rfl,rfl,⟨by kernel_rfl,by kernel_rfl⟩,rfl⟩
theorem afc(hs:s.size<=100000000)(hL:iK s 10 (s.size+1)=L)(hn:2<=L.length)(U:L.getD (L.length-1) nS=nS)(S:2<=(L.getD 0 nS).size)(M:at8 (L.getD 0 nS) 0=64)(B:∀j,j+2<L.length->SA (L.getD (j+1) nS)):
  iF Q 25 #[.string s] v fun y v'=>∃l,y=.tuple #[l,.bool true]/\v'.ownsRow v.heap.size 42 9 l (L.length-2) (wu L (L.length-2))/\Kw v v':=by
 have Y:∃F,PR.funcs[25]?=some F:=⟨_,cg⟩;have H:L.length<=100000001:=by rw[<-hL];exact aJ (Hk s 10 _) (by omega)
 have J:(L.getD 0 nS).size<=100000000:=by
  rw[ai];cases e:L[0]? with
  |none=>exact bp _
  |some x=>exact aJ (Cr s 10 _ x (hL▸bC e)) hs
 refine iF.of (n:=95) cg ag_ (by kernel_rfl) ?_;refine GW.run 2 (k':=[.inRegion (opsOf (cp [1] kG)) [0,1],.code (cp [2] kG)]) ?_;refine ah Y [0,1] ?_;refine GW.run 3 (k':=[.inRegion (opsOf (cp [2,1] kG)) [0],.code (cp [2,2] kG)]) ?_;refine ah Y [0] ?_;refine GW.run 3 (k':=[.inRegion (opsOf (cp [2,2,1] kG)) [0,1,2],.code (cp [2,2,2] kG)]) ?_;refine ah Y [0] ?_;refine GW.call Y (QQ (c:=10) hs) ?_;rw[hL];rintro y v1 ⟨D,N⟩;obtain⟨g,cap,O,rfl,X,I,K⟩:=OK D (by omega);refine ah Y [2] ?_;refine GW.run 3 (k':=[.inRegion (opsOf (cp [2,2,2,1] kG)) [0,1,2],.code (cp [2,2,2,2] kG)]) ?_;refine ah Y [0,1,2] ?_;refine GW.run 3 (k':=[.code (cp [2,2,2,2,1,1] kG),.code (cp [2,2,2,2,1,2] kG),.code (cp [2,2,2,2,2] kG)]) ?_;refine aM (fun u=>zG u s (.slice (some ⟨g,0,none⟩) L.length cap) L.length) (by kernel_rfl) fun u1=>?_;refine bF Y (by kernel_rfl) (R1:=fun a' v'=>(a'=zG (fun j=>a'.getD j undef) s (.slice (some ⟨g,0,none⟩) L.length cap) L.length/\a'.getD 37 undef=.bool false)/\v'.heap=v1.heap) (by kernel_rfl) (fun T=>ai9 (w:=tp v1 T) I (K 0 (by omega)) (by rw[K _ (by omega),U]) S J M hn H) ?_;rintro a2 v2 ⟨⟨P,C⟩,A⟩;refine GW.run 0 (k':=[.code (.cond (.tmp 37) (cp [2,2,2,2,1,2,1] kG) .skip),.code (cp [2,2,2,2,2] kG)]) ?_;refine bg Y (t:=false) trivial C ?_;refine GW.run 4 (k':=[.inRegion (opsOf (cp [2,2,2,2,2,1,1] kG)) [0],.code (cp [2,2,2,2,2,1,2] kG),.code (cp [2,2,2,2,2,2] kG)]) ?_;rw[P];refine ah Y [0] ?_;refine GW.run 3 (k':=.code rL:: .inLoop rL::oV) ?_;refine aM (fun u=>qU u s (.slice none 0 0) (.slice (some ⟨g,0,none⟩) L.length cap) L.length ((0+1:Nat):Int)) (by kernel_rfl) fun u3=>?_;have K2:Kw v v2:=N.trans fun a V=>by rw[A]
 refine ade (v0:=v2) (by rw[A];exact I) K H B (fun u l v3 K3 R=>?_) (L.length-2) 0 (by omega) u3 _ v2 (.refl v2) ⟨rfl,.inl ⟨rfl,rfl⟩⟩;refine GW.run 2 (k':=[.inRegion (opsOf (cp [2,2,2,2,2,2,1] kG)) [0,1,2],.code .ret]) ?_;refine ah Y [0,1,2] ?_;refine GW.run 1 (k':=[.code .ret]) ?_;exact GW.Tu Y 2 3 ⟨l,by kernel_rfl,Co R K2.size,K2.trans K3⟩
end
end Ph
namespace Ph
open Conc ConcM Ren RowKit
theorem GZ{W:af}{n:String}{k:IntKind}{zs:List Int}{g m:Nat}{t:aU}(h:Lib.VarReads PR W n (bR k zs))(C:Program.globalNamed PR n=some g)(M:((PR).globals[g]?).map (·.type)=some t)(O:PR.underlying t=some (.array m e))(F:PR.underlying e=some (.int k))(U:PR.cellsOf e=1)(B:PR.cellsOf t=m):
  ∃(c:Array ae) (t':aU) (fz:Nat×Nat),W.heap[g]?=some (.cells c t' fz)/\∀x∈c,∃k n,x=bP k n:=by
 obtain⟨I,t1,cs,fuel,p,h1,h2,Y,D⟩:=h;obtain rfl:=Option.some.inj (C.symm.trans h1);obtain rfl:=Option.some.inj (M.symm.trans h2);have H:=Lib.cells_of_tab O F U B D;unfold World.var? at Y;rw[C]at Y;simp only[Option.bind_some]at Y;split at Y
 ·rename_i c t' fz R;cases Y;refine⟨_,t',fz,R,fun x hx=>?_⟩;have K:x∈cs.toList:=by simpa using hx
  rw[H]at K;obtain⟨z,_,rfl⟩:=aN.1 K;exact⟨_,_,rfl⟩
 ·cases Y
def Tv:DataW Unit->List Int
 |.agg l=>l.map fun|.lit (.int _ z)=>z|_=>0
 |_=>[]
theorem MJ{W:af}(h:laidMetH ak uH W):ln W:=by
 have e:uH=[("math/bits.deBruijn32tab",(bR .u8 (Tv Rows.laid_math_bits_deBruijn32tab))),("math/bits.deBruijn64tab",(bR .u8 (Tv Rows.laid_math_bits_deBruijn64tab))),("internal/strconv.uint64pow10",(bR .u64 Lib.pow10Tab))]:=by kernel_rfl
 rw[e]at h;have r0:=GZ (cC h (.tail _ (.tail _ (.head _)))) (g:=0) (by kernel_rfl) (by kernel_rfl) Tryz.underlying202 Tryz.underlying176 (by kernel_rfl) (by kernel_rfl);have r1:=GZ (cC h (.head _)) (g:=2) (by kernel_rfl) (by kernel_rfl) Tryz.underlying245 dD (by kernel_rfl) (by kernel_rfl);have r2:=GZ (cC h (.tail _ (.head _))) (g:=3) (by kernel_rfl) (by kernel_rfl) Tryz.underlying246 dD (by kernel_rfl) (by kernel_rfl);intro g Y;rcases Y with rfl|rfl|rfl
 ·omega
 ·omega
 ·omega
theorem Yb:PR.globals.size<=4:=of_decide_eq_true (by simp)
theorem Yc{W:af}(h:ln W):PR.globals.size<=W.heap.size:=by
 obtain⟨_,_,_,Y,_⟩:=h 3 (.inr (.inr rfl));have:=jI Y;have:=Yb;omega
theorem VM{H:Type}{enc:aU×ae->H}{a:Assume}{C:Checked}{os:Os}{f:au}{fn:Func}{s:ChangeSpec}{F:Stop.Interp}{Y:List PathCond}{apart fresh handsOn:Bool}{X:af->Array ae->Prop}
  (hX:∀(w w':af) (args:Array ae),w.heap=w'.heap->X w args->X w' args)
  (own:ownKnob C.prog.godebug=none)(B:os.Started)(T:C.prog.funcs[f]?=some fn)
  (O:∃(w:af) (tape:Tape) (i:Input),w.os=os/\(w.forCall tape i).Shaped C.prog/\i.vars=[]/\Input.okWide C.prog (w.forCall tape i) .any w.heap.size f i/\
   ((s.pre enc C.prog fn Y apart (w.forCall tape i).memory i.args/\X (w.forCall tape i).memory i.args)/\sizedMet enc C.prog fn (cS s) apart (w.forCall tape i).memory i.args)/\a.holds C.prog (lone (Frame.enter C.prog f i.args .normal) [] (w.forCall tape i)))
  (runs:∀(W:af) (base:Nat) (args:Array ae) (S gs:List (DataW H)) (U:List MemPlace),
   (∀(j:Nat) t v,fn.params[j]?=some t->args[j]?=some v->ck C.prog W .any base t v)->
   DataW.Whole enc C.prog fn.params.toList s.vars apart W args.toList S gs U->
   Y.all (PathCond.test C.prog ⟨fn.params.toList,S,s.plain.varTypes C.prog,gs⟩)=true->X W args->
   ∃M last o w' t',runNT C.prog (M+1) (solo (G (Frame.enter C.prog f args .normal) []) W) #[]=(.ended o w',t')/\runN C.prog M (solo (G (Frame.enter C.prog f args .normal) []) W)=.next last/\
    step C.prog last=.ended o w'/\Conc.Good C.prog (fun v y=>s.post enc C.prog fn apart fresh handsOn false W args v {y with os:=W.os}/\OsLater W.os y.os) last o w' t'):
  ReturnsInLeavingWide a C os f .any (fun w args=>(s.pre enc C.prog fn Y apart w args/\X w args)/\sizedMet enc C.prog fn (cS s) apart w args) ((cS s).postWith enc C.prog fn F (outsideKept [.timePasses]) apart fresh handsOn):=by
 refine returnsInLeavingWide_of_good own B O ?_;intro w tape i _ _ _ A D I;obtain⟨_,_,_,iO,K,_,_,_,_,R⟩:=A;have e:=Option.some.inj (K.symm.trans T);subst e;obtain⟨⟨⟨S,gs,U,hw,P⟩,hx⟩,V⟩:=D;have J:=DataW.Whole.of_heap (w':=w.forCall tape i) (by rfl) hw;obtain⟨M,last,o,w',t',h1,h2,L,N⟩:=runs _ _ _ S gs _ R J P (hX _ _ _ (by rfl) hx);obtain⟨v,e,hp,r1,r2,r3,Q⟩:=N;exact⟨M,last,o,w',t',h1,h2,L,v,e,postWith_blind (postWith_of_post hp.1 hp.2),r1,r2,r3,Q⟩
theorem WJ{W W':af}{d:Nat}(h:g_ (fun _=>False) W W'):Below W.heap.size W {W'.at d with os:=W.os}/\OsLater W.os (W'.at d).os:=
 ⟨⟨rfl,h.tape,h.output,h.grow,fun k hk=>h.old k hk (fun _ _ y=>y)⟩,h.env⟩
end Ph
section
open ChangeShapes WideShapes ChangeAt RowKit Deep
theorem CM:ak.cellsOf 3=1:=by kernel_rfl
theorem AK{n:Int}(h:(Lit.int .i64 n).wf=true):nA n:=by
 simp only[Lit.wf,bE,decide_eq_true_eq]at h;exact h
section
variable{H:Type}{enc:aU×ae->H}{W:af}{base b0:Nat}{I:Nat->Bool}{held:Bool}{d:DataW H}{p:List MemPlace}{v:ae}{r:Reach}
theorem QR(C:ck ak W r b0 25 v)(h:cy enc ak W base I held 25 v d p):∃a len cap zs,v=.slice a len cap/\uC W a len zs:=by
 obtain⟨a,len,cap,rfl⟩:=okWide_slice dB C;obtain⟨fuel,U⟩:=h;refine⟨a,len,cap,?_⟩;rcases open_ints dB bN CM U with⟨Y,_⟩|⟨ad,R,H,zs,Y,_,L,M,F,_,D,hw⟩
 ·simp[bO]at Y;obtain⟨rfl,rfl,rfl⟩:=Y;exact⟨fun _=>0,rfl,.inl rfl⟩
 ·simp[bO]at Y;obtain⟨rfl,rfl,rfl⟩:=Y;refine⟨fun i=>zs.getD i 0,rfl,?_⟩;by_cases A:len=0
  ·exact .inl A
  have B:len<=zs.length:=by rw[F];split<;>omega
  obtain⟨b,off,sp⟩:=ad;have sD:sp=none:=by
   have h2:=World.cell?_spot (D 0 (by omega));simpa[Addr.add]using h2
  subst sD;have K:∀j,(⟨b,off,none⟩:Addr).add j=⟨b,off+j,none⟩:=by
   intro j;unfold Addr.add;split<;>simp_all
  refine .inr ⟨b,off,rfl,by omega,fun i J=>⟨by rw[<-K];exact D i (by omega),AK (hw _ ?_)⟩⟩;simp only[ai,aH (show i<zs.length by omega),a_];exact bj _
theorem ahg(Y:ck ak W r b0 3 v)(h:cy enc ak W base I held 3 v d p):∃n,v=.int .i64 n/\nA n:=by
 obtain⟨n,rfl,_,_,hw⟩:=open_int bN Y h;exact⟨n,rfl,AK hw⟩
theorem abd:ak.cellsOf 28=3:=by kernel_rfl
theorem afd(B:ck ak W r b0 28 v)(h:cy enc ak W base I held 28 v d p):∃x y z,v=.agg #[.int .i64 x,.int .i64 y,.int .i64 z]/\nA x/\nA y/\nA z:=by
 obtain⟨cs,rfl,_⟩:=okWide_struct dC B;obtain⟨fuel,U⟩:=h;obtain⟨xs,m,_,_,K,H,Y⟩:=DataW.trod_struct dC U;rw[abd]at K;obtain⟨cs⟩:=cs;simp only[bO]at K Y
 match cs,K with
 |[c0,c1,c2],_=>
  have hx:xs.length=3:=by simpa using H
  match xs,hx with
  |[x0,C,F],_=>
   have f0:cz enc ak W base I held m 3 [c0]=some x0:=by simpa[CM]using Y 0 _ rfl
   have f1:cz enc ak W base I held m 3 [c1]=some C:=by simpa[CM]using Y 1 _ rfl
   have f2:cz enc ak W base I held m 3 [c2]=some F:=by simpa[CM]using Y 2 _ rfl
   obtain⟨a0,D,_,z0⟩:=cA bN f0;obtain⟨a1,R,_,J⟩:=cA bN f1;obtain⟨a2,A,_,z2⟩:=cA bN f2;simp at D R A;subst D R A;exact⟨a0,a1,a2,rfl,AK z0,AK J,AK z2⟩
end
end
section
open RowKit
theorem P4{b:List UInt8}(hx:∀c∈x,gS c)(h1:1<=x.length)(h2:x.length<=200)(hb:∀c∈b,gS c)(U:1<=b.length)(B:b.length<=30):mS (str (jo x)) (str (jl b))=0/\iR (str (jl b)) 5 0=[(⟨#[97]⟩,str b,str (iy b.length))]:=by
 obtain⟨r1,r2⟩:=acD hb U B [] [];simp only[cO,cD,bV,cR]at r1 r2;have K:(jl b).length=2 *b.length+7:=by simp[jl,nL];omega
 have hs:(str (jl b)).size=(jl b).length:=gR _;have H:(str (jo x)).size=x.length+4:=by rw[gR];simp[jo]
 have Y:(kL (str (jl b)) 5 0).2=false:=by
  rw[kL,if_neg (by omega),kz (by rw[r1]),r1];simp only;rw[kL,if_pos (by omega)]
 refine⟨?_,?_⟩
 ·rw[mS,if_neg (by omega),j9,if_neg (by rw[acC hx h1 h2];simp),if_neg (by rw[Y];simp)];rfl
 ·rw[iR,if_neg (by omega),r2,r1,if_neg (by simp)];simp only;rw[iR,if_pos (by omega)]
theorem IG{c:Int}{n:Nat}(h:0<n)(h2:n<=1000):1<=Ph.jU c n/\Ph.jU c n<=n:=by
 have:=Ac c h;rw[Ph.ag4 h h2];omega
theorem P5{b:List UInt8}{n:Nat}{q t w:Int}(hx:∀c∈x,gS c)(h1:1<=x.length)(h2:x.length<=200)(hb:∀c∈b,gS c)(U:1<=b.length)(B:b.length<=30)(hn:n<=6):m_ (str (jo x)) (str (jl b)) (n:Nat) (Ph.jU q 8) (Ph.jU t 200) (Ph.jU w 8)=if n<b.length then 0 else 4:=by
 obtain⟨K,H⟩:=P4 hx h1 h2 hb U B;have a1:=IG (c:=q) (show 0<8 by decide) (by decide);have a2:=IG (c:=t) (show 0<200 by decide) (by decide);have a3:=IG (c:=w) (show 0<8 by decide) (by decide);have hr:vZ (n:Nat) 30 (Ph.jU q 8) (Ph.jU t 200)=true:=by
  unfold vZ;rw[decide_eq_true_eq];omega
 rw[m_,if_neg (by rw[K];simp),if_neg (by rw[hr];simp;omega),H,fewer];have Y:(str b).size=b.length:=gR b;by_cases h:n<b.length
 ·rw[if_pos h,if_neg];simp[Y,h]
 ·rw[if_neg h,if_pos];simp[Y,h]
theorem adf{b:List UInt8}{n:Nat}{q t w:Int}(hx:∀c∈x,gS c)(h1:1<=x.length)(h2:x.length<=200)(hb:∀c∈b,gS c)(Y:1<=b.length)(U:b.length<=30)(hn:n<=6):qa (str (jo x)) (str (jl b)) (n:Nat) (Ph.jU q 8) (Ph.jU t 200) (Ph.jU w 8)=if n<b.length then str (o9 (str (jo x)) (str (jl b)) n)else⟨#[]⟩:=by
 rw[qa,P5 hx h1 h2 hb Y U hn];by_cases h:n<b.length
 ·rw[if_pos h,if_pos rfl,if_pos h];rfl
 ·rw[if_neg h,if_neg (by decide),if_neg h]
abbrev JH(a:List UInt8):mn:=(⟨#[97]⟩,str a,str (iy a.length))
section
variable{x a b:List UInt8}(hx:∀c∈x,gS c)(h1:1<=x.length)(h2:x.length<=200){n:Nat}
include hx h1 h2
theorem SB(Y:∀c∈a,gS c)(a1:1<=a.length)(a2:a.length<=30):o9 (str (jo x)) (str (jl a)) n=q_ ⟨#[114]⟩ (str x)++pK ⟨#[114]⟩ (str x) n (JH a):=by
 rw[o9,XV hx h1 h2,Zc hx h1 h2,(P4 hx h1 h2 Y a1 a2).2];rfl
end
theorem adg(x:List UInt8)(h:x.length<=200):(q_ ⟨#[114]⟩ (str x)).length<=100:=by
 have hd:=mN (str x).size (by rw[gR];omega);have Y:(⟨#[114]⟩:ByteArray).data.toList.length=1:=rfl;simp only[q_,aY,bH,bV]at Y⊢;omega
theorem afe{a:List UInt8}{n:Nat}(hx:x.length<=200)(Y:a.length<=30)(hn:n<=6):(pK ⟨#[114]⟩ (str x) n (JH a)).length<=15000000:=
 F0 _ _ _ _ (by decide) (by rw[gR];omega) ⟨by show(⟨#[97]⟩:ByteArray).size<=10;decide,by show(str a).size<=30;rw[gR];exact Y,by show(str _).size<=30;rw[gR,nL];exact Y⟩ (by omega)
def NT(l:List UInt8):Prop:=∀c∈l,c≠9/\c≠10
theorem NT.app{l m:List UInt8}(h:NT l)(k:NT m):NT (l++m):=fun c Y=>(aA.1 Y).elim (h c) (k c)
theorem NT.one{c:UInt8}(h:c≠9/\c≠10):NT [c]:=fun d hd=>by rw[bm.1 hd];exact h
theorem xd{d:Nat}(h:d<=9):(dg d).toNat=48+d:=by
 unfold dg;rw[dE];omega
theorem NT.dg{d:Nat}(h:d<=9):NT [dg d]:=.one ⟨fun e=>by have:=congrArg UInt8.toNat e;rw[xd h]at this;simp at this;omega,fun e=>by have:=congrArg UInt8.toNat e;rw[xd h]at this;simp at this;omega⟩
theorem NT.dec:∀n:Nat,NT (gJ n):=by
 intro n;induction n using bJ with
 |ind n Y=>
  by_cases h:n<=9
  ·rw[ql n h];exact .dg h
  ·rw[rQ n h];exact(Y (n/10) (by omega)).app (.dg (by omega))
theorem NT.at{l:List UInt8}(h:NT l)(i:Nat):NT [at8 (str l) i]:=by
 rw[ny,ai];cases e:l[i]? with
 |none=>exact .one (by decide)
 |some c=>exact .one (h c (bC e))
theorem NT.runs{l:List UInt8}(h:NT l):NT (nO (str l)):=by
 have:∀i,NT (iG (str l) i).1:=by
  intro i;induction i with
  |zero=>exact fun c K=>by simp[iG]at K
  |succ i Y=>
   rw[iG];split
   ·exact(Y.app (.dec _)).app (h.at i)
   ·exact Y
 exact this _
theorem NT.dif{p s:ByteArray}{t:List UInt8}(h:NT t):NT (jL p (str t) s):=by
 have:∀i,NT (gF p (str t) s i).o:=by
  intro i;induction i with
  |zero=>exact fun c K=>by simp[gF]at K
  |succ i Y=>
   rw[gF,mc];split
   ·split
    ·exact Y
    ·exact(Y.app (.dec _)).app (h.at _)
   ·split
    ·exact Y
    ·split
     ·exact((Y.app (.dec _)).app (.one (by decide))).app (h.at _)
     ·exact Y.app (h.at _)
 exact(this _).app (.dec _)
theorem NT.g{l:List UInt8}(h:∀c∈l,gS c):NT l:=fun c Y=>⟨by rintro rfl;exact absurd (h _ Y).1 (by decide),by rintro rfl;exact absurd (h _ Y).1 (by decide)⟩
theorem NT.lay(p t:ByteArray):NT (gO p t):=by
 have:∀f i j,NT (iC p t f i j):=by
  intro f;induction f with
  |zero=>exact fun i j c Y=>by simp[iC]at Y
  |succ f K=>
   intro i j;rw[iC];split
   ·exact fun c Y=>by simp at Y
   ·split
    ·exact(K _ _).app (.one (by decide))
    ·split
     ·exact(K _ _).app (.one (by decide))
     ·exact(K _ _).app (.one (by decide))
 exact this _ _ _
theorem NT.mks{n:Nat}(h:n<=60):NT (iy n):=fun c Y=>by
 obtain⟨i,K,rfl⟩:=aN.1 Y;have:i<n:=by simpa using K
 have e:(aV (33+i)).toNat=33+i:=by rw[dE];omega
 exact⟨fun h=>by rw[h]at e;simp at e;omega,fun h=>by rw[h]at e;simp at e;omega⟩
theorem adh(l:List UInt8):jP (str l)=l.reverse:=by
 have:=Hg (str l) (str l).size (aj _);rw[aZ,List.drop_zero]at this;exact this
abbrev F9:=List (List UInt8)
def kj(F:F9):List UInt8:=jX 9 (F.take 8)++F.getD 8 []
def vb(xn:List UInt8)(xb:ByteArray)(rn p mk:List UInt8)(n:Nat)(h:Nat×Nat×Nat):F9:=
 [rn,gJ n,xn,gJ (h.1+1),nO (str (gO (str p) (xb.extract h.1 h.2.1))),gJ h.2.2,jL (str p) (xb.extract h.1 h.2.1) (str (gO (str p) (xb.extract h.1 h.2.1))),p,mk]
theorem abe(xn:List UInt8)(xb:ByteArray)(rn p mk:List UInt8)(n:Nat)(h:Nat×Nat×Nat):vX (str xn) xb (str rn) (str p) (str mk) n h=kj (vb xn xb rn p mk n h)++[10]:=by
 have e:∀l:List UInt8,(str l).data.toList=l:=fun _=>rfl;simp[vX,y8,kj,vb,jX,e]
theorem G0(c:UInt8):∀a b:List (List UInt8),jX c (a++b)=jX c a++jX c b
 |[],_=>rfl
 |x::a,b=>by rw[cE,jX,G0 c a b,jX,bh];rfl
def pa(xn:List UInt8)(xb:ByteArray)(rn p mk:List UInt8)(add:Nat)(more:Bool)(L:List (Nat×Nat×Nat)):List F9:=(bI L.length).map fun i=>vb xn xb rn p mk (pS add more i) (L.getD i (0,0,0))
theorem QS(xn:List UInt8)(xb:ByteArray)(rn p mk:List UInt8)(add k:Nat)(more:Bool):rZ (str xn) xb (str rn) (str p) (str mk) add k more=jX 10 ((pa xn xb rn p mk add more (iE (str p) xb k)).map kj):=by
 have:∀(L:List (Nat×Nat×Nat)) i,p_ (str xn) xb (str rn) (str p) (str mk) add more L i=jX 10 (((bI i).map fun i=>vb xn xb rn p mk (pS add more i) (L.getD i (0,0,0))).map kj):=by
  intro L i;induction i with
  |zero=>rfl
  |succ i Y=>rw[p_,Y,abe,dx,cJ,cJ,G0];rfl
 exact this _ _
def yS(rn b mk:List UInt8):F9:=[rn,[52],[42],[48],[42],[45],[45],b,mk]
def DV(xn:List UInt8)(xb:ByteArray)(rn b mk:List UInt8)(k:Nat):List F9:=
 let p:=(iA (str b) 0).data.toList
 if iE (str b) xb k=[]/\iE (str p) xb k=[]then [yS rn b mk]
 else pa xn xb rn b mk 0 false (iE (str b) xb k)++pa xn xb rn p (jP (str mk)) 16 (decide (iE (str b) xb k≠ [])) (iE (str p) xb k)
theorem join_nil{c:UInt8}{L:List (List UInt8)}:jX c L=[]↔L=[]:=by
 cases L with
 |nil=>simp[jX]
 |cons x L=>simp[jX]
theorem OT{p:List UInt8}{add:Nat}{more:Bool}{L:List (Nat×Nat×Nat)}:(pa xn xb rn p mk add more L).map kj=[]↔L=[]:=by
 cases L<;>simp[pa,dx]
theorem ahh(xn:List UInt8)(xb:ByteArray)(rn b mk:List UInt8)(k:Nat):pK (str xn) xb k (str rn,str b,str mk)=jX 10 ((DV xn xb rn b mk k).map kj):=by
 have hp:iA (str b) 0=str (iA (str b) 0).data.toList:=rfl;have H:pT (str xn) xb k (str rn,str b,str mk)=jX 10 ((pa xn xb rn b mk 0 false (iE (str b) xb k)).map kj):=QS ..;have Y:pT (str xn) xb k (str rn,str b,str mk)=[]↔iE (str b) xb k=[]:=by rw[H,join_nil,OT]
 have D:rp (str xn) xb k (str rn,str b,str mk)=jX 10 ((pa xn xb rn (iA (str b) 0).data.toList (jP (str mk)) 16 (decide (iE (str b) xb k≠ [])) (iE (str (iA (str b) 0).data.toList) xb k)).map kj):=by
  rw[rp,show decide (pT (str xn) xb k (str rn,str b,str mk)≠ [])=decide (iE (str b) xb k≠ [])from decide_eq_decide.2 (not_congr Y)];exact QS ..
 have K:rp (str xn) xb k (str rn,str b,str mk)=[]↔iE (str (iA (str b) 0).data.toList) xb k=[]:=by rw[D,join_nil,OT]
 unfold pK DV;by_cases h:iE (str b) xb k=[]/\iE (str (iA (str b) 0).data.toList) xb k=[]
 ·rw[if_pos ⟨Y.2 h.1,K.2 h.2⟩,if_pos h,K.2 h.2];have e:∀l:List UInt8,(str l).data.toList=l:=fun _=>rfl;simp[w_,yS,kj,jX,e]
 ·rw[if_neg (fun y=>h ⟨Y.1 y.1,K.1 y.2⟩),if_neg h,cJ,G0,H,D]
def tA(b:List UInt8):List UInt8:=(b.map pb).reverse
theorem ai_:∀n:Fin 256,kO (aV n)=true->gb (aV n)=aV n->aV n=65\/aV n=67\/aV n=71\/aV n=84\/aV n=78:=by decide+kernel
theorem gS.cases{c:UInt8}(h:gS c):c=65\/c=67\/c=71\/c=84\/c=78:=by
 have:=ai_ ⟨c.toNat,c.toNat_lt⟩;simp only[UInt8.ofNat_toNat]at this;exact this h.1 h.2
theorem gS.pb{c:UInt8}(h:gS c):gS (pb c)/\Go.Proofs.YtdcjnhipenbcfaaGreatDoor.pb (Go.Proofs.YtdcjnhipenbcfaaGreatDoor.pb c)=c:=by
 rcases h.cases with rfl|rfl|rfl|rfl|rfl<;>exact⟨⟨by decide,by decide⟩,by decide⟩
theorem aff{b:List UInt8}(h:∀c∈b,gS c):∀c∈tA b,gS c:=fun c Y=>by
 obtain⟨d,hd,rfl⟩:=aN.1 (du.1 Y);exact(h d hd).pb.1
theorem adi(b:List UInt8):(tA b).length=b.length:=by simp[tA]
theorem RI{F:F9}(U:F.length=9)(Y:∀f∈F,NT f):oh (str (kj F))=F.map str:=by
 match F,U with
 |[f0,f1,f2,K,H,f5,f6,f7,f8],_=>
  have h:=Hm 9 f8 (fun e=>(Y f8 (by simp) _ e).1 rfl) [f0,f1,f2,K,H,f5,f6,f7] (fun x hx e=>(Y x (cL (i:=8) hx) _ e).1 rfl);exact h
theorem RJ(l m:List UInt8):∀i,i<=l.length->ni (str (l++m)) i=ni (str l) i/\nb (str (l++m)) i=nb (str l) i
 |0,_=>⟨rfl,rfl⟩
 |i+1,h=>by
  obtain⟨h1,h2⟩:=RJ l m i (by omega);have e:at8 (str (l++m)) i=at8 (str l) i:=by rw[ny,ny,ai,ai,aP (by omega)]
  exact⟨by rw[ni,h1,e];rfl,by rw[nb,h2,e];rfl⟩
theorem RP:∀n:Nat,ni (str (gJ n)) (gJ n).length=n/\nb (str (gJ n)) (gJ n).length=true:=by
 intro n;induction n using bJ with
 |ind n D=>
  have one:∀d (l:List UInt8),d<=9->at8 (str (l++[dg d])) l.length=dg d:=fun d l _=>by rw[ny,ai];simp
  by_cases h:n<=9
  ·rw[ql n h];have:=one n [] h;simp only[cO,bV]at this;simp[ni,nb,this,nH,xd h];omega
  ·obtain⟨h1,h2⟩:=D (n/10) (by omega);rw[rQ n h];obtain⟨Y,K⟩:=RJ (gJ (n/10)) [dg (n%10)] _ (aj _);have H:=one (n%10) (gJ (n/10)) (by omega);rw[aY,dq,ni,nb,Y,K,H,h1,h2];simp[nH,xd (show n%10<=9 by omega)];omega
theorem As{n:Nat}(h:n<=9999):kt (str (gJ n))=n:=by
 have Y:=mN n h;obtain⟨h1,h2⟩:=RP n;rw[kt,gR,if_pos ⟨Y.1,by omega,h2⟩,h1]
structure zH(F:F9):Prop where
 len:F.length=9
 nt:∀f∈F,NT f
 flag:∃n,n<=9999/\F.getD 1 []=gJ n
 pos:∃n,n<=9999/\F.getD 3 []=gJ n
theorem P6{F:F9}{i:Nat}:(F.map str).getD i nS=str (F.getD i []):=by
 rw[ai,ai,aI];cases F[i]?<;>rfl
theorem zH.line{F:F9}(h:zH F)(U:(kj F).length<=100000000):(str (kj F)).size<=100000000/\(oh (str (kj F))).length=9/\0<=kt ((oh (str (kj F))).getD 1 nS)/\0<=kt ((oh (str (kj F))).getD 3 nS):=by
 obtain⟨n,D,Y⟩:=h.flag;obtain⟨m,H,K⟩:=h.pos;rw[RI h.len h.nt,P6,P6,Y,K,As D,As H,bU,h.len,gR];exact⟨U,rfl,by omega,by omega⟩
theorem NT.line{F:F9}(h:∀f∈F,NT f):(10:UInt8)∉kj F:=by
 have:∀Y:List (List UInt8),(∀f∈Y,NT f)->(10:UInt8)∉jX 9 Y:=by
  intro Y;induction Y with
  |nil=>intro _ h;simp[jX]at h
  |cons x Y H=>
   intro h e;rw[jX,aA,bk]at e;rcases e with e|e|e
   ·exact(h x (by simp) _ e).2 rfl
   ·exact absurd e (by decide)
   ·exact H (fun f K=>h f (by simp[K])) e
 intro e;rcases aA.1 e with e|e
 ·exact this _ (fun f K=>h f (cL K)) e
 ·rw[ai]at e;cases e':F[8]? with
  |none=>rw[e']at e;simp at e
  |some f=>rw[e']at e;exact(h f (bC e') _ e).2 rfl
def pP:Option (List UInt8×Nat)->UInt8->Option (List UInt8×Nat)
 |none,_=>none
 |some (o,n),c=>if 48<=c.toNat/\c.toNat<=57/\n<100 then some (o,10 *n+(c.toNat-48))else if(c=77\/c=73\/c=68)/\0<n then some (o++aO n c,0)else none
def ox(l:List UInt8):Option (List UInt8×Nat):=l.foldl pP (some ([],0))
theorem ahi(o:List UInt8):∀n,n<=999->(gJ n).foldl pP (some (o,0))=some (o,n):=by
 intro n;induction n using bJ with
 |ind n Y=>
  intro K;by_cases h:n<=9
  ·rw[ql n h,bS,cG,pP,xd h,if_pos ⟨by omega,by omega,by omega⟩];simp
  ·rw[rQ n h,bG,Y (n/10) (by omega) (by omega),bS,cG,pP,xd (by omega),if_pos ⟨by omega,by omega,by omega⟩];congr 2;omega
def rJ(c:UInt8):Prop:=c=77\/c=73\/c=68
theorem ahj{c:UInt8}(h:rJ c)(o:List UInt8)(n:Nat)(hn:0<n):pP (some (o,n)) c=some (o++aO n c,0):=by
 rw[pP,if_neg,if_pos ⟨h,hn⟩];rcases h with rfl|rfl|rfl<;>simp
theorem QU(s:ByteArray)(hs:s.size<=900)(hL:∀i,i<s.size->rJ (at8 s i)):∀i,i<=s.size->(iG s i).2<=i/\ox (iG s i).1=some (s.data.toList.take (i-(iG s i).2),0)/\(s.data.toList.take i=s.data.toList.take (i-(iG s i).2)++aO (iG s i).2 (at8 s i))/\(i=s.size->(iG s i).2=0)
 |0,_=>by simp[iG,ox]
 |i+1,A=>by
  obtain⟨h1,h2,K,I⟩:=QU s hs hL i (by omega);have H:=CV s i (by omega);rw[iG];split
  ·rename_i Y;simp only;refine⟨bp _,?_,by simp,by simp⟩;unfold ox at h2⊢;rw[bG,bG,h2,ahi _ _ (by omega),bS,cG,ahj (hL i (by omega)) _ _ (by omega),cQ,H,K,bh,<-cP]
  ·rename_i Y;simp only;have D:at8 s (i+1)=at8 s i:=bu fun h=>Y (.inr h);have R:i+1≠s.size:=fun h=>Y (.inl h);refine⟨by omega,?_,?_,fun h=>absurd h R⟩
   ·rw[h2,show i+1-((iG s i).2+1)=i-(iG s i).2 by omega]
   ·rw[H,D,show i+1-((iG s i).2+1)=i-(iG s i).2 by omega,cP,<-bh,<-K]
theorem Zv(s:ByteArray)(hs:s.size<=900)(hL:∀i,i<s.size->rJ (at8 s i)):ox (nO s)=some (s.data.toList,0):=by
 obtain⟨_,h2,_,Y⟩:=QU s hs hL s.size (aj _);unfold nO;rw[h2,Y rfl,cQ,bX (by simp)]
section
variable(p t s:ByteArray)
def qh(x:Nat):Bool:=ag (at8 p (gF p t s x).i) (at8 t (gF p t s x).j)
def xR:Nat->Nat
 |0=>0
 |y+1=>if at8 s (s.size-(y+1))=77 then(if qh p t s (s.size-(y+1))=true then xR y+1 else 0)else if at8 s (s.size-(y+1))=73 then xR y else 0
def vq:Nat->List UInt8
 |0=>[]
 |y+1=>let x:=s.size-(y+1)
  if at8 s x=77 then(if qh p t s x=true then vq y else at8 t (gF p t s x).j::(gJ (xR p t s y)++vq y))
  else if at8 s x=73 then vq y
  else(if x=0\/at8 s (x-1)≠68 then [94]else [])++at8 t (gF p t s x).j::(if x+1<s.size/\at8 s (x+1)=68 then vq y else gJ (xR p t s y)++vq y)
def ly(x:Nat):Nat:=xR p t s (s.size-x)
def lW(x:Nat):List UInt8:=vq p t s (s.size-x)
def nY(x:Nat):Prop:=0<x/\at8 s (x-1)=68/\x<s.size/\at8 s x=68
variable{p t s}
theorem uu{x:Nat}(h:x<s.size):ly p t s x=if at8 s x=77 then(if qh p t s x=true then ly p t s (x+1)+1 else 0)else if at8 s x=73 then ly p t s (x+1)else 0:=by
 unfold ly;rw[show s.size-x=(s.size-(x+1))+1 by omega,xR,show s.size-(s.size-(x+1)+1)=x by omega]
theorem vI{x:Nat}(h:x<s.size):lW p t s x=if at8 s x=77 then(if qh p t s x=true then lW p t s (x+1)else at8 t (gF p t s x).j::(gJ (ly p t s (x+1))++lW p t s (x+1)))
  else if at8 s x=73 then lW p t s (x+1)
  else(if x=0\/at8 s (x-1)≠68 then [94]else [])++at8 t (gF p t s x).j::(if x+1<s.size/\at8 s (x+1)=68 then lW p t s (x+1)else gJ (ly p t s (x+1))++lW p t s (x+1)):=by
 unfold lW ly;rw[show s.size-x=(s.size-(x+1))+1 by omega,vq,show s.size-(s.size-(x+1)+1)=x by omega]
theorem H9:ly p t s s.size=0:=by unfold ly;rw[aZ,xR]
theorem Ho:lW p t s s.size=[]:=by unfold lW;rw[aZ,vq]
theorem IH:∀y x,x+y=s.size->ly p t s x<=y
 |0,x,h=>by rw[show x=s.size by omega,H9];omega
 |y+1,x,h=>by
  have:=IH y (x+1) (by omega);rw[uu (by omega)];split
  ·split<;>omega
  ·split<;>omega
theorem IJ(hL:∀i,i<s.size->rJ (at8 s i)):∀x,0<x->x<=s.size->at8 s (x-1)=68->(gF p t s x).n=0
 |0,h,_,_=>by omega
 |x+1,_,hx,Y=>by
  rw[aQ]at Y;rw[gF,mc,if_neg (by rw[Y];decide),if_neg (by rw[Y];decide)];split
  ·rfl
  ·rename_i h;have K:x≠0:=fun e=>h (.inl e);exact IJ hL x (by omega) (by omega) (bu fun e=>h (.inr e))
theorem AL(hL:∀i,i<s.size->rJ (at8 s i)):∀y x,x+y=s.size->(¬nY s x->jL p t s=(gF p t s x).o++gJ ((gF p t s x).n+ly p t s x)++lW p t s x)/\(nY s x->jL p t s=(gF p t s x).o++lW p t s x)
 |0,x,h=>by
  obtain rfl:x=s.size:=by omega
  refine⟨fun _=>?_,fun hd=>absurd hd.2.2.1 (by omega)⟩;rw[H9,Ho,jL];simp
 |y+1,x,h=>by
  obtain⟨I,i2⟩:=AL hL y (x+1) (by omega);have hx:x<s.size:=by omega
  rcases hL x hx with e|e|e
  ·have nd:¬nY s (x+1):=fun hd=>by have:=hd.2.1;rw[aQ,e]at this;exact absurd this (by decide)
   have A:¬nY s x:=fun hd=>by have:=hd.2.2.2;rw[e]at this;exact absurd this (by decide)
   refine⟨fun _=>?_,fun hd=>absurd hd A⟩;rw[I nd,uu hx,vI hx,if_pos e,if_pos e,gF,mc,if_pos e,show ag (at8 p (gF p t s x).i) (at8 t (gF p t s x).j)=qh p t s x from rfl];by_cases R:qh p t s x=true
   ·rw[if_pos R,if_pos R,if_pos R];simp only;rw[show(gF p t s x).n+1+ly p t s (x+1)=(gF p t s x).n+(ly p t s (x+1)+1) by omega]
   ·rw[if_neg R,if_neg R,if_neg R];simp
  ·have nd:¬nY s (x+1):=fun hd=>by have:=hd.2.1;rw[aQ,e]at this;exact absurd this (by decide)
   have A:¬nY s x:=fun hd=>by have:=hd.2.2.2;rw[e]at this;exact absurd this (by decide)
   refine⟨fun _=>?_,fun hd=>absurd hd A⟩;have Y:¬at8 s x=77:=by rw[e];decide
   rw[I nd,uu hx,vI hx,if_neg Y,if_neg Y,if_pos e,if_pos e,gF,mc,if_neg Y,if_pos e]
  ·have Y:¬at8 s x=77:=by rw[e];decide
   have D:¬at8 s x=73:=by rw[e];decide
   have U:x+1<s.size/\at8 s (x+1)=68↔nY s (x+1):=⟨fun h=>⟨by omega,by rw[aQ];exact e,h.1,h.2⟩,fun h=>⟨h.2.2.1,h.2.2.2⟩⟩;have hd:jL p t s=(gF p t s (x+1)).o++if x+1<s.size/\at8 s (x+1)=68 then lW p t s (x+1)else gJ (ly p t s (x+1))++lW p t s (x+1):=by
    by_cases H:nY s (x+1)
    ·rw[if_pos (U.2 H)];exact i2 H
    ·rw[if_neg (fun h=>H (U.1 h)),I H,IJ hL (x+1) (by omega) (by omega) (by rw[aQ];exact e)];simp
   rw[hd,uu hx,vI hx,if_neg Y,if_neg Y,if_neg D,if_neg D,gF,mc,if_neg Y,if_neg D];by_cases K:x=0\/at8 s (x-1)≠68
   ·rw[if_pos K,if_pos K];refine⟨fun _=>by simp,fun H=>?_⟩;rcases K with K|K
    ·exact absurd H.1 (by omega)
    ·exact absurd H.2.1 K
   ·rw[if_neg K,if_neg K];refine⟨fun H=>?_,fun _=>by simp⟩;refine absurd ⟨dA fun h=>K (.inl h),bu fun h=>K (.inr h),hx,e⟩ H
theorem OU(hL:∀i,i<s.size->rJ (at8 s i))(hF:Fits p t s)(hG:∀j,j<t.size->58<=(at8 t j).toNat/\at8 t j≠94):∀y x,x+y=s.size->lW p t s x=[]\/∃c r,lW p t s x=c::r/\58<=c.toNat
 |0,x,h=>by rw[show x=s.size by omega,Ho];exact .inl rfl
 |y+1,x,h=>by
  have Y:=OU hL hF hG y (x+1) (by omega);obtain⟨f1,f2⟩:=hF x (by omega);rw[vI (by omega)];split
  ·rename_i e;split
   ·exact Y
   ·exact .inr ⟨_,_,rfl,(hG _ (f1 e).2).1⟩
  ·rename_i e;split
   ·exact Y
   ·rename_i e';split
    ·exact .inr ⟨_,_,rfl,by decide⟩
    ·exact .inr ⟨_,_,rfl,(hG _ (f2 e e')).1⟩
end
def ra(D:List UInt8)(q n Y:Nat):Prop:=∃A R,D=A++gJ n++R/\q=A.length/\Y=q+(gJ n).length/\n<=999/\(R=[]\/∃c r,R=c::r/\58<=c.toNat)
section
variable(p t s:ByteArray)
open Classical in
def j_ (x:Nat):Nat:=if nY s x then 0 else ly p t s x
open Classical in
def jb (x:Nat):Nat:=if nY s x then(gF p t s x).o.length else((gF p t s x).o++gJ ((gF p t s x).n+ly p t s x)).length
end
section
variable{p t s:ByteArray}(hs:s.size<=900)(hL:∀i,i<s.size->rJ (at8 s i))(hF:Fits p t s)(hG:∀j,j<t.size->58<=(at8 t j).toNat/\at8 t j≠94)
theorem H_{x:Nat}(h:at8 s x≠68):¬nY s x:=fun hd=>h hd.2.2.2
theorem Hp{x:Nat}(h:at8 s x≠68):¬nY s (x+1):=fun hd=>by have:=hd.2.1;rw[aQ]at this;exact h this
include hs hL hF hG
theorem Hq{x:Nat}(hx:x<=s.size)(hd:¬nY s x)(Y:(gF p t s x).n=0):ra (jL p t s) (gF p t s x).o.length (j_ p t s x) (jb p t s x):=by
 have h1:=(AL (p:=p) (t:=t) hL (s.size-x) x (by omega)).1 hd;have h2:=IH (p:=p) (t:=t) (s:=s) (s.size-x) x (by omega);rw[Y,cR]at h1;refine⟨_,_,by rw[j_,if_neg hd];exact h1,rfl,?_,by rw[j_,if_neg hd];omega,OU hL hF hG (s.size-x) x (by omega)⟩;rw[jb,if_neg hd,j_,if_neg hd,Y,cR,aY]
theorem ake:ra (jL p t s) 0 (j_ p t s 0) (jb p t s 0):=Hq hs hL hF hG (x:=0) (bp _) (fun h=>absurd h.1 (by omega)) rfl
omit hs hF hG in
theorem akf:j_ p t s s.size=0/\jb p t s s.size=(jL p t s).length:=by
 have hd:¬nY s s.size:=fun h=>absurd h.2.2.1 (by omega);refine⟨by rw[j_,if_neg hd,H9],?_⟩;have h1:=(AL (p:=p) (t:=t) hL 0 s.size (by omega)).1 hd;rw[jb,if_neg hd,h1,Ho,cD]
omit hs hL hF hG in
theorem akg{x:Nat}(hx:x<s.size)(e:at8 s x=73):j_ p t s (x+1)=j_ p t s x/\jb p t s (x+1)=jb p t s x:=by
 have Y:¬at8 s x=77:=by rw[e];decide
 have n1:=H_ (s:=s) (x:=x) (by rw[e];decide);have n2:=Hp (s:=s) (x:=x) (by rw[e];decide);rw[j_,j_,jb,jb,if_neg n1,if_neg n2,if_neg n1,if_neg n2,uu hx,if_neg Y,if_pos e,gF,mc,if_neg Y,if_pos e];exact⟨rfl,rfl⟩
omit hs hL hF hG in
theorem aja{x:Nat}(hx:x<s.size)(e:at8 s x=77)(Y:qh p t s x=true):j_ p t s x=j_ p t s (x+1)+1/\jb p t s (x+1)=jb p t s x:=by
 have n1:=H_ (s:=s) (x:=x) (by rw[e];decide);have n2:=Hp (s:=s) (x:=x) (by rw[e];decide);rw[j_,j_,jb,jb,if_neg n1,if_neg n2,if_neg n1,if_neg n2,uu hx,if_pos e,if_pos Y,gF,mc,if_pos e,show ag (at8 p (gF p t s x).i) (at8 t (gF p t s x).j)=qh p t s x from rfl,if_pos Y];refine⟨rfl,?_⟩;simp only;rw[show(gF p t s x).n+1+ly p t s (x+1)=(gF p t s x).n+(ly p t s (x+1)+1) by omega]
theorem ajb{x:Nat}(hx:x<s.size)(e:at8 s x=77)(U:qh p t s x=false):j_ p t s x=0/\(jL p t s)[jb p t s x]?=some (at8 t (gF p t s x).j)/\ra (jL p t s) (jb p t s x+1) (j_ p t s (x+1)) (jb p t s (x+1)):=by
 have Y:¬qh p t s x=true:=by rw[U];decide
 have n1:=H_ (s:=s) (x:=x) (by rw[e];decide);have n2:=Hp (s:=s) (x:=x) (by rw[e];decide);have K:ly p t s x=0:=by rw[uu hx,if_pos e,if_neg Y]
 have h1:=(AL (p:=p) (t:=t) hL (s.size-x) x (by omega)).1 n1;have H:(gF p t s (x+1)).o=(gF p t s x).o++gJ (gF p t s x).n++[at8 t (gF p t s x).j]/\(gF p t s (x+1)).n=0:=by
  rw[gF,mc,if_pos e,show ag (at8 p (gF p t s x).i) (at8 t (gF p t s x).j)=qh p t s x from rfl,if_neg Y];exact⟨rfl,rfl⟩
 have D:=Hq hs hL hF hG (x:=x+1) (by omega) n2 H.2;have hk:jb p t s x+1=(gF p t s (x+1)).o.length:=by rw[jb,if_neg n1,K,Nat.add_zero,H.1];simp;omega
 refine⟨by rw[j_,if_neg n1,K],?_,by rw[hk];exact D⟩;rw[h1,jb,if_neg n1,az (aj _),aZ,vI hx,if_pos e,if_neg Y];rfl
theorem akh{x:Nat}(hx:x<s.size)(e:at8 s x=68):j_ p t s x=0/\
  ((x=0\/at8 s (x-1)≠68)->(jL p t s)[jb p t s x]?=some 94/\(jL p t s)[jb p t s x+1]?=some (at8 t (gF p t s x).j)/\(x+1<s.size/\at8 s (x+1)=68->j_ p t s (x+1)=0/\jb p t s (x+1)=jb p t s x+1+1)/\(¬(x+1<s.size/\at8 s (x+1)=68)->ra (jL p t s) (jb p t s x+1+1) (j_ p t s (x+1)) (jb p t s (x+1))))/\
  (¬(x=0\/at8 s (x-1)≠68)->(jL p t s)[jb p t s x]?=some (at8 t (gF p t s x).j)/\(x+1<s.size/\at8 s (x+1)=68->j_ p t s (x+1)=0/\jb p t s (x+1)=jb p t s x+1)/\(¬(x+1<s.size/\at8 s (x+1)=68)->ra (jL p t s) (jb p t s x+1) (j_ p t s (x+1)) (jb p t s (x+1)))):=by
 have K:¬at8 s x=77:=by rw[e];decide
 have Y:¬at8 s x=73:=by rw[e];decide
 have D:ly p t s x=0:=by rw[uu hx,if_neg K,if_neg Y]
 have U:x+1<s.size/\at8 s (x+1)=68↔nY s (x+1):=⟨fun h=>⟨by omega,by rw[aQ];exact e,h.1,h.2⟩,fun h=>⟨h.2.2.1,h.2.2.2⟩⟩;have B:(gF p t s (x+1)).n=0:=IJ hL (x+1) (by omega) (by omega) (by rw[aQ];exact e);have fin:∀k,k+1=(gF p t s (x+1)).o.length->(x+1<s.size/\at8 s (x+1)=68->j_ p t s (x+1)=0/\jb p t s (x+1)=k+1)/\(¬(x+1<s.size/\at8 s (x+1)=68)->ra (jL p t s) (k+1) (j_ p t s (x+1)) (jb p t s (x+1))):=fun k hk=>by
  refine⟨fun h=>?_,fun h=>?_⟩
  ·have hd:=U.1 h;rw[j_,jb,if_pos hd,if_pos hd];exact⟨rfl,hk.symm⟩
  ·rw[hk];exact Hq hs hL hF hG (by omega) (fun hd=>h (U.2 hd)) B
 obtain⟨d1,d2⟩:=AL (p:=p) (t:=t) hL (s.size-x) x (by omega);refine⟨by rw[j_];split<;>first|rfl|exact D,fun H=>?_,fun H=>?_⟩
 ·have nd:¬nY s x:=fun A=>by
   rcases H with H|H
   ·exact absurd A.1 (by omega)
   ·exact absurd A.2.1 H
  have I:(gF p t s (x+1)).o=(gF p t s x).o++gJ (gF p t s x).n++[94]++[at8 t (gF p t s x).j]:=by
   rw[gF,mc,if_neg K,if_neg Y,if_pos H]
  have R:lW p t s x=94::at8 t (gF p t s x).j::(if x+1<s.size/\at8 s (x+1)=68 then lW p t s (x+1)else gJ (ly p t s (x+1))++lW p t s (x+1)):=by
   rw[vI hx,if_neg K,if_neg Y,if_pos H];rfl
  have hk:jb p t s x=((gF p t s x).o++gJ ((gF p t s x).n+ly p t s x)).length:=by rw[jb,if_neg nd]
  refine⟨?_,?_,fin _ ?_⟩
  ·rw[d1 nd,hk,az (aj _),aZ,R];rfl
  ·rw[d1 nd,hk,az (Nat.le_add_right _ _),bY,R];rfl
  ·rw[hk,I,D];simp;omega
 ·have hd:nY s x:=⟨dA fun h=>H (.inl h),bu fun h=>H (.inr h),hx,e⟩;have I:(gF p t s (x+1)).o=(gF p t s x).o++[at8 t (gF p t s x).j]:=by
   rw[gF,mc,if_neg K,if_neg Y,if_neg H]
  have R:lW p t s x=at8 t (gF p t s x).j::(if x+1<s.size/\at8 s (x+1)=68 then lW p t s (x+1)else gJ (ly p t s (x+1))++lW p t s (x+1)):=by
   rw[vI hx,if_neg K,if_neg Y,if_neg H];rfl
  have hk:jb p t s x=(gF p t s x).o.length:=by rw[jb,if_pos hd]
  refine⟨?_,fin _ ?_⟩
  ·rw[d2 hd,hk,az (aj _),aZ,R];rfl
  ·rw[hk,I];simp
end
def zI(p t:ByteArray)(L:List UInt8)(x:Nat):Nat:=if L.getD x 0=77/\ag (at8 p ((L.take x).countP qg)) (at8 t ((L.take x).countP oS))=true then 0 else 1
def mE(p t:ByteArray)(L:List UInt8):Nat->Nat
 |0=>0
 |x+1=>mE p t L x+zI p t L x
theorem QV(p t:ByteArray)(L M:List UInt8):∀n,n<=L.length->mE p t (L++M) n=mE p t L n
 |0,_=>rfl
 |n+1,h=>by
  rw[mE,mE,QV p t L M n (by omega),zI,zI,ai,aP (by omega),List.take_append_of_le_length (by omega),ai]
theorem Hr(p t:ByteArray)(L:List UInt8)(c:UInt8):mE p t (L++[c]) (L++[c]).length=mE p t L L.length+if c=77/\ag (at8 p (L.countP qg)) (at8 t (L.countP oS))=true then 0 else 1:=by
 rw[aY,dq,mE,QV p t L [c] _ (aj _),zI,ai,az (aj _),aZ,List.take_left']
 ·rfl
 ·rfl
theorem Dj(p t:ByteArray):∀f i j,i+j<=f->mE p t (iC p t f i j) (iC p t f i j).length=dT p t i j
 |0,i,j,h=>by
  obtain⟨rfl,rfl⟩:i=0/\j=0:=by omega
  simp[iC,mE,dT]
 |f+1,i,j,h=>by
  rw[iC];by_cases Y:i=0/\j=0
  ·rw[if_pos Y,Y.1,Y.2];simp[mE,dT]
  ·rw[if_neg Y];by_cases H:oo p t i j=true
   ·obtain⟨h1,h2,D⟩:=Ag H;obtain⟨c1,c2⟩:=vv p t f (i-1) (j-1) (by omega);rw[if_pos H,Hr,Dj p t f (i-1) (j-1) (by omega),c1,c2,D];unfold cost;simp
   ·rw[if_neg H];by_cases K:nF p t i j=true
    ·obtain⟨h1,D⟩:=Ah K;rw[if_pos K,Hr,Dj p t f (i-1) j (by omega),D];simp
    ·rw[if_neg K];have R:=z8 (by simpa using K) Y;rw[Hr,Dj p t f i (j-1) (by omega)];obtain⟨j,rfl⟩:∃a,j=a+1:=⟨j-1,by omega⟩;cases i with
     |zero=>simp[dT]
     |succ i=>
      have n1:dT p t (i+1) (j+1)≠dT p t i j+cost p t i j:=fun e=>H (by unfold oo;simp[e]);have n2:dT p t (i+1) (j+1)≠dT p t i (j+1)+1:=fun e=>K (by unfold nF;simp[e]);rw[dT]at n1 n2⊢;simp;omega
theorem QW:∀l:List UInt8,l.foldl pP none=none
 |[]=>rfl
 |c::l=>by rw[bS];exact QW l
theorem ahk{l m:List UInt8}{r:List UInt8×Nat}(h:ox (l++m)=some r):∃q,ox l=some q:=by
 unfold ox at *;rw[bG]at h;cases e:l.foldl pP (some ([],0))with
 |none=>rw[e,QW]at h;cases h
 |some q=>exact⟨q,rfl⟩
theorem afg{l:List UInt8}{i:Nat}(Y:i<l.length):ox (l.take (i+1))=pP (ox (l.take i)) (at8 (str l) i):=by
 rw[dy,aH Y];unfold ox;rw[bG,ny,ai,aH Y];rfl
theorem Yd(l o:List UInt8)(n0:Nat)(w:af)(h:ox l=some (o,n0))(y:l.length<=1000):
  ax ak 31 #[.string (str l)] w fun e w'=>e=.returned (.string (str o))/\w'=w:=by
 have hs:(str l).size=l.length:=rfl;have B:=laid h;clear h
 go_enter Tryz.func31,Tryz.ntmps31
 go_wp2
 go_loop [3,4,5] (fun s n i=>∃(I N:Nat) (O:List UInt8),I<=l.length/\i=.int .i64 (I:Int)/\n=.int .i64 (N:Int)/\s=.string (str O)/\Hid (ox (l.take I)=some (O,N))/\N<=999/\O.length<=999 *I) (fun _ _ i=>l.length-(intOf i).toNat)
 case atStart=>exact⟨0,0,[],by omega,rfl,rfl,rfl,laid rfl,by omega,by simp⟩
 case round=>
  obtain⟨I,N,O,g,rfl,rfl,rfl,D,r,u⟩:=hrel;have v:(str O).size=O.length:=rfl;by_cases A:I<l.length
  ·have W:(I:Int)<((str l).size:Int):=by omega
   have Z:=jJ (str l) I (by omega);have L:=laid (y7 (str l) I (by omega));have HT:Hid (ox (l.take (I+1))=pP (some (O,N)) (at8 (str l) I)):=laid (by rw[afg A,D.out]);have U:Hid (∃q,ox (l.take (I+1))=some q):=laid (ahk (m:=l.drop (I+1)) (by rw[List.take_append_drop];exact B.out));generalize at8 (str l) I=C at *;have f:=C.toNat_lt;by_cases hd:48<=C.toNat/\C.toNat<=57/\N<100
   ·have R:Hid (ox (l.take (I+1))=some (O,10 *N+(C.toNat-48))):=laid (by rw[HT.out,pP,if_pos hd]);obtain⟨d1,d2,d3⟩:=hd;have T:(48:Int)<=(C.toNat:Int):=by omega
    have V:(C.toNat:Int)<=57:=by omega
    have c:(N:Int)<100:=by omega
    go_wp2
    go_round
    case rel=>go_light;exact⟨I+1,10 *N+(C.toNat-48),O,by omega,by go_num,ij (by omega),rfl,R,by omega,by omega⟩
    case measure=>go_light;simp[intOf];omega
   ·have Y:(C=77\/C=73\/C=68)/\0<N:=bu fun E=>by
     obtain⟨q,F⟩:=U.out;rw[HT.out,pP,if_neg hd,if_neg E]at F;cases F
    have R:Hid (ox (l.take (I+1))=some (O++aO N C,0)):=laid (by rw[HT.out,pP,if_neg hd,if_pos Y]);obtain⟨Y,d⟩:=Y;clear hd HT U D;have z:(0:Int)<(N:Int):=by omega
    have T:¬(C.toNat:Int)<=57:=by rcases Y with rfl|rfl|rfl<;>decide
    have Q:Hid (∀K:Nat,str (O++aO K C)++str [C]=str (O++aO (K+1) C)):=laid fun K=>by rw[oy,bh,<-cP]
    have hk:(((C.toNat:Int)==77)=true)\/(((C.toNat:Int)==77)=false/\((C.toNat:Int)==73)=true)\/(((C.toNat:Int)==77)=false/\((C.toNat:Int)==73)=false/\((C.toNat:Int)==68)=true):=by
     rcases Y with rfl|rfl|rfl
     ·exact .inl rfl
     ·exact .inr (.inl ⟨rfl,rfl⟩)
     ·exact .inr (.inr ⟨rfl,rfl,rfl⟩)
    clear Y;have V:(48:Int)<=(C.toNat:Int):=by omega
    rcases hk with J|⟨J,j⟩|⟨J,j,b⟩
    all_goals
     go_wp2
     go_loop [3,7] (fun s k=>∃K:Nat,K<=N/\k=.int .i64 (K:Int)/\s=.string (str (O++aO K C))) (fun _ k=>N-(intOf k).toNat)
     case atStart=>exact⟨0,by omega,rfl,by simp⟩
     case round=>
      obtain⟨K,p,rfl,rfl⟩:=hrel;have G:(str (O++aO K C)).size=O.length+K:=by rw[gR];simp
      by_cases X:K<N
      ·have x:(K:Int)<(N:Int):=by omega
       have hx:=L.out;have S:=laid (Q.out K);have H:=yt (str (O++aO K C)) (str [C]) (by omega) (by show 1<=100000000;omega);rw[S.out]at H;go_wp2
       go_round
       case rel=>go_light;exact⟨K+1,by omega,by go_num,rfl⟩
       case measure=>go_light;simp[intOf];omega
      ·have P:Hid (K=N):=laid (by omega);go_wp2
       go_round
       case rel=>go_light;exact⟨I+1,0,O++aO K C,by omega,by go_num,rfl,rfl,laid (by rw[R.out,P.out]),by omega,by simp;omega⟩
       case measure=>go_light;simp[intOf];omega
  ·have M:Hid (O=o):=laid (by
    have:=D.out;rw[show I=l.length by omega,dz,B.out]at this;injection this with this
    injection this with h1 h2
    exact h1.symm)
   have W:¬(I:Int)<((str l).size:Int):=by omega
   go_wp2
   go_ret
   exact⟨by rw[M.out];rfl,rfl⟩
def nJ(s:ByteArray)(a:Nat):Nat->Nat
 |0=>0
 |k+1=>10 *nJ s a k+((at8 s (a+k)).toNat-48)
theorem ahl(s:ByteArray)(a:Nat):∀k,k<=4->nJ s a k<=300000
 |0,_=>by simp[nJ]
 |1,_=>by simp only[nJ];have:=(at8 s (a+0)).toNat_lt;omega
 |2,_=>by simp only[nJ];have:=(at8 s (a+0)).toNat_lt;have:=(at8 s (a+1)).toNat_lt;omega
 |3,_=>by simp only[nJ];have:=(at8 s (a+0)).toNat_lt;have:=(at8 s (a+1)).toNat_lt;have:=(at8 s (a+2)).toNat_lt;omega
 |4,_=>by simp only[nJ];have:=(at8 s (a+0)).toNat_lt;have:=(at8 s (a+1)).toNat_lt;have:=(at8 s (a+2)).toNat_lt;have:=(at8 s (a+3)).toNat_lt;omega
 |k+5,h=>by omega
theorem abf(s:ByteArray)(a m:Nat)(w:af)(hs:s.size<=10000)(h1:1<=m)(S:m<=3)(T:a+m<=s.size)(hd:∀k,k<m->nH (at8 s (a+k))=true)(U:a+m=s.size\/nH (at8 s (a+m))=false):
  ax ak 49 #[.string s,.int .i64 (a:Int)] w fun e w'=>e=.returned (.tuple #[.int .i64 (nJ s a m:Nat),.int .i64 ((a:Int)+(m:Int))])/\w'=w:=by
 have B:=laid hd;have F:=laid U;clear hd U
 go_enter Tryz.func49,Tryz.ntmps49
 go_wp2
 go_loop [1,6] (fun i n=>∃k:Nat,k<=m/\i=.int .i64 ((a:Int)+(k:Int))/\n=.int .i64 (nJ s a k:Nat)) (fun i _=>a+m-(intOf i).toNat)
 case atStart=>exact⟨0,by omega,by simp,rfl⟩
 case round=>
  obtain⟨k,hk,rfl,rfl⟩:=hrel;have Q:=ahl s a k (by omega);have J:Hid (nJ s a (k+1)=10 *nJ s a k+((at8 s (a+k)).toNat-48)):=laid rfl;have P:(0:Int)<=(a:Int)+(k:Int):=by omega
  have V:aD.wrap ((a:Int)+(k:Int)-(a:Int))=(k:Int):=by rw[show(a:Int)+(k:Int)-(a:Int)=(k:Int) by omega];exact bQ _ (by omega)
  by_cases R:k<m
  ·have A:(a:Int)+(k:Int)<(s.size:Int):=by omega
   have H:=jJ s (a+k) (by omega);have D:48<=(at8 s (a+k)).toNat/\(at8 s (a+k)).toNat<=57:=by have:=B.out k R;simpa[nH]using this
   generalize nJ s a k=N at *;generalize at8 s (a+k)=C at *;have I:(48:Int)<=(C.toNat:Int):=by omega
   have L:(C.toNat:Int)<=57:=by omega
   have O:(k:Int)<4:=by omega
   go_wp2
   go_round
   case rel=>go_light;exact⟨k+1,by omega,by go_num,ij (by rw[J.out];omega)⟩
   case measure=>go_light;simp[intOf];omega
  ·have Y:Hid (k=m):=laid (by omega);have n1:(((a:Int)+(k:Int))==(a:Int))=false:=by rw[beq_eq_false_iff_ne];omega
   have K:Hid (nJ s a m=nJ s a k):=laid (by rw[Y.out]);generalize nJ s a k=N at *;by_cases M:a+k=s.size
   ·have A:¬(a:Int)+(k:Int)<(s.size:Int):=by omega
    go_wp2
    go_ret2
    exact⟨by rw[K.out,<-Y.out];rfl,rfl⟩
   ·have A:(a:Int)+(k:Int)<(s.size:Int):=by have:=Y.out;omega
    have H:=jJ s (a+k) (by omega);have D:¬(48<=(at8 s (a+k)).toNat/\(at8 s (a+k)).toNat<=57):=by
     rcases F.out with h|h
     ·rw[<-Y.out]at h;exact absurd h M
     ·rw[<-Y.out]at h;simpa[nH]using h
    generalize at8 s (a+k)=C at *;by_cases d1:48<=C.toNat
    ·have I:(48:Int)<=(C.toNat:Int):=by omega
     have L:¬(C.toNat:Int)<=57:=by omega
     go_wp2
     go_ret2
     exact⟨by rw[K.out,<-Y.out];rfl,rfl⟩
    ·have I:¬(48:Int)<=(C.toNat:Int):=by omega
     go_wp2
     go_ret2
     exact⟨by rw[K.out,<-Y.out];rfl,rfl⟩
theorem afh:∀n:Nat,∀c∈gJ n,nH c=true:=by
 intro n;induction n using bJ with
 |ind n K=>
  have one:∀d,d<=9->nH (dg d)=true:=fun d hd=>by unfold nH;rw[xd hd];simp;omega
  by_cases h:n<=9
  ·rw[ql n h];intro c Y;rw[bm.1 Y];exact one n h
  ·rw[rQ n h];intro c Y;rcases aA.1 Y with Y|Y
   ·exact K (n/10) (by omega) c Y
   ·rw[bm.1 Y];exact one _ (by omega)
theorem adj{n:Nat}(h:n<=999):(gJ n).length<=3:=by
 by_cases h1:n<=9
 ·rw[ql n h1];simp
 ·rw[rQ n h1];by_cases h2:n/10<=9
  ·rw[ql _ h2];simp
  ·rw[rQ _ h2,ql _ (by omega)];simp
theorem afi(A R:List UInt8)(n:Nat):nJ (str (A++gJ n++R)) A.length (gJ n).length=n:=by
 have e:∀k,k<=(gJ n).length->nJ (str (A++gJ n++R)) A.length k=ni (str (gJ n)) k:=by
  intro k;induction k with
  |zero=>intro _;rfl
  |succ k Y=>
   intro hk;have:at8 (str (A++gJ n++R)) (A.length+k)=at8 (str (gJ n)) k:=by
    rw[ny,ny,ai,ai,bh,az (by omega),bY,aP (by omega)]
   rw[nJ,ni,Y (by omega),this]
 rw[e _ (aj _)];exact(RP n).1
theorem Xf{q n q':Nat}(h:ra D q n q')(U:D.length<=10000)(w:af):ax ak 49 #[.string (str D),.int .i64 (q:Int)] w fun e w'=>e=.returned (.tuple #[.int .i64 (n:Nat),.int .i64 (q':Nat)])/\w'=w:=by
 obtain⟨A,R,hd,rfl,rfl,I,K⟩:=h;have h1:=(mN n (by omega)).1;have Y:=adj I;have hs:(str D).size=D.length:=gR D;have H:D.length=A.length+(gJ n).length+R.length:=by rw[hd];simp;omega
 have:=abf (str D) A.length (gJ n).length w (by omega) h1 Y (by omega) (fun k hk=>?_) ?_
 ·rw[hd,afi]at this;rw[hd,show((A.length+(gJ n).length:Nat):Int)=(A.length:Int)+((gJ n).length:Int) by omega];exact this
 ·rw[hd,ny,ai,bh,az (by omega),bY,aP hk,aH hk];exact afh n _ (bj _)
 ·rcases K with rfl|⟨c,r,rfl,B⟩
  ·left;rw[hs,H];simp
  ·right;rw[hd,ny,ai,bh,az (by omega),bY,az (aj _),aZ];show nH c=false
   unfold nH;simp;omega
theorem abg(s:ByteArray)(w:af)(hs:s.size<=200):
  ax ak 33 #[.string s] w fun e w'=>e=.returned (.string (str (jP s)))/\w'=w:=by
 go_enter Tryz.func33,Tryz.ntmps33
 go_wp2
 go_loop [3,4] (fun t i=>∃k:Nat,k<=s.size/\i=.int .i64 ((s.size:Int)-1-(k:Int))/\t=.string (str (p9 s k))) (fun _ i=>(intOf i+1).toNat)
 case atStart=>exact⟨0,by omega,by simp,rfl⟩
 case round=>
  obtain⟨k,hk,rfl,rfl⟩:=hrel;have B:(str (p9 s k)).size=k:=by rw[gR,Hf]
  by_cases U:k<s.size
  ·obtain⟨j,H⟩:∃j:Nat,j=s.size-1-k:=⟨_,rfl⟩;have D:Hid (j=s.size-1-k):=laid H;have K:(s.size:Int)-1-(k:Int)=(j:Int):=by omega
   rw[K];have A:(j:Int)<(s.size:Int):=by omega
   have hx:=y7 s j (by omega);have Y:=yt (str (p9 s k)) (str [at8 s j]) (by omega) (by show 1<=100000000;omega);have I:Hid (p9 s (k+1)=p9 s k++[at8 s j]):=laid (by rw[p9,D.out]);rw[oy,<-I.out]at Y;clear H;have C:(0:Int)<=(j:Int):=by omega
   go_wp2
   go_round
   case rel=>go_light;exact⟨k+1,by omega,ij (by omega),rfl⟩
   case measure=>go_light;simp[intOf]
  ·have R:Hid (k=s.size):=laid (by omega);have K:¬(0:Int)<=(s.size:Int)-1-(k:Int):=by omega
   go_wp2
   go_ret
   exact⟨by rw[R.out];rfl,rfl⟩
structure Rb(p s:ByteArray)(D:List UInt8)(II EE LL KK:Nat->Nat)(TT:Nat->List UInt8):Prop where
 aki:∀x,x<s.size->rJ (at8 s x)
 i73:∀x,x<s.size->at8 s x=73->II x<p.size/\II (x+1)=II x+1/\TT (x+1)=TT x/\EE (x+1)=EE x+1/\LL (x+1)=LL x/\KK (x+1)=KK x
 m77:∀x,x<s.size->at8 s x=77->II x<p.size/\II (x+1)=II x+1/\((TT (x+1)=TT x++[at8 p (II x)]/\EE (x+1)=EE x/\LL x=LL (x+1)+1/\KK (x+1)=KK x)\/(LL x=0/\KK x<D.length/\at8 (str D) (KK x)≠94/\TT (x+1)=TT x++[at8 (str D) (KK x)]/\EE (x+1)=EE x+1/\ra D (KK x+1) (LL (x+1)) (KK (x+1))))
 d68:∀x,x<s.size->at8 s x=68->LL x=0/\II (x+1)=II x/\EE (x+1)=EE x+1/\∃k,((x=0\/at8 s (x-1)≠68)/\KK x<D.length/\at8 (str D) (KK x)=94/\k=KK x+1\/¬(x=0\/at8 s (x-1)≠68)/\k=KK x)/\k<D.length/\TT (x+1)=TT x++[at8 (str D) k]/\((x+1<s.size/\at8 s (x+1)=68)/\LL (x+1)=0/\KK (x+1)=k+1\/¬(x+1<s.size/\at8 s (x+1)=68)/\ra D (k+1) (LL (x+1)) (KK (x+1)))
 first:ra D 0 (LL 0) (KK 0)
 zero:II 0=0/\EE 0=0/\TT 0=[]
 last:II s.size=p.size/\LL s.size=0/\KK s.size=D.length
 bnd:∀x,x<=s.size->II x<=1000/\EE x<=1000/\LL x<=1000/\KK x<=10000/\(TT x).length<=1000
section
variable{p s:ByteArray}{D:List UInt8}{II EE LL KK:Nat->Nat}{TT:Nat->List UInt8}
theorem Xg(R:Rb p s D II EE LL KK TT)(hp:p.size<=1000)(hs:s.size<=1000)(hD:D.length<=9000)(w:af):
  ax ak 32 #[.string p,.string s,.string (str D)] w fun e w'=>e=.returned (.tuple #[.string (str (TT s.size)),.int .i64 (EE s.size:Nat),.bool true])/\w'=w:=by
 have o:(str D).size=D.length:=gR D;have O:=laid R;have j:=laid (fun(q n q':Nat) (h:ra D q n q') (W:af)=>Xf h (by omega) W);clear R
 go_enter Tryz.func32,Tryz.ntmps32
 go_wp2_with fail
 refine(j.out _ _ _ O.out.first _).mono ?_;rintro e w1 ⟨rfl,rfl⟩;go_wp2
 go_loop [9,10,11,12,13,14] (fun T E A L K i=>∃x:Nat,x<=s.size/\i=.int .i64 (x:Int)/\T=.string (str (TT x))/\E=.int .i64 (EE x:Nat)/\A=.int .i64 (II x:Nat)/\L=.int .i64 (LL x:Nat)/\K=.int .i64 (KK x:Nat)) (fun _ _ _ _ _ i=>s.size-(intOf i).toNat)
 case atStart=>obtain⟨z1,z2,z3⟩:=O.out.zero;exact⟨0,by omega,rfl,by rw[z3];rfl,by rw[z2];rfl,by rw[z1];rfl,rfl,rfl⟩
 case round=>
  obtain⟨x,hx,rfl,rfl,rfl,rfl,rfl,rfl⟩:=hrel;have HB:=laid (O.out.bnd x hx);obtain⟨b1,b2,b3,b4,b5⟩:=HB.out;have hTz:(str (TT x)).size=(TT x).length:=gR _;by_cases F:x<s.size
  ·have j1:(x:Int)<(s.size:Int):=by omega
   have P:=jJ s x F;rcases O.out.aki x F with U|U|U
   ·obtain⟨i1,i2,h⟩:=O.out.m77 x F U;have j2:(II x:Int)<(p.size:Int):=by omega
    have B:=laid i2;clear i2;rw[U]at P;rcases h with⟨h1,h2,C,N⟩|⟨h1,h2,C,N,M,X⟩
    ·have HT:=laid h1;have I:=laid h2;have d:=laid C;have c:=laid N;have S:=y7 p (II x) i1;have Y:=yt (str (TT x)) (str [at8 p (II x)]) (by omega) (by show 1<=100000000;omega);rw[oy,<-HT.out]at Y;have u:(0:Int)<(LL x:Int):=by omega
     clear h1 h2 C N U;have HN:Hid (TT (x+1)=TT (x+1)):=laid rfl;go_wp2
     refine⟨⟨x+1,by omega,ij (by omega),rfl,ij (by rw[I.out]),ij (by rw[B.out];omega),ij (by have:=d.out;omega),ij (by rw[c.out])⟩,?_⟩;simp[intOf];omega
    ·have HT:=laid N;have I:=laid M;have S:=y7 (str D) (KK x) (by omega);have Y:=yt (str (TT x)) (str [at8 (str D) (KK x)]) (by omega) (by show 1<=100000000;omega);rw[oy,<-HT.out]at Y;have hk:=jJ (str D) (KK x) (by omega);have u:¬(0:Int)<(LL x:Int):=by omega
     have v:(KK x:Int)<((str D).size:Int):=by omega
     have j5:(((at8 (str D) (KK x)).toNat:Int)==94)=false:=by have:=acy (at8 (str D) (KK x)) 94 (by omega);rw[show((94:Nat):Int)=94 from rfl]at this;rw[this];exact decide_eq_false C
     have H:=laid (j.out _ _ _ X);clear h1 C N M X U;go_wp2_with fail
     refine(H.out _).mono ?_;rintro e w2 ⟨rfl,rfl⟩;go_wp2
     go_round
     case rel=>go_light;exact⟨x+1,by omega,by go_num,rfl,ij (by rw[I.out];omega),ij (by rw[B.out];omega),rfl,rfl⟩
     case measure=>go_light;simp[intOf];omega
   ·obtain⟨i1,h1,h2,C,N,M⟩:=O.out.i73 x F U;have j2:(II x:Int)<(p.size:Int):=by omega
    have B:=laid h1;have HT:=laid h2;have I:=laid C;have d:=laid N;have c:=laid M;rw[U]at P;clear h1 h2 C N M U;go_wp2
    go_round
    case rel=>go_light;exact⟨x+1,by omega,by go_num,by rw[HT.out],ij (by rw[I.out];omega),ij (by rw[B.out];omega),by rw[d.out],by rw[c.out]⟩
    case measure=>go_light;simp[intOf];omega
   ·obtain⟨l0,h1,h2,k,C,N,M,X⟩:=O.out.d68 x F U;have B:=laid h1;have I:=laid h2;rw[U]at P;have u:((LL x:Nat):Int)=0:=by omega
    have j6:(KK x:Int)<(D.length:Int):=by rcases C with⟨_,q,_⟩|⟨_,q⟩<;>omega
    clear h1 h2 U;rcases C with⟨st,k1,k2,rfl⟩|⟨st,rfl⟩
    ·have hk:=jJ (str D) (KK x) (by omega);rw[k2]at hk;clear k2;have gj:((x:Int)==0)=true\/∃y:Nat,((x:Int)==0)=false/\y<s.size/\aD.wrap ((x:Int)-1)=(y:Int)/\(((at8 s y).toNat:Int) != 68)=true:=by
      by_cases l:x=0
      ·exact .inl (by rw[l];rfl)
      ·refine .inr ⟨x-1,by rw[beq_eq_false_iff_ne];omega,by omega,by rw[show(x:Int)-1=((x-1:Nat):Int) by omega];exact bQ _ (by omega),toNat_ne (b:=68) (st.resolve_left l)⟩
     clear st;have HT:=laid M;have S:=y7 (str D) (KK x+1) (by omega);have Y:=yt (str (TT x)) (str [at8 (str D) (KK x+1)]) (by omega) (by show 1<=100000000;omega);rw[oy,<-HT.out]at Y;have v:(KK x:Int)+1<(D.length:Int):=by omega
     clear M;rcases X with⟨⟨n1,n2⟩,l1,l2⟩|⟨Q,Z⟩
     ·have G:((x:Int)+1==(s.size:Int))=false:=by rw[beq_eq_false_iff_ne];omega
      have m:(x:Int)+1<(s.size:Int):=by omega
      have J:=jJ s (x+1) n1;rw[n2]at J;clear n2;have f:=laid l1;have g:=laid l2;clear l1 l2;rcases gj with s1|⟨y,s1,V,t,a⟩
      all_goals
       try have r:=jJ s y V
       try have s5:(y:Int)<(s.size:Int):=by omega
       try have s6:(0:Int)<=(y:Int):=by omega
       go_wp2
       go_round
       case rel=>go_light;exact⟨x+1,by omega,by go_num,rfl,ij (by rw[I.out];omega),by rw[B.out],ij (by rw[f.out];omega),ij (by rw[g.out];omega)⟩
       case measure=>go_light;simp[intOf];omega
     ·have H:=laid (j.out _ _ _ Z);clear Z;by_cases n1:x+1<s.size
      ·have G:((x:Int)+1==(s.size:Int))=false:=by rw[beq_eq_false_iff_ne];omega
       have m:(x:Int)+1<(s.size:Int):=by omega
       have J:=jJ s (x+1) n1;have m3:(((at8 s (x+1)).toNat:Int) != 68)=true:=toNat_ne (b:=68) fun e=>Q ⟨n1,e⟩;clear Q;rcases gj with s1|⟨y,s1,V,t,a⟩
       all_goals
        try have r:=jJ s y V
        try have s5:(y:Int)<(s.size:Int):=by omega
        try have s6:(0:Int)<=(y:Int):=by omega
        go_wp2_with fail
        refine(H.out _).mono ?_;rintro e w2 ⟨rfl,rfl⟩;go_wp2
        go_round
        case rel=>go_light;exact⟨x+1,by omega,by go_num,rfl,ij (by rw[I.out];omega),by rw[B.out],rfl,rfl⟩
        case measure=>go_light;simp[intOf];omega
      ·have G:((x:Int)+1==(s.size:Int))=true:=by rw[beq_iff_eq];omega
       clear Q;rcases gj with s1|⟨y,s1,V,t,a⟩
       all_goals
        try have r:=jJ s y V
        try have s5:(y:Int)<(s.size:Int):=by omega
        try have s6:(0:Int)<=(y:Int):=by omega
        go_wp2_with fail
        refine(H.out _).mono ?_;rintro e w2 ⟨rfl,rfl⟩;go_wp2
        go_round
        case rel=>go_light;exact⟨x+1,by omega,by go_num,rfl,ij (by rw[I.out];omega),by rw[B.out],rfl,rfl⟩
        case measure=>go_light;simp[intOf];omega
    ·have gj:∃y:Nat,((x:Int)==0)=false/\y<s.size/\aD.wrap ((x:Int)-1)=(y:Int)/\(((at8 s y).toNat:Int) != 68)=false:=by
      have l:x≠0:=fun e=>st (.inl e);have h1:at8 s (x-1)=68:=bu fun e=>st (.inr e);refine⟨x-1,by rw[beq_eq_false_iff_ne];omega,by omega,by rw[show(x:Int)-1=((x-1:Nat):Int) by omega];exact bQ _ (by omega),toNat_eq h1⟩
     clear st;obtain⟨y,s1,V,t,a⟩:=gj;have r:=jJ s y V;have s5:(y:Int)<(s.size:Int):=by omega
     have HT:=laid M;have S:=y7 (str D) (KK x) (by omega);have Y:=yt (str (TT x)) (str [at8 (str D) (KK x)]) (by omega) (by show 1<=100000000;omega);rw[oy,<-HT.out]at Y;have v:(KK x:Int)<(D.length:Int):=by omega
     clear M;rcases X with⟨⟨n1,n2⟩,l1,l2⟩|⟨Q,Z⟩
     ·have G:((x:Int)+1==(s.size:Int))=false:=by rw[beq_eq_false_iff_ne];omega
      have m:(x:Int)+1<(s.size:Int):=by omega
      have J:=jJ s (x+1) n1;rw[n2]at J;clear n2;have f:=laid l1;have g:=laid l2;clear l1 l2;go_wp2
      go_round
      case rel=>go_light;exact⟨x+1,by omega,by go_num,rfl,ij (by rw[I.out];omega),by rw[B.out],ij (by rw[f.out];omega),ij (by rw[g.out];omega)⟩
      case measure=>go_light;simp[intOf];omega
     ·have H:=laid (j.out _ _ _ Z);clear Z;by_cases n1:x+1<s.size
      ·have G:((x:Int)+1==(s.size:Int))=false:=by rw[beq_eq_false_iff_ne];omega
       have m:(x:Int)+1<(s.size:Int):=by omega
       have J:=jJ s (x+1) n1;have m3:(((at8 s (x+1)).toNat:Int) != 68)=true:=toNat_ne (b:=68) fun e=>Q ⟨n1,e⟩;clear Q;go_wp2_with fail
       refine(H.out _).mono ?_;rintro e w2 ⟨rfl,rfl⟩;go_wp2
       go_round
       case rel=>go_light;exact⟨x+1,by omega,by go_num,rfl,ij (by rw[I.out];omega),by rw[B.out],rfl,rfl⟩
       case measure=>go_light;simp[intOf];omega
      ·have G:((x:Int)+1==(s.size:Int))=true:=by rw[beq_iff_eq];omega
       clear Q;go_wp2_with fail
       refine(H.out _).mono ?_;rintro e w2 ⟨rfl,rfl⟩;go_wp2
       go_round
       case rel=>go_light;exact⟨x+1,by omega,by go_num,rfl,ij (by rw[I.out];omega),by rw[B.out],rfl,rfl⟩
       case measure=>go_light;simp[intOf];omega
  ·have z:Hid (x=s.size):=laid (by omega);obtain⟨e1,e2,e3⟩:=O.out.last;have j1:¬(x:Int)<(s.size:Int):=by omega
   have j2:((II x:Nat):Int)=(p.size:Int):=by rw[z.out,e1]
   have u:((LL x:Nat):Int)=0:=by rw[z.out,e2];rfl
   have v:((KK x:Nat):Int)=((str D).size:Int):=by rw[z.out,e3,o]
   clear e1 e2 e3;go_wp2
   go_ret3
   exact⟨by rw[z.out];rfl,rfl⟩
end
theorem NT.ext{x:List UInt8}(h:NT x)(a b:Nat):∃t,(str x).extract a b=str t/\NT t:=⟨_,Ar x a b,fun c Y=>h c (cL (List.mem_of_mem_drop Y))⟩
section
variable{xn x rn p mk:List UInt8}(BR:NT xn)(hx:NT x)(L4:NT rn)(hp:NT p)(L5:NT mk)
include BR hx L4 hp L5
theorem afj{n:Nat}{h:Nat×Nat×Nat}(hn:n<=9999)(U:h.1+1<=9999):zH (vb xn (str x) rn p mk n h):=by
 obtain⟨t,K,H⟩:=hx.ext h.1 h.2.1;refine⟨rfl,fun f Y=>?_,⟨n,hn,rfl⟩,⟨h.1+1,U,rfl⟩⟩;simp only[vb,bk,bW,or_false]at Y;rw[K]at Y;rcases Y with rfl|rfl|rfl|rfl|rfl|rfl|rfl|rfl|rfl
 ·exact L4
 ·exact .dec _
 ·exact BR
 ·exact .dec _
 ·exact(NT.lay _ _).runs
 ·exact .dec _
 ·exact H.dif
 ·exact hp
 ·exact L5
theorem P7{add k:Nat}{more:Bool}(U:add<=16)(B:x.length<=9000):∀F∈pa xn (str x) rn p mk add more (iE (str p) (str x) k),zH F:=by
 intro F hF;obtain⟨i,K,rfl⟩:=aN.1 hF;have Y:i<(iE (str p) (str x) k).length:=by simpa using K
 have H:(iE (str p) (str x) k).getD i (0,0,0)∈iE (str p) (str x) k:=by rw[ai,aH Y];exact bj _
 have:=CW (str p) (str x) k _ (aj _) _ H;rw[gR]at this;exact afj BR hx L4 hp L5 (by unfold pS;split<;>omega) (by omega)
end
section
variable{x b:List UInt8}(hx:∀c∈x,gS c)(h1:1<=x.length)(h2:x.length<=200)(hb:∀c∈b,gS c)(b1:1<=b.length)(b2:b.length<=30){n:Nat}(hn:n<=6)
abbrev oi(x b:List UInt8)(n:Nat):List F9:=DV [114] (str x) [97] b (iy b.length) n
include hx h1 h2 hb b1 b2
theorem P8:∀F∈oi x b n,zH F:=by
 intro F hF;have n1:NT [114]:=.one (by decide);have n2:NT [97]:=.one (by decide);have Y:NT (iy b.length):=.mks (by omega);unfold oi DV at hF;simp only at hF;split at hF
 ·rw[bm]at hF;subst hF;refine⟨rfl,fun f K=>?_,⟨4,by decide,rfl⟩,⟨0,by decide,rfl⟩⟩;simp only[yS,bk,bW,or_false]at K;rcases K with rfl|rfl|rfl|rfl|rfl|rfl|rfl|rfl|rfl
  ·exact n2
  ·exact .one (by decide)
  ·exact .one (by decide)
  ·exact .one (by decide)
  ·exact .one (by decide)
  ·exact .one (by decide)
  ·exact .one (by decide)
  ·exact .g hb
  ·exact Y
 ·rw[aA]at hF;rcases hF with hF|hF
  ·exact P7 n1 (.g hx) n2 (.g hb) Y (by omega) (by omega) F hF
  ·exact P7 n1 (.g hx) n2 (.g (aff hb)) (by rw[adh];exact fun c H=>Y c (du.1 H)) (by omega) (by omega) F hF
theorem SC:o9 (str (jo x)) (str (jl b)) n=jX 10 (([64,114,9]++gJ x.length)::(oi x b n).map kj):=by
 rw[SB hx h1 h2 hb b1 b2];have:pK ⟨#[114]⟩ (str x) n (JH b)=jX 10 ((oi x b n).map kj):=ahh [114] (str x) [97] b (iy b.length) n;rw[this,jX,q_,gR];simp
theorem abh:iK (str (o9 (str (jo x)) (str (jl b)) n)) 10 ((str (o9 (str (jo x)) (str (jl b)) n)).size+1)=(([64,114,9]++gJ x.length)::(oi x b n).map kj).map str++[nS]:=by
 rw[SC hx h1 h2 hb b1 b2];have:=Hm 10 [] (by simp) (([64,114,9]++gJ x.length)::(oi x b n).map kj) fun l Y=>by
  rcases bk.1 Y with rfl|Y
  ·intro e;rcases aA.1 e with e|e
   ·simp at e
   ·exact(NT.dec _ _ e).2 rfl
  ·obtain⟨F,hF,rfl⟩:=aN.1 Y;exact NT.line (P8 hx h1 h2 hb b1 b2 F hF).nt
 rw[cD]at this;exact this
end
theorem P9{c:UInt8}:∀{Ls:List (List UInt8)} {l:List UInt8},l∈Ls->l.length<=(jX c Ls).length
 |x::Ls,l,h=>by
  rw[jX,aY,bH];rcases bk.1 h with rfl|h
  ·omega
  ·have:=P9 (c:=c) h;omega
def qG(rs:List F9):List Value:=rs.flatMap fun F=>qF (F.map str)
theorem P_{rs:List F9}(Y:∀F∈rs,zH F):∀i,i<=rs.length->wu ((h::rs.map kj).map str++[nS]) i=qG (rs.take i)
 |0,_=>rfl
 |i+1,K=>by
  have hF:rs[i]?=some rs[i]:=aH (by omega);have e:((h::rs.map kj).map str++[nS]).getD (i+1) nS=str (kj rs[i]):=by
   rw[ai,aP (by simp;omega),aI,cH,aI,hF];rfl
  have ok:=Y rs[i] (bj _);rw[wu,P_ Y i (by omega),e,RI ok.len ok.nt];have:rs.take (i+1)=rs.take i++[rs[i]]:=by rw[dy,hF];rfl
  rw[this,qG,qG,List.flatMap_append,List.flatMap_singleton]
end
namespace Ph
open Conc Ren RowKit
theorem QX{W:af}{a:Option Addr}{len:Nat}{zs:Nat->Int}(h:uC W a len zs)(g:g_ (fun _=>False) W w):uC w a len zs:=by
 rcases h with h|⟨b,off,rfl,K,h⟩
 ·exact .inl h
 ·refine .inr ⟨b,off,rfl,K,fun i Y=>?_⟩;obtain⟨h1,h2⟩:=h i Y;have hb:b<W.heap.size:=dG h1;refine⟨?_,h2⟩;rw[<-h1];simp only[ao,g.old b hb (fun _ _ y=>y)]
theorem qM.on{W:af}(h:qM (fun _=>False) W)(g:g_ (fun _=>False) W w):qM (fun _=>False) w:=by
 have Y:∀b,b=0\/b=2\/b=3->w.heap[b]?=W.heap[b]?:=fun b hb=>g.old b (h.gl hb) (h.off b (h.gl hb));exact⟨aJ h.low g.grow,h.nR.same Y,zV h.iV (Y 0 (.inl rfl)),fun _ _ _ _ y=>y⟩
abbrev nj(site:List Item)(al:List (Nat×ae)):Frame:=kX 8 228 site (sA al) fun _=>undef
noncomputable def iz:Code:=Tryz.f8.body.getD .skip
abbrev kS (p:List Nat) (l:List Nat):List Item:=[.inRegion (opsOf (cp (p++[1]) iz)) l,.code (cp (p++[2]) iz)]
def za(t p:ae)(k:Int)(o:ae):List (Nat×ae):=[(0,t),(1,p),(2,ii k),(3,o)]
def xw(t p:ae)(k:Int)(o:ae)(b:Nat):List (Nat×ae):=za t p k o++[(7,ptr b),(8,.bool false)]
def xx(t p:ae)(k:Int)(o:ae)(b:Nat):List (Nat×ae):=xw t p k o b++[(28,.bool true),(9,.bool true),(29,.bool true),(30,.bool false),(31,t)]
def xy(t p:ae)(k:Int)(o:ae)(b:Nat)(x0 X:ByteArray):List (Nat×ae):=xx t p k o b++[(32,.string x0),(33,.string X),(10,.string X),(34,p)]
section
variable{t p o:ae}{k:Int}{b:Nat}{x0 X RF b0:ByteArray}
theorem akj:gX PR 60 (Frame.enter PR 8 #[t,p,ii k,o] .normal) []=(nj (kS [] [0,1]) (za t p k o),[]):=by kernel_rfl
theorem afk:(opAt (nj (kS [] [0,1]) (za t p k o))).map (fun o=>o.op)=some (.box 28 (.tmp 3)):=by kernel_rfl
theorem akk:gX PR 60 ((nj (kS [] [0,1]) (za t p k o)).finish (ptr b)) []=(nj (kS [2] [0,1]) (xw t p k o b),[]):=by kernel_rfl
theorem afl:gC PR 1 (nj (kS [2] [0,1]) (xw t p k o b)) []=(Frame.enter PR 16 #[] .normal,[nj (kS [2] [0,1]) (xw t p k o b)]):=by kernel_rfl
theorem akl:gX PR 60 (gC PR 11 ((nj (kS [2] [0,1]) (xw t p k o b)).finish (.bool true)) []).1 []=(nj (kS [2,2,2] [1,2,3]) (xx t p k o b),[]):=by kernel_rfl
theorem ahm:(gC PR 11 ((nj (kS [2] [0,1]) (xw t p k o b)).finish (.bool true)) []).2=[]:=by kernel_rfl
theorem afm:gC PR 1 (nj (kS [2,2,2] [1,2,3]) (xx t p k o b)) []=(Frame.enter PR 18 #[t,ii (60:Nat)] .normal,[nj (kS [2,2,2] [1,2,3]) (xx t p k o b)]):=by kernel_rfl
theorem afn:(opAt ((nj (kS [2,2,2] [1,2,3]) (xx t p k o b)).finish (.string x0))).map (fun o=>o.op)=some (.binOp .add 9 (.const (.string ⟨#[65]⟩)) (.tmp 32) 9):=by kernel_rfl
theorem akm:gX PR 60 (((nj (kS [2,2,2] [1,2,3]) (xx t p k o b)).finish (.string x0)).finish (.string X)) []=(nj (kS [2,2,2,2] [1,2,3]) (xy t p k o b x0 X),[]):=by kernel_rfl
theorem afo:gC PR 1 (nj (kS [2,2,2,2] [1,2,3]) (xy t p k o b x0 X)) []=(Frame.enter PR 18 #[p,ii (17:Nat)] .normal,[nj (kS [2,2,2,2] [1,2,3]) (xy t p k o b x0 X)]):=by kernel_rfl
theorem akn:(nj (kS [2,2,2,2] [1,2,3]) (xy t p k o b x0 X)).finish (.string b0)=nj (kS [2,2,2,2] [2,3]) (xy t p k o b x0 X++[(35,.string b0)]):=by kernel_rfl
end
section
variable{W:af}{a0 a1:Option Addr}{l0 l1 c0 c1:Nat}{z0 z1:Nat->Int}{k q1 t1 w1:Int}{I:ae->af->Prop}
theorem afp(i0:uC W a0 l0 z0)(i1:uC W a1 l1 z1)(H:qM (fun _=>False) W)(hp:∀M d,g_ (fun _=>False) W M->I (.bool true) (M.at d))
  (g:∀x0 b0 (v:af) b,(∀c∈65::x0,gS c)->(65::x0).length<=61->(∀c∈67::b0,gS c)->(67::b0).length<=17+[67].length->ln v->iS v->v.heap[b]?=some (.cells #[ii q1,ii t1,ii w1] 28)->GW true (Ren.Ends PR I) (fun x v'=>x=.bool true/\Kw v v') 8 (kS [2,2,2,2] [2,3]) ((TN 228 (sA (xy (.slice a0 l0 c0) (.slice a1 l1 c1) k (.agg #[ii q1,ii t1,ii w1]) b (str x0) (str (65::x0))++[(35,.string (str b0))])) fun _=>undef).map blk) v):
  gn PR (Ren.Ends PR I) (fun _=>False) (Frame.enter PR 8 #[.slice a0 l0 c0,.slice a1 l1 c1,ii k,.agg #[ii q1,ii t1,ii w1]] .normal) [] W:=by
 refine gn.Ef 60 _ akj fun v1 g1 _=>?_;refine gn.alloc (F:=fun B=>(nj (kS [] [0,1]) (za (.slice a0 l0 c0) (.slice a1 l1 c1) k (.agg #[ii q1,ii t1,ii w1]))).finish (ptr B)) (o:=.cells #[ii q1,ii t1,ii w1] 28) (fun w'=>Ab afk rfl rfl w') fun b1 v2 n1 u1 S o1 T=>?_;refine gn.Ef 60 _ akk fun v5 V _=>?_;refine aK 1 fun v6 j=>?_;rw[afl];have K:=V.trans (g_.of j);have D:=(g1.trans T).trans K;have L:=H.on D;have C:=K.at S o1;have s1:=jI C;refine L.call ada (fun _ y=>y) (fun _ y=>.inl y) ⟨fun _ _ _=>rfl,aj _,rfl,nB.refl _,rfl⟩ fun Z7 v7 h o7 P=>?_;refine aK 11 fun v8 f=>?_;rw[ahm];refine gn.Ef 60 _ akl fun v9 X _=>?_;refine aK 1 fun vA r=>?_;rw[afm];refine QP (QX i0 D) (by omega) L h o7 (((P.on o7 (g_.of f)).on o7 X).on o7 (g_.of r)) fun ZB vB w U Q=>?_;have ex:(⟨#[65]⟩:ByteArray)++str (lT z0 (min l0 60))=str (65::lT z0 (min l0 60)):=oy [65] _;have N:∀(d:List UInt8) (z:Nat->Int) (n:Nat),(∀c∈d,gS c)->∀c∈d++lT z n,gS c:=fun d z n hd c Y=>(aA.1 Y).elim (hd c) (acI _ _ c);have m:∀c∈65::lT z0 (min l0 60),gS c:=N [65] _ _ fun c Y=>by simp at Y;subst Y;exact⟨by decide,by decide⟩
 have u:∀c∈67::lT z1 (min l1 17),gS c:=N [67] _ _ fun c Y=>by simp at Y;rcases Y with rfl<;>exact⟨by decide,by decide⟩
 have i:(65::lT z0 (min l0 60)).length<=61:=by rw[bH,Cp];omega
 have t:(67::lT z1 (min l1 17)).length<=17+[67].length:=by simp only[bH,Cp,bV];omega
 refine cm (fun w'=>P3 afn rfl rfl (by rw[gR,Cp];have:(⟨#[65]⟩:ByteArray).size=1:=rfl;omega) w') fun vC Z _=>?_;rw[ex];refine gn.Ef 60 _ akm fun vF E _=>?_;refine aK 1 fun vG s=>?_;rw[afo];refine QP (QX i1 D) (by omega) L w U (((Q.on U Z).on U E).on U (g_.of s)) fun ZF vF mF O J=>?_;rw[akn];have gr:=g1.grow;refine afb (Bs:=[b1]) hp H (fun l y=>(O l y).elim .inl fun⟨a,e,q⟩=>.inr ⟨a,e,aJ D.grow q⟩) (D.trans J) ?_ ?_ fun G R=>?_
 ·intro b hb;simp only[bk,bW,or_false]at hb;subst hb;exact⟨by omega,uw O (fun _ _ y=>y) s1,_,_,_,J.at C (fun _ _ y=>y)⟩
 ·intro p A;simp only[xy,xx,xw,za,aA,bk,bW,or_false]at A
  repeat' rcases A with A|A
  all_goals first|exact .inl ⟨_,_,_,rfl⟩|exact .inr (.inr ⟨b1,by simp,rfl⟩)|exact .inr (.inl (by kernel_rfl))
 ·exact g _ _ _ _ m i u t G R (J.at C (fun _ _ y=>y))
end
theorem Zw{Q:QT}{v:af}{b:List UInt8}(hx:∀c∈x,gS c)(h1:1<=x.length)(h2:x.length<=200)(hb:∀c∈b,gS c)(b1:1<=b.length)(b2:b.length<=30){n:Nat}(hn:n<=6):
  iF Q 25 #[.string (str (o9 (str (jo x)) (str (jl b)) n))] v fun y v'=>∃l,y=.tuple #[l,.bool true]/\v'.ownsRow v.heap.size 42 9 l (oi x b n).length (qG (oi x b n))/\Kw v v':=by
 have K:=P8 hx h1 h2 hb b1 b2 (n:=n);have A:=abh hx h1 h2 hb b1 b2 (n:=n);have R:=SC hx h1 h2 hb b1 b2 (n:=n);have C:(o9 (str (jo x)) (str (jl b)) n).length<=20000000:=by
  have U:=adg x h2;have B:=afe (x:=x) (a:=b) (n:=n) h2 b2 hn;rw[SB hx h1 h2 hb b1 b2,aY];omega
 generalize oi x b n=rs at *;have Y:((([64,114,9]++gJ x.length)::(rs).map kj).map str++[nS]).length=(rs).length+2:=by simp
 have H:=afc (Q:=Q) (v:=v) (s:=str (o9 (str (jo x)) (str (jl b)) n)) (by rw[gR];omega) A (by rw[Y];omega) ?_ ?_ ?_ ?_
 ·rw[Y,aQ,P_ K _ (aj _),dz]at H;exact H
 ·rw[Y,ai,az (by simp)];simp
 ·rw[dt,cE,dk,gR];simp
 ·rw[dt,cE,dk,ny];rfl
 ·intro j I;rw[Y]at I;obtain⟨F,hF⟩:∃F,rs[j]?=some F:=⟨_,aH (show j<rs.length by omega)⟩;have D:=bC hF;have e:(((([64,114,9]++gJ x.length)::(rs).map kj).map str++[nS])).getD (j+1) nS=str (kj F):=by
   rw[ai,aP (by simp;omega),aI,cH,aI,hF];rfl
  rw[e];refine(K F D).line ?_;have:=P9 (c:=10) (Ls:=([64,114,9]++gJ x.length)::(rs).map kj) (l:=kj F) (cK _ (aN.2 ⟨F,D,rfl⟩));rw[<-R]at this;omega
end Ph
section
open RowKit
theorem OV{p:List UInt8}{add:Nat}{more:Bool}{L:List (Nat×Nat×Nat)}{i:Nat}{h:Nat×Nat×Nat}(e:L[i]?=some h):(pa xn xb rn p mk add more L)[i]?=some (vb xn xb rn p mk (pS add more i) h):=by
 have Y:i<L.length:=(cI.1 e).1;unfold pa;rw[aI,bT Y,bK,ai,e];rfl
theorem Cv{p:List UInt8}{add:Nat}{more:Bool}{L:List (Nat×Nat×Nat)}:(pa xn xb rn p mk add more L).length=L.length:=by simp[pa]
theorem OW:∀{rs:List F9} {i j:Nat} {F:F9},rs[i]?=some F->j<9->(qG rs)[i *9+j]?=(qF (F.map str))[j]?
 |[],i,j,F,h,_=>by simp at h
 |G::rs,0,j,F,h,Y=>by
  cases h;have e:qG (G::rs)=qF (G.map str)++qG rs:=rfl;rw[e,aP (by simp[qF];omega)];simp
 |G::rs,i+1,j,F,h,Y=>by
  have e:qG (G::rs)=qF (G.map str)++qG rs:=rfl;rw[e,az (by simp[qF];omega),show(i+1) *9+j-(qF (G.map str)).length=i *9+j by simp[qF];omega];exact OW h Y
theorem adk{H:Nat}{l:ae}{rs:List F9}(h:w.ownsRow H 42 9 l rs.length (qG rs))(hn:1<=rs.length):∃G C,l=.slice (some ⟨G,0,none⟩) rs.length C/\H<=G/\G<w.heap.size/\∀i j F,rs[i]?=some F->j<9->w.cell? ⟨G,i *9+j,none⟩=(qF (F.map str))[j]?:=by
 rcases h.2 with⟨_,I⟩|⟨g,cap,K,rfl,h2,Y,A,U,B,D⟩
 ·omega
 ·refine⟨g,cap,rfl,h2,Ph.jI Y,fun i j F hF R=>?_⟩;have J:i<rs.length:=(cI.1 hF).1;rw[<-OW hF R,<-D,List.getElem?_take_of_lt (by omega),dc];simp[ao,Y]
def kT(b:List UInt8)(s:Nat):List UInt8:=if s=0 then b else tA b
def BT(b:List UInt8)(s:Nat):List UInt8:=if s=0 then iy b.length else jP (str (iy b.length))
def tV(s i:Nat):Nat:=16 *s+if 0<i then 256 else 0
abbrev xA:=Nat×Nat×Nat×Nat
def lz(x b:List UInt8)(n:Nat):List xA:=(iE (str (kT b 0)) (str x) n).map (Prod.mk 0)++(iE (str (kT b 1)) (str x) n).map (Prod.mk 1)
def zb(x b:List UInt8)(i:Nat)(q:xA):F9:=vb [114] (str x) [97] (kT b q.1) (BT b q.1) (tV q.1 i) q.2
theorem Gs(x b:List UInt8)(n:Nat):oi x b n=if lz x b n=[]then [yS [97] b (iy b.length)]else(bI (lz x b n).length).map fun i=>zb x b i ((lz x b n).getD i (0,0,0,0)):=by
 have hd:oi x b n=if iE (str b) (str x) n=[]/\iE (str (tA b)) (str x) n=[]then [yS [97] b (iy b.length)]else pa [114] (str x) [97] b (iy b.length) 0 false (iE (str b) (str x) n)++pa [114] (str x) [97] (tA b) (jP (str (iy b.length))) 16 (decide (iE (str b) (str x) n≠ [])) (iE (str (tA b)) (str x) n):=rfl
 have hs:lz x b n=(iE (str b) (str x) n).map (Prod.mk 0)++(iE (str (tA b)) (str x) n).map (Prod.mk 1):=rfl;rw[hd,hs];generalize iE (str b) (str x) n=Y;generalize iE (str (tA b)) (str x) n=H;by_cases K:Y=[]/\H=[]
 ·rw[if_pos K,K.1,K.2];rfl
 ·rw[if_neg K,if_neg (by simpa using K)];refine List.ext_getElem? fun i=>?_;by_cases h1:i<Y.length
  ·obtain⟨h,e⟩:∃h,Y[i]?=some h:=⟨_,aH h1⟩;rw[aP (by rw[Cv];exact h1),OV e,aI,bT (by simp;omega),bK,ai,aP (by simpa using h1),aI,e];show some _=some (zb x b i (0,h))
   unfold zb;rw[show pS 0 false i=tV 0 i by simp[pS,tV]];rfl
  ·rw[az (by rw[Cv];omega),Cv];by_cases h2:i-Y.length<H.length
   ·obtain⟨h,e⟩:∃h,H[i-Y.length]?=some h:=⟨_,aH h2⟩;rw[OV e,aI,bT (by simp;omega),bK,ai,az (by simp;omega),bU,aI,e];show some _=some (zb x b i (1,h))
    unfold zb;have:pS 16 (decide (Y≠ [])) (i-Y.length)=tV 1 i:=by
     unfold pS tV;rcases Y with _|⟨y,Y⟩
     ·simp;split<;>rfl
     ·simp at h1;rw[if_pos (.inl (by simp)),if_pos (by omega)]
    rw[this];rfl
   ·rw[dp (by rw[Cv];omega),dp (by simp;omega)]
theorem uD{b:List UInt8}{n:Nat}{q:xA}(h:q∈lz x b n):q.1<2/\q.2∈iE (str (kT b q.1)) (str x) n/\q.2.1<=q.2.2.1/\q.2.2.1<=x.length/\q.2.2.2<=n:=by
 have key:∀s y,s<2->y∈iE (str (kT b s)) (str x) n->s<2/\y∈iE (str (kT b s)) (str x) n/\y.1<=y.2.1/\y.2.1<=x.length/\y.2.2<=n:=fun s y hs Y=>by
  have:=CW (str (kT b s)) (str x) n _ (aj _) _ Y;rw[gR]at this;exact⟨hs,Y,this⟩
 rcases aA.1 h with h|h
 ·obtain⟨y,Y,rfl⟩:=aN.1 h;exact key 0 y (by decide) Y
 ·obtain⟨y,Y,rfl⟩:=aN.1 h;exact key 1 y (by decide) Y
theorem afq(x b:List UInt8)(n:Nat):(lz x b n).length<=2 *(x.length+1):=by
 have h1:=Ca (str (kT b 0)) (str x) n ((str x).size+1);have h2:=Ca (str (kT b 1)) (str x) n ((str x).size+1);rw[gR]at h1 h2;unfold lz iE;rw[aY,bU,bU,gR];omega
def Ej(x b:List UInt8)(i:Nat)(q:xA):List Value:=[.string (str [97]),.int .i64 (tV q.1 i:Nat),.string (str [114]),.int .i64 (q.2.1+1:Nat),.string (str (nO (str (gO (str (kT b q.1)) ((str x).extract q.2.1 q.2.2.1))))),.string (str (gJ q.2.2.2)),.string (str (jL (str (kT b q.1)) ((str x).extract q.2.1 q.2.2.1) (str (gO (str (kT b q.1)) ((str x).extract q.2.1 q.2.2.1))))),.string (str (kT b q.1)),.string (str (BT b q.1))]
def Jd(b:List UInt8):List Value:=[.string (str [97]),.int .i64 4,.string (str [42]),.int .i64 0,.string (str [42]),.string (str [45]),.string (str [45]),.string (str b),.string (str (iy b.length))]
theorem afr{b:List UInt8}{i:Nat}{q:xA}(hs:q.1<2)(Y:q.2.1<=9000):qF ((zb x b i q).map str)=Ej x b i q:=by
 show [_,bP .i64 (kt (str (gJ (tV q.1 i)))),_,bP .i64 (kt (str (gJ (q.2.1+1)))),_,_,_,_,_]=_
 rw[As (by unfold tV;split<;>omega),As (by omega)];rfl
theorem adl(b:List UInt8):qF ((yS [97] b (iy b.length)).map str)=Jd b:=by
 show [_,bP .i64 (kt (str [52])),_,bP .i64 (kt (str [48])),_,_,_,_,_]=_
 rw[show kt (str [52])=4 by decide+kernel,show kt (str [48])=0 by decide+kernel];rfl
def nX(x b:List UInt8)(n:Nat):Nat:=if lz x b n=[]then 1 else(lz x b n).length
def qN(x b:List UInt8)(n i:Nat):List Value:=if lz x b n=[]then Jd b else Ej x b i ((lz x b n).getD i (0,0,0,0))
theorem OX(x b:List UInt8)(n:Nat):(oi x b n).length=nX x b n:=by
 rw[Gs,nX];split
 ·rfl
 ·simp
theorem RQ(x b:List UInt8)(n:Nat):1<=nX x b n:=by
 unfold nX;split
 ·exact aj _
 ·rename_i h;exact List.length_pos_iff.2 h
theorem ajc(x b:List UInt8)(n:Nat):nX x b n<=2 *(x.length+1):=by
 have:=afq x b n;unfold nX;split<;>omega
theorem ahn{H:Nat}{l:ae}{b:List UInt8}{n:Nat}(hx:x.length<=200)(h:w.ownsRow H 42 9 l (oi x b n).length (qG (oi x b n))):∃G C,l=.slice (some ⟨G,0,none⟩) (nX x b n) C/\H<=G/\G<w.heap.size/\∀i j,i<nX x b n->j<9->w.cell? ⟨G,i *9+j,none⟩=(qN x b n i)[j]?:=by
 obtain⟨G,C,e,h1,h2,R⟩:=adk h (by rw[OX];exact RQ x b n);rw[OX]at e;refine⟨G,C,e,h1,h2,fun i j K I=>?_⟩;unfold qN;by_cases Y:lz x b n=[]
 ·rw[if_pos Y,<-adl];rw[nX,if_pos Y]at K;obtain rfl:i=0:=by omega
  exact R 0 j _ (by rw[Gs,if_pos Y];rfl) I
 ·rw[nX,if_neg Y]at K;have A:(lz x b n).getD i (0,0,0,0)∈lz x b n:=by rw[ai,aH K];exact bj _
  have D:=uD A;rw[if_neg Y,<-afr D.1 (by omega)];exact R i j _ (by rw[Gs,if_neg Y,aI,bT K];rfl) I
theorem afs(p t:ByteArray):∀f i j,∀c∈iC p t f i j,rJ c:=by
 intro f;induction f with
 |zero=>exact fun i j c Y=>by simp[iC]at Y
 |succ f K=>
  intro i j c Y;rw[iC]at Y;split at Y
  ·simp at Y
  ·split at Y
   ·rcases aA.1 Y with h|h
    ·exact K _ _ c h
    ·exact .inl (bm.1 h)
   ·split at Y
    ·rcases aA.1 Y with h|h
     ·exact K _ _ c h
     ·exact .inr (.inl (bm.1 h))
    ·rcases aA.1 Y with h|h
     ·exact K _ _ c h
     ·exact .inr (.inr (bm.1 h))
theorem RV(p t:ByteArray)(x:Nat)(h:x<(str (gO p t)).size):rJ (at8 (str (gO p t)) x):=by
 rw[gR]at h;rw[ny,ai,aH h];exact afs p t _ _ _ _ (bj _)
section
variable{p t s:ByteArray}
theorem Ek{x:Nat}(e:at8 s x=73):(gF p t s (x+1)).i=(gF p t s x).i+1/\(gF p t s (x+1)).j=(gF p t s x).j:=by
 rw[gF,mc,if_neg (by rw[e];decide),if_pos e];exact⟨rfl,rfl⟩
theorem A8{x:Nat}(e:at8 s x=77):(gF p t s (x+1)).i=(gF p t s x).i+1/\(gF p t s (x+1)).j=(gF p t s x).j+1:=by
 rw[gF,mc,if_pos e];split<;>exact⟨rfl,rfl⟩
theorem El{x:Nat}(e:at8 s x=68):(gF p t s (x+1)).i=(gF p t s x).i/\(gF p t s (x+1)).j=(gF p t s x).j+1:=by
 rw[gF,mc,if_neg (by rw[e];decide),if_neg (by rw[e];decide)];split<;>exact⟨rfl,rfl⟩
theorem QY(p t:ByteArray)(hL:∀i,i<s.size->rJ (at8 s i)):∀y x,x+y<=s.size->(gF p t s x).i<=(gF p t s (x+y)).i
 |0,x,_=>aj _
 |y+1,x,h=>by
  have Y:=QY p t hL y x (by omega);rw[<-Nat.add_assoc];rcases hL (x+y) (by omega)with e|e|e
  ·rw[(A8 e).1];omega
  ·rw[(Ek e).1];omega
  ·rw[(El e).1];omega
theorem CN{x:Nat}(hx:x<s.size):mE p t s.data.toList (x+1)=mE p t s.data.toList x+if at8 s x=77/\qh p t s x=true then 0 else 1:=by
 obtain⟨h1,h2⟩:=Aq p t s x (by omega);rw[mE,zI,<-h1,<-h2];rfl
theorem RX(L:List UInt8):∀x,mE p t L x<=x
 |0=>aj _
 |x+1=>by have:=RX L x;rw[mE,zI];split<;>omega
theorem Dk(h:j<t.size):t.data.toList.take (j+1)=t.data.toList.take j++[at8 t j]:=CV t j h
end
theorem aho(p t:ByteArray)(hp:p.size<=100)(G:t.size<=100)(hG:∀j,j<t.size->58<=(at8 t j).toNat/\at8 t j≠94):Rb p (str (gO p t)) (jL p t (str (gO p t))) (fun x=>(gF p t (str (gO p t)) x).i) (mE p t (gO p t)) (j_ p t (str (gO p t))) (jb p t (str (gO p t))) (fun x=>t.data.toList.take (gF p t (str (gO p t)) x).j):=by
 have hL:=RV p t;have hF:=Ow p t;have Q:=yg p t;have hd:(gO p t)=(str (gO p t)).data.toList:=rfl;have A:=Aq p t (str (gO p t)) (str (gO p t)).size (aj _);have P:=vv p t (p.size+t.size) p.size t.size (aj _);rw[bX (by simp),<-hd]at A;have I:(gF p t (str (gO p t)) (str (gO p t)).size).i=p.size:=A.1.trans P.1;have C:(str (gO p t)).size=(gO p t).length:=gR _;have K:∀x,mE p t (gO p t) x=mE p t (str (gO p t)).data.toList x:=fun x=>rfl;rw[<-C]at Q;generalize str (gO p t)=s at *;generalize gO p t=B at *;have hs:s.size<=900:=by omega
 have ix:∀x,x<s.size->(at8 s x=73\/at8 s x=77)->(gF p t s x).i<p.size:=fun x hx h=>by
  have:=QY p t hL (s.size-(x+1)) (x+1) (by omega);rw[show x+1+(s.size-(x+1))=s.size by omega,I]at this;rcases h with h|h
  ·rw[(Ek h).1]at this;omega
  ·rw[(A8 h).1]at this;omega
 have Y:∀{D:List UInt8} {k:Nat} {c:UInt8},D[k]?=some c->k<D.length/\at8 (str D) k=c:=fun{D k c} h=>⟨(cI.1 h).1,by rw[ny,ai,h];rfl⟩;refine⟨hL,fun x hx e=>?_,fun x hx e=>?_,fun x hx e=>?_,ake hs hL hF hG,⟨rfl,rfl,rfl⟩,⟨I,akf hL⟩,fun x hx=>?_⟩
 ·obtain⟨r1,r2⟩:=akg (p:=p) (t:=t) hx e;refine⟨ix x hx (.inl e),(Ek e).1,by rw[(Ek e).2],?_,r1,r2⟩;rw[K,K,CN hx,if_neg (by rw[e];simp)]
 ·obtain⟨f1,f2⟩:=(hF x hx).1 e;refine⟨f1,(A8 e).1,?_⟩;cases R:qh p t s x with
  |true=>
   left;obtain⟨r1,r2⟩:=aja hx e R;refine⟨?_,by rw[K,K,CN hx,if_pos ⟨e,R⟩];rfl,r1,r2⟩;rw[(A8 e).2,Dk f2,(I_ R).1]
  |false=>
   right;obtain⟨r1,r2,r3⟩:=ajb hs hL hF hG hx e R;obtain⟨F,U⟩:=Y r2;refine⟨r1,F,by rw[U];exact(hG _ f2).2,by rw[(A8 e).2,Dk f2,U],?_,r3⟩;rw[K,K,CN hx,if_neg (by rw[R];simp)]
 ·have f2:=(hF x hx).2 (by rw[e];decide) (by rw[e];decide);obtain⟨r0,r1,r2⟩:=akh hs hL hF hG hx e;refine⟨r0,(El e).1,by rw[K,K,CN hx,if_neg (by rw[e];simp)],?_⟩;by_cases st:x=0\/at8 s (x-1)≠68
  ·obtain⟨S,M,N,O⟩:=r1 st;obtain⟨F,U⟩:=Y S;obtain⟨J,L⟩:=Y M;refine⟨_,.inl ⟨st,F,U,rfl⟩,J,by rw[(El e).2,Dk f2,L],?_⟩;by_cases H:x+1<s.size/\at8 s (x+1)=68
   ·exact .inl ⟨H,N H⟩
   ·exact .inr ⟨H,O H⟩
  ·obtain⟨M,N,O⟩:=r2 st;obtain⟨J,L⟩:=Y M;refine⟨_,.inr ⟨st,rfl⟩,J,by rw[(El e).2,Dk f2,L],?_⟩;by_cases H:x+1<s.size/\at8 s (x+1)=68
   ·exact .inl ⟨H,N H⟩
   ·exact .inr ⟨H,O H⟩
 ·obtain⟨d1,d2,d3,d4⟩:=CU p t s x (by omega);have a1:=IH (p:=p) (t:=t) (s:=s) (s.size-x) x (by omega);have T:=RX (p:=p) (t:=t) B x;have l1:=(mN ((gF p t s x).n+ly p t s x) (by omega)).2;refine⟨by omega,by omega,?_,?_,?_⟩
  ·unfold j_;split<;>omega
  ·unfold jb;split
   ·omega
   ·rw[aY];omega
  ·rw[List.length_take];have:t.data.toList.length=t.size:=by simp
   omega
theorem Ye(p t:ByteArray)(w:af)(hp:p.size<=100)(U:t.size<=100)(hG:∀j,j<t.size->58<=(at8 t j).toNat/\at8 t j≠94):
  ax ak 32 #[.string p,.string (str (gO p t)),.string (str (jL p t (str (gO p t))))] w fun e w'=>e=.returned (.tuple #[.string t,.int .i64 (iY p t:Nat),.bool true])/\w'=w:=by
 have A:=yg p t;have R:(str (gO p t)).size=(gO p t).length:=gR _;have I:=Hh p t (str (gO p t)) (by omega);have h:=Xg (aho p t hp U hG) (by omega) (by omega) (by omega) w;have Y:=Aq p t (str (gO p t)) (str (gO p t)).size (aj _);have K:=vv p t (p.size+t.size) p.size t.size (aj _);rw[bX (by simp)]at Y;have D:(gF p t (str (gO p t)) (str (gO p t)).size).j=t.size:=Y.2.trans K.2;have H:mE p t (gO p t) (str (gO p t)).size=iY p t:=Dj p t _ _ _ (aj _);rw[D,H,bX (by simp)]at h;exact h
theorem Yf(p t:ByteArray)(w:af)(hp:p.size<=60)(U:t.size<=60):
  ax ak 31 #[.string (str (nO (str (gO p t))))] w fun e w'=>e=.returned (.string (str (gO p t)))/\w'=w:=by
 have K:=yg p t;have Y:(str (gO p t)).size=(gO p t).length:=gR _;have hr:=GO (str (gO p t)) (by omega);exact Yd _ _ 0 w (Zv (str (gO p t)) (by omega) (RV p t)) (by omega)
end
namespace Ph
open Conc Ren RowKit
def AM(w:af)(G N:Nat)(A:Nat->Nat->ByteArray)(y z:Nat->Nat):Prop:=∀i,i<N->w.cell? ⟨G,i *9,none⟩=some (.string (A i 0))/\w.cell? ⟨G,i *9+1,none⟩=some (ii (y i))/\w.cell? ⟨G,i *9+2,none⟩=some (.string (A i 2))/\w.cell? ⟨G,i *9+3,none⟩=some (ii (z i))/\w.cell? ⟨G,i *9+4,none⟩=some (.string (A i 4))/\w.cell? ⟨G,i *9+5,none⟩=some (.string (A i 5))/\w.cell? ⟨G,i *9+6,none⟩=some (.string (A i 6))/\w.cell? ⟨G,i *9+7,none⟩=some (.string (A i 7))/\w.cell? ⟨G,i *9+8,none⟩=some (.string (A i 8))
theorem AM.on{w':af}{G N:Nat}{A:Nat->Nat->ByteArray}{y z:Nat->Nat}(h:AM w G N A y z)(hG:G<w.heap.size)(Y:Below w.heap.size w w'):AM w' G N A y z:=fun i K=>by
 have e:∀k,w'.cell? ⟨G,k,none⟩=w.cell? ⟨G,k,none⟩:=fun k=>Y.cell (p:=⟨G,k,none⟩) hG;simp only[e];exact h i K
def kq(j m:Nat)(x y:ae):Value:=if Nat.ble j m then x else y
theorem abj(c:Nat)(Y:c<=1000)(W:af):ax PR 19 #[.int .i64 c,.int .i64 2] W fun e w'=>e=.returned (.int .i64 (c%2:Nat))/\w'=W:=by
 have:=PH (c:Int) 2 W ⟨by omega,by omega⟩ (by omega) (by omega);have e:kV (c:Int) 2=c%2:=by unfold kV;rw[if_neg (by omega)];rfl
 rw[e]at this;exact this
end Ph
section
open RowKit
def lp(x b:List UInt8)(n i c:Nat):ByteArray:=match(qN x b n i)[c]? with
 |some (.string s)=>s
 |_=>nS
def rC(x b:List UInt8)(n i c:Nat):Nat:=match(qN x b n i)[c]? with
 |some (.int _ z)=>z.toNat
 |_=>0
theorem aft(x b:List UInt8)(n i:Nat):qN x b n i=[.string (lp x b n i 0),.int .i64 (rC x b n i 1:Nat),.string (lp x b n i 2),.int .i64 (rC x b n i 3:Nat),.string (lp x b n i 4),.string (lp x b n i 5),.string (lp x b n i 6),.string (lp x b n i 7),.string (lp x b n i 8)]:=by
 unfold lp rC qN;split<;>rfl
theorem afu{G:Nat}{b:List UInt8}{n:Nat}(h:∀i j,i<nX x b n->j<9->w.cell? ⟨G,i *9+j,none⟩=(qN x b n i)[j]?):Ph.AM w G (nX x b n) (lp x b n) (fun i=>rC x b n i 1) (fun i=>rC x b n i 3):=by
 intro i Y;have k:=fun j K=>h i j Y K;rw[aft]at k;exact⟨k 0 (by omega),k 1 (by omega),k 2 (by omega),k 3 (by omega),k 4 (by omega),k 5 (by omega),k 6 (by omega),k 7 (by omega),k 8 (by omega)⟩
theorem Zx(s:ByteArray)(w:af)(hs:s.size<=200):
  ax ak 21 #[.string s] w fun e w'=>e=.returned (.string (iA s 0))/\w'=w:=by
 go_enter Tryz.func21,Tryz.ntmps21
 go_wp2
 go_loop [3,4] (fun t i=>SE s t i) (fun _ i=>(intOf i+1).toNat)
 case atStart=>
  rcases Nat.eq_zero_or_pos s.size with K|hp
  ·left;refine⟨by rw[K];rfl,yn ?_⟩;unfold iA;rw[dj (by rw[NZ];omega)];rfl
  ·refine .inr ⟨s.size-1,by omega,ij (by omega),yn ?_⟩;unfold iA;rw[dj (by rw[NZ];omega)];rfl
 case round=>
  rcases hrel with⟨rfl,rfl⟩|⟨j,Y,rfl,rfl⟩
  ·go_wp2
   go_ret
   exact⟨rfl,rfl⟩
  ·have H:=B8 s (j+1);go_wp2
   all_goals
    go_round
    case rel=>
     go_light
     first
      |exact zX s j Y _ (ajf _ ‹_›)
      |exact zX s j Y _ (ajg _ ‹_›)
      |exact zX s j Y _ (ajh _ ‹_›)
      |exact zX s j Y _ (aji _ ‹_›)
      |exact zX s j Y _ (ajj _ ‹_› ‹_› ‹_› ‹_›)
    case measure=>go_light;simp[intOf]
end
namespace Ph
open Conc Ren RowKit
def zJ(u:Nat->ae)(X B:ByteArray)(n l:Int)(L:ae):Array Value:=#[u 0,u 1,u 2,u 3,u 4,u 5,u 6,u 7,u 8,u 9,.string X,.string B,ii n,u 13,u 14,L,u 16,ii l,u 18,u 19,u 20,u 21,u 22,u 23,u 24,u 25,u 26,u 27,u 28,u 29,u 30,u 31,u 32,u 33,u 34,u 35,u 36,u 37,u 38,u 39,u 40,u 41,u 42,u 43,u 44,u 45,u 46,u 47,u 48,u 49,u 50,u 51,u 52,u 53,u 54,u 55,u 56,u 57,u 58,u 59,u 60,u 61,u 62,u 63,u 64,u 65,u 66,u 67,u 68,u 69,u 70,u 71,u 72,u 73,u 74,u 75,u 76,u 77,u 78,u 79,u 80,u 81,u 82,u 83,u 84,u 85,u 86,u 87,u 88,u 89,u 90,u 91,u 92,u 93,u 94,u 95,u 96,u 97,u 98,u 99,u 100,u 101,u 102,u 103,u 104,u 105,u 106,u 107,u 108,u 109,u 110,u 111,u 112,u 113,u 114,u 115,u 116,u 117,u 118,u 119,u 120,u 121,u 122,u 123,u 124,u 125,u 126,u 127,u 128,u 129,u 130,u 131,u 132,u 133,u 134,u 135,u 136,u 137,u 138,u 139,u 140,u 141,u 142,u 143,u 144,u 145,u 146,u 147,u 148,u 149,u 150,u 151,u 152,u 153,u 154,u 155,u 156,u 157,u 158,u 159,u 160,u 161,u 162,u 163,u 164,u 165,u 166,u 167,u 168,u 169,u 170,u 171,u 172,u 173,u 174,u 175,u 176,u 177,u 178,u 179,u 180,u 181,u 182,u 183,u 184,u 185,u 186,u 187,u 188,u 189,u 190,u 191,u 192,u 193,u 194,u 195,u 196,u 197,u 198,u 199,u 200,u 201,u 202,u 203,u 204,u 205,u 206,u 207,u 208,u 209,u 210,u 211,u 212,u 213,u 214,u 215,u 216,u 217,u 218,u 219,u 220,u 221,u 222,u 223,u 224,u 225,u 226,u 227]
structure Tl(X B M0 M1:ByteArray)(n N:Nat)(A:Nat->Nat->ByteArray)(f z a en st er:Nat->Nat)(sp tx:Nat->ByteArray):Prop where
 nm:∀i,i<N->A i 0=⟨#[97]⟩/\A i 2=⟨#[114]⟩
 fl:∀i,i<N->st i<2/\f i=16 *st i+if 0<i then 256 else 0
 ps:∀i,i<N->z i=a i+1/\a i<=en i/\en i<=X.size/\X.extract (a i) (en i)=tx i
 sD:∀i,i<N->∀W,ax PR 31 #[.string (A i 4)] W fun e w'=>e=.returned (.string (sp i))/\w'=W
 hrb:∀i,i<N->∀W,ax PR 32 #[.string (A i 7),.string (sp i),.string (A i 6)] W fun e w'=>e=.returned (.tuple #[.string (tx i),.int .i64 (er i:Nat),.bool true])/\w'=W
 TL:∀i,i<N->∀W,ax PR 26 #[.string (A i 5)] W fun e w'=>e=.returned (.int .i64 (er i:Nat))/\w'=W
 le:∀i,i<N->er i<=n
 ba:∀i,i<N->A i 7=(if st i=0 then B else iA B 0)/\A i 8=(if st i=0 then M0 else M1)
 up:∀i,i+1<N->st (i+1)=st i->en i<en (i+1)
theorem below_grow{B:Nat}{w1:af}(h:Below B w w1)(Y:B<=w1.heap.size)(n:Nat)(os:Array Obj):Below B w (Go.Sort.grow (w1.drewN n) os):=by
 refine⟨h.os,h.tape,h.output,aJ h.size (by simp[Go.Sort.grow]),fun k hk=>?_⟩;have:(Go.Sort.grow (w1.drewN n) os).heap[k]?=w1.heap[k]?:=by
  show(w1.heap++os)[k]?=_
  rw[Array.getElem?_append_left (by omega)]
 rw[this];exact h.block k hk
theorem NV(n:Nat)(w:af)(hn:n<=60):
  ax PR 30 #[.int .i64 n] w fun e w'=>e=.returned (.string (str (iy n)))/\∃os,w'=Go.Sort.grow w os:=by
 go_enter Tryz.func30,Tryz.ntmps30
 go_wp2
 go_loopw [3,4] (fun t i wr=>∃k:Nat,k<=n/\i=.int .i64 k/\t=.string (str (iy k))/\Hid (∃os,wr=Go.Sort.grow w os)) (fun _ i _=>n-(intOf i).toNat)
 case atStart=>exact⟨0,bp _,rfl,rfl,laid ⟨#[],by simp⟩⟩
 case round=>
  obtain⟨k,hk,rfl,rfl,Y⟩:=hrel;have D:(str (iy k)).size<=60:=by rw[gR,nL];omega
  by_cases H:k<n
  ·have h1:=PI wr (33+(k:Int));have K:Hid (∀o,∃os,wr.alloc o=Go.Sort.grow w os):=laid fun o=>by
    obtain⟨os,h⟩:=Y.out;exact⟨os++#[o],by rw[Go.Sort.alloc_eq_grow,h,Go.Sort.grow_grow]⟩
   go_wp2
   go_roundw
   case rel=>go_light;exact⟨k+1,by omega,by go_num,yn (by rw[OA,<-Cw,UInt8.ofNat_add];rfl),laid (K.out _)⟩
   case measure=>go_light;simp[intOf];omega
  ·go_wp2
   go_ret
   obtain rfl:k=n:=by omega
   exact⟨rfl,Y.out⟩
structure WQ(P:cT)(ops:Array Oper)(C:af->Prop)(Q:Act->Prop)(l:List Oper)(a:Act):Prop where
 out:wpQuiet P ops C Q l a
theorem WQ.step{P:cT}{ops:Array Oper}{C:af->Prop}{Q:Act->Prop}{a:Act}{o:Oper}{rest:List Oper}(h:∀K:Act->Prop,(∀a,WQ P ops C Q rest a->K a)->if Region.wanted o (yielded ops a.tmps)then o.quiet P a C K else K (a.put o.dst undef)):WQ P ops C Q (o::rest) a:=
 ⟨wpQuiet_step fun K Y=>h K fun a h=>Y a h.out⟩
end Ph
end
end Go.Proofs.YtdcjnhipenbcfaaGreatDoor
