/-
  Own text. Part 6 of what the claim rests on.
-/
import Derived.Test.YtdcjnhipenbcfaaGreatDoorPk5
import Derived.Conc.HoldsTime
import Derived.StillGives
import Derived.LaidLaws
import Derived.SevenTiedAt
import Derived.Deep.AppendLies
import Derived.Deep.RegionLaw
import Derived.Maps.Range
import Derived.Conc.CompanyDraw
set_option linter.unusedVariables false
set_option linter.unusedSectionVars false
set_option linter.unusedSimpArgs false
set_option maxRecDepth 100000
set_option maxHeartbeats 16000000
open Array renaming getElem?_eq_getElem->aP,getElem?_eq_some_iff->bD,getElem?_toList->bE,replicate->bF,all_eq_true->cJ,getElem?_eq_none->cK,mem_of_getElem?->cL
open Bool renaming toNat_le->aN,and_eq_true->cM,not_eq_true->cO
open ByteArray renaming size_extract->bU
open Classical renaming byContradiction->cQ
open Go renaming Value->ae,World->af,undef->ah,Frame->aj,maxLen->ao,TypeId->ax,cell_of_row->ay,execOp->aA,FuncId->aD,Calls->aI,bodyPost->aL,stepG->aT,block_lt_of_cell->a_,typeInfo->bg,sizeOf->bq,isAgg->bC,Operand->bJ,bodyPost_ret->bO,heap_alloc_old->bP,results_tmp->bQ,run_store->bR,wpList_append_own->bS,wpOps->bT,info_parts->cg,intKeys->cj,asIntOf->cC,plainElem->cD,run_underlying->cE,sizedMet->cG,storeCells->cH,storeVar->cI,events_store->dq,linearise_go_acc->dt
open Go.Claim7 renaming isSixth->cP
open Go.Exit renaming normal->ck
open Go.Frame renaming eval_at'->bG,eval_at->cm
open Go.Input renaming okWide->cR
open Go.Instr renaming loadAt->aX,indexAt->bV,lookup->cS,storeAt->cT
open Go.IntKind renaming i64->aH
open Go.IntWalk renaming i64_in->aU
open Go.Lib renaming tabData->bW
open Go.OpenSpec renaming ofChange->bZ
open Go.Program renaming globalNamed->dh
open Go.Proofs.Tryz renaming f92->aB,f111->aY,f38->aZ,func38->bm,func60->bB,func147->bK,func92->bL,ntmps147->bM,underlying79->bN,f39->b_,func111->cy,underlying5->cz,underlying133->dj
open Go.Proofs.YtdcjnhipenbcfaaGreatDoor.Ph.gd renaming gh->ar,alloc->aW,vf->bp
open Go.Proofs.YtdcjnhipenbcfaaGreatDoor.Ren.gd renaming tree->bc
open Go.Region renaming schedule->cx,wanted->di
open Go.RowKit renaming Below->ai
open Go.RowKit.Below renaming refl->bh
open Go.Value renaming cells->cA,int->cB
open Go.World renaming cell?->ak,frozen?->aQ,drewN_drewN->cf,news_of_block->dk,ownsRow_nil->dp
open Int renaming natCast_nonneg->cU
open List renaming length_append->aJ,getElem?_eq_getElem->aM,getD_eq_getElem?_getD->aO,map_append->aV,mem_append->bj,all_eq_true->br,getElem?_map->bt,mem_map->bu,length_pos_iff->bH,append_assoc->bX,getElem?_take_of_lt->bY,append_nil->cn,getElem?_take->cu,getElem_mem->cv,map_map->cw,getElem?_eq_none->cV,mem_flatMap->cW,mem_of_getElem?->cX,mem_singleton->cY,nil_append->cZ,pairwise_map->c7,reverse_singleton->c8,singleton_append->c9,take_length->c_
open Nat renaming le_trans->au,le_refl->az,lt_of_lt_of_le->aK,zero_le->bA,zero_add->bI,add_assoc->da
open Option renaming getD_some->bk,bind_some->db,isNone_iff_eq_none->dc
open Prod.mk renaming injEq->de
namespace Go.Proofs.YtdcjnhipenbcfaaGreatDoor
noncomputable section
abbrev fb:=ByteArray
variable {listed:Array Bool}{es:Array Event}{a':Array ae}{apart fl:Bool}{X XN ref rm rn:fb}{f1:aj}{fn:aD}{kd:Int}{cs l:List aj}{site:List Item}{ks gq:List Nat}{TL:List UInt8}{xs:List ae}{Z Z' Z1:Loc->Prop}{By Fd Fp Mp Rf Sg b' b4 b5 b6 cap j n:Nat}{g:Nat->Nat}{X':Nat->Prop}{o':Obj}{PP:Program}{e t':ax}{x x' y z z0 z1 z2:ae}{v v' v0 v1 w w' w0:af}
section
theorem XV{H:Type}{enc:ax×ae->H}{C:Checked}{os:Os}{f:aD}{fn:Func}{s:ChangeSpec}{conds:List _}{X:af->Array _->Prop}(w0:af)(args:Array _)(fuel:Nat)(A:w0.os=os)
  (U:(w0.forCall (fun _ _=>0) ⟨#[],args,[]⟩).Shaped C.prog)
  (D:Input.okWideB C.prog (w0.forCall (fun _ _=>0) ⟨#[],args,[]⟩) f ⟨#[],args,[]⟩=true)
  (Y:s.preB enc C.prog fn conds apart (w0.forCall (fun _ _=>0) ⟨#[],args,[]⟩).memory args fuel=true)
  (B:s.sizedB enc C.prog fn apart (w0.forCall (fun _ _=>0) ⟨#[],args,[]⟩).memory args fuel=true)
  (F:X (w0.forCall (fun _ _=>0) ⟨#[],args,[]⟩).memory args):
  ∃(w:af) (tape:Tape) (i:Input),w.os=os/\(w.forCall tape i).Shaped C.prog/\i.vars=[]/\cR C.prog (w.forCall tape i) .any w.heap.size f i/\
   ((s.pre enc C.prog fn conds apart (w.forCall tape i).memory i.args/\X (w.forCall tape i).memory i.args)/\cG enc C.prog fn (bZ s) apart (w.forCall tape i).memory i.args)/\
   ({calm:=true}:Assume).holds C.prog (lone (Frame.enter C.prog f i.args .normal) [] (w.forCall tape i)):=by
 have h:=Input.okWide_of_okWideB (base:=w0.heap.size) D;refine⟨w0,fun _ _=>0,⟨#[],args,[]⟩,A,U,h.1,h.2,⟨⟨ChangeSpec.pre_of_preB Y,F⟩,sizedMet_of_sizedB B⟩,?_⟩;exact⟨by simp,fun _ _ _ _=>rfl,by simp,by simp,by simp⟩
theorem abQ{p:Pinned}{s:OpenSpec}{c:OpenClaim}(kinds:List _)(tests:Bool)(Y:Bool×String)(lk:Bool)
  (A:c.holds p s)(hw:c.wfByText s=true)(H:c.laidByTextAt .later p kinds tests)
  (ga:c.start=.entering)(D:c.noBlocks=false/\c.again=false)(C:p.checked.prog.mainIs=some (Y.1,Y.2.toList))(F:(!Y.1&&Y.2.isEmpty&&!lk)=false)
  (B:∀f fn,p.checked.prog.funcNamed c.func=some f->p.checked.prog.funcs[f]?=some fn->lk=p.checked.prog.looks []/\∀(j:Nat) t,fn.params[j]?=some t->p.checked.prog.wantsStandIn t=false)
  (U:true=c.goesBy p.checked.prog):
  Claim7.holds p (.plain s) {stood:={row:=c,standIns:=[],harness:=Y,looks:=lk},kinds:=[],alts:=[],goes:=true,laidByText:=true,laidKinds:=kinds,laidTests:=tests,laidLooks:=.later}:=by
 have K:cP {stood:={row:=c,standIns:=[],harness:=Y,looks:=lk},kinds:=[]}=false:=by simpa[cP]using F
 exact⟨Claim7.tied_new_at .later kinds tests (Claim7.new_of_sixth A Y lk ga D C K B) hw,(fun _ h=>by cases h),H,(fun h=>by cases h),U⟩
end
section
open RowKit
def oG(w:af)(p:Nat)(e d:Nat):Prop:=w.heap[p]?=some (.cells #[.int .i64 (e:Int),.int .i64 (d:Int)] 173 (0,0))
theorem oG.c0{p e d:Nat}(h:oG w p e d):w.cell? ⟨p,0,none⟩=some (.int .i64 e):=by rw[ay w p 0 _ _ _ h];rfl
theorem oG.c1{p e d:Nat}(h:oG w p e d):w.cell? ⟨p,1,none⟩=some (.int .i64 d):=by rw[ay w p 1 _ _ _ h];rfl
theorem oG.below{p e d B:Nat}(h:oG w p e d)(H:ai B w w')(Y:p<B):oG w' p e d:=by unfold oG at *;rw[H.block p Y];exact h
theorem oG.drewN{p e d:Nat}(h:oG w p e d)(k:Nat):oG (w.drewN k) p e d:=h
theorem l_.drewN{G:Nat}(h:l_ w G g n)(k:Nat):l_ (w.drewN k) G g n:=h
theorem Sm(X o:fb)(e:Nat):∀c j,ns X o e c j<=c+j
 |0,j=>by simp[ns]
 |c+1,j=>CQ _ _ _ _ j
theorem abR(s:fb):str (ki s)=rev8 s:=by unfold rev8;rw[Cy]
theorem YR(X P:fb)(e d c0:Nat)(w:af)(hX:X.size<=200)(hP:P.size<=100)(he:e<=X.size)(hd:d<=1000)(hc:c0<=e)(h1:iX P (X.extract (e-c0) e)<=d)(h2:∀c,c<c0->d<iX P (X.extract (e-c) e)):
  aI Tryz.prog 125 #[.string X,.string P,.agg #[.int .i64 (e:Int),.int .i64 (d:Int)]] w fun r w'=>r=.returned (.int .i64 ((e-c0:Nat):Int))/\ai w.heap.size w w':=by
 have i:Hid (ns X (rev8 P) e c0 P.size<=d):=laid (by rw[QF X P e c0 he hc];exact h1);have h:Hid (∀c,c<c0->d<ns X (rev8 P) e c P.size):=laid fun c E=>by rw[QF X P e c he (by omega)];exact h2 c E
 clear h1 h2;have Z:(rev8 P).size=P.size:=vL P;have V:Hid (∀W:af,aI Tryz.prog 129 #[.string P] W fun e w'=>e=.returned (.string (rev8 P))/\ai W.heap.size W w'):=laid fun W=>by
  have:=MU P W (by omega);rw[abR]at this;exact this
 generalize rev8 P=R at *;have g:oG (w.alloc (.cells #[.int .i64 (e:Int),.int .i64 (d:Int)] 173)) w.heap.size e d:=heap_alloc_new w _;have A:∀o,ai w.heap.size w (w.alloc o):=fun o=>(bh _ _).alloc (az _) o;have N:=laid (fun W:af=>Fy R.size W (by omega));rw[<-Z]at i h hP;clear Z;have T:=laid g;clear g
 go_enter Tryz.func125,Tryz.ntmps125
 go_wp2_with fail
 refine(V.out _).mono ?_;rintro e1 w1 ⟨rfl,B⟩;have J:=T.out.below B (by simp);have D:ai w.heap.size w w1:=(A _).trans (B.mono (by simp));clear B T V;go_wp2_with fail
 refine(N.out _).mono ?_;rintro e2 w2 ⟨rfl,z,C⟩;have a:w.heap.size<w1.heap.size:=by have:=J.c0;exact a_ this
 have L:=J.below C a;have U:ai w.heap.size w w2:=D.trans (C.mono D.size);clear C N J D A;have d0:=L.c0;have M:=laid L;have Q:=laid z;clear L z;generalize w1.heap.size=H1 at *;go_wp2
 go_loopw [8,9] (fun lv sv wr=>∃c G:Nat,sv=.int .i64 ((e:Int)-(c:Int))/\lv=.slice (some ⟨G,0,none⟩) (R.size+1) (R.size+1)/\c<=c0/\l_ wr G (ns X R e c) (R.size+1)/\oG wr w.heap.size e d/\ai w.heap.size w wr) (fun _ sv _=>(intOf sv).toNat)
 case atStart=>exact⟨0,H1,by simp,rfl,bA _,Q.out,M.out,U⟩
 case round=>
  obtain⟨c,G,rfl,rfl,E,Y,K,H⟩:=hrel;clear Q M U d0;have l:=K.c0;have c1':=K.c1;have x:=Y.cell R.size (by omega);have v:=Sm X R e c R.size;by_cases y:c<c0
  ·have u:(d:Int)<(ns X R e c R.size:Int):=by have:=h.out c y;omega
   obtain⟨m,b⟩:∃m:Nat,m=e-(c+1):=⟨_,rfl⟩;have ao7:aH.wrap ((e:Int)-(c:Int)-1)=(m:Int):=by rw[show(e:Int)-(c:Int)-1=(m:Int) by omega];exact aU _ (by omega)
   have k:aH.wrap ((e:Int)-(m:Int))=(c:Int)+1:=by rw[show(e:Int)-(m:Int)=(c:Int)+1 by omega];exact aU _ (by omega)
   have t:m<X.size:=by omega
   have p:=kZ X m t;have b1:(m:Int)<(X.size:Int):=by omega
   have b2:(0:Int)<=(m:Int):=cU _;have S:Hid (∀W:af,l_ W G (ns X R e c) (R.size+1)->aI Tryz.prog 145 #[.slice (some ⟨G,0,none⟩) (R.size+1) (R.size+1),.int .i64 ((c:Int)+1),.int .u8 ((at8 X m).toNat:Int),.string R] W fun e' w'=>e'=.returned (.slice (some ⟨W.heap.size,0,none⟩) (R.size+1) (R.size+1))/\l_ w' W.heap.size (ns X R e (c+1)) (R.size+1)/\ai W.heap.size W w'):=laid fun W hW=>by
    have:=FD (ns X R e c) (c+1) (at8 X m) R G W (by omega) (by omega) (fun j hj=>by have:=Sm X R e c j;omega) hW;have e1:ns X R e (c+1)=mD (ns X R e c) (c+1) (at8 X m) R:=by rw[b];rfl
    rw[e1];rw[show((c+1:Nat):Int)=(c:Int)+1 by omega]at this;exact this
   have HL:=laid Y;have O:=laid K;have HM:=laid b;clear Y K b;generalize ns X R e c R.size=LV at *;have f:w.heap.size<wr.heap.size:=a_ l;go_wp2_with fail
   go_quiet(fail)
   go_wp2_with fail
   go_region_held3 (fun w'=>w'.cell? ⟨w.heap.size,0,none⟩=some (.int .i64 (e:Int)))
    (first|go_keep|(rw[I.cell (by first|exact f|(simp;omega))];assumption))
    (first|(go_at_call 145;refine(S.out _ (HL.out.drewN _)).mono ?_;rintro e' w' ⟨rfl,n,I⟩))
   have F:ai w.heap.size w w':=(Go.below_drewN H _).trans (I.mono H.size);have s:=oG.below (w:=wr.drewN _) (O.out.drewN _) I f;clear I S HL O x u v p;go_wp2
   go_roundw
   case rel=>go_light;exact⟨c+1,_,by have:=HM.out;congr 1;omega,rfl,by omega,n,s,F⟩
   case measure=>go_light;have:=HM.out;simp[intOf];omega
  ·have q:c=c0:=by omega
   have hle:¬((d:Int)<(ns X R e c R.size:Int)):=by have:=i.out;rw[q];omega
   have HC:Hid ((e:Int)-(c:Int)=((e-c0:Nat):Int)):=laid (by omega);generalize ns X R e c R.size=LV at *;clear q;go_wp2_with fail
   go_quiet(fail)
   go_wp2
   go_ret
   exact⟨qW HC.out,Go.below_drewN H _⟩
theorem aft(p t:fb)(i:Nat):mD (dT p t i) (i+1) (at8 p i) t=dT p t (i+1):=by
 funext j;induction j with
 |zero=>rw[mD,dT]
 |succ j Y=>rw[mD,Y,dT];rfl
theorem adC(p t:fb):(id:Nat->Nat)=dT p t 0:=by
 funext j;rw[dT];rfl
theorem adD{wr wz:af}{B G g' DV i:Nat}{p t:fb}{o:Obj}(A:nW wr B p t (.slice (some ⟨G,0,none⟩) (i+1) cap) (i+1) g)(N:B<=wr.heap.size)(U:ai wr.drew.heap.size wr.drew w')(C:l_ w' wr.heap.size (dT p t (i+1)) (t.size+1))
  (H:(w'.alloc o).grownBy wz (some G))(D:wz.ownsRow B 25 1 (.slice (some ⟨g',0,none⟩) (i+1+1) DV) (i+1+1) ((List.range (i+1)).map (sv t g)++[.slice (some ⟨wr.heap.size,0,none⟩) (t.size+1) (t.size+1)])):
  nW wz B p t (.slice (some ⟨g',0,none⟩) (i+1+1) DV) (i+1+1) (fun x=>if x<i+1 then g x else wr.heap.size):=by
 have L:wr.drew.ownsRow B 25 1 _ (i+1) _:=A.own;have M:=uj L U;have K:∀(k:Nat) (c:Array ae),w'.heap[k]?=some (.cells c 3 (0,0))->wz.heap[k]?=some (.cells c 3 (0,0)):=fun k c hk=>by
  have I:k<w'.heap.size:=by
   rcases Nat.lt_or_ge k w'.heap.size with h'|h'
   ·exact h'
   ·simp_all
  rw[H.block k (by simp;omega) (fun e=>Lib.ownBlock_ne M hk (by decide) e.symm),bP w' _ I];exact hk
 refine⟨?_,fun x R=>?_,fun x R=>?_⟩
 ·have J:(List.range (i+1+1)).map (sv t fun x=>if x<i+1 then g x else wr.heap.size)=(List.range (i+1)).map (sv t g)++[.slice (some ⟨wr.heap.size,0,none⟩) (t.size+1) (t.size+1)]:=by
   rw[List.range_succ,aV];congr 1
   ·apply List.map_congr_left;intro x R;rw[List.mem_range]at R;simp[sv,R]
   ·simp[sv]
  rw[J];exact D
 ·by_cases Y:x<i+1
  ·simp only[Y,if_true];have hr:=A.rows x Y;have I:=hr.lt;refine K _ _ ?_;rw[U.block (g x) I];exact hr
  ·have F:x=i+1:=by omega
   subst F;simp only[Y,if_false];exact K _ _ C
 ·by_cases Y:x<i+1
  ·simp only[Y,if_true];exact A.base x Y
  ·simp only[Y,if_false];exact N
theorem Xl(p t:fb)(w:af)(hp:p.size<=100)(h:t.size<=300):
  aI Tryz.prog 146 #[.string p,.string t] w fun e w'=>∃v g,e=.returned v/\nW w' w.heap.size p t v (p.size+1) g/\ai w.heap.size w w':=by
 obtain⟨i0,I,f,l,r⟩:=cg QR;have L:=laid (fun W:af=>Fy t.size W h)
 go_enter Tryz.func146,Tryz.ntmps146
 go_wp2_with fail
 refine(L.out _).mono ?_;rintro e1 w1 ⟨rfl,F,A⟩;have B:Hid (nW (w1.alloc (.cells #[.slice (some ⟨w.heap.size,0,none⟩) (t.size+1) (t.size+1)] 25)) w.heap.size p t (.slice (some ⟨w1.heap.size,0,none⟩) 1 1) 1 (fun _=>w.heap.size)):=laid (by
  have hl:=F.lt;refine⟨⟨rfl,.inr ⟨w1.heap.size,1,_,rfl,A.size,heap_alloc_new w1 _,az _,by unfold ao;omega,rfl,rfl⟩⟩,fun x hx=>?_,fun x hx=>az _⟩;have:x=0:=by omega
  subst this;unfold re;rw[bP w1 _ hl];have:=F;rw[adC p t]at this;exact this)
 have U:ai w.heap.size w (w1.alloc (.cells #[.slice (some ⟨w.heap.size,0,none⟩) (t.size+1) (t.size+1)] 25)):=A.alloc A.size _;clear F A L;go_wp2
 go_loopw [5,13] (fun v iv wr=>∃(i:Nat) (g:Nat->Nat),iv=.int .i64 (i:Int)/\i<=p.size/\nW wr w.heap.size p t v (i+1) g/\ai w.heap.size w wr) (fun _ iv _=>p.size-(intOf iv).toNat)
 case atStart=>exact⟨0,_,rfl,bA _,B.out,U⟩
 case round=>
  obtain⟨i,g,rfl,Eb,K,Y⟩:=hrel;clear B U;by_cases z:i<p.size
  ·obtain⟨G,cap,rfl,vj,b⟩:=K.get (by omega);have E:=b i (by omega);have c:=kZ p i z;have b1:(i:Int)<(p.size:Int):=by omega
   have b2:(0:Int)<=(i:Int):=cU _;have b3:(i:Int)<(i:Int)+1:=by omega
   have x1:aH.wrap ((i:Int)+1)=(i:Int)+1:=aU _ (by omega);have T:=K.rows i (by omega);have Z:w.heap.size<=G:=by
    rcases K.own.2 with⟨X,_⟩|⟨g1,m,n,X,V,_⟩
    ·cases X
    ·cases X;exact V
   have M:=laid fun W P=>by
    have:=FD (dT p t i) (i+1) (at8 p i) t (g i) W h (by omega) (fun j hj=>by have:=qp p t i j;omega) P;rw[aft]at this;rw[show((i+1:Nat):Int)=(i:Int)+1 by omega]at this;exact this
   have s:Hid (l_ wr (g i) (dT p t i) (t.size+1)):=laid T;have O:=laid K;have N:Hid (∀(W:af),ai wr.drew.heap.size wr.drew W->∀o:Obj,(W.alloc o).ownsRow w.heap.size 25 1 (.slice (some ⟨G,0,none⟩) (i+1) cap) (i+1) ((List.range (i+1)).map (sv t g))):=laid fun W P o=>by
    have V:wr.drew.ownsRow w.heap.size 25 1 (.slice (some ⟨G,0,none⟩) (i+1) cap) (i+1) ((List.range (i+1)).map (sv t g)):=K.own;exact(uj V P).alloc _
   have J:Hid (∀(W:af),ai wr.drew.heap.size wr.drew W->∀o:Obj,w.heap.size<=(W.alloc o).heap.size):=laid fun W P o=>by have V:=Y.size;have h2:=P.size;simp at h2⊢;omega
   clear K T b;go_wp2_with fail
   go_region_law
    (first
     |(go_simp;go_at_call 145;refine(M.out wr.drew s.out).mono ?_;rintro e' w' ⟨rfl,S,H⟩)
     |(refine step_append_lies _ rfl _ _ 162 rfl w.heap.size 25 i0 (.slice none 0 0) 1 24 Tryz.underlying162 I f l r rfl (by decide) _ (i+1) _ rfl (N.out w' H _) ⟨w'.heap.size,0,none⟩ 1 1 [.slice (some ⟨wr.heap.size,0,none⟩) (t.size+1) (t.size+1)] rfl rfl (dk (heap_alloc_new w' _)) (fun u hu=>by simp at hu;subst hu;rfl) (by omega) (by unfold ao;omega) (by omega) (J.out w' H _) _ rfl ?_;intro g' y wz R D q a))
   all_goals
    have d:=adD O.out Y.size H S D R;have C:ai w.heap.size w wz:=((Go.below_drewN Y 1).trans (H.mono Y.size)).trans (Below.grown (bh _ _|>.alloc (by have:=H.size;have:=Y.size;simp at *;omega) _) D (by have:=H.size;have:=Y.size;simp at *;omega) (fun k e=>by cases e;exact Z));clear M s O N J S H R D q E c;go_wp2
    go_roundw
    case rel=>go_light;exact⟨i+1,_,by go_num,by omega,d,C⟩
    case measure=>go_light;simp[intOf];omega
  ·have Q:i=p.size:=by omega
   have HE:Hid (nW wr w.heap.size p t u5 (p.size+1) g):=laid (by rw[<-Q];exact K);clear Q K;go_wp2
   go_ret
   exact⟨u5,g,rfl,HE.out,Y⟩
def letter(p t:fb)(i j:Nat):UInt8:=if mi p t i j=true then 77 else if mE p t i j=true then 73 else 68
theorem XW(p t:fb)(B:Nat)(v:ae)(g:Nat->Nat)(i j:Nat)(w:af)(hp:p.size<=100)(ht:t.size<=300)(I:i<=p.size)(m:j<=t.size)(M:nW w B p t v (p.size+1) g):
  aI Tryz.prog 147 #[v,.string p,.string t,.int .i64 (i:Int),.int .i64 (j:Int)] w fun e w'=>e=.returned (.int .u8 ((letter p t i j).toNat:Int))/\∃d,w'=w.drewN d:=by
 obtain⟨G,cap,rfl,y,s⟩:=M.get (by omega);have S:=laid s;have P:=laid (fun i I j m=>(M.rows i I).cell j m);clear M s;by_cases F:i=0
 ·have D:Hid (letter p t i j=68):=laid (by unfold letter mi mE;rw[F];rfl);have T4:decide ((0:Int)<(i:Int))=false:=by simp;omega
  have L0:¬(0:Int)<(i:Int):=by omega
  clear S P
  go_enter bK,bM
  go_wp2_with fail
  go_quiet(fail)
  go_wp2_with fail
  go_quiet(fail)
  rw[cf];go_wp2
  go_ret
  exact⟨by rw[D.out];rfl,_,rfl⟩
 ·obtain⟨a,R⟩:∃a,i=a+1:=⟨i-1,by omega⟩;have q:(0:Int)<(i:Int):=by omega
  have z:0<i:=by omega
  have hi3:decide (0<i)=true:=decide_eq_true z;have hi4:decide ((0:Int)<(i:Int))=true:=decide_eq_true q;have x:=S.out i (by omega);have u:=S.out a (by omega);have r1:=P.out i (by omega) j (by omega);have r3:=P.out a (by omega) j (by omega);have b1:(0:Int)<=(i:Int):=by omega
  have b2:(i:Int)<(p.size:Int)+1:=by omega
  have b3:(0:Int)<=(a:Int):=by omega
  have b4:(a:Int)<(p.size:Int)+1:=by omega
  have b5:(0:Int)<=(j:Int):=by omega
  have b6:(j:Int)<(t.size:Int)+1:=by omega
  have vi:aH.wrap ((i:Int)-1)=(a:Int):=by rw[show(i:Int)-1=(a:Int) by omega];exact aU _ (by omega)
  have hX:dT p t i j<=1000:=by have:=qp p t i j;omega
  have hZ:dT p t a j<=1000:=by have:=qp p t a j;omega
  have z1:aH.wrap ((dT p t a j:Int)+1)=(dT p t a j:Int)+1:=aU _ (by omega);have K:Hid (mE p t i j=decide (dT p t i j=dT p t a j+1)):=laid (by unfold mE;rw[R];simp);by_cases A:j=0
  ·have hd2:decide ((0:Int)<(j:Int))=false:=by simp;omega
   have T:Hid (mE p t i j=true):=laid (by rw[A];exact H0 p t i (by omega));have D:Hid (letter p t i j=73):=laid (by unfold letter;rw[T.out];unfold mi;rw[A];simp);have N:((dT p t i j:Int)==(dT p t a j:Int)+1)=true:=by
    have r:=T.out;rw[K.out]at r;have:=of_decide_eq_true r;simp;omega
   have hj9:¬(0:Int)<(j:Int):=by omega
   have l:¬0<j:=by omega
   have hj7:decide (0<j)=false:=decide_eq_false l;clear T K R A F;generalize dT p t i j=X at *;generalize dT p t a j=Z at *
   go_enter bK,bM
   go_wp2_with fail
   go_quiet(fail)
   go_wp2_with fail
   go_quiet(fail)
   rw[cf];go_wp2
   go_ret
   exact⟨by rw[D.out];rfl,_,rfl⟩
  ·obtain⟨b,L⟩:∃b,j=b+1:=⟨j-1,by omega⟩;have c:(0:Int)<(j:Int):=by omega
   have f:0<j:=by omega
   have hj3:decide (0<j)=true:=decide_eq_true f;have hj4:decide ((0:Int)<(j:Int))=true:=decide_eq_true c;have r2:=P.out a (by omega) b (by omega);have b7:(0:Int)<=(b:Int):=by omega
   have b8:(b:Int)<(t.size:Int)+1:=by omega
   have n:(a:Int)<(p.size:Int):=by omega
   have k:(b:Int)<(t.size:Int):=by omega
   have V:a<p.size:=by omega
   have E:b<t.size:=by omega
   have JS:=kZ p a V;have JU:=kZ t b E;have pj:aH.wrap ((j:Int)-1)=(b:Int):=by rw[show(j:Int)-1=(b:Int) by omega];exact aU _ (by omega)
   have hY:dT p t a b<=1000:=by have:=qp p t a b;omega
   have h:=Sr (at8 p a) (at8 t b)
   have H:Hid (mi p t i j=decide (dT p t i j=dT p t a b+co (at8 p a) (at8 t b))):=laid (by unfold mi;rw[R,L];simp[cost,co];rfl);have U:=laid (fun W:af=>PO (at8 p a) (at8 t b) W);have y1:aH.wrap ((dT p t a b:Int)+(co (at8 p a) (at8 t b):Int))=(dT p t a b:Int)+(co (at8 p a) (at8 t b):Int):=aU _ (by omega);clear R L F A;generalize dT p t i j=X at *;generalize dT p t a j=Z at *;generalize dT p t a b=Y at *;generalize co (at8 p a) (at8 t b)=C at *;by_cases J:X=Y+C
   ·have D:Hid (letter p t i j=77):=laid (by unfold letter;rw[H.out,decide_eq_true J];rfl);have o:((X:Int)==(Y:Int)+(C:Int))=true:=by simp;omega
    clear H K J
    go_enter bK,bM
    go_wp2_with fail
    go_quiet((go_at_call 165;refine(U.out _).mono ?_;rintro e O ⟨rfl,rfl⟩;exact⟨rfl,_,rfl⟩))
    go_wp2
    go_ret
    exact⟨by rw[D.out];rfl,_,rfl⟩
   ·have o:((X:Int)==(Y:Int)+(C:Int))=false:=by simp;omega
    by_cases Q:X=Z+1
    ·have D:Hid (letter p t i j=73):=laid (by unfold letter;rw[H.out,decide_eq_false J,K.out,decide_eq_true Q];rfl);have N:((X:Int)==(Z:Int)+1)=true:=by simp;omega
     clear H K J Q
     go_enter bK,bM
     go_wp2_with fail
     go_quiet((go_at_call 165;refine(U.out _).mono ?_;rintro e O ⟨rfl,rfl⟩;exact⟨rfl,_,rfl⟩))
     go_wp2_with fail
     go_quiet(fail)
     rw[cf];go_wp2
     go_ret
     exact⟨by rw[D.out];rfl,_,rfl⟩
    ·have D:Hid (letter p t i j=68):=laid (by unfold letter;rw[H.out,decide_eq_false J,K.out,decide_eq_false Q];rfl);have N:((X:Int)==(Z:Int)+1)=false:=by simp;omega
     clear H K J Q
     go_enter bK,bM
     go_wp2_with fail
     go_quiet((go_at_call 165;refine(U.out _).mono ?_;rintro e O ⟨rfl,rfl⟩;exact⟨rfl,_,rfl⟩))
     go_wp2_with fail
     go_quiet(fail)
     rw[cf];go_wp2
     go_ret
     exact⟨by rw[D.out];rfl,_,rfl⟩
theorem nW.below{B:Nat}{p t:fb}{v:ae}(h:nW w B p t v n g)(Y:ai w.heap.size w w'):nW w' B p t v n g:=by
 refine⟨uj h.own Y,fun x H=>?_,h.base⟩;have hr:=h.rows x H;have K:=hr.lt;unfold re at *;rw[Y.block _ K];exact hr
theorem agU:(Tryz.prog.info? 5).map (fun i=>(i.zero,i.size,i.bytes))=some (some (.int .u8 0),1,1):=by kernel_rfl
theorem YS{p t:fb}{i:Nat}{L:List _}(H:¬(i=0/\j=0))(h:jc p t (i+j) i j++L.reverse=iq p t):
  (letter p t i j=77/\0<i/\0<j/\jc p t (i-1+(j-1)) (i-1) (j-1)++(L++[77]).reverse=iq p t)\/
  (letter p t i j=73/\0<i/\jc p t (i-1+j) (i-1) j++(L++[73]).reverse=iq p t)\/
  (letter p t i j=68/\0<j/\jc p t (i+(j-1)) i (j-1)++(L++[68]).reverse=iq p t):=by
 simp;unfold letter;by_cases Y:mi p t i j=true
 ·have:=CF Y;exact .inl ⟨if_pos Y,this.1,this.2.1,Iu Y h⟩
 ·rw[cO]at Y;by_cases K:mE p t i j=true
  ·exact .inr (.inl ⟨by simp_all,(CG K).1,CR Y K h⟩)
  ·rw[cO]at K;exact .inr (.inr ⟨by simp_all,Co K H,CS H Y K h⟩)
theorem abS{C:Array _}{L:List _}{g:Nat}(H:L.length<=cap)(F:C.size=cap *1)(U:C.toList.take (L.length *1)=L.map bv)(A:w.heap[g]?=some (.cells (pB C L.length L.length) 5 (0,0))):
  ∀j D,w.cell? ((⟨g,0,none⟩:Addr).add j)=some (.int .u8 (L.reverse[j].toNat)):=by
 intro j D;have Y:=by simpa using D
 rw[sI,ay w g j _ _ _ A,sW C _ _ j (by omega),if_pos ⟨Y,.inl Y⟩];have B:L.length-1-j<C.size:=by omega
 have K:C.toList[L.length-1-j]?=(L.map bv)[L.length-1-j]?:=by
  rw[<-U,cu,if_pos (by omega)]
 rw[bt,aM (by omega:L.length-1-j<L.length),aM (by omega)]at K;have R:=Option.some.inj K;rw[Array.getD,dif_pos B];have I:=by simpa using R
 show some (C[L.length-1-j])=_
 rw[I,List.getElem_reverse];rfl
theorem abT(p t:fb)(w:af)(hp:p.size<=100)(LN:1<=p.size)(ht:t.size<=300):
  aI Tryz.prog 126 #[.string p,.string t] w fun e w'=>e=.returned (.string (str (iq p t)))/\ai w.heap.size w w':=by
 have⟨i0,I,q,z,c⟩:=cg agU
 go_enter Tryz.func126,Tryz.ntmps126
 go_wp2_with fail
 refine(Xl p t _ hp ht).mono ?_;rintro e w1 ⟨v,g,rfl,V,W⟩;have l:=laid V;clear V;go_wp2
 go_loopw [6,7,8] (fun sv iv jv wr=>∃(i j:Nat) (L:List UInt8),iv=.int .i64 (i:Int)/\jv=.int .i64 (j:Int)/\i<=p.size/\j<=t.size/\L.length+i+j<=p.size+t.size/\p.size<=i+L.length/\Hid (jc p t (i+j) i j++L.reverse=iq p t)/\wr.ownsRow w1.heap.size 5 1 sv L.length (L.map bv)/\ai w1.heap.size w1 wr) (fun _ iv jv _=>(intOf iv).toNat+(intOf jv).toNat)
 case atStart=>exact⟨p.size,t.size,[],rfl,rfl,az _,az _,by simp,by simp,laid (by simp[iq]),dp _ _ _ _,bh _ _⟩
 case round=>
  obtain⟨i,j,L,rfl,rfl,Eb,JQ,hlen,Bo,HL,A,R⟩:=hrel;by_cases o:i=0/\j=0
  ·obtain⟨rfl,rfl⟩:=o;have HF:Hid (L.reverse=iq p t):=laid (by rw[<-HL.out];rfl);rcases A.2 with⟨_,h1⟩|⟨G,cap,N,rfl,hG1,b,a,hG4,VH,r⟩
   ·omega
   ·have HC:=laid (⟨a,VH,r⟩:L.length<=cap/\N.size=cap *1/\N.toList.take (L.length *1)=L.map bv);have n:=laid (NJ N G L.length cap (0,0) wr (by omega) (by omega) (fun k hk=>by simp) (fun x hx=>by
     refine⟨((L.getD x 0).toNat:Int),?_⟩;have sc:x<N.size:=by omega
     have e1:N.toList[x]?=(L.map bv)[x]?:=by rw[<-r,cu,if_pos (by omega)]
     rw[bt,aM hx,aM (by simpa using sc)]at e1;have e2:=Option.some.inj e1;rw[Array.getD,dif_pos sc];show N[x]=_
     have e3:N[x]=bv (L[x]):=by simpa using e2
     rw[e3,aO,aM hx];rfl) b)
    have HB:=laid (W.trans (R.mono W.size));have HW:=laid W.size;clear HL l A b a VH r W;go_wp2_with fail
    refine n.out.mono ?_;rintro e w2 ⟨⟨v2,rfl⟩,h2,VI⟩;have s:(convert 79 9 (.slice (some ⟨G,0,none⟩) L.length cap)).run Tryz.prog w2=.ok (.string (str L.reverse)) w2:=by
     have:=run_convert_bytes_back (P:=Tryz.prog) w2 79 9 5 ⟨G,0,none⟩ cap L.reverse bN cz Tryz.underlying9 (abS HC.out.1 HC.out.2.1 HC.out.2.2 h2);rw[List.length_reverse]at this;exact this
    rw[HF.out]at s;have HB2:Hid (ai w.heap.size w w2):=laid (HB.out.grown VI HB.out.size (fun k e=>by cases e;have:=HW.out;omega));clear n VI h2 HC HF HB;go_wp2
    go_ret
    exact⟨rfl,HB2.out⟩
  ·have V:=l.out.below R;have S:=laid (XW p t w.heap.size v g i j wr hp ht Eb JQ V);have hxi:aH.wrap ((i:Int)-1)=(i:Int)-1:=aU _ (by omega);have hxj:aH.wrap ((j:Int)-1)=(j:Int)-1:=aU _ (by omega);have key:=YS o HL.out;have ajS:(letter p t i j=77/\0<i/\0<j/\Hid (jc p t (i-1+(j-1)) (i-1) (j-1)++(L++[77]).reverse=iq p t))\/(letter p t i j=73/\0<i/\Hid (jc p t (i-1+j) (i-1) j++(L++[73]).reverse=iq p t))\/(letter p t i j=68/\0<i/\0<j/\Hid (jc p t (i+(j-1)) i (j-1)++(L++[68]).reverse=iq p t))\/(letter p t i j=68/\i=0/\0<j/\Hid (jc p t (i+(j-1)) i (j-1)++(L++[68]).reverse=iq p t)):=by
    rcases key with h|h|h
    ·exact .inl h
    ·exact .inr (.inl h)
    ·by_cases LX:0<i
     ·exact .inr (.inr (.inl ⟨h.1,LX,h.2.1,h.2.2⟩))
     ·exact .inr (.inr (.inr ⟨h.1,by omega,h.2.1,h.2.2⟩))
   clear HL key l V o;rcases ajS with⟨T,O,AH,f⟩|⟨T,O,f⟩|⟨T,O,AH,f⟩|⟨T,O,AH,f⟩
   ·have q1:(0:Int)<(i:Int):=by omega
    have M:Hid (aI Tryz.prog 147 #[v,.string p,.string t,.int .i64 (i:Int),.int .i64 (j:Int)] wr fun e w'=>e=.returned (.int .u8 77)/\∃d,w'=wr.drewN d):=laid (by have:=S.out;rw[T]at this;exact this);have m:decide ((0:Int)<(i:Int))=decide ((0:Int)<(i:Int)):=rfl;have J:=laid O;clear S T m O;go_wp2_with fail
    refine M.out.mono ?_;rintro e w2 ⟨rfl,C⟩;have H:w2.ownsRow w1.heap.size 5 1 u6 L.length (L.map bv):=by obtain⟨d,rfl⟩:=C;exact A
    have Y:ai w1.heap.size w1 w2:=by obtain⟨d,rfl⟩:=C;exact Go.below_drewN R d
    clear M A C R;go_wp2_with(first
     |(at_builtin;refine bS _ rfl _ _ 79 rfl w1.heap.size 5 i0 (.int .u8 0) 1 1 bN I q z c rfl (by decide) _ _ _ rfl (H.alloc _) ⟨w2.heap.size,0,none⟩ 1 1 [.int .u8 77] rfl rfl ?c1 ?c2 ?c3 ?c4 ?c5 ?_)
     |go_in)
    case c1=>
     intro j u F
     match j,F with
     |0,F=>simp at F;subst F;simp[Addr.add]
    case c2=>intro u X;simp at X;subst X;rfl
    case c3=>unfold ao;omega
    case c4=>omega
    case c5=>have:=Y.size;simp;omega
    intro v' E K D _;have U:ai w1.heap.size w1 E:=(Y.alloc Y.size _).grown D (by have:=Y.size;simp;omega) (fun j F=>(H.lt j F).1);have B:E.ownsRow w1.heap.size 5 1 v' (L++[77]).length ((L++[77]).map bv):=by
     rw[aJ,aV];exact K
    obtain⟨Q,cap,Z,rfl⟩:∃Q cap Z,v'=.slice (some ⟨Q,0,none⟩) Z cap:=by
     rcases K.2 with⟨_,o⟩|⟨Q,cap,N,y,_⟩
     ·omega
     ·exact⟨Q,cap,_,y⟩
    clear K D H Y;go_wp2
    go_roundw
    case rel=>go_light;have:=J.out;exact⟨i-1,j-1,L++[77],ib (by omega),ib (by omega),by omega,by omega,by rw[aJ];simp;omega,by rw[aJ];simp;omega,f,B,U⟩
    case measure=>go_light;have:=J.out;simp[intOf];omega
   ·have q1:(0:Int)<(i:Int):=by omega
    have M:Hid (aI Tryz.prog 147 #[v,.string p,.string t,.int .i64 (i:Int),.int .i64 (j:Int)] wr fun e w'=>e=.returned (.int .u8 73)/\∃d,w'=wr.drewN d):=laid (by have:=S.out;rw[T]at this;exact this);have m:decide ((0:Int)<(i:Int))=decide ((0:Int)<(i:Int)):=rfl;have J:=laid O;clear S T m O;go_wp2_with fail
    refine M.out.mono ?_;rintro e w2 ⟨rfl,C⟩;have H:w2.ownsRow w1.heap.size 5 1 u6 L.length (L.map bv):=by obtain⟨d,rfl⟩:=C;exact A
    have Y:ai w1.heap.size w1 w2:=by obtain⟨d,rfl⟩:=C;exact Go.below_drewN R d
    clear M A C R;go_wp2_with(first
     |(at_builtin;refine bS _ rfl _ _ 79 rfl w1.heap.size 5 i0 (.int .u8 0) 1 1 bN I q z c rfl (by decide) _ _ _ rfl (H.alloc _) ⟨w2.heap.size,0,none⟩ 1 1 [.int .u8 73] rfl rfl ?c1 ?c2 ?c3 ?c4 ?c5 ?_)
     |go_in)
    case c1=>
     intro j u F
     match j,F with
     |0,F=>simp at F;subst F;simp[Addr.add]
    case c2=>intro u X;simp at X;subst X;rfl
    case c3=>unfold ao;omega
    case c4=>omega
    case c5=>have:=Y.size;simp;omega
    intro v' E K D _;have U:ai w1.heap.size w1 E:=(Y.alloc Y.size _).grown D (by have:=Y.size;simp;omega) (fun j F=>(H.lt j F).1);have B:E.ownsRow w1.heap.size 5 1 v' (L++[73]).length ((L++[73]).map bv):=by
     rw[aJ,aV];exact K
    obtain⟨Q,cap,Z,rfl⟩:∃Q cap Z,v'=.slice (some ⟨Q,0,none⟩) Z cap:=by
     rcases K.2 with⟨_,o⟩|⟨Q,cap,N,y,_⟩
     ·omega
     ·exact⟨Q,cap,_,y⟩
    clear K D H Y;go_wp2
    go_roundw
    case rel=>go_light;have:=J.out;exact⟨i-1,j,L++[73],ib (by omega),ib (by omega),by omega,by omega,by rw[aJ];simp;omega,by rw[aJ];simp;omega,f,B,U⟩
    case measure=>go_light;have:=J.out;simp[intOf];omega
   ·have q1:(0:Int)<(i:Int):=by omega
    have M:Hid (aI Tryz.prog 147 #[v,.string p,.string t,.int .i64 (i:Int),.int .i64 (j:Int)] wr fun e w'=>e=.returned (.int .u8 68)/\∃d,w'=wr.drewN d):=laid (by have:=S.out;rw[T]at this;exact this);have m:decide ((0:Int)<(i:Int))=decide ((0:Int)<(i:Int)):=rfl;have J:=laid O;clear S T m O;go_wp2_with fail
    refine M.out.mono ?_;rintro e w2 ⟨rfl,C⟩;have H:w2.ownsRow w1.heap.size 5 1 u6 L.length (L.map bv):=by obtain⟨d,rfl⟩:=C;exact A
    have Y:ai w1.heap.size w1 w2:=by obtain⟨d,rfl⟩:=C;exact Go.below_drewN R d
    clear M A C R;go_wp2_with(first
     |(at_builtin;refine bS _ rfl _ _ 79 rfl w1.heap.size 5 i0 (.int .u8 0) 1 1 bN I q z c rfl (by decide) _ _ _ rfl (H.alloc _) ⟨w2.heap.size,0,none⟩ 1 1 [.int .u8 68] rfl rfl ?c1 ?c2 ?c3 ?c4 ?c5 ?_)
     |go_in)
    case c1=>
     intro j u F
     match j,F with
     |0,F=>simp at F;subst F;simp[Addr.add]
    case c2=>intro u X;simp at X;subst X;rfl
    case c3=>unfold ao;omega
    case c4=>omega
    case c5=>have:=Y.size;simp;omega
    intro v' E K D _;have U:ai w1.heap.size w1 E:=(Y.alloc Y.size _).grown D (by have:=Y.size;simp;omega) (fun j F=>(H.lt j F).1);have B:E.ownsRow w1.heap.size 5 1 v' (L++[68]).length ((L++[68]).map bv):=by
     rw[aJ,aV];exact K
    obtain⟨Q,cap,Z,rfl⟩:∃Q cap Z,v'=.slice (some ⟨Q,0,none⟩) Z cap:=by
     rcases K.2 with⟨_,o⟩|⟨Q,cap,N,y,_⟩
     ·omega
     ·exact⟨Q,cap,_,y⟩
    clear K D H Y;go_wp2
    go_roundw
    case rel=>go_light;have:=J.out;exact⟨i,j-1,L++[68],ib (by omega),ib (by omega),by omega,by omega,by rw[aJ];simp;omega,by rw[aJ];simp;omega,f,B,U⟩
    case measure=>go_light;have:=J.out;simp[intOf];omega
   ·obtain⟨q3,q1,q4⟩:(0:Int)<(j:Int)/\¬(0:Int)<(i:Int)/\¬0<i:=⟨by omega,by omega,by omega⟩;have M:Hid (aI Tryz.prog 147 #[v,.string p,.string t,.int .i64 (i:Int),.int .i64 (j:Int)] wr fun e w'=>e=.returned (.int .u8 68)/\∃d,w'=wr.drewN d):=laid (by have:=S.out;rw[T]at this;exact this);have m:decide ((0:Int)<(i:Int))=decide ((0:Int)<(i:Int)):=rfl;have J:=laid O;clear S T m O;go_wp2_with fail
    refine M.out.mono ?_;rintro e w2 ⟨rfl,C⟩;have H:w2.ownsRow w1.heap.size 5 1 u6 L.length (L.map bv):=by obtain⟨d,rfl⟩:=C;exact A
    have Y:ai w1.heap.size w1 w2:=by obtain⟨d,rfl⟩:=C;exact Go.below_drewN R d
    clear M A C R;go_wp2_with(first
     |(at_builtin;refine bS _ rfl _ _ 79 rfl w1.heap.size 5 i0 (.int .u8 0) 1 1 bN I q z c rfl (by decide) _ _ _ rfl (H.alloc _) ⟨w2.heap.size,0,none⟩ 1 1 [.int .u8 68] rfl rfl ?c1 ?c2 ?c3 ?c4 ?c5 ?_)
     |go_in)
    case c1=>
     intro j u F
     match j,F with
     |0,F=>simp at F;subst F;simp[Addr.add]
    case c2=>intro u X;simp at X;subst X;rfl
    case c3=>unfold ao;omega
    case c4=>omega
    case c5=>have:=Y.size;simp;omega
    intro v' E K D _;have U:ai w1.heap.size w1 E:=(Y.alloc Y.size _).grown D (by have:=Y.size;simp;omega) (fun j F=>(H.lt j F).1);have B:E.ownsRow w1.heap.size 5 1 v' (L++[68]).length ((L++[68]).map bv):=by
     rw[aJ,aV];exact K
    obtain⟨Q,cap,Z,rfl⟩:∃Q cap Z,v'=.slice (some ⟨Q,0,none⟩) Z cap:=by
     rcases K.2 with⟨_,o⟩|⟨Q,cap,N,y,_⟩
     ·omega
     ·exact⟨Q,cap,_,y⟩
    clear K D H Y;go_wp2
    go_roundw
    case rel=>go_light;have:=J.out;exact⟨i,j-1,L++[68],ib (by omega),ib (by omega),by omega,by omega,by rw[aJ];simp;omega,by rw[aJ];simp;omega,f,B,U⟩
    case measure=>go_light;have:=J.out;simp[intOf];omega
theorem afu(a b:UInt8):ag a b=ag b a:=by
 unfold ag;by_cases h:a=b
 ·rw[h]
 ·have Y:(a==b)=false:=by simp_all
  have K:(b==a)=false:=by simpa using fun e=>h e.symm
  rw[Y,K];rfl
theorem Ac(t p:fb):∀i j,mh t p i j=sT p t j i
 |0,0=>by simp[mh,sT]
 |0,j+1=>by simp[mh,sT]
 |i+1,0=>by simp[mh,mD,sT]
 |i+1,j+1=>by
  have Y:=Ac t p i j;have K:=Ac t p i (j+1);have H:=Ac t p (i+1) j;rw[sT,<-Y,<-K,<-H];simp only[mh];rw[mD];have e:co (at8 t i) (at8 p j)=cost p t j i:=by unfold co cost;rw[afu]
  omega
theorem Gh(t p:fb)(k e d:Nat):∀n,(e,d)∈kR t p k n↔1<=e/\e<=n/\d=mh t p e p.size/\d<=k
 |0=>by simp[kR];omega
 |n+1=>by
  have Y:=Gh t p k e d n;rw[kR];split
  ·rename_i h;rw[bj,Y];simp only[cY,de];constructor
   ·rintro(⟨a,b,c,x⟩|⟨rfl,rfl⟩)
    ·omega
    ·omega
   ·rintro⟨a,b,c,x⟩;by_cases K:e<=n
    ·omega
    ·have:e=n+1:=by omega
     subst this;exact .inr ⟨rfl,c⟩
  ·rw[Y];constructor
   ·omega
   ·rintro⟨a,b,c,x⟩;by_cases K:e<=n
    ·omega
    ·have:e=n+1:=by omega
     subst this;omega
theorem Ru(X P:fb)(k st x e d:Nat):(e,d)∈kA (x *st) (k_ (jl X P k st x) P k) (k_ (jl X P k st x) P k).length↔∃i,1<=i/\i<=(jl X P k st x).size/\e=i+x *st/\d=sT P (jl X P k st x) P.size i/\d<=k:=by
 unfold kA;rw[c_,List.drop_length,cn,bu];constructor
 ·rintro⟨⟨i,d'⟩,K,Y⟩;obtain⟨rfl,rfl⟩:=Y;obtain⟨a,b,c,h⟩:=(Gh _ _ _ _ _ _).1 K;exact⟨i,a,b,rfl,by rw[<-Ac];exact c,h⟩
 ·rintro⟨i,a,b,rfl,c,h⟩;exact⟨(i,d),(Gh _ _ _ _ _ _).2 ⟨a,b,by rw[Ac];exact c,h⟩,rfl⟩
theorem FQ{P:fb}{k q st:Nat}{t:Int}{x:Nat}:∀n,x∈jr P X k q st t n↔x<n/\looked P X k q st t x=true
 |0=>by simp[jr]
 |n+1=>by
  have K:x∈jr P X k q st t n↔x<n/\looked P X k q st t x=true:=FQ n;rw[jr];split
  ·rename_i h;rw[bj,K];simp only[cY];constructor
   ·rintro(⟨a,b⟩|rfl)
    ·exact⟨by omega,b⟩
    ·exact⟨by omega,h⟩
   ·rintro⟨a,b⟩;by_cases Y:x<n
    ·exact .inl ⟨Y,b⟩
    ·exact .inr (by omega)
  ·rename_i h;rw[K];constructor
   ·rintro⟨a,b⟩;exact⟨by omega,b⟩
   ·rintro⟨a,b⟩;by_cases Y:x<n
    ·exact⟨Y,b⟩
    ·have:x=n:=by omega
     subst this;exact absurd b h
theorem adE(X P:fb)(k q st x e d:Nat)(A:x *st<=X.size)(h:(e,d)∈kA (x *st) (k_ (jl X P k st x) P k) (k_ (jl X P k st x) P k).length):e<=X.size/\d<=k/\(il P X k e).1<=d:=by
 obtain⟨i,R,I,rfl,Y,K⟩:=(Ru X P k st x e d).1 h;have D:(jl X P k st x).size=min (x *st+st+P.size+k) X.size-x *st:=by unfold jl;simp_all
 have H:i+x *st<=min (x *st+st+P.size+k) X.size:=by omega
 refine⟨by omega,K,?_⟩;have:=Mx P X k (x *st) _ _ (by omega) H (by omega) (by rw[show i+x *st-x *st=i by omega];show sT P (jl X P k st x) _ i<=k;omega);rw[show i+x *st-x *st=i by omega]at this;rw[Y];exact this
theorem aai(X P:fb)(k q st e:Nat)(M:1<=q)(ga:1<=st)(Y:e<=X.size)(hk:(il P X k e).1<=k)(C:k<P.size):∃x∈jr P X k q st (iJ P.size k q) (stretches X.size st),(e,(il P X k e).1)∈kA (x *st) (k_ (jl X P k st x) P k) (k_ (jl X P k st x) P k).length:=by
 have⟨S,I,U⟩:=XU P X k st e ga Y hk;have⟨D,R,O,b4⟩:=(Cl P X k e Y).2 hk;have F:=aae P X k q st (il P X k e).2 e M ga D Y (by omega);generalize N:(e-(P.size+k))/st=x at *;have B:0<e:=by
  rcases Nat.eq_zero_or_pos e with K|K
  ·exfalso;subst K;have H:(il P X k 0).2=0:=by omega
   rw[H]at R;have Q:iX P (X.extract 0 0)=P.size:=by
    unfold iX;rw[show(X.extract 0 0).size=0 by rw[bU];omega];cases P.size<;>simp[dT]
   omega
  ·exact K
 have J:x *st<e:=by
  have T:x *st<=e-(P.size+k):=by rw[<-N];exact Nat.div_mul_le_self _ _
  omega
 refine⟨x,(FQ _).2 ⟨(xH X.size st x ga).1 (by omega),F⟩,?_⟩;rw[Ru];have L:(jl X P k st x).size=min (x *st+st+P.size+k) X.size-x *st:=by unfold jl;rw[bU];omega
 have A:e<=min (x *st+st+P.size+k) X.size:=I;exact⟨e-x *st,by omega,by omega,by omega,U.symm,hk⟩
end
section
open RowKit Maps
noncomputable def vu:=match aY.body with
 |some (.seq _ (.seq _ c))=>c
 |_=>.skip
def Fg(a0 a1 a3 a4:ae)(fl:Bool)(b5 b6 b8 b:Nat)(u:Nat->ae):=#[a0,a1,.bool fl,a3,a4,pt b5,pt b6,u 7,pt b8,u 9,.slice none 0 0,.map (some b),u 12,u 13,u 14,u 15,u 16,u 17,u 18,u 19,u 20,u 21,u 22,u 23,u 24,u 25,u 26,u 27,u 28,u 29,u 30,u 31,u 32,u 33,u 34,u 35,u 36,u 37,u 38,u 39,u 40,u 41,u 42,u 43,u 44,u 45,u 46,u 47,u 48,u 49,u 50,u 51,u 52,u 53,u 54,u 55,u 56,u 57,u 58,u 59,u 60,u 61,u 62,u 63,u 64,u 65,u 66,u 67,u 68,u 69,u 70,u 71,u 72]
def o9(X P rn rm:fb)(fl:Bool)(st dd:Nat->Nat)(e:Nat):Pl:=
 ⟨rn,P,rm,fl,st e,dd e,str (nb (str (iq P (X.extract (st e) e)))),str (ng P (X.extract (st e) e) (str (iq P (X.extract (st e) e))))⟩
def qF(p:Pl):Value:=.iface 158 p.val
theorem BI(p t:fb):∀f i j,∀c∈jc p t f i j,c=77\/c=73\/c=68
 |0,i,j=>by simp[jc]
 |f+1,i,j=>by
  intro c Y;rw[jc]at Y;split at Y
  ·simp at Y
  ·split at Y
   ·rw[bj]at Y;rcases Y with Y|Y
    ·exact BI p t f _ _ c Y
    ·simp_all
   ·split at Y
    ·rw[bj]at Y;rcases Y with Y|Y
     ·exact BI p t f _ _ c Y
     ·simp_all
    ·rw[bj]at Y;rcases Y with Y|Y
     ·exact BI p t f _ _ c Y
     ·simp_all
theorem YT(p t:fb):∀x,x<(str (iq p t)).size->at8 (str (iq p t)) x=77\/at8 (str (iq p t)) x=73\/at8 (str (iq p t)) x=68:=by
 intro x Y;rw[afl,aO,aM Y];exact BI p t _ _ _ _ (cv Y)
theorem Rv:(Tryz.prog.info? 136).map (fun i=>(i.zero,i.size,i.bytes))=some (some .nilIface,1,16):=by kernel_rfl
theorem abU(X P rn rm XN:fb)(fl:Bool)(es:List Nat)(st dd:Nat->Nat)(a0 a1 a3 a4:ae)(b5 b6 b8 b:Nat)(u:Nat->ae)(w:af)
  (hX:X.size<=200)(hP:P.size<=30)(hP1:1<=P.size)(hes:es.length<=1000)
  (h5:w.heap[b5]?=some (.cells #[.string XN,.string X] 68 (0,0)))(h6:w.heap[b6]?=some (.cells #[.string rn,.string P,.string rm] 131 (0,0)))
  (HS:aI Tryz.prog 123 #[.func (.func 143) #[] #[.pointer (some ⟨w.heap.size,0,none⟩)]] (w.alloc (.cells #[.map (some b)] 166)) fun e w'=>∃v,e=.returned v/\w'.ownsRow w.heap.size 3 1 v es.length (es.map nG)/\ai w.heap.size w w')
  (VJ:∀W:af,W.heap[b]?=w.heap[b]?->∀e∈es,(cS 166 (.map (some b)) (.int .i64 (e:Int)) false).run Tryz.prog W=.ok (.int .i64 (dd e:Int)) W)(hbl:b<w.heap.size)
  (HE:∀e∈es,e<=X.size/\dd e<=1000/\st e<=e/\iX P (X.extract (st e) e)<=dd e/\∀c,c<e-st e->dd e<iX P (X.extract (e-c) e))(TM:iK w):
  vu.wp Tryz.prog (aL Tryz.prog aY fun e w'=>∃v,e=.returned v/\w'.ownsRow w.heap.size 136 1 v es.length (es.map fun e=>qF (o9 X P rn rm fl st dd e))/\ai w.heap.size w w'/\(es=[]->v=.slice none 0 0)) ⟨Fg a0 a1 a3 a4 fl b5 b6 b8 b u,[]⟩ w:=by
 obtain⟨i0,I,qI,pe,pg⟩:=cg Rv;have VK:=laid HS;have VM:=laid VJ;have VN:=laid HE;have HT:=laid TM;have H5:=laid h5;have H6:=laid h6;have D_:b5<w.heap.size:=(bD.1 h5).1;have Ea:b6<w.heap.size:=(bD.1 h6).1;clear HS VJ HE TM h5 h6;obtain⟨Q,hQ⟩:∃Q,Q=(aL Tryz.prog aY fun e w'=>∃v,e=.returned v/\w'.ownsRow w.heap.size 136 1 v es.length (es.map fun e=>qF (o9 X P rn rm fl st dd e))/\ai w.heap.size w w'/\(es=[]->v=.slice none 0 0)):=⟨_,rfl⟩;rw[<-hQ];have HQ:=laid hQ;clear hQ;unfold vu aY Fg;dsimp only;simp only[pt];go_wp2_with fail
 refine(YP _ _).mono ?_;rintro e w1 ⟨rfl,rfl⟩;go_wp2_with fail
 refine VK.out.mono ?_;rintro e w2 ⟨v,rfl,O,vm⟩;clear VK;have ajT:=laid O;obtain⟨Mc,VP,hv,aiy⟩:∃(Mc:Option Addr) (VP:Nat),v=.slice Mc es.length VP/\Hid (∀i,i<es.length->∃g,Mc=some ⟨g,0,none⟩/\g<w2.heap.size/\w2.cell? ⟨g,i,none⟩=some (.int .i64 ((es.getD i 0:Nat):Int))):=by
  rcases O.2 with⟨rfl,h0⟩|⟨g,cap,cur,rfl,hB,hg,UI,hc2,hc3,hc4⟩
  ·exact⟨none,0,by rw[h0],laid fun i I=>by omega⟩
  ·refine⟨some ⟨g,0,none⟩,cap,rfl,laid fun i I=>⟨g,rfl,(bD.1 hg).1,?_⟩⟩;have h:=(O.cells (g:=g) rfl) i (nG (es.getD i 0)) (by rw[bt,aO,aM I];rfl);rw[sI]at h;exact h
 subst hv;clear O ajT;have Z:w.heap.size<=w2.heap.size:=vm.size;go_wp2
 go_loopw [12,30] (fun rv iv wr=>∃i:Nat,iv=.int .i64 (i:Int)/\i<=es.length/\Hid (i=0->rv=.slice none 0 0)/\wr.ownsRow w2.heap.size 136 1 rv i ((es.take i).map fun e=>qF (o9 X P rn rm fl st dd e))/\ai w2.heap.size w2 wr) (fun _ iv _=>es.length-(intOf iv).toNat)
 case atStart=>exact⟨0,rfl,bA _,laid fun _=>rfl,by simpa using dp _ _ _ _,bh _ _⟩
 case round=>
  obtain⟨i,rfl,LZ,VQ,N,U⟩:=hrel;have J:ai w.heap.size w wr:=vm.trans (U.mono Z);by_cases l:i<es.length
  ·obtain⟨VS,rfl,ajU,t⟩:=aiy.out i l;have hci:wr.cell? ⟨VS,i,none⟩=some (.int .i64 ((es.getD i 0:Nat):Int)):=by rw[U.cell (p:=⟨VS,i,none⟩) ajU];exact t
   have G:es.getD i 0∈es:=by rw[aO,aM l];exact cv _
   have y5:Hid ((es.take (i+1)).map (fun e=>qF (o9 X P rn rm fl st dd e))=(es.take i).map (fun e=>qF (o9 X P rn rm fl st dd e))++[qF (o9 X P rn rm fl st dd (es.getD i 0))]):=laid (by
    rw[List.take_add_one,aM l,aV,aO,aM l];rfl)
   obtain⟨VT,he2,he3,VU,VV⟩:=VN.out _ G;have LA:=VM.out wr (by rw[J.block b hbl]) _ G;generalize es.getD i 0=E at *;have B:=laid (And.intro VU VV);clear VU VV t G;have b1:(i:Int)<(es.length:Int):=by omega
   have b2:(0:Int)<=(i:Int):=by omega
   have ajV:b5<wr.heap.size:=aK D_ J.size;have ajW:b6<wr.heap.size:=aK Ea J.size;have k5:wr.heap[b5]?=some (.cells #[.string XN,.string X] 68 (0,0)):=by rw[J.block b5 D_];exact H5.out
   have S:wr.heap[b6]?=some (.cells #[.string rn,.string P,.string rm] 131 (0,0)):=by rw[J.block b6 Ea];exact H6.out
   have c5:wr.cell? ⟨b5,1,none⟩=some (.string X):=by rw[ay wr _ 1 _ _ _ k5];rfl
   have c6:wr.cell? ⟨b6,1,none⟩=some (.string P):=by rw[ay wr _ 1 _ _ _ S];rfl
   have VX:Hid (∀W:af,aI Tryz.prog 125 #[.string X,.string P,.agg #[.int .i64 (E:Int),.int .i64 (dd E:Int)]] W fun r w'=>r=.returned (.int .i64 (st E:Int))/\ai W.heap.size W w'):=laid fun W=>by
    have:=YR X P E (dd E) (E-st E) W hX (by omega) VT he2 (by omega) (by rw[show E-(E-st E)=st E by omega];exact B.out.1) B.out.2;rw[show E-(E-st E)=st E by omega]at this;exact this
   have VY:oG (wr.alloc (.cells #[.int .i64 (E:Int),.int .i64 (dd E:Int)] 173)) wr.heap.size E (dd E):=heap_alloc_new wr _;have VZ:=laid VY;have V0:=laid k5;have Bu:=laid S;clear VY k5 S B;go_wp2_with fail
   refine(VX.out _).mono ?_;rintro e w3 ⟨rfl,f⟩;have R:ai wr.heap.size wr w3:=((bh _ _).alloc (az _) _).trans (f.mono (by simp));have A_:=VZ.out.below f (by simp);have q:=uj N R;have F:=U.trans (R.mono U.size);have k5:w3.heap[b5]?=some (.cells #[.string XN,.string X] 68 (0,0)):=by rw[R.block b5 ajV];exact V0.out
   have S:w3.heap[b6]?=some (.cells #[.string rn,.string P,.string rm] 131 (0,0)):=by rw[R.block b6 ajW];exact Bu.out
   have d5:w3.cell? ⟨b5,1,none⟩=some (.string X):=by rw[ay w3 _ 1 _ _ _ k5];rfl
   have d6:w3.cell? ⟨b6,1,none⟩=some (.string P):=by rw[ay w3 _ 1 _ _ _ S];rfl
   have V1:wr.heap.size<w3.heap.size:=by have:=f.size;simp at this;omega
   have a:b6<w3.heap.size:=by omega
   have x:=laid S;have V2:=laid A_;generalize wr.heap.size=y at *;clear f R N U VZ V0 Bu k5 S A_ c5 c6 VX LA hci;have s1:(st E:Int)<=(E:Int):=by omega
   have s2:(E:Int)<=(X.size:Int):=by omega
   have s3:(0:Int)<=(st E:Int):=by omega
   have s4:E<=X.size:=VT;have hAs:(X.extract (st E) E).size<=300:=by rw[bU];omega
   have V3:=laid (fun W:af=>abT P (X.extract (st E) E) W (by omega) hP1 hAs);have V4:Hid (qF (o9 X P rn rm fl st dd E)=.iface 158 (.agg #[.string rn,.string P,.string rm,.bool fl,.int .i64 (st E:Int),.int .i64 (dd E:Int),.string (str (nb (str (iq P (X.extract (st E) E))))),.string (str (ng P (X.extract (st E) E) (str (iq P (X.extract (st E) E)))))])):=laid rfl;have V5:(str (iq P (X.extract (st E) E))).size<=1000:=by rw[h_];have:=Cq P (X.extract (st E) E);omega
   have V6:Hid (∀W:af,iK W->aI Tryz.prog 127 #[.string (str (iq P (X.extract (st E) E)))] W fun e w'=>e=.returned (.string (str (nb (str (iq P (X.extract (st E) E))))))/\ai W.heap.size W w'):=laid fun W K=>aac _ W V5 K;have V7:Hid (∀W:af,iK W->aI Tryz.prog 128 #[.string (str (iq P (X.extract (st E) E))),.string P,.string (X.extract (st E) E)] W fun e w'=>e=.returned (.string (str (ng P (X.extract (st E) E) (str (iq P (X.extract (st E) E))))))/\ai W.heap.size W w'):=laid fun W K=>WK P (X.extract (st E) E) _ W (by omega) (by omega) V5 (Pp P _) (YT P _) K;generalize str (ng P (X.extract (st E) E) (str (iq P (X.extract (st E) E))))=DF at *;generalize str (nb (str (iq P (X.extract (st E) E))))=RN at *;generalize str (iq P (X.extract (st E) E))=LL at *;generalize hA:X.extract (st E) E=A at *;go_wp2_with fail
   refine(V3.out _).mono ?_;rintro e w4 ⟨rfl,C⟩;have d:=V2.out.below C V1;have H:=uj q C;have D:=F.trans (C.mono F.size);have S:w4.heap[b6]?=some (.cells #[.string rn,.string P,.string rm] 131 (0,0)):=by rw[C.block b6 a];exact x.out
   have c0:w4.cell? ⟨b6,0,none⟩=some (.string rn):=by rw[ay w4 _ 0 _ _ _ S];rfl
   have c1:w4.cell? ⟨b6,1,none⟩=some (.string P):=by rw[ay w4 _ 1 _ _ _ S];rfl
   have c2:w4.cell? ⟨b6,2,none⟩=some (.string rm):=by rw[ay w4 _ 2 _ _ _ S];rfl
   have cF:=d.c1;have m:y<w4.heap.size:=aK V1 C.size;have M:b6<w4.heap.size:=aK a C.size;have n:ai w.heap.size w w4:=vm.trans (D.mono Z);have Me:iK w4:=HT.out.on n;have un:∀{W:af},ai w4.drew.heap.size w4.drew W->ai w4.heap.size w4 W:=fun K=>⟨K.os,K.tape,K.output,K.size,K.block⟩;have Mf:Hid (∀W:af,W=w4.drew\/ai w4.drew.heap.size w4.drew W->iK W):=laid fun W K=>by
    rcases K with rfl|K
    ·exact Me
    ·exact Me.on (un K)
   have Mg:Hid (∀W:af,ai w4.drew.heap.size w4.drew W->W.cell? ⟨b6,0,none⟩=some (.string rn)/\W.cell? ⟨b6,1,none⟩=some (.string P)/\W.cell? ⟨b6,2,none⟩=some (.string rm)/\W.cell? ⟨y,1,none⟩=some (.int .i64 (dd E:Int))):=laid fun W K=>⟨by rw[(un K).cell (p:=⟨b6,0,none⟩) M];exact c0,by rw[(un K).cell (p:=⟨b6,1,none⟩) M];exact c1,by rw[(un K).cell (p:=⟨b6,2,none⟩) M];exact c2,by rw[(un K).cell (p:=⟨y,1,none⟩) m];exact cF⟩;have Bt:Hid (∀(W1 V:af) (o:Obj),ai w4.drew.heap.size w4.drew W1->(W1.alloc o).grownBy V u12.ownBlock->V.cell? ⟨b6,0,none⟩=some (.string rn)/\V.cell? ⟨b6,1,none⟩=some (.string P)/\V.cell? ⟨b6,2,none⟩=some (.string rm)/\V.cell? ⟨y,1,none⟩=some (.int .i64 (dd E:Int))):=laid fun W1 V o K hg=>by
    have hs:=(un K).size;have e1:V.heap[b6]?=some (.cells #[.string rn,.string P,.string rm] 131 (0,0)):=by
     rw[hg.block b6 (by simp;omega) (fun e=>xN H S (by decide) e.symm),bP W1 _ (by omega),(un K).block b6 M];exact S
    have e2:V.heap[y]?=some (.cells #[.int .i64 (E:Int),.int .i64 (dd E:Int)] 173 (0,0)):=by
     rw[hg.block y (by simp;omega) (fun e=>xN H d (by decide) e.symm),bP W1 _ (by omega),(un K).block y m];exact d
    exact⟨by rw[ay V _ 0 _ _ _ e1];rfl,by rw[ay V _ 1 _ _ _ e1];rfl,by rw[ay V _ 2 _ _ _ e1];rfl,by rw[ay V _ 1 _ _ _ e2];rfl⟩
   have Br:Hid (∀(W:af),ai w4.drew.heap.size w4.drew W->∀o:Obj,(W.alloc o).ownsRow w2.heap.size 136 1 u12 i ((es.take i).map fun e=>qF (o9 X P rn rm fl st dd e))):=laid fun W K o=>(uj H (un K)).alloc _;have Bs:Hid (∀(W:af),ai w4.drew.heap.size w4.drew W->∀o:Obj,w2.heap.size<=(W.alloc o).heap.size):=laid fun W K o=>by have h1:=D.size;have h2:=(un K).size;simp;omega
   have k:=laid D;have V8:=laid H;clear C d H q D F S un Me n V2 x d5 d6 V3 J;go_wp2_with fail
   go_region_held3 (fun w'=>w'.cell? ⟨b6,0,none⟩=some (.string rn)/\w'.cell? ⟨b6,1,none⟩=some (.string P)/\w'.cell? ⟨b6,2,none⟩=some (.string rm)/\w'.cell? ⟨y,1,none⟩=some (.int .i64 (dd E:Int)))
    (first
     |go_keep
     |exact Bt.out _ _ _ (Y.trans (T.mono Y.size)) L
     |exact Mg.out _ (Y.trans (T.mono Y.size))
     |exact Mg.out _ Y)
    (first
     |(go_at_call 127;refine(V6.out _ (Mf.out _ (.inl rfl))).mono ?_;rintro e w' ⟨rfl,Y⟩)
     |(go_at_call 128;refine(V7.out _ (Mf.out _ (.inr Y))).mono ?_;rintro e s ⟨rfl,T⟩)
     |(refine step_append_lies _ rfl _ _ 133 rfl w2.heap.size 136 i0 .nilIface 1 16 dj I qI pe pg rfl (by decide) _ i _ rfl (Br.out s (Y.trans (T.mono Y.size)) _) ⟨s.heap.size,0,none⟩ 1 1 [.iface 158 (.agg #[.string rn,.string P,.string rm,.bool fl,.int .i64 (st E:Int),.int .i64 (dd E:Int),.string RN,.string DF])] rfl rfl (dk (heap_alloc_new s _)) (fun u hu=>by simp at hu;subst hu;rfl) (by omega) (by unfold ao;omega) (by omega) (Bs.out s (Y.trans (T.mono Y.size)) _) _ rfl ?_;intro g5 DZ w6 z L xy Jz))
   rename_i Jj;clear Jj;have ajX:ai w2.heap.size w2 w6:=by
    have h1:ai w4.heap.size w4 w':=⟨Y.os,Y.tape,Y.output,Y.size,Y.block⟩;have h2:=k.out.trans (h1.mono k.out.size);have h3:=h2.trans (T.mono h2.size);exact(h3.alloc h3.size _).grown L (by have:=h3.size;simp;omega) (fun j hj=>(V8.out.lt j hj).1)
   have HR6:Hid (w6.ownsRow w2.heap.size 136 1 (.slice (some ⟨g5,0,none⟩) (i+1) DZ) (i+1) ((es.take (i+1)).map fun e=>qF (o9 X P rn rm fl st dd e))):=laid (by
    rw[y5.out,V4.out];exact z)
   clear z L xy Jz Y T V6 V7 Mf Mg Bt Br Bs k V8 V4 y5 c0 c1 c2 cF hA;go_wp2
   go_roundw
   case rel=>go_light;exact⟨i+1,by go_num,by omega,laid (fun h=>by omega),HR6.out,ajX⟩
   case measure=>go_light;simp[intOf];omega
  ·have Fh:i=es.length:=by omega
   have HF:Hid (wr.ownsRow w.heap.size 136 1 u12 es.length (es.map fun e=>qF (o9 X P rn rm fl st dd e))):=laid (by
    have h:=x6 N Z;rw[Fh,c_]at h;exact h)
   have HNN:Hid (es=[]->u12=.slice none 0 0):=laid fun h=>VQ.out (by rw[Fh,h];rfl);clear Fh N VM VN VQ;go_wp2
   (try simp only[Exit.inBlock,Exit.then])
   rw[HQ.out];refine bO (bQ rfl _ _ _) rfl ?_;exact⟨_,rfl,HF.out,J,HNN.out⟩
end
namespace Ph
open Conc Ren
section
variable{P:Program}{Q:QT}{Z:Loc->Prop}{f:aj}{l:List aj}{w:af}
theorem gd.TP(m:Nat)(r:aj)(hr:gZ P m f l=(r,l))(k:∀w',ir Z w w'->(∀b,b<w.heap.size->w'.heap[b]?=w.heap[b]?)->gd P Q Z r l w'):gd P Q Z f l w:=by
 refine gd.kU m fun w' Y K=>?_;simp_all
end
abbrev o_(XN X:fb):Value:=.agg #[.string XN,.string X]
abbrev oB(rn P rm:fb):Value:=.agg #[.string rn,.string P,.string rm]
def rJ(b i:Nat):Value:=.pointer (some ⟨b,i,none⟩)
theorem ir.at{B:Nat}{o:Obj}(h:ir Z w w')(Y:w.heap[B]?=some o)(H:iR Z B):w'.heap[B]?=some o:=(h.old B (j0 Y) H).trans Y
section
variable{P:Program}{Q:QT}{Z:Loc->Prop}{f:aj}{l:List aj}{w:af}
theorem gd.reads{B:Nat}{o:Obj}{es:Array _}(D:w.heap[B]?=some o)(ga:∀w2,w2.heap[B]?=some o->aT P true (G f l) w2=.go (G f1 l) w2 es)(H:∀e∈es,∃a:Addr,e=⟨.cell a,false,false⟩/\a.block=B)(A:iR Z B)(k:∀w',ir Z w w'->gd P Q Z f1 l w'):gd P Q Z f l w:=by
 have R:=j0 D;refine bc (U:=fun _ _=>False) (S:=fun b=>b=B) (X:=fun _=>False) (Done:=fun S X f' l' w'=>X=(fun _=>False)/\f'=f1/\l'=l) (Tr.one fun w2 hr=>?_) (fun b h=>by simp_all) fun S' X' f' l' w' hd hk=>?_
 ·have Y:=((hr.kept B rfl).eq (fun i y=>y)).trans D;refine⟨_,_,_,_,_,_,ga w2 Y,j9.toDid (U:=fun _ _=>False) (sV fun e K=>?_),.stop ⟨rfl,rfl,rfl⟩⟩;obtain⟨a,rfl,I⟩:=H e K;simp_all
 ·obtain⟨rfl,rfl,rfl⟩:=hd;exact k w' (ir.of hk)
theorem gd.write{B i:Nat}{v:ae}{c:Array _}{t:ax}(H:w.heap[B]?=some (.cells c t))(ga:∀w2,w2.heap[B]?=some (.cells c t)->aT P true (G f l) w2=.go (G f1 l) (w2.setCell ⟨B,i,none⟩ v) #[⟨.cell ⟨B,i,none⟩,true,false⟩])(C:iR Z B)
  (k:∀w',w'.heap[B]?=some (.cells (c.setIfInBounds i v) t)->(∀b,b<w.heap.size->b≠B->w'.heap[b]?=w.heap[b]?)->w.heap.size<=w'.heap.size->w'.tape=w.tape->nc w'.os w.os->w'.output=w.output->gd P Q Z f1 l w'):gd P Q Z f l w:=by
 have I:=j0 H;refine bc (U:=fun _ _=>False) (S:=fun b=>b=B) (X:=fun b=>b=B) (Done:=fun S X f' l' w'=>w'.heap[B]?=some (.cells (c.setIfInBounds i v) t)/\f'=f1/\l'=l) (Tr.one fun w2 hr=>?_) (fun b h=>by simp_all) fun S' X' f' l' w' hd hk=>?_
 ·have Y:=((hr.kept B rfl).eq (fun i y=>y)).trans H;refine⟨_,_,_,_,_,_,ga w2 Y,j9.toDid (U:=fun _ _=>False) (Cf rfl rfl (fun _=>id) (nP v) fun e A=>?_),.stop ⟨lI Y,rfl,rfl⟩⟩;simp_all
 ·obtain⟨D,rfl,rfl⟩:=hd;exact k w' D (fun b R K=>hk.kept b R K) hk.grow hk.tape hk.env hk.output
end
section
variable[gm]{r:Rn}{v w:af}
theorem OB.plain{b:Nat}{o:Obj}(h:OB r b o o')(Y:∀b,¬gm.ro b):O r o o':=by
 cases h with
 |same _ x=>exact x
 |ro _ y=>exact absurd y (Y _)
theorem adF{base SY:Nat}{size:Nat}{sv V9:ae}{xs:List _}(h:v.ownsRow base e size sv n xs)(m:∀x∈xs,∀y,V r x y->y=x)(N:V r sv V9)(G:W r 0 v w)(B:∀b,¬gm.ro b)(d:∀b b',r b=some b'->base<=b->SY<=b'):w.ownsRow SY e size V9 n xs:=by
 refine⟨h.1,?_⟩;rcases h.2 with⟨rfl,X⟩|⟨g,cap,D,rfl,P,Q,F,S,J,L⟩
 ·cases N;simp_all
 ·cases N with
  |@slice a a' _ _ had=>
   obtain⟨b',o',s'⟩:=a';obtain⟨M,T,A⟩:=had;subst T A;obtain⟨o,o',C,O,R⟩:=G.obj _ _ M;rw[Q]at C;cases C;have R:=OB.plain R B
   ·cases R with
    |@cells _ K _ _ U=>
     refine .inr ⟨b',cap,K,rfl,d _ _ M P,O,F,S,U.size.symm.trans J,?_⟩;rw[<-L];apply List.ext_getElem?;intro i;by_cases I:i<n *size
     ·rw[bY I,bY I,bE,bE];have Y:i<D.size:=by
       rw[J];exact aK I (Nat.mul_le_mul_right _ F)
      have H:=U.size▸Y;rw[aP Y,aP H];congr 1;refine m _ ?_ _ (U.at_ i _ _ (aP Y) (aP _));rw[<-L];refine List.mem_iff_getElem?.2 ⟨i,?_⟩;rw[bY I,bE,aP Y]
     ·rw[cV (by simp;omega),cV (by simp;omega)]
theorem PF{k:IntKind}{n:Int}(h:V r (.int k n) y):y=.int k n:=by cases h;rfl
theorem adG{r0:Rn}(H:∀b,¬gm.ro b)(Y:Le r0 r)(hk:Kept (Wr r0) (Wr r) w0 w){B:Nat}(hd:∀b,B<=b->r0 b=none){b:Nat}(h:r b=some b')(D:B<=b):w0.heap.size<=b':=by
 rcases hk.may b' ⟨b,h,H b⟩with⟨c,K,_⟩|y
 ·have:=r.inj c b b' (Y _ _ K) h;simp_all
 omega
end
def K4:pz:={iG:=fun f=>[48,75,76,77,78,99,115,134].contains f,sd:=fun _=>false,uP:=fun _=>false,rz:=true}
theorem aaj:z7 K4 Tryz.prog=true:=by decide+kernel
theorem aak:([48,75,76,77,78,99,115,134].all fun f=>td K4 Tryz.prog vb f)=true:=by decide+kernel
theorem adH(f:Nat)(h:K4.iG f=true):td K4 Tryz.prog vb f=true:=by
 have:f∈[48,75,76,77,78,99,115,134]:=by
  have:[48,75,76,77,78,99,115,134].contains f=true:=h;simp_all
 exact br.1 aak f this
def wb:List Item->Prop:=fun _=>False
def tg:List Deferred->Prop:=fun _=>False
theorem aiz:@lA (K4.jD Tryz.prog Ak v_ wb tg) Tryz.prog:=IQ (fun _ _ h=>h) _ GG aaj adH (Ie K4 _ _ _ _)
def j7(X P:fb)(k q st:Nat):=jr P X k q st (iJ P.size k q) (stretches X.size st)
theorem YU{Q:QT}{c:aj}{P:fb}{k q st:Nat}(hX:X.size<=200)(hP:P.size<=30)(hk:k<=6)(G:1<=q)(F:q<=8)(W:1<=st)(M:st<=200)(D:PR.globals.size<=w.heap.size)
  (d:∀v w',w'.ownsRow w.heap.size 3 1 v (j7 X P k q st).length ((j7 X P k q st).map nG)->ir Z w w'->gd PR Q Z (c.finish v) cs w'):
  gd PR Q Z (Frame.enter PR 48 #[.string X,.string P,jF k q st] .normal) (c::cs) w:=by
 letI:gm:=K4.jD Tryz.prog Ak v_ wb tg
 have Y:∀b,¬gm.ro b:=fun b h=>h;have H:∀b,qC (fun _=>False) b=none:=fun b=>by
  cases e:qC (fun _=>False) b with
  |none=>rfl
  |some c=>exact((xZ.1 e).1).elim
 refine gd.call (r0:=qC (fun _=>False)) (v0:=w) aiz (fun _ h=>by cases h) (fun _ h=>h) (fun g h=>by cases h) (args:=#[.string X,.string P,jF k q st]) (R:=fun e w'=>∃v,e=.returned v/\w'.ownsRow w.heap.size 3 1 v (j7 X P k q st).length ((j7 X P k q st).map nG)) (fun T=>(Na X P k q st (tp w T) hX hP hk G F W M).mono fun e w' ⟨v,U,L,_⟩=>⟨v,U,L⟩) (fun e u ⟨v,h,_⟩=>⟨v,h⟩) (show K4.iG 48=true by decide) ⟨rfl,fun i x x' e e'=>?_⟩ (RY Y D fun b h=>h.elim) (fun a h=>(CJ.1 h).elim) ?_
 ·obtain rfl:=Option.some.inj (e.symm.trans e');have I:i<3:=by
   have:=(bD.1 e).1;simpa using this
  have:i=0\/i=1\/i=2:=by omega
  rcases this with rfl|rfl|rfl<;>(simp at e;subst e)
  ·exact .string _
  ·exact .string _
  ·exact B0 (n:=2) (by simp[jF,iv,na])
 ·intro r v x x' w' C S V O K;have⟨y,J,A⟩:=O;cases J;refine d x' w' (adF A (fun z j y J=>?_) S V Y fun b b' U L=>adG Y C K (B:=0) (fun b _=>H b) U (bA _)) ?_
  ·obtain⟨n,_,rfl⟩:=bu.1 j;exact PF J
  ·exact⟨fun a E _=>K.kept a E (fun⟨b,N,_⟩=>by rw[H b]at N;cases N),K.grow,K.tape,K.env,K.output⟩
section
variable{P:Program}{Q:QT}{Z:Loc->Prop}{f:aj}{l:List aj}{w:af}
theorem gd.still(ga:∀w2,aT P true (G f l) w2=.go (G f1 l) w2 #[])(k:∀w',ir Z w w'->(∀a,a<w.heap.size->w'.heap[a]?=w.heap[a]?)->gd P Q Z f1 l w'):gd P Q Z f l w:=by
 refine bc (U:=fun _ _=>False) (S:=fun _=>False) (Done:=fun S X f' l' w'=>X=(fun _=>False)/\f'=f1/\l'=l) (Tr.one fun w2 hr=>⟨_,_,_,_,_,_,ga w2,(jd (U:=fun _ _=>False) _ _ w2).toDid,.stop ⟨rfl,rfl,rfl⟩⟩) (fun b h=>h.elim) fun S' X' f' l' w' hd hk=>?_;obtain⟨rfl,rfl,rfl⟩:=hd;exact k w' (ir.of hk) fun a Y=>hk.kept a Y id
theorem gd.lays{B:Nat}{o:Obj}{E:af->af}(D:w.heap[B]?=some o)(ga:∀w2,w2.heap[B]?=some o->aT P true (G f l) w2=.go (G f1 l) (E w2) es)(A:∀w2,w2.heap[B]?=some o->Env.Eff B w2 (E w2)/\(E w2).heap[B]?=some o')(H:∀e∈es,∃a:Addr,e.loc=.cell a/\e.sync=false/\a.block=B)(F:iR Z B)
  (k:∀w',w'.heap[B]?=some o'->(∀b,b<w.heap.size->b≠B->w'.heap[b]?=w.heap[b]?)->w.heap.size<=w'.heap.size->w'.tape=w.tape->nc w'.os w.os->w'.output=w.output->gd P Q Z f1 l w'):gd P Q Z f l w:=by
 have C:=j0 D;refine bc (U:=fun _ _=>False) (S:=fun b=>b=B) (X:=fun b=>b=B) (Done:=fun S X f' l' w'=>w'.heap[B]?=some o'/\f'=f1/\l'=l) (Tr.one fun w2 hr=>?_) (fun b h=>by simp_all) fun S' X' f' l' w' hd hk=>?_
 ·have Y:=((hr.kept B rfl).eq (fun i y=>y)).trans D;exact⟨_,_,_,_,_,_,ga w2 Y,j9.toDid (U:=fun _ _=>False) (Cf rfl rfl (fun _=>id) (A w2 Y).1 H),.stop ⟨(A w2 Y).2,rfl,rfl⟩⟩
 ·obtain⟨R,rfl,rfl⟩:=hd;exact k w' R (fun b I K=>hk.kept b I K) hk.grow hk.tape hk.env hk.output
end
section
variable{main:Bool}{f:aj}{cs:List aj}
def D3(B:Nat)(a b c:ae)(w:af):World:=((w.setCell ⟨B,0,none⟩ a).setCell ⟨B,1,none⟩ b).setCell ⟨B,2,none⟩ c
theorem ajY{B:Nat}{a b c:ae}{t:ax}(w:af)(h:w.heap[B]?=some (.cells #[x,y,z] t)):Env.Eff B w (D3 B a b c w)/\(D3 B a b c w).heap[B]?=some (.cells #[a,b,c] t):=by
 refine⟨rO (rO (nP _) (nP _)) (nP _),?_⟩;have Y:=lI (i:=0) (v:=a) h;have K:=lI (i:=1) (v:=b) Y;exact lI K
end
section
variable{main:Bool}{f:aj}{cs:List aj}
def D4(B:Nat)(a b:ae)(w:af):World:=(w.setCell ⟨B,0,none⟩ a).setCell ⟨B,1,none⟩ b
theorem ajZ{B:Nat}{a b:ae}{t:ax}(w:af)(h:w.heap[B]?=some (.cells #[x,y] t)):Env.Eff B w (D4 B a b w)/\(D4 B a b w).heap[B]?=some (.cells #[a,b] t):=by
 refine⟨rO (nP _) (nP _),?_⟩;have Y:=lI (i:=0) (v:=a) h;exact lI Y
end
end Ph
namespace Ph
open Conc Ren
open Lock (Word PC)
theorem xe:ko PR (bC 9)=some false:=by kernel_rfl
theorem agV:ko PR (bC 166)=some false:=by kernel_rfl
theorem xM:(PR.funcs[122]?).any (·.norace)=false:=by kernel_rfl
theorem afv:(PR.info? 182).map (·.zero)=some (some (.pointer none)):=by kernel_rfl
theorem afw:(PR.info? 182).map (·.size)=some 1:=by kernel_rfl
theorem afx:(PR.info? 212).map (·.zero)=some (some (.agg #[.int .u64 0,.int .u32 0])):=by kernel_rfl
section
variable{X P:fb}{k q st n Rf Sg By Mp Fd Fp:Nat}{J:Nat->ae}{c:aj}{cs:List aj}
theorem agW:gu PR 4 ((eF LI (jK (aE X P k q st n) Rf Sg By Fp) J).finish (.map (some Mp))) (c::cs)=(c.finish (.map (some Mp)),cs):=by kernel_rfl
end
theorem NS{P:fb}{k q st:Nat}{t:Int}{x:Nat}:∀n,x∈jr P X k q st t n->x<n
 |0,h=>by cases h
 |n+1,h=>by
  have Y:x∈jr P X k q st t n->x<n:=NS n;rw[jr]at h;split at h
  ·rcases bj.1 h with y|y
   ·have:=Y y;omega
   ·simp at y;omega
  ·have:=Y h;omega
structure Lay(Z:Loc->Prop)(w0:af)(X P:fb)(k q st Rf Sg By Mp Fd Fp:Nat)(w:af):Prop where
 rf:w.heap[Rf]?=some (.cells #[.string X] 9)
 sg:w.heap[Sg]?=some (.cells #[.string P] 9)
 by_:w.heap[By]?=some (.cells #[iv k,iv q,iv st] 75)
 mp:w.heap[Mp]?=some (.map #[] 0)
 fd:w.heap[Fd]?=some (.cells #[.int .i32 0,.int .u32 0,.map (some Mp)] 191)
 fp:w.heap[Fp]?=some (.cells #[ptr Fd] 182)
 V_:iR Z Rf
 Wa:iR Z Sg
 Wb:iR Z By
 Mh:iR Z Mp
 Mi:iR Z Fd
 Fi:iR Z Fp
 o1:w0.heap.size<=Rf
 o2:Rf<Sg
 o3:Sg<By
 o4:By<Mp
 o5:Mp<Fd
 o6:Fd<Fp
 o7:Fp<w.heap.size
 oz:ir Z w0 w
theorem Lay.on{P:fb}{k q st:Nat}(h:Lay Z w0 X P k q st Rf Sg By Mp Fd Fp w)(g:ir Z w w'):Lay Z w0 X P k q st Rf Sg By Mp Fd Fp w':=
 ⟨g.at h.rf h.V_,g.at h.sg h.Wa,g.at h.by_ h.Wb,g.at h.mp h.Mh,g.at h.fd h.Mi,g.at h.fp h.Fi,h.V_,h.Wa,h.Wb,h.Mh,h.Mi,h.Fi,h.o1,h.o2,h.o3,h.o4,h.o5,h.o6,aK h.o7 g.grow,h.oz.trans g⟩
section
variable{Qq:QT}{Z:Loc->Prop}{w:af}{c:aj}{cs:List aj}{X P:fb}{k q st n:Nat}
theorem agX(kk:∀Rf Sg By Mp Fd Fp J w',Lay Z w X P k q st Rf Sg By Mp Fd Fp w'->gd PR Qq Z ((eF y_ (jK (aE X P k q st n) Rf Sg By Fp++[(12,ptr Fd)]) J).finish ah) (c::cs) w'):
  gd PR Qq Z (Frame.enter PR 122 #[.string X,.string P,jF k q st,iv n] .normal) (c::cs) w:=by
 refine ar 60 (UK X P k q st n (c::cs)) rfl eb0 rfl fun J1 w1 g1 _ _ _ _=>?_;refine aW (F:=fun B=>(eF Bf (aE X P k q st n) J1).finish (ptr B)) (o:=.cells #[.string X] 9) (fun w2=>Cx ail rfl rfl w2) fun Rf w2 l1 u1 f N g2=>?_;refine ar 60 (UL X P k q st n Rf J1 (c::cs)) rfl eb1 rfl fun J2 w3 g3 _ _ _ _=>?_;refine aW (F:=fun B=>(eF Bg (Bd (aE X P k q st n) Rf) J2).finish (ptr B)) (o:=.cells #[.string P] 9) (fun w2=>Cx aim rfl rfl w2) fun Sg w4 l2 u2 g O g4=>?_;refine ar 60 _ rfl eb2 rfl fun J3 w5 V _ _ _ _=>?_;refine aW (F:=fun B=>(eF Bh (Be (aE X P k q st n) Rf Sg) J3).finish (ptr B)) (o:=.cells #[iv k,iv q,iv st] 75) (fun w2=>Cx ain rfl rfl w2) fun By w6 l3 u3 W C g6=>?_;refine ar 60 _ rfl emm rfl fun J4 w7 S _ _ _ _=>?_;refine aW (F:=fun B=>(eF Bi _ J4).finish (.map (some B))) (o:=.map #[] 0) (fun w2=>afa aio w2) fun Mp w8 l4 u4 d M E=>?_;refine ar 60 (UM X P k q st n Rf Sg By Mp J4 (c::cs)) rfl eb3 rfl fun J5 w9 I _ _ _ _=>?_;refine aW (F:=fun B=>(eF Bj _ J5).finish (ptr B)) (fun w2=>Cx aip rfl rfl w2) fun Fd wA l5 u5 j L gA=>?_;refine ar 60 _ rfl eal rfl fun J6 wB R _ _ _ _=>?_;refine aW (F:=fun B=>(eF Bl (pA (aE X P k q st n) Rf Sg By++[(12,ptr Fd)]) J6).finish (ptr B)) (o:=.cells #[.pointer none] 182) (fun w2=>Hq aiq afv rfl w2) fun Fp wC l6 u6 z D A=>?_;refine ar 60 _ rfl efs rfl fun J7 wD H _ _ _ _=>?_;have Q:=((((((((((g3.trans g4).trans V).trans g6).trans S).trans E).trans I).trans gA).trans R).trans A).trans H);have e:=((((((((V.trans g6).trans S).trans E).trans I).trans gA).trans R).trans A).trans H);have b:=((((((S.trans E).trans I).trans gA).trans R).trans A).trans H);have h:=((((I.trans gA).trans R).trans A).trans H);have t:=((R.trans A).trans H);have s0:=g1.grow;have s2:=g3.grow;have s4:=V.grow;have s6:=S.grow;have s8:=I.grow;have LW:=R.grow;have s12:=H.grow;refine gd.write (v:=ptr Fd) (i:=0) (H.at z D) (fun w2 l=>afc air rfl rfl l (by simp) xM afw) D fun wE U K G m T p=>?_;have x:=(K Rf (by omega) (by omega)).trans (Q.at f N);have y:=(K Sg (by omega) (by omega)).trans (e.at g O);have r:=(K By (by omega) (by omega)).trans (b.at W C);have u:=(K Mp (by omega) (by omega)).trans (h.at d M);have s:=(K Fd (by omega) (by omega)).trans (t.at j L);have Y:=(g1.trans g2).trans Q;exact kk Rf Sg By Mp Fd Fp J7 wE ⟨x,y,r,u,s,U,N,O,C,M,L,D,by omega,by omega,by omega,by omega,by omega,by omega,by omega,⟨fun a ha ho=>(K a (by have:=Y.grow;omega) (by omega)).trans (Y.old a ha ho),au Y.grow G,m.trans Y.tape,T.trans Y.env,p.trans Y.output⟩⟩
def yo(Z:Loc->Prop)(B:Nat)(gq:List Nat)(b:Option Addr)(w:af):Prop:=∀i x:Nat,gq[i]?=some x->∃Nb Y,b=some ⟨Nb,0,none⟩/\B<=Nb/\Nb<w.heap.size/\w.heap[Nb]?=some (.cells Y 3)/\Y[i]?=some (.int .i64 (x:Int))/\iR Z Nb
theorem yo.on{B:Nat}{b:Option _}(h:yo Z B gq b w)(g:ir Z w w'):yo Z B gq b w':=fun i x U=>by
 have⟨Nb,Y,H,D,R,I,A,K⟩:=h i x U;exact⟨Nb,Y,H,D,aK R g.grow,g.at I K,A,K⟩
theorem agY(hX:X.size<=200)(hP:P.size<=30)(hk:k<=6)(h:1<=q)(T:q<=8)(hs:1<=st)(W:st<=200)(D:PR.globals.size<=w.heap.size)(d:Lay Z w0 X P k q st Rf Sg By Mp Fd Fp w)(m:Nat->ae)
  (kk:∀b cap J w',Lay Z w0 X P k q st Rf Sg By Mp Fd Fp w'->yo Z w.heap.size (j7 X P k q st) b w'->gd PR Qq Z ((eF xx (jK (aE X P k q st n) Rf Sg By Fp++[(13,.string X),(14,.string P),(15,jF k q st)]) J).finish (gU b (j7 X P k q st).length cap)) (c::cs) w'):
  gd PR Qq Z ((eF y_ (jK (aE X P k q st n) Rf Sg By Fp++[(12,ptr Fd)]) m).finish ah) (c::cs) w:=by
 have⟨S,V,Q,rMp,rFd,rFp,U,B,A,oMp,oFd,oFp,o1,o2,o3,o4,o5,o6,o7,gw⟩:=id d;refine ar 60 _ rfl ee1 rfl fun J8 wF L _ _ ld _=>?_;refine gd.read (fun w2 H=>qU ld xe H xM) (by rw[ay _ Rf 0 _ _ _ (L.at S U)];rfl) U fun wG gG=>?_;refine ar 60 _ rfl ee2 rfl fun J9 wH gH _ _ ld _=>?_;refine gd.read (fun w2 H=>qU ld xe H xM) (by rw[ay _ Sg 0 _ _ _ (((L.trans gG).trans gH).at V B)];rfl) B fun wI o=>?_;refine ar 60 _ rfl ee3 rfl fun JA wJ p _ _ ld _=>?_;have K:=(((L.trans gG).trans gH).trans o).trans p;have ga:∀w2:af,w2.heap[By]?=some (.cells #[iv k,iv q,iv st] 75)->aT PR true (G _ (c::cs)) w2=.go _ w2 _:=fun w2 H=>afd ld H xM;have N:∀e∈(#[⟨.cell ⟨By,0,none⟩,false,false⟩,⟨.cell ⟨By,1,none⟩,false,false⟩,⟨.cell ⟨By,2,none⟩,false,false⟩]:Array Event),∃a:Addr,e=⟨.cell a,false,false⟩/\a.block=By:=by simp
 refine gd.reads (K.at Q A) ga N A fun wK r=>?_;refine ar 60 _ rfl ee4 rfl fun l wL s _ ca _ _=>?_;refine gd.pure 1 fun wM t=>?_;rw[aij];have u:ir Z wL wM:=ir.of t;have Y:=((K.trans r).trans s).trans u;refine bp fun O=>?_;refine YU hX hP hk h T hs W (au D Y.grow) fun nv f I v=>?_;obtain⟨b,cap,rfl,R⟩:∃(b:Option Addr) (cap:Nat),nv=gU b (j7 X P k q st).length cap/\yo Z w.heap.size (j7 X P k q st) b f:=by
  rcases I.2 with⟨M,C⟩|⟨g,cap,F,M,C,j,h4,h5,h6,y⟩
  ·refine⟨none,0,by rw[M,C];rfl,fun i x z=>?_⟩;simp_all
  ·refine⟨some _,cap,M,fun i x z=>⟨g,F,rfl,au Y.grow C,j0 j,j,?_,O.off C⟩⟩;have E:((j7 X P k q st).map nG)[i]?=some (nG x):=by simp_all
   rw[<-y,bY (by have:=(List.getElem?_eq_some_iff.1 z).1;omega),bE]at E;exact E
 exact kk b cap l f (d.on (Y.trans v)) R
theorem agZ(hX:X.size<=200)(hP:P.size<=30)(hk:k<=6)(hs:1<=st)(G:st<=200)(hn:1<=n)(N:n<=8)(M:PR.globals.size<=w.heap.size){w1:af}(hL:Lay Z w0 X P k q st Rf Sg By Mp Fd Fp w){b:Option Addr}(ao8:Fp<w1.heap.size)(hN:yo Z w1.heap.size (j7 X P k q st) b w)(JB:Nat->ae)
  (kk:∀Wg J w',gR (iS Fd Mp Wg X P k st).U (fun a=>a<w.heap.size/\a≠Mp/\iR Z a) w w'->w.heap.size<=Wg->Wg<w'.heap.size->mQ (qo X P k st (j7 X P k q st)) (w'.heap[Mp]?)->w'.heap[Fd]?=some (.cells #[.int .i32 0,.int .u32 0,.map (some Mp)] 191)->w'.tape=w.tape->w'.output=w.output->Mp<w'.heap.size->gd PR Qq (fun l=>Z l\/ry (iS Fd Mp Wg X P k st) l) ((eF za (jK (aE X P k q st n) Rf Sg By Fp++[(16,gU b (j7 X P k q st).length cap),(17,iv n),(18,kh By Rf Sg Fp)]) J).finish unit) (c::cs) w'):
  gd PR Qq Z ((eF xx (jK (aE X P k q st n) Rf Sg By Fp++[(13,.string X),(14,.string P),(15,jF k q st)]) JB).finish (gU b (j7 X P k q st).length cap)) (c::cs) w:=by
 refine ar 60 _ rfl ee5 rfl fun JC wO y _ _ _ _=>?_;refine gd.pure 1 fun wP kP=>?_;rw[aik];have m:ir Z wO wP:=ir.of kP;refine ar 60 (UO (gU b (j7 X P k q st).length cap) n (kh By Rf Sg Fp) _) rfl ra0 rfl fun s wQ gQ _ _ _ _=>?_;refine aW (F:=fun B=>(dF Bm (Bn (gU b (j7 X P k q st).length cap) n (kh By Rf Sg Fp)) s).finish (ptr B)) (o:=.cells #[.int .u64 0,.int .u32 0] 212) (fun w2=>Hq ais afx rfl w2) fun Wg wR l7 u7 I j t=>?_;refine ar 60 (UQ (gU b (j7 X P k q st).length cap) n Wg (kh By Rf Sg Fp) s _) rfl ra1 rfl fun u wS O _ _ _ _=>?_;refine aW (F:=fun B=>(dF E8 (E9 (gU b (j7 X P k q st).length cap) n (kh By Rf Sg Fp) Wg) u).finish (qL B n)) (o:=.cells (ox [] n) 214) (fun w2=>afb ait N rfl rfl w2) fun Gv wT l8 u8 D W Q=>?_;refine ar 60 (TH b (j7 X P k q st).length cap n Wg Gv (kh By Rf Sg Fp) u _) rfl ajC rfl fun JF wU H _ _ _ C=>?_;have gA:=y.trans (m.trans gQ);have K:=(gA.trans t).trans (O.trans (Q.trans H));have A:=((O.trans Q).trans H).at I j;have R:=H.at D W;have s5:=gA.grow;have s7:=O.grow;have s9:=H.grow;have S:=hL.on K;have hNU:=hN.on K;have sB:=K.grow;have a1:=hL.o7;clear y m gQ t O Q H gA kP I D;have⟨p,r,z,g,d,f,oRf,oSg,oBy,oMp,oFd,oFp,o1,o2,o3,o4,o5,o6,o7,gw⟩:=id S;have hG:lu Z Fd Mp Wg Gv By Rf Sg Fp k q st n X P b (j7 X P k q st) wU:={
  cin:=⟨z,p,r,f,au M K.grow⟩
  fd:=d
  mp:=g
  wg:=A
  gv:=R
  num:=fun i x E=>by
   have⟨Nb,cur,h,e,h3,h4,h5,h6⟩:=hN i x E;refine⟨Nb,0,h,?_,by omega,by omega,by omega,by omega,h6⟩;rw[ay _ Nb (0+i) _ _ _ (K.at h4 h6),bI];exact h5
  off:=fun a Y=>by
   rcases Y with rfl|rfl|rfl|rfl|(rfl|rfl|rfl|rfl)<;>assumption
  fm:=by omega
  fw:=by omega
  fg:=by omega
  mw:=by omega
  mg:=by omega
  E6:=by omega
  kp:=fun a Y=>by
   rcases Y with rfl|rfl|rfl|rfl<;>(refine⟨?_,?_,?_,?_⟩<;>omega)
  n0:=hn
  n8:=N
  len:=by
   have:=BT P X k q st (iJ P.size k q) (stretches X.size st);have e:stretches X.size st<=400:=by
    unfold stretches;have:=Nat.div_le_self (X.size+st-1) st;omega
   unfold j7;omega
  hX:=hX
  hP:=hP
  hk:=hk
  ga:=G
  ok:=fun x E=>by
   have h:=(xH X.size st x hs).2 (NS _ E);have e:x<=x *st:=Nat.le_mul_of_pos_right x hs;omega}
 refine hG.phase (cap:=cap) (C.less fun i v hv=>wa (b:=[(18,.bool (decide ((0:Int)<(n:Int))))]) hv) ((C.slot 18 _ rfl).trans (by congr 1;simp)) fun w' hr hm V ht ho T=>?_;have L:∀a,a<w.heap.size/\a≠Mp/\iR Z a->kE Z Mp Gv wU.heap.size a:=fun a Y=>⟨by omega,Y.2.1,by omega,Y.2.2⟩;refine kk Wg JC w' ⟨fun a Y=>?_,au sB hr.grow,hr.env.trans K.env⟩ (by omega) (by have:=hr.grow;omega) hm V (ht.trans K.tape) (ho.trans K.output) T;have:=hr.kept a (L a Y);rw[K.old a Y.1 Y.2.2]at this;exact this
theorem gd.aiA{f:aj}{l:List _}{a:Addr}{v:ae}(ga:∀w2,w2.cell? a=some v->aT PP true (G f l) w2=.go (G f1 l) w2 #[⟨.cell a,false,false⟩])(Y:w.cell? a=some v)(A:iR Z a.block)(k:∀w',ir Z w w'->(∀b,b<w.heap.size->w'.heap[b]?=w.heap[b]?)->gd PP Qq Z f1 l w'):gd PP Qq Z f l w:=by
 have D:a.block<w.heap.size:=Nat.lt_of_not_le fun y=>by simp[ak,cK y]at Y
 refine bc (U:=fun _ _=>False) (S:=fun b=>b=a.block) (X:=fun _=>False) (Done:=fun S X f' l' w'=>X=(fun _=>False)/\f'=f1/\l'=l) (Tr.one fun w2 hr=>?_) (fun b h=>by simp_all) fun S' X' f' l' w' hd hk=>?_
 ·have K:w2.cell? a=some v:=by
   simp[ak]at Y⊢;rw[(hr.kept _ rfl).eq (fun i y=>y)];exact Y
  exact⟨_,_,_,_,_,_,ga w2 K,(uf (U:=fun _ _=>False) (S:=fun b=>b=a.block) rfl id).toDid,.stop ⟨rfl,rfl,rfl⟩⟩
 ·obtain⟨rfl,rfl,rfl⟩:=hd;exact k w' (ir.of hk) fun b H=>hk.kept b H id
theorem QG{Wg:Nat}{a:Nat}(h:iR Z a)(H:a≠Fd)(D:a≠Wg):iR (fun l=>Z l\/ry (iS Fd Mp Wg X P k st) l) a:=by
 intro l Y y;rcases y with y|y
 ·exact h l Y y
 ·cases l with
  |cell ad=>
   have:=Y;rcases y.1 with e|e
   ·exact H (this.symm.trans e)
   ·exact D (this.symm.trans e)
  |_=>exact y.elim
theorem W0(hX:X.size<=200)(hP:P.size<=30)(hk:k<=6)(hq:1<=q)(m:q<=8)(h:1<=st)(M:st<=200)(hn:1<=n)(d:n<=8)(A:PR.globals.size<=w.heap.size)
  (kk:∀Z' Mp w',(∀l,Z l->Z' l)->(∀l,Z' l->Z l\/∃a:Addr,l=.cell a/\w.heap.size<=a.block)->ir Z w w'->w.heap.size<=Mp->iR Z' Mp->mQ (qo X P k st (j7 X P k q st)) (w'.heap[Mp]?)->Mp<w'.heap.size->gd PR Qq Z' (c.finish (.map (some Mp))) cs w'):
  gd PR Qq Z (Frame.enter PR 122 #[.string X,.string P,jF k q st,iv n] .normal) (c::cs) w:=by
 refine agX fun Rf Sg By Mp Fd Fp t w1 O=>?_;refine agY hX hP hk hq m h M (au A O.oz.grow) O t fun b cap i w2 Y hN=>?_;refine agZ hX hP hk h M hn d (au A Y.oz.grow) Y O.o7 hN i fun Wg J3 w3 W hW1 hW2 hM hF ht ho pd=>?_;have o1:=Y.o1;have o2:=Y.o2;have o3:=Y.o3;have o4:=Y.o4;have o5:=Y.o5;have o6:=Y.o6;have o7:=Y.o7;have s3:=W.grow;have key:=fun a v x h3 C=>(W.kept a ⟨v,x,h3⟩).eq (wv C (by omega));have p:w3.heap[Fp]?=some (.cells #[ptr Fd] 182):=(key Fp o7 (by omega) Y.Fi (by omega)).trans Y.fp;have H:ir Z w w3:=⟨fun a B I=>(key a (by omega) (by omega) I (by omega)).trans (Y.oz.old a B I),au Y.oz.grow s3,ht.trans Y.oz.tape,W.env.trans Y.oz.env,ho.trans Y.oz.output⟩;have L:iR (fun l=>Z l\/ry (iS Fd Mp Wg X P k st) l) Fp:=QG Y.Fi (by omega) (by omega);have o:iR (fun l=>Z l\/ry (iS Fd Mp Wg X P k st) l) Mp:=QG Y.Mh (by omega) (by omega);clear key;refine ar 60 _ rfl ee6 rfl fun J4 w4 R C _ ld _=>?_;refine gd.aiA (a:=⟨Fp,0,none⟩) (fun w2 j=>qU ld Sd j xM) (by rw[ay _ Fp 0 _ _ _ (R.at p L)];rfl) L fun w5 N Q=>?_;refine ar 60 (UN X P k q st n Rf Sg By Fd Fp J4 (c::cs)) rfl ee7 rfl fun J5 w6 g6 T _ g _=>?_;have F:=(T Fd (by have:=R.grow;have:=N.grow;omega)).trans ((Q Fd (by have:=R.grow;omega)).trans ((C Fd (by omega)).trans hF));have V:w6.heap[Mp]?=w3.heap[Mp]?:=(T Mp (by have:=R.grow;have:=N.grow;omega)).trans ((Q Mp (by have:=R.grow;omega)).trans (C Mp (by omega)));have D:=(R.trans N).trans g6;have s36:=D.grow;refine gd.tz (U:=(iS Fd Mp Wg X P k st).U) (S:=fun a=>a=Fd) (X:=fun _=>False) (Done:=fun S' X' u w'=>X'=(fun _=>False)/\u=G ((eF LI (jK (aE X P k q st n) Rf Sg By Fp) J5).finish (.map (some Mp))) (c::cs)) (Tz.one rfl fun r z=>?_) (fun hlo a B=>?_) fun S' X' u r hd hk=>?_
 ·have j:r.cell? ⟨Fd,2,none⟩=some (.map (some Mp)):=qh (U:=(iS Fd Mp Wg X P k st).U) (S:=fun a=>a=Fd) rfl (fun y=>by have:=y.2;omega) (by rw[ay _ Fd 2 _ _ _ F];rfl) z;exact⟨_,r,_,_,_,qU g agV j xM,uf rfl (fun y=>by have x:(2:Nat)<2:=y.2;omega),.stop ⟨rfl,rfl⟩⟩
 ·subst B;refine⟨j0 F,fun l J I=>?_⟩;rcases I with y|y
  ·exact absurd y (Y.Mi l J)
  ·cases l with
   |cell ad=>exact⟨ad,rfl,y⟩
   |_=>exact y.elim
 ·obtain⟨rfl,rfl⟩:=hd;refine⟨_,_,rfl,gd.pure 4 fun s K=>?_⟩;rw[agW];have E:s.heap[Mp]?=w3.heap[Mp]?:=(K.kept Mp (by have:=hk.grow;omega) id).trans ((hk.kept Mp (by omega) id).trans V);have s8:=K.grow;have s7:=hk.grow;refine kk _ Mp s (fun l J=>.inl J) (fun l J=>?_) ?_ (by omega) o (by rw[E];exact hM) (by omega)
  ·rcases J with y|y
   ·exact .inl y
   ·cases l with
    |cell ad=>
     refine .inr ⟨ad,rfl,?_⟩;have:=Y.oz.grow;rcases y.1 with e|e
     ·rw[e];exact au (by omega) (az Fd)
     ·rw[e];exact au (by omega) (az Wg)
    |_=>exact y.elim
  ·have f:∀a,a<w.heap.size->iR Z a->s.heap[a]?=w3.heap[a]?:=fun a B I=>by
    have v:=Y.oz.grow;exact(K.kept a (by omega) id).trans ((hk.kept a (by omega) id).trans ((T a (by have:=R.grow;have:=N.grow;omega)).trans ((Q a (by have:=R.grow;omega)).trans (C a (by omega)))))
   exact⟨fun a B I=>(f a B I).trans (H.old a B I),by have:=H.grow;omega,K.tape.trans (hk.tape.trans (D.tape.trans H.tape)),K.env.trans (hk.env.trans (D.env.trans H.env)),K.output.trans (hk.output.trans (D.output.trans H.output))⟩
end
end Ph
namespace Ph
open Conc Ren
theorem ya{a:Nat}(H:∀l,Z' l->Z l\/∃a:Addr,l=.cell a/\w.heap.size<=a.block)(h:iR Z a)(D:a<w.heap.size):iR Z' a:=by
 intro l Y y;rcases H l y with y|⟨ad,rfl,K⟩
 ·exact h l Y y
 ·have:ad.block=a:=Y;omega
end Ph
namespace Ph
open Conc Ren
open Maps (Keyed IsMap Tidy has)
theorem adI{g:mm}{b:Nat}(h:mQ g (w.heap[b]?)):∃A l,w.ownsMap PR 3 (cD PR 3) b A (.map l)/\ve l g/\l.Pairwise (fun p q=>p.1≠q.1):=by
 have⟨es,clock,l,K,F,H,D⟩:=h;have Y:w.ownsMap PR 3 _ b _ (.map l):=⟨es,clock,K,F,az _,by rw[H]⟩;refine⟨es.size,l,Y,D,?_⟩;have⟨l',R,I,_⟩:=Y.entries Bc;simp_all
theorem adJ{g:mm}{b nn:Nat}{l:List _}(A:w.ownsMap PR 3 (cD PR 3) b nn (.map l))(H:ve l g){e d:Nat}(U:g e=some d)(D:e<1000000):(cS 166 (.map (some b)) (.int .i64 e) false).run PR w=.ok (.int .i64 d) w:=by
 have Y:keyOf PR 3 (.int .i64 e)=some (.int .i64 e):=by
  unfold keyOf;simp[mapKey,z_ D]
 have⟨c,K,R,I⟩:=A.lookup_int Bc u166 u3 (SP w) Y;have:=H.at_ e;simp_all
theorem YV{g:mm}{l:List _}(H:ve l g)(C:l.Pairwise (fun p q=>p.1≠q.1))(L:List Nat)(U:L.Pairwise (· < ·))(B:∀e,e∈L↔(g e).isSome=true):
  (∀A:List Int,A.Perm (cj (.map l))->A.mergeSort (fun x y=>decide (x<=y))=L.map (fun e=>((e:Nat):Int)))/\l.length=L.length:=by
 have Y:(L.map (fun e=>((e:Nat):Int))).Perm (cj (.map l)):=by
  refine perm_intKeys C (fun p K=>by have⟨e,_,h⟩:=H.keys p K;simp_all) ?_ fun x=>?_
  ·show List.Pairwise _ _
   rw[c7];exact U.imp fun h e=>by omega
  ·rw[bu];constructor
   ·rintro⟨e,J,rfl⟩;rw[H.has e];simp_all
   ·intro h;have h':=h;rw[Go.Maps.has_eq,List.any_eq_true]at h';have⟨p,K,D⟩:=h';have⟨e,_,I⟩:=H.keys p K;rw[I]at D;have F:=by simpa[Lit.sameKey]using D
    subst F;rw[H.has e]at h;exact⟨e,(B e).2 h,rfl⟩
 refine⟨fun A D=>?_,?_⟩
 ·have R:=mergeSort_of_perm_i (D.trans Y.symm);rw[R];refine List.mergeSort_of_pairwise ?_;rw[c7];exact U.imp fun h=>by simp;omega
 ·have:=Y.length_eq;simp[cj]at this;omega
end Ph
namespace Ph
theorem NT(e:Nat):∀(L:List (Nat×Nat)) (g:mm),(∀d,L.foldl better g e=some d->g e=some d\/(e,d)∈L)/\(∀d',(e,d')∈L->∃d,L.foldl better g e=some d/\d<=d')/\(∀d',g e=some d'->∃d,L.foldl better g e=some d/\d<=d')
 |[],g=>⟨fun d h=>.inl h,(fun d' h=>by cases h),fun d' h=>⟨d',h,az _⟩⟩
 |(x,y)::L,g=>by
  have⟨U,B,I⟩:=NT e L (better g (x,y));by_cases A:e=x
  ·subst A;have H:g e=none->better g (e,y) e=some y:=fun h=>by simp[better,h]
   have Y:∀z,g e=some z->better g (e,y) e=some (min z y):=fun z h=>by simp[better,h]
   refine⟨fun d hd=>?_,fun d' K=>?_,fun d' K=>?_⟩
   ·rcases U d hd with h|h
    ·cases D:g e with
     |none=>rw[H D]at h;simp_all
     |some z=>
      rw[Y z D]at h;simp only[Option.some.injEq]at h;rcases Nat.le_total z y with C|C
      ·simp_all
      ·simp_all
    ·simp_all
   ·rcases List.mem_cons.1 K with h|h
    ·cases h;have:∃z,better g (e,y) e=some z/\z<=y:=by
      cases D:g e with
      |none=>exact⟨y,H D,az _⟩
      |some z=>exact⟨min z y,Y z D,Nat.min_le_right _ _⟩
     have⟨z,F,J⟩:=this;have⟨d,hd,R⟩:=I z F;exact⟨d,hd,by omega⟩
    ·exact B d' h
   ·have:=Y d' K;obtain⟨d,hd,R⟩:=I _ this;exact⟨d,hd,by omega⟩
  ·have M:better g (x,y) e=g e:=by simp[better,A]
   simp_all
theorem NU(X P:fb)(k st:Nat):∀(gq:List Nat) g,gq.foldl (fun g x=>(kW X P k st x).foldl better g) g=(gq.flatMap (kW X P k st)).foldl better g
 |[],g=>rfl
 |x::l,g=>by simp;exact NU X P k st l _
theorem YW(X P:fb)(k q st:Nat)(B:1<=q)(ga:1<=st)(H:k<P.size)(e:Nat):qo X P k st (j7 X P k q st) e=if e<=X.size/\(il P X k e).1<=k then some (il P X k e).1 else none:=by
 unfold qo;rw[NU];obtain⟨I,A,_⟩:=NT e ((j7 X P k q st).flatMap (kW X P k st)) _;have ge:∀d,(e,d)∈(j7 X P k q st).flatMap (kW X P k st)->e<=X.size/\d<=k/\(il P X k e).1<=d:=by
  intro d hd;have⟨x,D,K⟩:=cW.1 hd;have R:=(FQ _).1 D;have:=(xH _ st x ga).2 R.1;exact adE X P k q st x e d (by omega) K
 by_cases Y:e<=X.size/\(il P X k e).1<=k
 ·rw[if_pos Y];have⟨x,D,K⟩:=aai X P k q st e B ga Y.1 Y.2 H;obtain⟨d,hd,U⟩:=A _ (cW.2 ⟨x,D,K⟩);rw[hd];rcases I d hd with h|h
  ·cases h
  ·have:=ge d h;congr 1;omega
 ·rw[if_neg Y];cases hr:((j7 X P k q st).flatMap _).foldl better _ e with
  |none=>rfl
  |some d=>
   rcases I d hr with h|h
   ·cases h
   ·have:=ge d h;omega
end Ph
namespace Ph
open Conc Ren
def lJ(w:af):Prop:=∀g,g=0\/g=2\/g=3->∃(c:Array ae) (t:ax) (fz:Nat×Nat),w.heap[g]?=some (.cells c t fz)/\∀x∈c,∃k n,x=cB k n
theorem lJ.same(h:lJ w)(e:∀g,g=0\/g=2\/g=3->w'.heap[g]?=w.heap[g]?):lJ w':=fun g Y=>by rw[e g Y];exact h g Y
theorem zy(h:iK w)(e:w'.heap[0]?=w.heap[0]?):iK w':=by
 have Y:dh Tryz.prog "internal/strconv.uint64pow10"=some 0:=by kernel_rfl
 unfold iK Lib.TabIs World.var? at *;simp_all
theorem ag0:lz K0 PR false vu=true:=by decide+kernel
def mK(X P rn rm:fb)(fl:Bool)(k:Nat):=(jg P X k).map fun e=>qF (o9 X P rn rm fl (fun e=>(il P X k e).2) (fun e=>(il P X k e).1) e)
def uM (X P:fb) (k q st n b5 b6 Mp:Nat) (i:Nat):Value:=(([(19,rJ b5 1),(20,.string X),(21,rJ b6 1),(22,.string P),(23,jF k q st),(24,iv n),(25,.map (some Mp))]:List (Nat×ae)).lookup i).getD ah
section
variable{Qq:QT}{Z:Loc->Prop}{w:af}{c:aj}{cs:List aj}{XN X rn P rm:fb}{fl:Bool}{k q st n:Nat}
theorem afy(hX:X.size<=200)(hP:P.size<=30)(hk:k<=6)(N:k<P.size)(h:1<=q)(hs:1<=st){w1:af}{b8:Nat}(A:w1.heap[b5]?=some (.cells #[.string XN,.string X] 68))(U:w1.heap[b6]?=some (.cells #[.string rn,.string P,.string rm] 131))(d:mQ (qo X P k st (j7 X P k q st)) (w1.heap[Mp]?))(O:Mp<w1.heap.size)(m:iK w1)(T:Nat->Question->Nat):
  vu.wp PR (aL PR aY fun e v=>∃y,e=.returned y/\v.ownsRow w1.heap.size 136 1 y (jg P X k).length (mK X P rn rm fl k)/\(jg P X k=[]->y=.slice none 0 0)/\∀a,a<w1.heap.size->v.heap[a]?=w1.heap[a]?) ⟨Fg (o_ XN X) (oB rn P rm) (jF k q st) (iv n) fl b5 b6 b8 Mp (uM X P k q st n b5 b6 Mp),[]⟩ (tp w1 T):=by
 have⟨E,l,I,S,Q⟩:=adI d;have f:=YW X P k q st h hs N;have g:∀e,e∈jg P X k↔(qo X P k st (j7 X P k q st) e).isSome=true:=by
  intro e;rw[G2,f e];simp_all
 obtain⟨R,Z⟩:=YV S Q _ (aah P X k) g;have c:=zE P X k;have Y:∀W:af,W.heap[Mp]?=w1.heap[Mp]?->W.ownsMap PR 3 (cD PR 3) Mp E (.map l):=by
  intro W J;have⟨es,clock,H,r⟩:=I;exact⟨es,clock,J.trans H,r⟩
 refine wp_mono (abU X P rn rm XN fl (jg P X k) (fun e=>(il P X k e).2) (fun e=>(il P X k e).1) _ _ _ _ b5 b6 b8 Mp _ _ hX hP (by omega) (by omega) A U ?_ ?_ O ?_ (zy m rfl)) ?_
 ·refine(Xk Mp E _ _ (tp w1 T) (Y _ rfl) (by show l.length<=_;omega)).mono ?_;rintro e w' ⟨v,G,rfl,V,K,H⟩;refine⟨v,rfl,?_,H⟩;have j:=R G V;rw[j]at K;have z:G.length=(jg P X k).length:=by
   have:=V.length_eq;simp[cj]at this;omega
  rw[z,cw]at K;exact K
 ·intro W J e M;have hd:qo X P k st (j7 X P k q st) e=some (il P X k e).1:=by simp_all
  exact adJ (Y W J) S hd (by have:=((G2 P X k e).1 M).1;omega)
 ·intro e M;have⟨a1,a2,a3,a4,a5⟩:=NR P X k e M;exact⟨a1,by omega,a3,a4,a5⟩
 ·intro e a v H;cases e with
  |normal=>have⟨B,y,C,v',D,F,A,U⟩:=H;exact⟨B,y,C,v',D,F,U,fun a L=>A.block a L⟩
  |ret=>have⟨B,y,C,v',D,F,A,U⟩:=H;exact⟨B,y,C,v',D,F,U,fun a L=>A.block a L⟩
  |panic ch=>have⟨B,v',D,_⟩:=H;cases D
  |outgrown=>have⟨v',D,_⟩:=H;cases D
  |exit id=>exact H
  |goto l=>exact H
end
end Ph
namespace Ph
open Conc Ren
open WideElems (Fit rd rg rd_val)
theorem aal{g:mm}{es:Array _}{clock:Nat}(h:mQ g (some (.map es clock))):∀x∈es,∃a b,x.key=.int .i64 a/\x.val=.int .i64 b:=by
 have⟨iI,K,l,H,F,_⟩:=h;cases H;intro x U;have Y:x∈es.toList:=by simp_all
 have⟨a,I⟩:=Hn F x Y;have⟨y,D⟩:=F.reads x Y;have⟨z,R,_⟩:=rd_val D;have⟨b,A,_⟩:=plainElem_int_inv u3 R;simp_all
theorem abV[gm]{r:Rn}{c c':Array _}(h:VA r c c')(D:∀x∈c,∃k n,x=cB k n):c'=c:=by
 apply Array.ext
 ·exact h.size.symm
 ·intro i H Y;have K:=h.at_ i _ _ (aP Y) (aP H);obtain⟨k,n,e⟩:=D _ (Array.getElem_mem Y);rw[e]at K⊢;exact PF K
end Ph
namespace Ph
open Conc Ren
@[reducible] def gv:gm:=K0.jD PR Ak v_ wb tg
@[reducible] def gr(k:List Item):gm:=K0.jD PR Ak v_ (fun x=>x=k) tg
theorem ag1(k:List Item):AK gv (gr k):=⟨rfl,fun _ h=>h,fun _ h=>h,fun _ h=>h,fun _=>Iff.rfl,fun _ _ h=>h⟩
theorem ag2(k:List Item):AK (gr k) gv:=⟨rfl,fun _ h=>h,fun _ h=>h,fun _ h=>h,fun _=>Iff.rfl,fun _ _ h=>h⟩
abbrev RN:=@Rn gv
structure Al(Z:Loc->Prop)(r:RN)(v w:af):Prop where
 w:@Ren.W gv r 0 v w
 gi:@GI gv r
 off:∀a,@Rd gv r a->iR Z a
structure Ke(w w':af):Prop where
 tape:w'.tape=w.tape
 env:nc w'.os w.os
 output:w'.output=w.output
 grow:w.heap.size<=w'.heap.size
theorem Ke.trans{w w1 w2:af}(h:Ke w w1)(k:Ke w1 w2):Ke w w2:=⟨k.tape.trans h.tape,k.env.trans h.env,k.output.trans h.output,au h.grow k.grow⟩
theorem Ke.of{X:Nat->Prop}(h:Kept X X' w w'):Ke w w':=⟨h.tape,h.env,h.output,h.grow⟩
section
variable{tb:Bool}{Q:QT}{R:ae->af->Prop}{Z:Loc->Prop}{r:RN}{v w w':af}{fn:aD}{k k':List Item}{a:Array ae}
theorem Al.low(h:Al Z r v w){b:Nat}(Y:@Rd gv r b):b<w.heap.size:=by
 letI:=gv
 obtain⟨c,K⟩:=Y;exact(h.w.lt K).2
theorem Al.on(h:Al Z r v w)(hk:∀b,@Rd gv r b->w'.heap[b]?=w.heap[b]?)(Y:Ke w w'):Al Z r v w':=
 ⟨@W.rely gv (fun _ _=>False) r 0 v w w' h.w (fun _ _ _ _ y=>y.elim) ⟨fun b K=>.inl (hk b K),Y.grow,Y.env⟩,h.gi,h.off⟩
theorem Al.quiet(h:Al Z r v w)(hk:Kept (fun _=>False) X' w w'):Al Z r v w':=h.on (fun b Y=>hk.kept b (h.low Y) id) (.of hk)
structure Kz(Z:Loc->Prop)(r:RN)(w:af)(Z':Loc->Prop)(r':RN)(w':af):Prop where
 ke:Ke w w'
 kept:∀b,b<w.heap.size->¬ @Rd gv r b->iR Z b->w'.heap[b]?=w.heap[b]?
 may:∀b,b<w.heap.size-> @Rd gv r' b-> @Rd gv r b
 more:∀l,Z l->Z' l
 only:∀l,Z' l->Z l\/∃a:Addr,l=.cell a/\w.heap.size<=a.block
theorem Kz.trans{Z1 Z2:Loc->Prop}{r1 r2:RN}{w1 w2:af}(h:Kz Z r w Z1 r1 w1)(k:Kz Z1 r1 w1 Z2 r2 w2):Kz Z r w Z2 r2 w2:=
 have g:=h.ke.grow
 ⟨h.ke.trans k.ke,fun b Y K H=>(k.kept b (by omega) (fun y=>K (h.may b Y y)) (ya h.only H Y)).trans (h.kept b Y K H),fun b Y y=>h.may b Y (k.may b (by omega) y),fun l y=>k.more l (h.more l y),fun l y=>(k.only l y).elim (h.only l) fun⟨a,e,q⟩=>.inr ⟨a,e,by omega⟩⟩
theorem Kz.of{X:Nat->Prop}{r':RN}(h:Kept X X' w w')(H:∀a,X a-> @Rd gv r a)(D:∀a,@Rd gv r' a->X' a):Kz Z r w Z r' w':=
 ⟨.of h,fun b Y K _=>h.kept b Y fun y=>K (H b y),fun b Y y=>(h.may b (D b y)).elim (H b) fun q=>by omega,fun _ y=>y,fun _ y=>.inl y⟩
theorem Kz.qt(h:Kept (fun _=>False) X' w w'):Kz Z r w Z r w':=⟨.of h,fun b Y _ _=>h.kept b Y id,fun _ _ y=>y,fun _ y=>y,fun _ y=>.inl y⟩
theorem Al.fin{r':RN}(Y:Al Z r v w)(U:pV Z w.heap.size)(D:@Le gv r r')(A:@Ren.W gv r' 0 v' w')(H:Kept (@Wr gv r) (@Wr gv r') w w'):Al Z r' v' w'/\Kz Z r w Z r' w':=by
 letI:=gv
 exact⟨⟨A,Y.gi.mono D,fun b ⟨b0,R⟩=>(H.may b ⟨b0,R,id⟩).elim (fun⟨K,h,_⟩=>Y.off b ⟨K,h⟩) U.off⟩,.of H (fun _ ⟨b,e,_⟩=>⟨b,e⟩) fun _ ⟨b,e⟩=>⟨b,e,id⟩⟩
def aj0(Q:QT)(Z:Loc->Prop)(x:ae)(l:List aj)(w:af):Prop:=match l with
 |c::cs=>gd PR Q Z (c.finish x) cs w
 |[]=>∀f,(∀u,aT PR true (G f []) u=.ended (.done x) u #[])->gd PR Q Z f [] w
theorem zT(h:l.isEmpty=false):∃c cs,l=c::cs:=by
 cases l with
 |nil=>cases h
 |cons c cs=>exact⟨c,cs,rfl⟩
def Kt(Q:QT)(R:ae->af->Prop)(r:RN)(Z:Loc->Prop)(w:af)(l:List aj):Prop:=
 ∀(r':RN) (Z':Loc->Prop) (x x':ae) (v' w':af),@Le gv r r'-> @V gv r' x x'->Al Z' r' v' w'->Kz Z r w Z' r' w'->R x v'->aj0 Q Z' x' l w'
theorem Kt.on{r':RN}(h:Kt Q R r Z w l)(hr:@Le gv r r')(hw:Kz Z r w Z1 r' w'):Kt Q R r' Z1 w' l:=
 fun r2 Z' x x' v' w2 Y K H D I=>h r2 Z' x x' v' w2 (@Le.trans gv r r' r2 hr Y) K H (hw.trans D) I
def ly(Q:QT)(g:aD)(args:Array ae)(v:af)(R:ae->af->Prop):Prop:=
 ∀(r:RN) (Z:Loc->Prop) (w:af) (Y:Array ae) (c:aj) (cs:List aj),@VA gv r args Y->Al Z r v w->Kt Q R r Z w (c::cs)->gd PR Q Z (Frame.enter PR g Y .normal) (c::cs) w
abbrev bf(fn:aD):Frame:=⟨fn,#[],[],[],.run,.normal,none⟩
def GW(tb:Bool)(Q:QT)(R:ae->af->Prop)(fn:aD)(k:List Item)(a:Array ae)(v:af):Prop:=
 ∀(r:RN) (Z:Loc->Prop) (w:af) (t:Array ae) (l:List aj),l.isEmpty=tb-> @VA gv r a t->Al Z r v w->Kt Q R r Z w l->gd PR Q Z ((bf fn).at ⟨t,[]⟩ k) l w
theorem GW.run(n:Nat)(g:GW tb Q R fn k' a v)(h:∀t l,gu PR n ((bf fn).at ⟨t,[]⟩ k) l=((bf fn).at ⟨t,[]⟩ k',l):=by intro t l;kernel_rfl):GW tb Q R fn k a v:=by
 intro r Z w t l K H Y D;refine gd.pure n fun w' hk=>?_;rw[h];exact g r Z w' t l K H (Y.quiet hk) (D.on (fun _ _ e=>e) (.qt hk))
theorem aiB(Y:∃F,PR.funcs[fn]?=some F){t:Array ae}(H:@VA gv r a t):@FR gv PR r true ((bf fn).at ⟨a,[]⟩ []) ((bf fn).at ⟨t,[]⟩ []):=by
 letI:=gv
 exact⟨rfl,H,.nil,.nil,.run,rfl,.inl rfl,.none,fun _=>Y⟩
theorem zU(Y:∃F,PR.funcs[fn]?=some F){t:Array ae}(D:@VA gv r a t)(H:@GI gv r){x:bJ}(A:@js gv x):@V gv r (Act.eval ⟨a,[]⟩ x) (Act.eval ⟨t,[]⟩ x):=by
 letI:=gv
 have:=(aiB Y D).eval H x A
 rwa [cm,cm]at this
theorem GW.cond(Y:∃F,PR.funcs[fn]?=some F){x:bJ}{p q:Code}{t:Bool}(B:@js gv x)(A:Act.eval ⟨a,[]⟩ x=.bool t)(g:GW tb Q R fn (.code (if t then p else q)::k) a v):GW tb Q R fn (.code (.cond x p q)::k) a v:=by
 intro r Z w u l U H K C;have I:Act.eval ⟨u,[]⟩ x=.bool t:=by
  have:=zU Y H K.gi B;rw[A]at this;generalize Act.eval ⟨u,[]⟩ x=y at this;cases this;rfl
 refine gd.pure 1 fun w' hk=>?_;have e:gu PR 1 ((bf fn).at ⟨u,[]⟩ (.code (.cond x p q)::k)) l=((bf fn).at ⟨u,[]⟩ (.code (if t then p else q)::k),l):=by
  have D:Frame.eval ⟨fn,u,.code (.cond x p q)::k,[],.run,.normal,none⟩ x=.bool t:=(cm (bf fn) ⟨u,[]⟩ _ x).trans I;simp only[gu,oc,Frame.at,prun,D]
 rw[e];exact g r Z w' u l U H (K.quiet hk) (C.on (fun _ _ e=>e) (.qt hk))
theorem GW.piece(G:∃F,PR.funcs[fn]?=some F){p:Code}(hp:lz K0 PR false p=true){R1:Array ae->af->Prop}(hk:zX k=true)(m:∀T,p.wp PR (fun e a' v'=>e=.normal/\a'.defers=[]/\R1 a'.tmps v') ⟨a,[]⟩ (tp v T))
  (g:∀a' v',R1 a' v'->GW tb Q R fn k a' v'):GW tb Q R fn (.code p::k) a v:=by
 intro r Z w t l s n Y i;refine bp fun K=>?_;have A:=ag1 k;have I:=ag2 k
 letI:=gr k
 have H:lQ PR false p:=vB (fun _ _ h=>h) hp;have o:FR PR (ot A r) true ((bf fn).at ⟨a,[]⟩ (.code p::ta)) ((bf fn).at ⟨t,[]⟩ (.code p::k)):=by
  refine⟨rfl,uv A n,?_,.nil,.run,rfl,.inl rfl,.none,fun _=>G⟩;show IL PR _ false true (.code p::ta) (.code p::k)
  exact .cons (.code H) (.rest rfl rfl rfl hk)
 have u:=Oh (main:=true) (U:=fun _ _=>False) (yz (fun x=>x=k) tg) (fun ops h=>by cases h) (r0:=ot A r) (fun g S=>Y.gi g S) m rfl H o (gS:=l) (I7 A Y.w) (fun _ _ _ _ h=>h.elim) (fun _ _ h=>h.elim);refine bc (U:=fun _ _=>False) u (fun b B=>⟨Y.off b B,Y.low B⟩) fun S' X' f' l' w' hd W=>?_;obtain⟨rfl,r',a',v',E,z,q,j,⟨O,f⟩,_,_,D,f1,f2,V,X,f5,f6⟩:=O8 (kr:=k) (fun k h=>h) hd;subst q j;have⟨L,tmps,todo,defers,mode,kind,ro⟩:=f';simp only at f1 f2 V X f5 f6 D;rw[O]at f6;have P:defers=[]:=by
  generalize defers=d at f6;cases f6 with
  |nil=>rfl
  |rest _ h=>exact h.elim
 subst P V X f5;have C:L=fn:=f1;have J:kind=.normal:=f2;subst C J;have M:Al Z (ot I r') v' w':=⟨I7 I z,fun g S=>E _ _ (Y.gi g S),fun b B=>?_⟩
 ·exact g a'.tmps v' f (ot I r') Z w' tmps _ s (uv I D) M (i.on (fun b c e=>E b c e) (.of W (fun _ ⟨b,e,_⟩=>⟨b,e⟩) fun _ ⟨b,e⟩=>⟨b,e,id⟩))
 ·rcases W.may b ⟨_,B.choose_spec,fun h=>h⟩with y|y
  ·have⟨b0,N,_⟩:=y;exact Y.off b ⟨b0,N⟩
  ·exact K.off y
theorem GW.rest{F:Func}(Y:PR.funcs[fn]?=some F){p:Code}(N:lz K0 PR false p=true)(M:∀T,p.wp PR (aL PR F fun e v'=>∃x,e=.returned x/\R x v') ⟨a,[]⟩ (tp v T)):GW false Q R fn [.code p] a v:=by
 intro r Z w t l L O H P;obtain⟨c,cs,rfl⟩:=zT L;refine bp fun K=>?_
 letI:=gv
 have D:lQ PR false p:=vB (fun _ _ h=>h) N;refine gd.rest (yz wb tg) (fun _ h=>by cases h) (fun _ h=>h) H.gi (b:=bf fn) Y rfl M (fun e u h=>h.imp fun x y=>y.1) (f':=(bf fn).at ⟨t,[]⟩ [.code p]) ⟨rfl,O,.cons (.code D) .nil,.nil,.run,rfl,.inl rfl,.none,fun _=>⟨_,Y⟩⟩ H.w H.off fun r' v' x x' w' I A U B C=>?_;have⟨y,e,J⟩:=B;cases e;have z:=H.fin K I U C;exact P r' Z x x' v' w' I A z.1 z.2 J
end
theorem adK{U:Nat->Nat->Prop}(S X:Nat->Prop)(w:af):j9 U S X w {w with drawn:=w.drawn+1} #[] S X:=⟨⟨fun _ _ _=>rfl,az _,fun a=>⟨.inl,fun h=>h.resolve_right fun y=>by have:=y.2;simp at this;omega⟩,fun a=>⟨.inl,fun h=>h.resolve_right fun y=>by have:=y.2;simp at this;omega⟩,fun e Y=>by simp_all,rfl,.refl _,rfl⟩,fun e Y=>by simp_all⟩
section
variable{P:Program}{Q:QT}{Z:Loc->Prop}{w:af}{cs:List aj}
theorem gd.pick{b:aj}{a:Act}{k:List Item}{id:Nat}{ops:Array Oper}(h:∀t w',ir Z w w'->(∀b,b<w.heap.size->w'.heap[b]?=w.heap[b]?)->gd P Q Z (b.at a (.inRegion ops (cx (P.follows .mixedOrders) ops t)::k)) cs w'):gd P Q Z (b.at a (.code (.region id ops true)::k)) cs w:=by
 refine bc (U:=fun _ _=>False) (S:=fun _=>False) (Done:=fun S X f' l' w'=>X=(fun _=>False)/\l'=cs/\∃t,f'=b.at a (.inRegion ops (cx _ ops t)::k)) (Tr.one fun w2 hr=>⟨_,_,_,_,_,_,stepG_region_draw,(adK (U:=fun _ _=>False) _ _ w2).toDid,.stop ⟨rfl,rfl,_,rfl⟩⟩) (fun b h=>h.elim) fun S' X' f' l' w' hd hk=>?_;obtain⟨rfl,rfl,t,rfl⟩:=hd;exact h t w' (ir.of hk) fun b Y=>hk.kept b Y (fun y=>y)
end
theorem mixed:PR.follows .mixedOrders=true:=by kernel_rfl
theorem sched{ops:Array Oper}(t:Nat):cx (PR.follows .mixedOrders) ops t=Region.linearise.go .any ops ops.size t (bF ops.size false) []:=by
 rfl
theorem C8{md:Region.Mode}{ops:Array Oper}{i:Nat}(h:Region.ready md ops listed=[i])(fuel t:Nat):Region.linearise.go md ops (fuel+1) t listed []=i::Region.linearise.go md ops fuel (t/1) (listed.setIfInBounds i true) []:=by
 change(match(Region.ready md ops _)[t%(Region.ready md ops _).length]? with
   |some i=>Region.linearise.go md ops _ (t/(Region.ready md ops _).length) _ [i]
   |none=>[].reverse)=_
 rw[h];simp only[List.length_singleton,Nat.mod_one,List.getElem?_cons_zero];rw[dt,c8,c9]
def ab:List Bool:=[false,true]
theorem kT{f:Bool->Bool}(h:ab.all f=true)(d:Bool):f d=true:=br.1 h d (by cases d<;>simp[ab])
def wy:Nat->ae->Bool
 |_,.bool _|_,.int .. |_,.string _|_,.pointer none|_,.slice none _ _|_,.nilFunc|_,.nilIface=>true
 |n+1,.agg c=>c.all (wy n)
 |n+1,.iface _ v=>wy n v
 |_,_=>false
theorem QH[gm]{r:Rn}:∀{n:Nat} {v y:ae},wy n v=true->V r v y->y=v:=by
 intro n;induction n with
 |zero=>
  intro v y h K;cases K<;>first|rfl|(simp[wy]at h)
 |succ n D=>
  intro v y h K;cases K with
  |agg I R=>
   congr 1;apply Array.ext
   ·omega
   ·intro i Y H;exact D (cJ.1 h i H) (R i _ _ (aP H) (aP Y))
  |iface t Y=>exact congrArg _ (D h Y)
  |_=>first|rfl|(simp[wy]at h)
def mc(d:Option Nat)(x:ae)(a:Array ae):Array Value:=match d with
 |some i=>a.setIfInBounds i x
 |none=>a
theorem adM(d:Option Nat)(x:ae)(a:Array ae):Act.put ⟨a,[]⟩ d x=⟨mc d x a,[]⟩:=by cases d<;>rfl
section
variable{tb:Bool}{Q:QT}{R R1:ae->af->Prop}{Z:Loc->Prop}{r:RN}{v v1 w w':af}{fn f:aD}{k:List Item}{a args:Array ae}{ops:Array Oper}{i:Nat}{is:List Nat}{o:Oper}{x:ae}
theorem Sn{r':RN}{t:Array ae}(h:@VA gv r a t)(hr:@Le gv r r')(Y:@V gv r' x x')(d:Option Nat):@VA gv r' (mc d x a) (mc d x' t):=by
 letI:=gv
 cases d with
 |none=>exact h.mono hr
 |some i=>exact(h.mono hr).set i Y
theorem SZ(H:ops[i]?=some o)(Y:o.guard=none)(t:Array ae):opAt ((bf fn).at ⟨t,[]⟩ (.inRegion ops (i::is)::k))=some o:=by
 simp[opAt,Frame.at,H,di,Y]
theorem fin_at(Y:ops[i]?=some o)(t:Array ae)(y:ae):((bf fn).at ⟨t,[]⟩ (.inRegion ops (i::is)::k)).finish y=(bf fn).at ⟨mc o.dst y t,[]⟩ (.inRegion ops is::k):=by
 rw[Frame.finish_at,Y];simp only[db];rw[adM]
theorem GW.op(T:∃F,PR.funcs[fn]?=some F)(N:ops[i]?=some o)(d:o.guard=none)(M:mV K0 PR o.op=true)(G:∀c,o.op=.call c->c.callee≠.builtin .recover)(hd:v1.drawn=v.drawn){n:Next}(hr:(aA (Act.eval ⟨a,[]⟩) o).run PR v=.ok n v1)(hn:n=.value x\/n=.skip/\x=ah)
  (g:GW tb Q R fn (.inRegion ops is::k) (mc o.dst x a) v1):GW tb Q R fn (.inRegion ops (i::is)::k) a v:=by
 intro r Z w t l hl j A kk;refine bp fun B=>?_
 letI:=gv
 have F:=yz wb tg;have E:DG PR o.op:=Qr (fun _ _ h=>h) M;have q:SR PR (NX true) r (aA (Act.eval ⟨a,[]⟩) o) (aA (Act.eval ⟨t,[]⟩) o):=O6 F.toFit (fun y hy=>zU T j A.gi hy) (fun y=>⟨rfl,rfl⟩) o E (fun c e s=>absurd s (G c e));refine bc (U:=fun _ _=>False) (S:=Rd r) (X:=Wr r) (Done:=fun S X f' l' w'=>∃(r':Rn) (x':ae),Le r r'/\V r' x x'/\Ren.W r' 0 v1 w'/\S=Rd r'/\X=Wr r'/\f'=(bf fn).at ⟨mc o.dst x' t,[]⟩ (.inRegion ops is::k)/\l'=l) (Tr.one fun w2 hrel=>?_) (fun b M=>⟨A.off b M,A.low M⟩) fun S' X' f' l' w' hd hK=>?_
 ·have H:Ren.W r 0 v w2:=A.w.rely (U:=fun _ _=>False) (fun _ _ _ _ y=>y.elim) hrel;have h:=SR.run F.r7 q #[] H;rw[hr]at h;generalize D:(aA (Act.eval ⟨t,[]⟩) o).runT PR w2 #[]=y at h;cases h with
  |@ok _ a' _ w1 fs r1 c1 out C O=>
   have L:c1=0:=by have:=out.drew;omega
   subst L;rw[Sem.runT_eq]at D;have K:(aA (Act.eval ⟨t,[]⟩) o).run PR w2=.ok a' w1:=congrArg Prod.fst D;have Y:(aA (Act.eval ⟨t,[]⟩) o).events PR w2 #[]=fs:=congrArg Prod.snd D;have I:∀p e,e∈seen PR p fs->lX r w2 w1.heap.size e:=fun p e he=>(O e (mem_seen _ _ e he)).elim (fun z=>by simp at z) id;rcases hn with rfl|⟨rfl,rfl⟩
   ·cases C with
    |@value _ x' hV=>
     have ga:=oM (P:=PR) (main:=true) (f:=(bf fn).at ⟨t,[]⟩ (.inRegion ops (i::is)::k)) (cs:=l) (w:=w2) (w':=w1) (SZ N d t) (v:=x') (by rw[bG];exact K);rw[bG,Y,fin_at N]at ga;exact⟨_,_,_,_,_,_,ga,out.did H (I _),.stop ⟨r1,x',out.le,hV,out.wl,rfl,rfl,rfl,rfl⟩⟩
   ·cases C with
    |skip=>
     have ga:=step_skip (P:=PR) (main:=true) (f:=(bf fn).at ⟨t,[]⟩ (.inRegion ops (i::is)::k)) (cs:=l) (w:=w2) (w':=w1) (SZ N d t) (by rw[bG];exact K);rw[bG,Y,fin_at N]at ga;exact⟨_,_,_,_,_,_,ga,out.did H (I _),.stop ⟨r1,ah,out.le,.tuple rfl (fun i x x' e=>by simp at e),out.wl,rfl,rfl,rfl,rfl⟩⟩
  |lF hf _=>have:(Result.ok n v1).world.drawn=v1.drawn:=rfl;omega
 ·obtain⟨r',x',J,u,m,rfl,rfl,rfl,rfl⟩:=hd;have z:=A.fin B J m hK;exact g r' Z w' _ _ hl (Sn j J u o.dst) z.1 (kk.on J z.2)
def nL(ops:Array Oper)(i:Nat):Option Nat:=ops[i]?.bind (·.dst)
def Fj(ops:Array Oper)(i:Nat):Array Operand:=match ops[i]?.map (fun o=>o.op)with
 |some (Op.call c)=>c.args
 |_=>#[]
def ts (ops:Array Oper) (i:Nat) (t:Array ae):Option (aD×Array ae):=match ops[i]? with
 |some o=>if o.guard.isNone then match ko PR (aA (Act.eval ⟨t,[]⟩) o)with
  |some (.enter f zs)=>some (f,zs)
  |_=>none else none
 |none=>none
theorem adN{t zs:Array ae}(h:ts ops i t=some (f,zs)):∃o,ops[i]?=some o/\o.guard=none/\ko PR (aA (Act.eval ⟨t,[]⟩) o)=some (.enter f zs):=by
 unfold ts at h;split at h
 ·rename_i o H;split at h
  ·rename_i Y;split at h
   ·rename_i g D K;cases h;exact⟨o,H,dc.1 Y,K⟩
   ·cases h
  ·cases h
 ·cases h
theorem GW.call(H:∃F,PR.funcs[fn]?=some F)(M:ly Q f args v R1)(g:∀x v',R1 x v'->GW tb Q R fn (.inRegion ops is::k) (mc (nL ops i) x a) v')(Y:(Fj ops i).map (Act.eval ⟨a,[]⟩)=args:=by kernel_rfl)(h:∀t,ts ops i t=some (f,(Fj ops i).map (Act.eval ⟨t,[]⟩)):=by intro t;kernel_rfl)(A:(Fj ops i).all (kD K0)=true:=by kernel_rfl):GW tb Q R fn (.inRegion ops (i::is)::k) a v:=by
 intro r Z w t l O U I S
 letI:=gv
 refine gd.pure 1 fun w1 hk=>?_;have⟨o,D,N,gh⟩:=adN (h t);have e:gu PR 1 ((bf fn).at ⟨t,[]⟩ (.inRegion ops (i::is)::k)) l=(Frame.enter PR f ((Fj ops i).map (Act.eval ⟨t,[]⟩)) .normal,(bf fn).at ⟨t,[]⟩ (.inRegion ops (i::is)::k)::l):=by
  have K:Frame.eval ⟨fn,t,.inRegion ops (i::is)::k,[],.run,.normal,none⟩=Act.eval ⟨t,[]⟩:=bG (bf fn) ⟨t,[]⟩ _;simp only[gu,oc,Frame.at,prun,D,di,N,pop,K,gh];simp
 rw[e];refine M r Z w1 _ _ _ ?_ (I.quiet hk) fun r' Z' x x' v' w' K B C J L=>?_
 ·rw[<-Y];exact VA.mapOf fun y P=>zU H U I.gi (tY (Array.all_eq_true_iff_forall_mem.1 A y P))
 ·have e:nL ops i=o.dst:=by simp[nL,D]
  rw[e]at g;change gd PR Q Z' (((bf fn).at ⟨t,[]⟩ (.inRegion ops (i::is)::k)).finish x') l w';rw[fin_at D];exact g x v' L r' Z' w' _ l O (Sn U K B o.dst) C (S.on K ((Kz.qt hk).trans J))
theorem ly.iG(D:K0.iG f=true)(M:∀T,aI PR f args (tp v T) fun e v'=>∃x,e=.returned x/\R x v'):ly Q f args v R:=by
 intro r Z w H c cs J K L;refine bp fun Y=>?_
 letI:=gv
 refine gd.call (yz wb tg) (fun _ h=>by cases h) (fun _ h=>h) K.gi M (fun e u h=>h.imp fun x y=>y.1) D J K.w K.off fun r' v' x x' w' I A U B C=>?_;have⟨y,e,F⟩:=B;cases e;have z:=K.fin Y I U C;exact L r' Z x x' v' w' I A z.1 z.2 F
theorem ly.of{F:Func}(H:PR.funcs[fn]?=some F){p:Code}(U:F.body=some p)(A:F.ntmps=n)(h:GW false Q R fn [.code p] (args++bF (n-args.size) ah) v):ly Q fn args v R:=by
 intro r Z w Y c cs K D I
 letI:=gv
 have e:Frame.enter PR fn Y .normal=(bf fn).at ⟨Y++bF (n-args.size) ah,[]⟩ [.code p]:=by
  simp[Frame.enter,H,U,A,Frame.at,K.size]
 rw[e];exact h r Z w _ (c::cs) rfl (K.append (.rep _ (.tuple rfl (fun i x x' e=>by simp at e)))) D I
theorem GW.draw{id:Nat}(h:∀t,GW tb Q R fn (.inRegion ops (Region.linearise.go .any ops ops.size t (bF ops.size false) [])::k) a v):GW tb Q R fn (.code (.region id ops true)::k) a v:=by
 intro r Z w t l A U H B;refine gd.pick fun u w' Y I=>?_;rw[sched];have D:Ke w w':=⟨Y.tape,Y.env,Y.output,Y.grow⟩;exact h u r Z w' t l A U (H.on (fun b K=>I b (H.low K)) D) (B.on (fun _ _ e=>e) ⟨D,fun b K _ _=>I b K,fun _ _ y=>y,fun _ y=>y,fun _ y=>.inl y⟩)
theorem GW.S0{md:Region.Mode}(mk:Array Bool->Array ae)(Inv:Nat->Array Bool->af->Prop)
  (H:∀listed i fuel t v,Inv (fuel+1) listed v->i∈Region.ready md ops listed->(∀v',Inv fuel (listed.setIfInBounds i true) v'->GW tb Q R fn (.inRegion ops (Region.linearise.go md ops fuel t (listed.setIfInBounds i true) [])::k) (mk (listed.setIfInBounds i true)) v')->GW tb Q R fn (.inRegion ops (i::Region.linearise.go md ops fuel t (listed.setIfInBounds i true) [])::k) (mk listed) v)
  (Y:∀fuel listed v,Inv fuel listed v->fuel=0\/Region.ready md ops listed=[]->GW tb Q R fn (.inRegion ops []::k) (mk listed) v):
  ∀fuel t listed v,Inv fuel listed v->GW tb Q R fn (.inRegion ops (Region.linearise.go md ops fuel t listed [])::k) (mk listed) v:=by
 intro fuel;induction fuel with
 |zero=>intro t listed v h;exact Y 0 listed v h (.inl rfl)
 |succ fuel A=>
  intro t listed v h;simp only[Region.linearise.go];change GW tb Q R fn (.inRegion ops (match(Region.ready md ops listed)[t%(Region.ready md ops listed).length]? with
   |some i=>Region.linearise.go md ops fuel (t/(Region.ready md ops listed).length) (listed.setIfInBounds i true) [i]
   |none=>[].reverse)::k) (mk listed) v
  cases I:(Region.ready md ops listed)[t%(Region.ready md ops listed).length]? with
  |none=>
   have K:Region.ready md ops listed=[]:=by
    cases hr:Region.ready md ops listed with
    |nil=>rfl
    |cons x xs=>
     rw[hr]at I;have D:t%(x::xs).length<(x::xs).length:=Nat.mod_lt _ (by simp);simp at I;simp at D;omega
   exact Y (fuel+1) listed v h (.inr K)
  |some i=>
   simp only[];rw[dt,c8,c9];exact H listed i fuel _ v h (cX I) fun v' h'=>A _ _ v' h'
end
end Ph
namespace Ph
open Conc Ren RowKit
section
variable{Q:QT}{Z Z':Loc->Prop}{r:RN}{v w w':af}
theorem Ke.oz(h:ir Z w w'):Ke w w':=⟨h.tape,h.env,h.output,h.grow⟩
theorem Al.oz(h:Al Z r v w)(D:∀l,Z' l->Z l\/∃a:Addr,l=.cell a/\w.heap.size<=a.block)(H:ir Z w w'):Al Z' r v w':=
 have k:=h.on (fun b Y=>H.old b (h.low Y) (h.off b Y)) (.oz H)
 ⟨k.w,k.gi,fun b Y=>ya D (h.off b Y) (h.low Y)⟩
theorem ag3(h:Al Z r v w){B:Nat}{D:∀x,r x≠some B}{Y:gv.size<=v.heap.size}{H:gv.size<=B}:@Le gv r (@ext gv r v.heap.size B D Y H):=fun b a e=>by
 letI:=gv
 have:=(h.w.lt e).1;show(if b=v.heap.size then some B else r b)=some a
 rw[if_neg (by omega)];exact e
theorem Io{B:Nat}{D:∀x,r x≠some B}{Y:gv.size<=n}{H:gv.size<=B}{b:Nat}(e:@ext gv r n B D Y H b=some b'):(b=n/\b'=B)\/r b=some b':=by
 have e:(if b=n then some B else r b)=some b':=e;split at e
 ·simp_all
 ·simp_all
theorem Al.new(h:Al Z r v w)(G:∀l,Z' l->Z l\/∃a:Addr,l=.cell a/\w.heap.size<=a.block)(N:ir Z w w'){B:Nat}(U:w.heap.size<=B)(F:iR Z' B){o o':Obj}(T:w'.heap[B]?=some o')(M:∀r':RN,@Le gv r r'-> @O gv r' o o'):
  ∃r':RN,@Le gv r r'/\r' v.heap.size=some B/\Al Z' r' (v.alloc o) w'/\∀b,@Rd gv r' b->b=B\/ @Rd gv r b:=by
 letI:=gv
 have D:=h.oz G N;have C:∀x,r x≠some B:=fun x e=>by have:=h.low ⟨x,e⟩;omega
 have Y:Le r (ext r _ B C h.w.gv (au h.w.gw U)):=ag3 h;have R:ext r _ B C h.w.gv (au h.w.gw U) _=some B:=if_pos rfl;refine⟨_,Y,R,⟨⟨fun b b' e=>?_,au h.w.gv (by simp),D.w.gw,fun b H=>absurd H id,fun i q I=>by omega,D.w.env⟩,h.gi.mono Y,fun b H=>?_⟩,fun b H=>?_⟩
 ·rcases Io e with⟨rfl,rfl⟩|e
  ·exact⟨o,o',heap_alloc_new v o,T,.same id (M _ Y)⟩
  ·obtain⟨q,P,A,J,L⟩:=D.w.obj b b' e;refine⟨q,P,?_,J,L.mono Y⟩;rw[<-A];exact((bh _ v).alloc (az _) o).block b (j0 A)
 ·obtain⟨b0,K⟩:=H;rcases Io K with⟨_,rfl⟩|e
  ·omega
  ·exact D.off b ⟨b0,e⟩
 ·obtain⟨b0,K⟩:=H;rcases Io K with⟨_,rfl⟩|e
  ·simp
  ·exact .inr ⟨b0,e⟩
theorem afz{a b:Array ae}(h:@VA gv r a b)(H:a.all (wy 3)=true):b=a:=by
 letI:=gv
 apply Array.ext
 ·exact h.size.symm
 ·intro i K Y;exact QH (cJ.1 H i Y) (h.at_ i _ _ (aP Y) (aP K))
theorem Al.tabs(h:Al Z r v w)(A:lJ v)(g:Nat)(H:g=0\/g=2\/g=3):w.heap[g]?=v.heap[g]?:=by
 letI:=gv
 have⟨U,t,fz,e,I⟩:=A g H;obtain⟨o,o',K,D,Y⟩:=h.w.obj g g (h.gi g (by rcases H with rfl|rfl|rfl<;>first|exact rfl|exact rfl|exact rfl));rw[e]at K;cases K;have Y:=OB.plain Y (fun _ h=>h);cases Y with
 |cells _ _ R=>rw[D,abV R I,<-e]
theorem afA{P:fb}{k q st:Nat}(hX:X.size<=200)(hP:P.size<=30)(hk:k<=6)(d:1<=q)(U:q<=8)(m:1<=st)(B:st<=200)(G:1<=n)(A:n<=8):
  ly Q 122 #[.string X,.string P,jF k q st,iv n] v fun x v'=>x=.map (some v.heap.size)/\∃o,v'=v.alloc o/\mQ (qo X P k st (j7 X P k q st)) (some o):=by
 intro r Z w D c cs j F z;obtain rfl:=afz j (by simp[wy])
 letI:=gv
 refine W0 hX hP hk d U m B G A F.w.gw fun Z' Mp w' C K I R Y H E=>?_;have⟨es,clock,l,L,hF⟩:=id H;rw[L]at H;obtain⟨r',M,N,O,S⟩:=F.new K I R Y L fun r' _=>.map _ rfl fun i x x' e e'=>by
  obtain rfl:=Option.some.inj (e.symm.trans e');have⟨a,b,T,V⟩:=aal H x (cL e);exact⟨by rw[T];exact .int _ _,by rw[V];exact .int _ _,rfl⟩
 exact z r' Z' _ _ _ w' M (.map N) O ⟨.oz I,fun b J _ W=>I.old b J W,fun b J y=>(S b y).resolve_left (by omega),C,K⟩ ⟨rfl,_,rfl,H⟩
end
section
variable{tb:Bool}{Q:QT}{R:ae->af->Prop}{v v1:af}{fn:aD}{k:List Item}{a:Array ae}{ops:Array Oper}{i:Nat}{is:List Nat}{x:ae}
def Kw(v v1:af):Prop:=∀a,a<v.heap.size->v1.heap[a]?=v.heap[a]?
theorem Kw.size(h:Kw v v1):v.heap.size<=v1.heap.size:=by
 cases e:v.heap.size with
 |zero=>exact bA _
 |succ n=>
  have:=h n (by omega);rw[aP (by omega:n<v.heap.size)]at this;exact j0 this
theorem Kw.refl(v:af):Kw v v:=fun _ _=>rfl
theorem Kw.trans{v v1 v2:af}(h:Kw v v1)(k:Kw v1 v2):Kw v v2:=fun a Y=>(k a (aK Y h.size)).trans (h a Y)
theorem Kw.at(h:Kw v v1){a:Nat}{o:Obj}(Y:v.heap[a]?=some o):v1.heap[a]?=some o:=(h a (j0 Y)).trans Y
theorem Kw.alloc(v:af)(o:Obj):Kw v (v.alloc o):=fun a Y=>((bh _ v).alloc (az _) o).block a Y
theorem Kw.rj(h:Kw v v1)(Y:lJ v)(k:iK v):iK v1:=by
 have⟨_,_,_,e,_⟩:=Y 0 (.inl rfl);exact zy k (h 0 (j0 e))
theorem Kw.tabs(h:Kw v v1)(Y:lJ v):lJ v1:=Y.same fun g K=>by
 have⟨_,_,_,e,_⟩:=Y g K;exact h g (j0 e)
def Sp:Op->Bool
 |.call c=>match c.callee with
  |.builtin .recover=>false
  |_=>true
 |_=>true
def qb (ops:Array Oper) (i:Nat) (a:Array ae):Option (Sem Next):=match ops[i]? with
 |some o=>if o.guard.isNone&&mV K0 PR o.op&&Sp o.op then some (aA (Act.eval ⟨a,[]⟩) o)else none
 |none=>none
theorem GW.ex(H:∃F,PR.funcs[fn]?=some F){s:Sem Next}{n:Next}(h:qb ops i a=some s)(hr:s.run PR v=.ok n v1)(A:n=.value x\/n=.skip/\x=ah)(hd:v1.drawn=v.drawn)(g:GW tb Q R fn (.inRegion ops is::k) (mc (nL ops i) x a) v1):GW tb Q R fn (.inRegion ops (i::is)::k) a v:=by
 unfold qb at h;split at h
 ·rename_i o K;split at h
  ·rename_i Y;simp only[cM,dc]at Y;cases h;have e:nL ops i=o.dst:=by simp[nL,K]
   rw[e]at g;exact GW.op H K Y.1.1 Y.1.2 (fun c e D=>by rw[e]at Y;simp[Sp,D]at Y) hd hr A g
  ·cases h
 ·cases h
def vh(s:Sem ae):Sem Next:=do pure (.value (<-s))
def D5(s:Sem Unit):Sem Next:=do s;pure .skip
theorem GW.vl(Y:∃F,PR.funcs[fn]?=some F){s:Sem ae}(h:qb ops i a=some (vh s))(hr:s.run PR v=.ok x v1)(hd:v1.drawn=v.drawn)(g:GW tb Q R fn (.inRegion ops is::k) (mc (nL ops i) x a) v1):GW tb Q R fn (.inRegion ops (i::is)::k) a v:=
 GW.ex Y h (by simp[vh,hr]) (.inl rfl) hd g
def Fl (ops:Array Oper) (i:Nat) (a:Array ae):Option (Array ae):=match qb ops i a with
 |some s=>match ko PR s with
  |some (.value x)=>some (mc (nL ops i) x a)
  |_=>none
 |none=>none
theorem GW.pu(Y:∃F,PR.funcs[fn]?=some F)(h:Fl ops i a=some a')(g:GW tb Q R fn (.inRegion ops is::k) a' v):GW tb Q R fn (.inRegion ops (i::is)::k) a v:=by
 unfold Fl at h;split at h
 ·rename_i s H;split at h
  ·rename_i x K;cases h;exact GW.ex Y H (oo K v) (.inl rfl) rfl g
  ·cases h
 ·cases h
def ze (ops:Array Oper):List Nat->Array ae->Option (Array ae)
 |[],a=>some a
 |i::l,a=>(Fl ops i a).bind (ze ops l)
theorem GW.TQ(Y:∃F,PR.funcs[fn]?=some F):∀(l:List Nat) {a:Array ae},(ze ops l a).isSome=true->GW tb Q R fn (.inRegion ops is::k) ((ze ops l a).getD #[]) v->GW tb Q R fn (.inRegion ops (l++is)::k) a v
 |[],a,_,g=>g
 |i::l,a,h,g=>by
  simp only[ze]at h g;cases e:Fl ops i a with
  |none=>rw[e]at h;cases h
  |some a'=>
   rw[e]at h g;exact GW.pu Y e (GW.TQ Y l h g)
theorem GW.iz(Y:∃F,PR.funcs[fn]?=some F)(l:List Nat)(g:GW tb Q R fn (.inRegion ops is::k) ((ze ops l a).getD #[]) v)(h:(ze ops l a).isSome=true:=by kernel_rfl):GW tb Q R fn (.inRegion ops (l++is)::k) a v:=GW.TQ Y l h g
theorem GW.bx(Y:∃F,PR.funcs[fn]?=some F){t:ax}(g:∀v1,Kw v v1->v.heap.size<v1.heap.size->v1.heap[v.heap.size]?=some (.cells y.cells t)->GW tb Q R fn (.inRegion ops is::k) (mc (nL ops i) (ptr v.heap.size) a) v1)(h:qb ops i a=some (vh (Instr.box t y)):=by kernel_rfl):GW tb Q R fn (.inRegion ops (i::is)::k) a v:=
 GW.vl (v1:=v.alloc (.cells y.cells t)) Y h (by simp[go_sem];rfl) rfl (g _ (.alloc v _) (by simp) (heap_alloc_new v _))
theorem GW.ld(Y:∃F,PR.funcs[fn]?=some F){t:ax}(H:(aX t y).run PR v=.ok x v)(g:GW tb Q R fn (.inRegion ops is::k) (mc (nL ops i) x a) v)(h:qb ops i a=some (vh (aX t y)):=by kernel_rfl):GW tb Q R fn (.inRegion ops (i::is)::k) a v:=
 GW.vl Y h H rfl g
theorem Ae{α:Type}{f:TypeInfo->α}{t:ax}{z:α}(H:(PR.info? t).map f=some z):∃Y,PR.info? t=some Y/\f Y=z:=Option.map_eq_some_iff.1 H
theorem GW.al(Y:∃F,PR.funcs[fn]?=some F){t:ax}(D:(PR.info? t).map (·.zero)=some (some z))(g:∀v1,v1=v.alloc (.cells z.cells t)->Kw v v1->v.heap.size<v1.heap.size->v1.heap[v.heap.size]?=some (.cells z.cells t)->GW tb Q R fn (.inRegion ops is::k) (mc (nL ops i) (ptr v.heap.size) a) v1)(h:qb ops i a=some (vh (Instr.alloc t true (.tuple #[]))):=by kernel_rfl):GW tb Q R fn (.inRegion ops (i::is)::k) a v:=by
 have⟨I,K,H⟩:=Ae D;exact GW.vl (v1:=v.alloc (.cells z.cells t)) Y h (by simp[go_sem,Instr.alloc,zeroValue,bg,K,H];rfl) rfl (g _ rfl (.alloc v _) (by simp) (heap_alloc_new v _))
theorem GW.ix(H:∃F,PR.funcs[fn]?=some F){t:ax}{B off z:Nat}(M:j<n)(U:PR.underlying t=some (.slice (PR.elem t)))(C:(PR.info? (PR.elem t)).map (·.size)=some z)
  (g:GW tb Q R fn (.inRegion ops is::k) (mc (nL ops i) (.pointer (some ⟨B,off+j *z,none⟩)) a) v)(h:qb ops i a=some (vh (bV t (.slice (some ⟨B,off,none⟩) n cap) (.int .i64 (j:Int)))):=by kernel_rfl):GW tb Q R fn (.inRegion ops (i::is)::k) a v:=by
 obtain⟨Y,D,rfl⟩:=Ae C;have I:(0:Int)<=(j:Int)/\(j:Int)<(n:Int):=by omega
 have K:(⟨B,off,none⟩:Addr).add (j *Y.size)=⟨B,off+j *Y.size,none⟩:=by
  by_cases A:j *Y.size=0
  ·rw[A];simp[Addr.add]
  ·simp only[Addr.add,A];simp
 refine GW.vl H h ?_ rfl g;simp[bV,cE U,cC,I,bq,bg,D,K];intro J;omega
theorem GW.to(a':Array ae)(g:GW tb Q R fn k a' v)(h:a=a':=by kernel_rfl):GW tb Q R fn k a v:=h▸g
theorem GW.mono{R1:ae->af->Prop}(h:∀x v',R1 x v'->R x v')(g:GW tb Q R1 fn k a v):GW tb Q R fn k a v:=
 fun r Z w t l U B A C=>g r Z w t l U B A fun r' Z' x x' v' w' Y K H D I=>C r' Z' x x' v' w' Y K H D (h _ _ I)
theorem GW.I0{F:Func}(Y:PR.funcs[fn]?=some F){p:Code}(G:lz K0 PR false p=true)(O:(is.all fun i=>match ops[i]? with|some o=>Aj K0 PR false o|none=>true)=true)
  (N:∀T,bT PR ops (fun e a' w'=>e=.normal/\p.wp PR (aL PR F fun e v'=>∃x,e=.returned x/\R x v') a' w') is ⟨a,[]⟩ (tp v T)):GW false Q R fn [.inRegion ops is,.code p] a v:=by
 intro r Z w t l D S H V;obtain⟨c,cs,rfl⟩:=zT D;refine bp fun K=>?_
 letI:=gv
 have A:lQ PR false p:=vB (fun _ _ h=>h) G;refine gd.lone (yz wb tg) (fun _ h=>by cases h) (fun _ h=>h) H.gi (R:=fun e v'=>∃x,e=.returned x/\R x v') (b:=bf fn) (a:=⟨a,[]⟩) (its:=[.inRegion ops is,.code p]) Y rfl (fun T=>Yo Y rfl (by rintro u ⟨x,e,_⟩;cases e) (N T) [ju]) (fun e u h=>h.imp fun x y=>y.1) (f':=(bf fn).at ⟨t,[]⟩ [.inRegion ops is,.code p]) ⟨rfl,S,.cons (.inRegion _ fun i I o P=>?_) (.cons (.code A) .nil),.nil,.run,rfl,.inl rfl,.none,fun _=>⟨_,Y⟩⟩ H.w H.off fun r' v' x x' w' U B C J L=>?_
 ·have:=br.1 O i I;rw[P]at this;exact Oo (fun _ _ h=>h) this
 ·have⟨y,e,M⟩:=J;cases e;have z:=H.fin K U C L;exact V r' Z x x' v' w' U B z.1 z.2 M
theorem oA(j:Nat){t:ax}{b:Nat}{c:Array ae}{fz:Nat×Nat}(D:ko PR (bC t)=some false)(h:v.heap[b]?=some (.cells c e fz))(H:c[j]?=some x):(aX t (rJ b j)).run PR v=.ok x v:=by
 have Y:v.cell? ⟨b,j,none⟩=some x:=by simp[ak,h,H]
 have:=oo D v;simp[aX,rJ,this,Y,go_sem]
end
section
variable{v:af}{b:Nat}{x y z:ae}{e:ax}{fz:Nat×Nat}
theorem An(h:v.heap[b]?=some (.cells #[x,y,z] e fz)):(aX 75 (ptr b)).run PR v=.ok (.agg #[x,y,z]) v:=by
 have c0:v.cell? ⟨b,0,none⟩=some x:=by simp[ak,h]
 have c1:v.cell? ⟨b,1,none⟩=some y:=by simp[ak,h]
 have c2:v.cell? ⟨b,2,none⟩=some z:=by simp[ak,h]
 simp[ptr,go_sem,c0,c1,c2]
end
noncomputable def Wc:Array Oper:=match aY.body with
 |some (.seq (.region _ o _) _)=>o
 |_=>#[]
noncomputable def Mj:Array Oper:=match aY.body with
 |some (.seq _ (.seq (.region _ o _) _))=>o
 |_=>#[]
theorem aiC:aY.body=some (.seq (.region 0 Wc false) (.seq (.region 1 Mj false) vu)):=by kernel_rfl
section
variable{Q:QT}{XN X rn P rm:fb}{fl:Bool}{k q st n:Nat}{v:af}
theorem QI(hX:X.size<=200)(hP:P.size<=30)(hk:k<=6)(A:k<P.size)(M:1<=q)(B:q<=8)(N:1<=st)(C:st<=200)(W:1<=n)(U:n<=8)(D:lJ v)(G:iK v):
  ly Q 111 #[o_ XN X,oB rn P rm,.bool fl,jF k q st,iv n] v fun x v'=>v'.ownsRow v.heap.size 136 1 x (jg P X k).length (mK X P rn rm fl k)/\(jg P X k=[]->x=.slice none 0 0)/\∀a,a<v.heap.size->v'.heap[a]?=v.heap[a]?:=by
 have Y:∃F,PR.funcs[111]?=some F:=⟨_,cy⟩;refine ly.of (n:=73) cy aiC (by kernel_rfl) ?_;refine GW.run 2 (k':=[.inRegion Wc [0,1,2,3],.code (.seq (.region 1 Mj false) vu)]) ?_;refine GW.bx Y (t:=68) (y:=o_ XN X) fun v1 V l1 J=>?_;refine GW.bx Y (t:=131) (y:=oB rn P rm) fun v2 R l2 c6=>?_;refine GW.bx Y (t:=75) (y:=jF k q st) fun v3 K Z O=>?_;refine GW.iz Y [3] ?_;refine GW.run 3 (k':=[.inRegion Mj [0,1,2,3,4,5,6,7],.code vu]) ?_;refine GW.iz Y [0] ?_;refine GW.ld Y (oA 1 xe (K.at (R.at J)) rfl) ?_;refine GW.iz Y [2] ?_;refine GW.ld Y (oA 1 xe (K.at c6) rfl) ?_;refine GW.ld Y (An O) ?_;refine GW.iz Y [5] ?_;refine GW.call Y (afA hX hP hk M B N C W U) ?_;rintro x v4 ⟨rfl,o,rfl,S⟩;refine GW.iz Y [7] ?_;refine GW.run 1 (k':=[.code vu]) ?_;have I:=Kw.alloc v3 o;have K3:Kw v v3:=(V.trans R).trans K;have K4:=K3.trans I;have H:mQ (qo X P k st (j7 X P k q st)) ((v3.alloc o).heap[v3.heap.size]?):=by rw[heap_alloc_new];exact S
 have hr:=fun T=>afy (rn:=rn) (rm:=rm) (XN:=XN) (fl:=fl) (n:=n) (b8:=v2.heap.size) hX hP hk A M N (I.at (K.at (R.at J))) (I.at (K.at c6)) H (by simp) (K4.rj D G) T;refine GW.to (Fg (o_ XN X) (oB rn P rm) (jF k q st) (iv n) fl v.heap.size v1.heap.size v2.heap.size v3.heap.size (uM X P k q st n v.heap.size v1.heap.size v3.heap.size)) ?_;exact GW.mono (fun x v' h=>⟨x6 h.1 K4.size,h.2.1,fun a L=>(h.2.2 a (aK L K4.size)).trans (K4 a L)⟩) (GW.rest cy ag0 hr)
end
section
variable{main:Bool}{f:aj}{cs:List aj}
theorem adO{t:ax}{x y:bJ}(h:(opAt f).map (fun o=>o.op)=some (.indexAddr t x y)){B o i z:Nat}(U:f.eval x=.slice (some ⟨B,o,none⟩) n cap)(C:f.eval y=.int .i64 (i:Int))(I:i<n)(A:PR.underlying t=some (.slice (PR.elem t)))(M:(PR.info? (PR.elem t)).map (·.size)=some z)(w:af):
  aT PR main (G f cs) w=.go (G (f.finish (.pointer (some ⟨B,o+i *z,none⟩))) cs) w #[]:=by
 have⟨op,F,gh⟩:=qv h;have J:∃Y,PR.info? (PR.elem t)=some Y/\Y.size=z:=by simp_all
 obtain⟨Y,H,rfl⟩:=J;have K:(⟨B,o,none⟩:Addr).add (i *Y.size)=⟨B,o+i *Y.size,none⟩:=by
  by_cases D:i *Y.size=0
  ·rw[D];simp[Addr.add]
  ·simp only[Addr.add,D];simp
 have hr:(aA f.eval op).run PR w=.ok (.value (.pointer (some ⟨B,o+i *Y.size,none⟩))) w:=by
  unfold aA;simp only[gh,U,C];simp[bV,cE A,cC,I,bq,bg,H,K]
 have R:(aA f.eval op).events PR w #[]=#[]:=by
  unfold aA;simp only[gh,U,C];simp[bV,cE A,cC,I,bq,bg,H]
 rw[oM F hr,R,seen_none]
theorem Rw{B a0:Nat}{o:jZ}(h:pN f=some (59,.pointer (some ⟨B,a0,none⟩)))(D:oW w B a0 o)(A:(PR.funcs[f.fn]?).any (·.norace)=false):
  aT PR main (G f cs) w=.go (G (f.finish o.val) cs) w #[⟨.cell ⟨B,a0,none⟩,false,false⟩,⟨.cell ⟨B,a0+1,none⟩,false,false⟩,⟨.cell ⟨B,a0+2,none⟩,false,false⟩,⟨.cell ⟨B,a0+3,none⟩,false,false⟩,⟨.cell ⟨B,a0+4,none⟩,false,false⟩,⟨.cell ⟨B,a0+5,none⟩,false,false⟩,⟨.cell ⟨B,a0+6,none⟩,false,false⟩]:=by
 have⟨op,x,I,gh,H⟩:=BQ h;have⟨c0,c1,c2,Y,c4,K,c6⟩:=D;have hr:(aA f.eval op).run PR w=.ok (.value o.val) w:=by
  unfold aA;simp only[gh,H];simp[go_sem,c0,c1,c2,Y,c4,K,c6,jZ.val]
 have R:(aA f.eval op).events PR w #[]=#[⟨.cell ⟨B,a0,none⟩,false,false⟩,⟨.cell ⟨B,a0+1,none⟩,false,false⟩,⟨.cell ⟨B,a0+2,none⟩,false,false⟩,⟨.cell ⟨B,a0+3,none⟩,false,false⟩,⟨.cell ⟨B,a0+4,none⟩,false,false⟩,⟨.cell ⟨B,a0+5,none⟩,false,false⟩,⟨.cell ⟨B,a0+6,none⟩,false,false⟩]:=by
  unfold aA;simp only[gh,H];simp[go_sem,c0,c1,c2,Y,c4,K,c6]
 rw[oM I hr,R,seen_def,A];simp[seenStep]
def Az(B:Nat)(o:jZ)(w:af):World:=(((((((w.setCell ⟨B,0,none⟩ (.int .i64 o.kind)).setCell ⟨B,1,none⟩ (.int .i64 o.k)).setCell ⟨B,2,none⟩ (.int .i64 o.q)).setCell ⟨B,3,none⟩ (.int .i64 o.step)).setCell ⟨B,4,none⟩ (.int .i64 o.workers)).setCell ⟨B,5,none⟩ (.string o.ref)).setCell ⟨B,6,none⟩ (.string o.s))
def Dw(o:jZ):Array Value:=#[.int .i64 o.kind,.int .i64 o.k,.int .i64 o.q,.int .i64 o.step,.int .i64 o.workers,.string o.ref,.string o.s]
theorem aj1{B:Nat}{o:jZ}{z3 z4 z5 z6:ae}{t:ax}(w:af)(h:w.heap[B]?=some (.cells #[z0,z1,z2,z3,z4,z5,z6] t)):Env.Eff B w (Az B o w)/\(Az B o w).heap[B]?=some (.cells (Dw o) t):=by
 refine⟨rO (rO (rO (rO (rO (rO (nP _) (nP _)) (nP _)) (nP _)) (nP _)) (nP _)) (nP _),?_⟩;have Y:=lI (i:=0) (v:=.int .i64 o.kind) h;have K:=lI (i:=1) (v:=.int .i64 o.k) Y;have H:=lI (i:=2) (v:=.int .i64 o.q) K;have D:=lI (i:=3) (v:=.int .i64 o.step) H;have R:=lI (i:=4) (v:=.int .i64 o.workers) D;have I:=lI (i:=5) (v:=.string o.ref) R;exact lI (i:=6) I
theorem afB{x y:bJ}(h:(opAt f).map (fun o=>o.op)=some (.store 59 x y)){B:Nat}{o:jZ}{z3 z4 z5 z6:ae}(O:f.eval x=ptr B)(T:f.eval y=o.val)(D:w.heap[B]?=some (.cells #[z0,z1,z2,z3,z4,z5,z6] t'))(W:(PR.funcs[f.fn]?).any (·.norace)=false)(d:(PR.info? 59).map (·.size)=some 7):
  aT PR main (G f cs) w=.go (G (f.finish ah) cs) (Az B o w) #[⟨.cell ⟨B,0,none⟩,true,false⟩,⟨.cell ⟨B,1,none⟩,true,false⟩,⟨.cell ⟨B,2,none⟩,true,false⟩,⟨.cell ⟨B,3,none⟩,true,false⟩,⟨.cell ⟨B,4,none⟩,true,false⟩,⟨.cell ⟨B,5,none⟩,true,false⟩,⟨.cell ⟨B,6,none⟩,true,false⟩]:=by
 have⟨op,S,gh⟩:=qv h;have V:∃Y,PR.info? 59=some Y/\Y.size=7:=by simp_all
 have⟨Y,K,H⟩:=V;have U:w.cell? ⟨B,0,none⟩=some z0:=by simp[ak,D]
 have f0:w.frozen? ⟨B,0,none⟩=false:=by simp[aQ,D]
 have r0:=lI (i:=0) (v:=.int .i64 o.kind) D;have C:(w.setCell ⟨B,0,none⟩ (.int .i64 o.kind)).cell? ⟨B,1,none⟩=some z1:=by simp[ak,r0]
 have f1:(w.setCell ⟨B,0,none⟩ (.int .i64 o.kind)).frozen? ⟨B,1,none⟩=false:=by simp[aQ,r0]
 have r1:=lI (i:=1) (v:=.int .i64 o.k) r0;have F:((w.setCell ⟨B,0,none⟩ (.int .i64 o.kind)).setCell ⟨B,1,none⟩ (.int .i64 o.k)).cell? ⟨B,2,none⟩=some z2:=by simp[ak,r1]
 have f2:((w.setCell ⟨B,0,none⟩ (.int .i64 o.kind)).setCell ⟨B,1,none⟩ (.int .i64 o.k)).frozen? ⟨B,2,none⟩=false:=by simp[aQ,r1]
 have r2:=lI (i:=2) (v:=.int .i64 o.q) r1;have J:(((w.setCell ⟨B,0,none⟩ (.int .i64 o.kind)).setCell ⟨B,1,none⟩ (.int .i64 o.k)).setCell ⟨B,2,none⟩ (.int .i64 o.q)).cell? ⟨B,3,none⟩=some z3:=by simp[ak,r2]
 have I:(((w.setCell ⟨B,0,none⟩ (.int .i64 o.kind)).setCell ⟨B,1,none⟩ (.int .i64 o.k)).setCell ⟨B,2,none⟩ (.int .i64 o.q)).frozen? ⟨B,3,none⟩=false:=by simp[aQ,r2]
 have r3:=lI (i:=3) (v:=.int .i64 o.step) r2;have L:((((w.setCell ⟨B,0,none⟩ (.int .i64 o.kind)).setCell ⟨B,1,none⟩ (.int .i64 o.k)).setCell ⟨B,2,none⟩ (.int .i64 o.q)).setCell ⟨B,3,none⟩ (.int .i64 o.step)).cell? ⟨B,4,none⟩=some z4:=by simp[ak,r3]
 have A:((((w.setCell ⟨B,0,none⟩ (.int .i64 o.kind)).setCell ⟨B,1,none⟩ (.int .i64 o.k)).setCell ⟨B,2,none⟩ (.int .i64 o.q)).setCell ⟨B,3,none⟩ (.int .i64 o.step)).frozen? ⟨B,4,none⟩=false:=by simp[aQ,r3]
 have R:=lI (i:=4) (v:=.int .i64 o.workers) r3;have M:(((((w.setCell ⟨B,0,none⟩ (.int .i64 o.kind)).setCell ⟨B,1,none⟩ (.int .i64 o.k)).setCell ⟨B,2,none⟩ (.int .i64 o.q)).setCell ⟨B,3,none⟩ (.int .i64 o.step)).setCell ⟨B,4,none⟩ (.int .i64 o.workers)).cell? ⟨B,5,none⟩=some z5:=by simp[ak,R]
 have f5:(((((w.setCell ⟨B,0,none⟩ (.int .i64 o.kind)).setCell ⟨B,1,none⟩ (.int .i64 o.k)).setCell ⟨B,2,none⟩ (.int .i64 o.q)).setCell ⟨B,3,none⟩ (.int .i64 o.step)).setCell ⟨B,4,none⟩ (.int .i64 o.workers)).frozen? ⟨B,5,none⟩=false:=by simp[aQ,R]
 have P:=lI (i:=5) (v:=.string o.ref) R;have N:((((((w.setCell ⟨B,0,none⟩ (.int .i64 o.kind)).setCell ⟨B,1,none⟩ (.int .i64 o.k)).setCell ⟨B,2,none⟩ (.int .i64 o.q)).setCell ⟨B,3,none⟩ (.int .i64 o.step)).setCell ⟨B,4,none⟩ (.int .i64 o.workers)).setCell ⟨B,5,none⟩ (.string o.ref)).cell? ⟨B,6,none⟩=some z6:=by simp[ak,P]
 have f6:((((((w.setCell ⟨B,0,none⟩ (.int .i64 o.kind)).setCell ⟨B,1,none⟩ (.int .i64 o.k)).setCell ⟨B,2,none⟩ (.int .i64 o.q)).setCell ⟨B,3,none⟩ (.int .i64 o.step)).setCell ⟨B,4,none⟩ (.int .i64 o.workers)).setCell ⟨B,5,none⟩ (.string o.ref)).frozen? ⟨B,6,none⟩=false:=by simp[aQ,P]
 have hr:(aA f.eval op).run PR w=.ok .skip (Az B o w):=by
  unfold aA;simp only[gh,O,T];simp[go_sem,cI,cH,bq,bg,K,H,cA,jZ.val,U,f0,C,f1,F,f2,J,I,L,A,M,f5,N,f6,ptr,Addr.add,Az]
 have Q:(aA f.eval op).events PR w #[]=#[⟨.cell ⟨B,0,none⟩,true,false⟩,⟨.cell ⟨B,1,none⟩,true,false⟩,⟨.cell ⟨B,2,none⟩,true,false⟩,⟨.cell ⟨B,3,none⟩,true,false⟩,⟨.cell ⟨B,4,none⟩,true,false⟩,⟨.cell ⟨B,5,none⟩,true,false⟩,⟨.cell ⟨B,6,none⟩,true,false⟩]:=by
  unfold aA;simp only[gh,O,T];simp[go_sem,cI,cH,bq,bg,K,H,cA,jZ.val,U,f0,C,f1,F,f2,J,I,L,A,M,f5,N,f6,ptr,Addr.add,dq PR _ _ ⟨B,5,none⟩ (.string o.ref) .plain rfl,dq PR _ _ ⟨B,6,none⟩ (.string o.s) .plain rfl]
 rw[step_skip S hr,Q,seen_def,W];simp[seenStep]
end
end Ph
section
open RowKit
noncomputable def lU:=match aB.body with
 |some (.seq _ (.seq _ (.seq (.region _ ops _) _)))=>ops
 |_=>#[]
noncomputable def oH:=match aB.body with
 |some (.seq _ (.seq _ (.seq _ c)))=>c
 |_=>.skip
def xA(a0 a1 a2 a3 v1 v2:ae)(b4 b5 b6:Nat)(u:Nat->ae):=#[a0,a1,a2,a3,pt b4,pt b5,pt b6,u 7,.slice none 0 0,v1,u 10,u 11,u 12,u 13,u 14,v1,u 16,u 17,u 18,u 19,u 20,v2,u 22,u 23,u 24,u 25,u 26,u 27,u 28,u 29,u 30]
def yB(rn rb rm:fb):Value:=.iface 155 (r5 rn rb rm)
theorem FT{P:Program}{H o1 o2 o3 o4 o5 o6 o7 Y:Oper}{Q:Exit->Act->af->Prop}:bT P #[H,o1,o2,o3,o4,o5,o6,o7,Y] Q [7,8]=wpList P #[H,o1,o2,o3,o4,o5,o6,o7,Y] Q [o7,Y]:=by
 have:=wpOps_eq_wpList (P:=P) (ops:=#[H,o1,o2,o3,o4,o5,o6,o7,Y]) (Q:=Q) [o7,Y] 7 (fun j=>by
  match j with
  |0=>rfl
  |1=>rfl
  |j+2=>rw[cK (by simp;omega)];rfl)
 exact this
theorem abW(H Y:List ae)(rn rb rm:fb)(a0 a1 a2 a3 v1:ae)(U c2 b4 b5 b6 B:Nat)(u:Nat->ae)(w:af)(m:H.length<=1000)(h2:Y.length<=1000)(d:0<Y.length)(W:∀x∈Y,x.oneCell'=true)
  (r1:w.ownsRow B 136 1 v1 H.length H)(r2:w.ownsRow B 136 1 (.slice (some ⟨U,0,none⟩) Y.length c2) Y.length Y)(G:B<=w.heap.size):
  bT Tryz.prog lU (fun e a' w'=>e=.normal/\oH.wp Tryz.prog (aL Tryz.prog aB fun e w'=>∃v,e=.returned v/\w'.ownsRow B 136 1 v (H++Y).length (H++Y)/\∀a,a<B->w'.heap[a]?=w.heap[a]?) a' w') [7,8] ⟨xA a0 a1 a2 a3 v1 (.slice (some ⟨U,0,none⟩) Y.length c2) b4 b5 b6 u,[]⟩ w:=by
 have⟨i0,I,J,L,M⟩:=cg Rv;have V:=fun j u X=>(r2.cells (g:=U) rfl) j u X;obtain⟨Q,F⟩:∃Q,Q=(fun e a' w'=>e=ck/\oH.wp Tryz.prog (aL Tryz.prog aB fun e w'=>∃v,e=.returned v/\w'.ownsRow B 136 1 v (H++Y).length (H++Y)/\∀a,a<B->w'.heap[a]?=w.heap[a]?) a' w'):=⟨_,rfl⟩;rw[<-F];have N:=laid F;clear F;unfold lU aB xA;rw[FT];refine bS _ rfl _ _ 133 rfl B 136 i0 .nilIface 1 16 dj I J L M rfl (by decide) _ _ _ rfl r1 _ Y.length c2 Y rfl (by omega) V W (by unfold ao;omega) (by omega) G ?_;intro v' P K R _;obtain⟨C,cap,rfl⟩:∃C cap,v'=.slice _ _ cap:=by
  rcases K.2 with⟨_,h⟩|⟨C,cap,T,Z,_⟩
  ·omega
  ·exact⟨C,cap,Z⟩
 have S:Hid (P.ownsRow B 136 1 _ (H++Y).length (H++Y)/\∀a,a<B->P.heap[a]?=w.heap[a]?):=laid ⟨by rw[aJ];exact K,fun a E=>R.block a (by omega) (fun e=>by have:=(r1.lt a e.symm).1;omega)⟩;go_wp2
 rw[N.out];obtain⟨O,D⟩:∃O,O=(aL Tryz.prog aB fun e w'=>∃v,e=.returned v/\w'.ownsRow B 136 1 v (H++Y).length (H++Y)/\∀a,a<B->w'.heap[a]?=w.heap[a]?):=⟨_,rfl⟩;rw[<-D];have A:=laid D;clear D N;unfold oH aB;go_wp2
 rw[A.out];refine bO (bQ rfl _ _ _) rfl ?_;exact⟨_,rfl,S.out⟩
theorem aam(Y:List ae)(rn rb rm:fb)(a0 a1 a2 a3:ae)(g1 c1 b4 b5 b6 B:Nat)(u:Nat->ae)(w:af)(N:Y.length<=1000)(M:0<Y.length)
  (r1:w.ownsRow B 136 1 (.slice (some ⟨g1,0,none⟩) Y.length c1) Y.length Y):
  bT Tryz.prog lU (fun e a' w'=>e=.normal/\oH.wp Tryz.prog (aL Tryz.prog aB fun e w'=>∃v,e=.returned v/\w'.ownsRow B 136 1 v Y.length Y/\∀a,a<B->w'.heap[a]?=w.heap[a]?) a' w') [7,8] ⟨xA a0 a1 a2 a3 (.slice (some ⟨g1,0,none⟩) Y.length c1) (.slice none 0 0) b4 b5 b6 u,[]⟩ w:=by
 obtain⟨Q,D⟩:∃Q,Q=(fun e a' w'=>e=ck/\oH.wp Tryz.prog (aL Tryz.prog aB fun e w'=>∃v,e=.returned v/\w'.ownsRow B 136 1 v Y.length Y/\∀a,a<B->w'.heap[a]?=w.heap[a]?) a' w'):=⟨_,rfl⟩;rw[<-D];have R:=laid D;clear D;unfold lU aB xA;dsimp only;simp only[pt];rw[FT];have A:Y.length<=c1:=by
  rcases r1.2 with⟨h,_⟩|⟨g,cap,C,h,_,_,F,_⟩
  ·cases h
  ·cases h;exact F
 have U:=laid r1;clear r1;go_wp2
 rw[R.out];refine⟨rfl,?_⟩;obtain⟨I,K⟩:∃I,I=(aL Tryz.prog aB fun e w'=>∃v,e=.returned v/\w'.ownsRow B 136 1 v Y.length Y/\∀a,a<B->w'.heap[a]?=w.heap[a]?):=⟨_,rfl⟩;rw[<-K];have H:=laid K;clear K R;unfold oH aB;dsimp only;go_wp2
 rw[H.out];refine bO (bQ rfl _ _ _) rfl ?_;exact⟨_,rfl,U.out,fun _ _=>rfl⟩
theorem abX(rn rb rm:fb)(a0 a1 a2 a3:ae)(b4 b5 b6 B:Nat)(u:Nat->ae)(w:af)(A:B<=w.heap.size)(H:w.heap[b5]?=some (.cells #[.string rn,.string rb,.string rm] 131 (0,0))):
  bT Tryz.prog lU (fun e a' w'=>e=.normal/\oH.wp Tryz.prog (aL Tryz.prog aB fun e w'=>∃v,e=.returned v/\w'.ownsRow B 136 1 v 1 [yB rn rb rm]/\∀a,a<B->w'.heap[a]?=w.heap[a]?) a' w') [7,8] ⟨xA a0 a1 a2 a3 (.slice none 0 0) (.slice none 0 0) b4 b5 b6 u,[]⟩ w:=by
 obtain⟨Q,D⟩:∃Q,Q=(fun e a' w'=>e=ck/\oH.wp Tryz.prog (aL Tryz.prog aB fun e w'=>∃v,e=.returned v/\w'.ownsRow B 136 1 v 1 [yB rn rb rm]/\∀a,a<B->w'.heap[a]?=w.heap[a]?) a' w'):=⟨_,rfl⟩;rw[<-D];have R:=laid D;clear D;have c0:w.cell? ⟨b5,0,none⟩=some (.string rn):=by rw[ay w _ 0 _ _ _ H];rfl
 have c1:w.cell? ⟨b5,1,none⟩=some (.string rb):=by rw[ay w _ 1 _ _ _ H];rfl
 have c2:w.cell? ⟨b5,2,none⟩=some (.string rm):=by rw[ay w _ 2 _ _ _ H];rfl
 clear H;unfold lU aB xA;dsimp only;simp only[pt];rw[FT];go_wp2
 rw[R.out];refine⟨rfl,?_⟩;obtain⟨I,Y⟩:∃I,I=(aL Tryz.prog aB fun e w'=>∃v,e=.returned v/\w'.ownsRow B 136 1 v 1 [yB rn rb rm]/\∀a,a<B->w'.heap[a]?=w.heap[a]?):=⟨_,rfl⟩;rw[<-Y];have K:=laid Y;clear Y R;unfold oH aB;dsimp only;go_wp2
 rw[K.out];refine bO (bQ rfl _ _ _) rfl ?_;refine⟨_,rfl,⟨rfl,.inr ⟨w.heap.size,1,_,rfl,A,heap_alloc_new w _,az _,by unfold ao;omega,rfl,rfl⟩⟩,fun a U=>bP w _ (by omega)⟩
end
namespace Ph
open Conc Ren RowKit
noncomputable def TR:Array Oper:=match aB.body with
 |some (.seq (.region _ o _) _)=>o
 |_=>#[]
noncomputable def JE:Array Oper:=match aB.body with
 |some (.seq _ (.seq (.region _ o _) _))=>o
 |_=>#[]
theorem aiD:aB.body=some (.seq (.region 0 TR false) (.seq (.region 1 JE false) (.seq (.region 2 lU true) oH))):=by kernel_rfl
theorem Ip:lz K0 PR false oH=true:=by decide+kernel
theorem aoK:lU.size=9:=by kernel_rfl
theorem aiE:(ab.all fun H=>ab.all fun d1=>ab.all fun d2=>ab.all fun d3=>ab.all fun d4=>ab.all fun Y=>(Region.ready .any lU #[H,d1,d2,d3,d4,Y,false,false,false]).all fun i=>(i==0&&!H)||(i==1&&!d1)||(i==2&&!d2)||(i==3&&(!d3&&d2))||(i==4&&!d4)||(i==5&&!Y)||(i==6&&(d1&&(d3&&(d4&&Y)))))=true:=by decide+kernel
theorem rdy(H d1 d2 d3 d4 Y:Bool)(i:Nat)(I:i∈Region.ready .any lU #[H,d1,d2,d3,d4,Y,false,false,false]):(i=0/\H=false)\/(i=1/\d1=false)\/(i=2/\d2=false)\/(i=3/\d3=false/\d2=true)\/(i=4/\d4=false)\/(i=5/\Y=false)\/(i=6/\d1=true/\d3=true/\d4=true/\Y=true):=by
 have h:=br.1 (kT (kT (kT (kT (kT (kT aiE H) d1) d2) d3) d4) Y) i I;simpa[or_assoc]using h
theorem aiF:(ab.all fun Y=>ab.all fun d1=>ab.all fun d2=>ab.all fun d3=>ab.all fun d4=>ab.all fun H=>(d3&&!d2)||!(Region.ready .any lU #[Y,d1,d2,d3,d4,H,false,false,false]).isEmpty)=true:=by decide+kernel
theorem ag4(Y d1 d2 d3 d4 H:Bool)(D:d3=true->d2=true):Region.ready .any lU #[Y,d1,d2,d3,d4,H,false,false,false]≠ []:=by
 have h:=kT (kT (kT (kT (kT (kT aiF Y) d1) d2) d3) d4) H;intro e;rw[e]at h;simp at h;rw[D h.1]at h;simp at h
theorem aiG:Region.ready .any lU #[false,true,true,true,true,true,true,false,false]=[0]:=by decide+kernel
theorem aiH:Region.ready .any lU #[true,true,true,true,true,true,true,false,false]=[7]:=by decide+kernel
theorem aiI:Region.ready .any lU #[true,true,true,true,true,true,true,true,false]=[8]:=by decide+kernel
theorem Sq(t:Nat):Region.linearise.go .any lU 2 t #[true,true,true,true,true,true,true,false,false] []=[7,8]:=by
 rw[C8 aiH];show 7::Region.linearise.go _ _ 1 _ #[true,true,true,true,true,true,true,true,false] []=_
 rw[C8 aiI];rfl
theorem ag5(t:Nat):Region.linearise.go .any lU 3 t #[false,true,true,true,true,true,true,false,false] []=[0,7,8]:=by
 rw[C8 aiG];show 0::Region.linearise.go _ _ 2 _ #[true,true,true,true,true,true,true,false,false] []=_
 rw[Sq]
abbrev We(rn P rm:fb):Value:=oB rn (iL P 0) (str (ki rm))
def pk(b:Bool)(x:ae):Value:=if b then x else ah
def qG(X P rn rm:fb)(k:Nat):List Value:=if jg P X k=[]/\jg (iL P 0) X k=[]then [yB rn P rm]else mK X P rn rm false k++mK X (iL P 0) rn (str (ki rm)) true k
theorem tT{P:fb}{k:Nat}:(mK X P rn rm fl k).length=(jg P X k).length:=by unfold mK;simp
theorem aan{P:fb}{k:Nat}:∀u∈mK X P rn rm fl k,u.oneCell'=true:=by
 intro u Y;obtain⟨e,_,rfl⟩:=bu.1 Y;rfl
def zf(XN X rn P rm:fb)(k q st n b4 b5 b6:Nat)(y z:ae)(Y d1 d2 d3 d4 H:Bool):Array Value:=
 #[o_ XN X,oB rn P rm,jF k q st,iv n,ptr b4,ptr b5,ptr b6,ah,.slice none 0 0,y,o_ XN X,oB rn P rm,jF k q st,iv n,y,pk Y y,pk d1 (o_ XN X),pk d2 (oB rn P rm),pk d3 (We rn P rm),pk d4 (jF k q st),pk H (iv n),z,ah,ah,ah,ah,ah,ah,ah,ah,ah]
theorem Dx{b:Nat}{fz:Nat×Nat}(h:v.heap[b]?=some (.cells #[x,y] e fz)):(aX 68 (ptr b)).run PR v=.ok (.agg #[x,y]) v:=by
 have c0:v.cell? ⟨b,0,none⟩=some x:=by simp[ak,h]
 have c1:v.cell? ⟨b,1,none⟩=some y:=by simp[ak,h]
 simp[ptr,go_sem,c0,c1]
theorem I1{b:Nat}{fz:Nat×Nat}(h:v.heap[b]?=some (.cells #[x,y,z] e fz)):(aX 131 (ptr b)).run PR v=.ok (.agg #[x,y,z]) v:=by
 have c0:v.cell? ⟨b,0,none⟩=some x:=by simp[ak,h]
 have c1:v.cell? ⟨b,1,none⟩=some y:=by simp[ak,h]
 have c2:v.cell? ⟨b,2,none⟩=some z:=by simp[ak,h]
 simp[ptr,go_sem,c0,c1,c2]
theorem C9{B:Nat}{z:Nat}(h:v.ownsRow B e z x n xs)(k:Kw v v'):v'.ownsRow B e z x n xs:=by
 refine⟨h.1,?_⟩;rcases h.2 with h'|⟨K,cap,Y,rfl,H,D,R⟩
 ·simp_all
 ·exact .inr ⟨K,cap,Y,rfl,H,k.at D,R⟩
theorem Iq:([7,8].all fun i=>match lU[i]? with|some o=>Aj K0 PR false o|none=>true)=true:=by decide+kernel
section
variable{Q:QT}{XN X rn P rm:fb}{k q st n:Nat}{v:af}
theorem YX{R:ae->af->Prop}(hX:X.size<=200)(M:b4<=v.heap.size)(N:v.heap[b5]?=some (.cells #[.string rn,.string P,.string rm] 131))(D:v.ownsRow b4 136 1 y (jg P X k).length (mK X P rn rm false k))(B:jg P X k=[]->y=.slice none 0 0)(C:v.ownsRow b4 136 1 z (jg (iL P 0) X k).length (mK X (iL P 0) rn (str (ki rm)) true k))(F:jg (iL P 0) X k=[]->z=.slice none 0 0)
  (H:∀x v',v'.ownsRow b4 136 1 x (qG X P rn rm k).length (qG X P rn rm k)->(∀a,a<b4->v'.heap[a]?=v.heap[a]?)->R x v'):GW false Q R 92 [.inRegion lU [7,8],.code oH] (zf XN X rn P rm k q st n b4 b5 b6 y z true true true true true true) v:=by
 refine GW.to (xA (o_ XN X) (oB rn P rm) (jF k q st) (iv n) y z b4 b5 b6 fun i=>(zf XN X rn P rm k q st n b4 b5 b6 y z true true true true true true).getD i ah) ?_;generalize(fun i=>(zf XN X rn P rm k q st n b4 b5 b6 y z _ _ _ _ _ _).getD i _)=J;have O:=zE P X k;have S:=zE (iL P 0) X k;by_cases K:jg (iL P 0) X k=[]
 ·obtain rfl:=F K;by_cases I:jg P X k=[]
  ·obtain rfl:=B I;have Y:qG X P rn rm k=[yB rn P rm]:=by unfold qG;rw[if_pos ⟨I,K⟩]
   rw[Y]at H;exact GW.mono (R1:=fun x v'=>v'.ownsRow b4 136 1 x 1 _/\∀a,a<b4->v'.heap[a]?=v.heap[a]?) (fun x v' h=>H x v' h.1 h.2) (GW.I0 bL Ip Iq fun T=>abX rn P rm _ _ _ _ b4 b5 b6 b4 J _ M N)
  ·have Y:qG X P rn rm k=mK X P rn rm false k:=by
    unfold qG;rw[if_neg (fun h=>I h.1)];simp[mK,K]
   rw[Y]at H;rw[<-tT (rn:=rn) (rm:=rm) (fl:=false)]at D;have A:0<(mK X P rn rm false k).length:=by rw[tT];exact bH.2 I
   have U:(mK X P rn rm false k).length<=1000:=by rw[tT];omega
   obtain⟨g,cap,rfl⟩:∃g cap,y=.slice _ _ cap:=by
    rcases D.2 with⟨_,h⟩|⟨g,cap,_,h,_⟩
    ·omega
    ·exact⟨g,cap,h⟩
   exact GW.mono (R1:=fun x v'=>v'.ownsRow b4 136 1 x _ _/\∀a,a<b4->v'.heap[a]?=v.heap[a]?) (fun x v' h=>H x v' h.1 h.2) (GW.I0 bL Ip Iq fun T=>aam _ rn P rm _ _ _ _ g cap b4 b5 b6 b4 J _ U A D)
 ·have Y:qG X P rn rm k=mK X P rn rm false k++mK X (iL P 0) rn (str (ki rm)) true k:=by unfold qG;rw[if_neg (fun h=>K h.2)]
  rw[Y]at H;rw[<-tT (rn:=rn) (rm:=rm) (fl:=false)]at D;rw[<-tT (rn:=rn) (rm:=str (ki rm)) (fl:=true)]at C;have A:0<(mK X (iL P 0) rn (str (ki rm)) true k).length:=by rw[tT];exact bH.2 K
  have U:(mK X P rn rm false k).length<=1000:=by rw[tT];omega
  have L:(mK X (iL P 0) rn (str (ki rm)) true k).length<=1000:=by rw[tT];omega
  obtain⟨g,cap,rfl⟩:∃g cap,z=.slice _ _ cap:=by
   rcases C.2 with⟨_,h⟩|⟨g,cap,_,h,_⟩
   ·omega
   ·exact⟨g,cap,h⟩
  exact GW.mono (R1:=fun x v'=>v'.ownsRow b4 136 1 x _ _/\∀a,a<b4->v'.heap[a]?=v.heap[a]?) (fun x v' h=>H x v' h.1 h.2) (GW.I0 bL Ip Iq fun T=>abW _ _ rn P rm _ _ _ _ y g cap b4 b5 b6 b4 J _ U L A aan D C M)
theorem abY(hX:X.size<=200)(hP:P.size<=30)(hm:rm.size<=1000)(hk:k<=6)(m:k<P.size)(O:k<(iL P 0).size)(hq:1<=q)(W:q<=8)(hs:1<=st)(d:st<=200)(hn:1<=n)(G:n<=8)(B:lJ v)(hT:iK v):
  ly Q 92 #[o_ XN X,oB rn P rm,jF k q st,iv n] v fun x v'=>v'.ownsRow v.heap.size 136 1 x (qG X P rn rm k).length (qG X P rn rm k)/\Kw v v':=by
 have Y:∃F,PR.funcs[92]?=some F:=⟨_,bL⟩;refine ly.of (n:=31) bL aiD (by simp) ?_;refine GW.run 2 (k':=[.inRegion TR [0,1,2,3],.code (.seq (.region 1 JE false) (.seq (.region 2 lU true) oH))]) ?_;refine GW.bx Y (t:=68) (y:=o_ XN X) fun v1 b l1 c4=>?_;refine GW.bx Y (t:=131) (y:=oB rn P rm) fun v2 g l2 C=>?_;refine GW.bx Y (t:=75) (y:=jF k q st) fun v3 f l3 c6=>?_;refine GW.iz Y [3] ?_;refine GW.run 3 (k':=[.inRegion JE [0,1,2,3,4,5],.code (.seq (.region 2 lU true) oH)]) ?_;have K3:=(b.trans g).trans f;have c4:=f.at (g.at c4);have C:=f.at C;refine GW.ld Y (Dx c4) ?_;refine GW.ld Y (I1 C) ?_;refine GW.ld Y (An c6) ?_;refine GW.iz Y [3] ?_;refine GW.call Y (QI (XN:=XN) (rn:=rn) (rm:=rm) (fl:=false) hX hP hk m hq W hs d hn G (K3.tabs B) (K3.rj B hT)) ?_;rintro y v4 ⟨S,j,M⟩;have M:Kw v3 v4:=M;refine GW.iz Y [5] ?_;refine GW.run 2 (k':=[.code (.region 2 lU true),.code oH]) ?_;refine GW.to (zf XN X rn P rm k q st n v.heap.size v1.heap.size v2.heap.size y ah false false false false false false) ?_;have c4:=M.at c4;have C:=M.at C;have c6:=M.at c6;have K4:=K3.trans M;have S:=x6 S K3.size;have L:=K4.size;generalize r:v.heap.size=b4 at S L c4⊢;generalize v1.heap.size=b5 at C⊢;generalize v2.heap.size=b6 at c6⊢;refine GW.draw fun t=>?_;refine GW.S0 (fun D=>zf XN X rn P rm k q st n b4 b5 b6 y _ (D.getD 0 false) (D.getD 1 false) (D.getD 2 false) (D.getD 3 false) (D.getD 4 false) (D.getD 5 false)) (fun fuel D u=>∃A d1 d2 d3 d4 U:Bool,D=#[A,d1,d2,d3,d4,U,false,false,false]/\(d3=true->d2=true)/\fuel+(A.toNat+d1.toNat+d2.toNat+d3.toNat+d4.toNat+U.toNat)=9/\Kw v4 u) ?_ ?_ 9 t _ v4 ⟨false,false,false,false,false,false,rfl,(by simp),rfl,.refl _⟩
 ·rintro D i fuel t u ⟨A,d1,d2,d3,d4,U,rfl,H,J,K⟩ I N;rcases rdy A d1 d2 d3 d4 U i I with⟨rfl,rfl⟩|⟨rfl,rfl⟩|⟨rfl,rfl⟩|⟨rfl,rfl,rfl⟩|⟨rfl,rfl⟩|⟨rfl,rfl⟩|⟨rfl,rfl,rfl,rfl,rfl⟩
  ·exact GW.iz Y [0] (GW.to _ (N u ⟨true,d1,d2,d3,d4,U,rfl,H,by simp at J⊢;omega,K⟩))
  ·exact GW.ld Y (Dx (K.at c4)) (GW.to _ (N u ⟨A,true,d2,d3,d4,U,rfl,H,by simp at J⊢;omega,K⟩))
  ·exact GW.ld Y (I1 (K.at C)) (GW.to _ (N u ⟨A,d1,true,d3,d4,U,rfl,fun _=>rfl,by simp at J⊢;omega,K⟩))
  ·refine GW.call Y (ly.iG (R:=fun x v'=>x=We rn P rm/\Kw u v') (by decide) fun T=>(ZX rn P rm _ (by omega) hm).mono fun e w' h=>⟨_,h.1,rfl,fun a Z=>h.2.block a Z⟩) ?_;rintro x w ⟨rfl,l⟩;exact GW.to _ (N w ⟨A,d1,true,true,d4,U,rfl,fun _=>rfl,by simp at J⊢;omega,K.trans l⟩)
  ·exact GW.ld Y (An (K.at c6)) (GW.to _ (N u ⟨A,d1,d2,d3,true,U,rfl,H,by simp at J⊢;omega,K⟩))
  ·exact GW.iz Y [5] (GW.to _ (N u ⟨A,d1,d2,d3,d4,true,rfl,H,by simp at J⊢;omega,K⟩))
  ·obtain rfl:=H rfl;refine GW.call Y (QI (XN:=XN) (rn:=rn) (rm:=str (ki rm)) (fl:=true) hX (by have:=zu P 0;omega) hk O hq W hs d hn G ((K4.trans K).tabs B) ((K4.trans K).rj B hT)) ?_;rintro z u2 ⟨s,c,V⟩;have fin:GW _ Q (fun x v'=>v'.ownsRow b4 136 1 x _ _/\Kw v v') 92 _ (zf XN X rn P rm k q st n b4 b5 b6 y z true _ _ _ _ _) u2:=
    YX hX (au L (K.trans V).size) ((K.trans V).at C) (C9 S (K.trans V)) j (x6 s (au L K.size)) c fun x v' o p=>⟨o,fun a Z=>(p a (by omega)).trans (((K4.trans K).trans V) a Z)⟩
   cases A with
   |true=>
    obtain rfl:fuel=2:=by simp_all
    rw[show(#[true,true,true,true,true,true,false,false,false]).setIfInBounds 6 _=#[true,true,true,true,true,true,true,false,false]from rfl,Sq];exact GW.to _ fin
   |false=>
    obtain rfl:fuel=3:=by simp at J;omega
    rw[show(#[false,true,true,true,true,true,false,false,false]).setIfInBounds 6 true=#[false,true,true,true,true,true,true,false,false]from rfl,ag5];exact GW.iz Y [0] (GW.to _ fin)
 ·rintro fuel D u ⟨A,d1,d2,d3,d4,U,rfl,H,J,K⟩ E;exfalso;rcases E with rfl|E
  ·have:=aN A;have:=aN d1;have:=aN d2;have:=aN d3;have:=aN d4;have:=aN U;omega
  ·exact ag4 A d1 d2 d3 d4 U H E
end
end Ph
section
inductive Rc where
 |hit (p:Pl)
 |no (rn rb rm:fb)
def Rc.val:Rc->ae
 |.hit p=>qF p
 |.no rn rb rm=>yB rn rb rm
def Rc.text(Y:fb):Rc->Bool->List UInt8
 |.hit p,first=>mS [p.rn,str (gL (uS p.fl first)),Y,str (gL (p.st+1)),p.lt,str (gL p.er),p.df,p.rb,p.rm]++[10]
 |.no rn rb rm,_=>mS [rn,str (gL 4),str [42],str [48],str [42],str [45],str [45],rb,rm]++[10]
def AA:Rc:=.no ⟨#[]⟩ ⟨#[]⟩ ⟨#[]⟩
def oj(X P rn rm:fb)(fl:Bool)(k:Nat):List Rc:=(jg P X k).map fun e=>.hit (o9 X P rn rm fl (fun e=>(il P X k e).2) (fun e=>(il P X k e).1) e)
def pT(X P rn rm:fb)(k:Nat):=if jg P X k=[]/\jg (iL P 0) X k=[]then [.no rn P rm]else oj X P rn rm false k++oj X (iL P 0) rn (str (ki rm)) true k
def jS(Y:fb)(n:Nat)(L:List Rc)
 |0=>[]
 |i+1=>jS Y n L i++(L.getD i AA).text Y (decide (n+i=0))
theorem QJ(H:fb)(n:Nat)(Y D:List Rc):∀i,i<=Y.length->jS H n (Y++D) i=jS H n Y i
 |0,_=>rfl
 |i+1,h=>by
  rw[jS,jS,QJ H n Y D i (by omega)];rw[aO,aO,List.getElem?_append_left (by omega)]
theorem Rx(H:fb)(n:Nat)(Y D:List Rc):∀i,jS H n (Y++D) (Y.length+i)=jS H n Y Y.length++jS H (n+Y.length) D i
 |0=>by rw[Nat.add_zero,QJ H n Y D _ (az _)];simp[jS]
 |i+1=>by
  rw[<-da,jS,jS,Rx H n Y D i,bX];congr 3
  ·rw[aO,aO,List.getElem?_append_right (by omega)];simp_all
  ·congr 1;simp only[eq_iff_iff];omega
theorem OK(p t:fb)(k:Nat):∀n,i_ p t k n=(pS p t k n).map fun e=>((il p t k e).2,e,(il p t k e).1)
 |0=>by simp[i_,pS]
 |n+1=>by
  have Y:=OK p t k n;unfold pS at *;rw[i_];split
  ·rw[aV,aV,<-Y];rfl
  ·omega
theorem Gi(p t:fb)(k:Nat):lT p t k=(jg p t k).map fun e=>((il p t k e).2,e,(il p t k e).1):=OK p t k _
theorem TT(a b c d e f g h i:List _):Lib.join [a,b,c,d,e,f,g,h,i] [9]=a++[9]++b++[9]++c++[9]++d++[9]++e++[9]++f++[9]++g++[9]++h++[9]++i:=by
 unfold Lib.join;simp
theorem JI(l:List _):(str l).data.toList=l:=by unfold str;simp
theorem adP(Y X P rn rm:fb)(fl first:Bool)(k e n:Nat)(H:uS fl first=n):
  Rc.text Y (.hit (o9 X P rn rm fl (fun e=>(il P X k e).2) (fun e=>(il P X k e).1) e)) first=uo Y X rn P rm n ((il P X k e).2,e,(il P X k e).1):=by
 subst H;unfold Rc.text o9 uo vg mS;simp;rw[TT];simp[JI]
theorem afC(Y rn rb rm:fb)(first:Bool):Rc.text Y (.no rn rb rm) first=qA (rn,rb,rm):=by
 unfold Rc.text qA mS;simp;rw[TT];simp[JI];have:gL 4=[52]:=by decide+kernel
 simp_all
theorem FJ(Y X P rn rm:fb)(fl:Bool)(k n:Nat):∀i,i<=(jg P X k).length->jS Y n (oj X P rn rm fl k) i=mR Y X rn P rm (if fl then 16 else 0) (decide (0<n)) (lT P X k) i
 |0,_=>rfl
 |i+1,h=>by
  rw[jS,mR,FJ Y X P rn rm fl k n i (by omega)];congr 1;rw[Gi];unfold oj;rw[aO,aO,bt,bt,aM (by omega)];simp only[Option.map_some,bk];refine adP Y X P rn rm fl _ k _ _ ?_;unfold uS nC;by_cases H:n+i=0
  ·have K:¬(decide (0<n)=true\/0<i):=by simp;omega
   rw[if_neg K,decide_eq_true H];cases fl<;>rfl
  ·have K:decide (0<n)=true\/0<i:=by simp;omega
   rw[if_pos K,decide_eq_false H];cases fl<;>rfl
theorem Ry(H Y rn p mk:fb)(add:Nat)(more:Bool)(L:List _)(i:Nat)(h:0<i):mR H Y rn p mk add more L i≠ []:=by
 cases i with
 |zero=>omega
 |succ i=>
  rw[mR];intro e;have:=congrArg List.length e;unfold uo vg at this;simp_all
theorem abZ(Y X P rn rm:fb)(k:Nat):jS Y 0 (pT X P rn rm k) (pT X P rn rm k).length=pI Y X k (rn,P,rm):=by
 have l1:(lT P X k).length=(jg P X k).length:=by rw[Gi];simp
 have l2:(lT (iL P 0) X k).length=(jg (iL P 0) X k).length:=by rw[Gi];simp
 have R:ll Y X k (rn,P,rm)=jS Y 0 (oj X P rn rm false k) (jg P X k).length:=by
  rw[FJ Y X P rn rm _ k 0 _ (az _)];unfold ll oS;simp_all
 have D:ll Y X k (rn,P,rm)=[]↔jg P X k=[]:=by
  constructor
  ·intro h;apply cQ;intro H;unfold ll oS at h;rw[l1]at h;exact Ry _ _ _ _ _ _ _ _ _ (bH.2 H) h
  ·intro h;rw[R,h];rfl
 have I:mN Y X k (rn,P,rm)=jS Y (jg P X k).length (oj X (iL P 0) rn (str (ki rm)) true k) (jg (iL P 0) X k).length:=by
  rw[FJ Y X _ rn _ _ k _ _ (az _)];unfold mN oS;rw[l2];have:decide (ll Y X k (rn,P,rm)≠ [])=decide (0<(jg P X k).length):=by
   rw[decide_eq_decide,bH];simp_all
  simp_all
 have K:mN Y X k (rn,P,rm)=[]↔jg (iL P 0) X k=[]:=by
  constructor
  ·intro h;apply cQ;intro H;unfold mN oS at h;rw[l2]at h;exact Ry _ _ _ _ _ _ _ _ _ (bH.2 H) h
  ·intro h;rw[I,h];rfl
 unfold pI;by_cases h:jg P X k=[]/\jg (iL P 0) X k=[]
 ·rw[if_pos ⟨D.2 h.1,K.2 h.2⟩,K.2 h.2,cn];have:pT X P rn rm k=[.no rn P rm]:=by unfold pT;simp_all
  rw[this];show jS Y 0 _ 1=_
  rw[jS,jS,cZ];exact afC Y rn P rm _
 ·rw[if_neg (fun e=>h ⟨D.1 e.1,K.1 e.2⟩)];have:pT X P rn rm k=oj X P rn rm false k++oj X (iL P 0) rn (str (ki rm)) true k:=by unfold pT;simp_all
  rw[this,aJ,Rx,R,I,bI];have A:(oj X P rn rm false k).length=(jg P X k).length:=by unfold oj;simp
  have U:(oj X (iL P 0) rn (str (ki rm)) true k).length=(jg (iL P 0) X k).length:=by unfold oj;simp
  rw[A,U]
theorem PG(Y X:fb):mS [⟨#[64]⟩++Y,str (gL X.size)]++[10]=uq Y X:=by
 unfold mS uq Lib.join;simp[JI]
end
namespace Ph
open Conc Ren RowKit
def cp:List Nat->Code->Code
 |1::p,.seq a _|1::p,.block _ a|1::p,.loop a|1::p,.cond _ a _|2::p,.seq _ a|2::p,.cond _ _ a=>cp p a
 |_,c=>c
def opsOf:Code->Array Oper
 |.region _ o _=>o
 |_=>#[]
section
variable{tb:Bool}{Q:QT}{R:ae->af->Prop}{v:af}{fn:aD}{k:List Item}{a:Array ae}
theorem GW.any(f:(Nat->ae)->Array ae)(h:a=f fun i=>a.getD i ah)(g:∀u,GW tb Q R fn k (f u) v):GW tb Q R fn k a v:=by
 rw[h];exact g _
end
theorem ag6{B:Nat}{acc:List UInt8}(h:ie B acc v)(k:Kw v v'):ie B acc v':=by
 have K:ai _ v {v' with os:=v.os,tape:=v.tape,output:=v.output}:=⟨rfl,rfl,rfl,k.size,k⟩;have Y:=h.below K;exact Y
noncomputable def rK:Code:=Tryz.f60.body.getD .skip
def tB:Code:=cp [2,2,2,1,2,1,1] rK
def tI:Code:=cp [2,2,1,1,2,2,1,1] tB
def tE:Code:=cp [2,2,2,2] rK
def kB:List Item:=[.inLoop tB,.inBlock 0,.code tE]
def kI:List Item:=.inBlock 1:: .code (cp [2,2,2] tB)::kB
def Rc.ok:Rc->Prop
 |.hit p=>p.rn.size<=1000/\p.rb.size<=1000/\p.rm.size<=1000/\p.lt.size<=10000/\p.df.size<=10000/\p.st<=1000/\p.er<=1000
 |.no rn rb rm=>rn.size<=1000/\rb.size<=1000/\rm.size<=1000
theorem ab0(B:Nat)(acc:List UInt8)(XN:fb)(x:Rc)(first:Bool)(v:af)(F:Rc.ok x)(D:XN.size<=1000)(A:ie B acc v)(U:acc.length<=500000000)(C:iK v):
  aI PR 93 #[ptr B,.string XN,x.val,.bool first] v fun e v'=>∃y,e=.returned y/\ie B (acc++x.text XN first) v'/\(∀g,g<B->v'.heap[g]?=v.heap[g]?)/\Go.Proofs.YtdcjnhipenbcfaaGreatDoor.Kp B v v':=by
 cases x with
 |hit p=>
  have⟨Y,K,H,I,J,L,M⟩:=F;refine(Wv B acc XN p _ v A D Y K H I J L M U C).mono fun e v' h=>⟨_,h.1,?_,fun g R=>h.2.2.1.block g R,h.2.2.2⟩;have:=h.2.1;rw[bX]at this;exact this
 |no rn rb rm=>
  have⟨Y,K,H⟩:=F;refine(Wu B acc XN rn rb rm _ v A Y K H U C).mono fun e v' h=>⟨_,h.1,?_,fun g R=>h.2.2.1.block g R,h.2.2.2⟩;have:=h.2.1;rw[bX]at this;exact this
theorem ag7:ko PR (bC 136)=some false:=by kernel_rfl
theorem ag8:PR.underlying 133=some (.slice (PR.elem 133)):=by kernel_rfl
theorem afD:(PR.info? (PR.elem 133)).map (·.size)=some 1:=by kernel_rfl
def sj(XN X:fb)(k q st n b4 b6 b9:Nat)(sl:ae)(len:Nat)(i y z j:ae)(u:Nat->ae):Array Value:=
 #[o_ XN X,sl,jF k q st,iv n,ptr b4,u 5,ptr b6,u 7,.string ⟨#[]⟩,ptr b9,u 10,u 11,u 12,u 13,u 14,u 15,u 16,u 17,u 18,u 19,u 20,u 21,u 22,sl,iv len,i,u 26,u 27,u 28,u 29,u 30,u 31,u 32,y,z,j,u 36,u 37,u 38,u 39,u 40,u 41,u 42,u 43,u 44,u 45,u 46,u 47,u 48]
structure TV(v0:af)(XN X:fb)(k q st b4 b6 b9:Nat)(acc:List UInt8)(v:af):Prop where
 c4:v.heap[b4]?=some (.cells #[.string XN,.string X] 68)
 c6:v.heap[b6]?=some (.cells #[iv k,iv q,iv st] 75)
 Bv:ie b9 acc v
 old:Kw v0 v
 l4:b4<b9
 l6:b6<b9
 l0:v0.heap.size<=b9
theorem TV.on{k q st b9:Nat}{acc:List UInt8}(h:TV v0 XN X k q st b4 b6 b9 acc v)(Y:Kw v v'):TV v0 XN X k q st b4 b6 b9 acc v':=⟨Y.at h.c4,Y.at h.c6,ag6 h.Bv Y,h.old.trans Y,h.l4,h.l6,h.l0⟩
theorem TV.wrote{k q st b9:Nat}{acc:List UInt8}(h:TV v0 XN X k q st b4 b6 b9 acc v)(H:ie b9 TL v')(Y:∀g,g<b9->v'.heap[g]?=v.heap[g]?):TV v0 XN X k q st b4 b6 b9 TL v':=
 ⟨(Y _ h.l4).trans h.c4,(Y _ h.l6).trans h.c6,H,fun a K=>(Y a (aK K h.l0)).trans (h.old a K),h.l4,h.l6,h.l0⟩
section
variable{Q:QT}{R:ae->af->Prop}{v0:af}{XN X:fb}{k q st n b4 b6 b9 len:Nat}{sl i:ae}{acc:List UInt8}{L:List Rc}{b:Option Addr}{cq:Nat}
theorem afE(W:XN.size<=1000)(G:lJ v0)(hT:iK v0)(hL:∀x∈L,Rc.ok x)(hn:L.length<=100000)(M:∀j,j<=L.length->(acc++jS XN 0 L j).length<=500000000)
  (kk:∀j u v,TV v0 XN X k q st b4 b6 b9 (acc++jS XN 0 L L.length) v->GW false Q R 60 kI (sj XN X k q st n b4 b6 b9 sl len i (.slice b L.length cq) (iv L.length) j u) v):
  ∀m j,j+m=L.length->∀u v,TV v0 XN X k q st b4 b6 b9 (acc++jS XN 0 L j) v->v.ownsRow b9 136 1 (.slice b L.length cq) L.length (L.map Rc.val)->(∀g,(Value.slice b L.length cq).ownBlock=some g->b9<g)->
   GW false Q R 60 (.code tI:: .inLoop tI:: .inBlock 2::kI) (sj XN X k q st n b4 b6 b9 sl len i (.slice b L.length cq) (iv L.length) (iv j) u) v:=by
 have Y:∃F,PR.funcs[60]?=some F:=⟨_,bB⟩;intro m;induction m with
 |zero=>
  intro j hj u v A H Z;obtain rfl:j=L.length:=by omega
  refine GW.run 2 (k':=.inRegion (opsOf (cp [1] tI)) [0]:: .code (cp [2] tI):: .inLoop tI:: .inBlock 2::kI) ?_;refine GW.iz Y [0] ?_;refine GW.run 2 (k':=.code (.cond (.tmp 36) .skip (.exit 2)):: .code (cp [2,2] tI):: .inLoop tI:: .inBlock 2::kI) ?_;refine GW.cond Y (t:=decide ((L.length:Int)<(L.length:Int))) trivial (by kernel_rfl) ?_;rw[show decide ((L.length:Int)<(L.length:Int))=false from decide_eq_false (by omega)];refine GW.run 1 (k':=kI) ?_;exact GW.any (fun u=>sj XN X k q st n b4 b6 b9 sl len i (.slice b L.length cq) (iv L.length) (iv L.length) u) (by kernel_rfl) fun o=>kk _ o v A
 |succ m ih=>
  intro j hj u v A H Z;have I:j<L.length:=by omega
  obtain⟨g,K,hb,D,E0,d⟩:∃g K,b=some ⟨g,0,none⟩/\v.heap[g]?=some (.cells K 136 (0,0))/\K.size=cq *1/\K.toList.take (L.length *1)=L.map Rc.val:=by
   rcases H.2 with⟨_,h⟩|⟨g,cap,K,A,_,y,h4,h5,a,w⟩
   ·omega
   ·cases A;exact⟨g,K,rfl,y,a,w⟩
  subst hb;have hgb:b9<g:=Z g rfl;have V:K[0+j *1]?=some (L.getD j AA).val:=by
   have s:(K.toList.take (L.length *1))[j]?=K.toList[j]?:=by rw[cu,if_pos (by omega)]
   rw[d,bt,aM I]at s;rw[show 0+j *1=j by omega,<-bE,<-s,aO,aM I];rfl
  have J:L.getD j AA∈L:=by rw[aO,aM I];exact cv _
  have f:acc++jS XN 0 L (j+1)=(acc++jS XN 0 L j)++(L.getD j AA).text XN (decide ((j:Int)=0)):=by
   rw[jS,<-bX];congr 2;rw[decide_eq_decide];omega
  have z:=M j (by omega);generalize L.getD j AA=e at *;refine GW.run 2 (k':=.inRegion (opsOf (cp [1] tI)) [0]:: .code (cp [2] tI):: .inLoop tI:: .inBlock 2::kI) ?_;refine GW.iz Y [0] ?_;refine GW.run 2 (k':=.code (.cond (.tmp 36) .skip (.exit 2)):: .code (cp [2,2] tI):: .inLoop tI:: .inBlock 2::kI) ?_;refine GW.cond Y (t:=decide ((j:Int)<(L.length:Int))) trivial (by kernel_rfl) ?_;rw[show decide ((j:Int)<(L.length:Int))=true from decide_eq_true (by omega)];refine GW.run 5 (k':=.inRegion (opsOf (cp [2,2,1,1,1] tI)) [0,1,2,3,4]:: .code (cp [2,2,1,1,2] tI):: .inBlock 3:: .code (cp [2,2,2] tI):: .inLoop tI:: .inBlock 2::kI) ?_;refine GW.iz Y [0] ?_;refine GW.ix Y (B:=g) (off:=0) (cap:=cq) I ag8 afD ?_;refine GW.ld Y (oA (0+j *1) ag7 D V) ?_;refine GW.iz Y [3,4] ?_;refine GW.run 2 (k':=.inRegion (opsOf (cp [2,2,1,1,2] tI)) [0,1,2,3,4,5]:: .inBlock 3:: .code (cp [2,2,2] tI):: .inLoop tI:: .inBlock 2::kI) ?_;refine GW.iz Y [0] ?_;refine GW.ld Y (oA 0 xe A.c4 rfl) ?_;refine GW.iz Y [2,3,4] ?_;refine GW.call Y (ly.iG (R:=fun _ v'=>ie b9 (acc++jS XN 0 L j++e.text XN (decide ((j:Int)=0))) v'/\(∀g,g<b9->v'.heap[g]?=v.heap[g]?)/\Go.Proofs.YtdcjnhipenbcfaaGreatDoor.Kp b9 v v') (by decide) fun T=>ab0 b9 (acc++jS XN 0 L j) XN e (decide ((j:Int)=0)) (tp v T) (hL _ J) W A.Bv z (A.old.rj G hT)) ?_;rintro x v' ⟨C,E,c⟩;rw[<-f]at C;refine GW.run 3 (k':=.inRegion (opsOf (cp [2,2,2] tI)) [0,1]:: .inLoop tI:: .inBlock 2::kI) ?_;refine GW.iz Y [0,1] ?_;refine GW.run 2 (k':=.code tI:: .inLoop tI:: .inBlock 2::kI) ?_;refine GW.any (fun u=>sj XN X k q st n b4 b6 b9 sl len i (.slice (some ⟨g,0,none⟩) L.length cq) (iv L.length) (.int .i64 (aH.wrap ((j:Int)+1))) u) (by kernel_rfl) fun o=>?_;rw[zI (by omega)];refine ih (j+1) (by omega) o v' (A.wrote C E) ⟨H.1,.inr ⟨g,cq,K,rfl,by omega,c g K 136 (0,0) (by omega) (by decide) D,?_⟩⟩ Z;rcases H.2 with⟨h,_⟩|⟨g',p,r,l,_,U,N,O,P,S⟩
  ·cases h
  ·cases l;rw[D]at U;cases U;exact⟨N,O,P,S⟩
end
section
variable{tb:Bool}{Q:QT}{R:ae->af->Prop}{v:af}{fn:aD}{k:List Item}{a:Array ae}{ops:Array Oper}{i:Nat}{is:List Nat}
theorem afF:(PR.info? 131).map (·.size)=some 3:=by kernel_rfl
theorem GW.sk(Y:∃F,PR.funcs[fn]?=some F){s:Sem Unit}(h:qb ops i a=some (D5 s))(hr:s.run PR v=.ok () v1)(hd:v1.drawn=v.drawn)(g:GW tb Q R fn (.inRegion ops is::k) (mc (nL ops i) ah a) v1):GW tb Q R fn (.inRegion ops (i::is)::k) a v:=
 GW.ex Y h (by simp[D5,hr]) (.inr ⟨rfl,rfl⟩) hd g
theorem GW.Wh(H:∃F,PR.funcs[fn]?=some F){t:ax}(O:(PR.info? t).map (·.size)=some 3){B:Nat}(Y:v.heap[B]?=some (.cells #[z0,z1,z2] t'))
  (g:∀v1,v1.heap[B]?=some (.cells #[x,y,z] t')->(∀b,b≠B->v1.heap[b]?=v.heap[b]?)->v1.heap.size=v.heap.size->GW tb Q R fn (.inRegion ops is::k) (mc (nL ops i) ah a) v1)(h:qb ops i a=some (D5 (cT t (ptr B) (.agg #[x,y,z]))):=by kernel_rfl)(A:x.oneCell'=true:=by rfl)(U:y.oneCell'=true:=by rfl)(C:z.oneCell'=true:=by rfl):GW tb Q R fn (.inRegion ops (i::is)::k) a v:=by
 have⟨P,D,I⟩:=Ae O;have r0:=lI (i:=0) (v:=x) Y;have r1:=lI (i:=1) (v:=y) r0;have J:v.cell? ⟨B,0,none⟩=some z0:=by simp[ak,Y]
 have f0:v.frozen? ⟨B,0,none⟩=false:=by simp[aQ,Y]
 have L:(v.setCell ⟨B,0,none⟩ x).cell? ⟨B,1,none⟩=some z1:=by simp[ak,r0]
 have f1:(v.setCell ⟨B,0,none⟩ x).frozen? ⟨B,1,none⟩=false:=by simp[aQ,r0]
 have M:((v.setCell ⟨B,0,none⟩ x).setCell ⟨B,1,none⟩ y).cell? ⟨B,2,none⟩=some z2:=by simp[ak,r1]
 have f2:((v.setCell ⟨B,0,none⟩ x).setCell ⟨B,1,none⟩ y).frozen? ⟨B,2,none⟩=false:=by simp[aQ,r1]
 have K:=ajY (a:=x) (b:=y) (c:=z) v Y;refine GW.sk (v1:=D3 B x y z v) H h ?_ rfl (g _ K.2 (fun b N=>K.1.heap b N) K.1.size);simp[go_sem,bq,bg,D,I,bR PR _ _ x _ A,bR PR _ _ y _ U,bR PR _ _ z _ C,J,f0,L,f1,M,f2,ptr,D3]
end
theorem afG:(PR.info? 131).map (·.zero)=some (some (.agg #[.string ⟨#[]⟩,.string ⟨#[]⟩,.string ⟨#[]⟩])):=by kernel_rfl
theorem aiJ:PR.underlying 90=some (.slice (PR.elem 90)):=by kernel_rfl
theorem ag9:(PR.info? (PR.elem 90)).map (·.size)=some 3:=by kernel_rfl
theorem afH{b o:Nat}(c0:v.cell? ⟨b,o,none⟩=some x)(c1:v.cell? ⟨b,o+1,none⟩=some y)(c2:v.cell? ⟨b,o+2,none⟩=some z):(aX 131 (rJ b o)).run PR v=.ok (.agg #[x,y,z]) v:=by
 simp[rJ,go_sem,c0,c1,c2]
theorem adQ(X P rn rm:fb)(k:Nat):qG X P rn rm k=(pT X P rn rm k).map Rc.val:=by
 unfold qG pT;split
 ·rfl
 ·rw[aV];unfold mK oj;rw[cw,cw];rfl
theorem PH(X P rn rm:fb)(fl:Bool)(k:Nat)(hX:X.size<=200)(hP:P.size<=30)(hk:k<=6)(Y:rn.size<=1000)(H:rm.size<=1000):∀x∈oj X P rn rm fl k,Rc.ok x:=by
 intro x U;obtain⟨e,D,rfl⟩:=bu.1 U;have⟨a1,a2,a3,a4,a5⟩:=NR P X k e D;have B:(X.extract (il P X k e).2 e).size<=200:=by rw[bU];omega
 have R:=Cq P (X.extract (il P X k e).2 e);have A:(str _).size=(iq P (X.extract (il P X k e).2 e)).length:=h_ _;have I:=GR (str (iq P (X.extract (il P X k e).2 e))) (by omega);have K:=Hu P (X.extract (il P X k e).2 e) (str (iq P (X.extract (il P X k e).2 e))) (by omega);refine⟨Y,(show P.size<=1000 by omega),H,?_,?_,(show(il P X k e).2<=1000 by omega),(show(il P X k e).1<=1000 by omega)⟩
 ·show(str (nb (str (iq P (X.extract (il P X k e).2 e))))).size<=10000
  rw[h_];omega
 ·show(str (ng P (X.extract (il P X k e).2 e) (str (iq P (X.extract (il P X k e).2 e))))).size<=10000
  rw[h_];omega
theorem afI(X P rn rm:fb)(k:Nat)(hX:X.size<=200)(hP:P.size<=30)(hk:k<=6)(H:rn.size<=1000)(D:rm.size<=1000):∀x∈pT X P rn rm k,Rc.ok x:=by
 intro x Y;unfold pT at Y;split at Y
 ·simp at Y;subst Y;exact⟨H,(show P.size<=1000 by omega),D⟩
 ·rcases bj.1 Y with Y|Y
  ·exact PH X P rn rm _ k hX hP hk H D x Y
  ·exact PH X _ rn _ _ k hX (by have:=zu P 0;omega) hk H (by rw[GV];exact D) x Y
theorem adR(X P rn rm:fb)(k:Nat)(hX:X.size<=200):(pT X P rn rm k).length<=402:=by
 have Y:=zE P X k;have K:=zE (iL P 0) X k;unfold pT oj;split
 ·simp
 ·simp;omega
theorem QK(Y:fb)(n:Nat)(L:List Rc):∀j d,(jS Y n L j).length<=(jS Y n L (j+d)).length
 |j,0=>az _
 |j,d+1=>by
  have:=QK Y n L j d;rw[<-da,jS,aJ];omega
theorem aao(s:fb):(iL s 0).size=s.size:=by
 unfold iL;rw[h_];simp
section
variable{Q:QT}{R:ae->af->Prop}{v0:af}{XN X:fb}{k q st n b4 b6 b9 cap:Nat}{a:Option Addr}{RL:List lE}
theorem adS(hX:X.size<=200)(C:XN.size<=1000)(hk:k<=6)(hq:1<=q)(W:q<=8)(hs:1<=st)(d:st<=200)(hn:1<=n)(G:n<=8)(hR:∀r∈RL,(r.1.size<=10/\r.2.1.size<=30/\r.2.2.size<=30)/\k<r.2.1.size)(hRL:RL.length<=5)(U:lJ v0)(hT:iK v0)
  (rows:v0.ownsRow 0 131 3 (.slice a RL.length cap) RL.length (jY RL))
  (kk:∀y z j u v,TV v0 XN X k q st b4 b6 b9 (kJ XN X k RL RL.length) v->GW false Q R 60 [.code tE] (sj XN X k q st n b4 b6 b9 (.slice a RL.length cap) RL.length (iv RL.length) y z j u) v):
  ∀m i,i+m=RL.length->∀y z j u v,TV v0 XN X k q st b4 b6 b9 (kJ XN X k RL i) v->GW false Q R 60 (.code tB::kB) (sj XN X k q st n b4 b6 b9 (.slice a RL.length cap) RL.length (iv i) y z j u) v:=by
 have Y:∃F,PR.funcs[60]?=some F:=⟨_,bB⟩;intro m;induction m with
 |zero=>
  intro i I y z j u v A;obtain rfl:i=RL.length:=by omega
  refine GW.run 2 (k':=.inRegion (opsOf (cp [1] tB)) [0]:: .code (cp [2] tB)::kB) ?_;refine GW.iz Y [0] ?_;refine GW.run 2 (k':=.code (.cond (.tmp 26) .skip (.exit 0)):: .code (cp [2,2] tB)::kB) ?_;refine GW.cond Y (t:=decide ((RL.length:Int)<(RL.length:Int))) trivial (by kernel_rfl) ?_;rw[decide_eq_false (by omega)];refine GW.run 1 (k':=[.code tE]) ?_;exact GW.any (fun u=>sj XN X k q st n b4 b6 b9 _ RL.length (iv RL.length) y z j u) (by kernel_rfl) fun l=>kk _ _ _ l v A
 |succ m ih=>
  intro i I y z j u v A;have N:i<RL.length:=by omega
  obtain⟨g,rfl⟩:∃g,a=some ⟨g,0,none⟩:=by
   rcases rows.2 with⟨_,h⟩|⟨g,cap,V,A,_⟩
   ·omega
   ·cases A;exact⟨g,rfl⟩
  obtain⟨rn,P,rm,M⟩:∃rn P rm,RL[i]?=some (rn,P,rm):=⟨RL[i].1,RL[i].2.1,RL[i].2.2,aM N⟩;have J:RL.getD i (⟨#[]⟩,⟨#[]⟩,⟨#[]⟩)=(rn,P,rm):=by simp_all
  obtain⟨⟨s1,T,w⟩,f⟩:=hR _ (cX M);simp only at s1 T w f;obtain⟨f1,f2,f3⟩:=Qy RL i _ M;have lg:=(rows.lt g rfl).2;have cells:∀j x,(jY RL)[j]?=some x->v.cell? ⟨g,j,none⟩=some x:=fun j x s=>by
   have:=rows.cells (g:=g) rfl j x s;rw[sI]at this;rw[<-this];simp only[ak,A.old g lg]
  refine GW.run 2 (k':=.inRegion (opsOf (cp [1] tB)) [0]:: .code (cp [2] tB)::kB) ?_;refine GW.iz Y [0] ?_;refine GW.run 2 (k':=.code (.cond (.tmp 26) .skip (.exit 0)):: .code (cp [2,2] tB)::kB) ?_;refine GW.cond Y (t:=decide ((i:Int)<(RL.length:Int))) trivial (by kernel_rfl) ?_;rw[decide_eq_true (by omega)];refine GW.run 5 (k':=.inRegion (opsOf (cp [2,2,1,1,1] tB)) [0,1,2,3]:: .code (cp [2,2,1,1,2] tB)::kI) ?_;refine GW.ix Y (B:=g) (off:=0) (cap:=cap) N aiJ ag9 ?_;refine GW.ld Y (y:=rJ g (0+i *3)) (afH (by rw[bI];exact cells _ _ f1) (by rw[bI];exact cells _ _ f2) (by rw[bI];exact cells _ _ f3)) ?_;refine GW.al Y afG fun v1 _ k1 l1 c1=>?_;refine GW.Wh Y afF (x:=.string rn) (y:=.string P) (z:=.string rm) c1 fun v2 c2 k2 l2=>?_;have K2:Kw v v2:=fun b hb=>(k2 b (by omega)).trans (k1 b hb);have D:=A.on K2;refine GW.run 3 (k':=.inRegion (opsOf (cp [2,2,1,1,2,1] tB)) [0,1,2,3,4,5,6]:: .code (cp [2,2,1,1,2,2] tB)::kI) ?_;refine GW.ld Y (Dx D.c4) ?_;refine GW.ld Y (I1 c2) ?_;refine GW.ld Y (An D.c6) ?_;refine GW.iz Y [3] ?_;refine GW.call Y (abY (XN:=XN) (rn:=rn) (rm:=rm) hX T (by omega) hk f (by rw[aao];exact f) hq W hs d hn G (D.old.tabs U) (D.old.rj U hT)) ?_;rintro x v3 ⟨K,k3⟩;have E:=D.on k3;rw[adQ,List.length_map]at K;obtain⟨L,S⟩:∃L,L=pT X P rn rm k:=⟨_,rfl⟩;rw[<-S]at K;obtain⟨b,O,rfl⟩:∃b O,x=.slice b L.length O:=by
   rcases K.2 with⟨hy,h0⟩|⟨p,o,V,A,_⟩
   ·simp_all
   ·exact⟨_,_,A⟩
  have hLn:L.length<=402:=by rw[S];exact adR X P rn rm k hX
  have H:jS XN 0 L L.length=pI XN X k (rn,P,rm):=by rw[S];exact abZ XN X P rn rm k
  have Z:=fun r hr=>(hR r hr).1;have l9:=A.Bv.lt;refine GW.iz Y [5,6] ?_;refine GW.run 3 (k':=.code tI:: .inLoop tI:: .inBlock 2::kI) ?_;refine GW.any (fun u=>sj XN X k q st n b4 b6 b9 (.slice (some ⟨g,0,none⟩) RL.length cap) RL.length (iv i) (.slice b L.length O) (iv L.length) (iv 0) u) (by kernel_rfl) fun l=>?_;refine afE (L:=L) C U hT (by rw[S];exact afI X P rn rm k hX T hk (by omega) (by omega)) (by omega) (fun j s=>?_) (fun j' u2 v4 c=>?_) L.length 0 (by omega) l v3 (by rw[jS,cn];exact E) (x6 K (by omega)) (fun p e=>by have:=(K.lt p e).1;omega)
  ·have m1:=QK XN 0 L j (L.length-j);rw[show j+(L.length-j)=L.length by omega,H]at m1;have m2:=M_ XN X k (rn,P,rm) C (by omega) ⟨s1,T,w⟩ (by omega);have m3:=Ch XN X k RL C (by omega) Z (by omega) i (by omega);rw[aJ];omega
  ·refine GW.run 2 (k':=.inRegion (opsOf (cp [2,2,2] tB)) [0,1]::kB) ?_;refine GW.iz Y [0,1] ?_;refine GW.run 2 (k':=.code tB::kB) ?_;refine GW.any (fun u=>sj XN X k q st n b4 b6 b9 (.slice (some ⟨g,0,none⟩) RL.length cap) RL.length (.int .i64 (aH.wrap (i+1))) (.slice b L.length O) (iv L.length) j' u) (by kernel_rfl) fun u3=>?_;rw[zI (by omega)];refine ih (i+1) (by omega) _ _ _ u3 v4 ?_;have:kJ XN X k RL (i+1)=kJ XN X k RL i++jS XN 0 L L.length:=by rw[kJ,J,H]
   rw[this];exact c
end
def tH:Array Oper:=opsOf (cp [2,2,1] rK)
theorem afJ:tH.size=9:=by kernel_rfl
theorem aiK:(ab.all fun Y=>ab.all fun d1=>ab.all fun d2=>ab.all fun d3=>ab.all fun d4=>ab.all fun H=>ab.all fun D=>(Region.ready .any tH #[Y,d1,d2,d3,d4,H,D,false,false]).all fun i=>(i==0&&!Y)||(i==1&&(!d1&&Y))||(i==2&&(!d2&&d1))||(i==3&&!d3)||(i==4&&(!d4&&d3))||(i==5&&(!H&&d4))||(i==6&&(!D&&H))||(i==7&&(d2&&D)))=true:=by decide+kernel
theorem tdy(Y d1 d2 d3 d4 H D:Bool)(i:Nat)(I:i∈Region.ready .any tH #[Y,d1,d2,d3,d4,H,D,false,false]):(i=0/\Y=false)\/(i=1/\d1=false/\Y=true)\/(i=2/\d2=false/\d1=true)\/(i=3/\d3=false)\/(i=4/\d4=false/\d3=true)\/(i=5/\H=false/\d4=true)\/(i=6/\D=false/\H=true)\/(i=7/\d2=true/\D=true):=by
 have h:=br.1 (kT (kT (kT (kT (kT (kT (kT aiK Y) d1) d2) d3) d4) H) D) i I;simpa[or_assoc]using h
theorem aiL:(ab.all fun H=>ab.all fun d1=>ab.all fun d2=>ab.all fun d3=>ab.all fun d4=>ab.all fun Y=>ab.all fun D=>(d1&&!H)||(d2&&!d1)||(d4&&!d3)||(Y&&!d4)||(D&&!Y)||!(Region.ready .any tH #[H,d1,d2,d3,d4,Y,D,false,false]).isEmpty)=true:=by decide+kernel
theorem aiM:Region.ready .any tH #[true,true,true,true,true,true,true,true,false]=[8]:=by decide+kernel
section
variable{tb:Bool}{Q:QT}{R:ae->af->Prop}{v:af}{fn:aD}{k:List Item}{a:Array ae}{ops:Array Oper}{i:Nat}{is:List Nat}
theorem GW.cat(Y:∃F,PR.funcs[fn]?=some F)(p q:bJ){x y:fb}(H:x.size+y.size<=100000000)(g:GW tb Q R fn (.inRegion ops is::k) (mc (nL ops i) (.string (x++y)) a) v)(h:qb ops i a=some (vh (do eqGuard .add 9 p q (.string x) (.string y);binOp .add 9 (.string x) (.string y))):=by kernel_rfl):GW tb Q R fn (.inRegion ops (i::is)::k) a v:=
 GW.vl Y h (by simp[go_sem,run_string_add_sum (w:=v) x y (by omega)]) rfl g
theorem GW.bs(Y:∃F,PR.funcs[fn]?=some F){x y:fb}(g:∀v1,Kw v v1->v1.heap[v.heap.size]?=some (.cells #[.string x,.string y] 9)->GW tb Q R fn (.inRegion ops is::k) (mc (nL ops i) (.slice (some ⟨v.heap.size,0,none⟩) 2 2) a) v1)(h:qb ops i a=some (vh (Instr.buildSlice 65 2 #[(0,.string x),(1,.string y)])):=by kernel_rfl):GW tb Q R fn (.inRegion ops (i::is)::k) a v:=by
 obtain⟨H,D,K⟩:=Ae (f:=fun i=>(i.zero,i.size)) (z:=(some (.string ⟨#[]⟩),1)) (t:=9) (by kernel_rfl);simp only[de]at K;exact GW.vl (v1:=v.alloc _) Y h (by simp[go_sem]) rfl (g _ (.alloc v _) (heap_alloc_new v _))
end
def Fo(XN X:fb)(k q st n b4 b6 b9:Nat)(sl:ae)(Y d1 d2 d3 d4 H D:Bool):Array Value:=
 #[o_ XN X,sl,jF k q st,iv n,ptr b4,ah,ptr b6,ah,.string ⟨#[]⟩,ptr b9,ah,ah,ah,ah,pk Y (rJ b4 0),pk d1 (.string XN),pk d2 (.string (⟨#[64]⟩++XN)),pk d3 (rJ b4 1),pk d4 (.string X),pk H (.int .i64 (X.size:Int)),pk D (.string (str (gL X.size))),ah,ah,ah,ah,ah,ah,ah,ah,ah,ah,ah,ah,ah,ah,ah,ah,ah,ah,ah,ah,ah,ah,ah,ah,ah,ah,ah,ah]
section
variable{Q:QT}{R:ae->af->Prop}{v0 v:af}{XN X:fb}{k q st n b4 b6 b9 cap len:Nat}{sl:ae}{K:List Item}
theorem ab1(hX:X.size<=200)(W:XN.size<=1000)(G:lJ v0)(d:iK v0)(m:TV v0 XN X k q st b4 b6 b9 [] v)
  (kk:∀z x v',TV v0 XN X k q st b4 b6 b9 (uq XN X) v'->GW false Q R 60 (.inRegion tH []::K) (mc (some 22) x (mc (some 21) z (Fo XN X k q st n b4 b6 b9 sl true true true true true true true))) v'):
  GW false Q R 60 (.code (.region 2 tH true)::K) (Fo XN X k q st n b4 b6 b9 sl false false false false false false false) v:=by
 have Y:∃F,PR.funcs[60]?=some F:=⟨_,bB⟩;refine GW.draw fun t=>?_;rw[afJ];refine GW.S0 (md:=.any) (fun D=>Fo XN X k q st n b4 b6 b9 sl (D.getD 0 false) (D.getD 1 false) (D.getD 2 false) (D.getD 3 false) (D.getD 4 false) (D.getD 5 false) (D.getD 6 false)) (fun fuel D u=>∃B d1 d2 d3 d4 A U:Bool,D=#[B,d1,d2,d3,d4,A,U,false,false]/\(d1=true->B=true)/\(d2=true->d1=true)/\(d4=true->d3=true)/\(A=true->d4=true)/\(U=true->A=true)/\fuel+(B.toNat+d1.toNat+d2.toNat+d3.toNat+d4.toNat+A.toNat+U.toNat)=9/\TV v0 XN X k q st b4 b6 b9 [] u) ?_ ?_ 9 t (bF 9 false) v ⟨false,false,false,false,false,false,false,rfl,nofun,nofun,nofun,nofun,nofun,rfl,m⟩
 ·rintro D i fuel t u ⟨B,d1,d2,d3,d4,A,U,rfl,J,L,M,N,O,C,T⟩ I H;rcases tdy B d1 d2 d3 d4 A U i I with⟨rfl,rfl⟩|⟨rfl,rfl,rfl⟩|⟨rfl,rfl,rfl⟩|⟨rfl,rfl⟩|⟨rfl,rfl,rfl⟩|⟨rfl,rfl,rfl⟩|⟨rfl,rfl,rfl⟩|⟨rfl,rfl,rfl⟩
  ·exact GW.iz Y [0] (GW.to _ (H u ⟨true,d1,d2,d3,d4,A,U,rfl,fun _=>rfl,L,M,N,O,by simp at C⊢;omega,T⟩))
  ·exact GW.ld Y (oA 0 xe T.c4 rfl) (GW.to _ (H u ⟨true,true,d2,d3,d4,A,U,rfl,fun _=>rfl,fun _=>rfl,M,N,O,by simp at C⊢;omega,T⟩))
  ·exact GW.cat Y (.const (.string ⟨#[64]⟩)) (.tmp 15) (x:=⟨#[64]⟩) (y:=XN) (by show 1+XN.size<=_;omega) (GW.to _ (H u ⟨B,true,true,d3,d4,A,U,rfl,J,fun _=>rfl,M,N,O,by simp at C⊢;omega,T⟩))
  ·exact GW.iz Y [3] (GW.to _ (H u ⟨B,d1,d2,true,d4,A,U,rfl,J,L,fun _=>rfl,N,O,by simp at C⊢;omega,T⟩))
  ·exact GW.ld Y (oA 1 xe T.c4 rfl) (GW.to _ (H u ⟨B,d1,d2,true,true,A,U,rfl,J,L,fun _=>rfl,fun _=>rfl,O,by simp at C⊢;omega,T⟩))
  ·exact GW.iz Y [5] (GW.to _ (H u ⟨B,d1,d2,d3,true,true,U,rfl,J,L,M,fun _=>rfl,fun _=>rfl,by simp at C⊢;omega,T⟩))
  ·refine GW.call Y (ly.iG (R:=fun x v'=>x=.string (str (gL X.size))/\Kw u v') (by decide) fun S=>(x_ _ X.size rfl (tp u S) (by omega) (T.old.rj G d)).mono fun e w' h=>⟨_,h.1,rfl,fun a V=>h.2.block a V⟩) ?_;rintro x p ⟨rfl,j⟩;exact GW.to _ (H p ⟨B,d1,d2,d3,d4,true,true,rfl,J,L,M,N,fun _=>rfl,by simp at C⊢;omega,T.on j⟩)
  ·clear H;obtain rfl:=L rfl;obtain rfl:=J rfl;obtain rfl:=O rfl;obtain rfl:=N rfl;obtain rfl:=M rfl;obtain rfl:fuel=1:=by simp at C;omega
   refine GW.bs Y (x:=⟨#[64]⟩++XN) (y:=str (gL X.size)) fun u1 l c1=>?_;rw[show(#[true,true,true,true,true,true,true,false,false]:Array Bool).setIfInBounds 7 true=#[true,true,true,true,true,true,true,true,false]from rfl,C8 aiM];have E:=T.on l;have P:u1.ownsRow u.heap.size 9 1 (.slice (some ⟨u.heap.size,0,none⟩) 2 2) 2 [.string (⟨#[64]⟩++XN),.string (str (gL X.size))]:=⟨rfl,.inr ⟨u.heap.size,2,_,rfl,az _,c1,az _,by unfold ao;omega,rfl,rfl⟩⟩;have f:(mS [(⟨#[64]⟩:fb)++XN,str (gL X.size)]++[10]).length<=100000:=by
    rw[PG];have:=Ch XN X 0 [] W (by omega) (by simp) (by omega) 0 (by simp);simp only[kJ]at this;omega
   refine GW.call Y (ly.iG (R:=fun x v'=>ie b9 (uq XN X) v'/\∀g,g<b9->v'.heap[g]?=u1.heap[g]?) (by decide) fun S=>(FC b9 u.heap.size [] [(⟨#[64]⟩:fb)++XN,str (gL X.size)] (.slice (some ⟨u.heap.size,0,none⟩) 2 2) (tp u1 S) E.Bv P (by simp) (by simp) (by simp at f⊢;omega)).mono fun e w' h=>⟨_,h.1,by have:=h.2.1;rw[cZ,PG]at this;exact this,fun a V=>h.2.2.1.block a V⟩) ?_;rintro x u2 ⟨c,o⟩;exact GW.to _ (kk (.slice (some ⟨u.heap.size,0,none⟩) 2 2) x u2 (E.wrote c o))
 ·rintro fuel D u ⟨B,d1,d2,d3,d4,A,U,rfl,J,L,M,N,O,C,T⟩ Z;exfalso;rcases Z with rfl|Z
  ·have:=aN B;have:=aN d1;have:=aN d2;have:=aN d3;have:=aN d4;have:=aN A;have:=aN U;omega
  ·have h:=kT (kT (kT (kT (kT (kT (kT aiL B) d1) d2) d3) d4) A) U;rw[Z]at h;cases B<;>cases d1<;>cases d2<;>cases d3<;>cases d4<;>cases A<;>cases U<;>simp_all
end
section
variable{tb:Bool}{Q:QT}{R:ae->af->Prop}{v:af}{fn:aD}{a:Array ae}
theorem GW.aj2{F:Func}(Y:PR.funcs[fn]?=some F){d:Nat}(hr:F.results=#[.tmp d])(H:a.getD d ah=x)(h:∀T,R x (tp v T)):GW false Q R fn [.code .ret] a v:=
 GW.rest Y rfl fun T=>wp_ret (bO (bQ hr _ _ _) rfl ⟨_,rfl,by have:=h T;rw[<-H]at this;exact this⟩)
end
theorem afK:(PR.info? 102).map (·.zero)=some (some (.agg #[.pointer none,.slice none 0 0])):=by kernel_rfl
theorem aiN:Tryz.f60.body=some rK:=by kernel_rfl
section
variable{Q:QT}{v:af}{XN X:fb}{k q st n cap:Nat}{a:Option Addr}{RL:List lE}
theorem ag_(hX:X.size<=200)(D:XN.size<=1000)(hk:k<=6)(m:1<=q)(B:q<=8)(hs:1<=st)(C:st<=200)(W:1<=n)(U:n<=8)(G:∀r∈RL,(r.1.size<=10/\r.2.1.size<=30/\r.2.2.size<=30)/\k<r.2.1.size)(A:RL.length<=5)(H:lJ v)(M:iK v)(rows:v.ownsRow 0 131 3 (.slice a RL.length cap) RL.length (jY RL)):
  ly Q 60 #[o_ XN X,.slice a RL.length cap,jF k q st,iv n] v fun x v'=>x=.string (str (kJ XN X k RL RL.length))/\Kw v v':=by
 have Y:∃F,PR.funcs[60]?=some F:=⟨_,bB⟩;refine ly.of (n:=49) bB aiN (by kernel_rfl) ?_;refine GW.run 2 (k':=[.inRegion (opsOf (cp [1] rK)) [0,1,2],.code (cp [2] rK)]) ?_;refine GW.bx Y (t:=68) (y:=o_ XN X) fun v1 Z l1 c4=>?_;refine GW.bx Y (t:=75) (y:=jF k q st) fun v2 O l2 c6=>?_;refine GW.iz Y [2] ?_;refine GW.run 3 (k':=[.inRegion (opsOf (cp [2,1] rK)) [0],.code (cp [2,2] rK)]) ?_;refine GW.al Y afK fun v3 P L c _=>?_;have V:ie v2.heap.size [] v3:=by rw[P];exact ie.new v2
 have I:TV v XN X k q st v.heap.size v1.heap.size v2.heap.size [] v3:=⟨L.at (O.at c4),L.at c6,V,(Z.trans O).trans L,by omega,by omega,by omega⟩;refine GW.run 2 (k':=[.code (.region 2 tH true),.code (cp [2,2,2] rK)]) ?_;refine GW.to (Fo XN X k q st n v.heap.size v1.heap.size v2.heap.size (.slice a RL.length cap) false false false false false false false) ?_;generalize v.heap.size=b4 at I⊢;generalize v1.heap.size=b6 at I⊢;generalize v2.heap.size=b9 at I⊢;refine ab1 hX D H M I fun z x v4 J=>?_;refine GW.run 4 (k':=[.inRegion (opsOf (cp [2,2,2,1,1] rK)) [0,1,2],.code (cp [2,2,2,1,2] rK),.code tE]) ?_;refine GW.iz Y [0,1,2] ?_;refine GW.run 3 (k':=.code tB::kB) ?_;refine GW.any (fun u=>sj XN X k q st n b4 b6 b9 (.slice a RL.length cap) RL.length (iv 0) (u 33) (u 34) (u 35) u) (by kernel_rfl) fun u=>?_;refine adS hX D hk m B hs C W U G A H M rows (fun y z j u v5 K=>?_) RL.length 0 (by omega) _ _ _ u v4 J;refine GW.run 2 (k':=[.inRegion (opsOf (cp [1] tE)) [0,1],.code .ret]) ?_;refine GW.call Y (ly.iG (R:=fun x v'=>x=.string (str (kJ XN X k RL RL.length))/\∀g,g<b9->v'.heap[g]?=v5.heap[g]?) (by decide) fun T=>(xR b9 _ (tp v5 T) K.Bv).mono fun e w' h=>⟨_,h.1,rfl,fun a S=>h.2.block a S⟩) ?_;rintro x v6 ⟨rfl,E⟩;refine GW.iz Y [1] ?_;refine GW.run 1 (k':=[.code .ret]) ?_;exact GW.aj2 (d:=8) bB (by kernel_rfl) (x:=.string (str (kJ XN X k RL RL.length))) (by kernel_rfl) fun T=>⟨rfl,fun g N=>(E g (aK N K.l0)).trans (K.old g N)⟩
end
section
variable{tb:Bool}{Q:QT}{R:ae->af->Prop}{v:af}{fn:aD}{k:List Item}{a:Array ae}{ops:Array Oper}{i:Nat}{is:List Nat}
theorem GW.D8(H:∃F,PR.funcs[fn]?=some F){t:ax}(M:(PR.info? t).map (·.size)=some 2){B:Nat}(Y:v.heap[B]?=some (.cells #[z0,z1] t'))
  (g:∀v1,v1.heap[B]?=some (.cells #[x,y] t')->(∀b,b≠B->v1.heap[b]?=v.heap[b]?)->v1.heap.size=v.heap.size->GW tb Q R fn (.inRegion ops is::k) (mc (nL ops i) ah a) v1)(h:qb ops i a=some (D5 (cT t (ptr B) (.agg #[x,y]))):=by kernel_rfl)(A:x.oneCell'=true:=by rfl)(U:y.oneCell'=true:=by rfl):GW tb Q R fn (.inRegion ops (i::is)::k) a v:=by
 have⟨N,D,I⟩:=Ae M;have r0:=lI (i:=0) (v:=x) Y;have C:v.cell? ⟨B,0,none⟩=some z0:=by simp[ak,Y]
 have f0:v.frozen? ⟨B,0,none⟩=false:=by simp[aQ,Y]
 have J:(v.setCell ⟨B,0,none⟩ x).cell? ⟨B,1,none⟩=some z1:=by simp[ak,r0]
 have f1:(v.setCell ⟨B,0,none⟩ x).frozen? ⟨B,1,none⟩=false:=by simp[aQ,r0]
 have K:=ajZ (a:=x) (b:=y) v Y;refine GW.sk (v1:=D4 B x y v) H h ?_ rfl (g _ K.2 (fun b L=>K.1.heap b L) K.1.size);simp[go_sem,cI,cH,bq,bg,D,I,cA,bR PR _ _ x _ A,bR PR _ _ y _ U,C,f0,J,f1,ptr,Addr.add,D4]
theorem GW.Ax(Y:∃F,PR.funcs[fn]?=some F)(x y z:Nat)(h:∀t c cs,gu PR 2 ((bf fn).at ⟨t,[]⟩ (.code .ret::k)) (c::cs)=(c.finish (.tuple #[t.getD x ah,t.getD y ah,t.getD z ah]),cs))(hr:R (.tuple #[a.getD x ah,a.getD y ah,a.getD z ah]) v):GW false Q R fn (.code .ret::k) a v:=by
 intro r Z w t l H D K A;obtain⟨c,cs,rfl⟩:=zT H;refine gd.pure 2 fun w' hk=>?_;rw[h];have ev:∀n:Nat,@V gv r (a.getD n ah) (t.getD n ah):=fun n=>zU Y D K.gi (x:=.tmp n) trivial;refine A r Z _ _ v w' (fun _ _ e=>e) ?_ (K.quiet hk) (.qt hk) hr
 letI:=gv
 refine .tuple rfl fun i p p' e e'=>?_;have I:i<3:=by
  have:=(bD.1 e).1;simpa using this
 have:i=0\/i=1\/i=2:=by omega
 rcases this with rfl|rfl|rfl<;>cases e<;>cases e'<;>exact ev _
end
noncomputable def kN:Code:=b_.body.getD .skip
abbrev i6(n:Int):Value:=.int .i64 n
def tL(ref reads:fb)(k q st wk:Int)(zg:Nat)(V:ae)(tM:Nat)(rL:ae)(u:Nat->ae):Array Value:=
 #[.string ref,.string reads,i6 k,i6 q,i6 st,i6 wk,u 6,u 7,u 8,u 9,u 10,u 11,.string ⟨#[]⟩,i6 0,i6 0,ptr zg,V,ptr tM,rL,u 19,u 20,u 21,u 22,u 23,u 24,u 25,u 26,u 27,u 28,u 29,u 30,u 31,u 32,u 33,u 34,u 35,u 36,u 37,u 38,u 39,u 40,u 41,u 42,u 43,u 44,u 45,u 46,u 47,u 48,u 49,u 50,u 51,u 52,u 53,u 54,u 55,u 56,u 57,u 58]
section
variable{v:af}{ref reads:fb}{k q st wk E Pl:Int}{V rL:ae}{zg tM I:Nat}{u:Nat->ae}
theorem aiO(h:w.heap[tM]?=some (.cells #[i6 E,i6 Pl] 70)):(cp [2,2,1,2,1,1] kN).wp PR (fun e a' v'=>e=.normal/\a'.defers=[]/\(a'.tmps.getD 12 ah=.string ⟨#[]⟩/\a'.tmps.getD 13 ah=i6 E/\a'.tmps.getD 14 ah=i6 Pl)/\v'.heap=w.heap) ⟨tL ref reads k q st wk zg V tM rL u,[]⟩ w:=by
 have c0:w.cell? ⟨tM,0,none⟩=some (i6 E):=by simp[ak,h]
 have c1:w.cell? ⟨tM,1,none⟩=some (i6 Pl):=by simp[ak,h]
 obtain⟨Q,Y⟩:∃Q:Exit->Act->af->Prop,Q=(fun e a' v'=>e=.normal/\a'.defers=[]/\(a'.tmps.getD 12 ah=.string ⟨#[]⟩/\a'.tmps.getD 13 ah=i6 E/\a'.tmps.getD 14 ah=i6 Pl)/\v'.heap=w.heap):=⟨_,rfl⟩;rw[<-Y];have K:=laid Y;unfold kN b_ tL;simp only[ptr]
 go_quiet(fail)
 rw[K.out];exact⟨rfl,rfl,⟨rfl,rfl,rfl⟩,rfl⟩
theorem aiP{L:List lE}{B:Nat}(h:w.heap[I]?=some (.cells #[i6 k,i6 q,i6 st] 75))(D:w.ownsRow B 131 3 V L.length (jY L))(T:L.length<=1000)(G:∀r∈L,r.2.1.size<=1000):(cp [2,2,2,2,1,1] kN).wp PR (fun e a' v'=>e=.normal/\a'.defers=[]/\(a'.tmps=tL ref reads k q st wk zg V tM (ptr I) (fun n=>a'.tmps.getD n ah)/\a'.tmps.getD 53 ah=.bool (!nh k q st||!oN k L||decide (wk<1)||decide (8<wk)))/\∀g,g<w.heap.size->v'.heap[g]?=w.heap[g]?) ⟨tL ref reads k q st wk zg V tM (ptr I) u,[]⟩ w:=by
 have H:=laid h;have N:=laid D;have O:=laid G;have c0:w.cell? ⟨I,0,none⟩=some (i6 k):=by simp[ak,h]
 have c1:w.cell? ⟨I,1,none⟩=some (i6 q):=by simp[ak,h]
 have c2:w.cell? ⟨I,2,none⟩=some (i6 st):=by simp[ak,h]
 obtain⟨Q,F⟩:∃Q:Exit->Act->af->Prop,Q=(fun e a' v'=>e=.normal/\a'.defers=[]/\(a'.tmps=tL ref reads k q st wk zg V tM (ptr I) (fun n=>a'.tmps.getD n ah)/\a'.tmps.getD 53 ah=.bool (!nh k q st||!oN k L||decide (wk<1)||decide (8<wk)))/\∀g,g<w.heap.size->v'.heap[g]?=w.heap[g]?):=⟨_,rfl⟩;rw[<-F];have R:=laid F;clear F;unfold kN b_ tL;simp only[bk,cp];simp only[ptr];go_wp2_with fail
 refine(GY k q st _).mono ?_;rintro e w1 ⟨rfl,Y⟩;cases M:nh k q st
 ·go_wp2
  rw[R.out];exact⟨rfl,rfl,⟨by kernel_rfl,by rw[M];rfl⟩,fun g K=>Y.block g K⟩
 ·have A:=(Y.block I (j0 H.out)).trans H.out;have S:w1.cell? ⟨I,0,none⟩=some (i6 k):=by simp[ak,A]
  have d1:w1.cell? ⟨I,1,none⟩=some (i6 q):=by simp[ak,A]
  have d2:w1.cell? ⟨I,2,none⟩=some (i6 st):=by simp[ak,A]
  clear A;have C:=laid (C9 N.out fun g K=>Y.block g K);go_wp2_with fail
  refine(WH k q st L V B w1 C.out T O.out).mono ?_;rintro e w2 ⟨rfl,J⟩;have U:=laid fun g K=>(J.block g (aK K Y.size)).trans (Y.block g K);cases P:oN k L
  ·go_wp2
   rw[R.out];exact⟨rfl,rfl,⟨by kernel_rfl,by rw[M,P];rfl⟩,U.out⟩
  ·by_cases hw:wk<1
   ·go_wp2
    rw[R.out];exact⟨rfl,rfl,⟨by kernel_rfl,by simp_all⟩,U.out⟩
   ·go_wp2
    rw[R.out];exact⟨rfl,rfl,⟨by kernel_rfl,by simp_all⟩,U.out⟩
end
theorem aha:(PR.info? 68).map (·.zero)=some (some (.agg #[.string ⟨#[]⟩,.string ⟨#[]⟩])):=by kernel_rfl
theorem ahb:(PR.info? 70).map (·.zero)=some (some (.agg #[i6 0,i6 0])):=by kernel_rfl
theorem ahc:(PR.info? 75).map (·.zero)=some (some (.agg #[i6 0,i6 0,i6 0])):=by kernel_rfl
theorem ahd:(PR.info? 68).map (·.size)=some 2:=by kernel_rfl
theorem ahe:(PR.info? 70).map (·.size)=some 2:=by kernel_rfl
theorem ahf:(PR.info? 75).map (·.size)=some 3:=by kernel_rfl
theorem Rz{reads:fb}(h:kz ref reads=0):nk ref=qY ref:=by
 have Y:=(IX h).2.2.1;unfold je at Y;have⟨K,_⟩:=su Y;exact(af3 ref K).symm
theorem OL{reads:fb}{k q st wk:Int}(h:kz ref reads≠0):lV ref reads k q st wk=kz ref reads:=by unfold lV;rw[if_pos h]
theorem HH{reads:fb}{k q st wk:Int}(h:kz ref reads=0)(Y:kS k 30 q st=false\/wk<1\/8<wk):lV ref reads k q st wk=4:=by unfold lV;rw[if_neg (by rw[h];simp),if_pos Y]
theorem adT{reads:fb}{k q st wk:Int}(h:kz ref reads=0)(Y:fewer (iF reads 5 0) k=false):lV ref reads k q st wk=4:=by
 unfold lV;rw[if_neg (by rw[h];simp)];split
 ·rfl
 ·first
   |rfl
   |rw[if_pos Y]
theorem afL{reads:fb}{k q st wk:Int}(h:kz ref reads=0)(Y:¬(kS k 30 q st=false\/wk<1\/8<wk))(H:fewer (iF reads 5 0) k=true):lV ref reads k q st wk=0:=by
 unfold lV;rw[if_neg (by rw[h];simp),if_neg Y,if_neg (by rw[H];simp)]
theorem QL{reads:fb}{k q st wk:Int}(h:lV ref reads k q st wk≠0):oy ref reads k q st wk=⟨#[]⟩:=by unfold oy;rw[if_neg h]
theorem afM{B:Nat}{z:Nat}{v:ae}(h:w.ownsRow B e z v n xs):w.ownsRow 0 e z v n xs:=by
 refine⟨h.1,?_⟩;rcases h.2 with h'|⟨g,cap,Y,K,D,H⟩
 ·exact .inl h'
 ·exact .inr ⟨g,cap,Y,K,bA _,H⟩
theorem aiQ:b_.body=some kN:=by kernel_rfl
theorem aiR:ko PR (bC 35)=some false:=by kernel_rfl
section
variable{Q:QT}{v:af}{ref reads:fb}{k q st wk:Int}
theorem aiS(h1:ref.size<=ao)(h2:reads.size<=ao)(m:lJ v)(hT:iK v):
  ly Q 39 #[.string ref,.string reads,i6 k,i6 q,i6 st,i6 wk] v fun x v'=>x=.tuple #[.string (oy ref reads k q st wk),i6 (lV ref reads k q st wk),i6 (rA ref reads)]/\Kw v v':=by
 have Y:∃F,PR.funcs[39]?=some F:=⟨_,Tryz.func39⟩;obtain⟨L,A⟩:∃L,L=iF reads 5 0:=⟨_,rfl⟩;obtain⟨E,d⟩:∃E,E=kz ref reads:=⟨_,rfl⟩;obtain⟨Pl,o⟩:∃Pl,Pl=oq ref reads:=⟨_,rfl⟩;refine ly.of (n:=59) Tryz.func39 aiQ (by kernel_rfl) ?_;refine GW.run 2 (k':=[.inRegion (opsOf (cp [1] kN)) [0,1,2],.code (cp [2] kN)]) ?_;refine GW.iz Y [0,1,2] ?_;refine GW.run 3 (k':=[.inRegion (opsOf (cp [2,1] kN)) [0,1,2,3,4,5,6,7,8,9,10,11],.code (cp [2,2] kN)]) ?_;refine GW.iz Y [0,1] ?_;refine GW.call Y (ly.iG (R:=fun x v'=>∃a b V,x=.tuple #[.agg #[.string a,.string b],V,.agg #[i6 E,i6 Pl]]/\Kw v v'/\(E=0->a=nk ref/\b=str (iU ref).2/\v'.ownsRow v.heap.size 131 3 V L.length (jY L))) (by decide) fun T=>(M9 ref reads (tp v T) h1 h2).mono fun e v' ⟨a,b,V,e1,e2,G,e4⟩=>⟨_,by rw[e1,<-d,<-o],a,b,V,rfl,fun g O=>G.block g O,by rw[d,A];exact e4⟩) ?_;rintro x v1 ⟨a,b,V,rfl,k1,yY⟩;refine GW.iz Y [3,4,5,6] ?_;refine GW.al Y aha fun v2 e2 k2 l2 H=>?_;refine GW.al Y ahb fun v3 G k3 l3 U=>?_;refine GW.D8 Y ahd (x:=.string a) (y:=.string b) (k3.at H) fun v4 H o4 s4=>?_;refine GW.iz Y [10] ?_;refine GW.D8 Y ahe (x:=i6 E) (y:=i6 Pl) ((o4 _ (by omega)).trans U) fun v5 U o5 s5=>?_;have H:=(o5 v1.heap.size (by omega)).trans H;have K5:Kw v1 v5:=fun g O=>by
  have:=k2.size;rw[o5 g (by omega),o4 g (by omega),k3 g (by omega),k2 g O]
 have n17:v1.heap.size<=v2.heap.size:=k2.size;have s45:v3.heap.size=v5.heap.size:=by omega
 have l17:v2.heap.size<v5.heap.size:=by omega
 clear o4 o5 e2 G;have K05:=k1.trans K5;refine GW.run 4 (k':=[.inRegion (opsOf (cp [2,2,1,1] kN)) [0,1,2],.code (cp [2,2,1,2] kN),.code (cp [2,2,2] kN)]) ?_;refine GW.iz Y [0] ?_;refine GW.ld Y (oA 0 aiR U rfl) ?_;refine GW.iz Y [2] ?_;refine GW.run 1 (k':=[.code (.cond (.tmp 28) (cp [2,2,1,2,1] kN) .skip),.code (cp [2,2,2] kN)]) ?_;refine GW.cond Y (t:=!(decide (E=0))) trivial (by kernel_rfl) ?_;refine GW.any (fun u=>tL ref reads k q st wk v1.heap.size V v2.heap.size (u 18) u) (by kernel_rfl) fun u=>?_;generalize v2.heap.size=X at *;generalize v1.heap.size=S at *;by_cases D:E=0
 ·rw[decide_eq_true D];have⟨ea,eb,J⟩:=yY D;have K:kz ref reads=0:=by rw[<-d];exact D
  have l:rA ref reads=0:=by unfold rA;rw[if_neg (by rw[K];simp)]
  have LS:L.length<=5:=by rw[A];exact BD reads 5 0
  have f:∀r∈L,r.1.size<=10/\r.2.1.size<=30/\r.2.2.size<=30:=by rw[A];exact BA reads 5 0
  have s:oN k L=fewer (iF reads 5 0) k:=by rw[A];rfl
  refine GW.run 3 (k':=[.inRegion (opsOf (cp [2,2,2,1] kN)) [0,1,2,3,4,5],.code (cp [2,2,2,2] kN)]) ?_;refine GW.iz Y [0,1,2,3] ?_;refine GW.al Y ahc fun v6 e6 k6 l6 B=>?_;refine GW.Wh Y ahf (x:=i6 k) (y:=i6 q) (z:=i6 st) B fun v7 B o7 s7=>?_;have K7:Kw v5 v7:=fun g O=>(o7 g (by omega)).trans (k6 g O);have H:=K7.at H;have N:=K5.trans K7;have P:=k1.trans N;refine GW.run 3 (k':=[.code (cp [2,2,2,2,1,1] kN),.code (cp [2,2,2,2,1,2] kN),.code (cp [2,2,2,2,2] kN)]) ?_;refine GW.any (fun u=>tL ref reads k q st wk S V X (ptr v5.heap.size) u) (by kernel_rfl) fun u=>?_;generalize v5.heap.size=I at *;refine GW.piece Y (by kernel_rfl) (R1:=fun a' v'=>(a'=tL ref reads k q st wk S V X (ptr I) (fun n=>a'.getD n ah)/\a'.getD 53 ah=.bool (!nh k q st||!oN k L||decide (wk<1)||decide (8<wk)))/\Kw v7 v') rfl (fun T=>aiP (w:=tp v7 T) B (C9 J N) (by omega) fun r hr=>by have:=f r hr;omega) ?_;rintro a' v8 ⟨⟨j,W⟩,k8⟩;refine GW.run 0 (k':=[.code (.cond (.tmp 53) (cp [2,2,2,2,1,2,1] kN) .skip),.code (cp [2,2,2,2,2] kN)]) ?_;refine GW.cond Y trivial W ?_;refine GW.to _ ?_ j;generalize(fun n=>a'.getD n ah)=u';clear j W;cases hb:(!nh k q st||!oN k L||decide (wk<1)||decide (8<wk))with
  |true=>
   have h4:lV ref reads k q st wk=4:=by
    simp only[Bool.or_eq_true,Bool.not_eq_true',decide_eq_true_eq]at hb;rcases hb with((h|h)|h)|h
    ·exact HH K (.inl (by rw[GX,h];rfl))
    ·exact adT K (by rw[<-s];exact h)
    ·exact HH K (.inr (.inl h))
    ·exact HH K (.inr (.inr h))
   refine GW.run 2 (k':=[.inRegion (opsOf (cp [2,2,2,2,1,2,1,1] kN)) [0,1,2],.code .ret,.code (cp [2,2,2,2,2] kN)]) ?_;refine GW.iz Y [0,1,2] ?_;refine GW.run 1 (k':=[.code .ret,.code (cp [2,2,2,2,2] kN)]) ?_;refine GW.Ax Y 12 13 14 (fun t c cs=>by kernel_rfl) ⟨?_,P.trans k8⟩;rw[QL (by rw[h4];decide),h4,l];kernel_rfl
  |false=>
   simp only[Bool.or_eq_false_iff,Bool.not_eq_false',decide_eq_false_iff_not]at hb;obtain⟨⟨⟨C,Ee⟩,vi⟩,Lv⟩:=hb;have hm:=of_decide_eq_true C;obtain⟨kn,rfl⟩:∃n:Nat,k=(n:Int):=⟨k.toNat,by omega⟩;obtain⟨qn,rfl⟩:∃n:Nat,q=(n:Int):=⟨q.toNat,by omega⟩;obtain⟨sn,rfl⟩:∃n:Nat,st=(n:Int):=⟨st.toNat,by omega⟩;obtain⟨wn,rfl⟩:∃n:Nat,wk=(n:Int):=⟨wk.toNat,by omega⟩;have tJ:=afM (C9 J (N.trans k8));obtain⟨Wi,Z,rfl⟩:∃Wi Z,V=.slice Wi L.length Z:=by
    rcases tJ.2 with⟨hy,h0⟩|⟨g',DV,cur,hv,_⟩
    ·exact⟨none,0,by rw[h0];exact hy⟩
    ·exact⟨_,_,hv⟩
   have Bq:b.size<=200:=by rw[eb,h_];exact B2 ref
   have Fc:a.size<=1000:=by rw[ea,Rz K];have:=GU ref (gW ref 62 0);show(rk ref (gW ref 62 0)).size<=1000;omega
   have p:∀r∈L,(r.1.size<=10/\r.2.1.size<=30/\r.2.2.size<=30)/\kn<r.2.1.size:=fun r hr=>⟨f r hr,by
    have:=of_decide_eq_true (br.1 Ee r hr);omega⟩
   have i:lV ref reads kn qn sn wn=0:=afL K (by
    rintro(h|h|h)
    ·rw[GX,C]at h;have:decide ((kn:Int)<30)=true:=decide_eq_true (by omega);rw[this]at h;cases h
    ·omega
    ·omega) (by rw[<-s];exact Ee)
   have hS:oy ref reads kn qn sn wn=str (kJ a b kn L L.length):=by
    unfold oy yn;rw[if_pos i,ea,eb,Rz K,A];rfl
   refine GW.run 3 (k':=[.inRegion (opsOf (cp [2,2,2,2,2,1] kN)) [0,1,2,3,4,5,6,7],.code .ret]) ?_;refine GW.ld Y (Dx (k8.at H)) ?_;refine GW.iz Y [1] ?_;refine GW.ld Y (An (k8.at B)) ?_;refine GW.iz Y [3] ?_;have M:=P.trans k8;refine GW.call Y (ag_ (q:=qn) (st:=sn) (n:=wn) Bq Fc (by omega) (by omega) (by omega) (by omega) (by omega) (by omega) (by omega) p LS (M.tabs m) (M.rj m hT) tJ) ?_;rintro x v9 ⟨rfl,k9⟩;refine GW.iz Y [5,6,7] ?_;refine GW.run 1 (k':=[.code .ret]) ?_;refine GW.Ax Y 12 13 14 (fun t c cs=>by kernel_rfl) ⟨?_,M.trans k9⟩;rw[hS,i,l];kernel_rfl
 ·rw[decide_eq_false D];refine GW.run 1 (k':=[.code (cp [2,2,1,2,1,1] kN),.code .ret,.code (cp [2,2,2] kN)]) ?_;refine GW.piece Y (by kernel_rfl) (R1:=fun a' v'=>(a'.getD 12 ah=.string ⟨#[]⟩/\a'.getD 13 ah=i6 E/\a'.getD 14 ah=i6 Pl)/\v'.heap=v5.heap) rfl (fun T=>aiO (w:=tp v5 T) U) ?_;rintro a' v' ⟨⟨e1,e2,G⟩,hh⟩;refine GW.Ax Y 12 13 14 (fun t c cs=>by kernel_rfl) ?_;have K:kz ref reads≠0:=by rw[<-d];exact D
  rw[e1,e2,G,QL (by rw[OL K];exact K),OL K,show rA ref reads=oq ref reads by unfold rA;rw[if_pos K],<-d,<-o];exact⟨rfl,fun g O=>by rw[hh];exact K05 g O⟩
end
noncomputable def nt:Code:=aZ.body.getD .skip
def pC:Code:=cp [2,1,2,1] nt
def nx:Code:=cp [2,2] pC
def oI:Code:=cp [2,2] nx
def vv:Code:=cp [2,2] oI
def tN:Code:=cp [2,1] vv
def mH:List Item:=[.inBlock 0,.code (cp [2,2] nt)]
def oJ(b:Nat)(I tO tP rL xB xC:ae)(u:Nat->ae):Array Value:=
 #[u 0,ptr b,u 2,u 3,u 4,u 5,u 6,u 7,u 8,u 9,u 10,u 11,u 12,u 13,u 14,I,tO,tP,rL,xB,xC,u 21,u 22,u 23,u 24,u 25,u 26,u 27,u 28,u 29,u 30,u 31,u 32,u 33,u 34,u 35,u 36,u 37,u 38,u 39,u 40,u 41,u 42,u 43,u 44,u 45,u 46,u 47,u 48,u 49,u 50,u 51,u 52,u 53,u 54,u 55,u 56,u 57,u 58,u 59,u 60,u 61,u 62,u 63,u 64,u 65,u 66,u 67,u 68,u 69,u 70,u 71,u 72,u 73,u 74,u 75,u 76,u 77,u 78,u 79,u 80,u 81,u 82,u 83,u 84,u 85,u 86,u 87,u 88,u 89,u 90,u 91,u 92,u 93,u 94,u 95,u 96,u 97,u 98,u 99,u 100,u 101,u 102,u 103,u 104,u 105,u 106,u 107,u 108,u 109,u 110,u 111,u 112,u 113,u 114,u 115,u 116,u 117,u 118,u 119,u 120,u 121,u 122,u 123,u 124,u 125,u 126,u 127,u 128,u 129,u 130,u 131,u 132,u 133,u 134,u 135,u 136,u 137,u 138,u 139,u 140,u 141,u 142,u 143,u 144,u 145,u 146,u 147,u 148,u 149,u 150,u 151,u 152,u 153,u 154,u 155,u 156,u 157,u 158,u 159,u 160,u 161]
abbrev Mk(k q st wk:Int)(ref s:fb):jZ:=⟨4,k,q,st,wk,ref,s⟩
section
variable{b:Nat}{k q st wk E Pl:Int}{ref s S:fb}{I tO tP rL xB xC:ae}{u:Nat->ae}
theorem ahg(h:oW w b 0 (Mk k q st wk ref s))(A:ref.size<=ao)(U:s.size<=ao):(cp [2,1] tN).wp PR (fun e a' v'=>e=.normal/\a'.defers=[]/\(a'.tmps=oJ b I tO tP (.string (oy ref s k q st wk)) (i6 (lV ref s k q st wk)) (i6 (rA ref s)) fun n=>a'.tmps.getD n ah)/\∀g,g<w.heap.size->v'.heap[g]?=w.heap[g]?) ⟨oJ b I tO tP rL xB xC u,[]⟩ w:=by
 have⟨c0,c1,c2,J,c4,L,c6⟩:=h;obtain⟨S,H⟩:∃S,S=oy ref s k q st wk:=⟨_,rfl⟩;obtain⟨E,K⟩:∃E,E=lV ref s k q st wk:=⟨_,rfl⟩;obtain⟨Pl,Y⟩:∃Pl,Pl=rA ref s:=⟨_,rfl⟩;have R:=laid fun w=>Z4 ref s k q st wk w A U;rw[<-H,<-K,<-Y];simp only[<-H,<-K,<-Y]at R;clear H K Y A U c0;obtain⟨Q,B⟩:∃Q:Exit->Act->af->Prop,Q=(fun e a' v'=>e=.normal/\a'.defers=[]/\(a'.tmps=oJ b I tO tP (.string S) (i6 E) (i6 Pl) fun n=>a'.tmps.getD n ah)/\∀g,g<w.heap.size->v'.heap[g]?=w.heap[g]?):=⟨_,rfl⟩;rw[<-B];have C:=laid B;unfold tN vv oI nx pC nt aZ oJ;simp only[bk,cp];simp only[ptr];go_wp2_with fail
 refine(R.out _).mono ?_;rintro e w1 ⟨rfl,D⟩;go_wp2
 rw[C.out];exact⟨rfl,rfl,by kernel_rfl,fun g F=>D.block g F⟩
theorem ahh:(cp [2,2,1] tN).wp PR (fun e a' v'=>e=.normal/\a'.defers=[]/\a'.tmps.getD 2 ah=.bool true/\∀g,g<w.heap.size->v'.heap[g]?=w.heap[g]?) ⟨oJ b (.string S) (i6 E) (i6 Pl) (.string S) (i6 E) (i6 Pl) u,[]⟩ w:=by
 obtain⟨Q,Y⟩:∃Q:Exit->Act->af->Prop,Q=(fun e a' v'=>e=.normal/\a'.defers=[]/\a'.tmps.getD 2 ah=.bool true/\∀g,g<w.heap.size->v'.heap[g]?=w.heap[g]?):=⟨_,rfl⟩;rw[<-Y];have K:=laid Y;unfold tN vv oI nx pC nt aZ oJ;simp only[bk,cp];go_wp2_with fail
 refine(CC E _).mono ?_;rintro e w1 ⟨rfl,rfl⟩;go_wp2
 rw[K.out];exact⟨rfl,rfl,by kernel_rfl,fun g H=>rfl⟩
end
theorem S3:aZ.body=some nt:=by kernel_rfl
theorem S4:ko PR (bC 9)=some false:=by kernel_rfl
section
variable{tb:Bool}{Q:QT}{R:ae->af->Prop}{v:af}{fn:aD}{k:List Item}{a:Array ae}
theorem GW.rtk(Y:∃F,PR.funcs[fn]?=some F)(d:Nat)(h:∀t c cs,gu PR 2 ((bf fn).at ⟨t,[]⟩ (.code .ret::k)) (c::cs)=(c.finish (t.getD d ah),cs))(hr:R (a.getD d ah) v):GW false Q R fn (.code .ret::k) a v:=by
 intro r Z w t l H D K I;obtain⟨c,cs,rfl⟩:=zT H;refine gd.pure 2 fun w' hk=>?_;rw[h];exact I r Z _ _ v w' (fun _ _ e=>e) (zU Y D K.gi (x:=.tmp d) trivial) (K.quiet hk) (.qt hk) hr
end
theorem C_{B:Nat}{o:jZ}{t:ax}(h:w.heap[B]?=some (.cells #[i6 o.kind,i6 o.k,i6 o.q,i6 o.step,i6 o.workers,.string o.ref,.string o.s] t)):oW w B 0 o:=by
 simp[oW,ak,h]
section
variable{Q:QT}{v:af}{k q st wk:Int}{ref s:fb}
theorem afN(D:ref.size<=ao)(A:s.size<=ao)(H:lJ v)(B:iK v):ly Q 38 #[(Mk k q st wk ref s).val] v fun x v'=>x=.bool true/\Kw v v':=by
 have Y:∃F,PR.funcs[38]?=some F:=⟨_,bm⟩;refine ly.of (n:=162) bm S3 (by kernel_rfl) ?_;refine GW.run 2 (k':=[.inRegion (opsOf (cp [1] nt)) [0,1],.code (cp [2] nt)]) ?_;refine GW.bx Y (t:=59) (y:=(Mk k q st wk ref s).val) fun v1 K l1 c1=>?_;refine GW.iz Y [1] ?_;refine GW.run 4 (k':=[.inRegion (opsOf (cp [2,1,1] nt)) [0,1],.code (cp [2,1,2] nt),.code (cp [2,2] nt)]) ?_;refine GW.iz Y [0] ?_;refine GW.ld Y (oA 0 tq c1 rfl) ?_;refine GW.run 4 (k':=.inRegion (opsOf (cp [1] pC)) [0,1]:: .code (cp [2] pC)::mH) ?_;refine GW.iz Y [0,1] ?_;refine GW.run 1 (k':=.code (.cond (.tmp 23) (cp [2,1] pC) nx)::mH) ?_;refine GW.cond Y (t:=false) trivial (by kernel_rfl) ?_;refine GW.run 2 (k':=.inRegion (opsOf (cp [1] nx)) [0,1]:: .code (cp [2] nx)::mH) ?_;refine GW.iz Y [0,1] ?_;refine GW.run 1 (k':=.code (.cond (.tmp 50) (cp [2,1] nx) oI)::mH) ?_;refine GW.cond Y (t:=false) trivial (by kernel_rfl) ?_;refine GW.run 2 (k':=.inRegion (opsOf (cp [1] oI)) [0,1]:: .code (cp [2] oI)::mH) ?_;refine GW.iz Y [0,1] ?_;refine GW.run 1 (k':=.code (.cond (.tmp 73) (cp [2,1] oI) vv)::mH) ?_;refine GW.cond Y (t:=false) trivial (by kernel_rfl) ?_;refine GW.run 2 (k':=.inRegion (opsOf (cp [1] vv)) [0,1]:: .code (cp [2] vv)::mH) ?_;refine GW.iz Y [0,1] ?_;refine GW.run 1 (k':=.code (.cond (.tmp 112) (cp [2,1] vv) .skip)::mH) ?_;refine GW.cond Y (t:=true) trivial (by kernel_rfl) ?_;refine GW.run 2 (k':=.inRegion (opsOf (cp [1] tN)) [0,1,2,3,4,5,6,7,8,9,10,11,12,13,14,15,16,17,18,19]:: .code (cp [2] tN)::mH) ?_;refine GW.iz Y [0] ?_;refine GW.ld Y (oA 5 S4 c1 rfl) ?_;refine GW.iz Y [2] ?_;refine GW.ld Y (oA 6 S4 c1 rfl) ?_;refine GW.iz Y [4] ?_;refine GW.ld Y (oA 1 tq c1 rfl) ?_;refine GW.iz Y [6] ?_;refine GW.ld Y (oA 2 tq c1 rfl) ?_;refine GW.iz Y [8] ?_;refine GW.ld Y (oA 3 tq c1 rfl) ?_;refine GW.iz Y [10] ?_;refine GW.ld Y (oA 4 tq c1 rfl) ?_;refine GW.call Y (aiS (k:=k) (q:=q) (st:=st) (wk:=wk) D A (K.tabs H) (K.rj H B)) ?_;rintro x v2 ⟨rfl,R⟩;refine GW.iz Y [13,14,15,16,17,18,19] ?_;refine GW.run 2 (k':=.code (cp [2,1] tN):: .code (cp [2,2] tN)::mH) ?_;refine GW.any (fun u=>oJ v.heap.size (.string (oy ref s k q st wk)) (i6 (lV ref s k q st wk)) (i6 (rA ref s)) (u 18) (u 19) (u 20) u) (by kernel_rfl) fun u=>?_;refine GW.piece Y (by kernel_rfl) (R1:=fun a' v'=>(a'=oJ _ _ _ _ _ _ _ fun n=>a'.getD n _)/\Kw v2 v') rfl (fun T=>ahg (w:=tp v2 T) (C_ (R.at c1)) D A) ?_;rintro a' v3 ⟨I,C⟩;refine GW.run 1 (k':=.code (cp [2,2,1] tN):: .code .ret::mH) ?_;refine GW.to _ ?_ I;refine GW.piece Y (by kernel_rfl) (R1:=fun a' v'=>a'.getD 2 _=.bool true/\Kw v3 v') rfl (fun T=>ahh (w:=tp v3 T)) ?_;rintro a' v4 ⟨U,J⟩;refine GW.rtk Y 2 (fun t c cs=>by kernel_rfl) ?_;exact⟨U,((K.trans R).trans C).trans J⟩
end
def I2(o:jZ):Prop:=∀(Q:QT) (v:af),lJ v->iK v->ly Q 38 #[o.val] v fun x v'=>x=.bool true/\Kw v v'
section
variable{Q:QT}{v0:af}{len cap:Nat}{lo I:Int}{a:Option Addr}{os:Nat->jZ}
theorem aap{o:jZ}(H:o.ref.size<=ao)(D:o.s.size<=ao)(hk:o.kind=4):I2 o:=by
 intro Q v Y K;have⟨kd,k,q,st,wk,ref,s⟩:=o;subst hk;exact afN H D Y K
end
abbrev ii(n:Int):Value:=.int .i64 n
section
variable{P:Program}{Q:QT}{Z:Loc->Prop}{f:aj}{l:List aj}{w:af}
theorem gd.aj3(m:Nat)(r:aj×List aj)(hr:gu P m f l=r){al:List (Nat×ae)}{call:Option (aD×Array ae)}{load:Option (ax×ae)}(h:look ks r=ik fn n l site al call load)(hk:al.map (·.1)=ks)
  (k:∀J w',ir Z w w'->(∀b,b<w.heap.size->w'.heap[b]?=w.heap[b]?)->ahead (lq fn n site (sA al) J)=call->pN (lq fn n site (sA al) J)=load->kt fn n site (sA al) (lq fn n site (sA al) J)->gd P Q Z (lq fn n site (sA al) J) l w'):gd P Q Z f l w:=by
 subst hr;refine gd.pure m fun w' R=>?_;have Y:=jX h hk;have K:=Y.call;have H:=Y.load;have D:=Y.fr;rw[Y.fr.eq]at K H;rw[Y.fr.eq]at D;rw[Y.callers,Y.fr.eq];exact k _ w' (ir.of R) (fun b I=>R.kept b I (fun y=>y)) K H D
theorem gd.wV{al ex:List (Nat×ae)}{u:Nat}{a b:Code}{k:List Item}(t:Bool)(Y:kt fn n site (sA (al++ex)) f)(H:site=.code (.cond (.tmp u) a b)::k)(D:sA (al++ex) u=some (.bool t))
  (A:∀J w',ir Z w w'->(∀a,a<w.heap.size->w'.heap[a]?=w.heap[a]?)->gd P Q Z (lq fn n (.code (if t then a else b)::k) (sA al) J) l w'):gd P Q Z f l w:=by
 refine gd.still (fun w2=>vV Y.mode Y.round (by rw[Y.kind];nofun) (Y.todo.trans H) (Y.slot u _ D)) fun w' g h=>?_;have K:kt fn n _ _ {f with todo:=.code (if t then a else b)::k}:=⟨Y.fn,rfl,Y.defers,Y.mode,Y.kind,Y.round,Y.size,fun i v e=>Y.slot i v (wa e)⟩;rw[K.eq];exact A _ w' g h
end
section
variable{Q:QT}{R:ae->af->Prop}{v:af}{fn:aD}{k:List Item}{a:Array ae}
def Ml:Item->Bool
 |.code c=>lz K0 PR false c
 |.inBlock _=>true
 |_=>false
theorem S5{r:RN}:∀{k:List Item},k.all Ml=true-> @IL gv PR r false true k k
 |[],_=>@IL.nil gv PR r _ _
 |x::k,h=>by
  simp only[List.all_cons,cM]at h;refine @IL.cons gv PR r _ _ x x k k ?_ (S5 h.2);cases x<;>simp only[Ml]at h<;>first|(cases h.1)|skip
  ·exact @IT.code gv PR r _ _ (vB (fun _ _ h=>h) h.1)
  ·exact @IT.inBlock gv PR r _ _
theorem GW.Jk{F:Func}(Y:PR.funcs[fn]?=some F){p:Code}(M:∀T,p.wp PR (fun e a' v'=>e=.ret/\aL PR F (fun e v'=>∃x,e=.returned x/\R x v') e a' v') ⟨a,[]⟩ (tp v T))(hk:(Item.code p::k).all Ml=true:=by kernel_rfl):GW false Q R fn (.code p::k) a v:=by
 intro r Z w t l J N H O;obtain⟨c,cs,rfl⟩:=zT J;refine bp fun K=>?_
 letI:=gv
 refine gd.lone (yz _ _) (fun _ h=>by cases h) (fun _ h=>h) H.gi (R:=fun e v'=>∃x,e=.returned x/\R x v') (a:=⟨a,[]⟩) Y rfl (fun T=>?_) (fun e u h=>h.imp fun x y=>y.1) (f':=(bf fn).at ⟨t,[]⟩ _) ⟨rfl,N,S5 hk,.nil,.run,rfl,.inl rfl,.none,fun _=>⟨_,Y⟩⟩ H.w H.off fun r' v' x x' w' I A U B C=>?_
 ·obtain⟨e,a',w',⟨rfl,hd,y,hr,D⟩,todo,n,L⟩:=M T _ k _;exact⟨n,_,w',.returned y,L,D,rfl,rfl,hd,rfl,F,Y,hr⟩
 ·have⟨y,e,D⟩:=B;cases e;have z:=H.fin K I U C;exact O r' Z x x' v' w' I A z.1 z.2 D
end
section
variable{b:Nat}{k q st wk:Int}{ref s:fb}{I tO tP rL xB xC:ae}{u:Nat->ae}
abbrev yC(w:af):Exit->Act->af->Prop:=fun e a' v'=>e=.ret/\aL PR aZ (fun e v'=>∃x,e=.returned x/\x=.bool true/\Kw w v') e a' v'
theorem aiT(h:oW w b 0 ⟨1,k,q,st,wk,ref,s⟩)(A:ref.size<=ao)(U:s.size<=ao)(M:iK w):(cp [2,1] pC).wp PR (yC w) ⟨oJ b I tO tP rL xB xC u,[]⟩ w:=by
 have⟨c0,c1,c2,J,c4,L,c6⟩:=h;obtain⟨Q,B⟩:∃Q,Q=yC w:=⟨_,rfl⟩;rw[<-B];have C:=laid B;have R:=by have:=a_ c6;simpa using this
 unfold pC nt aZ oJ;simp only[bk,cp];simp only[ptr];go_wp2_with fail
 refine(XJ ref s _ A U).mono ?_;rintro e w1 ⟨rfl,Y⟩;have D:=fun o=>Y.cell (p:=⟨b,o,none⟩) R;go_wp2_with fail
 refine(BG ref s _ A U).mono ?_;rintro e w2 ⟨rfl,K⟩;have H:=Y.trans (K.mono Y.size);go_wp2_with(refine(CC _ _).mono ?_;rintro e w' ⟨rfl,rfl⟩)
 rw[C.out];refine⟨rfl,?_⟩
 go_ret
 exact⟨_,rfl,rfl,fun g F=>H.block g F⟩
theorem aiU(h:oW w b 0 ⟨2,k,q,st,wk,ref,s⟩)(M:ref.size<=ao)(A:s.size<=ao)(N:iK w):(cp [2,1] nx).wp PR (yC w) ⟨oJ b I tO tP rL xB xC u,[]⟩ w:=by
 have⟨c0,c1,c2,C,c4,F,c6⟩:=h;obtain⟨Q,R⟩:∃Q,Q=yC w:=⟨_,rfl⟩;rw[<-R];have U:=laid R;have D:=by have:=a_ c6;simpa using this
 unfold nx pC nt aZ oJ;simp only[bk,cp];simp only[ptr];go_wp2_with fail
 refine(X9 s _ A).mono ?_;rintro e w1 ⟨rfl,Y⟩;have H:=fun o=>Y.cell (p:=⟨b,o,none⟩) D;go_wp2_with fail
 refine(X3 s _ A).mono ?_;rintro e w2 ⟨rfl,rfl⟩;have K:=Y;go_wp2_with(refine(CC _ _).mono ?_;rintro e w' ⟨rfl,rfl⟩)
 rw[U.out];refine⟨rfl,?_⟩
 go_ret
 exact⟨_,rfl,rfl,fun g B=>K.block g B⟩
theorem aiV(h:oW w b 0 ⟨3,k,q,st,wk,ref,s⟩)(U:ref.size<=ao)(B:s.size<=ao)(C:iK w):(cp [2,1] oI).wp PR (yC w) ⟨oJ b I tO tP rL xB xC u,[]⟩ w:=by
 have⟨c0,c1,c2,J,c4,L,c6⟩:=h;have HT:=laid C;obtain⟨Q,H⟩:∃Q,Q=yC w:=⟨_,rfl⟩;rw[<-H];have F:=laid H;have A:b<w.heap.size:=by have:=a_ c6;simpa using this
 clear H C c0 c4;unfold oI nx pC nt aZ oJ;simp only[bk,cp];simp only[ptr];go_wp2_with fail
 refine(ady ref s k q st _ HT.out U B).mono ?_;rintro e w1 ⟨rfl,K⟩;have Y:=fun o=>K.cell (p:=⟨b,o,none⟩) A;rw[<-Y]at c1 c2 J L c6;clear Y;go_wp2_with fail
 refine(YJ ref s k q st _ U B).mono ?_;rintro e w2 ⟨rfl,D⟩;have R:=K.trans (D.mono K.size);go_wp2_with(go_at_call 54;refine(CC _ _).mono ?_;rintro e w' ⟨rfl,rfl⟩)
 rw[F.out];refine⟨rfl,?_⟩
 go_ret
 exact⟨_,rfl,rfl,fun g M=>R.block g M⟩
end
section
variable{Q:QT}{v:af}{k q st wk:Int}{ref s:fb}
theorem aaq(hk:kd=1\/kd=2\/kd=3)(D:ref.size<=ao)(A:s.size<=ao):I2 ⟨kd,k,q,st,wk,ref,s⟩:=by
 intro Q v K R;have Y:∃F,PR.funcs[38]?=some F:=⟨_,bm⟩;refine ly.of (n:=162) bm S3 (by kernel_rfl) ?_;refine GW.run 2 (k':=[.inRegion (opsOf (cp [1] nt)) [0,1],.code (cp [2] nt)]) ?_;refine GW.bx Y (t:=59) (y:=jZ.val ⟨kd,k,q,st,wk,ref,s⟩) fun v1 H l1 c1=>?_;replace c1:v1.heap[v.heap.size]?=some (.cells #[i6 kd,i6 k,i6 q,i6 st,i6 wk,.string ref,.string s] 59):=c1;refine GW.iz Y [1] ?_;refine GW.run 4 (k':=[.inRegion (opsOf (cp [2,1,1] nt)) [0,1],.code (cp [2,1,2] nt),.code (cp [2,2] nt)]) ?_;refine GW.iz Y [0] ?_;refine GW.ld Y (oA 0 tq c1 rfl) ?_;refine GW.run 4 (k':=.inRegion (opsOf (cp [1] pC)) [0,1]:: .code (cp [2] pC)::mH) ?_;refine GW.iz Y [0,1] ?_;refine GW.run 1 (k':=.code (.cond (.tmp 23) (cp [2,1] pC) nx)::mH) ?_;have fin:∀a (p:Code) (i:Nat),(i=1->kd=1/\p=cp [2,1] pC)->(i=2->kd=2/\p=cp [2,1] nx)->(i=3->kd=3/\p=cp [2,1] oI)->i=1\/i=2\/i=3->(a=oJ v.heap.size (a.getD 15 ah) (a.getD 16 ah) (a.getD 17 ah) (a.getD 18 ah) (a.getD 19 ah) (a.getD 20 ah) fun i=>a.getD i ah)->GW false Q (fun x v'=>x=.bool true/\Kw v v') 38 (.code p::mH) a v1:=by
  intro a p i U B C I J;rw[J];rcases I with rfl|rfl|rfl
  ·obtain⟨rfl,rfl⟩:=U rfl;exact GW.mono (R1:=fun x v'=>x=.bool true/\Kw v1 v') (fun x v' h=>⟨h.1,H.trans h.2⟩) (GW.Jk bm fun T=>aiT (w:=tp v1 T) (C_ (o:=⟨1,k,q,st,wk,ref,s⟩) c1) D A (H.rj K R))
  ·obtain⟨rfl,rfl⟩:=B rfl;exact GW.mono (R1:=fun x v'=>x=.bool true/\Kw v1 v') (fun x v' h=>⟨h.1,H.trans h.2⟩) (GW.Jk bm fun T=>aiU (w:=tp v1 T) (C_ (o:=⟨2,k,q,st,wk,ref,s⟩) c1) D A (H.rj K R))
  ·obtain⟨rfl,rfl⟩:=C rfl;exact GW.mono (R1:=fun x v'=>x=.bool true/\Kw v1 v') (fun x v' h=>⟨h.1,H.trans h.2⟩) (GW.Jk bm fun T=>aiV (w:=tp v1 T) (C_ (o:=⟨3,k,q,st,wk,ref,s⟩) c1) D A (H.rj K R))
 rcases hk with rfl|rfl|rfl
 ·refine GW.cond Y (t:=true) trivial (by kernel_rfl) ?_;exact fin _ _ 1 (fun _=>⟨rfl,rfl⟩) (by omega) (by omega) (.inl rfl) (by kernel_rfl)
 ·refine GW.cond Y (t:=false) trivial (by kernel_rfl) ?_;refine GW.run 2 (k':=.inRegion (opsOf (cp [1] nx)) [0,1]:: .code (cp [2] nx)::mH) ?_;refine GW.iz Y [0,1] ?_;refine GW.run 1 (k':=.code (.cond (.tmp 50) (cp [2,1] nx) oI)::mH) ?_;refine GW.cond Y (t:=true) trivial (by kernel_rfl) ?_;exact fin _ _ 2 (by omega) (fun _=>⟨rfl,rfl⟩) (by omega) (.inr (.inl rfl)) (by kernel_rfl)
 ·refine GW.cond Y (t:=false) trivial (by kernel_rfl) ?_;refine GW.run 2 (k':=.inRegion (opsOf (cp [1] nx)) [0,1]:: .code (cp [2] nx)::mH) ?_;refine GW.iz Y [0,1] ?_;refine GW.run 1 (k':=.code (.cond (.tmp 50) (cp [2,1] nx) oI)::mH) ?_;refine GW.cond Y (t:=false) trivial (by kernel_rfl) ?_;refine GW.run 2 (k':=.inRegion (opsOf (cp [1] oI)) [0,1]:: .code (cp [2] oI)::mH) ?_;refine GW.iz Y [0,1] ?_;refine GW.run 1 (k':=.code (.cond (.tmp 73) (cp [2,1] oI) vv)::mH) ?_;refine GW.cond Y (t:=true) trivial (by kernel_rfl) ?_;exact fin _ _ 3 (by omega) (by omega) (fun _=>⟨rfl,rfl⟩) (.inr (.inr rfl)) (by kernel_rfl)
end
end Ph
namespace Ph
open Conc Ren
abbrev uJ(site:List Item)(al:List (Nat×ae))(J:Nat->ae):Frame:=lq 15 35 site (sA al) J
abbrev uU:Nat->Value:=fun _=>ah
def ub(sl:ae)(lo I i:Int):List (Nat×ae):=[(0,sl),(1,ii lo),(2,ii I),(7,ii i)]
abbrev zO:Value:=.agg #[ii 0,ii 0,ii 0,ii 0,ii 0,.string .empty,.string .empty]
abbrev zh (site:List Item) (al:List (Nat×ae)) (v:ae):List Item:=(gZ PR 60 ((uJ site al uU).finish v) []).1.todo
abbrev Fq (site:List Item) (al:List (Nat×ae)):List Item:=(gZ PR 60 (uJ site al uU) []).1.todo
def uK:List Item:=(gZ PR 60 (Frame.enter PR 15 #[.slice none 0 0,ii 0,ii 0] .normal) []).1.todo
def Bw:List Item->Code
 |.code (.cond _ a _)::_=>a
 |_=>.skip
def qN:List Item->Code
 |.code (.cond _ _ b)::_=>b
 |_=>.skip
def zb:List (Nat×ae):=ub (.slice none 0 0) 0 0 0
def uI:List Item:=Fq (yes uK) zb
def Fs(m:List (Nat×ae))(sl:ae)(i:Int):List (Nat×ae):=m++[(16,sl),(17,ii i)]
def uL:List Item:=zh uI (Fs zb (.slice none 0 0) 0) (ptr 0)
def Mm(m:List (Nat×ae))(p:Addr):List (Nat×ae):=m++[(18,.pointer (some p))]
def uN:List Item:=zh uL (Mm zb ⟨0,0,none⟩) zO
def Ft(m:List (Nat×ae))(o:ae):List (Nat×ae):=m++[(19,o)]
def uO:List Item:=zh uN (Ft zb zO) (ptr 0)
def Fu(m:List (Nat×ae))(o:ae)(b8:Nat):List (Nat×ae):=m++[(19,o),(8,ptr b8)]
def uA:List Item:=zh uO (Fu zb zO 0) ah
def rM(m:List (Nat×ae))(b8:Nat):List (Nat×ae):=m++[(8,ptr b8)]
def Bx(m:List (Nat×ae))(b8:Nat)(t:Bool):List (Nat×ae):=m++[(8,ptr b8),(23,.bool t)]
def Wj(m:List (Nat×ae))(b8:Nat)(t:Bool):List (Nat×ae):=m++[(8,ptr b8),(24,.bool t)]
def uB:List Item:=(gu PR 2 ((uJ uA (rM zb 0) uU).finish (ii 0)) []).1.todo
def uC:List Item:=Fq uB (Bx zb 0 false)
def uD:List Item:=Fq uB (Bx zb 0 true)
def uF:List Item:=Fq (yes uC) (rM zb 0)
def uG:List Item:=zh uF (rM zb 0) zO
def Bz(m:List (Nat×ae))(o:ae):List (Nat×ae):=m++[(30,o)]
def uH:List Item:=zh uG (Bz zb zO) (.bool true)
section
variable{lo I i kd k q st wk:Int}{ref s:fb}{a:Option Addr}{len cap b8:Nat}{p:Addr}{J:Nat->ae}{l:List aj}{c:aj}{t:Bool}{ov:ae}
abbrev us(a:Option Addr)(len cap:Nat)(lo I i:Int):List (Nat×ae):=ub (.slice a len cap) lo I i
theorem Mn:look [0,1,2,7,13] (gZ PR 60 (Frame.enter PR 15 #[.slice a len cap,ii lo,ii I] .normal) l)=ik 15 35 l uK (us a len cap lo I 0++[(13,.bool (decide ((0:Int)<(len:Int))))]) none none:=by kernel_rfl
theorem Dy:uK=.code (.cond (.tmp 13) (Bw uK) (qN uK))::uK.tail:=by kernel_rfl
theorem aj4:look [0,1,2,7,16,17] (gZ PR 60 (uJ (.code (Bw uK)::uK.tail) (us a len cap lo I i) J) l)=ik 15 35 l uI (Fs (us a len cap lo I i) (.slice a len cap) i) none none:=by kernel_rfl
theorem afO:(opAt (uJ uI (Fs (us a len cap lo I i) (.slice a len cap) i) J)).map (fun o=>o.op)=some (.indexAddr 22 (.tmp 16) (.tmp 17)):=by kernel_rfl
theorem aj5:look [0,1,2,7,18] (gZ PR 60 ((uJ uI (Fs (us a len cap lo I i) (.slice a len cap) i) J).finish (.pointer (some p))) l)=ik 15 35 l uL (Mm (us a len cap lo I i) p) none (some (59,.pointer (some p))):=by kernel_rfl
theorem aj6:look [0,1,2,7,19] (gZ PR 60 ((uJ uL (Mm (us a len cap lo I i) p) J).finish ov) l)=ik 15 35 l uN (Ft (us a len cap lo I i) ov) none none:=by kernel_rfl
theorem afP:(opAt (uJ uN (Ft (us a len cap lo I i) ov) J)).map (fun o=>o.op)=some (.alloc 59):=by kernel_rfl
theorem aj7:look [0,1,2,7,19,8] (gZ PR 60 ((uJ uN (Ft (us a len cap lo I i) (.agg #[ii kd,ii k,ii q,ii st,ii wk,.string ref,.string s])) J).finish (ptr b8)) l)=ik 15 35 l uO (Fu (us a len cap lo I i) (.agg #[ii kd,ii k,ii q,ii st,ii wk,.string ref,.string s]) b8) none none:=by kernel_rfl
theorem afQ:(opAt (uJ uO (Fu (us a len cap lo I i) (.agg #[ii kd,ii k,ii q,ii st,ii wk,.string ref,.string s]) b8) J)).map (fun o=>o.op)=some (.store 59 (.tmp 8) (.tmp 19)):=by kernel_rfl
theorem aj8:look [0,1,2,7,8] (gZ PR 60 ((uJ uO (Fu (us a len cap lo I i) (.agg #[ii kd,ii k,ii q,ii st,ii wk,.string ref,.string s]) b8) J).finish ah) l)=ik 15 35 l uA (rM (us a len cap lo I i) b8) none (some (3,rJ b8 0)):=by kernel_rfl
theorem aj9:look [0,1,2,7,8,23] (gu PR 2 ((uJ uA (rM (us a len cap lo I i) b8) J).finish (ii kd)) l)=ik 15 35 l uB (Bx (us a len cap lo I i) b8 (decide (lo<=kd))) none none:=by kernel_rfl
theorem aj_:look [0,1,2,7,8,29] (gZ PR 60 (uJ uB (Bx (us a len cap lo I i) b8 false) J) l)=ik 15 35 l uC (rM (us a len cap lo I i) b8++[(29,.bool false)]) none none:=by kernel_rfl
theorem aka:look [0,1,2,7,8,24] (gZ PR 60 (uJ uB (Bx (us a len cap lo I i) b8 true) J) l)=ik 15 35 l uD (Wj (us a len cap lo I i) b8 true) none (some (3,rJ b8 0)):=by kernel_rfl
theorem akb:look [0,1,2,7,8,29] (gZ PR 60 ((uJ uD (Wj (us a len cap lo I i) b8 true) J).finish (ii kd)) l)=ik 15 35 l uC (rM (us a len cap lo I i) b8++[(29,.bool (decide (kd<=I)))]) none none:=by kernel_rfl
theorem S6:uC=.code (.cond (.tmp 29) (Bw uC) (qN uC))::uC.tail:=by kernel_rfl
theorem akc:look [0,1,2,7,8] (gZ PR 60 (uJ (.code (Bw uC)::uC.tail) (rM (us a len cap lo I i) b8) J) l)=ik 15 35 l uF (rM (us a len cap lo I i) b8) none (some (59,ptr b8)):=by kernel_rfl
theorem akd:look [0,1,2,7,30] (gZ PR 60 ((uJ uF (rM (us a len cap lo I i) b8) J).finish ov) l)=ik 15 35 l uG (Bz (us a len cap lo I i) ov) (some (38,#[ov])) none:=by kernel_rfl
theorem afR:gu PR 1 (uJ uG (Bz (us a len cap lo I i) ov) J) l=(Frame.enter PR 38 #[ov] .normal,uJ uG (Bz (us a len cap lo I i) ov) J::l):=by kernel_rfl
theorem ake:look [0,1,2,7,33] (gZ PR 60 ((uJ uG (Bz (us a len cap lo I i) ov) J).finish (.bool true)) l)=ik 15 35 l uH ((us a len cap lo I i)++[(33,.bool false)]) none none:=by kernel_rfl
theorem aiW:uH=.code (.cond (.tmp 33) (Bw uH) (qN uH))::uH.tail:=by kernel_rfl
theorem akf:look [0,1,2,7,13] (gZ PR 60 (uJ (.code (qN uH)::uH.tail) (us a len cap lo I i) J) l)=ik 15 35 l uK (ub (.slice a len cap) lo I (aH.wrap (i+1))++[(13,.bool (decide (aH.wrap (i+1)<(len:Int))))]) none none:=by kernel_rfl
theorem TU:look [0,1,2,7,13] (gZ PR 60 (uJ (.code (qN uC)::uC.tail) (rM (us a len cap lo I i) b8) J) l)=ik 15 35 l uK (ub (.slice a len cap) lo I (aH.wrap (i+1))++[(13,.bool (decide (aH.wrap (i+1)<(len:Int))))]) none none:=by kernel_rfl
theorem JJ:gu PR 7 (uJ (.code (qN uK)::uK.tail) (us a len cap lo I i) J) (c::l)=(c.finish (ii (-1)),l):=by kernel_rfl
end
end Ph
namespace Ph
open Conc Ren RowKit
theorem zF:(PR.funcs[15]?).any (·.norace)=false:=by kernel_rfl
theorem aiX:PR.underlying 22=some (.slice (PR.elem 22)):=by kernel_rfl
theorem ahi:(PR.info? (PR.elem 22)).map (·.size)=some 7:=by kernel_rfl
theorem ahj:(PR.info? 59).map (·.size)=some 7:=by kernel_rfl
theorem ahk:(PR.info? 59).map (·.zero)=some (some (.agg #[ii 0,ii 0,ii 0,ii 0,ii 0,.string ⟨#[]⟩,.string ⟨#[]⟩])):=by kernel_rfl
def yb(o:jZ):Prop:=∀(Qq:QT) (Z:Loc->Prop) (w:af) (c:aj) (cs:List aj),PR.globals.size<=w.heap.size->lJ w->iK w->(∀g,g=0\/g=2\/g=3->iR Z g)->
 (∀Z' w',(∀l,Z l->Z' l)->(∀l,Z' l->Z l\/∃a:Addr,l=.cell a/\w.heap.size<=a.block)->ir Z w w'->gd PR Qq Z' (c.finish (.bool true)) cs w')->gd PR Qq Z (Frame.enter PR 38 #[o.val] .normal) (c::cs) w
theorem ab2{o:jZ}(h:I2 o):yb o:=by
 intro J Z w c cs D A H B V
 letI:=gv
 obtain⟨K,R⟩:∃K:Nat->Prop,∀a,K a↔(a=0\/a=2\/a=3):=⟨_,fun _=>Iff.rfl⟩;have I:=fun g P=>uk ((R g).2 (by
  have:([0,2,3].contains g)=true:=P;simpa using this))
 have C:∀b,¬gm.ro b:=fun b h=>h;have U:=RY C D fun b O=>by
  have⟨X,t,fz,h,Q⟩:=A b ((R b).1 O);exact⟨_,h,RZ _ _ fun x S=>by obtain⟨k,n,rfl⟩:=Q x S;exact .int _ _⟩
 refine h J w A H _ Z w _ c cs ⟨rfl,fun i y G e e'=>?_⟩ ⟨U,I,fun a y=>B a ((R a).1 (CJ.1 y))⟩ fun r' Z' x x' v' w' E L M Y N=>?_
 ·obtain rfl:=Option.some.inj (e.symm.trans e');have:=cL e;simp at this;subst this;exact B0 (n:=3) (by simp[na,jZ.val])
 ·obtain⟨rfl,hk⟩:=N;obtain rfl:=QH (n:=1) (by rfl) L;refine V Z' w' Y.more Y.only ⟨fun a F T=>?_,Y.ke.grow,Y.ke.tape,Y.ke.env,Y.ke.output⟩;by_cases y:K a
  ·exact(M.tabs (Kw.tabs hk A) a ((R a).1 y)).trans (hk a F)
  ·exact Y.kept a F (fun z=>y (CJ.1 z)) T
theorem QM{B:Nat}{o:jZ}{t:ax}(h:w.heap[B]?=some (.cells (Dw o) t)):oW w B 0 o:=by
 have c:∀j x,(Dw o)[j]?=some x->w.cell? _=some x:=fun j x Y=>by rw[ay _ B j _ _ _ h];exact Y
 exact⟨c 0 _ rfl,c 1 _ rfl,c 2 _ rfl,c 3 _ rfl,c 4 _ rfl,c 5 _ rfl,c 6 _ rfl⟩
theorem TW(b a0:Nat):∀e∈(#[⟨.cell ⟨b,a0,none⟩,false,false⟩,⟨.cell ⟨b,a0+1,none⟩,false,false⟩,⟨.cell ⟨b,a0+2,none⟩,false,false⟩,⟨.cell ⟨b,a0+3,none⟩,false,false⟩,⟨.cell ⟨b,a0+4,none⟩,false,false⟩,⟨.cell ⟨b,a0+5,none⟩,false,false⟩,⟨.cell ⟨b,a0+6,none⟩,false,false⟩]:Array Event),∃a:Addr,e=⟨.cell a,false,false⟩/\a.block=b:=by simp
theorem akg(b:Nat):∀e∈(#[⟨.cell ⟨b,0,none⟩,true,false⟩,⟨.cell ⟨b,1,none⟩,true,false⟩,⟨.cell ⟨b,2,none⟩,true,false⟩,⟨.cell ⟨b,3,none⟩,true,false⟩,⟨.cell ⟨b,4,none⟩,true,false⟩,⟨.cell ⟨b,5,none⟩,true,false⟩,⟨.cell ⟨b,6,none⟩,true,false⟩]:Array Event),∃a:Addr,e.loc=.cell a/\e.sync=false/\a.block=b:=by simp
theorem afS{i:Nat}(h:i+1<=ao):aH.wrap ((i:Int)+1)=((i+1:Nat):Int):=by
 unfold ao at h;rw[Go.IntWalk.i64_in _ (by omega)];omega
section
variable{Qq:QT}{Z0:Loc->Prop}{w0:af}{c:aj}{cs:List aj}{lo I:Int}{b off len cap:Nat}{os:Nat->jZ}
theorem ab3(hlen:len<=ao)(xy:∀i,i<len->oW w0 b (off+i *7) (os i))(akh:∀i,i<len->lo<=(os i).kind->(os i).kind<=I->yb (os i))(TG:PR.globals.size<=w0.heap.size)(hT:lJ w0)(d:iK w0)(Wk:∀g,g=0\/g=2\/g=3->iR Z0 g)(ob:iR Z0 b)(lb:b<w0.heap.size)
  (kk:∀Z' w',(∀l,Z0 l->Z' l)->(∀l,Z' l->Z0 l\/∃a:Addr,l=.cell a/\w0.heap.size<=a.block)->ir Z0 w0 w'->gd PR Qq Z' (c.finish (ii (-1))) cs w'):
  ∀m i,i+m=len->∀Z f w,kt 15 35 uK (sA (us (some ⟨b,off,none⟩) len cap lo I i++[(13,.bool (decide ((i:Int)<(len:Int))))])) f->(∀l,Z0 l->Z l)->(∀l,Z l->Z0 l\/∃a:Addr,l=.cell a/\w0.heap.size<=a.block)->ir Z0 w0 w->gd PR Qq Z f (c::cs) w:=by
 have v:∀g,g=0\/g=2\/g=3->g<w0.heap.size:=fun g N=>by
  obtain⟨_,_,_,h,_⟩:=hT g N;exact j0 h
 intro m;induction m with
 |zero=>
  intro i Fh Z f w hf more only G;obtain rfl:i=len:=by omega
  refine gd.wV _ hf Dy rfl fun J w1 g1 z=>?_;rw[decide_eq_false (by omega)];refine gd.pure 7 fun w2 n=>?_;change gd PR Qq Z (gu PR 7 (uJ (.code (qN uK)::uK.tail) _ J) _).1 (gu PR 7 (uJ (.code (qN uK)::uK.tail) _ J) _).2 w2;rw[JJ];exact kk Z w2 more only ⟨fun a D U=>((n.kept a (by have:=G.grow;have:=g1.grow;omega) (fun y=>y)).trans (z a (aK D G.grow))).trans (G.old a D U),au G.grow (au g1.grow n.grow),n.tape.trans (g1.tape.trans G.tape),n.env.trans (g1.env.trans G.env),n.output.trans (g1.output.trans G.output)⟩
 |succ m ih=>
  intro i AJ Z f w hf more only G;have on:∀{S T:af},ir Z0 w0 S->ir Z S T->ir Z0 w0 T:=fun{S T} H gb=>⟨fun a D U=>(gb.old a (aK D H.grow) (ya only U D)).trans (H.old a D U),au H.grow gb.grow,gb.tape.trans H.tape,gb.env.trans H.env,gb.output.trans H.output⟩;have O:i<len:=by omega
  have obZ:=ya only ob lb;have hZZ:=fun g N=>ya only (Wk g N) (v g N);refine gd.wV _ hf Dy rfl fun J w1 g1 _=>?_;rw[decide_eq_true (by omega)];have G1:=on G g1;have R:=xy i O;have x:=akh i O;generalize os i=op at R x;refine ar 60 _ rfl aj4 rfl fun J2 w2 g2 _ _ _ r=>?_;refine gd.still (fun w3=>adO afO (r.slot 16 _ rfl) (r.slot 17 _ rfl) O aiX ahi w3) fun w3 g3 _=>?_;refine ar 60 _ rfl aj5 rfl fun J4 w4 g4 _ _ ld4 _=>?_;have G4:=on (on (on G1 g2) g3) g4;obtain⟨o,ho⟩:∃o,w0.heap[b]?=some o:=by simp_all
  have Lx:=(G4.old b lb ob).trans ho;have gh:∀w',w'.heap[b]?=some o->oW w' b _ op:=fun w' Y=>by
   have e:∀j,w'.cell? ⟨b,j,none⟩=w0.cell? ⟨b,j,none⟩:=fun j=>by simp only[ak,Y,ho]
   unfold oW at R⊢;simp only[e];exact R
  refine gd.reads Lx (fun w' Y=>Rw ld4 (gh w' Y) zF) (TW b _) obZ fun w5 g5=>?_;refine ar 60 _ rfl aj6 rfl fun J6 w6 g6 _ _ _ _=>?_;have G6:=on (on G4 g5) g6;obtain⟨kd,k,q,st,wk,ref,s⟩:=op;refine aW (F:=fun B=>(uJ uN _ J6).finish _) (fun w'=>Hq afP ahk rfl w') fun b8 w7 n8 u8 h8 C g7=>?_;refine ar 60 _ rfl aj7 rfl fun J8 w8 g8 _ _ _ u=>?_;refine gd.lays (g8.at h8 C) (fun w' L=>afB afQ (u.slot 8 _ rfl) (u.slot 19 _ rfl) L zF ahj) (fun w' L=>aj1 w' L) (akg b8) C fun w9 h9 P hs9 t1 t2 t3=>?_;have K:=g7.trans g8;have G9:=on G6 ⟨fun a D U=>(P a (aK D K.grow) (by omega)).trans (K.old a D U),au K.grow hs9,t1.trans K.tape,t2.trans K.env,t3.trans K.output⟩;have kc:∀w':af,w'.heap[b8]?=some (.cells (Dw ⟨kd,k,q,st,wk,ref,s⟩) 59)->w'.cell? _=some _:=fun w' Y=>(QM Y).1;refine ar 60 _ rfl aj8 rfl fun JA wA gA _ _ ldA _=>?_;refine gd.read (fun w' L=>qU ldA tq L zF) (kc _ (gA.at h9 C)) C fun wB gB=>?_;refine gd.aj3 2 _ rfl aj9 rfl fun JC wC gC _ _ _ _=>?_;have V:=(gA.trans gB).trans gC;have pn:∀(Z':Loc->Prop) (f':aj) (w':af),kt 15 35 uK (sA (ub _ lo I (aH.wrap _)++[(13,.bool (decide (aH.wrap (i+1)<len)))])) f'->(∀l,Z0 l->Z' l)->(∀l,Z' l->Z0 l\/∃a:Addr,l=.cell a/\w0.heap.size<=a.block)->ir Z0 w0 w'->gd PR Qq Z' f' _ w':=fun Z' f' w' p m' o' G'=>by
   rw[afS (by omega)]at p;exact ih _ (by omega) Z' f' w' p m' o' G'
  by_cases z:lo<=kd
  ·rw[decide_eq_true z];refine ar 60 _ rfl aka rfl fun JD wD gD _ _ ldD _=>?_;have X:=V.trans gD;refine gd.read (fun w' L=>qU ldD tq L zF) (kc _ (X.at h9 C)) C fun wE gE=>?_;refine ar 60 _ rfl akb rfl fun JF wF gF _ _ _ hfF=>?_;have gAF:=(X.trans gE).trans gF;refine gd.wV _ hfF S6 rfl fun JG wG gG _=>?_;have E:=gAF.trans gG;by_cases h2:kd<=I
   ·rw[decide_eq_true h2];refine ar 60 _ rfl akc rfl fun JH wH gH _ _ ldH _=>?_;have W:=E.trans gH;refine gd.reads (W.at h9 C) (fun w' Y=>Rw ldH (QM Y) zF) (TW b8 0) C fun wI gI=>?_;refine ar 60 _ rfl akd rfl fun JK wK gK _ _ _ _=>?_;refine gd.pure 1 fun wL kL=>?_;rw[afR];have GL:=on G9 (((W.trans gI).trans gK).trans (ir.of kL));have t:=fun g N=>GL.old g (v g N) (Wk g N);refine x z h2 Qq Z wL _ _ (au TG GL.grow) (hT.same t) (zy d (t 0 (.inl rfl))) hZZ fun Z' wM pe pg gM=>?_;have A:=fun l hl=>(pg l hl).elim (only l) fun⟨ad,e,h⟩=>.inr ⟨ad,e,au GL.grow h⟩;have GM:=on GL gM;have Q:∀{S T:af},ir Z0 w0 S->ir Z' S T->ir Z0 w0 T:=fun{S T} H gb=>⟨fun a D U=>(gb.old a (aK D H.grow) (ya A U D)).trans (H.old a D U),au H.grow gb.grow,gb.tape.trans H.tape,gb.env.trans H.env,gb.output.trans H.output⟩;refine ar 60 _ rfl ake rfl fun JN wN gN _ _ _ hfN=>?_;refine gd.wV _ hfN aiW rfl fun JO wO gO _=>?_;refine ar 60 _ rfl akf rfl fun JP wP gP _ _ _ hfP=>?_;exact pn Z' _ wP hfP (fun l h=>pe l (more l h)) A (Q (Q (Q GM gN) gO) gP)
   ·rw[decide_eq_false h2];refine ar 60 _ rfl TU rfl fun JH wH gH _ _ _ M=>?_;exact pn Z _ wH M more only (on G9 (E.trans gH))
  ·rw[decide_eq_false z];refine ar 60 _ rfl aj_ rfl fun JD wD gD _ _ _ hfD=>?_;refine gd.wV _ hfD S6 rfl fun JG wG gG _=>?_;refine ar 60 _ rfl TU rfl fun JH wH gH _ _ _ M=>?_;exact pn Z _ wH M more only (on G9 (((V.trans gD).trans gG).trans gH))
theorem RA{a:Option Addr}(h:wh w0 a len cap os)(U:∀o:jZ,o.ref.size<=ao->o.s.size<=ao->lo<=o.kind->o.kind<=I->yb o)(A:PR.globals.size<=w0.heap.size)(T:lJ w0)(Y:iK w0)(M:∀g,g=0\/g=2\/g=3->iR Z0 g)(G:∀b,b<w0.heap.size->iR Z0 b)
  (N:∀Z' w',(∀l,Z0 l->Z' l)->(∀l,Z' l->Z0 l\/∃a:Addr,l=.cell a/\w0.heap.size<=a.block)->ir Z0 w0 w'->gd PR Qq Z' (c.finish (ii (-1))) cs w'):
  gd PR Qq Z0 (Frame.enter PR 15 #[.slice a len cap,ii lo,ii I] .normal) (c::cs) w0:=by
 rcases h with rfl|⟨b,off,rfl,Q,K,R⟩
 ·refine ar 60 _ rfl Mn rfl fun J w1 g1 B _ _ H=>?_;refine gd.wV _ H Dy rfl fun J w2 C F=>?_;refine gd.pure 7 fun w3 L=>?_;change gd PR Qq Z0 (gu PR 7 (uJ (.code (qN uK)::uK.tail) _ J) _).1 (gu PR 7 (uJ (.code (qN uK)::uK.tail) _ J) _).2 w3;rw[JJ];exact N Z0 w3 (fun _ h=>h) (fun _ h=>.inl h) ((g1.trans C).trans (ir.of L))
 ·by_cases P:len=0
  ·subst P;refine ar 60 _ rfl Mn rfl fun J w1 g1 B _ _ H=>?_;refine gd.wV _ H Dy rfl fun J w2 C F=>?_;refine gd.pure 7 fun w3 L=>?_;change gd PR Qq Z0 (gu PR 7 (uJ (.code (qN uK)::uK.tail) _ J) _).1 (gu PR 7 (uJ (.code (qN uK)::uK.tail) _ J) _).2 w3;rw[JJ];exact N Z0 w3 (fun _ h=>h) (fun _ h=>.inl h) ((g1.trans C).trans (ir.of L))
  ·have O:=by
    have:=a_ (K 0 (by omega)).1;simpa using this
   refine ar 60 _ rfl Mn rfl fun J w1 g1 B _ _ H=>?_;exact ab3 Q K (fun i D B F=>U _ (R i D).1 (R i D).2 B F) A T Y M (G b O) O N len 0 (by omega) Z0 _ w1 H (fun _ h=>h) (fun _ h=>.inl h) g1
end
end Ph
namespace Ph
open Conc ConcM Ren RowKit
theorem G3{W:af}{n:String}{k:IntKind}{zs:List Int}{g m:Nat}{t:ax}(h:Lib.VarReads PR W n (bW k zs))(U:dh PR n=some g)(M:((PR).globals[g]?).map (·.type)=some t)(N:PR.underlying t=some (.array m e))(C:PR.underlying e=some (.int k))(H:PR.cellsOf e=1)(A:PR.cellsOf t=m):
  ∃(c:Array ae) (t':ax) (fz:Nat×Nat),W.heap[g]?=some (.cells c t' fz)/\∀x∈c,∃k n,x=cB k n:=by
 have⟨L,t1,cs,fuel,p,R,I,Y,B⟩:=h;obtain rfl:=Option.some.inj (U.symm.trans R);obtain rfl:=Option.some.inj (M.symm.trans I);have D:=Lib.cells_of_tab N C H A B;unfold World.var? at Y;rw[U]at Y;simp only[db]at Y;split at Y
 ·rename_i c t' fz F;cases Y;refine⟨_,t',fz,F,fun x J=>?_⟩;have K:x∈cs.toList:=by simpa using J
  rw[D]at K;obtain⟨z,_,rfl⟩:=bu.1 K;exact⟨_,_,rfl⟩
 ·cases Y
def TX:DataW Unit->List Int
 |.agg l=>l.map fun|.lit (.int _ z)=>z|_=>0
 |_=>[]
theorem XY{W:af}(h:laidMetH Tryz.prog uz W):lJ W:=by
 have e:uz=[("math/bits.deBruijn32tab",(bW .u8 (TX Rows.laid_math_bits_deBruijn32tab))),("math/bits.deBruijn64tab",(bW .u8 (TX Rows.laid_math_bits_deBruijn64tab))),("internal/strconv.uint64pow10",(bW .u64 Lib.pow10Tab))]:=by kernel_rfl
 rw[e]at h;have r0:=G3 (Lib.laidMet.reads h (.tail _ (.tail _ (.head _)))) (g:=0) (by kernel_rfl) (by kernel_rfl) Tryz.underlying202 Tryz.underlying176 (by kernel_rfl) (by kernel_rfl);have r1:=G3 (Lib.laidMet.reads h (.head _)) (g:=2) (by kernel_rfl) (by kernel_rfl) Tryz.underlying245 cz (by kernel_rfl) (by kernel_rfl);have r2:=G3 (Lib.laidMet.reads h (.tail _ (.head _))) (g:=3) (by kernel_rfl) (by kernel_rfl) Tryz.underlying246 cz (by kernel_rfl) (by kernel_rfl);intro g Y;rcases Y with rfl|rfl|rfl
 ·omega
 ·omega
 ·omega
theorem YY:PR.globals.size<=4:=of_decide_eq_true (by simp)
theorem NV{W:af}(h:lJ W):PR.globals.size<=W.heap.size:=by
 have⟨_,_,_,Y,_⟩:=h 3 (.inr (.inr rfl));have:=j0 Y;have:=YY;omega
theorem Wm{H:Type}{Y:ax×ae->H}{a:Assume}{C:Checked}{os:Os}{f:aD}{fn:Func}{s:ChangeSpec}{F:Stop.Interp}{conds:List PathCond}{fresh handsOn:Bool}{X:af->Array ae->Prop}
  (hX:∀(w w':af) (args:Array ae),w.heap=w'.heap->X w args->X w' args)
  (own:ownKnob C.prog.godebug=none)(D:os.Started)(B:C.prog.funcs[f]?=some fn)
  (A:∃(w:af) (tape:Tape) (i:Input),w.os=os/\(w.forCall tape i).Shaped C.prog/\i.vars=[]/\cR C.prog (w.forCall tape i) .any w.heap.size f i/\
   ((s.pre Y C.prog fn conds apart (w.forCall tape i).memory i.args/\X (w.forCall tape i).memory i.args)/\cG Y C.prog fn (bZ s) apart (w.forCall tape i).memory i.args)/\a.holds C.prog (lone (Frame.enter C.prog f i.args .normal) [] (w.forCall tape i)))
  (runs:∀(W:af) (base:Nat) (args:Array ae) (U gs:List (DataW H)) (before:List MemPlace),
   (∀(j:Nat) t v,fn.params[j]?=some t->args[j]?=some v->Value.okWide C.prog W .any base t v)->
   DataW.Whole Y C.prog fn.params.toList s.vars apart W args.toList U gs before->
   conds.all (PathCond.test C.prog ⟨fn.params.toList,U,s.plain.varTypes C.prog,gs⟩)=true->X W args->
   ∃M last o w' t',runNT C.prog (M+1) (solo (G (Frame.enter C.prog f args .normal) []) W) #[]=(.ended o w',t')/\runN C.prog M (solo (G (Frame.enter C.prog f args .normal) []) W)=.next last/\
    step C.prog last=.ended o w'/\Conc.Good C.prog (fun v N=>s.post Y C.prog fn apart fresh handsOn false W args v {N with os:=W.os}/\OsLater W.os N.os) last o w' t'):
  ReturnsInLeavingWide a C os f .any (fun w args=>(s.pre Y C.prog fn conds apart w args/\X w args)/\cG Y C.prog fn (bZ s) apart w args) ((bZ s).postWith Y C.prog fn F (outsideKept [.timePasses]) apart fresh handsOn):=by
 refine returnsInLeavingWide_of_good own D A ?_;intro w tape i _ _ _ J R I;have⟨_,_,_,iV,K,_,_,_,_,hval⟩:=J;have e:=Option.some.inj (K.symm.trans B);subst e;obtain⟨⟨⟨U,gs,before,hw,V⟩,Z⟩,q⟩:=R;have L:=DataW.Whole.of_heap (w':=w.forCall tape i) (by rfl) hw;obtain⟨M,last,o,w',t',P,Q,S,T⟩:=runs _ _ _ U gs _ hval L V (hX _ _ _ (by rfl) Z);have⟨v,e,O,r1,r2,r3,E⟩:=T;exact⟨M,last,o,w',t',P,Q,S,v,e,postWith_blind (postWith_of_post O.1 O.2),r1,r2,r3,E⟩
theorem Xm{W W':af}{d:Nat}(h:ir (fun _=>False) W W'):ai W.heap.size W {W'.at d with os:=W.os}/\OsLater W.os (W'.at d).os:=
 ⟨⟨rfl,h.tape,h.output,h.grow,fun k hk=>h.old k hk (fun _ _ y=>y)⟩,h.env⟩
def aiY:=(gZ PR 60 (Frame.enter PR 6 #[.slice none 0 0] .normal) []).1.todo
section
variable{a:Option Addr}{len cap:Nat}
abbrev Ao (sl:ae):=lq 6 6 aiY (sA [(0,sl),(2,.bool false),(3,sl)]) fun _=>ah
theorem ahl:gZ PR 60 (Frame.enter PR 6 #[.slice a len cap] .normal) []=(Ao (.slice a len cap),[]):=by kernel_rfl
theorem afT:gu PR 1 (Ao (.slice a len cap)) []=(Frame.enter PR 15 #[.slice a len cap,ii 4,ii 4] .normal,[Ao (.slice a len cap)]):=by kernel_rfl
theorem adU:(gu PR 60 ((Ao (.slice a len cap)).finish (ii (-1))) []).2=[]:=by kernel_rfl
theorem adV(w:af):aT PR true (G (gu PR 60 ((Ao (.slice a len cap)).finish (ii (-1))) []).1 []) w=.ended (.done (.bool true)) w #[]:=by kernel_rfl
theorem aoL{os:Nat->jZ}{W:af}{Y:ae->af->Prop}(h:wh W a len cap os)(D:∀o:jZ,o.ref.size<=ao->o.s.size<=ao->4<=o.kind->o.kind<=4->yb o)(A:lJ W)(H:iK W)
  (T:∀M d,ir (fun _=>False) W M->Y (.bool true) (M.at d)):
  gd PR (Ren.Ends PR Y) (fun _=>False) (Frame.enter PR 6 #[.slice a len cap] .normal) [] W:=by
 have K:=NV A;have F:∀g,g=0\/g=2\/g=3->g<W.heap.size:=fun g C=>by
  have⟨_,_,_,h,_⟩:=A g C;exact j0 h
 refine gd.TP 60 _ ahl fun w1 g1 q=>?_;refine gd.pure 1 fun w2 Z=>?_;rw[afT];have R:=g1.trans (ir.of Z);have hk:=fun b B=>R.old b B (fun _ _ y=>y);have N:=fun g C=>hk g (F g C);have P:wh w2 a len cap os:=by
  rcases h with h|⟨b,off,Q,S,U,J⟩
  ·exact .inl h
  ·refine .inr ⟨b,off,Q,S,fun i I=>?_,J⟩;have L:=U i I;have B:=by
    have:=a_ L.1;simpa using this
   have e:∀j,w2.cell? ⟨b,j,none⟩=W.cell? ⟨b,j,none⟩:=fun j=>by simp only[ak,hk b B]
   unfold oW at L⊢;simp_all
 refine RA P D (au K R.grow) (A.same N) (zy H (N 0 (.inl rfl))) (fun _ _ _ _ y=>y) (fun _ _ _ _ y=>y) fun Z' w3 V X O=>?_;refine gd.pure 60 fun w4 E=>?_;rw[adU];refine gd.done fun G ⟨d,hd⟩=>⟨rfl,_,_,adV G,(fun e z=>by simp_all),?_⟩;subst hd;refine T w4 d ((R.trans O).trans (ir.of E))
end
def ahm:=(gZ PR 60 (Frame.enter PR 14 #[.slice none 0 0] .normal) []).1.todo
section
variable{a:Option Addr}{len cap:Nat}
abbrev Af (sl:ae):=lq 14 6 ahm (sA [(0,sl),(2,.bool false),(3,sl)]) fun _=>ah
theorem afU:gZ PR 60 (Frame.enter PR 14 #[.slice a len cap] .normal) []=(Af (.slice a len cap),[]):=by kernel_rfl
theorem adW:gu PR 1 (Af (.slice a len cap)) []=(Frame.enter PR 15 #[.slice a len cap,ii 1,ii 4] .normal,[Af (.slice a len cap)]):=by kernel_rfl
theorem ab4:(gu PR 60 ((Af (.slice a len cap)).finish (ii (-1))) []).2=[]:=by kernel_rfl
theorem ab5(w:af):aT PR true (G (gu PR 60 ((Af (.slice a len cap)).finish (ii (-1))) []).1 []) w=.ended (.done (.bool true)) w #[]:=by kernel_rfl
theorem adX{os:Nat->jZ}{W:af}{Y:ae->af->Prop}(h:wh W a len cap os)(D:∀o:jZ,o.ref.size<=ao->o.s.size<=ao->1<=o.kind->o.kind<=4->yb o)(U:lJ W)(H:iK W)
  (T:∀M d,ir (fun _=>False) W M->Y (.bool true) (M.at d)):
  gd PR (Ren.Ends PR Y) (fun _=>False) (Frame.enter PR 14 #[.slice a len cap] .normal) [] W:=by
 have K:=NV U;have J:∀g,g=0\/g=2\/g=3->g<W.heap.size:=fun g F=>by
  have⟨_,_,_,h,_⟩:=U g F;exact j0 h
 refine gd.TP 60 _ afU fun w1 g1 q=>?_;refine gd.pure 1 fun w2 Z=>?_;rw[adW];have R:=g1.trans (ir.of Z);have hk:=fun b C=>R.old b C (fun _ _ y=>y);have N:=fun g F=>hk g (J g F);have P:wh w2 a len cap os:=by
  rcases h with h|⟨b,off,Q,S,B,L⟩
  ·exact .inl h
  ·refine .inr ⟨b,off,Q,S,fun i I=>?_,L⟩;have A:=B i I;have C:=by
    have:=a_ A.1;omega
   have e:∀j,w2.cell? ⟨b,j,none⟩=W.cell? ⟨b,j,none⟩:=fun j=>by simp only[ak,hk b C]
   unfold oW at A⊢;simp only[e];exact A
 refine RA P D (au K R.grow) (U.same N) (zy H (N 0 (.inl rfl))) (fun _ _ _ _ y=>y) (fun _ _ _ _ y=>y) fun Z' w3 V X O=>?_;refine gd.pure 60 fun w4 E=>?_;rw[ab4];refine gd.done fun G ⟨d,hd⟩=>⟨rfl,_,_,ab5 G,(fun e z=>by simp_all),?_⟩;subst hd;refine T w4 d ((R.trans O).trans (ir.of E))
end
end Ph
end
end Go.Proofs.YtdcjnhipenbcfaaGreatDoor
