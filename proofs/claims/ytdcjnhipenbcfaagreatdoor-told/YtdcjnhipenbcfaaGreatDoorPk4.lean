/-
  Own text. Part 4 of what the claim rests on.
-/
import Derived.Test.YtdcjnhipenbcfaaGreatDoorPk3
import Derived.Maps.OwnSet
import Derived.Conc.Events
import Derived.Shelf.Strings.OnBuilder
import Derived.Shelf.SlIterI.Nil
import Derived.Shelf.SortM.Plain
import Derived.Shelf.SortM.SortNone
import Derived.Ground.GgzProg
import Derived.Ground.SlgmProg
import Derived.Test.YtdcjnhipenbcfaaGreatDoorProg
import Derived.Shelf.Strings.Builder1
import Derived.Shelf.Small.Strs
import Derived.Shelf.LaysM
import Derived.Shelf.Strconv.Itoa3
import Derived.OwnWalk
import Derived.Deep.RegionHeld3
import Derived.Laws.BytesString
import Derived.Maps.RangeWalk
import Derived.Maps.OwnOps
import Derived.Maps.Views
import Derived.Lib.MinMax
import Derived.Sort.KeysCollected
set_option linter.unusedVariables false
set_option linter.unusedSectionVars false
set_option linter.unusedSimpArgs false
set_option maxRecDepth 100000
set_option maxHeartbeats 16000000
open Array renaming getElem?_eq_getElem->aY,getElem?_eq_some_iff->bq,getElem?_eq_none->bO,getElem?_setIfInBounds_ne->cB,replicate->cC,getD->di,getElem?_map->dj,length_toList->dk,getElem?_setIfInBounds_self_of_lt->ez,getElem_append->eA,getElem_setIfInBounds_ne->eB,getElem_setIfInBounds_self->eC
open Bool renaming not_eq_true->bg,not_eq_false'->eE
open ByteArray renaming size_extract->cD
open Go renaming World->ae,Value->ah,Frame->aj,undef->ak,Calls->ao,cell_of_row->au,execOp->ax,Goroutine->ay,heap_alloc_old->aI,heap_alloc_new->aM,Program->aN,stepG->aT,frozen_of_row->aW,maxLen->aX,DataW->aZ,block_lt_of_cell->a_,TypeId->bp,Deferred->br,heap_setCell_same->bN,results->bV,Trace->cg,bodyPost_ret->cx,typeInfo->cz,zeroValue->cA,grownCap->c_,MapEntry->dD,Operand->dI,info_parts->ep,madeCells->et,plainElem_int->eu,plainElem_int_inv->ew,yielded->ey,length_sorted->ak1,wpList_append_own->ak4,wpList_lookup_own_int->ak5
open Go.Act renaming eval->dh
open Go.Conc renaming run_eq_of->aA,stepG_seq->bc,listed_nil->cy,Deaf_other->cE,mem_listed->da,opsC_unwanted->db,seen_none->dc,stepG_cond->de,runT_crowd_go->ak2,woken_quitsD->ak3
open Go.DataW renaming put_eq->eH
open Go.Ending renaming returned->cG
open Go.Instr renaming mapUpdate->aK,lookup->aU,findNow->bP,findKey->dp,checkKey->eI,keyThatStays->eJ,makeFunc->eK,makeSlice->eL,sameBits->eM,sameNow->eN
open Go.IntKind renaming i64->bW
open Go.IntWalk renaming i64_in->dt,wrap64_in->eQ
open Go.Lib renaming IsBuilder->bt,byteCells->bu,indexByte->bC,cell_of_heap->bX,strCells->cH,BuilderAt->du,frozen_of_heap->eS
open Go.Lib.BuilderAt renaming put->eR
open Go.MapKept renaming run_getObj_map->bQ,run_setObj_map->fa
open Go.Maps renaming keyOf_str->fb
open Go.MemAct renaming ofEvent->b_,touch?->cP
open Go.MemOp renaming ofEvents->fc
open Go.Oper renaming upon_value->akt
open Go.Proofs.Builder renaming Extra->eG
open Go.Proofs.Tryz renaming prog->af,underlying3->aL,underlying9->aQ,f140->aV,isAgg3->bj,sizeOf3->bk,zeroValue3->bm,underlying79->bA,func45->bG,isAgg0->bH,ntmps45->bI,sizeOf0->bJ,underlying0->bK,underlying5->bL,zeroValue0->bM,underlying100->bU,isAgg5->cj,isAgg9->ck,sizeOf5->cm,sizeOf9->cn,zeroValue5->cu,zeroValue9->cv,isAgg4->cR,isAgg79->cS,sizeOf4->cT,sizeOf79->cU,underlying113->cV,underlying4->cW,zeroValue4->cX,zeroValue79->cY,func58->dK,func89->dL,isAgg100->dM,isAgg102->dO,isAgg25->dP,ntmps58->dQ,ntmps89->dR,results58->dU,sizeOf100->dV,sizeOf102->dW,sizeOf25->dX,underlying102->dY,underlying159->dZ,underlying25->d_,zeroValue100->ec,zeroValue102->ed,zeroValue25->ef,func113->akw,func152->akx,isAgg139->aky,isAgg170->akz,isAgg176->akA,isAgg185->akB,isAgg20->akC,isAgg204->akD,ntmps19->akE,ntmps41->akF,results41->akG,sizeOf139->akH,sizeOf170->akI,sizeOf176->akJ,sizeOf185->akK,sizeOf20->akL,sizeOf204->akM,underlying139->akN,underlying170->akO,underlying176->akP,underlying185->akQ,underlying20->akR,underlying204->akS,zeroValue139->akT,zeroValue170->akU,zeroValue176->akV,zeroValue185->akW,zeroValue20->akX,zeroValue204->akY
open Go.Proofs.YtdcjnhipenbcfaaGreatDoor.Ph.Tz renaming kN->az
open Go.Proofs.YtdcjnhipenbcfaaGreatDoor.Ph.im renaming closes->eo
open Go.Proofs.YtdcjnhipenbcfaaGreatDoor.Ren.gI renaming trans->bB,refl->ek
open Go.Proofs.YtdcjnhipenbcfaaGreatDoor.Ren.gn renaming tree->c9
open Go.Region renaming wanted->dJ,noSelect->aku,ready->akv
open Go.RowKit renaming Below->ai
open Go.RowKit.Below renaming refl->aB,heap_alloc->eD
open Go.Sem renaming events->aP
open Go.Value renaming chan->ei,int->ej
open Go.WideAt renaming IsKeyLit->akZ
open Go.World renaming cell?->aJ,cell?_alloc_past->cZ,frozen?->ak0
open Int renaming ofNat_lt->dq,natCast_emod->eO,toNat_of_nonneg->eP
open List renaming length_append->aH,getElem?_eq_getElem->aO,countP_append->bh,length_nil->bD,nil_append->bE,length_cons->bY,mem_of_getElem?->bZ,cons_append->cI,foldl_cons->cJ,getD_eq_getElem?_getD->cK,length_map->cL,mem_map->cM,mem_singleton->cO,drop_eq_getElem_cons->dx,length_singleton->dy,length_take->dz,mem_append->dA,range->dB,take_add_one->dC,append_assoc->eT,contains_iff_mem->eU,getElem?_map->eV,getElem?_toArray->eW,nodup_nil->eX,range_succ->eY,take_left'->eZ,take_length->e_
open Nat renaming le_refl->ar,lt_of_lt_of_le->aD,le_trans->bF,not_lt_zero->bR,zero_add->bS,zero_le->bT,lt_of_not_le->cQ,le_of_eq->dE,lt_or_ge->dG,mod_lt->dH,add_sub_cancel->ako,add_sub_cancel_left->akp,eq_zero_or_pos->akq,lt_irrefl->akr,mul_le_mul->aks
open Option renaming map_eq_some_iff->cf
open UInt8 renaming ofNat->cw,toNat_ofNat'->eg
namespace Go.Proofs.YtdcjnhipenbcfaaGreatDoor
variable {NM ref s:ByteArray}{f f1:aj}{fn:FuncId}{g1:ay}{cs l:List aj}{k0 kk:List Item}{L R ks l1 l2:List Nat}{Z:Loc->Prop}{Fd cap clock fuel i j m n p q r u y z:Nat}{XX:Nat->Nat->Prop}{RO S X':Nat->Prop}{t t':bp}{v work:ah}{w w' w2 wr:ae}
namespace Ph
open Conc Ren
def jN(Fd b5:Nat)(v1 K A B:ah)(u:Nat->ah):=#[.pointer (some ⟨Fd,0,none⟩),v1,u 2,u 3,u 4,.pointer (some ⟨b5,0,none⟩),u 6,u 7,u 8,u 9,u 10,u 11,u 12,u 13,u 14,K,A,B,u 18,u 19,u 20,u 21,u 22,u 23,u 24,u 25,u 26,u 27,u 28,u 29,u 30,u 31,u 32,u 33,u 34,u 35,u 36,u 37,u 38,u 39,u 40,u 41,u 42,u 43,u 44,u 45,u 46,u 47]
theorem Ao(Fd b5:Nat)(v1 T2 T3 T4 a2 a3 a4 a6 a7 a8 a9 K A B C F M N a20 O a22 a23 a24 a25 a26 a27 a28 T V a31 a32 a33 G a35 a36 a37 W h a40 a41 T5 T6 a44 T7 a46 T8:ah):#[.pointer (some ⟨Fd,0,none⟩),v1,a2,a3,a4,.pointer (some ⟨b5,0,none⟩),a6,a7,a8,a9,K,A,B,C,F,T2,T3,T4,M,N,a20,O,a22,a23,a24,a25,a26,a27,a28,T,V,a31,a32,a33,G,a35,a36,a37,W,h,a40,a41,T5,T6,a44,T7,a46,T8]=jN Fd b5 v1 T2 T3 T4 (fun i=>[.tuple #[],.tuple #[],a2,a3,a4,.tuple #[],a6,a7,a8,a9,K,A,B,C,F,.tuple #[],.tuple #[],.tuple #[],M,N,a20,O,a22,a23,a24,a25,a26,a27,a28,T,V,a31,a32,a33,G,a35,a36,a37,W,h,a40,a41,T5,T6,a44,T7,a46,T8].getD i (.tuple #[])):=rfl
noncomputable def Lf:=match aV.body with
 |some (.seq _ (.seq _ (.seq _ (.block _ (.loop (.seq _ (.seq _ (.seq (.block _ (.seq _ (.seq Y _))) _))))))))=>Y
 |_=>.skip
structure AF(Fd Mp b5:Nat)(e d:Int)(o:Option Obj)(w:ae):Prop where
 m:w.cell? ⟨Fd,2,none⟩=some (.map (some Mp))
 c0:w.cell? ⟨b5,0,none⟩=some (.int .i64 e)
 c1:w.cell? ⟨b5,1,none⟩=some (.int .i64 d)
 o:w.heap[Mp]?=o
section
variable{U:Nat->Nat->Prop}{S X:Nat->Prop}{Fd Mp b5:Nat}{e d:Int}{o:Option Obj}
theorem ti{es:Array _}(h:∀e∈es,(∃a:Addr,e.loc=.cell a/\e.sync=false/\e.write=false/\S a.block/\¬U a.block a.off)\/∃b,e.loc=.obj b/\e.sync=false/\e.write=false/\S b):DU U S X w w es:=
 ⟨⟨fun _ _ _=>rfl,ar _,fun a=>⟨.inl,fun h=>h.resolve_right fun y=>by omega⟩,fun a=>⟨.inl,fun h=>h.resolve_right fun y=>by omega⟩,fun e H=>by
  rcases h e H with⟨a,I,h2,K,Y,D⟩|⟨b,I,h2,K,Y⟩
  ·exact .inl ⟨a,I,h2,.inl ⟨Y,fun y=>by simp_all⟩⟩
  ·exact .inr (.inl ⟨b,I,h2,.inl ⟨Y,fun y=>by simp_all⟩⟩),rfl,.refl _,rfl⟩,fun e H b hb=>by
  rcases h e H with⟨a,I,h2,K,Y,D⟩|⟨b,I,h2,K,Y⟩
  ·simp_all
  ·simp_all⟩
theorem lets:LetsDraw (DU U S X):=fun w=>⟨⟨fun _ _ _=>rfl,ar _,fun a=>⟨.inl,fun h=>h.resolve_right fun y=>by have I:=y.1;have h2:=y.2;exact absurd h2 (Nat.not_lt.2 I)⟩,fun a=>⟨.inl,fun h=>h.resolve_right fun y=>by have I:=y.1;have h2:=y.2;exact absurd h2 (Nat.not_lt.2 I)⟩,fun e Y=>by simp_all,rfl,.refl _,rfl⟩,fun e Y=>by simp_all⟩
theorem S9(w:ae):RU U S w {w with drawn:=w.drawn+1}:=⟨fun a _=>.inl rfl,ar _,.refl _⟩
structure tJ(U:Nat->Nat->Prop)(S:Nat->Prop)(Fd Mp b5:Nat):Prop where
 fd:S Fd
 mp:S Mp
 b:S b5
 u2:¬U Fd 2
 ub:∀i,¬U b5 i
 um:∀i,¬U Mp i
theorem qp{w1:ae}{b:Nat}(K:S b)(A:¬U b i)(h:w.cell? ⟨b,i,none⟩=some v)(r:RU U S w w1):w1.cell? ⟨b,i,none⟩=some v:=by
 rcases r.kept b K with I|⟨c,c2,t,fz,_,h2,Y,H,D,_⟩
 ·simp only[aJ]at h⊢;simp_all
 ·simp only[aJ]at h⊢;simp_all
theorem AF.rely(H:tJ U S Fd Mp b5){w w1:ae}(h:AF Fd Mp b5 e d o w)(r:RU U S w w1):AF Fd Mp b5 e d o w1:=
 ⟨qp H.fd H.u2 h.m r,qp H.b (H.ub 0) h.c0 r,qp H.b (H.ub 1) h.c1 r,((r.kept Mp H.mp).eq H.um).trans h.o⟩
theorem tk(H:tJ U S Fd Mp b5){A:Act->Prop}{P:aN}{md:Region.Mode}{ops:Array _}{K:Oper}{li:Array _}{a:Act}(F:ops[i]?=some K)
  (M:aku ops=true)(C:Region.free md ops li i=true)(hr:(akv md ops li).contains i=true)
  (N:YieldsIfC P (DU U S X) fn ops (AF Fd Mp b5 e d o) K v a)(B:AF Fd Mp b5 e d o w)(h:AnyCH P (RU U S) (DU U S X) fn md ops (fun ex a' w'=>ex=.normal/\A a'/\AF Fd Mp b5 e d o w') (AF Fd Mp b5 e d o) fuel (li.setIfInBounds i true) (a.put K.dst v) w):
  AnyCH P (RU U S) (DU U S X) fn md ops (fun ex a' w'=>ex=.normal/\A a'/\AF Fd Mp b5 e d o w') (AF Fd Mp b5 e d o) (fuel+1) li a w:=
 anyCH_take jg (fun _ _ h r=>AF.rely H h r) (fun _ _ _ h r=>⟨h.1,h.2.1,AF.rely H h.2.2 r⟩) F M C hr N B h
theorem ail(H:tJ U S Fd Mp b5)(dd:List br)(v1 B C F:ah)(u:Nat->ah)(x:Int)(bo:Bool)(N:∀w,AF Fd Mp b5 e d o w->(aU 166 (.map (some Mp)) (.int .i64 e) true).run af w=.ok (.tuple #[.int .i64 x,.bool bo]) w)
  (M:∀w,AF Fd Mp b5 e d o w->∀ev∈aP af (aU 166 (.map (some Mp)) (.int .i64 e) true) w #[],ev.loc=.obj Mp/\ev.sync=false/\ev.write=false):
  ∃k,∀w,AF Fd Mp b5 e d o w->Lf.wpC af false (RU U S) (DU U S X) 140 k (fun ex a' w'=>ex=.normal/\(∃A,A 6=.int .i64 x/\A 7=.bool bo/\a'=⟨jN Fd b5 v1 B C F A,dd⟩)/\AF Fd Mp b5 e d o w') ⟨jN Fd b5 v1 B C F u,dd⟩ w:=by
 have D:∀(t:Array ah) (A:Nat->ah) (w':ae),t=jN Fd b5 v1 B C F A->A 6=.int .i64 x->A 7=.bool bo->AF Fd Mp b5 e d o w'->(fun(a':Act)=>∃A,A 6=.int .i64 x/\A 7=.bool bo/\a'=⟨jN Fd b5 v1 B C F A,dd⟩) ⟨t,dd⟩:=fun t A w' P Q T _=>⟨A,Q,T,by rw[P]⟩;generalize R:(fun(a':Act)=>∃A,A 6=.int .i64 x/\A 7=.bool bo/\a'=⟨jN Fd b5 v1 B C F A,dd⟩)=O at D;rw[show(fun(ex:Exit) (a':Act) (w':ae)=>ex=.normal/\(∃A,A 6=.int .i64 x/\A 7=.bool bo/\a'=⟨jN Fd b5 v1 B C F A,dd⟩)/\AF Fd Mp b5 e d o w')=fun ex a' w'=>ex=.normal/\O a'/\AF Fd Mp b5 e d o w' by rw[<-R]];clear R
 co_apply Exists.intro
 intro w hF;unfold Lf aV;dsimp only;rw[show jN Fd b5 v1 B C F u=_ from rfl];simp only[jN];have Z:∀{w w1:ae},AF Fd Mp b5 e d o w->RU U S w w1->AF Fd Mp b5 e d o w1:=fun h r=>AF.rely H h r
 co_held (jg (U:=U) (S:=S) (X:=X)) lets S9 (AF Fd Mp b5 e d o) Z hF
 refine tk H (i:=0) (v:=.pointer (some ⟨Fd,0,none⟩)) rfl (by decide+kernel) (by decide+kernel) (by decide+kernel) (.inl ⟨by rfl,fun w2 hw=>⟨aA (fun K Y=>by go_simp;exact Y),by co_quiet (jg (U:=U) (S:=S) (X:=X))⟩⟩) hF ?_;try walk_nrm
 refine tk H (i:=1) (v:=.pointer (some ⟨Fd,0,none⟩)) rfl (by decide+kernel) (by decide+kernel) (by decide+kernel) (.inl ⟨by rfl,fun w2 hw=>⟨aA (fun K Y=>by go_simp;exact Y),by co_quiet (jg (U:=U) (S:=S) (X:=X))⟩⟩) hF ?_;try walk_nrm
 refine tk H (i:=2) (v:=.pointer (some ⟨Fd,2,none⟩)) rfl (by decide+kernel) (by decide+kernel) (by decide+kernel) (.inl ⟨by rfl,fun w2 hw=>⟨aA (fun K Y=>by go_simp;exact Y),by co_quiet (jg (U:=U) (S:=S) (X:=X))⟩⟩) hF ?_;try walk_nrm
 refine tk H (i:=3) (v:=.map (some Mp)) rfl (by decide+kernel) (by decide+kernel) (by decide+kernel) (.inl ⟨by rfl,fun w2 hw=>⟨aA (fun K Y=>by have I:=hw.m;go_simp;exact Y),ti (by have I:=hw.m;co_evs (exact .inl ⟨_,rfl,rfl,rfl,H.fd,H.u2⟩))⟩⟩) hF ?_;try walk_nrm
 refine tk H (i:=4) (v:=.pointer (some ⟨b5,0,none⟩)) rfl (by decide+kernel) (by decide+kernel) (by decide+kernel) (.inl ⟨by rfl,fun w2 hw=>⟨aA (fun K Y=>by go_simp;exact Y),by co_quiet (jg (U:=U) (S:=S) (X:=X))⟩⟩) hF ?_;try walk_nrm
 refine tk H (i:=5) (v:=.int .i64 e) rfl (by decide+kernel) (by decide+kernel) (by decide+kernel) (.inl ⟨by rfl,fun w2 hw=>⟨aA (fun K Y=>by have I:=hw.c0;go_simp;exact Y),ti (by have I:=hw.c0;co_evs (exact .inl ⟨_,rfl,rfl,rfl,H.b,H.ub 0⟩))⟩⟩) hF ?_;try walk_nrm
 refine tk H (i:=6) (v:=.tuple #[.int .i64 x,.bool bo]) rfl (by decide+kernel) (by decide+kernel) (by decide+kernel) (.inl ⟨by rfl,fun w2 hw=>⟨aA (fun K Y=>by have I:=N w2 hw;go_simp;exact Y),ti (by intro ev V;have L:=da V;simp[go_sem]at L;have J:=M w2 hw ev L;exact .inr ⟨Mp,J.1,J.2.1,J.2.2,H.mp⟩)⟩⟩) hF ?_;try walk_nrm
 refine tk H (i:=7) (v:=.tuple #[.int .i64 x,.bool bo]) rfl (by decide+kernel) (by decide+kernel) (by decide+kernel) (.inl ⟨by rfl,fun w2 hw=>⟨aA (fun K Y=>by go_simp;exact Y),by co_quiet (jg (U:=U) (S:=S) (X:=X))⟩⟩) hF ?_;try walk_nrm
 refine tk H (i:=8) (v:=.int .i64 x) rfl (by decide+kernel) (by decide+kernel) (by decide+kernel) (.inl ⟨by rfl,fun w2 hw=>⟨aA (fun K Y=>by go_simp;exact Y),by co_quiet (jg (U:=U) (S:=S) (X:=X))⟩⟩) hF ?_;try walk_nrm
 refine tk H (i:=9) (v:=.bool bo) rfl (by decide+kernel) (by decide+kernel) (by decide+kernel) (.inl ⟨by rfl,fun w2 hw=>⟨aA (fun K Y=>by go_simp;exact Y),by co_quiet (jg (U:=U) (S:=S) (X:=X))⟩⟩) hF ?_;try walk_nrm
 refine tk H (i:=10) (v:=.int .i64 x) rfl (by decide+kernel) (by decide+kernel) (by decide+kernel) (.inl ⟨by rfl,fun w2 hw=>⟨aA (fun K Y=>by go_simp;exact Y),by co_quiet (jg (U:=U) (S:=S) (X:=X))⟩⟩) hF ?_;try walk_nrm
 refine tk H (i:=11) (v:=.bool bo) rfl (by decide+kernel) (by decide+kernel) (by decide+kernel) (.inl ⟨by rfl,fun w2 hw=>⟨aA (fun K Y=>by go_simp;exact Y),by co_quiet (jg (U:=U) (S:=S) (X:=X))⟩⟩) hF ?_;try walk_nrm
 refine anyCH_done (by first|kernel_rfl|decide+kernel) ?_ _;exact⟨rfl,D _ _ _ (Ao Fd b5 v1 B C F _ _ _ _ _ _ _ _ _ _ _ _ _ _ _ _ _ _ _ _ _ _ _ _ _ _ _ _ _ _ _ _ _ _ _ _ _ _ _ _ _ _) rfl rfl hF,hF⟩
end
noncomputable def Lg:=match aV.body with
 |some (.seq _ (.seq _ (.seq _ (.block _ (.loop (.seq _ (.seq _ (.seq (.block _ (.seq _ (.seq _ (.seq _ (.cond _ Y _))))) _))))))))=>Y
 |_=>.skip
structure AG(Fd Mp b5:Nat)(e d:Int)(w:ae):Prop where
 m:w.cell? ⟨Fd,2,none⟩=some (.map (some Mp))
 c0:w.cell? ⟨b5,0,none⟩=some (.int .i64 e)
 c1:w.cell? ⟨b5,1,none⟩=some (.int .i64 d)
section
variable{U:Nat->Nat->Prop}{S X:Nat->Prop}{Fd Mp b5:Nat}{e d:Int}{o:Option Obj}
theorem AG.rely(H:tJ U S Fd Mp b5){w w1:ae}(h:AG Fd Mp b5 e d w)(r:RU U S w w1):AG Fd Mp b5 e d w1:=
 ⟨qp H.fd H.u2 h.m r,qp H.b (H.ub 0) h.c0 r,qp H.b (H.ub 1) h.c1 r⟩
theorem vk(H:tJ U S Fd Mp b5){A:Act->Prop}{P:aN}{md:Region.Mode}{ops:Array _}{K:Oper}{li:Array _}{a:Act}(F:ops[i]?=some K)
  (M:aku ops=true)(C:Region.free md ops li i=true)(hr:(akv md ops li).contains i=true)
  (N:YieldsIfC P (DU U S X) fn ops (AG Fd Mp b5 e d) K v a)(B:AG Fd Mp b5 e d w)(h:AnyCH P (RU U S) (DU U S X) fn md ops (fun ex a' w'=>ex=.normal/\A a'/\AF Fd Mp b5 e d o w') (AG Fd Mp b5 e d) fuel (li.setIfInBounds i true) (a.put K.dst v) w):
  AnyCH P (RU U S) (DU U S X) fn md ops (fun ex a' w'=>ex=.normal/\A a'/\AF Fd Mp b5 e d o w') (AG Fd Mp b5 e d) (fuel+1) li a w:=
 anyCH_take jg (fun _ _ h r=>AG.rely H h r) (fun _ _ _ h r=>⟨h.1,h.2.1,AF.rely H h.2.2 r⟩) F M C hr N B h
theorem aci{P:aN}{R:ae->ae->Prop}{D:ae->ae->Array _->Prop}{ops:Array _}{K:Act->ae->Prop}{a:Act}{o:Oper}(A:ops[i]?=some o)(hw:dJ o (ey ops a.tmps)=true)
  (h:∀w1,R w w1->∀Z:Result _->Prop,(∀w',D w1 w' (listed P fn a o w1)->K (a.put o.dst ak) w'->Z (.ok .skip w'))->Z ((ax a.eval o).run P w1)):OpC P R D fn ops i K a w:=by
 unfold OpC;rw[A];dsimp only;rw[if_pos hw];exact fun w1 hr=>h w1 hr _ fun w' I h2=>⟨I,h2⟩
theorem Ha{w1:ae}{b g:Nat}(h:Env.Eff g w w1)(hb:b≠g):w1.cell? ⟨b,i,none⟩=w.cell? ⟨b,i,none⟩:=by
 simp[aJ];rw[h.heap b hb]
theorem acj{w1:ae}{es:Array _}(hX:X Mp)(A:S Mp)(h:Env.Eff Mp w w1)(K:∀ev∈es,ev.loc=.obj Mp/\ev.sync=false):DU U S X w w1 es:=
 ⟨⟨fun a _ hx=>h.heap a fun e=>hx (e▸hX),dE h.size.symm,fun a=>⟨.inl,fun y=>y.resolve_right fun z=>by have:=h.size;omega⟩,fun a=>⟨.inl,fun y=>y.resolve_right fun z=>by have:=h.size;omega⟩,fun ev Y=>.inr (.inl ⟨Mp,(K ev Y).1,(K ev Y).2,.inl ⟨A,fun _=>hX⟩⟩),h.tape,h.env,h.output⟩,fun ev Y a H=>by simp_all⟩
theorem aim(H:tJ U S Fd Mp b5)(hX:X Mp)(V:Fd≠Mp)(O:b5≠Mp)(dd:List br)(v1 A B C:ah)(u:Nat->ah)(o':Option Obj)
  (Lh:∀w,w.heap[Mp]?=o->∃v w',(aK 166 (.map (some Mp)) (.int .i64 e) (.int .i64 d)).run af w=.ok v w'/\Env.Eff Mp w w'/\w'.heap[Mp]?=o')
  (h:∀w,w.heap[Mp]?=o->∀ev∈aP af (aK 166 (.map (some Mp)) (.int .i64 e) (.int .i64 d)) w #[],ev.loc=.obj Mp/\ev.sync=false):
  ∃k,∀w,AF Fd Mp b5 e d o w->Lg.wpC af false (RU U S) (DU U S X) 140 k (fun ex a' w'=>ex=.normal/\(∃F,a'=⟨jN Fd b5 v1 A B C F,dd⟩)/\AF Fd Mp b5 e d o' w') ⟨jN Fd b5 v1 A B C u,dd⟩ w:=by
 have I:∀(t:Array ah) (F:Nat->ah),t=jN Fd b5 v1 A B C F->(fun(a':Act)=>∃F,a'=⟨jN Fd b5 v1 A B C F,dd⟩) ⟨t,dd⟩:=fun t F g=>⟨F,by rw[g]⟩;generalize L:(fun(a':Act)=>∃F,a'=⟨jN Fd b5 v1 A B C F,dd⟩)=f at I;rw[show(fun(ex:Exit) (a':Act) (w':ae)=>ex=.normal/\(∃F,a'=⟨jN Fd b5 v1 A B C F,dd⟩)/\AF Fd Mp b5 e d o' w')=fun ex a' w'=>ex=.normal/\f a'/\AF Fd Mp b5 e d o' w' by rw[<-L]];clear L
 co_apply Exists.intro
 intro w R;have hF:AG Fd Mp b5 e d w:=⟨R.m,R.c0,R.c1⟩;have M:=R.o;clear R;unfold Lg aV;dsimp only;rw[show jN Fd b5 v1 A B C u=_ from rfl];simp only[jN]
 co_apply wpC_region_held (jg (U:=U) (S:=S) (X:=X)) lets (S:=AG Fd Mp b5 e d) (by first|kernel_rfl|rfl)
 intro w1 G;replace hF:=AG.rely H (AG.rely H hF G) (S9 w1);replace M:=((G.kept Mp H.mp).eq H.um).trans M;replace M:({w1 with drawn:=w1.drawn+1}:ae).heap[Mp]?=o:=M;generalize({w1 with drawn:=w1.drawn+1}:ae)=r at *;clear G w1;refine vk H (i:=0) (v:=.pointer (some ⟨Fd,0,none⟩)) rfl (by decide+kernel) (by decide+kernel) (by decide+kernel) (.inl ⟨by rfl,fun w2 hw=>⟨aA (fun K Y=>by go_simp;exact Y),by co_quiet (jg (U:=U) (S:=S) (X:=X))⟩⟩) hF ?_;try walk_nrm
 refine vk H (i:=1) (v:=.pointer (some ⟨Fd,0,none⟩)) rfl (by decide+kernel) (by decide+kernel) (by decide+kernel) (.inl ⟨by rfl,fun w2 hw=>⟨aA (fun K Y=>by go_simp;exact Y),by co_quiet (jg (U:=U) (S:=S) (X:=X))⟩⟩) hF ?_;try walk_nrm
 refine vk H (i:=2) (v:=.pointer (some ⟨Fd,2,none⟩)) rfl (by decide+kernel) (by decide+kernel) (by decide+kernel) (.inl ⟨by rfl,fun w2 hw=>⟨aA (fun K Y=>by go_simp;exact Y),by co_quiet (jg (U:=U) (S:=S) (X:=X))⟩⟩) hF ?_;try walk_nrm
 refine vk H (i:=3) (v:=.map (some Mp)) rfl (by decide+kernel) (by decide+kernel) (by decide+kernel) (.inl ⟨by rfl,fun w2 hw=>⟨aA (fun K Y=>by have P:=hw.m;go_simp;exact Y),ti (by have P:=hw.m;co_evs (exact .inl ⟨_,rfl,rfl,rfl,H.fd,H.u2⟩))⟩⟩) hF ?_;try walk_nrm
 refine vk H (i:=4) (v:=.pointer (some ⟨b5,0,none⟩)) rfl (by decide+kernel) (by decide+kernel) (by decide+kernel) (.inl ⟨by rfl,fun w2 hw=>⟨aA (fun K Y=>by go_simp;exact Y),by co_quiet (jg (U:=U) (S:=S) (X:=X))⟩⟩) hF ?_;try walk_nrm
 refine vk H (i:=5) (v:=.int .i64 e) rfl (by decide+kernel) (by decide+kernel) (by decide+kernel) (.inl ⟨by rfl,fun w2 hw=>⟨aA (fun K Y=>by have P:=hw.c0;go_simp;exact Y),ti (by have P:=hw.c0;co_evs (exact .inl ⟨_,rfl,rfl,rfl,H.b,H.ub 0⟩))⟩⟩) hF ?_;try walk_nrm
 refine vk H (i:=6) (v:=.pointer (some ⟨b5,1,none⟩)) rfl (by decide+kernel) (by decide+kernel) (by decide+kernel) (.inl ⟨by rfl,fun w2 hw=>⟨aA (fun K Y=>by go_simp;exact Y),by co_quiet (jg (U:=U) (S:=S) (X:=X))⟩⟩) hF ?_;try walk_nrm
 refine vk H (i:=7) (v:=.int .i64 d) rfl (by decide+kernel) (by decide+kernel) (by decide+kernel) (.inl ⟨by rfl,fun w2 hw=>⟨aA (fun K Y=>by have P:=hw.c1;go_simp;exact Y),ti (by have P:=hw.c1;co_evs (exact .inl ⟨_,rfl,rfl,rfl,H.b,H.ub 1⟩))⟩⟩) hF ?_;try walk_nrm
 refine anyCH_all (rs:=[8]) (by decide+kernel) (by simp) fun i j=>?_;simp only[cO]at j;subst j;refine aci rfl (by rfl) fun w1 Q Z q=>?_;have N:w1.heap[Mp]?=o:=((Q.kept Mp H.mp).eq H.um).trans M;have J:=AG.rely H hF Q;obtain⟨v,w',c,D,E⟩:=Lh w1 N;have l:=h w1 N;have T:AG Fd Mp b5 e d w':=⟨(Ha D V).trans J.m,(Ha D O).trans J.c0,(Ha D O).trans J.c1⟩;have W:=q w' (acj hX H.mp D fun ev p=>by
  have z:=da p;simp[go_sem]at z;exact l ev z) ⟨T,anyCH_done (by first|kernel_rfl|decide+kernel) ⟨rfl,I _ _ (Ao Fd b5 v1 A B C _ _ _ _ _ _ _ _ _ _ _ _ _ _ _ _ _ _ _ _ _ _ _ _ _ _ _ _ _ _ _ _ _ _ _ _ _ _ _ _ _ _),T.m,T.c0,T.c1,E⟩ _⟩
 clear q
 go_simp
 exact W
end
noncomputable def BA:=match aV.body with
 |some (.seq _ (.seq _ (.seq _ (.block _ (.loop (.seq _ (.seq _ (.seq (.block _ (.seq _ (.seq _ (.seq Y _)))) _))))))))=>Y
 |_=>.skip
section
variable{U:Nat->Nat->Prop}{S X:Nat->Prop}{Fd Mp b5:Nat}{e d:Int}{o:Option Obj}
theorem agl(H:tJ U S Fd Mp b5)(dd:List br)(v1 K A B:ah)(u:Nat->ah)(M:u 7=.bool false):
  ∃k,∀w,AF Fd Mp b5 e d o w->BA.wpC af false (RU U S) (DU U S X) 140 k (fun ex a' w'=>ex=.normal/\(∃C,C 38=.bool true/\a'=⟨jN Fd b5 v1 K A B C,dd⟩)/\AF Fd Mp b5 e d o w') ⟨jN Fd b5 v1 K A B u,dd⟩ w:=by
 have Y:∀(t:Array ah) (C:Nat->ah) (w':ae),t=jN Fd b5 v1 K A B C->C 38=.bool true->AF Fd Mp b5 e d o w'->(fun(ex:Exit) (a':Act) w'=>ex=.normal/\(∃C,C 38=.bool true/\a'=⟨jN Fd b5 v1 K A B C,dd⟩)/\AF Fd Mp b5 e d o w') .normal ⟨t,dd⟩ w':=fun t C w' R I F=>⟨rfl,⟨C,I,by rw[R]⟩,F⟩
 co_apply Exists.intro
 intro w hF;simp only[jN,M];have D:∀{w w1:ae},AF Fd Mp b5 e d o w->RU U S w w1->AF Fd Mp b5 e d o w1:=fun h r=>AF.rely H h r
 co_reg (jg (U:=U) (S:=S) (X:=X))
 co_op D hF (co_quiet (jg (U:=U) (S:=S) (X:=X)))
 co_op D hF (co_quiet (jg (U:=U) (S:=S) (X:=X)))
 co_op D hF (co_quiet (jg (U:=U) (S:=S) (X:=X)))
 co_apply db (jg (U:=U) (S:=S) (X:=X)) rfl (by rfl)
 co_apply db (jg (U:=U) (S:=S) (X:=X)) rfl (by rfl)
 co_apply db (jg (U:=U) (S:=S) (X:=X)) rfl (by rfl)
 try walk_nrm
 co_apply db (jg (U:=U) (S:=S) (X:=X)) rfl (by rfl)
 co_op D hF (co_quiet (jg (U:=U) (S:=S) (X:=X)))
 co_apply opsC_nil (jg (U:=U))
 exact Y _ _ _ (Ao Fd b5 v1 K A B _ _ _ _ _ _ _ _ _ _ _ _ _ _ _ _ _ _ _ _ _ _ _ _ _ _ _ _ _ _ _ _ _ _ _ _ _ _ _ _ _ _) rfl hF
theorem aes(H:tJ U S Fd Mp b5)(dd:List br)(v1 K A B:ah)(u:Nat->ah)(N:u 7=.bool true)(x:Int)(M:u 6=.int .i64 x):
  ∃k,∀w,AF Fd Mp b5 e d o w->BA.wpC af false (RU U S) (DU U S X) 140 k (fun ex a' w'=>ex=.normal/\(∃C,C 38=.bool (decide (d<x))/\a'=⟨jN Fd b5 v1 K A B C,dd⟩)/\AF Fd Mp b5 e d o w') ⟨jN Fd b5 v1 K A B u,dd⟩ w:=by
 have D:∀(t:Array ah) (C:Nat->ah) (w':ae),t=jN Fd b5 v1 K A B C->C 38=.bool (decide (d<x))->AF Fd Mp b5 e d o w'->(fun(ex:Exit) (a':Act) (w':ae)=>ex=.normal/\(∃C,C 38=.bool (decide (d<x))/\a'=⟨jN Fd b5 v1 K A B C,dd⟩)/\AF Fd Mp b5 e d o w') .normal ⟨t,dd⟩ w':=fun t C w' R I F=>⟨rfl,⟨C,I,by rw[R]⟩,F⟩
 co_apply Exists.intro
 intro w hF;unfold BA aV;dsimp only;simp only[jN,N,M];have Y:∀{w w1:ae},AF Fd Mp b5 e d o w->RU U S w w1->AF Fd Mp b5 e d o w1:=fun h r=>AF.rely H h r
 co_reg (jg (U:=U) (S:=S) (X:=X))
 co_op Y hF (co_quiet (jg (U:=U) (S:=S) (X:=X)))
 co_op Y hF (co_quiet (jg (U:=U) (S:=S) (X:=X)))
 co_op Y hF (co_quiet (jg (U:=U) (S:=S) (X:=X)))
 co_op Y hF (co_quiet (jg (U:=U) (S:=S) (X:=X)))
 co_opw Y hF (have J:=hF.c1) (exact ti (by have J:=hF.c1;co_evs (exact .inl ⟨_,rfl,rfl,rfl,H.b,H.ub 1⟩)))
 co_op Y hF (co_quiet (jg (U:=U) (S:=S) (X:=X)))
 co_op Y hF (co_quiet (jg (U:=U) (S:=S) (X:=X)))
 co_op Y hF (co_quiet (jg (U:=U) (S:=S) (X:=X)))
 co_apply opsC_nil (jg (U:=U) (S:=S) (X:=X))
 exact D _ _ _ (Ao Fd b5 v1 K A B _ _ _ _ _ _ _ _ _ _ _ _ _ _ _ _ _ _ _ _ _ _ _ _ _ _ _ _ _ _ _ _ _ _ _ _ _ _ _ _ _ _) rfl hF
end
section
variable{P:aN}{main:Bool}{U:Nat->Nat->Prop}{D:(Nat->Prop)->(Nat->Prop)->ay->ae->Prop}{S X:Nat->Prop}{b:aj}{a:Act}{k:List Item}{cs:List aj}{w:ae}
theorem Tz.op{ops:Array _}{rest:List Nat}{o:Oper}(A:ops[i]?=some o)(hw:dJ o (ey ops a.tmps)=true)(hk:b.kind≠.early)
  (h:∀w2,gI U S w w2->uponK o a (fun a' w'=>∃S1 X1,jY U S X w2 w' (listed P b.fn a o w2) S1 X1/\Tz P main U D S1 X1 (G (b.at a' (.inRegion ops rest::k)) cs) w') ((ax a.eval o).run P w2)):
  Tz P main U D S X (G (b.at a (.inRegion ops (i::rest)::k)) cs) w:=by
 refine Tz.one rfl fun w2 hr=>?_;have Y:(aT P main (G (b.at a (.inRegion ops (i::rest)::k)) cs) w2).goes fun K w' es=>∃S1 X1,jY U S X w2 w' es S1 X1/\Tz P main U D S1 X1 K w':=by
  refine goes_oper A hw hk ?_;have:=h w2 hr;revert this;cases(ax _ o).run P w2 with
  |ok x w'=>cases x<;>exact id
  |halt _ _=>exact id
 revert Y;generalize aT P _ _ w2=s;intro Y;cases s with
 |go K w' es=>
  obtain⟨S1,X1,I,h2⟩:=Y;exact⟨K,w',es,S1,X1,rfl,I,h2⟩
 |_=>exact Y.elim
theorem Tz.xM{ops:Array _}{rest:List Nat}{o:Oper}(A:ops[i]?=some o)(hw:dJ o (ey ops a.tmps)=true)(hk:b.kind≠.early)
  (h:∀w2,gI U S w w2->∀K,(∀a' w',(∃S1 X1,jY U S X w2 w' (listed P b.fn a o w2) S1 X1/\Tz P main U D S1 X1 (G (b.at a' (.inRegion ops rest::k)) cs) w')->K a' w')->uponK o a K ((ax a.eval o).run P w2)):
  Tz P main U D S X (G (b.at a (.inRegion ops (i::rest)::k)) cs) w:=
 Tz.op A hw hk fun w2 hr=>h w2 hr _ fun _ _ x=>x
theorem Tz.quiet{g:ay}(K:g.status=.running)(e:∀w,aT P main g w=.go g1 w #[])(h:∀w2,gI U S w w2->Tz P main U D S X g1 w2):Tz P main U D S X g w:=
 Tz.one K fun w2 hr=>⟨g1,w2,#[],S,X,e w2,iW _ _ _,h w2 hr⟩
theorem Tz.region{id:Nat}{ops:Array _}(h:∀w2,gI U S w w2->Tz P main U D S X (G (b.at a (.inRegion ops (dB ops.size)::k)) cs) w2):Tz P main U D S X (G (b.at a (.code (.region id ops false)::k)) cs) w:=
 Tz.quiet rfl (fun w=>stepG_region) h
theorem Tz.GL{ops:Array _}(h:∀w2,gI U S w w2->Tz P main U D S X (G (b.at a k) cs) w2):Tz P main U D S X (G (b.at a (.inRegion ops []::k)) cs) w:=
 Tz.quiet rfl (fun w=>stepG_region_end) h
end
def lO(Fd:Nat)(v1 v5 K A B:ah)(u:Nat->ah):=#[.pointer (some ⟨Fd,0,none⟩),v1,u 2,u 3,u 4,v5,u 6,u 7,u 8,u 9,u 10,u 11,u 12,u 13,u 14,K,A,B,u 18,u 19,u 20,u 21,u 22,u 23,u 24,u 25,u 26,u 27,u 28,u 29,u 30,u 31,u 32,u 33,u 34,u 35,u 36,u 37,u 38,u 39,u 40,u 41,u 42,u 43,u 44,u 45,u 46,u 47]
noncomputable def Li:=match aV.body with
 |some (.seq _ (.seq _ (.seq _ (.block _ (.loop (.seq _ (.seq _ (.seq (.block _ (.seq Y _)) _))))))))=>Y
 |_=>.skip
section
variable{U:Nat->Nat->Prop}{D:(Nat->Prop)->(Nat->Prop)->ay->ae->Prop}{S X:Nat->Prop}{Fd g:Nat}{e d:Int}
theorem GM(o:Obj):jY U S X w (w.alloc o) #[] (fun a=>S a\/a=w.heap.size) (fun a=>X a\/a=w.heap.size):=by
 have H:(w.alloc o).heap.size=w.heap.size+1:=by simp
 refine⟨⟨fun a Y _=>aI w o Y,by omega,fun a=>?_,fun a=>?_,fun e K=>by simp_all,rfl,.refl _,rfl⟩,fun e K=>by simp_all⟩
 ·exact⟨fun h=>h.imp id fun y=>by omega,fun h=>h.imp id fun y=>by omega⟩
 ·exact⟨fun h=>h.imp id fun y=>by omega,fun h=>h.imp id fun y=>by omega⟩
theorem GN{w1:ae}{b:Nat}{es:Array _}(B:S b)(hX:X b)(C:∀i,¬U b i)(h:Env.Eff b w w1)(A:∀ev∈es,∃a:Addr,ev.loc=.cell a/\ev.sync=false/\a.block=b):jY U S X w w1 es S X:=
 ⟨⟨fun a _ hx=>h.heap a fun e=>hx (e▸hX),dE h.size.symm,fun a=>⟨.inl,fun y=>y.resolve_right fun z=>by have:=h.size;omega⟩,fun a=>⟨.inl,fun y=>y.resolve_right fun z=>by have:=h.size;omega⟩,fun ev K=>by
  obtain⟨a,I,h2,Y⟩:=A ev K;exact .inl ⟨a,I,h2,.inl ⟨Y▸B,fun _=>Y▸hX⟩⟩,h.tape,h.env,h.output⟩,fun ev K a H=>by
  obtain⟨a',I,h2,Y⟩:=A ev K;simp_all⟩
theorem rW{b:Nat}(v:ah):Env.Eff b w (w.setCell ⟨b,i,none⟩ v):=⟨fun a Y=>heap_setCell_other w _ a v Y,by simp,rfl,.refl _,rfl⟩
theorem Cm{w1:ae}{b:Nat}(h:Env.Eff b w w1)(k:Env.Eff b w1 w2):Env.Eff b w w2:=⟨fun a Y=>(k.heap a Y).trans (h.heap a Y),k.size.trans h.size,k.tape.trans h.tape,k.env.trans h.env,k.output.trans h.output⟩
theorem ain{b:aj}{k:List Item}(hb:b.fn=140)(hk:b.kind≠.early)(dd:List br)(v1 v5 T:ah)(u:Nat->ah)(i n cap:Nat)(hi:i<n)(V:S g)
  (hc:∀w2,gI U S w w2->w2.cell? ⟨g,i *2,none⟩=some (.int .i64 e)/\w2.cell? ⟨g,i *2+1,none⟩=some (.int .i64 d))(h:∀i,¬U g i)(zq:∀b i,U b i->b<w.heap.size)(W:∀a,S a->a<w.heap.size)
  (cont:∀F w2 u',w.heap.size<=F->(∀i,¬U F i)->w2.cell? ⟨F,0,none⟩=some (.int .i64 e)->w2.cell? ⟨F,1,none⟩=some (.int .i64 d)->F<w2.heap.size->gI U S w w2->
   Tz af false U D (fun a=>S a\/a=F) (fun a=>X a\/a=F) (G (b.at ⟨jN Fd F v1 (.slice (some ⟨g,0,none⟩) n cap) T (.int .i64 (i:Int)) u',dd⟩ k) cs) w2):
  Tz af false U D S X (G (b.at ⟨lO Fd v1 v5 (.slice (some ⟨g,0,none⟩) n cap) T (.int .i64 (i:Int)) u,dd⟩ (.code Li::k)) cs) w:=by
 have x:(i:Int)<(n:Int):=by omega
 have m:(0:Int)<=(i:Int):=Int.natCast_nonneg _;unfold Li aV;dsimp only;simp only[lO];refine Tz.region fun w1 L=>?_;refine Tz.xM rfl (by rfl) hk fun w2 M K H=>?_
 go_simp
 refine H _ _ ⟨S,X,?_,?_⟩
 ·rw[cy (by simp[go_sem, *])];exact iW _ _ _
 clear H K;try walk_nrm
 refine Tz.xM rfl (by rfl) hk fun w3 N K H=>?_;obtain⟨t,e1⟩:=hc w3 ((L.trans M).trans N)
 go_simp
 refine H _ _ ⟨S,X,ti fun ev f=>?_,?_⟩
 ·have E:=da f;simp[go_sem, *]at E;rcases E with rfl|rfl
  ·exact .inl ⟨_,rfl,rfl,rfl,V,h _⟩
  ·exact .inl ⟨_,rfl,rfl,rfl,V,h _⟩
 clear H K;try walk_nrm
 refine Tz.xM rfl (by rfl) hk fun w4 q K H=>?_
 go_simp
 refine H _ _ ⟨_,_,(by rw[cy (by simp[go_sem, *])];exact GM _),?_⟩;clear H K;try walk_nrm
 have C:∀i,¬U w4.heap.size i:=fun j v=>by
  have I:=zq _ _ v;have h2:=(((L.trans M).trans N).trans q).grow;omega
 have Z:(w4.alloc (.cells #[.int .i64 0,.int .i64 0] 173)).heap[w4.heap.size]?=some (.cells #[.int .i64 0,.int .i64 0] 173):=aM w4 _;refine Tz.xM rfl (by rfl) hk fun J O K H=>?_;have R:=((O.kept _ (.inr rfl)).eq C).trans Z;have f0:J.cell? ⟨w4.heap.size,0,none⟩=some (.int .i64 0):=by rw[au _ _ 0 _ _ _ R];rfl
 have f1:J.cell? ⟨w4.heap.size,1,none⟩=some (.int .i64 0):=by rw[au _ _ 1 _ _ _ R];rfl
 have z0:J.frozen? ⟨w4.heap.size,0,none⟩=false:=aW _ _ 0 _ _ R;have z1:J.frozen? ⟨w4.heap.size,1,none⟩=false:=aW _ _ 1 _ _ R
 go_simp
 try(unfold stored;go_simp)
 have A:Env.Eff w4.heap.size J ((J.setCell ⟨w4.heap.size,0,none⟩ (.int .i64 e)).setCell ⟨w4.heap.size,1,none⟩ (.int .i64 d)):=Cm (rW _) (rW _);have c:((J.setCell ⟨w4.heap.size,0,none⟩ (.int .i64 e)).setCell ⟨w4.heap.size,1,none⟩ (.int .i64 d)).heap[w4.heap.size]?=some (.cells #[.int .i64 e,.int .i64 d] 173):=by
  have I:=bN J w4.heap.size 0 _ _ (.int .i64 e) R;rw[bN _ w4.heap.size 1 _ _ (.int .i64 d) I];rfl
 refine H _ _ ⟨_,_,GN (.inr rfl) (.inr rfl) C A fun ev f=>?_,?_⟩
 ·have E:=da f;simp[go_sem, *]at E;rcases E with rfl|rfl
  ·exact⟨_,rfl,rfl,rfl⟩
  ·exact⟨_,rfl,rfl,rfl⟩
 clear H K;try walk_nrm
 refine Tz.GL fun z P=>?_;have Y:=((L.trans M).trans N).trans q;have B:z.heap[w4.heap.size]?=some (.cells #[.int .i64 e,.int .i64 d] 173):=((P.kept _ (.inr rfl)).eq C).trans c;have l:w4.heap.size<z.heap.size:=cQ fun y=>by rw[bO y]at B;cases B
 have o:∀a,S a->a≠w4.heap.size:=fun a Q ee=>by
  have I:=W a Q;have h2:=Y.grow;omega
 have p:gI U S w z:=by
  refine Y.trans ⟨fun a Q=>?_,by omega,?_⟩
  ·have r:=O.kept a (.inl Q);have s:=P.kept a (.inl Q);rw[aI w4 _ (by have I:=W a Q;have h2:=Y.grow;omega)]at r;rw[A.heap a (o a Q)]at s;exact r.trans s
  ·exact P.env.trans (A.env.trans O.env)
 rw[Ao Fd w4.heap.size v1 _ T _ _ _ _ _ _ _ _ _ _ _ _ _ _ _ _ _ _ _ _ _ _ _ _ _ _ _ _ _ _ _ _ _ _ _ _ _ _ _ _ _ _ _];exact cont w4.heap.size z _ Y.grow C (by rw[au _ _ 0 _ _ _ B];rfl) (by rw[au _ _ 1 _ _ _ B];rfl) l p
end
theorem Iy:j7 PR (isAgg 214)=some false:=by kernel_rfl
theorem A3:j7 PR (isAgg 3)=some false:=by kernel_rfl
theorem yX:(PR.funcs[137]?).any (·.norace)=false:=by kernel_rfl
theorem u213:PR.underlying 213=some (.slice (PR.elem 213)):=by kernel_rfl
theorem z213:(PR.info? (PR.elem 213)).map (·.size)=some 1:=by kernel_rfl
theorem u25:PR.underlying 25=some (.slice (PR.elem 25)):=by kernel_rfl
theorem z25:(PR.info? (PR.elem 25)).map (·.size)=some 1:=by kernel_rfl
theorem y1:yes lr=.code .skip::lr.tail:=by kernel_rfl
theorem n1:no lr=.code (.exit 0)::lr.tail:=by kernel_rfl
theorem y2:yes lI=.code .skip::lI.tail:=by kernel_rfl
theorem n2:no lI=.code (.exit 2)::lI.tail:=by kernel_rfl
theorem y3:yes lJ=.code .skip::lJ.tail:=by kernel_rfl
theorem n3:no lJ=.code (.exit 4)::lJ.tail:=by kernel_rfl
theorem t1:lr=.code (.cond (.tmp 18) .skip (.exit 0))::lr.tail:=by kernel_rfl
theorem t2:lI=.code (.cond (.tmp 34) .skip (.exit 2))::lI.tail:=by kernel_rfl
theorem t3:lJ=.code (.cond (.tmp 49) .skip (.exit 4))::lJ.tail:=by kernel_rfl
theorem agm{b:Option _}{len Wg Gv:Nat}{J:Nat->ah}{c:aj}{cs:List _}:gC PR 3 ((dF E4 (ic (gM b len cap) n work Wg Gv) J).finish unit) (c::cs)=(c.finish unit,cs):=by kernel_rfl
theorem Qy(P:aN):∀n m f l,gC P (n+m) f l=gC P m (gC P n f l).1 (gC P n f l).2
 |0,m,f,l=>by rw[bS];rfl
 |n+1,m,f,l=>by
  rw[show n+1+m=(n+m)+1 by omega];cases e:ot P f l with
  |some x=>
   obtain⟨f1,l1⟩:=x;have I:gC P (n+m+1) f l=gC P (n+m) f1 l1:=by simp[gC,e]
   have h2:gC P (n+1) f l=gC P n f1 l1:=by simp[gC,e]
   rw[I,h2];exact Qy P n m f1 l1
  |none=>
   cases m with
   |zero=>rfl
   |succ m=>simp[gC,e]
theorem ky.less{site:List _}{s s':Nat->Option _}(h:ky fn n site s f)(K:∀i v,s' i=some v->s i=some v):ky fn n site s' f:=⟨h.fn,h.todo,h.defers,h.mode,h.kind,h.round,h.size,fun i v e=>h.slot i v (K i v e)⟩
theorem ky.ki{site uL:List _}{s:Nat->Option _}(h:ky fn n site s f):ky fn n uL s {f with todo:=uL}:=⟨h.fn,rfl,h.defers,h.mode,h.kind,h.round,h.size,h.slot⟩
theorem wq{a b:List _}(h:sA a i=some v):sA (a++b) i=some v:=by
 unfold sA at h⊢;rw[List.lookup_append,h];rfl
def oH(R:List Nat)(n:Nat):=(R.map (fun c=>ei (some c))++List.replicate (n-R.length) (ei none)).toArray
theorem aau(R:List Nat)(n:Nat)(h:R.length<=n):(oH R n).size=n:=by simp[oH];omega
theorem ack(R:List Nat)(n c:Nat)(h:R.length<n):(oH R n).setIfInBounds R.length (.chan (some c))=oH (R++[c]) n:=by
 unfold oH;rw[show n-R.length=(n-(R++[c]).length)+1 by simp;omega,List.replicate_succ];simp
theorem HV{c:Nat}(h:R[i]?=some c):(oH R n)[i]?=some (.chan (some c)):=by
 unfold oH;have Y:=(List.getElem?_eq_some_iff.1 h).1;rw[eW,List.getElem?_append_left (by simp_all),eV,h];rfl
section
variable(E:Env)(RO:Nat->Prop)(jG:ae)(Gv n:Nat)
def sE(w:ae):=gI E.U RO jG w
structure DW(R L:List Nat)(S X:Nat->Prop)(w:ae):Prop where
 ro:∀a,RO a->S a
 mB:∀a,RO a->¬X a
 gs:S Gv
 gx:X Gv
 gv:w.heap[Gv]?=some (.cells (oH R n) 214)
 fx:sE E RO jG w
 low:∀a,S a->a<w.heap.size
 vm:∀c∈L,¬S c/\c<w.heap.size
end
section
variable{E:Env}{RO:Nat->Prop}{jG:ae}{Gv n:Nat}{R L:List Nat}{S X:Nat->Prop}{w w2:ae}
theorem DW.rely(A:∀i,¬E.U Gv i)(h:DW E RO jG Gv n R L S X w)(hr:gI E.U S w w2):DW E RO jG Gv n R L S X w2:=
 ⟨h.ro,h.mB,h.gs,h.gx,((hr.kept Gv h.gs).eq A).trans h.gv,bB h.fx ⟨fun a Y=>hr.kept a (h.ro a Y),hr.grow,hr.env⟩,fun a Y=>aD (h.low a Y) hr.grow,fun c K=>⟨(h.vm c K).1,aD (h.vm c K).2 hr.grow⟩⟩
theorem DW.lG(A:Gv≠E.Wg)(h:DW E RO jG Gv n R L S X w){v wt ws v' gY gV:Nat}(I:E.WgAt w v wt ws)(K:Env.Eff E.Wg w w2)(h2:E.WgAt w2 v' gY gV):DW E RO jG Gv n R L S X w2:=
 ⟨h.ro,h.mB,h.gs,h.gx,(K.heap _ A).trans h.gv,bB h.fx (HD RO I h2 K),fun a Y=>by rw[K.size];exact h.low a Y,fun c H=>by rw[K.size];exact h.vm c H⟩
end
theorem Aa(h:j<1000000000):bW.wrap (j+1)=((j+1:Nat)):=by
 rw[Go.IntWalk.i64_in _ (by omega)];omega
section
variable(E:Env)(RO:Nat->Prop)(jG:ae)(work:ah)(c:aj)(cs:List aj)
def S_(ch:Nat)(g:ay)(w:ae):=g=G (HH ch E.Wg work) []/\sE E RO jG w
def Ta(S X:Nat->Prop)(g:ay)(w:ae):=∃n f l,g=G f l/\gC PR n f l=(c.finish unit,cs)/\sE E RO jG w/\(∀a,RO a->S a)/\(∀a,RO a->¬X a)
end
section
variable{E:Env}{RO:Nat->Prop}{jG:ae}{Gv:Nat}{J:im}{b:Option Addr}{cap:Nat}{work:ah}{c:aj}{cs:List aj}
structure Dl(E:Env)(RO:Nat->Prop)(jG:ae)(Gv:Nat)(J:im)(b:Option Addr):Prop where
 n0:0<J.n
 n8:J.n<=8
 len:J.gB.length<1000000
 nu:∀i,¬E.U Gv i
 gw:Gv≠E.Wg
 gro:¬RO Gv
 Lj:RO E.Wg
 Fh:E.pe jG
 ajM:∀a i,E.U a i->a<jG.heap.size
 num:∀i x:Nat,J.gB[i]?=some x->∃Nb o,b=some ⟨Nb,o,none⟩/\RO Nb/\¬E.U Nb (o+i)/\∀w,sE E RO jG w->w.cell? ⟨Nb,o+i,none⟩=some (.int .i64 (x:Int))
abbrev qR(E:Env)(J:im)(b:Option _)(cap:Nat)(work:ah)(Gv:Nat):=ic (gM b J.gB.length cap) J.n work E.Wg Gv
abbrev TD(E:Env)(RO:Nat->Prop)(jG:ae)(J:im)(work:ah)(c:aj)(cs:List _)(k:Nat)(d:jj)(S X:Nat->Prop)(f:aj)(w:ae):=
 E.Tree PR true (E.ll PR J (S_ E RO jG work) (Ta E RO jG c cs) k d) S X (G f (c::cs)) w
theorem aio(D:Dl E RO jG Gv J b)(hL:L.length=J.n):∀(m i:Nat),i+m=J.n->∀(k:Nat) (S X:Nat->Prop) (f:aj) (w:ae),ky 137 55 lJ (sA (pB (qR E J b cap work Gv) Gv J.n i)) f->f.tmps.getD 49 ak=.bool (decide (i<J.n))->DW E RO jG Gv J.n L L S X w->
  TD E RO jG J work c cs k (J.closes L i) S X f w:=by
 intro m;induction m with
 |zero=>
  intro i hi k S X f w H K hw;have W:J.closes L i=.kd:=by unfold eo;rw[if_neg (by omega)]
  rw[W];rw[decide_eq_false (by omega)]at K;refine Tz.one rfl fun w1 M=>⟨_,w1,#[],S,X,vW H.mode H.round (by rw[H.kind];nofun) (H.todo.trans t3) K,iW _ _ _,?_⟩;have C:ky 137 55 (no lJ) (sA (pB (qR E J b cap work Gv) Gv J.n i)) {f with todo:=.code (.exit 4)::lJ.tail}:=by
   have:=H.ki (uL:=.code (.exit 4)::lJ.tail);rw[<-n3]at this;rw[<-n3];exact this
  change E.Tree PR true _ S X (G {f with todo:=.code (.exit 4)::lJ.tail} (c::cs)) w1;rw[C.eq];generalize(fun i=>({f with todo:=.code (.exit 4)::lJ.tail}:aj).tmps.getD i ak)=R;refine az 60 fun w2 N=>?_;change E.Tree PR true _ S X (G (KW b J.gB.length cap J.n i E.Wg Gv work R (c::cs)).1 (KW b J.gB.length cap J.n i E.Wg Gv work R (c::cs)).2) w2;have Y:=jO (rc2 (b:=b) (len:=J.gB.length) (cap:=cap) (n:=J.n) (i:=i) (Wg:=E.Wg) (Gv:=Gv) (work:=work) (J:=R) (l:=c::cs)) rfl;rw[Y.callers,Y.fr.eq];refine Tz.pure 1 fun w3 O=>?_;rw[ah1];have y:=((hw.rely D.nu M).rely D.nu N).rely D.nu O;refine Env.aee ⟨fun h hr=>h.rely D.nu hr,fun h=>Env.pe.rely D.Fh D.Lj h.fx,fun h I he h2=>h.lG D.gw I he h2⟩ (fun q f' l' w' hF hp=>?_) k y;exact⟨q+3,f',l',rfl,by rw[Qy,hp];exact agm,hF.fx,hF.ro,hF.mB⟩
 |succ m ih=>
  intro i hi k S X f w H K hw;have Q:i<J.n:=by omega
  have W:J.closes L i=.close L i:=by unfold eo;rw[if_pos (by omega)]
  rw[W];rw[decide_eq_true Q]at K;obtain⟨ch,U⟩:∃ch,L[i]?=some ch:=⟨L[i],aO (by omega)⟩;refine Tz.one rfl fun w1 M=>⟨_,w1,#[],S,X,vW H.mode H.round (by rw[H.kind];nofun) (H.todo.trans t3) K,iW _ _ _,?_⟩;have C:ky 137 55 (yes lJ) (sA (pB (qR E J b cap work Gv) Gv J.n i)) {f with todo:=.code .skip::lJ.tail}:=by
   have:=H.ki (uL:=.code .skip::lJ.tail);rw[<-y3]at this;rw[<-y3];exact this
  change E.Tree PR true _ S X (G {f with todo:=.code .skip::lJ.tail} (c::cs)) w1;rw[C.eq];generalize(fun i=>({f with todo:=.code .skip::lJ.tail}:aj).tmps.getD i ak)=R;refine az 60 fun w2 N=>?_;change E.Tree PR true _ S X (G (E9 b J.gB.length cap J.n i E.Wg Gv work R (c::cs)).1 (E9 b J.gB.length cap J.n i E.Wg Gv work R (c::cs)).2) w2;have Y:=jO (ri5 (b:=b) (len:=J.gB.length) (cap:=cap) (n:=J.n) (i:=i) (Wg:=E.Wg) (Gv:=Gv) (work:=work) (J:=R) (l:=c::cs)) rfl;rw[Y.callers,Y.fr.eq];generalize(fun j=>(E9 b J.gB.length cap J.n i E.Wg Gv work R (c::cs)).1.tmps.getD j ak)=V;clear Y;have x:=(hw.rely D.nu M).rely D.nu N;refine Tz.one rfl fun w3 O=>⟨_,w3,#[],S,X,An (i:=i) ah8 (B:=Gv) (o:=0) (n:=J.n) (cap:=J.n) rfl rfl Q u213 z213,iW _ _ _,?_⟩;rw[bS];refine az 60 fun w4 d=>?_;change E.Tree PR true _ S X (G (E_ b J.gB.length cap J.n i E.Wg Gv work V (c::cs)).1 (E_ b J.gB.length cap J.n i E.Wg Gv work V (c::cs)).2) w4;have Y:=jO (rl5 (b:=b) (len:=J.gB.length) (cap:=cap) (n:=J.n) (i:=i) (Wg:=E.Wg) (Gv:=Gv) (work:=work) (J:=V) (l:=c::cs)) rfl;have nf:=Y.load;rw[Y.callers];rw[Y.fr.eq]at nf⊢;generalize(fun j=>(E_ b J.gB.length cap J.n i E.Wg Gv work V (c::cs)).1.tmps.getD j ak)=Z at nf⊢;clear Y;have t:=(x.rely D.nu O).rely D.nu d;refine Tz.one rfl fun w5 g=>?_;have P:=t.rely D.nu g;have A:w5.cell? ⟨Gv,i,none⟩=some (.chan (some ch)):=by
   simp only[aJ,P.gv];exact HV U
  refine⟨_,w5,_,S,X,rP nf Iy A yX,uo P.gs (D.nu _),?_⟩;refine az 60 fun w6 p=>?_;change E.Tree PR true _ S X (G (Fa b J.gB.length cap J.n i E.Wg Gv ch work Z (c::cs)).1 (Fa b J.gB.length cap J.n i E.Wg Gv ch work Z (c::cs)).2) w6;have Y:=jO (rcl (b:=b) (len:=J.gB.length) (cap:=cap) (n:=J.n) (i:=i) (Wg:=E.Wg) (Gv:=Gv) (ch:=ch) (work:=work) (J:=Z) (l:=c::cs)) rfl;rw[Y.callers,Y.fr.eq];generalize(fun j=>(Fa b J.gB.length cap J.n i E.Wg Gv ch work Z (c::cs)).1.tmps.getD j ak)=J4;clear Y;have a:=P.rely D.nu p;refine .stop ?_;cases k with
  |zero=>trivial
  |succ k=>
   refine⟨rfl,rfl,ab8 Sj,ch,U,fun w7 s r gu=>⟨_,rfl,aef Sj rfl gu yX,?_⟩⟩;have T:=a.rely D.nu r;have z:¬S ch:=(T.vm ch (bZ U)).1;have e:DW E RO jG Gv J.n L L S X (w7.setChan ch 0 #[] true s s false):=T.rely D.nu (vD z);refine az 60 fun w9 u=>?_;change E.Tree PR true _ S X (G _ (S5 b J.gB.length cap J.n i E.Wg Gv ch work J4 (c::cs)).2) w9;have Y:=jO (ajE (b:=b) (len:=J.gB.length) (cap:=cap) (n:=J.n) (i:=i) (Wg:=E.Wg) (Gv:=Gv) (ch:=ch) (work:=work) (J:=J4) (l:=c::cs)) rfl;have Km:=D.n8;have F:=Y.fr;rw[Aa (by omega)]at F;rw[Y.callers];refine ih (i+1) (by omega) k S X _ w9 (F.less fun q v hv=>?_) ((F.slot 49 _ rfl).trans ?_) (e.rely D.nu u)
   ·exact wq (b:=[(49,.bool _)]) hv
   ·simp only[dq]
theorem aip(D:Dl E RO jG Gv J b)(hL:L.length=J.n):∀(m i:Nat),i+m=J.gB.length->∀(k:Nat) (S X:Nat->Prop) (f:aj) (w:ae),ky 137 55 lI (sA (pA (qR E J b cap work Gv) (gM b J.gB.length cap) J.gB.length i)) f->f.tmps.getD 34 ak=.bool (decide (i<J.gB.length))->DW E RO jG Gv J.n L L S X w->
  TD E RO jG J work c cs k (J.sends L i) S X f w:=by
 intro m;induction m with
 |zero=>
  intro i hi k S X f w R H hw;have u:J.sends L i=J.closes L 0:=by
   unfold im.sends eo;rw[if_neg (by omega),if_pos (by rw[hL];exact D.n0)]
  rw[u];rw[decide_eq_false (by omega)]at H;refine Tz.one rfl fun w1 N=>⟨_,w1,#[],S,X,vW R.mode R.round (by rw[R.kind];nofun) (R.todo.trans t2) H,iW _ _ _,?_⟩;have F:ky 137 55 (no lI) (sA (pA (qR E J b cap work Gv) (gM b J.gB.length cap) J.gB.length i)) {f with todo:=.code (.exit 2)::lI.tail}:=by
   have:=R.ki (uL:=.code (.exit 2)::lI.tail);rw[<-n2]at this;rw[<-n2];exact this
  change E.Tree PR true _ S X (G {f with todo:=.code (.exit 2)::lI.tail} (c::cs)) w1;rw[F.eq];generalize(fun i=>({f with todo:=.code (.exit 2)::lI.tail}:aj).tmps.getD i ak)=A;refine az 60 fun w2 O=>?_;change E.Tree PR true _ S X (G _ (TQ b J.gB.length cap J.n i E.Wg Gv work A (c::cs)).2) w2;have Y:=jO (rk3 (b:=b) (len:=J.gB.length) (cap:=cap) (n:=J.n) (i:=i) (Wg:=E.Wg) (Gv:=Gv) (work:=work) (J:=A) (l:=c::cs)) rfl;rw[Y.callers];refine aio (cap:=cap) D hL J.n 0 (by omega) k S X _ w2 (Y.fr.less fun q v hv=>?_) ((Y.fr.slot 49 _ rfl).trans ?_) ((hw.rely D.nu N).rely D.nu O)
  ·exact wq hv
  ·congr 1;simp
 |succ m ih=>
  intro i hi k S X f w R H hw;have I:i<J.gB.length:=by omega
  have u:J.sends L i=.send L i:=by unfold im.sends;rw[if_pos I]
  rw[u];rw[decide_eq_true I]at H;obtain⟨x,hx⟩:∃x,J.gB[i]?=some x:=⟨J.gB[i],aO I⟩;obtain⟨Nb,o,hb,t,a,y⟩:=D.num i x hx;have V:i%J.n<J.n:=dH _ D.n0;obtain⟨ch,C⟩:∃ch,L[i%J.n]?=some ch:=⟨L[i%J.n],aO (by omega)⟩;have hlen:=D.len;refine Tz.one rfl fun w1 N=>⟨_,w1,#[],S,X,vW R.mode R.round (by rw[R.kind];nofun) (R.todo.trans t2) H,iW _ _ _,?_⟩;have F:ky 137 55 (yes lI) (sA (pA (qR E J b cap work Gv) (gM b J.gB.length cap) J.gB.length i)) {f with todo:=.code .skip::lI.tail}:=by
   have:=R.ki (uL:=.code .skip::lI.tail);rw[<-y2]at this;rw[<-y2];exact this
  change E.Tree PR true _ S X (G {f with todo:=.code .skip::lI.tail} (c::cs)) w1;rw[F.eq];generalize(fun i=>({f with todo:=.code .skip::lI.tail}:aj).tmps.getD i ak)=A;refine az 60 fun w2 O=>?_;change E.Tree PR true _ S X (G (E5 b J.gB.length cap J.n i E.Wg Gv work A (c::cs)).1 (E5 b J.gB.length cap J.n i E.Wg Gv work A (c::cs)).2) w2;have Y:=jO (ri3 (b:=b) (len:=J.gB.length) (cap:=cap) (n:=J.n) (i:=i) (Wg:=E.Wg) (Gv:=Gv) (work:=work) (J:=A) (l:=c::cs)) rfl;rw[Y.callers,Y.fr.eq];generalize(fun j=>(E5 b J.gB.length cap J.n i E.Wg Gv work A (c::cs)).1.tmps.getD j ak)=T;clear Y;have rE:=(hw.rely D.nu N).rely D.nu O;have W:(dF Bp (Bq (qR E J b cap work Gv) (gM b J.gB.length cap) J.gB.length i) T).eval (.tmp 31)=.slice (some ⟨Nb,o,none⟩) J.gB.length cap:=by
   show gM b J.gB.length cap=_
   rw[hb];rfl
  refine Tz.one rfl fun w3 h=>⟨_,w3,#[],S,X,An (i:=i) ah6 W rfl I u25 z25,iW _ _ _,?_⟩;refine az 60 fun w4 e=>?_;change E.Tree PR true _ S X (G (E6 b J.gB.length cap J.n i E.Wg Gv ⟨Nb,o+i,none⟩ work T (c::cs)).1 (E6 b J.gB.length cap J.n i E.Wg Gv ⟨Nb,o+i,none⟩ work T (c::cs)).2) w4;have Y:=jO (rl3 (b:=b) (len:=J.gB.length) (cap:=cap) (n:=J.n) (i:=i) (Wg:=E.Wg) (Gv:=Gv) (p:=⟨Nb,o+i,none⟩) (work:=work) (J:=T) (l:=c::cs)) rfl;have nf:=Y.load;rw[Y.callers];rw[Y.fr.eq]at nf⊢;generalize(fun j=>(E6 b J.gB.length cap J.n i E.Wg Gv ⟨Nb,o+i,none⟩ work T (c::cs)).1.tmps.getD j ak)=z at nf⊢;clear Y;have tQ:=(rE.rely D.nu h).rely D.nu e;refine Tz.one rfl fun w5 zt=>?_;have P:=tQ.rely D.nu zt;refine⟨_,w5,_,S,X,rP nf A3 (y w5 P.fx) yX,uo (P.ro _ t) a,?_⟩;refine az 60 fun w6 zu=>?_;change E.Tree PR true _ S X (G (RR b J.gB.length cap J.n i x E.Wg Gv ⟨Nb,o+i,none⟩ work z (c::cs)).1 (RR b J.gB.length cap J.n i x E.Wg Gv ⟨Nb,o+i,none⟩ work z (c::cs)).2) w6;have Y:=jO (rr (b:=b) (len:=J.gB.length) (cap:=cap) (n:=J.n) (i:=i) (x:=x) (Wg:=E.Wg) (Gv:=Gv) (p:=⟨Nb,o+i,none⟩) (work:=work) (J:=z) (l:=c::cs)) rfl;rw[Y.callers,Y.fr.eq];generalize(fun j=>(RR b J.gB.length cap J.n i x E.Wg Gv ⟨Nb,o+i,none⟩ work z (c::cs)).1.tmps.getD j ak)=d;clear Y;have hw6:=P.rely D.nu zu;refine Tz.one rfl fun w7 zv=>⟨_,w7,#[],S,X,ab7 (i:=i) (n:=J.n) ajF rfl rfl D.n0 (by omega),iW _ _ _,?_⟩;generalize hm:i%J.n=K at C V⊢;refine az 60 fun w8 zw=>?_;change E.Tree PR true _ S X (G (E7 b J.gB.length cap J.n i x K E.Wg Gv work d (c::cs)).1 (E7 b J.gB.length cap J.n i x K E.Wg Gv work d (c::cs)).2) w8;have Y:=jO (ri4 (b:=b) (len:=J.gB.length) (cap:=cap) (n:=J.n) (i:=i) (x:=x) (m:=K) (Wg:=E.Wg) (Gv:=Gv) (work:=work) (J:=d) (l:=c::cs)) rfl;rw[Y.callers,Y.fr.eq];generalize(fun j=>(E7 b J.gB.length cap J.n i x K E.Wg Gv work d (c::cs)).1.tmps.getD j ak)=g;clear Y;have T9:=(hw6.rely D.nu zv).rely D.nu zw;refine Tz.one rfl fun w9 Bw=>⟨_,w9,#[],S,X,An (i:=K) ah7 (B:=Gv) (o:=0) (n:=J.n) (cap:=J.n) rfl rfl V u213 z213,iW _ _ _,?_⟩;rw[bS];refine az 60 fun wA Fi=>?_;change E.Tree PR true _ S X (G (E8 b J.gB.length cap J.n i x K E.Wg Gv work g (c::cs)).1 (E8 b J.gB.length cap J.n i x K E.Wg Gv work g (c::cs)).2) wA;have Y:=jO (rl4 (b:=b) (len:=J.gB.length) (cap:=cap) (n:=J.n) (i:=i) (x:=x) (m:=K) (Wg:=E.Wg) (Gv:=Gv) (work:=work) (J:=g) (l:=c::cs)) rfl;have nf:=Y.load;rw[Y.callers];rw[Y.fr.eq]at nf⊢;generalize(fun j=>(E8 b J.gB.length cap J.n i x K E.Wg Gv work g (c::cs)).1.tmps.getD j ak)=r at nf⊢;clear Y;have hwA:=(T9.rely D.nu Bw).rely D.nu Fi;refine Tz.one rfl fun wB Fj=>?_;have Q:=hwA.rely D.nu Fj;have U:wB.cell? ⟨Gv,K,none⟩=some (.chan (some ch)):=by
   simp only[aJ,Q.gv];exact HV C
  refine⟨_,wB,_,S,X,rP nf Iy U yX,uo Q.gs (D.nu _),?_⟩;refine az 60 fun wC hrC=>?_;change E.Tree PR true _ S X (G (RS b J.gB.length cap J.n i x K E.Wg Gv ch work r (c::cs)).1 (RS b J.gB.length cap J.n i x K E.Wg Gv ch work r (c::cs)).2) wC;have Y:=jO (rs (b:=b) (len:=J.gB.length) (cap:=cap) (n:=J.n) (i:=i) (x:=x) (m:=K) (Wg:=E.Wg) (Gv:=Gv) (ch:=ch) (work:=work) (J:=r) (l:=c::cs)) rfl;rw[Y.callers,Y.fr.eq];generalize(fun j=>(RS b J.gB.length cap J.n i x K E.Wg Gv ch work r (c::cs)).1.tmps.getD j ak)=J7;clear Y;have Lk:=Q.rely D.nu hrC;refine .stop ?_;cases k with
  |zero=>trivial
  |succ k=>
   refine⟨rfl,rfl,ch,x,by rw[hm];exact C,hx,ak,fun wD s Z gu=>Oj ajC,fun wD Z=>?_⟩;refine az 60 fun wE zn=>?_;change E.Tree PR true _ S X (G _ (S4 b J.gB.length cap J.n i x E.Wg Gv ch work J7 (c::cs)).2) wE;have Y:=jO (ajD (b:=b) (len:=J.gB.length) (cap:=cap) (n:=J.n) (i:=i) (x:=x) (Wg:=E.Wg) (Gv:=Gv) (ch:=ch) (work:=work) (J:=J7) (l:=c::cs)) rfl;have M:=Y.fr;rw[Aa (by omega)]at M;rw[Y.callers];refine ih (i+1) (by omega) k S X _ wE (M.less fun q v hv=>?_) ((M.slot 34 _ rfl).trans ?_) ((Lk.rely D.nu Z).rely D.nu zn)
   ·exact wq (b:=[(34,.bool _)]) hv
   ·simp only[dq]
end
section
variable{E:Env}{RO:Nat->Prop}{jG:ae}{Gv:Nat}{J:im}{b:Option Addr}{cap:Nat}{work:ah}{c:aj}{cs:List aj}
theorem qX{B:Nat}{row:Array _}(h:w.heap[B]?=some (.cells row t)):(w.setCell ⟨B,i,none⟩ v).heap[B]?=some (.cells (row.setIfInBounds i v) t):=Env.zP h
theorem aiq(D:Dl E RO jG Gv J b):∀(m:Nat) (L:List Nat),L.length+m=J.n->∀(k:Nat) (S X:Nat->Prop) (f:aj) (w:ae),ky 137 55 lr (sA (ov (qR E J b cap work Gv) J.n L.length)) f->f.tmps.getD 18 ak=.bool (decide (L.length<J.n))->DW E RO jG Gv J.n L L S X w->
  TD E RO jG J work c cs k (J.kh L) S X f w:=by
 intro m;induction m with
 |zero=>
  intro L hL k S X f w N M hw;have e0:J.kh L=J.sends L 0:=by unfold im.kh;rw[if_neg (by omega)]
  rw[e0];rw[show decide (L.length<J.n)=false from decide_eq_false (by omega)]at M;refine Tz.one rfl fun w1 d=>⟨_,w1,#[],S,X,vW N.mode N.round (by rw[N.kind];nofun) (N.todo.trans t1) M,iW _ _ _,?_⟩;have V:ky 137 55 (no lr) (sA (ov (qR E J b cap work Gv) J.n L.length)) {f with todo:=.code (.exit 0)::lr.tail}:=by
   have:=N.ki (uL:=.code (.exit 0)::lr.tail);rw[<-n1]at this;rw[<-n1];exact this
  change E.Tree PR true _ S X (G {f with todo:=.code (.exit 0)::lr.tail} (c::cs)) w1;rw[V.eq];generalize(fun i=>({f with todo:=.code (.exit 0)::lr.tail}:aj).tmps.getD i ak)=O;refine az 60 fun w2 g=>?_;change E.Tree PR true _ S X (G _ (TP b J.gB.length cap J.n L.length E.Wg Gv work O (c::cs)).2) w2;have Y:=jO (rk2 (b:=b) (len:=J.gB.length) (cap:=cap) (n:=J.n) (i:=L.length) (Wg:=E.Wg) (Gv:=Gv) (work:=work) (J:=O) (l:=c::cs)) rfl;rw[Y.callers];refine aip (cap:=cap) D (by omega) J.gB.length 0 (by omega) k S X _ w2 (Y.fr.less fun q v hv=>?_) ((Y.fr.slot 34 _ rfl).trans ?_) ((hw.rely D.nu d).rely D.nu g)
  ·exact wq hv
  ·congr 1;simp
 |succ m ih=>
  intro L hL k S X f w N M hw;have Km:=D.n8;have F:L.length<J.n:=by omega
  have e0:J.kh L=.st L:=by unfold im.kh;rw[if_pos F]
  rw[e0];rw[show decide (L.length<J.n)=true from decide_eq_true F]at M;refine Tz.one rfl fun w1 d=>⟨_,w1,#[],S,X,vW N.mode N.round (by rw[N.kind];nofun) (N.todo.trans t1) M,iW _ _ _,?_⟩;have V:ky 137 55 (yes lr) (sA (ov (qR E J b cap work Gv) J.n L.length)) {f with todo:=.code .skip::lr.tail}:=by
   have:=N.ki (uL:=.code .skip::lr.tail);rw[<-y1]at this;rw[<-y1];exact this
  change E.Tree PR true _ S X (G {f with todo:=.code .skip::lr.tail} (c::cs)) w1;rw[V.eq];generalize(fun i=>({f with todo:=.code .skip::lr.tail}:aj).tmps.getD i ak)=O;refine az 60 fun w2 g=>?_;change E.Tree PR true _ S X (G (ER b J.gB.length cap J.n L.length E.Wg Gv work O (c::cs)).1 (ER b J.gB.length cap J.n L.length E.Wg Gv work O (c::cs)).2) w2;have Y:=jO (rmk (b:=b) (len:=J.gB.length) (cap:=cap) (n:=J.n) (j:=L.length) (Wg:=E.Wg) (Gv:=Gv) (work:=work) (J:=O) (l:=c::cs)) rfl;rw[Y.callers,Y.fr.eq];generalize(fun j=>(ER b J.gB.length cap J.n L.length E.Wg Gv work O (c::cs)).1.tmps.getD j ak)=J2;clear Y;have rE:=(hw.rely D.nu d).rely D.nu g;refine Tz.one rfl fun w3 vj=>⟨_,_,#[],_,_,step_mk ah0 rfl,GM _,?_⟩;have K:=rE.rely D.nu vj;generalize x:w3.heap.size=ch;have hcu:∀i,¬E.U ch i:=fun i hu=>by
   have I:=D.ajM _ _ hu;have h2:=K.fx.grow;omega
  have u:¬S ch:=fun y=>by have:=K.low _ y;omega
  have Q:¬RO ch:=fun y=>u (K.ro _ y);have P:ch≠Gv:=fun y=>u (y▸K.gs);have T_:(w3.alloc (.chan 0 #[] false 0 0 false)).heap.size=ch+1:=by simp[x]
  have tQ:DW E RO jG Gv J.n L L (fun a=>S a\/a=ch) (fun a=>X a\/a=ch) (w3.alloc (.chan 0 #[] false 0 0 false)):=by
   refine⟨fun a R=>.inl (K.ro a R),fun a R y=>y.elim (K.mB a R) fun e=>Q (e▸R),.inl K.gs,.inl K.gx,?_,?_,fun a R=>?_,fun a R=>?_⟩
   ·rw[aI w3 _ (K.low _ K.gs)];exact K.gv
   ·refine bB K.fx ⟨fun a R=>.inl (aI w3 _ (K.low _ (K.ro a R))),by simp,.refl _⟩
   ·rw[T_];rcases R with y|y
    ·have:=K.low a y;omega
    ·omega
   ·have I:=K.vm a R;refine⟨fun y=>y.elim I.1 fun e=>?_,by rw[T_];omega⟩;omega
  have ho4:ob (w3.alloc (.chan 0 #[] false 0 0 false)) ch 0:=by
   unfold ob;rw[<-x];exact aM w3 _
  refine az 60 fun w5 t=>?_;change E.Tree PR true _ _ _ (G (EW b J.gB.length cap J.n L.length E.Wg Gv ch work J2 (c::cs)).1 (EW b J.gB.length cap J.n L.length E.Wg Gv ch work J2 (c::cs)).2) w5;have Y:=jO (ri1 (b:=b) (len:=J.gB.length) (cap:=cap) (n:=J.n) (j:=L.length) (Wg:=E.Wg) (Gv:=Gv) (ch:=ch) (work:=work) (J:=J2) (l:=c::cs)) rfl;rw[Y.callers,Y.fr.eq];generalize(fun j=>(EW b J.gB.length cap J.n L.length E.Wg Gv ch work J2 (c::cs)).1.tmps.getD j ak)=J3;clear Y;have zx:=tQ.rely D.nu t;have opn:∀{w w2:ae},ob w ch 0->gI E.U (fun a=>S a\/a=ch) w w2->ob w2 ch 0:=fun h hr=>((hr.kept ch (.inr rfl)).eq hcu).trans h;have ho5:=opn ho4 t;refine Tz.one rfl fun w6 zu=>⟨_,w6,#[],_,_,An (i:=L.length) ah3 (B:=Gv) (o:=0) (n:=J.n) (cap:=J.n) rfl rfl F u213 z213,iW _ _ _,?_⟩;rw[bS];refine az 60 fun w7 zv=>?_;change E.Tree PR true _ _ _ (G (EX b J.gB.length cap J.n L.length E.Wg Gv ch work J3 (c::cs)).1 (EX b J.gB.length cap J.n L.length E.Wg Gv ch work J3 (c::cs)).2) w7;have Y:=jO (vd (b:=b) (len:=J.gB.length) (cap:=cap) (n:=J.n) (j:=L.length) (Wg:=E.Wg) (Gv:=Gv) (ch:=ch) (work:=work) (J:=J3) (l:=c::cs)) rfl;rw[Y.callers,Y.fr.eq];generalize(fun j=>(EX b J.gB.length cap J.n L.length E.Wg Gv ch work J3 (c::cs)).1.tmps.getD j ak)=s;clear Y;have hw7:=(zx.rely D.nu zu).rely D.nu zv;have ho7:=opn (opn ho5 zu) zv;refine Tz.one rfl fun w8 zw=>?_;have A:=hw7.rely D.nu zw;have ho8:=opn ho7 zw;have gj:=Hx (main:=true) (cs:=c::cs) (w:=w8) (f:=dF Bl (Bm (qR E J b cap work Gv) Gv J.n L.length ch) s) ah4 (B:=Gv) (i:=L.length) (v:=some ch) rfl rfl A.gv (by rw[aau _ _ (by omega)];exact F) yX;have H:Env.Eff Gv w8 (w8.setCell ⟨Gv,L.length,none⟩ (.chan (some ch))):=rW _;refine⟨_,_,_,_,_,gj,GN A.gs A.gx D.nu H (fun ev JL=>by simp_all),?_⟩;have hw9:DW E RO jG Gv J.n (L++[ch]) L (fun a=>S a\/a=ch) (fun a=>X a\/a=ch) (w8.setCell ⟨Gv,L.length,none⟩ (.chan (some ch))):=by
   refine⟨A.ro,A.mB,A.gs,A.gx,?_,bB A.fx ⟨fun a R=>.inl (H.heap a fun e=>D.gro (e▸R)),dE H.size.symm,H.env⟩,fun a R=>by rw[H.size];exact A.low a R,fun a R=>by rw[H.size];exact A.vm a R⟩;rw[qX A.gv,ack _ _ _ F]
  have ho9:=(H.heap ch P).trans ho8;clear gj H;refine az 60 fun wA Fi=>?_;change E.Tree PR true _ _ _ (G (EY b J.gB.length cap J.n L.length E.Wg Gv ch work s (c::cs)).1 (EY b J.gB.length cap J.n L.length E.Wg Gv ch work s (c::cs)).2) wA;have Y:=jO (rc1 (b:=b) (len:=J.gB.length) (cap:=cap) (n:=J.n) (j:=L.length) (Wg:=E.Wg) (Gv:=Gv) (ch:=ch) (work:=work) (J:=s) (l:=c::cs)) rfl;rw[Y.callers,Y.fr.eq];generalize(fun j=>(EY b J.gB.length cap J.n L.length E.Wg Gv ch work s (c::cs)).1.tmps.getD j ak)=J5;clear Y;refine Tz.pure 1 fun wB Fj=>?_;rw[ah2];have hwB:=(hw9.rely D.nu Fi).rely D.nu Fj;have hoB:=opn (opn ho9 Fi) Fj;refine Env.aed (Fx:=fun w=>DW E RO jG Gv J.n (L++[ch]) L (fun a=>S a\/a=ch) (fun a=>X a\/a=ch) w/\ob w ch 0) (ch:=ch) ⟨fun h hr=>⟨h.1.rely D.nu hr,opn h.2 hr⟩,fun h=>Env.pe.rely D.Fh D.Lj h.1.fx,fun h I he h2=>⟨h.1.lG D.gw I he h2,(he.heap ch fun e=>Q (e▸D.Lj)).trans h.2⟩⟩ (by omega) (fun k wC hC=>?_) k ⟨hwB,hoB⟩;obtain⟨Lk,hoC⟩:=hC;refine az 60 fun wD Ua=>?_;change E.Tree PR true _ _ _ (G (EZ b J.gB.length cap J.n L.length E.Wg Gv work J5 (c::cs)).1 (EZ b J.gB.length cap J.n L.length E.Wg Gv work J5 (c::cs)).2) wD;have Y:=jO (ri2 (b:=b) (len:=J.gB.length) (cap:=cap) (n:=J.n) (j:=L.length) (Wg:=E.Wg) (Gv:=Gv) (work:=work) (J:=J5) (l:=c::cs)) rfl;rw[Y.callers,Y.fr.eq];generalize(fun j=>(EZ b J.gB.length cap J.n L.length E.Wg Gv work J5 (c::cs)).1.tmps.getD j ak)=J6;clear Y;have hwD:=Lk.rely D.nu Ua;have hoD:=opn hoC Ua;refine Tz.one rfl fun wE zn=>⟨_,wE,#[],_,_,An (i:=L.length) ah5 (B:=Gv) (o:=0) (n:=J.n) (cap:=J.n) rfl rfl F u213 z213,iW _ _ _,?_⟩;rw[bS];refine az 60 fun wF EK=>?_;change E.Tree PR true _ _ _ (G (E0 b J.gB.length cap J.n L.length E.Wg Gv work J6 (c::cs)).1 (E0 b J.gB.length cap J.n L.length E.Wg Gv work J6 (c::cs)).2) wF;have Y:=jO (rl2 (b:=b) (len:=J.gB.length) (cap:=cap) (n:=J.n) (j:=L.length) (Wg:=E.Wg) (Gv:=Gv) (work:=work) (J:=J6) (l:=c::cs)) rfl;have nf:=Y.load;rw[Y.callers];rw[Y.fr.eq]at nf⊢;generalize(fun j=>(E0 b J.gB.length cap J.n L.length E.Wg Gv work J6 (c::cs)).1.tmps.getD j ak)=J7 at nf⊢;clear Y;have hwF:=(hwD.rely D.nu zn).rely D.nu EK;have hoF:=opn (opn hoD zn) EK;refine Tz.one rfl fun wG EM=>?_;have r:=hwF.rely D.nu EM;have hoG:=opn hoF EM;have T:wG.cell? ⟨Gv,L.length,none⟩=some (.chan (some ch)):=by
   simp only[aJ,r.gv];exact HV (by simp)
  refine⟨_,wG,_,_,_,rP nf Iy T yX,uo r.gs (D.nu _),?_⟩;refine az 60 fun wH EN=>?_;change E.Tree PR true _ _ _ (G (RG b J.gB.length cap J.n L.length E.Wg Gv ch work J7 (c::cs)).1 (RG b J.gB.length cap J.n L.length E.Wg Gv ch work J7 (c::cs)).2) wH;have Y:=jO (z87 (b:=b) (len:=J.gB.length) (cap:=cap) (n:=J.n) (j:=L.length) (Wg:=E.Wg) (Gv:=Gv) (ch:=ch) (work:=work) (J:=J7) (l:=c::cs)) rfl;rw[Y.callers,Y.fr.eq];generalize(fun j=>(RG b J.gB.length cap J.n L.length E.Wg Gv ch work J7 (c::cs)).1.tmps.getD j ak)=J8;clear Y;have Ub:=r.rely D.nu EN;have hoH:=opn hoG EN;refine .stop ?_;cases k with
  |zero=>trivial
  |succ k=>
   refine⟨rfl,rfl,.inr rfl,.inr rfl,fun wI p=>⟨opn hoH p,_,_,YR ajA,⟨rfl,(Ub.rely D.nu p).fx⟩,?_⟩⟩;have C:=Ub.rely D.nu p;have hwJ:DW E RO jG Gv J.n (L++[ch]) (L++[ch]) (fun a=>(S a\/a=ch)/\a≠ch) (fun a=>(X a\/a=ch)/\a≠ch) wI:=by
    refine⟨fun a R=>⟨C.ro a R,fun e=>Q (e▸R)⟩,fun a R y=>C.mB a R y.1,⟨C.gs,fun e=>P e.symm⟩,⟨C.gx,fun e=>P e.symm⟩,C.gv,C.fx,fun a R=>C.low a R.1,fun a R=>?_⟩;have hm:a∈L\/a=ch:=by simpa using R
    rcases hm with y|rfl
    ·exact⟨fun z=>(C.vm a y).1 z.1,(C.vm a y).2⟩
    ·exact⟨fun z=>z.2 rfl,C.low _ (.inr rfl)⟩
   refine az 60 fun wK hrK=>?_;change E.Tree PR true _ _ _ (G _ (S3 b J.gB.length cap J.n L.length E.Wg Gv ch work J8 (c::cs)).2) wK;have Y:=jO (ajB (b:=b) (len:=J.gB.length) (cap:=cap) (n:=J.n) (j:=L.length) (Wg:=E.Wg) (Gv:=Gv) (ch:=ch) (work:=work) (J:=J8) (l:=c::cs)) rfl;have Z:=Y.fr;rw[Aa (by omega)]at Z;rw[Y.callers];have W:(L++[ch]).length=L.length+1:=by simp
   refine ih (L++[ch]) (by rw[W];omega) k _ _ _ wK (Z.less fun q v hv=>?_) ((Z.slot 18 _ rfl).trans ?_) (hwJ.rely D.nu hrK)
   ·rw[W]at hv;exact wq (b:=[(18,.bool _)]) hv
   ·rw[W];simp only[dq]
end
noncomputable def tR:=match aV.body with
 |some (.seq _ (.seq _ (.seq _ (.block _ (.loop c)))))=>c
 |_=>.skip
noncomputable def Uc:=match aV.body with
 |some (.seq _ (.seq _ (.seq _ (.block _ (.loop (.seq r3 _))))))=>r3
 |_=>.skip
noncomputable def Ll:=match aV.body with
 |some (.seq _ (.seq _ (.seq _ (.block _ (.loop (.seq _ (.seq _ (.seq _ Y))))))))=>Y
 |_=>.skip
theorem aon:I5=[.code (.block 0 (.loop tR))]:=by kernel_rfl
theorem aoq:tR=.seq Uc (.seq (.cond (.tmp 18) .skip (.exit 0)) (.seq (.block 1 (.seq Li (.seq Lf (.seq BA (.cond (.tmp 38) Lg .skip))))) Ll)):=by kernel_rfl
section
variable{U:Nat->Nat->Prop}{D:(Nat->Prop)->(Nat->Prop)->ay->ae->Prop}{S X:Nat->Prop}{Fd:Nat}
theorem I6{b:aj}{k:List _}{cs:List _}(hk:b.kind≠.early)(dd:List _)(v1 v5 A:ah)(u:Nat->ah)(i n:Nat)
  (cont:∀w2 B,gI U S w w2->B 18=.bool (decide (i<n))->Tz af false U D S X (G (b.at ⟨lO Fd v1 v5 A (.int .i64 n) (.int .i64 i) B,dd⟩ k) cs) w2):
  Tz af false U D S X (G (b.at ⟨lO Fd v1 v5 A (.int .i64 n) (.int .i64 i) u,dd⟩ (.code Uc::k)) cs) w:=by
 have key:∀w2,gI U S w w2->Tz _ _ U D S X (G (b.at ⟨lO Fd v1 v5 A _ _ (fun j=>if j=18 then .bool _ else u j),dd⟩ k) cs) w2:=fun w2 hr=>cont w2 _ hr (if_pos rfl);simp[lO];refine Tz.region fun w1 H=>?_;refine Tz.xM rfl (by rfl) hk fun w2 R K C=>?_;have Y:=C _ w2 ⟨S,X,(by rw[cy (by simp[go_sem])];exact iW _ _ _),Tz.GL fun w3 I=>key w3 ((H.trans R).trans I)⟩
 go_simp
 exact Y
theorem air{b:aj}{k:List Item}(hk:b.kind≠.early)(dd:List br)(v1 v5 A B:ah)(u:Nat->ah)(i:Nat)(M:i<=100000)
  (cont:∀w2 F,gI U S w w2->Tz af false U D S X (G (b.at ⟨lO Fd v1 v5 A B (.int .i64 ((i+1:Nat):Int)) F,dd⟩ k) cs) w2):
  Tz af false U D S X (G (b.at ⟨lO Fd v1 v5 A B (.int .i64 i) u,dd⟩ (.code Ll::k)) cs) w:=by
 have key:=fun w2 hr=>by
  have h:=cont w2 (fun j=>if j=47 then .int .i64 (i+1)else u j) hr;exact h
 have J:bW.wrap _=i+1:=Go.IntWalk.i64_in _ (by omega);simp only[lO];refine Tz.region fun w1 H=>?_;refine Tz.xM rfl (by rfl) hk fun w2 R K Y=>?_
 go_simp
 refine Y _ _ ⟨S,X,?_,?_⟩
 ·rw[cy (by simp[go_sem])];exact iW _ _ _
 refine Tz.xM rfl (by rfl) hk fun w3 I K Y=>?_;refine Y _ _ ⟨S,X,?_,?_⟩
 ·rw[cy (by simp[go_sem])];exact iW _ _ _
 exact Tz.GL fun w4 C=>key w4 (((H.trans R).trans I).trans C)
end
theorem aos(Fd b5:Nat)(v1 K A B:ah)(u:Nat->ah):jN Fd b5 v1 K A B u=lO Fd v1 (.pointer (some ⟨b5,0,none⟩)) K A B u:=rfl
section
variable{U:Nat->Nat->Prop}{D:(Nat->Prop)->(Nat->Prop)->ay->ae->Prop}{S X:Nat->Prop}{Fd g Mp:Nat}{e d x:Int}{bo:Bool}{o o':Option Obj}
theorem aet{b:aj}(hb:b.fn=140)(hk:b.kind≠.early)(dd:List br)(v1 v5:ah)(u:Nat->ah)(i n cap:Nat)(hi:i<n)(hn:n<=1000)
  (F:S g)(T:S Fd)(C:S Mp)(hXM:X Mp)(Fl:¬U Fd 2)(M:∀i,¬U g i)(Ud:∀i,¬U Mp i)(Lm:Fd≠Mp)(zq:∀b i,U b i->b<w.heap.size)(V:∀a,S a->a<w.heap.size)
  (Ue:w.cell? ⟨g,i *2,none⟩=some (.int .i64 e))(Uf:w.cell? ⟨g,i *2+1,none⟩=some (.int .i64 d))(hm:w.cell? ⟨Fd,2,none⟩=some (.map (some Mp)))(ho:w.heap[Mp]?=o)
  (Ln:∀w,w.heap[Mp]?=o->(aU 166 (.map (some Mp)) (.int .i64 e) true).run af w=.ok (.tuple #[.int .i64 x,.bool bo]) w)
  (W:∀w,w.heap[Mp]?=o->∀ev∈aP af (aU 166 (.map (some Mp)) (.int .i64 e) true) w #[],ev.loc=.obj Mp/\ev.sync=false/\ev.write=false)
  (Lh:∀w,w.heap[Mp]?=o->∃v w',(aK 166 (.map (some Mp)) (.int .i64 e) (.int .i64 d)).run af w=.ok v w'/\Env.Eff Mp w w'/\w'.heap[Mp]?=o')
  (ajN:∀w,w.heap[Mp]?=o->∀ev∈aP af (aK 166 (.map (some Mp)) (.int .i64 e) (.int .i64 d)) w #[],ev.loc=.obj Mp/\ev.sync=false)
  (cont:∀K w2 u',w.heap.size<=K->(∀i,¬U K i)->AF Fd Mp K e d (if(!bo||decide (d<x))=true then o' else o) w2->
   Tz af false U D (fun a=>S a\/a=K) (fun a=>X a\/a=K) (G (b.at ⟨lO Fd v1 (.pointer (some ⟨K,0,none⟩)) (.slice (some ⟨g,0,none⟩) n cap) (.int .i64 (n:Int)) (.int .i64 ((i+1:Nat):Int)) u',dd⟩ kk) cs) w2):
  Tz af false U D S X (G (b.at ⟨lO Fd v1 v5 (.slice (some ⟨g,0,none⟩) n cap) (.int .i64 (n:Int)) (.int .i64 (i:Int)) u,dd⟩ (.code tR::kk)) cs) w:=by
 refine Tz.quiet rfl (fun _=>bc) fun w1 xK=>?_;refine I6 hk dd v1 v5 _ u i n fun w2 u2 qd Ug=>?_;refine Tz.quiet rfl (fun _=>bc) fun w3 vj=>?_;have k:dh ⟨lO Fd v1 v5 (.slice (some ⟨g,0,none⟩) n cap) (.int .i64 n) (.int .i64 i) u2,dd⟩ (.tmp 18)=.bool true:=by
  show u2 18=_
  simp_all
 refine Tz.quiet rfl (fun _=>de k) fun w4 hr4=>?_;refine Tz.quiet rfl (fun _=>stepG_skip) fun w5 zt=>?_;refine Tz.quiet rfl (fun _=>bc) fun w6 zu=>?_;refine Tz.quiet rfl (fun _=>stepG_block) fun w7 zv=>?_;refine Tz.quiet rfl (fun _=>bc) fun w8 zw=>?_;have R:=((((((xK.trans qd).trans vj).trans hr4).trans zt).trans zu).trans zv).trans zw;refine ain hb hk dd v1 v5 _ u2 i n cap hi F (fun wz hr=>⟨qp F (M _) Ue (R.trans hr),qp F (M _) Uf (R.trans hr)⟩) M (fun b i hu=>aD (zq b i hu) R.grow) (fun a ha=>aD (V a ha) R.grow) fun K w9 u3 hnb B d0 d1 xG Bw=>?_;have f:=R.trans Bw;have JI:=bF R.grow hnb;have H:tJ U (fun a=>S a\/a=K) Fd Mp K:=⟨.inl T,.inl C,.inr rfl,Fl,B,Ud⟩;have hnM:K≠Mp:=fun ee=>by have:=V Mp C;omega
 have y:AF Fd Mp K e d o w9:=⟨qp T Fl hm f,d0,d1,((f.kept Mp C).eq Ud).trans ho⟩;refine Tz.quiet rfl (fun _=>bc) fun w10 Q=>?_;have J:=AF.rely H y Q;obtain⟨k5,h5⟩:=ail H dd v1 _ _ _ u3 x bo (fun w h=>Ln w h.o) (fun w h=>W w h.o);refine Tz.wpC (h5 w10 J) hb hk fun a' w0 w11 P Z=>?_;obtain⟨⟨u5,h6,h7,rfl⟩,s⟩:=P;have L:=AF.rely H s Z;refine Tz.quiet rfl (fun _=>bc) fun w12 E=>?_;have N:=AF.rely H L E;have six:∃k6,∀w,AF Fd Mp K e d o w->BA.wpC af false (RU U fun a=>S a\/a=K) (DU U (fun a=>S a\/a=K) fun a=>X a\/a=K) 140 k6 (fun ex a' w'=>ex=.normal/\(∃u',u' 38=.bool (!bo||decide (d<x))/\a'=⟨jN Fd K v1 (.slice (some ⟨g,0,none⟩) n cap) (.int .i64 n) (.int .i64 i) u',dd⟩)/\AF Fd Mp K e d o w') ⟨jN Fd K v1 (.slice (some ⟨g,0,none⟩) n cap) (.int .i64 n) (.int .i64 i) u5,dd⟩ w:=by
  cases bo with
  |false=>exact agl H dd _ _ _ _ u5 h7
  |true=>exact aes H dd _ _ _ _ u5 h7 x h6
 obtain⟨k6,p⟩:=six;refine Tz.wpC (p w12 N) hb hk fun a' w0 w13 P q=>?_;obtain⟨⟨u6,l,rfl⟩,m⟩:=P;have O:=AF.rely H m q;refine Tz.quiet rfl (fun _=>de (by exact l)) fun w14 j=>?_;have A:=AF.rely H O j;have last:∀Y u7,AF Fd Mp K e d (if(!bo||decide (d<x))=true then o' else o) Y->Tz af false U D (fun a=>S a\/a=K) (fun a=>X a\/a=K) (G (b.at ⟨jN Fd K v1 (.slice (some ⟨g,0,none⟩) n cap) (.int .i64 n) (.int .i64 i) u7,dd⟩ (.inBlock 1:: .code Ll::kk)) cs) Y:=by
  intro Y u7 hA;refine Tz.quiet rfl (fun _=>stepG_inBlock) fun w16 z=>?_;exact air hk dd _ _ _ _ u7 i (by omega) fun w17 u8 c=>cont K w17 u8 JI B (AF.rely H (AF.rely H hA z) c)
 cases ht:(!bo||decide (d<x))with
 |true=>
  rw[ht]at last;obtain⟨k7,r⟩:=aim (X:=fun a=>X a\/a=K) H (.inl hXM) Lm hnM dd v1 _ _ _ u6 o' Lh ajN;refine Tz.wpC (r w14 A) hb hk fun a' w0 Y P I=>?_;obtain⟨⟨u7,rfl⟩,t⟩:=P;exact last Y u7 (AF.rely H t I)
 |false=>
  rw[ht]at last;refine Tz.quiet rfl (fun _=>stepG_skip) fun Y I=>?_;exact last Y u6 (AF.rely H A I)
end
structure LJ(U:Nat->Nat->Prop)(Fd Mp g:Nat)(og:Option Obj)(S X:Nat->Prop)(w:ae):Prop where
 sl:∀a,S a->a<w.heap.size
 ul:∀b i,U b i->b<w.heap.size
 og:w.heap[g]?=og
 sg:S g
 xg:¬X g
 sf:S Fd
 sm:S Mp
 xm:X Mp
theorem LJ.step{U:Nat->Nat->Prop}{Fd Mp g:Nat}{og:Option Obj}{S X S1 X1:Nat->Prop}{w w2 w1:ae}{es:Array _}(K:∀i,¬U g i)(h:LJ U Fd Mp g og S X w)(hr:gI U S w w2)(hd:Did S X w2 w1 es S1 X1):LJ U Fd Mp g og S1 X1 w1:=by
 have Y:=aD (h.sl g h.sg) hr.grow;refine⟨fun a H=>?_,fun b i D=>aD (h.ul b i D) (bF hr.grow hd.grow),?_,(hd.held g).2 (.inl h.sg),fun y=>?_,(hd.held Fd).2 (.inl h.sf),(hd.held Mp).2 (.inl h.sm),(hd.may Mp).2 (.inl h.xm)⟩
 ·rcases(hd.held a).1 H with y|y
  ·exact aD (h.sl a y) (bF hr.grow hd.grow)
  ·omega
 ·rw[hd.kept g Y h.xg,(hr.kept g h.sg).eq K,h.og]
 ·rcases(hd.may g).1 y with z|z
  ·exact h.xg z
  ·omega
section
variable{U:Nat->Nat->Prop}{D:(Nat->Prop)->(Nat->Prop)->ay->ae->Prop}{Fd g Mp n cap:Nat}{cur:Array ah}{E Dd:Nat->Int}
theorem Ru{b:aj}(hb:b.fn=140)(hk:b.kind≠.early)(dd:List br)(v1:ah)(h:n<=1000)(O:¬U Fd 2)(A:∀i,¬U g i)(B:∀i,¬U Mp i)(T:Fd≠Mp)
  (M:Nat->Option Obj->Prop)(F:∀i,i<n->cur[i *2]?=some (.int .i64 (E i))/\cur[i *2+1]?=some (.int .i64 (Dd i)))
  (C:(Nat->Prop)->(Nat->Prop)->ae->Prop)(V:∀S X w w2 w1 es S1 X1,C S X w->gI U S w w2->Did S X w2 w1 es S1 X1->C S1 X1 w1)(N:∀S X w w2,C S X w->gI U S w w2->C S X w2)
  (W:∀i o,i<n->M i o->∃x bo o',(∀w,w.heap[Mp]?=o->(aU 166 (.map (some Mp)) (.int .i64 (E i)) true).run af w=.ok (.tuple #[.int .i64 x,.bool bo]) w)/\
   (∀w,w.heap[Mp]?=o->∀ev∈aP af (aU 166 (.map (some Mp)) (.int .i64 (E i)) true) w #[],ev.loc=.obj Mp/\ev.sync=false/\ev.write=false)/\
   (∀w,w.heap[Mp]?=o->∃v w',(aK 166 (.map (some Mp)) (.int .i64 (E i)) (.int .i64 (Dd i))).run af w=.ok v w'/\Env.Eff Mp w w'/\w'.heap[Mp]?=o')/\
   (∀w,w.heap[Mp]?=o->∀ev∈aP af (aK 166 (.map (some Mp)) (.int .i64 (E i)) (.int .i64 (Dd i))) w #[],ev.loc=.obj Mp/\ev.sync=false)/\
   M (i+1) (if(!bo||decide (Dd i<x))=true then o' else o))
  (fin:∀S X v5 u w,LJ U Fd Mp g (some (.cells cur 173)) S X w->C S X w->M n (w.heap[Mp]?)->Tz af false U D S X (G (b.at ⟨lO Fd v1 v5 (.slice (some ⟨g,0,none⟩) n cap) (.int .i64 (n:Int)) (.int .i64 (n:Int)) u,dd⟩ k0) cs) w):
  ∀(m i:Nat),i+m=n->∀S X v5 u w,LJ U Fd Mp g (some (.cells cur 173)) S X w->C S X w->w.cell? ⟨Fd,2,none⟩=some (.map (some Mp))->M i (w.heap[Mp]?)->
   Tz af false U D S X (G (b.at ⟨lO Fd v1 v5 (.slice (some ⟨g,0,none⟩) n cap) (.int .i64 (n:Int)) (.int .i64 i) u,dd⟩ (.code tR:: .inLoop tR:: .inBlock 0::k0)) cs) w
 |0,i,y,S,X,v5,u,w,K,hx,r,Z=>by
  obtain rfl:i=n:=by omega
  refine Tz.quiet rfl (fun _=>bc) fun w1 z=>?_;refine I6 hk dd v1 v5 _ u i i fun w2 u2 Y Q=>?_;refine Tz.quiet rfl (fun _=>bc) fun w3 c=>?_;have q:dh ⟨lO Fd v1 v5 (.slice (some ⟨g,0,none⟩) i cap) (.int .i64 i) (.int .i64 i) u2,dd⟩ (.tmp 18)=.bool false:=by
   show u2 18=_
   rw[Q,decide_eq_false (akr i)]
  refine Tz.quiet rfl (fun _=>de q) fun w4 d=>?_;refine Tz.quiet rfl (fun _=>stepG_exit rfl) fun s f=>?_;have R:=(((z.trans Y).trans c).trans d).trans f;refine fin S X v5 u2 s ?_ (N _ _ _ _ hx R) (by rw[(R.kept Mp K.sm).eq B];exact Z);exact LJ.step A K R (iW (U:=U) S X s).toDid
 |m+1,i,y,S,X,v5,u,w,K,hx,r,Z=>by
  obtain⟨x,bo,o',l1,l2,t,l4,a⟩:=W i _ (by omega) Z;obtain⟨c0,c1⟩:=F i (by omega);have hr:=aet (D:=fun S' X' l w'=>∃J L,w.heap.size<=J/\(∀i,¬U J i)/\AF Fd Mp J _ _ _ w'/\l=G (b.at ⟨lO Fd v1 (.pointer (some ⟨J,0,none⟩)) _ _ _ L,dd⟩ (.inLoop tR:: .inBlock 0::k0)) cs)
   hb hk dd v1 v5 u i n cap (by omega) h K.sg K.sf K.sm K.xm O A B T K.ul K.sl (by rw[au _ _ _ _ _ _ K.og];exact c0) (by rw[au _ _ _ _ _ _ K.og];exact c1) r rfl l1 l2 t l4 (fun J w2 L I h2 P=>.stop ⟨J,L,I,h2,P,rfl⟩)
  refine(Tz.inv (fun S X w=>LJ U Fd Mp g _ S X w/\C S X w) (fun S X w w2 w1 es S1 X1 p hr hd=>⟨p.1.step A hr hd,V _ _ _ _ _ _ _ _ p.2 hr hd⟩) hr ⟨K,hx⟩).bind fun S' X' l w' hd=>?_;obtain⟨⟨J,L,I,h2,P,rfl⟩,H,j⟩:=hd;refine Tz.quiet rfl (fun _=>stepG_inLoop) fun w2 Y=>?_;refine Ru hb hk dd v1 h O A B T M F C V N W fin m _ (by omega) S' X' _ L w2 (LJ.step A H Y (iW (U:=U) S' X' w2).toDid) (N _ _ _ _ j Y) (qp H.sf O P.m Y) ?_;rw[(Y.kept Mp H.sm).eq B,P.o];exact a
end
section
variable{P:aN}{main:Bool}{U:Nat->Nat->Prop}{D D':(Nat->Prop)->(Nat->Prop)->ay->ae->Prop}{S X SF XF:Nat->Prop}{g:ay}{w:ae}
theorem Tz.more(h:Tz P main U D S X g w)(k:∀S X g w,D S X g w->Tz P main U D' (fun a=>S a\/SF a) (fun a=>X a\/XF a) g w):Tz P main U D' (fun a=>S a\/SF a) (fun a=>X a\/XF a) g w:=by
 induction h with
 |stop hd=>exact k _ _ _ _ hd
 |@step S X g w R ex _ I=>
  refine Tz.one R fun w2 hr=>?_;have Y:gI U S w w2:=⟨fun a K=>hr.kept a (.inl K),hr.grow,hr.env⟩;obtain⟨g1,w1,es,S1,X1,e,hd⟩:=ex w2 Y;refine⟨g1,w1,es,fun a=>S1 a\/SF a,fun a=>X1 a\/XF a,e,⟨⟨fun a K hx=>hd.kept a K fun y=>hx (.inl y),hd.grow,fun a=>?_,fun a=>?_,fun e H=>Pj (hd.ev e H),hd.tape,hd.env,hd.output⟩,hd.JO⟩,I w2 g1 w1 es S1 X1 Y e hd⟩
  ·rw[hd.held];constructor
   ·rintro((y|y)|y)
    ·simp_all
    ·exact .inr y
    ·simp_all
   ·rintro((y|y)|y)
    ·simp_all
    ·exact .inr y
    ·omega
  ·rw[hd.may];constructor
   ·rintro((y|y)|y)
    ·simp_all
    ·exact .inr y
    ·exact .inl (.inr y)
   ·rintro((y|y)|y)
    ·simp_all
    ·exact .inr y
    ·omega
end
section
variable{U:Nat->Nat->Prop}{D:(Nat->Prop)->(Nat->Prop)->ay->ae->Prop}{S X:Nat->Prop}{Fd:Nat}
theorem agn{b:aj}{k0:List _}{cs:List _}(hk:b.kind≠.early)(dd:List _)(v1 v5 K:ah)(u:Nat->ah)(n:Nat)
  (cont:∀w2 F,gI U S w w2->Tz af false U D S X (G (b.at ⟨lO Fd v1 v5 K (.int .i64 n) (.int .i64 n) F,dd⟩ k0) cs) w2):
  Tz af false U D S X (G (b.at ⟨lO Fd v1 v5 K (.int .i64 n) (.int .i64 n) u,dd⟩ (.code tR:: .inLoop tR:: .inBlock 0::k0)) cs) w:=by
 refine Tz.quiet rfl (fun _=>bc) fun w1 H=>?_;refine I6 hk dd v1 v5 _ u n n fun w2 u2 R C=>?_;refine Tz.quiet rfl (fun _=>bc) fun w3 I=>?_;have Y:dh ⟨lO Fd v1 v5 K (.int .i64 n) (.int .i64 n) u2,dd⟩ (.tmp 18)=.bool false:=by
  show u2 18=_
  simp_all
 refine Tz.quiet rfl (fun _=>de Y) fun w4 A=>?_;refine Tz.quiet rfl (fun _=>stepG_exit rfl) fun J B=>?_;exact cont J u2 ((((H.trans R).trans I).trans A).trans B)
end
def Fo:Frame:=⟨140,#[],[],[],.run,.normal,none⟩
theorem ago(Fd:Nat)(v1 K A B:ah)(j:Nat->ah):TN 48 (sA [(0,ptr Fd),(1,v1),(15,K),(16,A),(17,B)]) j=lO Fd v1 (j 5) K A B j:=by kernel_rfl
theorem Iw.eq{a:Option Addr}(h:Iw Fd a n cap f):∃v5 u,f=Fo.at ⟨lO Fd (.slice a n cap) v5 (.slice a n cap) (.int .i64 (n:Int)) (.int .i64 ((0:Nat):Int)) u,[dcall 161 #[ptr Fd]]⟩ [.code (.block 0 (.loop tR))]:=by
 obtain⟨fn,tmps,todo,defers,mode,kind,ro⟩:=f;obtain⟨I,h2,D,R,A,U,B,g0,g1,K,H,g17⟩:=h;subst I h2 D R A U;have C:ky 140 48 [] (sA [(0,ptr Fd),(1,.slice a n cap),(15,.slice a n cap),(16,.int .i64 n),(17,.int .i64 0)]) ⟨140,tmps,[],[],.run,.normal,none⟩:=by
  refine⟨rfl,rfl,rfl,rfl,rfl,rfl,B,fun i v Y=>?_⟩;have:(i,v)∈[(0,ptr Fd),(1,Value.slice a n cap),(15,.slice a n cap),(16,.int .i64 n),(17,.int .i64 0)]:=by
   unfold sA at Y;simp only[List.lookup]at Y
   repeat' split at Y
   all_goals first|(rename_i hb;simp_all)
  simp at this;rcases this with⟨rfl,rfl⟩|⟨rfl,rfl⟩|⟨rfl,rfl⟩|⟨rfl,rfl⟩|⟨rfl,rfl⟩<;>assumption
 have e:=congrArg Frame.tmps C.eq;simp only[kX]at e;rw[ago]at e;refine⟨tmps.getD 5 ak,fun i=>tmps.getD i ak,?_⟩;exact congrArg (fun t=>(⟨140,t,[.code _],[dcall 161 _],.run,.normal,none⟩:aj)) e
def Iz(Mp:Nat)(L:List (Nat×Nat))(M:Nat->Option Obj->Prop):Prop:=∀i o,i<L.length->M i o->∃x bo o',
 (∀w,w.heap[Mp]?=o->(aU 166 (.map (some Mp)) (.int .i64 ((L.getD i (0,0)).1:Int)) true).run af w=.ok (.tuple #[.int .i64 x,.bool bo]) w)/\
 (∀w,w.heap[Mp]?=o->∀ev∈aP af (aU 166 (.map (some Mp)) (.int .i64 ((L.getD i (0,0)).1:Int)) true) w #[],ev.loc=.obj Mp/\ev.sync=false/\ev.write=false)/\
 (∀w,w.heap[Mp]?=o->∃v w',(aK 166 (.map (some Mp)) (.int .i64 ((L.getD i (0,0)).1:Int)) (.int .i64 ((L.getD i (0,0)).2:Int))).run af w=.ok v w'/\Env.Eff Mp w w'/\w'.heap[Mp]?=o')/\
 (∀w,w.heap[Mp]?=o->∀ev∈aP af (aK 166 (.map (some Mp)) (.int .i64 ((L.getD i (0,0)).1:Int)) (.int .i64 ((L.getD i (0,0)).2:Int))) w #[],ev.loc=.obj Mp/\ev.sync=false)/\
 M (i+1) (if(!bo||decide (((L.getD i (0,0)).2:Int)<x))=true then o' else o)
theorem aeu(L:List _)(i:Nat)(K:i<L.length):(jB L)[i *2]?=some (.int .i64 ((L.getD i (0,0)).1))/\(jB L)[i *2+1]?=some (.int .i64 ((L.getD i (0,0)).2)):=by
 induction L generalizing i with
 |nil=>simp at K
 |cons a L Y=>
  cases i with
  |zero=>exact⟨rfl,rfl⟩
  |succ i=>
   rw[show(i+1) *2=i *2+1+1 by omega];exact Y i (by simp_all)
section
variable{E:Env}{ok:Nat->Prop}{RO:Nat->Prop}{Fx:ae->Prop}
theorem agp(X P:ByteArray)(k st:Nat)(K:E.wY RO Fx)(A:∀w,Fx w->(∀b,RO b->b<w.heap.size)/\E.Mp<w.heap.size)(W:RO E.Fd)(hRW:RO E.Wg)(hRM:¬RO E.Mp)(hFm:∀w,Fx w->w.cell? ⟨E.Fd,2,none⟩=some (.map (some E.Mp)))(V:∀i,¬E.U E.Mp i)(Lm:E.Fd≠E.Mp)
  (hlen:∀x,ok x->(kR X P k st x).length<=1000)(hMc:∀γ c t,¬E.mi γ (some (.cells c t)))
  (law:∀γ x,ok x->∃M:Nat->Option Obj->Prop,(∀o,E.mi γ o->M 0 o)/\(∀o,M (kR X P k st x).length o->E.mi (E.upd γ x) o)/\Iz E.Mp (kR X P k st x) M):
  Env.Sk E ok RO Fx (E.Ju X P k st):=by
 intro D x γ S X' f l w a n cap hx p hX B v hF r hm hf Z;obtain⟨M,m0,m1,ml⟩:=law γ x hx;obtain⟨v5,u,rfl⟩:=hf.eq;clear hf;obtain⟨hn,r⟩:=r;have Fl:¬E.U E.Fd 2:=fun h=>by have:=h.2;omega
 refine Tz.quiet rfl (fun _=>stepG_block) fun w1 xK=>?_;refine Tz.quiet rfl (fun _=>stepG_loop) fun w2 qd=>?_;have hr:=xK.trans qd;have Y:=K.rely S _ _ p hF hr;have F:E.mi γ (w2.heap[E.Mp]?):=by rw[(hr.kept _ B).eq V];exact hm
 rcases r with⟨rfl,h0⟩|⟨g,L,rfl,Q,hXg,d,hg,zr⟩
 ·subst h0;refine agn (by simp[Fo]) _ _ _ _ u 0 fun w3 u' q=>?_;refine Z S X' _ w3 p hX B (K.rely S _ _ p Y q) (m1 _ ?_);rw[<-hn,(q.kept _ B).eq V];exact m0 _ F
 ·have C:=((hr.kept g Q).eq d).trans hg;have m:g≠E.Mp:=fun ee=>by
   rw[<-ee,C]at F;exact hMc _ _ _ F
  have hgl:=cQ fun y=>by rw[bO y]at C;cases C
  have J:∀j,j<n *2->L[j]?=(jB _)[j]?:=fun j R=>by
   rw[<-zr,List.getElem?_take,if_pos R];simp
  have O:=Ru (U:=E.U) (D:=fun S1 X1 g1 w1=>(∃T,g1=G (Jt E.Fd T) l)/\(∀a,RO a->¬X1 a)/\Fx w1/\E.mi (E.upd γ x) (w1.heap[E.Mp]?)) (Fd:=E.Fd) (g:=g) (Mp:=E.Mp) (n:=n) (cap:=cap) (cur:=L)
   (b:=Fo) (k0:=[]) (cs:=l) rfl (by simp[Fo]) _ (.slice (some ⟨g,0,none⟩) n cap) (by rw[hn];exact hlen x hx) Fl d V Lm M
   (fun i hi=>by
    obtain⟨f1,f2⟩:=aeu (kR X P k st x) i (by omega);exact⟨(J _ (by omega)).trans f1,(J _ (by omega)).trans f2⟩)
   (fun S1 X1 w1=>(∀a,RO a->S1 a)/\(∀a,RO a->¬X1 a)/\Fx w1)
   (fun S1 X1 w3 w4 w5 es S2 X2 R hr hd=>by
    obtain⟨j1,j2,j3⟩:=R;have N:=K.rely S1 _ _ j1 j3 hr;refine⟨fun a H=>(hd.held a).2 (.inl (j1 a H)),fun a H y=>?_,K.rely RO _ _ (fun _ h=>h) N ⟨fun a H=>.inl (hd.kept a ((A _ N).1 a H) (j2 a H)),hd.grow,hd.env⟩⟩;rcases(hd.may _).1 y with z|z
    ·exact j2 a H z
    ·have:=(A _ N).1 a H;omega)
   (fun S1 X1 w3 w4 R hr=>⟨R.1,R.2.1,K.rely S1 _ _ R.1 R.2.2 hr⟩)
   (fun i o hi s=>ml i o (by omega) s)
   (fun S1 X1 v6 u6 w3 hL R s=>.stop ⟨⟨_,rfl⟩,R.2.1,R.2.2,m1 _ (by rw[<-hn];exact s)⟩)
   n 0 (by omega) (fun a=>RO a\/a=E.Mp\/a=g) (fun a=>a=E.Mp) v5 u w2
   ⟨fun a H=>(by
    rcases H with y|rfl|rfl
    ·simp_all
    ·exact(A w2 Y).2
    ·exact hgl),fun b i hu=>(by
    rcases hu.1 with rfl|rfl
    ·exact(A w2 Y).1 _ W
    ·exact(A w2 Y).1 _ hRW),C,.inr (.inr rfl),m,.inl W,.inr (.inl rfl),rfl⟩
   ⟨fun a H=>.inl H,fun a H e=>hRM (e▸H),Y⟩ (hFm w2 Y) (m0 _ F)
  refine(Tz.more (SF:=S) (XF:=X') O fun S1 X1 g1 w3 hd=>?_).gZ (fun a=>⟨fun h=>h.elim (fun y=>y.elim (p a) fun z=>z.elim (fun e=>e▸B) fun e=>e▸Q) id,.inr⟩) (fun a=>⟨fun h=>h.elim (fun y=>by subst y;exact v) id,.inr⟩);obtain⟨⟨T,rfl⟩,I,h2,h3⟩:=hd;simp_all
end
end Ph
namespace Ph
open Conc Ren
open WideElems (Fit rd rg rd_val)
open Maps (Keyed IsMap Tidy has)
theorem u166:PR.underlying 166=some (.map 3 3):=by simp
theorem u3:PR.underlying 3=some (.int .i64):=by simp
theorem Sn(w:ae):(cA 3).run PR w=.ok (.int .i64 0) w:=n_ (by kernel_rfl) w
theorem BB:Keyed PR 3:=Go.Maps.int_keyed u3
def Ap(l:List dD):=∀x∈l,∃a:Int,x.key=.int .i64 a
theorem Ce(e:Int):∀l i,Ap l->∃r,bP (.int .i64) (.int .i64 e) l i=some r/\∀j v,r=some (j,v)->i<=j/\∃x,l[j-i]?=some x/\x.key=.int .i64 e
 |[],i,_=>⟨none,rfl,fun j v h=>by cases h⟩
 |x::l,i,h=>by
  obtain⟨a,Y⟩:=h x (by simp);by_cases D:e=a
  ·subst D;refine⟨some (i,x.val),?_,fun j v K=>?_⟩
   ·simp[bP,eN,Y]
   ·simp_all
  ·obtain⟨r,I,h2⟩:=Ce e l (i+1) fun y R=>h y (by simp[R]);refine⟨r,?_,fun j v K=>?_⟩
   ·have hb:(e==a)=false:=by simp_all
    simp[bP,eN,Y,hb,I]
   ·obtain⟨A,x',U,H⟩:=h2 j v K;refine⟨by omega,x',?_,H⟩;rw[show j-i=(j-(i+1))+1 by omega];simp_all
def xN(es:Array dD)(clock:Nat)(e d:Int):Obj:=match bP (.int .i64) (.int .i64 e) es.toList 0 with
 |some (some (i,_))=>.map (es.modify i fun x=>{x with key:=.int .i64 e,val:=.int .i64 d}) clock
 |_=>.map (es.push {key:=.int .i64 e,val:=.int .i64 d,born:=clock}) (clock+1)
section
variable{w:ae}{b:Nat}{es:Array dD}{clock:Nat}{e d:Int}
theorem BU(hb:w.heap[b]?=some (.map es clock))(ev:Array _):(getObj b).events PR w ev=ev.push ⟨.obj b,false,false⟩:=by
 simp[getObj,aP,Sem.runT,hb,Obj.isChan,-Sem.runT_eq]
theorem Mo(iD:Array _)(c':Nat)(hb:w.heap[b]?=some (.map es clock))(ev:Array _):(setObj b (.map iD c')).events PR w ev=ev.push ⟨.obj b,true,false⟩:=by
 simp[setObj,aP,Sem.runT,hb,Obj.isChan]
theorem yq(K:Bool):(eI K 10000 3 (.int .i64 e)).run PR w=.ok () w:=n_ (by kernel_rfl) w
theorem Dc(K:Bool)(ev:Array _):(eI K 10000 3 (.int .i64 e)).events PR w ev=ev:=rY (a:=()) (by kernel_rfl) w ev
theorem yE{r:Option _}(h:bP (.int .i64) (.int .i64 e) es.toList 0=some r):(dp 3 (.int .i64 e) es.toList).run PR w=.ok r w:=MapKept.run_findKey u3 h
theorem DG{r:Option _}(h:bP (.int .i64) (.int .i64 e) es.toList 0=some r)(ev:Array _):(dp 3 (.int .i64 e) es.toList).events PR w ev=ev:=by
 simp[dp,h]
theorem Qz(hk:Ap es.toList)(hb:w.heap[b]?=some (.map es clock)):(aK 166 (.map (some b)) (.int .i64 e) (.int .i64 d)).run PR w=.ok () {w with heap:=w.heap.setIfInBounds b (xN es clock e d)}:=by
 obtain⟨r,I,h2⟩:=Ce e _ 0 hk;cases r with
 |none=>simp[aK,bQ hb,yq,yE I,fa _ hb,xN,I]
 |some x=>
  obtain⟨i,v⟩:=x;obtain⟨_,y,K,H⟩:=h2 i v rfl;have Y:=by simpa using K
  simp[aK,bQ hb,yq,yE I,fa _ hb,xN,I,eJ,Y,H,eM]
theorem agq(hk:Ap es.toList)(hb:w.heap[b]?=some (.map es clock)):∀ev∈aP PR (aK 166 (.map (some b)) (.int .i64 e) (.int .i64 d)) w #[],ev.loc=.obj b/\ev.sync=false:=by
 obtain⟨r,I,h2⟩:=Ce e es.toList 0 hk;intro ev Y;cases r with
 |none=>
  simp[aK,bQ hb,BU hb,yq,Dc,yE I,DG I,Mo _ _ hb]at Y;rcases Y with rfl|rfl<;>exact⟨rfl,rfl⟩
 |some x=>
  obtain⟨i,v⟩:=x;obtain⟨_,y,H,D⟩:=h2 i v rfl;have K:=by simpa using H
  simp[aK,bQ hb,BU hb,yq,Dc,yE I,DG I,Mo _ _ hb,eJ,K,D,eM]at Y;rcases Y with rfl|rfl<;>exact⟨rfl,rfl⟩
theorem aev(hk:Ap es.toList)(hb:w.heap[b]?=some (.map es clock)):∀ev∈aP PR (aU 166 (.map (some b)) (.int .i64 e) true) w #[],ev.loc=.obj b/\ev.sync=false/\ev.write=false:=by
 obtain⟨r,I,h2⟩:=Ce e _ 0 hk;intro ev Y;cases r with
 |none=>
  simp[aU,bQ hb,BU hb,yq,Dc,yE I,DG I]at Y;simp_all
 |some x=>
  simp[aU,bQ hb,BU hb,yq,Dc,yE I,DG I]at Y;simp_all
end
abbrev KB:=2000
abbrev lZ:=Nat->Option Nat
def better(g:lZ)(h:Nat×Nat):lZ:=fun e=>if e=h.1 then(match g e with|some d=>some (min d h.2)|none=>some h.2)else g e
structure uY(l:List (Lit×aZ Unit))(g:lZ):Prop where
 has:∀e:Nat,has (.map l) (.int .i64 (e:Int))=(g e).isSome
 at_:∀e:Nat,(DataW.map l).atKey (.int .i64 (e:Int)) (.lit (.int .i64 0))=.lit (.int .i64 (((g e).getD 0:Nat):Int))
 keys:∀p∈l,∃e:Nat,e<KB/\p.1=.int .i64 (e:Int)
def mZ(g:lZ)(o:Option Obj):Prop:=∃es clock l,o=some (.map es clock)/\Fit PR 3 (plainElem (H:=Unit) PR 3) es clock/\l=(es.toList.map (rg PR 3 (plainElem (H:=Unit) PR 3))).foldr DataW.insert []/\uY l g
theorem Y6(g:lZ)(c:Array _)(t:bp):¬mZ g (some (.cells c t)):=by
 rintro⟨es,clock,l,h,_⟩;cases h
theorem Hb{es:Array _}(F:Fit PR 3 (plainElem (H:=Unit) PR 3) es clock):Ap es.toList:=by
 intro x hx;obtain⟨y,R⟩:=F.reads x hx;have:∃K,keyOf PR 3 x.key=some K:=by
  obtain⟨K,I,_⟩:=Option.bind_eq_some_iff.1 R;simp_all
 obtain⟨K,Y⟩:=this;generalize D:x.key=A at Y;unfold keyOf at Y;cases A<;>simp[mapKey]at Y;simp_all
theorem Hc:∀K (l:List Nat),l.Nodup->(∀x∈l,x<K)->l.length<=K
 |0,l,_,h=>by
  cases l with
  |nil=>exact ar _
  |cons a l=>have:=h a (by simp);omega
 |K+1,l,Y,h=>by
  by_cases hk:K∈l
  ·have I:=Hc K _ (Y.erase K) (fun x hx=>by
    have h2:=(List.Nodup.mem_erase_iff Y).1 hx;have H:=h x h2.2;omega)
   simp_all
  ·have:=Hc K l Y (fun x hx=>by
    have H:=h x hx;have:x≠K:=fun e=>hk (e▸hx);omega)
   omega
def Jv:Lit->Nat
 |.int _ a=>a.toNat
 |_=>0
theorem acm{l:List _}{g:lZ}(h:uY l g)(B:l.Pairwise fun p q=>p.1≠q.1):l.length<=KB:=by
 have I:(l.map fun p=>Jv p.1).Nodup:=by
  show List.Pairwise _ _
  rw[List.pairwise_map];refine B.imp_of_mem fun{p q} K A Y e=>Y ?_;obtain⟨H,_,I⟩:=h.keys p K;obtain⟨U,_,h2⟩:=h.keys q A;rw[I,h2]at e;simp[Jv]at e;simp_all
 have h2:=Hc KB _ I (fun x hx=>by
  obtain⟨p,K,rfl⟩:=cM.1 hx;obtain⟨H,D,R⟩:=h.keys p K;rw[R];simpa[Jv]using D)
 simp_all
theorem acn:uY [] (fun _=>none):=⟨fun e=>rfl,fun e=>rfl,fun p Y=>by cases Y⟩
theorem Tb(e:Nat):akZ (.int .i64 e):=by first|trivial
theorem aco{l:List _}{g:lZ}(h:uY l g){e d:Nat}(A:e<KB):uY (ChangeMaps.putKey (.int .i64 e) (.lit (.int .i64 d)) l) (fun x=>if x=e then some d else g x):=by
 have K:IsMap _:=⟨l,rfl⟩;refine⟨fun x=>?_,fun x=>?_,fun p H=>?_⟩
 ·rw[<-eH];by_cases hx:x=e
  ·subst hx;rw[Go.Maps.has_put_same K (Tb x),if_pos rfl];rfl
  ·rw[Go.Maps.has_put_other (by intro y;cases y;omega),if_neg hx];exact h.has x
 ·rw[<-eH];by_cases hx:x=e
  ·subst hx;rw[Go.Maps.atKey_put_same K (Tb x),if_pos rfl];rfl
  ·rw[Go.Maps.atKey_put_other (by intro y;cases y;omega),if_neg hx];exact h.at_ x
 ·rcases ChangeMaps.mem_insert_iff.1 H with rfl|Y
  ·exact⟨e,A,rfl⟩
  ·exact h.keys p (List.mem_filter.1 Y).1
theorem AA{e:Nat}(h:e<1000000):(Lit.int .i64 e).wf=true:=by
 simp[Lit.wf,IntKind.min,IntKind.bits,IntKind.signed];omega
theorem acp{g:lZ}{es:Array _}{e d:Nat}(h:mZ g (some (.map es clock)))(T:e<KB)(hd:d<1000000):mZ (fun x=>if x=e then some d else g x) (some (xN es clock e d)):=by
 obtain⟨M,U,l,N,F,C,R⟩:=h;cases N
 let w:={(default:ae)with heap:=#[.map es clock]}
 have hb:w.heap[0]?=some _:=rfl;have own:w.ownsMap PR 3 _ 0 _ (.map l):=⟨es,clock,hb,F,ar _,by rw[C]⟩;obtain⟨l1,L,P⟩:=own.tidy BB;cases L;have D:es.size<maxLen:=by
  have I:=acm R P;have h2:l.length=es.size:=by rw[C,ak1];simp
  have Q:KB<maxLen:=by decide
  omega
 obtain⟨w',K,A,_⟩:=own.store BB u166 D (Go.Maps.keyOf_int_mk u3 (AA (e:=e) (by have:KB=2000:=rfl;omega))) (eu u3 (AA hd));rw[Qz (Hb F) hb]at K;cases K;obtain⟨iD,Y,H,J,_,O⟩:=A;have B:some (xN es clock e d)=some (Obj.map iD Y):=H.symm.trans H▸(by
  have:(w.heap.setIfInBounds 0 (xN es clock e d))[0]?=some _:=rfl;simp_all)
 rw[B];refine⟨iD,Y,_,rfl,J,(DataW.map.inj O),aco R T⟩
theorem aew(Mp:Nat)(g:lZ)(L:List (Nat×Nat))(M:∀h∈L,h.1<KB/\h.2<1000000):Iz Mp L (fun i o=>mZ ((L.take i).foldl better g) o):=by
 intro i o V C;have J:L[i]?=some (L.getD i (0,0)):=by simp_all
 generalize T:L.getD i (0,0)=h at J;obtain⟨e,d⟩:=h;obtain⟨P,hd⟩:=M _ (bZ J);have Y:(L.take (i+1)).foldl better g=better ((L.take i).foldl better g) (e,d):=by rw[dC,J,List.foldl_append];rfl
 simp only[Y];generalize(L.take i).foldl better g=γ at C⊢;have D:=C;obtain⟨es,clock,l,rfl,F,Q,R⟩:=C;have hk:=Hb F;refine⟨(((γ e).getD 0:Nat):Int),(γ e).isSome,some (xN es clock (e:Int) (d:Int)),fun w hb=>?_,fun w hb=>aev hk hb,fun w hb=>?_,fun w hb=>agq hk hb,?_⟩
 ·have own:w.ownsMap PR 3 _ Mp es.size (.map l):=⟨es,clock,hb,F,ar _,by rw[Q]⟩;obtain⟨v,ps,U,S⟩:=own.look_ok BB u166 (Sn w) (eu (H:=Unit) u3 (AA (e:=0) (by omega))) (Go.Maps.keyOf_int_mk u3 (AA (e:=e) (by have:KB=2000:=rfl;omega)));obtain⟨c,rfl,O,_⟩:=ew u3 S;have I:=congrArg Prod.fst O;rw[R.at_ e]at I;have h2:c=(((γ e).getD 0:Nat):Int):=by simp_all
  rw[U,h2,R.has e]
 ·refine⟨(),_,Qz hk hb,⟨fun a N=>?_,by simp,rfl,.refl _,rfl⟩,?_⟩
  ·rw[cB fun y=>N y.symm]
  ·rw[ez (bq.1 hb).1]
 ·have hb:=acp D P hd;cases B:γ e with
  |none=>
   have K:better γ (e,d)=fun x=>if x=e then some d else γ x:=by
    funext x;unfold better;simp_all
   rw[K];exact hb
  |some c=>
   by_cases A:d<c
   ·have K:better γ (e,d)=fun x=>if x=e then some d else γ x:=by
     funext x;unfold better;by_cases hx:x=e
     ·subst hx;simp[B];omega
     ·simp[hx]
    rw[K,if_pos (by simpa using A)];exact hb
   ·have K:better γ (e,d)=γ:=by
     funext x;unfold better;by_cases hx:x=e
     ·subst hx;simp[B];omega
     ·simp[hx]
    rw[K,if_neg (by simpa using A)];exact D
end Ph
namespace Ph
open Conc Ren
open Lock (Word PC)
section
variable{P:aN}{main:Bool}{U:Nat->Nat->Prop}{D:(Nat->Prop)->(Nat->Prop)->aj->List aj->ae->Prop}{S X:Nat->Prop}{f:aj}{l:List aj}{w:ae}
theorem Tr.one(h:∀w2,gI U S w w2->∃f1 l1 w1 es S1 X1,aT P main (G f l) w2=.go (G f1 l1) w1 es/\Did S X w2 w1 es S1 X1/\Tr P main U D S1 X1 f1 l1 w1):Tr P main U D S X f l w:=by
 refine .step (fun w2 hr=>?_) fun w2 f1 l1 w1 es S1 X1 hr e hd=>?_
 ·obtain⟨f1,l1,w1,es,S1,X1,e,hd,_⟩:=h w2 hr;exact⟨f1,l1,w1,es,S1,X1,e,hd⟩
 ·obtain⟨R,A,B,iD,K,H,e',Y,I⟩:=h w2 hr;rw[e]at e';cases e';obtain⟨rfl,rfl⟩:=hd.same Y;exact I
theorem Tr.pure:∀n {f:aj} {l:List _} {w:ae},(∀w2,gI U S w w2->Tr P main U D S X (gC P n f l).1 (gC P n f l).2 w2)->Tr P main U D S X f l w
 |0,f,l,w,h=>h w (.refl _ _ _)
 |n+1,f,l,w,h=>by
  unfold gC at h;split at h
  ·rename_i f1 l1 e;exact Tr.one fun w2 hr=>⟨_,_,w2,#[],S,X,sX e,(iW (U:=U) S X w2).toDid,Tr.pure n fun w3 Y=>h w3 (hr.trans Y)⟩
  ·exact h w (.refl _ _ _)
end
theorem gn.pure{P:aN}{Q:QT}(n:Nat)(k:∀w',Kept (fun _=>False) (fun _=>False) w w'->gn P Q Z (gC P n f l).1 (gC P n f l).2 w'):gn P Q Z f l w:=by
 refine c9 (U:=fun _ _=>False) (S:=fun _=>False) (X:=fun _=>False) (Done:=fun S X f' l' w'=>X=(fun _=>False)/\f'=(gC P n f l).1/\l'=(gC P n f l).2) (Tr.pure n fun w2 hr=>.stop ⟨rfl,rfl,rfl⟩) (fun a h=>h.elim) fun S' X' f' l' w' hd hk=>?_;obtain⟨rfl,rfl,rfl⟩:=hd;exact k w' hk
structure k4(Z:Loc->Prop)(Fd Mp Wg Gv By Rf Sg Fp k q st n:Nat)(X P:ByteArray)(b:Option Addr)(gB:List Nat)(w:ae):Prop where
 cin:xL Fd By Rf Sg Fp k q st X P w
 fd:w.heap[Fd]?=some (.cells #[.int .i32 0,.int .u32 0,.map (some Mp)] 191)
 mp:w.heap[Mp]?=some (.map #[] 0)
 wg:w.heap[Wg]?=some (.cells #[.int .u64 0,.int .u32 0] 212)
 gv:w.heap[Gv]?=some (.cells (oH [] n) 214)
 num:∀i x:Nat,gB[i]?=some x->∃Nb o,b=some ⟨Nb,o,none⟩/\w.cell? ⟨Nb,o+i,none⟩=some (.int .i64 (x:Int))/\Nb≠Mp/\Nb≠Gv/\Nb≠Fd/\Nb≠Wg/\iP Z Nb
 off:∀a,a=Fd\/a=Mp\/a=Wg\/a=Gv\/Kp By Rf Sg Fp a->iP Z a
 fm:Fd≠Mp
 fw:Fd≠Wg
 fg:Fd≠Gv
 mw:Mp≠Wg
 mg:Mp≠Gv
 Fq:Gv≠Wg
 kp:∀a,Kp By Rf Sg Fp a->a≠Fd/\a≠Mp/\a≠Wg/\a≠Gv
 n0:0<n
 n8:n<=8
 len:gB.length<1000000
 hX:X.size<=200
 hP:P.size<=30
 hk:k<=6
 gj:st<=200
 ok:∀x∈gB,x *st<=X.size/\x<=100000
def iL(Fd Mp Wg:Nat)(X P:ByteArray)(k st:Nat):Env where
 Fd:=Fd
 Mp:=Mp
 Wg:=Wg
 tF:=191
 tW:=212
 zc:=Fc
 Γ:=lZ
 upd g x:=(kR X P k st x).foldl better g
 mi:=mZ
def ko(Z:Loc->Prop)(Mp Gv B:Nat)(a:Nat):=a<B/\a≠Mp/\a≠Gv/\iP Z a
theorem jI{a:Nat}{o:Obj}(h:w.heap[a]?=some o):a<w.heap.size:=(bq.1 h).1
section
variable{Z:Loc->Prop}{Fd Mp Wg Gv By Rf Sg Fp k q st n:Nat}{X P:ByteArray}{b:Option Addr}{gB:List Nat}{w:ae}
theorem k4.Jw(h:k4 Z Fd Mp Wg Gv By Rf Sg Fp k q st n X P b gB w){a:Nat}(K:Kp By Rf Sg Fp a):ko Z Mp Gv w.heap.size a:=by
 obtain⟨I,h2,H,Y⟩:=h.kp a K;refine⟨?_,h2,Y,h.off a (.inr (.inr (.inr (.inr K))))⟩;rcases K with rfl|rfl|rfl|rfl
 ·exact jI h.cin.b
 ·exact jI h.cin.r
 ·exact jI h.cin.s
 ·exact jI h.cin.f
theorem k4.yY(h:k4 Z Fd Mp Wg Gv By Rf Sg Fp k q st n X P b gB w):ko Z Mp Gv w.heap.size Fd:=⟨jI h.fd,h.fm,h.fg,h.off Fd (.inl rfl)⟩
theorem k4.yZ(h:k4 Z Fd Mp Wg Gv By Rf Sg Fp k q st n X P b gB w):ko Z Mp Gv w.heap.size Wg:=⟨jI h.wg,fun e=>h.mw e.symm,fun e=>h.Fq e.symm,h.off Wg (.inr (.inr (.inl rfl)))⟩
theorem wZ{a:Nat}(I:a≠Fd)(h2:a≠Wg)(i:Nat):¬(iL Fd Mp Wg X P k st).U a i:=fun y=>y.1.elim I h2
theorem k4.same(h:k4 Z Fd Mp Wg Gv By Rf Sg Fp k q st n X P b gB w){a:Nat}(K:ko Z Mp Gv w.heap.size a)(I:a≠Fd)(h2:a≠Wg)(A:sE (iL Fd Mp Wg X P k st) (ko Z Mp Gv w.heap.size) w w2):w2.heap[a]?=w.heap[a]?:=
 (A.kept a K).eq (wZ I h2)
theorem k4.Tc(h:k4 Z Fd Mp Wg Gv By Rf Sg Fp k q st n X P b gB w)(K:sE (iL Fd Mp Wg X P k st) (ko Z Mp Gv w.heap.size) w w2):xL Fd By Rf Sg Fp k q st X P w2:=by
 have s:=fun a Y=>h.same (h.Jw Y) (h.kp a Y).1 (h.kp a Y).2.2.1 K;exact⟨(s _ (.inl rfl)).trans h.cin.b,(s _ (.inr (.inl rfl))).trans h.cin.r,(s _ (.inr (.inr (.inl rfl)))).trans h.cin.s,(s _ (.inr (.inr (.inr rfl)))).trans h.cin.f,bF h.cin.low K.grow⟩
theorem k4.known(h:k4 Z Fd Mp Wg Gv By Rf Sg Fp k q st n X P b gB w):(iL Fd Mp Wg X P k st).wY (ko Z Mp Gv w.heap.size) (sE (iL Fd Mp Wg X P k st) (ko Z Mp Gv w.heap.size) w):=
 ⟨fun S w1 w2 Y hF hr=>bB hF ⟨fun a K=>hr.kept a (Y a K),hr.grow,hr.env⟩,fun w1 hF=>Env.uR.rely ⟨_,_,_,h.fd,rfl⟩ h.yY hF,fun w1 hF=>Env.pe.rely ⟨_,_,_,h.wg,rfl⟩ h.yZ hF⟩
theorem NH(t p:ByteArray)(k:Nat):∀n,∀h∈kK t p k n,h.2<=k
 |0,h,Y=>by simp[kK]at Y
 |n+1,h,Y=>by
  have K:=NH t p k n;rw[kK]at Y;split at Y
  ·rcases dA.1 Y with I|I
   ·exact K h I
   ·simp_all
  ·exact K h Y
theorem Ot{x:Nat}(hX:X.size<=200)(hP:P.size<=30)(hk:k<=6)(gj:st<=200)(hx:x *st<=X.size/\x<=100000):(kR X P k st x).length<=1000/\∀h∈kR X P k st x,h.1<KB/\h.2<1000000:=by
 have A:(jh X P k st x).size<=300:=by unfold jh;rw[cD];omega
 have R:(kR X P k st x).length=(kU _ P k).length:=x8 _ _ _;have I:(kU _ P k).length<=(jh X P k st x).size:=B9 _ _ _ _;refine⟨by omega,fun h K=>?_⟩;unfold kR ki at K;rw[e_,List.drop_length,List.append_nil]at K;obtain⟨H,Y,rfl⟩:=cM.1 K;have h2:=Gn _ _ _ _ H Y;have D:=NH _ _ _ _ H Y;have:KB=2000:=rfl;omega
theorem k4.ajO(h:k4 Z Fd Mp Wg Gv By Rf Sg Fp k q st n X P b gB w)(ch:Nat):Env.GJ (iL Fd Mp Wg X P k st) ch (fun x=>x *st<=X.size/\x<=100000) (jW By Rf Sg Fp) (ko Z Mp Gv w.heap.size) (sE (iL Fd Mp Wg X P k st) (ko Z Mp Gv w.heap.size) w):=by
 have Y:∀w2,sE (iL Fd Mp Wg X P k st) (ko Z Mp Gv w.heap.size) w w2->(∀b,ko Z Mp Gv w.heap.size b->b<w2.heap.size)/\(iL Fd Mp Wg X P k st).Mp<w2.heap.size:=fun w2 C=>⟨fun b hb=>aD hb.1 C.grow,aD (jI h.mp) C.grow⟩;have H:¬ko Z Mp Gv w.heap.size (iL Fd Mp Wg X P k st).Mp:=fun y=>y.2.1 rfl;have D:∀i,¬(iL Fd Mp Wg X P k st).U (iL Fd Mp Wg X P k st).Mp i:=wZ (fun e=>h.fm e.symm) h.mw;refine Env.YZ D h.known (fun hF F J R=>bB hF (Qt _ F R J)) (fun hF=>bB hF ⟨fun a _=>.inl rfl,ar _,⟨_,rfl⟩⟩) (Env.aep _ X P k st) h.yY h.yZ (h.Jw (.inr (.inr (.inr rfl)))) (wZ (h.kp Fp (.inr (.inr (.inr rfl)))).1 (h.kp Fp (.inr (.inr (.inr rfl)))).2.2.1 0) (fun w2 hF=>?_) H ?_ ?_
 ·rw[au _ Fp 0 _ _ _ (h.Tc hF).f];rfl
 ·exact aer X P k q st h.hX h.hP h.hk h.gj (fun x hx=>hx) h.known (fun w2 hF=>h.Tc hF) (fun b hb=>h.Jw hb) (fun b hb=>wZ (h.kp b hb).1 (h.kp b hb).2.2.1) Y
 ·have B:∀(γ:lZ) (x:Nat),(x *st<=X.size/\x<=100000)->∃M:Nat->Option Obj->Prop,(∀o,mZ γ o->M 0 o)/\(∀o,M (kR X P k st x).length o->mZ ((kR X P k st x).foldl better γ) o)/\Iz Mp (kR X P k st x) M:=fun γ x hx=>
   ⟨fun i o=>mZ (((kR X P k st x).take i).foldl better γ) o,(fun o A=>by show mZ (((kR X P k st x).take 0).foldl better γ) o;rw[List.take_zero];exact A),(fun o A=>by
    have I:mZ (((kR X P k st x).take (kR X P k st x).length).foldl better γ) o:=A;rw[e_]at I;exact I),aew Mp γ _ (Ot h.hX h.hP h.hk h.gj hx).2⟩
  have K:w.cell? ⟨Fd,2,none⟩=some (.map (some Mp)):=by rw[au _ Fd 2 _ _ _ h.fd];rfl
  exact agp X P k st h.known Y h.yY h.yZ H (fun w2 hF=>qp (U:=(iL Fd Mp Wg X P k st).U) (S:=ko Z Mp Gv w.heap.size) h.yY (fun y=>by have:=y.2;omega) K hF) D h.fm (fun x hx=>(Ot h.hX h.hP h.hk h.gj hx).1) (fun γ c t=>Y6 γ c t) B
end
end Ph
namespace Ph
open Conc Ren
open Lock (Word PC)
open ConcN (sumTo upd sumTo_upd upd_ne upd_same sumTo_le)
theorem Ou{E:Env}{b:Nat}{a:Addr}(h:¬E.U a.block a.off):mU E RO b XX (.cell a)=mm E RO b XX a.block:=by
 simp[mU];simp_all
theorem aav{E:Env}{b:Nat}{a:Addr}(h:E.U a.block a.off):mU E RO b XX (.cell a)=.at:=by
 simp[mU];simp_all
def D_(E:Env)(gK:E.Γ):iw E:=⟨0,[],fun _=>.no,.st [],.run,Word.zero,0,0,0,0,gK,[],none⟩
theorem Hd(n:Nat):sumTo n (fun _=>0)=0:=by
 induction n with
 |zero=>rfl
 |succ n Y=>simp[sumTo,Y]
theorem ci0{E:Env}{J:im}{gK:E.Γ}(K:0<J.n):CI J gK (D_ E gK):=by
 have Y:Lock.Inv (fun _=>PC.out) J.n Word.zero 0:=by
  refine⟨fun i _=>trivial,by rw[nx _ rfl];rfl,fun _=>⟨by rw[nx Lock.jq rfl,nx Lock.gS rfl,nx Lock.jE rfl];rfl,by rw[nx Lock.ji rfl,nx Lock.jE rfl];rfl,nx _ rfl _,nx _ rfl _,fun _ _ h=>absurd h (akr 0)⟩,fun h=>by cases h⟩
 refine⟨bT _,rfl,eX,fun _ _=>rfl,fun k hk=>absurd hk (bR _),Y,nofun,nofun,nofun,⟨nofun,nofun,nofun⟩,fun y=>?_,rfl,?_,?_,fun k hk=>hk.elim,⟨rfl,K⟩,nofun,nofun,nofun,nofun⟩
 ·show 0+sumTo J.n (fun _=>0)=(J.gB.take 0).count y
  rw[Hd];simp
 ·show 0+sumTo J.n (fun _=>0)=0+0
  rw[Hd]
 ·show ng (.st []) 0 0 0 (sumTo J.n fun _=>0) (sumTo J.n fun _=>0)
  rw[Hd];exact .inl ⟨rfl,rfl,rfl,rfl,id,nofun⟩
theorem ais{E:Env}{J:im}{gK:E.Γ}:Calm J (D_ E gK):=⟨nofun,nofun,nofun,nofun⟩
theorem XO(g:lZ)(I h2:Nat×Nat):better (better g I) h2=better (better g h2) I:=by
 funext e;unfold better;by_cases Y:e=I.1<;>by_cases H:e=h2.1<;>simp[Y]<;>(try rfl)
 ·subst Y;by_cases K:I.1=h2.1
  ·rw[if_pos K,if_pos K];cases g _ with
   |none=>simp;omega
   |some d=>simp;omega
  ·omega
 simp_all
theorem L6(g:lZ):∀(L:List _) h,L.foldl better (better g h)=better (L.foldl better g) h
 |[],h=>rfl
 |a::L,h=>by
  rw[cJ,cJ,XO g h a];exact L6 _ L h
theorem NI(g:lZ):∀(A K:List _),K.foldl better (A.foldl better g)=A.foldl better (K.foldl better g)
 |[],K=>rfl
 |a::A,K=>by
  rw[cJ,cJ,NI _ A K,L6 g K a]
theorem Y7{f:lZ->Nat->lZ}(A:∀g x y,f (f g x) y=f (f g y) x)(h:l1.Perm l2):∀g,l1.foldl f g=l2.foldl f g:=by
 induction h with
 |nil=>exact fun _=>rfl
 |cons x _ H=>exact fun g=>H _
 |swap x y l=>exact fun g=>by simp_all
 |trans _ _ Y K=>exact fun g=>(Y g).trans (K g)
def qy(X P:ByteArray)(k st:Nat)(gB:List Nat):=gB.foldl (fun g x=>(kR X P k st x).foldl better g) (fun _=>none)
section
variable{Z:Loc->Prop}{Fd Mp Wg Gv By Rf Sg Fp k q st n:Nat}{X P:ByteArray}{b:Option Addr}{gB:List Nat}{w:ae}
noncomputable def Td (Z:Loc->Prop) (Fd Mp Wg Gv By Rf Sg Fp k st n:Nat) (X P:ByteArray) (gB:List Nat) (w:ae) (c:aj) (cs:List aj) (b:Nat):gD where
 P:=PR
 E:=iL Fd Mp Wg X P k st
 J:=⟨n,gB⟩
 b:=b
 A ch:=Env.AtRecv (iL Fd Mp Wg X P k st) ch (jW By Rf Sg Fp) (ko Z Mp Gv w.heap.size) (sE (iL Fd Mp Wg X P k st) (ko Z Mp Gv w.heap.size) w)
 j8:=S_ (iL Fd Mp Wg X P k st) (ko Z Mp Gv w.heap.size) w (jW By Rf Sg Fp)
 Fin:=Ta (iL Fd Mp Wg X P k st) (ko Z Mp Gv w.heap.size) w c cs
 RO:=ko Z Mp Gv w.heap.size
 iU l:=Z l\/rA (iL Fd Mp Wg X P k st) l
 ok x:=x *st<=X.size/\x<=100000
 gK:=fun _=>none
 w0:=w
theorem k4.ajP(h:k4 Z Fd Mp Wg Gv By Rf Sg Fp k q st n X P b gB w)(c:aj)(cs:List _)(A:Nat)(hb:0<A):(Td Z Fd Mp Wg Gv By Rf Sg Fp k st n X P gB w c cs A).Laws where
 n0:=h.n0
 n8:=h.n8
 b0:=hb
 Kh:=h.ok
 fw:=h.fw
 mf:=fun e=>h.fm e.symm
 mw:=h.mw
 rf:=h.yY
 rw:=h.yZ
 rm:=fun y=>y.2.1 rfl
 Ki:=fun l D=>.inr D
 I0:=fun Y=>Env.XG Y
 I1:=fun Y w2=>Env.aao Y
 Jq:=fun Y hr hx K=>Env.XH h.known (h.ajO _) Y hr hx K
 R8:=fun Y hr K=>Env.XI h.known Y hr _ K
 Ex:=fun{ch g w2} H=>by
  obtain⟨rfl,hF⟩:=H;exact Env.aeh h.known ⟨fun _ y=>y,fun y=>y.2.1 rfl,id,h.yY,h.yZ,fun _ _ y=>y⟩ hF
theorem k4.dl(h:k4 Z Fd Mp Wg Gv By Rf Sg Fp k q st n X P b gB w):Dl (iL Fd Mp Wg X P k st) (ko Z Mp Gv w.heap.size) w Gv ⟨n,gB⟩ b:=by
 refine⟨h.n0,h.n8,h.len,wZ (fun e=>h.fg e.symm) h.Fq,h.Fq,fun y=>y.2.2.1 rfl,h.yZ,⟨_,_,_,h.wg,rfl⟩,fun a i U=>?_,fun i x hx=>?_⟩
 ·rcases U.1 with e|e
  ·rw[e];exact jI h.fd
  ·rw[e];exact jI h.wg
 ·obtain⟨Nb,o,hb,K,I,h2,D,R,A⟩:=h.num i x hx;have H:Nb<w.heap.size:=cQ fun y=>by
   simp[aJ,bO y]at K
  have Y:ko Z Mp Gv _ Nb:=⟨H,I,h2,A⟩;refine⟨Nb,o,hb,Y,wZ D R _,fun w2 hF=>?_⟩;simp[aJ]at K⊢;rw[h.same Y D R hF];exact K
theorem k4.mu0(h:k4 Z Fd Mp Wg Gv By Rf Sg Fp k q st n X P b gB w):(iL Fd Mp Wg X P k st).MuAt w Word.zero 0:=by
 exact h.fd
theorem k4.Fh(h:k4 Z Fd Mp Wg Gv By Rf Sg Fp k q st n X P b gB w):(iL Fd Mp Wg X P k st).WgAt w 0 0 0:=by
 exact h.wg
theorem k4.phase(h:k4 Z Fd Mp Wg Gv By Rf Sg Fp k q st n X P b gB w){Qq:QT}{c:aj}
  (hf:ky 137 55 lr (sA (ov (qR (iL Fd Mp Wg X P k st) ⟨n,gB⟩ b cap (jW By Rf Sg Fp) Gv) n 0)) f)(Ug:f.tmps.getD 18 ak=.bool (decide (0<n)))
  (kk:∀w',gI (iL Fd Mp Wg X P k st).U (ko Z Mp Gv w.heap.size) w w'->mZ (qy X P k st gB) (w'.heap[Mp]?)->(iL Fd Mp Wg X P k st).MuAt w' Word.zero 0->w'.tape=w.tape->w'.output=w.output->Mp<w'.heap.size->gn PR Qq (fun l=>Z l\/rA (iL Fd Mp Wg X P k st) l) (c.finish unit) cs w'):
  gn PR Qq Z f (c::cs) w:=by
 rintro m t ⟨gs,sl,qq,rfl,H⟩;have C:0<gs.size:=(bq.1 H.g0).1;have hQ:=h.ajP c cs gs.size C
 let R:=Td Z Fd Mp Wg Gv By Rf Sg Fp k st n X P gB w c cs gs.size
 let A:Nat->Prop:=fun a=>ko Z Mp Gv w.heap.size a\/a=Gv
 let B:Nat->Prop:=fun a=>a=Gv
 have hG:Gv<w.heap.size:=jI h.gv;have hDW:DW (iL Fd Mp Wg X P k st) (ko Z Mp Gv w.heap.size) w Gv n [] [] A B w:=
  ⟨fun a Y=>.inl Y,fun a Y e=>Y.2.2.1 e,.inr rfl,rfl,h.gv,ek _ _ _,fun a Y=>Y.elim (fun y=>y.1) fun e=>e▸hG,nofun⟩
 have gj:(⟨n,gB⟩:im).kh []=.st []:=by unfold im.kh;rw[if_pos (show([]:List Nat).length<n from h.n0)]
 have d:∀fu,Tz PR true (iL Fd Mp Wg X P k st).U (R.DS fu (.st [])) A B (G f (c::cs)) w:=by
  intro fu;have:=aiq (E:=iL Fd Mp Wg X P k st) (cap:=cap) (work:=jW By Rf Sg Fp) (c:=c) (cs:=cs) h.dl n [] (by simp) fu A B f w hf Ug hDW;rw[gj]at this;exact this
 have o:∀l,R.cls (fun _=>⟨A,B,G f (c::cs),w⟩) 0 [] l≠.no->¬Z l:=by
  have hU:∀l,rA (iL Fd Mp Wg X P k st) l->¬Z l:=by
   intro l K;cases l with
   |cell a=>
    rcases K.1 with e|e
    ·exact h.off Fd (.inl rfl) _ e
    ·exact h.off Wg (.inr (.inr (.inl rfl))) _ e
   |_=>exact K.elim
  have hb:∀a,mm (iL Fd Mp Wg X P k st) (ko Z Mp Gv w.heap.size) gs.size (gD.om (fun _=>⟨A,B,G f (c::cs),w⟩) 0 []) a≠.no->iP Z a:=by
   intro a Y;unfold mm at Y;split at Y
   ·rename_i y;exact y.2.2.2
   ·split at Y
    ·rename_i y;rw[show a=Mp from y];exact h.off Mp (.inr (.inl rfl))
    ·split at Y
     ·rename_i y;obtain⟨i,y⟩:=y;rcases y with⟨_,y⟩|⟨_,y⟩
      ·rw[show a=Gv from y];exact h.off Gv (.inr (.inr (.inr (.inl rfl))))
      ·cases y
     ·exact absurd rfl Y
  intro l K;cases l with
  |cell a=>
   by_cases hu:(iL Fd Mp Wg X P k st).U a.block a.off
   ·exact hU (.cell a) hu
   ·refine hb _ (fun e=>K ?_) (.cell a) rfl;exact(Ou hu).trans e
  |obj a=>exact hb a K (.obj a) rfl
  |output=>exact absurd rfl K
  |goroutines=>exact absurd rfl K
  |mark m=>exact absurd rfl K
 have u:∀l g,R.cls (fun _=>⟨A,B,G f (c::cs),w⟩) 0 [] l=.own g->g=0:=by
  have hb:∀a g,mm (iL Fd Mp Wg X P k st) (ko Z Mp Gv w.heap.size) gs.size (gD.om (fun _=>⟨A,B,G f (c::cs),w⟩) 0 []) a=.own g->g=0:=by
   intro a g Y;unfold mm at Y;split at Y
   ·cases Y
   ·split at Y
    ·cases Y
    ·split at Y
     ·rename_i y;have hs:=Classical.choose_spec y;have:Classical.choose y=0:=by
       rcases hs with⟨z,_⟩|⟨z,_⟩
       ·omega
       ·exact z
      rw[this]at Y;cases Y;rfl
     ·cases Y
  intro l g K;cases l with
  |cell a=>
   by_cases hu:(iL Fd Mp Wg X P k st).U a.block a.off
   ·have I:=(aav hu).symm.trans K;cases I
   ·exact hb _ _ ((Ou hu).symm.trans K)
  |obj a=>exact hb a g K
  |output=>cases K
  |goroutines=>cases K
  |mark m=>cases K
 have L:∀a,NoRelease a t:=fun a i O=>by
  obtain⟨op,ho,he⟩:=cf.1 O;exact H.nr op (Array.mem_of_getElem? ho) a he
 have W:∀op∈t,Seen w.heap.size op:=fun op gu=>⟨H.past.seen op gu,H.nr op gu⟩;have hMI:R.MI (D_ R.E R.gK) (fun _=>⟨A,B,G f (c::cs),w⟩) (fun _=>mu R.J (D_ R.E R.gK)) gs w t qq (fun _=>none):=by
  refine⟨rfl,⟨H.g0,d _⟩,fun kx hk=>absurd hk (bR _),fun i g O _ hg=>H.rT.old i g O hg,fun _ _=>ar _,fun _ _=>ek _ _ _,?_,?_,?_,H.past.hears,fun kx hk=>absurd hk (bR _),fun i O=>H.rT.above i O,fun kx hk=>absurd hk (bR _),fun _ _=>rfl,W⟩
  ·refine⟨fun i i' O Et hne=>?_,fun i _ a Y=>Y.elim (fun y=>y.1) fun e=>e▸hG,fun i _ a Y=>Y,fun i _ a Y e=>Y.2.2.1 e,fun i _ a e=>.inr e,fun i _ Y=>?_,fun a Y=>Y.1,jI h.mp,nofun⟩
   ·have I:i=0:=Nat.le_zero.1 O;have h2:i'=0:=Nat.le_zero.1 Et;exact absurd (I.trans h2.symm) hne
   ·rcases Y with y|y
    ·exact absurd rfl y.2.1
    ·exact absurd y h.mg
  ·refine⟨h.mu0,h.Fh,fun _=>?_,fun kx hk=>absurd hk (bR _),fun kx hk=>absurd hk (bR _),rfl,rfl⟩;rw[show w.heap[R.E.Mp]?=some (.map #[] 0)from h.mp];exact⟨#[],0,[],rfl,⟨by simp,Go.MapKept.stamped_empty 0,by simp⟩,rfl,acn⟩
  ·exact PT.init H.past C o u On (fun l K=>.inr (Ps K)) (fun l K=>.inl K) ⟨L _,L _⟩
 obtain⟨N,m',t',ajQ,p⟩:=gD.phase (sl:=sl) hQ (ci0 h.n0) ais hMI;obtain⟨nW,w',sl',q',S',X',g',dn,rfl,hg',hF,hL,hP,r,T,Kl,hwg,j,s,SK,_,F,hsn⟩:=p;obtain⟨np,f',l',rfl,v,D,_,_⟩:=hF;have S:mZ (qy X P k st gB) (w'.heap[Mp]?):=by
  have e:dn.foldl (fun g x=>(kR X P k st x).foldl better g) (fun _=>none)=qy X P k st gB:=Y7 (fun g x y=>NI g _ _) T _;rw[<-e];exact r
 have Q:pX (fun l=>Z l\/rA (iL Fd Mp Wg X P k st) l) w'.heap.size:=by
  intro l K;rcases K with y|y
  ·exact⟨(H.nQ l y).1,Loc.low_mono D.grow (H.nQ l y).2⟩
  ·cases l with
   |cell a=>
    refine⟨rfl,?_⟩;show a.block<_
    rcases y.1 with e|e
    ·rw[e];exact aD (jI h.fd) D.grow
    ·rw[e];exact aD (jI h.wg) D.grow
   |_=>exact y.elim
 have M:gn PR Qq (fun l=>Z l\/rA (iL Fd Mp Wg X P k st) l) f' l' w':=by
  refine gn.pure np fun w2 hk=>?_;rw[v];have V:gI (iL Fd Mp Wg X P k st).U (ko Z Mp Gv w.heap.size) w w2:=bB D ⟨fun a Y=>.inl (hk.kept a (aD Y.1 D.grow) id),hk.grow,hk.env⟩;refine kk w2 V ?_ ?_ (hk.tape.trans j) (hk.output.trans s) (aD F hk.grow)
  ·rw[hk.kept Mp F id];exact S
  ·have I:w'.heap[(iL Fd Mp Wg X P k st).Fd]?=_:=Kl;have h2:w2.heap[Fd]?=w'.heap[Fd]?:=hk.kept Fd (jI I) id;exact h2.trans I
 obtain⟨N2,m2,t2,Z2,f2,l2,w2,qd,hA2,hQ2⟩:=M _ t' ⟨nW,sl',q',rfl,hg',hL,hP,(fun a y=>y.elim),Q,fun op gu=>(hsn op gu).2⟩;exact⟨N+N2,m2,t2,Z2,f2,l2,w2,by rw[Go.Proofs.YtdcjnhipenbcfaaGreatDoor.Ren.runNT_add PR N N2 _ _ _ _ ajQ];exact qd,hA2,hQ2⟩
end
end Ph
namespace Ph
open Conc Ren
structure g_(Z:Loc->Prop)(w w':ae):Prop where
 old:∀a,a<w.heap.size->iP Z a->w'.heap[a]?=w.heap[a]?
 grow:w.heap.size<=w'.heap.size
 tape:w'.tape=w.tape
 env:nB w'.os w.os
 output:w'.output=w.output
theorem g_.trans{Z:Loc->Prop}{w w1 w2:ae}(h:g_ Z w w1)(k:g_ Z w1 w2):g_ Z w w2:=⟨fun a Y K=>(k.old a (aD Y h.grow) K).trans (h.old a Y K),bF h.grow k.grow,k.tape.trans h.tape,k.env.trans h.env,k.output.trans h.output⟩
theorem g_.of(h:Kept (fun _=>False) X' w w'):g_ Z w w':=⟨fun a Y _=>h.kept a Y id,h.grow,h.tape,h.env,h.output⟩
section
variable{P:aN}{Q:QT}{Z:Loc->Prop}{f:aj}{l:List aj}{w:ae}
theorem gn.xr(k:pX Z w.heap.size->gn P Q Z f l w):gn P Q Z f l w:=by
 rintro m t ⟨gs,sl,q,rfl,Y⟩;exact k Y.nQ _ t ⟨gs,sl,q,rfl,Y⟩
theorem gn.alloc{F:Nat->aj}{o:Obj}(gj:∀w2,aT P true (G f l) w2=.go (G (F w2.heap.size) l) (w2.alloc o) #[])
  (k:∀B w',w.heap.size<=B->B<w'.heap.size->w'.heap[B]?=some o->iP Z B->g_ Z w w'->gn P Q Z (F B) l w'):gn P Q Z f l w:=by
 refine gn.xr fun Y=>?_;refine c9 (U:=fun _ _=>False) (S:=fun _=>False) (X:=fun _=>False) (Done:=fun S X f' l' w'=>∃B,w.heap.size<=B/\B<w'.heap.size/\w'.heap[B]?=some o/\f'=F B/\l'=l) (Tr.one fun w2 hr=>⟨_,_,_,_,_,_,gj w2,(GM (U:=fun _ _=>False) o).toDid,.stop ⟨w2.heap.size,hr.grow,by simp,aM w2 o,rfl,rfl⟩⟩) (fun a h=>h.elim) fun S' X' f' l' w' hd hk=>?_;obtain⟨B,I,h2,K,rfl,rfl⟩:=hd;exact k B w' I h2 K (Y.off I) (g_.of hk)
theorem gn.read{a:Addr}(gj:∀w2,w2.cell? a=some v->aT P true (G f l) w2=.go (G f1 l) w2 #[⟨.cell a,false,false⟩])(K:w.cell? a=some v)(A:iP Z a.block)(k:∀w',g_ Z w w'->gn P Q Z f1 l w'):gn P Q Z f l w:=by
 have H:a.block<w.heap.size:=cQ fun y=>by simp[aJ,bO y]at K
 refine c9 (U:=fun _ _=>False) (S:=fun b=>b=a.block) (X:=fun _=>False) (Done:=fun S X f' l' w'=>X=(fun _=>False)/\f'=f1/\l'=l) (Tr.one fun w2 hr=>?_) (fun b h=>by simp_all) fun S' X' f' l' w' hd hk=>?_
 ·have Y:w2.cell? a=some v:=by
   simp[aJ]at K⊢;rw[(hr.kept _ rfl).eq (fun i y=>y)];exact K
  exact⟨_,_,_,_,_,_,gj w2 Y,(uo (U:=fun _ _=>False) (S:=fun b=>b=a.block) rfl id).toDid,.stop ⟨rfl,rfl,rfl⟩⟩
 ·obtain⟨rfl,rfl,rfl⟩:=hd;exact k w' (g_.of hk)
theorem gn.kN(n:Nat)(k:∀w',g_ Z w w'->(∀b,b<w.heap.size->w'.heap[b]?=w.heap[b]?)->gn P Q Z (gX P n f l).1 (gX P n f l).2 w'):gn P Q Z f l w:=by
 have tr:∀(n:Nat) (f:aj) (l:List _) (w:ae) (D:(Nat->Prop)->(Nat->Prop)->aj->List _->ae->Prop),(∀w2,gI (fun _ _=>False) (fun _=>False) w w2->Tr P true (fun _ _=>False) D (fun _=>False) (fun _=>False) (gX P n f l).1 (gX P n f l).2 w2)->Tr P true (fun _ _=>False) D (fun _=>False) (fun _=>False) f l w:=by
  intro n;induction n with
  |zero=>exact fun f l w D h=>h w (.refl _ _ _)
  |succ n K=>
   intro f l w D h;unfold gX at h;split at h
   ·exact h w (.refl _ _ _)
   ·split at h
    ·rename_i f1 l1 e;exact Tr.one fun w2 hr=>⟨_,_,w2,#[],_,_,sX e,(iW (U:=fun _ _=>False) _ _ w2).toDid,K f1 l1 w2 D fun w3 Y=>h w3 (hr.trans Y)⟩
    ·exact h w (.refl _ _ _)
 refine c9 (Done:=fun S X f' l' w'=>X=(fun _=>False)/\f'=(gX P n f l).1/\l'=(gX P n f l).2) (tr n f l w _ fun w2 hr=>.stop ⟨rfl,rfl,rfl⟩) (fun a h=>h.elim) fun S' X' f' l' w' hd hk=>?_;obtain⟨rfl,rfl,rfl⟩:=hd;exact k w' (g_.of hk) fun b hb=>hk.kept b hb id
end
theorem ait{U:Nat->Nat->Prop}{X:Nat->Prop}(K:∀a,S a->a<w.heap.size/\∀l,Eu a l->Z l->∃ad:Addr,l=.cell ad/\U ad.block ad.off)(A:pX Z w.heap.size)(B:w.heap.size<=u){e:Event}(h:zd S X w u e)(C:∀a,e.loc=.cell a->¬U a.block a.off):EvL Z u e:=by
 obtain⟨loc,wr,I⟩:=e;rcases h with⟨a,rfl,h2,D⟩|⟨a,rfl,h2,D⟩|⟨m,rfl,h2⟩|rfl
 ·have Y:¬Z (.cell a)/\a.block<u:=by
   rcases D with⟨h,_⟩|h
   ·refine⟨fun Y=>?_,aD (K _ h).1 B⟩;obtain⟨ad,e,R⟩:=(K _ h).2 (.cell a) rfl Y;simp_all
   ·exact⟨A.off h.1 _ rfl,h.2⟩
  refine⟨fun x hx H=>?_,by simp,by simp,?_⟩
  ·simp[b_,cP]at hx;subst hx;simp_all
  ·exact Y.2
 ·subst h2;have Y:¬Z (.obj a)/\a<u:=by
   rcases D with⟨h,_⟩|h
   ·refine⟨fun Y=>?_,aD (K _ h).1 B⟩;obtain⟨ad,e,_⟩:=(K _ h).2 (.obj a) rfl Y;cases e
   ·exact⟨A.off h.1 _ rfl,h.2⟩
  refine⟨fun x hx H=>?_,by simp,by simp,?_⟩
  ·simp[b_,cP]at hx;subst hx;simp_all
  ·simp[b_];exact Y.2
 ·refine⟨fun x hx H=>?_,?_,?_,?_⟩
  ·rcases h2 with rfl|⟨f,rfl⟩<;>simp[b_,cP]at hx
  ·rcases h2 with rfl|⟨f,rfl⟩<;>simp
  ·rcases h2 with rfl|⟨f,rfl⟩<;>simp
  ·rcases h2 with rfl|⟨f,rfl⟩<;>trivial
 ·refine⟨fun x hx H=>?_,by simp,by simp,trivial⟩;simp[b_,cP]at hx;subst hx;have:=(A _ H).1;cases this
structure yr(P:aN)(Z:Loc->Prop)(U:Nat->Nat->Prop)(S:Nat->Prop)(g:ay)(w:ae)(gs:Array ay)(t:cg)(q:Nat->Nat):Prop where
 g0:gs[0]?=some g
 rT:Leavers P t gs q
 past:Past Z w.heap.size t
 held:∀a,S a->a<w.heap.size/\∀l,Eu a l->Z l->∃ad:Addr,l=.cell ad/\U ad.block ad.off
 nQ:pX Z w.heap.size
 nr:∀op∈t,∀a,op.act≠.mark (.release a)
open Go.ConcN (sumTo upd sumTo_upd upd_ne upd_same)
theorem aaw{P:aN}{U:Nat->Nat->Prop}{Done:(Nat->Prop)->(Nat->Prop)->ay->ae->Prop}{X:Nat->Prop}{g:ay}(h:Tz P true U Done S X g w):
  ∀(gs:Array ay) (sl:Option (Nat×Nat)) (t:cg) (q:Nat->Nat),yr P Z U S g w gs t q->
   ∃(N:Nat) (K:Array ay) (B:ay) (w':ae) (A:Option (Nat×Nat)) (t':cg) (q':Nat->Nat) (S' X':Nat->Prop),
    runNT P N (crowd gs w sl) t=(.next (crowd K w' A),t')/\Done S' X' B w'/\yr P Z U S' B w' K t' q'/\Kept X X' w w':=by
 induction h with
 |stop hd=>exact fun gs sl t q H=>⟨0,gs,_,_,sl,t,q,_,_,rfl,hd,H,Kept.refl _ _⟩
 |@step S X g w hs ex _ ih=>
  have inner:∀(M:Nat) (gs:Array ay) (w0:ae) (sl:Option (Nat×Nat)) (t:cg) (q:Nat->Nat),sumTo gs.size q=M->gI U S w w0->yr P Z U S g w0 gs t q->
    ∃(N:Nat) (K:Array ay) (B:ay) (w':ae) (A:Option (Nat×Nat)) (t':cg) (q':Nat->Nat) (S' X':Nat->Prop),
     runNT P N (crowd gs w0 sl) t=(.next (crowd K w' A),t')/\Done S' X' B w'/\yr P Z U S' B w' K t' q'/\Kept X X' w0 w':=by
   intro M;induction M using Nat.strongRecOn with
   |_ M JM=>
   intro gs w0 sl t q hM hr H;have o:=H.rT;have p:=H.g0;have JN:∀x∈gs,awake x:=by
    intro x hx;obtain⟨i,C,rfl⟩:=Array.mem_iff_getElem.1 hx;rcases akq i with rfl|R
    ·have:gs[0]=g:=by simpa[aY C]using p
     rw[this];exact awake_of (.inl hs)
    ·exact awake_of ((o.old i _ R (aY C)).status.elim .inl fun x=>.inr (.inr x))
   obtain⟨i,x,d,A,C,hx,gj⟩:=crowd_pick (P:=P) (w:=w0) (sl:=sl) JN ⟨0,_,p,hs⟩;rcases akq i with rfl|R
   ·obtain rfl:x=g:=by rw[p]at C;exact(Option.some.inj C).symm
    have u:=hr.trans (Ai U S w0 d);obtain⟨g1,w1,es,S1,X1,r,hd⟩:=ex (w0.at d) u;have D:=ak2 (P:=P) (sl:=A) (i:=0) C (r);have L:0<gs.size:=(bq.1 p).1;have Y:=hd.grow;have Q:yr P Z U S1 g1 w1 ((gs.map (woken P x g1 w1)).setIfInBounds 0 g1) (t++fc 0 x.frame.fn x.frame.place es) q:=by
     refine⟨by simp[L],⟨fun j y F f=>?_,fun j F=>?_⟩,?_,fun a ha=>?_,H.nQ.mono Y,C4 H.nr (Q7 hd.ev)⟩
     ·have E:0≠j:=by omega
      rw[cB E,dj]at f;obtain⟨z,m,rfl⟩:=cf.1 f;have G:=o.old j z F m;rw[ak3 G,cE t (by omega) _ (fun op gu=>Ren.ofEvents_g gu)];exact G
     ·rw[cE t (g':=0) (by simp at F;omega) _ (fun op gu=>Ren.ofEvents_g gu)];exact o.above j (by simpa using F)
     ·exact(H.past.mono Y).own fun e he=>ait (w:=w0.at d) H.held H.nQ Y (hd.ev e he) (hd.JO e he)
     ·rcases(hd.held a).1 ha with y|y
      ·exact⟨aD (H.held a y).1 Y,(H.held a y).2⟩
      ·exact⟨y.2,fun l hl m=>absurd m (H.nQ.off y.1 l hl)⟩
    obtain⟨N,K,B,w',I,t',q',S',X',c,T,O,V⟩:=ih (w0.at d) g1 w1 es S1 X1 u r hd _ A _ q Q;exact⟨N+1,K,B,w',I,t',q',S',X',by simp only[runNT,gj,D];exact c,T,O,((Kept.at w0 d).trans hd.toDid.toKept).trans V⟩
   ·have G:=o.old i x R C;have Ev:(i==0)=false:=by simp;omega
    have L:i<gs.size:=(bq.1 C).1;cases W:q i with
    |zero=>rw[W]at G;rw[G.1]at hx;cases hx
    |succ k=>
     rw[W]at G;rcases G with⟨hf,_⟩|⟨_,B,es,hm,v,zf⟩
     ·rw[hf]at hx;cases hx
     have D:=ak2 (P:=P) (sl:=A) (i:=i) C (by rw[Ev];exact v (w0.at d));have zi:((gs.map (woken P x B (w0.at d))).setIfInBounds i B).size=gs.size:=by simp
     have SH:sumTo gs.size (upd q i k)+(k+1)=sumTo gs.size q+k:=by
      have:=sumTo_upd q k id L;simpa[W]using this
     have Q:yr P Z U S g (w0.at d) ((gs.map (woken P x B (w0.at d))).setIfInBounds i B) (t++fc i x.frame.fn x.frame.place es) (upd q i k):=by
      refine⟨?_,⟨fun j y F f=>?_,fun j F=>?_⟩,H.past.mute (by omega) hm,H.held,H.nQ,C4 H.nr (Qj hm)⟩
      ·have E:i≠0:=by omega
       rw[cB E,dj,p];simp[woken_run (b:=g) hs]
      ·by_cases J:i=j
       ·subst J;rw[ez (by simpa using L)]at f;obtain rfl:=Option.some.inj f;rw[upd_same,Deaf_own];exact zf
       ·rw[cB J,dj]at f;obtain⟨z,m,rfl⟩:=cf.1 f;have s:=o.old j z F m;rw[ak3 s,upd_ne q k (Ne.symm J),cE t J _ (fun op gu=>Ren.ofEvents_g gu)];exact s
      ·rw[cE t (g':=i) (by simp at F;omega) _ (fun op gu=>Ren.ofEvents_g gu)];exact o.above j (by simpa using F)
     obtain⟨N,K,n,w',I,t',q',S',X',c,T,O,V⟩:=JM (sumTo gs.size (upd q i k)) (by omega) _ (w0.at d) A _ (upd q i k) (by rw[zi]) (hr.trans (Ai U S w0 d)) Q;exact⟨N+1,K,n,w',I,t',q',S',X',by simp only[runNT,gj,D];exact c,T,O,(Kept.at w0 d).trans V⟩
  exact fun gs sl t q H=>inner _ gs w sl t q rfl (ek U S w) H
theorem gn.tz{P:aN}{Q:QT}{U:Nat->Nat->Prop}{Done:(Nat->Prop)->(Nat->Prop)->ay->ae->Prop}{X:Nat->Prop}(h:Tz P true U Done S X (G f l) w)(O:pX Z w.heap.size->∀a,S a->a<w.heap.size/\∀l,Eu a l->Z l->∃ad:Addr,l=.cell ad/\U ad.block ad.off)
  (k:∀S' X' A w',Done S' X' A w'->Kept X X' w w'->∃f' l',A=G f' l'/\gn P Q Z f' l' w'):gn P Q Z f l w:=by
 rintro m t ⟨gs,sl,q,rfl,K⟩;obtain⟨N,H,A,w',B,t',V,S',X',hr,J,Y,M⟩:=aaw (Z:=Z) h gs sl t q ⟨K.g0,K.rT,K.past,O K.nQ,K.nQ,K.nr⟩;obtain⟨f',l',rfl,L⟩:=k S' X' A w' J M;obtain⟨C,T,t2,F,f2,l2,w2,I,D,R⟩:=L _ t' ⟨H,B,V,rfl,Y.g0,Y.rT,Y.past,(fun a h=>h.elim),Y.nQ,Y.nr⟩;exact⟨N+C,T,t2,F,f2,l2,w2,by rw[Go.Proofs.YtdcjnhipenbcfaaGreatDoor.Ren.runNT_add P N C _ _ _ _ hr];exact I,D,R⟩
abbrev eF(site:List _)(al:List (Nat×ah))(j:Nat->ah):=kX 122 24 site (sA al) j
abbrev jx(k q st:Nat):Value:=.agg #[iv k,iv q,iv st]
def aE(X P:ByteArray)(k q st n:Nat):=[(0,.string X),(1,.string P),(2,jx k q st),(3,iv n)]
def ZE:=aE .empty .empty 0 0 0 1
noncomputable abbrev pZ (site:List _) (al:List _) (v:ah):=gX PR 60 ((eF site al fun _=>ak).finish v) []
def BC(a:List _)(Rf:Nat):=a++[(4,ptr Rf)]
def BD(a:List _)(Rf Sg:Nat):=a++[(4,ptr Rf),(5,ptr Sg)]
def pD(a:List _)(Rf Sg By:Nat):=a++[(4,ptr Rf),(5,ptr Sg),(6,ptr By)]
def Fs(Mp:Nat):Value:=.agg #[.int .i32 0,.int .u32 0,.map (some Mp)]
noncomputable def BE:=(gX PR 60 (Frame.enter PR 122 #[.string .empty,.string .empty,jx 0 0 0,iv 1] .normal) []).1.todo
noncomputable def BF:=(pZ BE ZE (ptr 0)).1.todo
noncomputable def BG:=(pZ BF (BC ZE 0) (ptr 0)).1.todo
noncomputable def BH:=(pZ BG (BD ZE 0 0) (ptr 0)).1.todo
noncomputable def BI:=(pZ BH (pD ZE 0 0 0) (.map (some 0))).1.todo
noncomputable def BJ:=(pZ BI (pD ZE 0 0 0++[(11,Fs 0)]) (ptr 0)).1.todo
noncomputable def zy:=(pZ BJ (pD ZE 0 0 0++[(12,ptr 0)]) (ptr 0)).1.todo
def jA(a:List _)(Rf Sg By Fp:Nat):=pD a Rf Sg By++[(9,ptr Fp)]
noncomputable def Lo:=(pZ zy (jA ZE 0 0 0 0++[(12,ptr 0)]) ak).1.todo
noncomputable def Lq:=(pZ Lo (jA ZE 0 0 0 0) (.string .empty)).1.todo
noncomputable def Lr:=(pZ Lq (jA ZE 0 0 0 0++[(13,.string .empty)]) (.string .empty)).1.todo
noncomputable def xO:=(pZ Lr (jA ZE 0 0 0 0++[(13,.string .empty),(14,.string .empty)]) (jx 0 0 0)).1.todo
noncomputable def zz:=(pZ xO (jA ZE 0 0 0 0++[(13,.string .empty),(14,.string .empty),(15,jx 0 0 0)]) (.slice none 0 0)).1.todo
noncomputable def Lt:=(pZ zz (jA ZE 0 0 0 0++[(16,.slice none 0 0),(17,iv 1),(18,jW 0 0 0 0)]) unit).1.todo
noncomputable def Lu:=(pZ Lt (jA ZE 0 0 0 0) (ptr 0)).1.todo
section
variable(X P:ByteArray)(k q st n Rf Sg By Mp Fd Fp:Nat)(v:ah)(J:Nat->ah)(l:List aj)
noncomputable def Uh:=gX PR 60 (Frame.enter PR 122 #[.string X,.string P,jx k q st,iv n] .normal) l
noncomputable def Ui:=gX PR 60 ((eF BE (aE X P k q st n) J).finish (ptr Rf)) l
noncomputable def EB2:=gX PR 60 ((eF BF (BC (aE X P k q st n) Rf) J).finish (ptr Sg)) l
noncomputable def EMM:=gX PR 60 ((eF BG (BD (aE X P k q st n) Rf Sg) J).finish (ptr By)) l
noncomputable def Uj:=gX PR 60 ((eF BH (pD (aE X P k q st n) Rf Sg By) J).finish (.map (some Mp))) l
noncomputable def EAL:=gX PR 60 ((eF BI (pD (aE X P k q st n) Rf Sg By++[(11,Fs Mp)]) J).finish (ptr Fd)) l
noncomputable def EFS:=gX PR 60 ((eF BJ (pD (aE X P k q st n) Rf Sg By++[(12,ptr Fd)]) J).finish (ptr Fp)) l
noncomputable def EE1:=gX PR 60 ((eF zy (jA (aE X P k q st n) Rf Sg By Fp++[(12,ptr Fd)]) J).finish ak) l
noncomputable def EE2:=gX PR 60 ((eF Lo (jA (aE X P k q st n) Rf Sg By Fp) J).finish (.string X)) l
noncomputable def EE3:=gX PR 60 ((eF Lq (jA (aE X P k q st n) Rf Sg By Fp++[(13,.string X)]) J).finish (.string P)) l
noncomputable def EE4:=gX PR 60 ((eF Lr (jA (aE X P k q st n) Rf Sg By Fp++[(13,.string X),(14,.string P)]) J).finish (jx k q st)) l
noncomputable def EE5:=gX PR 60 ((eF xO (jA (aE X P k q st n) Rf Sg By Fp++[(13,.string X),(14,.string P),(15,jx k q st)]) J).finish v) l
noncomputable def EE6:=gX PR 60 ((eF zz (jA (aE X P k q st n) Rf Sg By Fp++[(16,v),(17,iv n),(18,jW By Rf Sg Fp)]) J).finish unit) l
noncomputable def Uk:=gX PR 60 ((eF Lt (jA (aE X P k q st n) Rf Sg By Fp) J).finish (ptr Fd)) l
end
section
variable{X P:ByteArray}{k q st n Rf Sg By Mp Fd Fp:Nat}{v:ah}{J:Nat->ah}{l cs:List aj}{c:aj}
theorem eb0:look [0,1,2,3] (Uh X P k q st n l)=iu 122 24 l BE (aE X P k q st n) none none:=by kernel_rfl
theorem eb1:look [0,1,2,3,4] (Ui X P k q st n Rf J l)=iu 122 24 l BF (BC (aE X P k q st n) Rf) none none:=by kernel_rfl
theorem eb2:look [0,1,2,3,4,5] (EB2 X P k q st n Rf Sg J l)=iu 122 24 l BG (BD (aE X P k q st n) Rf Sg) none none:=by kernel_rfl
theorem emm:look [0,1,2,3,4,5,6] (EMM X P k q st n Rf Sg By J l)=iu 122 24 l BH (pD (aE X P k q st n) Rf Sg By) none none:=by kernel_rfl
theorem eb3:look [0,1,2,3,4,5,6,11] (Uj X P k q st n Rf Sg By Mp J l)=iu 122 24 l BI (pD (aE X P k q st n) Rf Sg By++[(11,Fs Mp)]) none none:=by kernel_rfl
theorem eal:look [0,1,2,3,4,5,6,12] (EAL X P k q st n Rf Sg By Mp Fd J l)=iu 122 24 l BJ (pD (aE X P k q st n) Rf Sg By++[(12,ptr Fd)]) none none:=by kernel_rfl
theorem efs:look [0,1,2,3,4,5,6,9,12] (EFS X P k q st n Rf Sg By Fd Fp J l)=iu 122 24 l zy (jA (aE X P k q st n) Rf Sg By Fp++[(12,ptr Fd)]) none none:=by kernel_rfl
theorem ee1:look [0,1,2,3,4,5,6,9] (EE1 X P k q st n Rf Sg By Fd Fp J l)=iu 122 24 l Lo (jA (aE X P k q st n) Rf Sg By Fp) none (some (9,ptr Rf)):=by kernel_rfl
theorem ee2:look [0,1,2,3,4,5,6,9,13] (EE2 X P k q st n Rf Sg By Fp J l)=iu 122 24 l Lq (jA (aE X P k q st n) Rf Sg By Fp++[(13,.string X)]) none (some (9,ptr Sg)):=by kernel_rfl
theorem ee3:look [0,1,2,3,4,5,6,9,13,14] (EE3 X P k q st n Rf Sg By Fp J l)=iu 122 24 l Lr (jA (aE X P k q st n) Rf Sg By Fp++[(13,.string X),(14,.string P)]) none (some (75,ptr By)):=by kernel_rfl
theorem ee4:look [0,1,2,3,4,5,6,9,13,14,15] (EE4 X P k q st n Rf Sg By Fp J l)=iu 122 24 l xO (jA (aE X P k q st n) Rf Sg By Fp++[(13,.string X),(14,.string P),(15,jx k q st)]) (some (48,#[.string X,.string P,jx k q st])) none:=by kernel_rfl
theorem ee5:look [0,1,2,3,4,5,6,9,16,17,18] (EE5 X P k q st n Rf Sg By Fp v J l)=iu 122 24 l zz (jA (aE X P k q st n) Rf Sg By Fp++[(16,v),(17,iv n),(18,jW By Rf Sg Fp)]) (some (137,#[v,iv n,jW By Rf Sg Fp])) none:=by kernel_rfl
theorem ee6:look [0,1,2,3,4,5,6,9] (EE6 X P k q st n Rf Sg By Fp v J l)=iu 122 24 l Lt (jA (aE X P k q st n) Rf Sg By Fp) none (some (182,ptr Fp)):=by kernel_rfl
theorem ee7:look [0,1,2,3,4,5,6,9] (Uk X P k q st n Rf Sg By Fd Fp J l)=iu 122 24 l Lu (jA (aE X P k q st n) Rf Sg By Fp) none (some (166,.pointer (some ⟨Fd,2,none⟩))):=by kernel_rfl
theorem aiu:gC PR 1 (eF xO (jA (aE X P k q st n) Rf Sg By Fp++[(13,.string X),(14,.string P),(15,jx k q st)]) J) l=(Frame.enter PR 48 #[.string X,.string P,jx k q st] .normal,eF xO (jA (aE X P k q st n) Rf Sg By Fp++[(13,.string X),(14,.string P),(15,jx k q st)]) J::l):=by kernel_rfl
theorem aiv:gC PR 1 (eF zz (jA (aE X P k q st n) Rf Sg By Fp++[(16,v),(17,iv n),(18,jW By Rf Sg Fp)]) J) l=(Frame.enter PR 137 #[v,iv n,jW By Rf Sg Fp] .normal,eF zz (jA (aE X P k q st n) Rf Sg By Fp++[(16,v),(17,iv n),(18,jW By Rf Sg Fp)]) J::l):=by kernel_rfl
theorem aiw:(opAt (eF BE (aE X P k q st n) J)).map (fun o=>o.op)=some (.box 9 (.tmp 0)):=by kernel_rfl
theorem aix:(opAt (eF BF (BC (aE X P k q st n) Rf) J)).map (fun o=>o.op)=some (.box 9 (.tmp 1)):=by kernel_rfl
theorem aiy:(opAt (eF BG (BD (aE X P k q st n) Rf Sg) J)).map (fun o=>o.op)=some (.box 75 (.tmp 2)):=by kernel_rfl
theorem aiz:(opAt (eF BH (pD (aE X P k q st n) Rf Sg By) J)).map (fun o=>o.op)=some (.makeMap 166 none):=by kernel_rfl
theorem aiA:(opAt (eF BI (pD (aE X P k q st n) Rf Sg By++[(11,Fs Mp)]) J)).map (fun o=>o.op)=some (.box 191 (.tmp 11)):=by kernel_rfl
theorem aiB:(opAt (eF BJ (pD (aE X P k q st n) Rf Sg By++[(12,ptr Fd)]) J)).map (fun o=>o.op)=some (.alloc 182):=by kernel_rfl
theorem aiC:(opAt (eF zy (jA (aE X P k q st n) Rf Sg By Fp++[(12,ptr Fd)]) J)).map (fun o=>o.op)=some (.store 182 (.tmp 9) (.tmp 12)):=by kernel_rfl
end
noncomputable def BK:=(gX PR 60 (Frame.enter PR 137 #[.slice none 0 0,iv 1,ak] .normal) []).1.todo
def BL(nv:ah)(n:Nat)(work:ah):=[(0,nv),(1,iv n),(2,work)]
noncomputable def Ft:=(pj BK (BL (.slice none 0 0) 1 ak) (ptr 0)).1.todo
def Fu(nv:ah)(n:Nat)(work:ah)(Wg:Nat):=[(0,nv),(1,iv n),(2,work),(6,ptr Wg),(13,iv n)]
section
variable(nv:ah)(n Wg Gv:Nat)(work:ah)(J:Nat->ah)(l:List aj)
noncomputable def Ul:=gX PR 60 (Frame.enter PR 137 #[nv,iv n,work] .normal) l
noncomputable def Um:=gX PR 60 ((dF BK (BL nv n work) J).finish (ptr Wg)) l
end
section
variable{b:Option Addr}{len cap:Nat}{nv:ah}{n Wg Gv:Nat}{work:ah}{J:Nat->ah}{l:List aj}
noncomputable def Te (b:Option _) (len cap n Wg Gv:Nat) (work:ah) (J:Nat->ah) (l:List _):=gX PR 60 ((dF Ft (Fu (gM b len cap) n work Wg) J).finish (qQ Gv n)) l
theorem ra0:look [0,1,2] (Ul nv n work l)=iu 137 55 l BK (BL nv n work) none none:=by kernel_rfl
theorem ra1:look [0,1,2,6,13] (Um nv n Wg work J l)=iu 137 55 l Ft (Fu nv n work Wg) none none:=by kernel_rfl
theorem ajR:look [0,1,2,6,7,16,17,18] (Te b len cap n Wg Gv work J l)=iu 137 55 l lr (ov (ic (gM b len cap) n work Wg Gv) n 0++[(18,.bool (decide ((0:Int)<n)))]) none none:=by kernel_rfl
theorem aiD:(opAt (dF BK (BL nv n work) J)).map (fun o=>o.op)=some (.alloc 212):=by kernel_rfl
theorem aiE:(opAt (dF Ft (Fu nv n work Wg) J)).map (fun o=>o.op)=some (.makeSlice 213 (.tmp 13) (.tmp 13)):=by kernel_rfl
end
section
variable{P:aN}{Q:QT}{Z:Loc->Prop}{f:aj}{l:List aj}{w:ae}
theorem gn.gu(m:Nat)(r:aj×List _)(hr:gX P m f l=r){site:List _}{al:List _}{call:Option _}{load:Option _}(h:look ks r=iu fn n l site al call load)(hk:al.map (·.1)=ks)
  (k:∀J w',g_ Z w w'->(∀b,b<w.heap.size->w'.heap[b]?=w.heap[b]?)->ahead (kX fn n site (sA al) J)=call->qv (kX fn n site (sA al) J)=load->ky fn n site (sA al) (kX fn n site (sA al) J)->gn P Q Z (kX fn n site (sA al) J) l w'):gn P Q Z f l w:=by
 subst hr;refine gn.kN m fun w' H D=>?_;have Y:=jO h hk;have I:=Y.call;have h2:=Y.load;have K:=Y.fr;rw[Y.fr.eq]at I h2;rw[Y.fr.eq]at K;rw[Y.callers,Y.fr.eq];simp_all
end
section
variable{main:Bool}{f:aj}{cs:List aj}
theorem Ab{x:dI}(h:(opAt f).map (fun o=>o.op)=some (.box t x)){c:Array _}(hx:f.eval x=v)(A:v.cells=c)(w:ae):
  aT PR main (G f cs) w=.go (G (f.finish (ptr w.heap.size)) cs) (w.alloc (.cells c t)) #[]:=by
 obtain⟨op,K,gu⟩:=r5 h;subst A;have hr:(ax f.eval op).run PR w=.ok (.value (ptr w.heap.size)) (w.alloc (.cells v.cells t)):=by
  unfold ax;simp[gu,hx];rfl
 have Y:(ax f.eval op).events PR w #[]=#[]:=by
  unfold ax;simp[gu];simp[go_sem]
 rw[oX K hr,Y,dc]
theorem PD(h:(opAt f).map (fun o=>o.op)=some (.alloc t)){c:Array ah}{z:ah}(B:(PR.info? t).map (·.zero)=some (some z))(A:z.cells=c)(w:ae):
  aT PR main (G f cs) w=.go (G (f.finish (ptr w.heap.size)) cs) (w.alloc (.cells c t)) #[]:=by
 obtain⟨op,R,gu⟩:=r5 h;subst A;have I:∃Y,PR.info? t=some Y/\Y.zero=some z:=by simp_all
 obtain⟨Y,K,H⟩:=I;have hr:(ax f.eval op).run PR w=.ok (.value (ptr w.heap.size)) (w.alloc (.cells z.cells t)):=by
  unfold ax;simp only[gu];simp[go_sem,cA,cz,K,H];rfl
 have D:(ax f.eval op).events PR w #[]=#[]:=by
  unfold ax;simp only[gu];simp[go_sem,cA,cz,K,H]
 rw[oX R hr,D,dc]
theorem aex(h:(opAt f).map (fun o=>o.op)=some (.makeMap t none))(w:ae):
  aT PR main (G f cs) w=.go (G (f.finish (.map (some w.heap.size))) cs) (w.alloc (.map #[] 0)) #[]:=by
 obtain⟨op,K,gu⟩:=r5 h;have hr:(ax f.eval op).run PR w=.ok (.value (.map (some w.heap.size))) (w.alloc (.map #[] 0)):=by
  unfold ax;simp[gu];rfl
 have Y:(ax f.eval op).events PR w #[]=#[]:=by
  unfold ax;simp[gu];rfl
 rw[oX K hr,Y,dc]
theorem aey{x y:dI}(h:(opAt f).map (fun o=>o.op)=some (.makeSlice 213 x y))(M:n<=8)(hx:f.eval x=iv n)(B:f.eval y=iv n)(w:ae):
  aT PR main (G f cs) w=.go (G (f.finish (qQ w.heap.size n)) cs) (w.alloc (.cells (oH [] n) 214)) #[]:=by
 obtain⟨op,J,gu⟩:=r5 h;have A:PR.underlying 213=some (.slice 214):=by kernel_rfl
 have F:∃Y,PR.info? 214=some Y/\Y.zero=some (.chan none)/\Y.size=1/\Y.bytes=8:=by
  have:(PR.info? 214).map (fun i=>(i.zero,i.size,i.bytes))=some (some (.chan none),1,8):=by kernel_rfl
  simp_all
 obtain⟨Y,H,D,K,R⟩:=F;have I:=run_makeSlice (P:=PR) w 213 214 Y (.chan none) A H D .i64 .i64 (n:Int) (n:Int) (by omega) (Int.le_refl _) (by rw[K];omega) (by rw[R];omega) (by omega);have U:et (ei none).cells ((n:Int).toNat *Y.size)=oH [] n:=by
  rw[K];apply Array.ext
  ·simp[et,oH]
  ·intro i I h2;simp[et,oH,Value.cells,Nat.mod_one]
 rw[U]at I;have hr:(ax f.eval op).run PR w=.ok (.value (qQ w.heap.size n)) (w.alloc (.cells (oH [] n) 214)):=by
  unfold ax;simp only[gu,hx,B];rw[Sem.run_bind];show((eL 213 (.int .i64 (n:Int)) (.int .i64 (n:Int))).run PR w).andThen _=_
  rw[I];rfl
 have C:(ax f.eval op).events PR w #[]=#[]:=by
  unfold ax;simp only[gu,hx,B];have:n=0\/n=1\/n=2\/n=3\/n=4\/n=5\/n=6\/n=7\/n=8:=by omega
  rcases this with rfl|rfl|rfl|rfl|rfl|rfl|rfl|rfl|rfl<;>
  simp[go_sem,eL,run_underlying A,underlying,cA,cz,sizeOf,H,D,K,R,askRoom,roomBytes]<;>(try decide)
 rw[oX J hr,C,dc]
theorem aez{x y:dI}(h:(opAt f).map (fun o=>o.op)=some (.store t x y)){B b:Nat}{row:Array ah}(hx:f.eval x=.pointer (some ⟨B,i,none⟩))(C:f.eval y=ptr b)(A:w.heap[B]?=some (.cells row t'))(F:i<row.size)(M:(PR.funcs[f.fn]?).any (·.norace)=false)(N:(PR.info? t).map (·.size)=some 1):
  aT PR main (G f cs) w=.go (G (f.finish ak) cs) (w.setCell ⟨B,i,none⟩ (ptr b)) #[⟨.cell ⟨B,i,none⟩,true,false⟩]:=by
 obtain⟨op,U,gu⟩:=r5 h;have D:w.cell? ⟨B,i,none⟩=some row[i]:=by simp[aJ,A,F]
 have R:w.frozen? ⟨B,i,none⟩=false:=by simp[ak0,A]
 have J:∃Y,PR.info? t=some Y/\Y.size=1:=by simp_all
 obtain⟨Y,K,H⟩:=J;have hr:(ax f.eval op).run PR w=.ok .skip (w.setCell ⟨B,i,none⟩ (ptr b)):=by
  unfold ax;simp only[gu,hx,C];simp[go_sem,storeVar,sizeOf,cz,K,H,D,R,ptr]
 have I:(ax f.eval op).events PR w #[]=#[⟨.cell ⟨B,i,none⟩,true,false⟩]:=by
  unfold ax;simp only[gu,hx,C];simp[go_sem,storeVar,sizeOf,cz,K,H,D,R,ptr,events_store PR w _ _ (.pointer _) .plain rfl]
 rw[step_skip U hr,I,seen_def,M];simp[seenStep]
theorem aeA{B:Nat}(h:qv f=some (75,ptr B)){a b c:ah}(K:w.heap[B]?=some (.cells #[a,b,c] t'))(A:(PR.funcs[f.fn]?).any (·.norace)=false):
  aT PR main (G f cs) w=.go (G (f.finish (.agg #[a,b,c])) cs) w #[⟨.cell ⟨B,0,none⟩,false,false⟩,⟨.cell ⟨B,1,none⟩,false,false⟩,⟨.cell ⟨B,2,none⟩,false,false⟩]:=by
 obtain⟨op,x,H,gu,hx⟩:=F5 h;have c0:w.cell? ⟨B,0,none⟩=some a:=by simp[aJ,K]
 have c1:w.cell? ⟨B,1,none⟩=some b:=by simp[aJ,K]
 have c2:w.cell? ⟨B,2,none⟩=some c:=by simp[aJ,K]
 have hr:(ax f.eval op).run PR w=.ok (.value (.agg #[a,b,c])) w:=by
  unfold ax;simp only[gu,hx,ptr];simp[go_sem,c0,c1,c2]
 have Y:(ax f.eval op).events PR w #[]=#[⟨.cell ⟨B,0,none⟩,false,false⟩,⟨.cell ⟨B,1,none⟩,false,false⟩,⟨.cell ⟨B,2,none⟩,false,false⟩]:=by
  unfold ax;simp only[gu,hx,ptr];simp[go_sem,c0,c1,c2]
 rw[oX H hr,Y,seen_def,A];simp[seenStep]
end
end Ph
end Go.Proofs.YtdcjnhipenbcfaaGreatDoor
namespace Go.Proofs
open Shelf
def Tryz.MY:Go.Shelf.Ren:=⟨fun|156=>110|165=>121|166=>63|169=>68|240=>96|241=>136|276=>113|277=>156|n=>n,fun|31=>65|9=>9|3=>3|4=>4|0=>0|20=>20|72=>102|76=>105|70=>100|37=>79|75=>104|127=>139|164=>159|5=>5|80=>108|n=>n,fun|n=>n⟩
theorem Tryz.aeB:Go.Proofs.Lays.n156 af Tryz.MY:={
 mixed:=by kernel_rfl
 f156:=Tryz.func110.trans (congrArg some (by kernel_rfl))
 f165:=Tryz.func121.trans (congrArg some (by kernel_rfl))
 f166:=Tryz.func63.trans (congrArg some (by kernel_rfl))
 f169:=Tryz.func68.trans (congrArg some (by kernel_rfl))
 f240:=Tryz.func96.trans (congrArg some (by kernel_rfl))
 f241:=Tryz.func136.trans (congrArg some (by kernel_rfl))
 f276:=akw.trans (congrArg some (by kernel_rfl))
 f277:=Tryz.func156.trans (congrArg some (by kernel_rfl))
 t0:=bK
 a0:=bH
 z0:=bJ
 v0:=bM
 t3:=aL
 a3:=bj
 z3:=bk
 v3:=bm
 t4:=cW
 a4:=cR
 z4:=cT
 v4:=cX
 t9:=aQ
 a9:=ck
 z9:=cn
 v9:=cv
 t20:=akR
 a20:=akC
 z20:=akL
 v20:=akX
 t31:=Tryz.underlying65
 a31:=Tryz.isAgg65
 z31:=Tryz.sizeOf65
 v31:=Tryz.zeroValue65
 t37:=bA
 a37:=cS
 z37:=cU
 v37:=cY
 t70:=bU
 a70:=dM
 z70:=dV
 v70:=ec
 t72:=dY
 a72:=dO
 z72:=dW
 v72:=ed
 t75:=Tryz.underlying104
 a75:=Tryz.isAgg104
 z75:=Tryz.sizeOf104
 v75:=Tryz.zeroValue104
 t76:=Tryz.underlying105
 a76:=Tryz.isAgg105
 z76:=Tryz.sizeOf105
 v76:=Tryz.zeroValue105
 t127:=akN
 a127:=aky
 z127:=akH
 v127:=akT
 t164:=dZ
 a164:=Tryz.isAgg159
 z164:=Tryz.sizeOf159
 v164:=Tryz.zeroValue159}
theorem Tryz.VN:eG af Tryz.MY:={
 sizeBuilder:=by kernel_rfl
 liesBuilder:=by kernel_rfl
 t5:=bL
 a5:=cj
 z5:=cm
 v5:=cu
 infoByte:=by kernel_rfl
 cellsByte:=by kernel_rfl
 sizeByte:=by kernel_rfl
 neB5:=by decide}
open Go.RowKit in
theorem Tryz.strings_Join(F o c:Nat)(xs:List ByteArray)(A:ByteArray)(w:ae)(K:∀(j:Nat) x,xs[j]?=some x->w.cell? ⟨F,o+j,none⟩=some (.string x))(M:F<w.heap.size)(N:xs.length<=140737488355328)(B:xs.length<=c)(C:(Lib.join (xs.map (·.data.toList)) A.data.toList).length<=140737488355328):
  ao af 110 #[.slice (some ⟨F,o,none⟩) xs.length c,.string A] w fun e w'=>e=.returned (.string ⟨(Lib.join (xs.map (·.data.toList)) A.data.toList).toArray⟩)/\ai w.heap.size w w':=Any.strings_Join Tryz.aeB Tryz.VN F o c xs A w K M N B C
def Tryz.aax:Go.Shelf.Ren:=⟨fun|7=>124|10=>143|n=>n,fun|23=>166|26=>3|3=>3|28=>170|0=>0|27=>169|33=>197|4=>4|n=>n,fun|n=>n⟩
theorem Tryz.Sp:Go.Proofs.SlLaysZI.n7 af Tryz.aax:={
 mixed:=by kernel_rfl
 f7:=⟨Tryz.f124.name,by decide,Tryz.func124.trans (congrArg some (by kernel_rfl))⟩
 f10:=⟨Tryz.f143.name,by decide,Tryz.func143.trans (congrArg some (by kernel_rfl))⟩
 t0:=bK
 a0:=bH
 z0:=bJ
 v0:=bM
 t4:=cW
 a4:=cR
 z4:=cT
 v4:=cX
 t23:=Tryz.underlying166
 a23:=Tryz.isAgg166
 z23:=Tryz.sizeOf166
 v23:=Tryz.zeroValue166
 t26:=aL
 a26:=bj
 z26:=bk
 v26:=bm
 t27:=Tryz.underlying169
 a27:=Tryz.isAgg169
 z27:=Tryz.sizeOf169
 v27:=Tryz.zeroValue169
 t28:=akO
 a28:=akz
 z28:=akI
 v28:=akU
 t33:=Tryz.underlying197
 a33:=Tryz.isAgg197
 z33:=Tryz.sizeOf197
 v33:=Tryz.zeroValue197}
def Tryz.MZ:Go.Shelf.Ren:=⟨fun|6=>123|8=>141|9=>142|11=>162|13=>164|12=>163|23=>198|24=>152|14=>189|15=>190|16=>191|17=>192|18=>193|19=>194|20=>195|21=>196|22=>197|25=>208|26=>209|27=>210|28=>211|29=>212|30=>213|31=>221|n=>n,fun|26=>3|28=>170|24=>25|0=>0|3=>3|37=>204|48=>185|50=>176|4=>4|40=>239|39=>238|45=>217|5=>5|9=>9|51=>258|55=>261|57=>264|58=>80|33=>197|n=>n,fun|n=>n⟩
theorem Tryz.aeC:Go.Proofs.SlLaysZI.n6 af Tryz.MZ:={
 mixed:=by kernel_rfl
 f6:=⟨Tryz.f123.name,by decide,Tryz.func123.trans (congrArg some (by kernel_rfl))⟩
 f8:=⟨Tryz.f141.name,by decide,Tryz.func141.trans (congrArg some (by kernel_rfl))⟩
 f11:=⟨Tryz.f162.name,by decide,Tryz.func162.trans (congrArg some (by kernel_rfl))⟩
 t0:=bK
 a0:=bH
 z0:=bJ
 v0:=bM
 t24:=d_
 a24:=dP
 z24:=dX
 v24:=ef
 t26:=aL
 a26:=bj
 z26:=bk
 v26:=bm
 t28:=akO
 a28:=akz
 z28:=akI
 v28:=akU
 i26:=by kernel_rfl}
def Tryz.aay:Go.Shelf.Ren:=⟨fun|5=>142|8=>164|7=>163|19=>198|20=>152|10=>189|11=>190|12=>191|13=>192|14=>193|15=>194|16=>195|17=>196|18=>197|30=>208|31=>209|32=>210|33=>211|34=>212|35=>213|40=>221|n=>n,fun|23=>25|25=>3|3=>3|32=>204|22=>25|0=>0|44=>185|46=>176|4=>4|36=>239|35=>238|41=>217|5=>5|9=>9|53=>258|57=>261|63=>264|64=>80|n=>n,fun|n=>n⟩
theorem Tryz.Sq:Go.Proofs.SlLaysM.n5 af Tryz.aay:={
 mixed:=by kernel_rfl
 f5:=⟨Tryz.f142.name,by decide,Tryz.func142.trans (congrArg some (by kernel_rfl))⟩
 f7:=⟨Tryz.f163.name,by decide,Tryz.func163.trans (congrArg some (by kernel_rfl))⟩
 f8:=Tryz.func164.trans (congrArg some (by kernel_rfl))
 f10:=⟨Tryz.f189.name,by decide,Tryz.func189.trans (congrArg some (by kernel_rfl))⟩
 f11:=⟨Tryz.f190.name,by decide,Tryz.func190.trans (congrArg some (by kernel_rfl))⟩
 f12:=⟨Tryz.f191.name,by decide,Tryz.func191.trans (congrArg some (by kernel_rfl))⟩
 f13:=⟨Tryz.f192.name,by decide,Tryz.func192.trans (congrArg some (by kernel_rfl))⟩
 f14:=⟨Tryz.f193.name,by decide,Tryz.func193.trans (congrArg some (by kernel_rfl))⟩
 f15:=⟨Tryz.f194.name,by decide,Tryz.func194.trans (congrArg some (by kernel_rfl))⟩
 f16:=⟨Tryz.f195.name,by decide,Tryz.func195.trans (congrArg some (by kernel_rfl))⟩
 f17:=⟨Tryz.f196.name,by decide,Tryz.func196.trans (congrArg some (by kernel_rfl))⟩
 f18:=⟨Tryz.f197.name,by decide,Tryz.func197.trans (congrArg some (by kernel_rfl))⟩
 f19:=Tryz.func198.trans (congrArg some (by kernel_rfl))
 f20:=akx.trans (congrArg some (by kernel_rfl))
 f30:=⟨Tryz.f208.name,by decide,Tryz.func208.trans (congrArg some (by kernel_rfl))⟩
 f31:=Tryz.func209.trans (congrArg some (by kernel_rfl))
 f32:=Tryz.func210.trans (congrArg some (by kernel_rfl))
 f33:=⟨Tryz.f211.name,by decide,Tryz.func211.trans (congrArg some (by kernel_rfl))⟩
 f34:=⟨Tryz.f212.name,by decide,Tryz.func212.trans (congrArg some (by kernel_rfl))⟩
 f35:=⟨Tryz.f213.name,by decide,Tryz.func213.trans (congrArg some (by kernel_rfl))⟩
 f40:=⟨Tryz.f221.name,by decide,Tryz.func221.trans (congrArg some (by kernel_rfl))⟩
 t0:=bK
 a0:=bH
 z0:=bJ
 v0:=bM
 t3:=aL
 a3:=bj
 z3:=bk
 v3:=bm
 t4:=cW
 a4:=cR
 z4:=cT
 v4:=cX
 t5:=bL
 a5:=cj
 z5:=cm
 v5:=cu
 t9:=aQ
 a9:=ck
 z9:=cn
 v9:=cv
 t22:=d_
 a22:=dP
 z22:=dX
 v22:=ef
 t23:=d_
 a23:=dP
 z23:=dX
 v23:=ef
 t25:=aL
 a25:=bj
 z25:=bk
 v25:=bm
 t32:=akS
 a32:=akD
 z32:=akM
 v32:=akY
 t35:=Tryz.underlying238
 a35:=Tryz.isAgg238
 z35:=Tryz.sizeOf238
 v35:=Tryz.zeroValue238
 t36:=Tryz.underlying239
 a36:=Tryz.isAgg239
 z36:=Tryz.sizeOf239
 v36:=Tryz.zeroValue239
 t41:=Tryz.underlying217
 a41:=Tryz.isAgg217
 z41:=Tryz.sizeOf217
 v41:=Tryz.zeroValue217
 t44:=akQ
 a44:=akB
 z44:=akK
 v44:=akW
 t46:=akP
 a46:=akA
 z46:=akJ
 v46:=akV
 t53:=Tryz.underlying258
 a53:=Tryz.isAgg258
 z53:=Tryz.sizeOf258
 v53:=Tryz.zeroValue258
 t57:=Tryz.underlying261
 a57:=Tryz.isAgg261
 z57:=Tryz.sizeOf261
 v57:=Tryz.zeroValue261
 t63:=Tryz.underlying264
 a63:=Tryz.isAgg264
 z63:=Tryz.sizeOf264
 v63:=Tryz.zeroValue264
 t64:=Tryz.underlying80
 a64:=Tryz.isAgg80
 z64:=Tryz.sizeOf80
 v64:=Tryz.zeroValue80}
def Tryz.XP:Go.Shelf.Ren:=⟨fun|170=>66|n=>n,fun|70=>100|3=>3|0=>0|72=>102|37=>79|5=>5|n=>n,fun|n=>n⟩
theorem Tryz.aeD:Go.Proofs.Lays.n170 af Tryz.XP:={
 mixed:=by kernel_rfl
 f170:=Tryz.func66.trans (congrArg some (by kernel_rfl))
 t0:=bK
 a0:=bH
 z0:=bJ
 v0:=bM
 t3:=aL
 a3:=bj
 z3:=bk
 v3:=bm
 t37:=bA
 a37:=cS
 z37:=cU
 v37:=cY
 t70:=bU
 a70:=dM
 z70:=dV
 v70:=ec
 t72:=dY
 a72:=dO
 z72:=dW
 v72:=ed}
open Go.RowKit in
theorem Tryz.Builder_Len(B b:Nat)(bs:List ah)(w:ae)(h:bt 102 5 B b bs w):
  ao af 66 #[.pointer (some ⟨b,0,none⟩)] w fun e w'=>e=.returned (.int .i64 bs.length)/\w'=w:=Any.Builder_Len Tryz.aeD B b bs w h
def Tryz.M3:Go.Shelf.Ren:=⟨fun|169=>68|n=>n,fun|70=>100|9=>9|0=>0|72=>102|37=>79|127=>139|3=>3|5=>5|n=>n,fun|n=>n⟩
theorem Tryz.aeE:Go.Proofs.Lays.n169 af Tryz.M3:={
 mixed:=by kernel_rfl
 f169:=Tryz.func68.trans (congrArg some (by kernel_rfl))
 t0:=bK
 a0:=bH
 z0:=bJ
 v0:=bM
 t3:=aL
 a3:=bj
 z3:=bk
 v3:=bm
 t9:=aQ
 a9:=ck
 z9:=cn
 v9:=cv
 t37:=bA
 a37:=cS
 z37:=cU
 v37:=cY
 t70:=bU
 a70:=dM
 z70:=dV
 v70:=ec
 t72:=dY
 a72:=dO
 z72:=dW
 v72:=ed
 t127:=akN
 a127:=aky
 z127:=akH
 v127:=akT}
theorem Tryz.VP:eG af Tryz.M3:={
 sizeBuilder:=by kernel_rfl
 liesBuilder:=by kernel_rfl
 t5:=bL
 a5:=cj
 z5:=cm
 v5:=cu
 infoByte:=by kernel_rfl
 cellsByte:=by kernel_rfl
 sizeByte:=by kernel_rfl
 neB5:=by decide}
open Go.RowKit in
theorem Tryz.Builder_String_any(B b:Nat)(l:List UInt8)(w:ae)(h:bt 102 5 B b (bu l) w)(K:B<=w.heap.size):
  ao af 68 #[.pointer (some ⟨b,0,none⟩)] w fun e w'=>e=.returned (.string ⟨l.toArray⟩)/\ai B w w':=Any.Builder_String_any Tryz.aeE Tryz.VP B b l w h K
def Tryz.XQ:Go.Shelf.Ren:=⟨fun|137=>99|217=>115|266=>134|n=>n,fun|9=>9|5=>5|3=>3|n=>n,fun|n=>n⟩
theorem Tryz.aeF:Go.Proofs.Lays.n137 af Tryz.XQ:={
 mixed:=by kernel_rfl
 f137:=Tryz.func99.trans (congrArg some (by kernel_rfl))
 f217:=Tryz.func115.trans (congrArg some (by kernel_rfl))
 f266:=Tryz.func134.trans (congrArg some (by kernel_rfl))
 t3:=aL
 a3:=bj
 z3:=bk
 v3:=bm
 t5:=bL
 a5:=cj
 z5:=cm
 v5:=cu
 t9:=aQ
 a9:=ck
 z9:=cn
 v9:=cv}
open Go.RowKit in
theorem Tryz.strings_IndexByte(s:ByteArray)(c:Int)(w:ae):
  ao af 99 #[.string s,.int .u8 c] w fun e w'=>e=.returned (.int .i64 (bC s.data.toList c.toNat.toUInt8))/\w'=w:=Any.strings_IndexByte Tryz.aeF s c w
def Tryz.W6:Go.Shelf.Ren:=⟨fun|171=>74|243=>98|246=>114|283=>130|284=>131|285=>132|286=>133|129=>152|317=>151|318=>153|319=>154|320=>155|337=>166|338=>167|n=>n,fun|3=>3|9=>9|2=>2|4=>4|171=>175|0=>0|53=>176|37=>79|5=>5|173=>179|212=>202|51=>185|20=>20|213=>203|46=>204|232=>245|233=>246|n=>n,fun|17=>0|18=>2|19=>3|n=>n⟩
theorem Tryz.acr:Go.Proofs.LaysM.n171 af Tryz.W6:={
 mixed:=by kernel_rfl
 f129:=akx.trans (congrArg some (by kernel_rfl))
 f171:=Tryz.func74.trans (congrArg some (by kernel_rfl))
 f243:=Tryz.func98.trans (congrArg some (by kernel_rfl))
 f246:=Tryz.func114.trans (congrArg some (by kernel_rfl))
 f283:=Tryz.func130.trans (congrArg some (by kernel_rfl))
 f284:=Tryz.func131.trans (congrArg some (by kernel_rfl))
 f285:=Tryz.func132.trans (congrArg some (by kernel_rfl))
 f286:=Tryz.func133.trans (congrArg some (by kernel_rfl))
 f317:=Tryz.func151.trans (congrArg some (by kernel_rfl))
 f318:=Tryz.func153.trans (congrArg some (by kernel_rfl))
 f319:=Tryz.func154.trans (congrArg some (by kernel_rfl))
 f320:=Tryz.func155.trans (congrArg some (by kernel_rfl))
 f337:=Tryz.func166.trans (congrArg some (by kernel_rfl))
 f338:=Tryz.func167.trans (congrArg some (by kernel_rfl))
 t0:=bK
 a0:=bH
 z0:=bJ
 v0:=bM
 t2:=Tryz.underlying2
 a2:=Tryz.isAgg2
 z2:=Tryz.sizeOf2
 v2:=Tryz.zeroValue2
 t3:=aL
 a3:=bj
 z3:=bk
 v3:=bm
 t4:=cW
 a4:=cR
 z4:=cT
 v4:=cX
 t5:=bL
 a5:=cj
 z5:=cm
 v5:=cu
 t9:=aQ
 a9:=ck
 z9:=cn
 v9:=cv
 t20:=akR
 a20:=akC
 z20:=akL
 v20:=akX
 t37:=bA
 a37:=cS
 z37:=cU
 v37:=cY
 t46:=akS
 a46:=akD
 z46:=akM
 v46:=akY
 t51:=akQ
 a51:=akB
 z51:=akK
 v51:=akW
 t53:=akP
 a53:=akA
 z53:=akJ
 v53:=akV
 t171:=Tryz.underlying175
 a171:=Tryz.isAgg175
 z171:=Tryz.sizeOf175
 v171:=Tryz.zeroValue175
 t173:=Tryz.underlying179
 a173:=Tryz.isAgg179
 z173:=Tryz.sizeOf179
 v173:=Tryz.zeroValue179
 t212:=Tryz.underlying202
 a212:=Tryz.isAgg202
 z212:=Tryz.sizeOf202
 v212:=Tryz.zeroValue202
 t213:=Tryz.underlying203
 a213:=Tryz.isAgg203
 z213:=Tryz.sizeOf203
 t232:=Tryz.underlying245
 a232:=Tryz.isAgg245
 z232:=Tryz.sizeOf245
 v232:=Tryz.zeroValue245
 t233:=Tryz.underlying246
 a233:=Tryz.isAgg246
 z233:=Tryz.sizeOf246
 v233:=Tryz.zeroValue246
 g17:=by kernel_rfl
 g18:=by kernel_rfl
 g19:=by kernel_rfl
 i0:=by kernel_rfl
 i2:=by kernel_rfl
 i3:=by kernel_rfl
 i4:=by kernel_rfl
 i5:=by kernel_rfl
 i9:=by kernel_rfl
 i20:=by kernel_rfl
 i37:=by kernel_rfl
 i46:=by kernel_rfl
 i51:=by kernel_rfl
 i53:=by kernel_rfl
 i171:=by kernel_rfl
 i173:=by kernel_rfl
 i212:=by kernel_rfl
 i232:=by kernel_rfl
 i233:=by kernel_rfl
 m17:=by kernel_rfl
 m18:=by kernel_rfl
 m19:=by kernel_rfl}
open Go.RowKit Go.Sort Go.Lib in
theorem Tryz.strconv_Itoa(n:Int)(A: -9223372036854775808<=n)(I:n<=9223372036854775807)(w:ae)(K:Lib.TabIs af w "internal/strconv.uint64pow10" .u64 Lib.pow10Tab):
  ao af 74 #[.int .i64 n] w fun e w'=>e=.returned (.string ⟨(Lib.itoa n).toArray⟩)/\∃k os,w'=grow (w.drewN k) os:=Any.strconv_Itoa Tryz.acr n A I w K
end Go.Proofs
namespace Go.Proofs.YtdcjnhipenbcfaaGreatDoor
variable {NM ref s:ByteArray}{f f1:aj}{fn:FuncId}{g1:ay}{cs l:List aj}{k0 kk:List Item}{L R ks l1 l2:List Nat}{Z:Loc->Prop}{Fd cap clock fuel i j m n p q r u y z:Nat}{XX:Nat->Nat->Prop}{RO S X':Nat->Prop}{t t':bp}{v work:ah}{w w' w2 wr:ae}
section
open RowKit
theorem Sr:(af.info? 102).map (·.size)=some 2:=by kernel_rfl
theorem aiF:liesAt af af.depth 102 (2/af.cellsOf 102) 0 102 1=true:=by kernel_rfl
theorem DI:(af.info? 5).map (fun i=>(i.zero,i.size,i.bytes))=some (some (.int .u8 0),1,1):=by kernel_rfl
theorem Mh(b:Nat)(w:ae)(K:w.cell? ⟨b,0,none⟩=some (.pointer (some ⟨b,0,none⟩))):
  ao af 96 #[.pointer (some ⟨b,0,none⟩)] w fun e w'=>e=.returned (.tuple #[])/\w'=w:=by
 obtain⟨j,Y,_⟩:=cf.1 Sr;go_wp2
 rw[Lib.run_neq_ptr_same w _ bU Y];go_wp2
 go_end0
 exact⟨rfl,rfl⟩
theorem Mc(b:Nat)(w:ae)(B:w.cell? ⟨b,0,none⟩=some (.pointer none))(K:w.shape? b=some (102,2))(A:w.frozen? ⟨b,0,none⟩=false):
  ao af 96 #[.pointer (some ⟨b,0,none⟩)] w fun e w'=>e=.returned (.tuple #[])/\w'=w.setCell ⟨b,0,none⟩ (.pointer (some ⟨b,0,none⟩)):=by
 obtain⟨j,H,Y⟩:=cf.1 Sr;go_wp2
 rw[Lib.run_to_unsafe w ⟨b,0,none⟩ bU dZ H (by rw[Y];decide) K (Nat.zero_lt_succ 1)];simp only[Result.andThen];go_wp2
 rw[run_callFunc_extern akw (by kernel_rfl) (by kernel_rfl) (by kernel_rfl) (by kernel_rfl)];rw[Lib.run_noEscape];simp only[Result.andThen];rw[akt];go_wp2
 rw[Lib.run_from_unsafe w ⟨b,0,none⟩ dZ bU H K aiF];simp only[Result.andThen];rw[akt];go_wp2
 go_end0
 exact⟨rfl,rfl⟩
theorem Mq(B b:Nat)(bs:List _)(w:ae)(h:bt 102 5 B b bs w):
  ao af 96 #[.pointer (some ⟨b,0,none⟩)] w fun e w'=>e=.returned (.tuple #[])/\du 102 5 B b (.pointer (some ⟨b,0,none⟩)) bs w'/\ai B w w':=by
 rcases h with h|h
 ·refine(Mc b w h.cell0 h.shape h.frozen0).mono ?_;rintro e w' ⟨rfl,rfl⟩;exact⟨rfl,h.used _,(aB B w).setCell h.1 _⟩
 ·refine(Mh b w h.cell0).mono ?_;rintro e w' ⟨rfl,rfl⟩;exact⟨rfl,h,aB B _⟩
theorem Fv:(102:bp)≠5:=by simp
theorem V2(B b:Nat)(bs:List ah)(s:ByteArray)(w:ae)(h:bt 102 5 B b bs w)(O:bs.length+s.size<=1000000)(V:B<=w.heap.size):
  ao af 63 #[.pointer (some ⟨b,0,none⟩),.string s] w fun e w'=>e=.returned (.tuple #[.int .i64 (s.size:Int),.nilIface])/\bt 102 5 B b (bs++cH s) w'/\ai B w w':=by
 obtain⟨i0,S,F,J,L⟩:=ep DI
 go_enter Tryz.func63,Tryz.ntmps63
 go_wp2_with(go_at_call 96;refine(Mq B b bs _ h).mono ?_)
 rintro e w1 ⟨rfl,⟨N,v,H,D,U⟩,R⟩;have c0:w1.cell? ⟨b,0,none⟩=some (.pointer (some ⟨b,0,none⟩)):=by rw[bX H];rfl
 have c1:w1.cell? ⟨b,1,none⟩=some v:=by rw[bX H];rfl
 go_wp2_with(at_builtin;refine Lib.wpList_append_own_string _ rfl _ _ 79 9 rfl B 5 i0 bA aQ S F J L _ _ _ rfl D s rfl ?c3 ?c4 ?c5 ?_)
 case c3=>unfold aX;omega
 case c4=>omega
 case c5=>have:=R.size;omega
 intro v' w2 K Y _;have A:b<w1.heap.size:=by
  rcases dG b w1.heap.size with h'|h'
  ·exact h'
  ·simp[bO h']at H
 have I:w2.heap[b]?=some (.cells #[.pointer (some ⟨b,0,none⟩),v] 102 (0,0)):=by
  rw[Y.block b A (fun e=>U e.symm)];exact H
 have d1:w2.cell? ⟨b,1,none⟩=some v:=by rw[bX I];rfl
 have f1:w2.frozen? ⟨b,1,none⟩=false:=eS I 1;obtain⟨M,P,cap,rfl⟩:∃M P cap,v'=.slice M P cap:=by
  rcases K.2 with⟨C,_⟩|⟨g,cap,Q,C,_⟩
  ·exact⟨_,_,_,C⟩
  ·exact⟨_,_,_,C⟩
 go_wp2
 go_ret2
 refine⟨rfl,.inr ?_,?_⟩
 ·exact eR (T:=102) (e:=5) N I (bs':=bs++cH s) (by simpa[Lib.strCells_length]using K) Fv
 ·exact(R.grown Y (by have:=R.size;omega) (fun k hk=>(D.lt k hk).1)).setCell (p:=⟨b,1,none⟩) N _
theorem WB(B b:Nat)(bs:List ah)(c:Int)(w:ae)(h:bt 102 5 B b bs w)(N:bs.length+1<=1000000)(V:B<=w.heap.size):
  ao af 73 #[.pointer (some ⟨b,0,none⟩),.int .u8 c] w fun e w'=>e=.returned .nilIface/\bt 102 5 B b (bs++[.int .u8 c]) w'/\ai B w w':=by
 obtain⟨i0,Q,F,J,L⟩:=ep DI
 go_enter Tryz.func73,Tryz.ntmps73
 go_wp2_with(go_at_call 96;refine(Mq B b bs _ h).mono ?_)
 rintro e w1 ⟨rfl,⟨M,v,I,D,C⟩,H⟩;have c1:w1.cell? ⟨b,1,none⟩=some v:=by rw[bX I];rfl
 go_wp2_with(at_builtin;refine ak4 _ rfl _ _ 79 rfl B 5 i0 (.int .u8 0) 1 1 bA Q F J L rfl (by decide) _ _ _ rfl (D.alloc _) ⟨w1.heap.size,0,none⟩ 1 1 [.int .u8 c] rfl rfl ?c1 ?c2 ?c3 ?c4 ?c5 ?_)
 case c1=>
  intro j u A
  match j,A with
  |0,A=>simp at A;subst A;simp[Addr.add]
 case c2=>intro u O;simp at O;subst O;rfl
 case c3=>unfold aX;omega
 case c4=>omega
 case c5=>have:=H.size;simp;omega
 intro v' w2 K Y _;have U:b<w1.heap.size:=by
  rcases dG b w1.heap.size with h'|h'
  ·exact h'
  ·simp[bO h']at I
 have R:w2.heap[b]?=some (.cells #[.pointer (some ⟨b,0,none⟩),v] 102 (0,0)):=by
  rw[Y.block b (by simp;omega) (fun e=>C e.symm),Lib.alloc_old w1 _ b U];exact I
 have d1:w2.cell? ⟨b,1,none⟩=some v:=by rw[bX R];rfl
 have f1:w2.frozen? ⟨b,1,none⟩=false:=eS R 1;obtain⟨g,cap,rfl⟩:∃g cap,v'=.slice (some ⟨g,0,none⟩) (bs.length+1) cap:=by
  rcases K.2 with⟨_,X⟩|⟨g,cap,P,S,_⟩
  ·omega
  ·exact⟨g,cap,S⟩
 go_wp2
 go_ret
 refine⟨rfl,.inr ?_,?_⟩
 ·exact eR (T:=102) (e:=5) M R (bs':=bs++[.int .u8 c]) (by simpa using K) Fv
 ·exact((H.alloc (by have:=H.size;omega) _).grown Y (by have:=H.size;simp;omega) (fun k hk=>(D.lt k hk).1)).setCell (p:=⟨b,1,none⟩) M _
theorem aeG(s:ByteArray):lU s=iB (kA s 62 0) fun p=>iB (iX s 200 p) (vY s (s.size+1) (jK s 200 p)):=by
 unfold lU kA;rw[Gg]
theorem aaz{o o':Obj}(h:((w.alloc o).alloc o').grownBy w' (some r))(hr:w.heap.size<=r):ai w.heap.size w w':=
 (((aB _ _).alloc (ar _) _).alloc (by simp) _).grown h (by simp;omega) (by simp_all)
theorem F6(s:ByteArray)(f:Nat)(acc:List _)(st:Nat×Bool)(h:st.2=true):nM s f acc st=(st,acc):=xW (.inl h) rfl
theorem Mr(s:ByteArray):∀f acc p,acc≠ []->p<=s.size->(nM s f acc (p,false)).1=vY s f acc.length p
 |0,acc,p,_,_=>rfl
 |f+1,acc,p,H,D=>by
  by_cases h:p<s.size
  ·have I:=B_ (f:=f+1) (acc:=acc) (st:=(p,false)) (by omega) rfl (.inr h) rfl;rw[<-I,ako];simp only[vY];rw[if_neg (by omega)];by_cases hb:(iX s (200-acc.length) p).2=true
   ·rw[F6 _ _ _ _ hb,vJ hb]
   ·rw[bg]at hb;have K:=(uj s (200-acc.length) p D).2;have Y:(acc++su s (200-acc.length) p).length=acc.length+jK s (200-acc.length) p:=by rw[aH,Hv s _ p D]
    rw[<-Y];have e:iX s (200-acc.length) p=((iX s (200-acc.length) p).1,false):=by rw[<-hb]
    rw[e];exact Mr s f _ _ (by simp[H]) K
  ·rw[xW (.inr ⟨H,by omega⟩) rfl];simp only[vY];simp_all
theorem aaA(s:ByteArray):(mQ s).1=lU s:=by
 unfold mQ;rw[aeG];have e:iB _ _=kA s 62 0:=rfl;rw[e];by_cases hb:(kA s 62 0).2=true
 ·rw[F6 _ _ _ _ hb,vJ hb]
 ·rw[bg]at hb;rw[kz hb];have K:=(vL s 62 0 (by omega)).2;generalize kA s 62 0=st at *;obtain⟨p,b⟩:=st;subst hb;have I:=B_ (s:=s) (f:=s.size+2) (st:=(p,false)) (by omega) rfl (.inl rfl) rfl;rw[<-I];simp at *;by_cases hb:(iX s 200 p).2=true
  ·rw[F6 _ _ _ _ hb,vJ hb]
  ·rw[bg]at hb;have D:=Gd s 200 p hb;have Y:=Hv s 200 p K;have H:iX s 200 p=((iX s 200 p).1,false):=by rw[<-hb]
   rw[H,<-Y];refine Mr s _ _ _ ?_ (uj s 200 p K).2;intro h;rw[h]at Y;simp at Y;omega
abbrev ia(B:Nat)(acc:List _)(w:ae):=bt 102 5 B B (bu acc) w
theorem NJ{p:ah}{B:Nat}{bs:List _}(h:du 102 5 B B p bs w)(A:w.grownBy w' (some r))(hr:r<B):du 102 5 B B p bs w':=by
 obtain⟨D,v,hb,Y,K⟩:=h;have H:=Lib.BuilderAt.lt ⟨D,v,hb,Y,K⟩;refine⟨D,v,?_,Y.kept A (.inr ?_),K⟩
 ·rw[A.block B H (by intro e;simp_all)];exact hb
 ·intro e;have:=(Y.lt r e).1;omega
theorem ia.kept{B:Nat}{acc:List _}(h:ia B acc w)(K:w.grownBy w' (some r))(hr:r<B):ia B acc w':=
 h.imp (fun h=>NJ h K hr) (fun h=>NJ h K hr)
theorem ia.drewN{B:Nat}{acc:List _}(h:ia B acc w)(m:Nat):ia B acc (w.drewN m):=h
theorem ia.lt{B:Nat}{acc:List _}(h:ia B acc w):B<w.heap.size:=by
 rcases h with h|h<;>exact h.lt
theorem ia.new(w:ae):ia w.heap.size [] (w.alloc (.cells #[.pointer none,.slice none 0 0] 102)):=Lib.fresh_isBuilder 102 5 w
theorem agr(B:Nat)(acc:List _)(w:ae)(h:ia B acc w):
  ao af 66 #[.pointer (some ⟨B,0,none⟩)] w fun e w'=>e=.returned (.int .i64 acc.length)/\w'=w:=by
 have:=Tryz.Builder_Len B B _ w h
 rwa [show(bu acc).length=acc.length by simp[bu]]at this
theorem Cn(B:Nat)(acc:List _)(w:ae)(h:ia B acc w):
  ao af 68 #[.pointer (some ⟨B,0,none⟩)] w fun e w'=>e=.returned (.string (str acc))/\ai B w w':=Tryz.Builder_String_any B B acc w h (by have:=h.lt;omega)
theorem Ov(acc:List _)(x:ByteArray):bu acc++cH x=bu (acc++x.data.toList):=by
 simp[bu,cH]
theorem CF(B:Nat)(acc:List _)(x:ByteArray)(w:ae)(h:ia B acc w)(K:acc.length+x.size<=1000000):
  ao af 63 #[.pointer (some ⟨B,0,none⟩),.string x] w fun e w'=>e=.returned (.tuple #[.int .i64 x.size,.nilIface])/\ia B (acc++x.data.toList) w'/\ai B w w':=by
 refine(V2 B B _ x w h (by simp[bu];omega) (by have:=h.lt;omega)).mono ?_;rintro e w' ⟨Y,I,h2⟩;rw[Ov]at I;simp_all
def De(NM:ByteArray)(w:ae)(R:(Nat×Bool)×List UInt8)(e:Ending)(w':ae):Prop:=
 (R.1.2=false->e=.returned (.agg #[.string NM,.string (str R.2)]))/\(R.1.2=true->e=.panicked (qz 2 (R.1.1:Int)))/\ai w.heap.size w w'
theorem Gp{w1:ae}{st:Nat×Bool}{l:List _}{R:(Nat×Bool)×List _}(K:R=(st,l))(gj:st.2=true)(hb:ai w.heap.size w w1):De NM w R (.panicked (qz 2 (st.1))) w1:=by
 subst K;exact⟨fun h=>by simp_all,fun _=>rfl,hb⟩
theorem XR{w1:ae}{l:List _}{R:(Nat×Bool)×List _}(K:R=((p,false),l))(hb:ai w.heap.size w w1):De NM w R (.returned (.agg #[.string NM,.string (str l)])) w1:=by
 subst K;exact⟨fun _=>rfl,fun h=>Bool.noConfusion h,hb⟩
theorem PF(s:ByteArray)(m p:Nat)(K:p<=s.size):(od s m p).data.toList.map gb=su s m p:=by
 unfold su od;simp only[rest];simp
theorem acs(l:List _):(str l).data.toList=l:=by simp[str]
def qf(s:ByteArray):=tK s (gW s 62 0).1
theorem V9{o o':Obj}(K:((w.alloc o).alloc o').grownBy w' (some r))(hr:r≠w.heap.size):w'.heap[w.heap.size]?=some o:=by
 rw[K.block _ (by simp;omega) (by simpa using fun h=>hr h.symm),aI _ _ (by simp),aM]
theorem VQ(s:ByteArray)(w:ae)(hs:s.size<=1000):
  ao af 43 #[.string s] w fun e w'=>De (qf s) w (mQ s) e w':=by
 generalize hR:mQ s=R;have HR:=laid (show nM s (s.size+2) [] (kA s 62 0)=R from hR);clear hR;generalize hM:qf s=o;have HM:=laid (show tK s (gW s 62 0).1=o from hM);clear hM
 go_enter Tryz.func43,Tryz.ntmps43
 go_wp2_with fail
 have O:=O5 (w.alloc (.cells #[.string ⟨#[]⟩,.string ⟨#[]⟩] 68)) s 0 2;have f:(w.alloc (.cells #[.string ⟨#[]⟩,.string ⟨#[]⟩] 68)).heap.size=w.heap.size+1:=by simp
 rw[f]at O;refine(Mx _ _ s 0 2 _ 62 rfl O hs (by omega)).mono ?_;rw[HM.out];clear HM;rintro e w1 ⟨I,h2,b,m⟩;have M:=vL s 62 0 (by omega);have P:=V9 m (by omega);have J:ai w.heap.size w w1:=aaz m (by omega);clear m O f;generalize hQ:w.heap.size+1=Q at *;by_cases gj:(kA s 62 0).2=true
 ·obtain rfl:=h2 gj;exact⟨rfl,Gp (xW (.inl gj) HR.out) gj J⟩
 ·rw[bg]at gj;obtain rfl:=I gj;clear I h2;have l:=laid (B_ (by omega) gj (.inl rfl) HR.out);generalize(kA s 62 0).1=C at *;clear gj HR;have j:=b.lt;go_wp2_with fail
  refine(FX _ _ s C 2 _ 200 rfl (by omega) (b.alloc _) hs M.2).mono ?_;rintro e w2 ⟨I,h2,qd,W⟩;have Un:=(ia.new w1).kept W j;have D:=W.block w.heap.size (by simp;omega) (by simp;omega);rw[aI _ _ (by omega),P]at D;have u:ai w.heap.size w w2:=(J.alloc J.size _).grown W (by simp;have:=J.size;omega) (by intro k hk;cases hk;omega);clear W b J P;have Lv:=uj s 200 C M.2;by_cases gj:(iX s 200 C).2=true
  ·obtain rfl:=h2 gj;exact⟨rfl,Gp (xW (.inl gj) l.out) gj u⟩
  ·rw[bg]at gj;obtain rfl:=I gj;clear I h2;have H:=Gd s 200 C gj;have n:=z7 s 200 C;have a:=Gf s 200 C M.2;have V:=PF s 200 C M.2;have Uo:Hid (s.size-(iX s 200 C).1<s.size+1/\nM s (s.size+1) ((od s 200 C).data.toList.map gb) ((iX s 200 C).1,false)=R):=laid ⟨by omega,by
    have:=l.out;rw[show s.size+2-1=s.size+1 by omega]at this;rw[V,<-gj];exact this⟩
   clear l V;have Ep:1<=(od s 200 C).size/\(od s 200 C).size<=200:=by omega
   generalize od s 200 C=X at *;generalize(iX s 200 C).1=p2 at *;clear gj H n a M;generalize w1.heap.size=B at *;go_wp2_with fail
   refine(CF B [] X _ Un (by simp;omega)).mono ?_;rintro e w3 ⟨rfl,r,Y⟩;have vj:=qd.below Y j;have A:=Y.block w.heap.size (by omega);rw[D]at A;have Up:ai w.heap.size w w3:=u.trans (Y.mono (by omega));clear Y qd u Un D;rw[bE]at r;go_wp2
   go_loopw [] (fun wr=>∃(acc:List UInt8) (p fuel:Nat),1<=acc.length/\acc.length<=200/\p<=s.size/\RD wr Q s p 2/\ia B acc wr/\wr.heap[w.heap.size]?=some (.cells #[.string ⟨#[]⟩,.string ⟨#[]⟩] 68)/\ai w.heap.size w wr/\Hid (s.size-p<fuel/\nM s fuel (acc.map gb) (p,false)=R)) (fun wr=>s.size-mO wr Q)
   case atStart=>exact⟨X.data.toList,p2,s.size+1,by simp;omega,by simp;omega,Lv.2,vj,r,A,Up,Uo⟩
   case round=>
    obtain⟨acc,p,fuel,ha1,ha2,hp,F,y,d,L,HF⟩:=hrel;clear Uo vj r Up Lv Ep A;by_cases z:p<s.size
    ·have HL:=laid (B_ (by have:=HF.out.1;omega) rfl (.inr z) HF.out.2);go_wp2_with fail
     refine(Cx _ _ s p 2 F z).mono ?_;rintro e w4 ⟨rfl,i,rfl⟩;go_wp2_with fail
     refine(agr B acc _ (y.drewN i)).mono ?_;rintro e w4 ⟨rfl,rfl⟩;go_wp2_with fail
     refine(FX _ _ s p 2 _ (200-acc.length) (by omega) (by omega) (F.drewN i) hs hp).mono ?_;rintro e w4 ⟨I,h2,t,q⟩;have Uq:=(y.drewN i).kept q j;have S:=q.block w.heap.size (by have:=F.lt;simp;omega) (by simp;omega);have x:ai w.heap.size w w4:=(Go.below_drewN L i).grown q (by have:=L.size;simpa using this) (by intro k hk;cases hk;omega);have Lw:=uj s (200-acc.length) p hp;have E:=HL.out;rw[cL]at E;by_cases gj:(iX s (200-acc.length) p).2=true
     ·obtain rfl:=h2 gj;exact⟨rfl,Gp (xW (.inl gj) E) gj x⟩
     ·rw[bg]at gj;obtain rfl:=I gj;clear I h2 q;have U:w4.heap[w.heap.size]?=some (.cells #[.string ⟨#[]⟩,.string ⟨#[]⟩] 68):=S.trans d;clear S;have H:=Gd s (200-acc.length) p gj;have n:=z7 s (200-acc.length) p;have a:=Gf s (200-acc.length) p hp;have V:=PF s (200-acc.length) p hp;have HL1:Hid (s.size-(iX s (200-acc.length) p).1<fuel-1/\nM s (fuel-1) ((acc++(od s (200-acc.length) p).data.toList).map gb) ((iX s (200-acc.length) p).1,false)=R):=laid ⟨by have:=HF.out.1;omega,by
       rw[List.map_append,V,<-gj];exact E⟩
      clear HL E HF V;have Ep:(od s (200-acc.length) p).size+acc.length<=200:=by omega
      have hpm:p<(iX s (200-acc.length) p).1:=by omega
      have Fw:=laid F.mO;have aov:=laid t.mO;generalize od s (200-acc.length) p=X at *;generalize(iX s (200-acc.length) p).1=p4 at *;clear gj H n a;go_wp2_with fail
      refine(CF B acc X _ Uq (by omega)).mono ?_;rintro e w5 ⟨rfl,hB5,Y⟩;have zt:=t.below Y j;have T:=Y.block w.heap.size (by omega);rw[U]at T;have G:ai w.heap.size w w5:=x.trans (Y.mono (by omega));have ajS:=laid zt.mO;clear Y t x Uq U;go_wp2
      go_roundw
      case rel=>go_light;exact⟨acc++X.data.toList,p4,fuel-1,by simp;omega,by simp;omega,Lw.2,zt,hB5,T,G,HL1⟩
      case measure=>go_light;rw[Fw.out,ajS.out];omega
    ·have Ur:s.size=p:=by omega
     have HPE:=laid Ur;have c:=xW (.inr ⟨by intro h;have h0:=congrArg List.length h;rw[cL,bD]at h0;omega,by simp only;omega⟩) HF.out.2;have ajT:=laid c;clear c Ur HF;go_wp2_with fail
     refine(Gu _ _ s p 2 F HPE.out).mono ?_;rintro e w4 ⟨rfl,i,rfl⟩;go_wp2_with fail
     refine(Cn B acc _ (y.drewN i)).mono ?_;rintro e w5 ⟨rfl,Y⟩;go_wp2_with fail
     refine(L7 (str acc) _ (by rw[gR];omega)).mono ?_;rintro e g ⟨rfl,Us⟩;have G:ai w.heap.size w w5:=(Go.below_drewN L i).trans (Y.mono (by omega));have Ut:ai w.heap.size w g:=G.trans (Us.mono G.size);have K:g.heap[w.heap.size]?=some (.cells #[.string ⟨#[]⟩,.string ⟨#[]⟩] 68):=by
      have zx:=Y.size;have hrl:=F.lt;simp at zx;rw[Us.block w.heap.size (by omega),Y.block w.heap.size (by omega)];exact d
     have n0:g.cell? ⟨w.heap.size,0,none⟩=some (.string ⟨#[]⟩):=by rw[au _ _ _ _ _ _ K];rfl
     have n1:g.cell? ⟨w.heap.size,1,none⟩=some (.string ⟨#[]⟩):=by rw[au _ _ _ _ _ _ K];rfl
     have z0:g.frozen? ⟨w.heap.size,0,none⟩=false:=aW _ _ _ _ _ K;have z1:g.frozen? ⟨w.heap.size,1,none⟩=false:=aW _ _ _ _ _ K;have N:str ((str acc).data.toList.map gb)=str (acc.map gb):=by rw[acs]
     rw[N];generalize ajU:acc.map gb=Z at *;obtain⟨m0,m1,Uu⟩:=vT (.string o) (.string (str Z)) n0 n1;have Fy:ai w.heap.size w ((g.setCell ⟨w.heap.size,0,none⟩ (.string o)).setCell ⟨w.heap.size,1,none⟩ (.string (str Z))):=Ut.grown Uu Ut.size (by intro k hk;cases hk;exact ar _);have HG:=laid (XR (NM:=o) ajT.out Fy);clear ajU N K Uu;go_wp2
     generalize(g.setCell ⟨w.heap.size,0,none⟩ (.string o)).setCell ⟨w.heap.size,1,none⟩ (.string (str Z))=w8 at *;refine cx (v:=.agg #[.string o,.string (str Z)]) ?_ rfl HG.out;simp[bV,Tryz.results43,go_sem,m0,m1]
theorem FN(s:ByteArray)(w:ae)(K:s.size<=1000):
  ao af 43 #[.string s] w fun e w'=>((lU s).2=false->e=.returned (.agg #[.string (qf s),.string (str (mQ s).2)]))/\((lU s).2=true->e=.panicked (qz 2 ((lU s).1)))/\ai w.heap.size w w':=by
 have:=VQ s w K;unfold De at this
 rwa [aaA]at this
theorem XS{k:Nat}{R:Nat×Bool}(hk:k<5)(K:p<s.size)(h:kL s (5-k) p=R):iB (lL s p) (kL s (5-(k+1)))=R:=by
 rw[<-h,show 5-k=(5-(k+1))+1 by omega];simp only[kL];rw[if_neg (by omega)]
theorem NK{k:Nat}{R:Nat×Bool}(K:s.size=p)(h:kL s (5-k) p=R):R=(p,false):=by
 rw[<-h];generalize 5-k=m;cases m with
 |zero=>simp[kL];simp_all
 |succ m=>simp[kL];simp_all
theorem XT{R:Nat×Bool}(K:p<s.size)(h:kL s (5-5) p=R):(p,true)=R:=by
 rw[<-h];simp[kL,Nat.sub_self];simp_all
theorem Y8(s:ByteArray)(p:Nat)(h:(lL s p).2=false)(M:p<=s.size):p<(lL s p).1:=by
 unfold lL at *;obtain⟨I,h2⟩:=rM h;rw[kz I];have J:=Nq s 64 p I;have R:(gW s 64 p).1<=s.size:=by omega
 have:=pL (O4 s _ R) fun q A=>pL (uj s 30 q A) fun U Y=>pL (qs s 43 U Y) fun B K=>pL (qs s 10 B K) fun C H=>pL (vK s ku (jK s 30 q) (jK s 30 q) C H) fun F D=>qs s 10 F D;omega
theorem ags:(af.info? 131).map (fun i=>(i.zero,i.size,i.bytes))=some (some (.agg #[.string ⟨#[]⟩,.string ⟨#[]⟩,.string ⟨#[]⟩]),3,48):=by kernel_rfl
def HX(w:ae)(R:Nat×Bool)(K:List (ByteArray×ByteArray×ByteArray))(e:Ending)(w':ae):Prop:=
 (R.2=false->∃V,e=.returned V/\w'.ownsRow (w.heap.size+1) 131 3 V K.length (lD K))/\(R.2=true->e=.panicked (qz 3 (R.1:Int)))/\ai w.heap.size w w'
theorem M4{w1:ae}{st R:Nat×Bool}{K:List _}(A:st=R)(gj:st.2=true)(hb:ai w.heap.size w w1):HX w R K (.panicked (qz 3 (st.1))) w1:=by
 subst A;exact⟨fun h=>by simp_all,fun _=>rfl,hb⟩
theorem MH{w1:ae}{R:Nat×Bool}{L K:List _}{V:ah}(C:R.2=false)(A:L=K)(B:w1.ownsRow (w.heap.size+1) 131 3 V L.length (lD L))(hb:ai w.heap.size w w1):HX w R K (.returned V) w1:=by
 subst A;exact⟨fun _=>⟨V,rfl,B⟩,fun h=>by simp_all,hb⟩
theorem W7{k:Nat}{L K:List _}(hk:k<5)(A:p<s.size)(gj:(lL s p).2=false)(h:L++iR s (5-k) p=K):(L++[(xC s p,xD s p,xE s p)])++iR s (5-(k+1)) (lL s p).1=K:=by
 rw[<-h,show 5-k=(5-(k+1))+1 by omega];simp only[iR];rw[if_neg (by omega),if_neg (by simp_all),afI s p (by omega) gj,eT];rfl
theorem M5{k:Nat}{L K:List _}(A:s.size<=p)(h:L++iR s k p=K):L=K:=by
 rw[<-h];cases k with
 |zero=>simp[iR]
 |succ k=>simp[iR];simp_all
theorem AB{b:Nat}{e:bp}{k:Nat}{xs:List _}(h:wr.ownsRow b e k v n xs)(r:Nat)(hr:r<b\/wr.heap.size<=r):v.ownBlock=none\/v.ownBlock≠some r:=by
 cases hb:v.ownBlock with
 |none=>exact .inl rfl
 |some g=>
  right;have:=h.lt g hb;intro Y;cases Y;omega
theorem Co{B B':Nat}{e:bp}{k:Nat}{xs:List _}(h:w.ownsRow B e k v n xs)(A:B'<=B):w.ownsRow B' e k v n xs:=by
 refine⟨h.1,?_⟩;rcases h.2 with h'|⟨g,cap,Y,I,h2,K⟩
 ·simp_all
 ·exact .inr ⟨g,cap,Y,I,by omega,K⟩
theorem Ms(s:ByteArray)(w:ae)(hs:s.size<=1000):
  ao af 90 #[.string s] w fun e w'=>HX w (kL s 5 0) (iR s 5 0) e w':=by
 obtain⟨i0,hi,hz,hsi,hby⟩:=ep ags;generalize hR:kL s 5 0=R;have HR:=laid hR;clear hR;generalize d:iR s 5 0=LR;have q:=laid (show []++iR s 5 0=LR from d);clear d
 go_enter Tryz.func90,Tryz.ntmps90
 go_wp2
 go_loopw [4] (fun v wr=>∃(L:List (ByteArray×ByteArray×ByteArray)) (p:Nat),L.length<=5/\p<=s.size/\RD wr w.heap.size s p 3/\wr.ownsRow (w.heap.size+1) 131 3 v L.length (lD L)/\ai w.heap.size w wr/\Hid (kL s (5-L.length) p=R)/\Hid (L++iR s (5-L.length) p=LR)) (fun _ wr=>s.size-mO wr w.heap.size)
 case atStart=>exact⟨[],0,by simp,by omega,O5 w s 0 3,World.ownsRow_nil _ _ _ _,(aB _ _).alloc (ar _) _,HR,q⟩
 case round=>
  obtain⟨L,p,hk,hp,J,U,H,P,b⟩:=hrel;clear HR q;obtain⟨av,cap,rfl⟩:∃a cap,u4=.slice a L.length cap:=by
   rcases U.2 with⟨I,h2⟩|⟨g,cap,cur,I,_⟩
   ·exact⟨none,0,by rw[I,h2]⟩
   ·exact⟨_,cap,I⟩
  generalize hn:L.length=n at *;have G:=laid hn;clear hn;by_cases l:n<5
  ·by_cases D:p<s.size
   ·have z:=laid (XS l D P.out);clear P;go_wp2_with fail
    refine(Cx _ _ s p 3 J D).mono ?_;rintro e w3 ⟨rfl,m,rfl⟩;go_wp2_with fail
    refine(Xj _ _ s p 3 (J.drewN m) hs hp).mono ?_;rintro e w4 ⟨I,h2,x,Z⟩;have K:=World.ownsRow.kept (w:=wr.drewN m) U Z (AB U _ (.inl (by omega)));have Y:ai w.heap.size w w4:=(Go.below_drewN H m).grown Z (by have:=H.size;simpa using this) (by intro k hk;cases hk;exact ar _);have Lw:=abt s p hp;by_cases gj:(lL s p).2=true
    ·obtain rfl:=h2 gj;exact⟨rfl,M4 (sU z.out gj) gj Y⟩
    ·rw[bg]at gj;obtain rfl:=I gj;clear I h2;have c:=laid (tf z.out gj);have W:=laid (W7 l D gj b.out);have hmo:=Y8 s p gj hp;have Fw:=laid J.mO;unfold oM;generalize(lL s p).1=i at *;generalize xC s p=T at *;generalize xD s p=Q at *;generalize xE s p=S at *;clear gj z b Z;have aow:=x.lt;go_wp2_with(first
      |(at_builtin;refine ak4 _ rfl _ _ 90 rfl (w.heap.size+1) 131 i0 (.agg #[.string ⟨#[]⟩,.string ⟨#[]⟩,.string ⟨#[]⟩]) 3 48 Tryz.underlying90 hi hz hsi hby rfl (by decide) _ _ _ rfl (K.alloc _) ⟨w4.heap.size,0,none⟩ 1 1 [.string T,.string Q,.string S] rfl rfl ?c1 ?c2 ?c3 ?c4 ?c5 ?_)
      |go_in)
     case c1=>
      intro j u N
      match j,N with
      |0,N=>simp at N;subst N;simp[Addr.add,go_sem]
      |1,N=>simp at N;subst N;simp[Addr.add,go_sem]
      |2,N=>simp at N;subst N;simp[Addr.add,go_sem]
     case c2=>intro u hu;simp at hu;rcases hu with rfl|rfl|rfl<;>rfl
     case c3=>unfold aX;omega
     case c4=>omega
     case c5=>simp;omega
     intro v' w7 C B _;have o:=AB K w.heap.size (.inl (by omega));have y:RD w7 w.heap.size s i 3:=by
      have ha:=x.alloc (.cells #[.string T,.string Q,.string S] 131);unfold RD at *;rw[B.block _ (by simp;omega) (by rcases o with h|h<;>simp_all;exact fun h'=>h h'.symm)];exact ha
     have X:ai w.heap.size w w7:=(Y.alloc Y.size _).grown B (by simp;have:=Y.size;omega) (fun k hk=>by have:=K.lt k hk;omega);have E:w7.ownsRow (w.heap.size+1) 131 3 v' (L++[(T,Q,S)]).length (lD (L++[(T,Q,S)])):=by
      rw[Yt,aH,G.out];exact C
     have r:=laid y.mO;have HS2:Hid (kL s (5-(L++[(T,Q,S)]).length) i=R):=laid (by rw[aH,G.out];exact c.out);have HL2:Hid ((L++[(T,Q,S)])++iR s (5-(L++[(T,Q,S)]).length) i=LR):=laid (by rw[aH,G.out];exact W.out);obtain⟨g,Ea,n',rfl⟩:∃g cap n',v'=.slice (some ⟨g,0,none⟩) n' cap:=by
      rcases C.2 with⟨_,h0⟩|⟨g,cap,cur,hv,_⟩
      ·omega
      ·exact⟨g,cap,_,hv⟩
     clear C B o K c W;go_wp2
     go_roundw
     case rel=>go_light;exact⟨L++[(T,Q,S)],i,by rw[aH,G.out];simp;omega,Lw.2,y,E,X,HS2,HL2⟩
     case measure=>go_light;rw[Fw.out,r.out];omega
   ·have F:s.size=p:=by omega
    have O:=laid F;have A:=NK F P.out;have M:=laid (show R.2=false by rw[A]);have V:=laid (M5 (by omega) b.out);clear A F P;go_wp2_with fail
    refine(Gu _ _ s p 3 J O.out).mono ?_;rintro e w3 ⟨rfl,m,rfl⟩;go_wp2_with fail
    refine(My _ _ s p 3 (J.drewN m) (by rw[O.out])).mono ?_;rintro e w4 ⟨rfl,t,rfl⟩;go_wp2
    go_ret
    exact MH M.out V.out (by rw[G.out];exact U) (Go.below_drewN H _)
  ·have f:n=5:=by omega
   have HK:=laid f;clear f;by_cases D:p<s.size
   ·have z:=laid (XT D (HK.out▸P.out));clear P;go_wp2_with fail
    refine(Wm _ _ s p 3 J (by omega)).mono ?_;rintro e w4 ⟨rfl,t,rfl⟩;exact⟨rfl,M4 (st:=(p,true)) z.out rfl (Go.below_drewN H t)⟩
   ·have F:s.size=p:=by omega
    have O:=laid F;have A:=NK F P.out;have M:=laid (show R.2=false by rw[A]);have V:=laid (M5 (by omega) b.out);clear A F P;go_wp2_with fail
    refine(My _ _ s p 3 J (by rw[O.out])).mono ?_;rintro e w4 ⟨rfl,t,rfl⟩;go_wp2
    go_ret
    exact MH M.out V.out (by rw[G.out];exact U) (Go.below_drewN H t)
structure lQ(w w':ae)(y z:Nat):Prop where
 os:w'.os=w.os
 tape:w'.tape=w.tape
 output:w'.output=w.output
 size:w.heap.size<=w'.heap.size
 block:∀k,k<w.heap.size->k≠y->k≠z->w'.heap[k]?=w.heap[k]?
theorem lQ.of{wm:ae}(I:w.grownBy wm (some y))(h2:wm.grownBy w' (some z)):lQ w w' y z:=
 ⟨h2.os.trans I.os,h2.tape.trans I.tape,h2.output.trans I.output,bF I.size h2.size,fun k hk Y K=>by
  rw[h2.block k (by have:=I.size;omega) (by simp_all),I.block k hk (by simp_all)]⟩
theorem lQ.below{B:Nat}(h:lQ w w' y z)(K:B<=w.heap.size)(A:B<=y)(C:B<=z):ai B w w':=
 ⟨h.os,h.tape,h.output,h.size,fun k hk=>h.block k (by omega) (by omega) (by omega)⟩
theorem lQ.new{w w1 w2:ae}{o:Obj}{y z:Nat}(K:lQ (w.alloc o) w1 y z)(h2:w1.grownBy w2 (some w.heap.size)):lQ w w2 y z:=by
 refine⟨h2.os.trans K.os,h2.tape.trans K.tape,h2.output.trans K.output,?_,fun k hk H D=>?_⟩
 ·have:=K.size;have:=h2.size;simp at *;omega
 ·have Y:=K.size;simp at Y;rw[h2.block k (by omega) (by simp;omega),K.block k (by simp;omega) H D,eD w o k hk]
theorem lQ.alloc{w1:ae}(K:lQ w w1 y z)(o:Obj):lQ w (w1.alloc o) y z:=
 ⟨K.os,K.tape,K.output,by have:=K.size;simp;omega,fun k hk Y H=>by
  have:=K.size;rw[eD w1 o k (by omega)];exact K.block k hk Y H⟩
theorem V_(h:ai w.heap.size w w')(y z:Nat):lQ w w' y z:=⟨h.os,h.tape,h.output,h.size,fun k hk _ _=>h.block k hk⟩
def j9(ref reads:ByteArray):=
 if(lU ref).2=true then(2,(lU ref).1)else if(kL reads 5 0).2=true then(3,(kL reads 5 0).1)else(0,0)
def mS(ref reads:ByteArray):Int:=if 400<ref.size\/600<reads.size then 1 else((j9 ref reads).1:Int)
def yF(ref reads:ByteArray):Int:=if 400<ref.size\/600<reads.size then 0 else((j9 ref reads).2:Int)
def RB(w:ae)(y:Nat)(a b:ByteArray):=w.heap[y]?=some (.cells #[.string a,.string b] 68 (0,0))
def ZB(w:ae)(z:Nat)(v:ah):=w.heap[z]?=some (.cells #[v] 90 (0,0))
def FB(w:ae)(m:Nat)(c p:Int):=w.heap[m]?=some (.cells #[.int .i64 c,.int .i64 p] 70 (0,0))
theorem RB.c0{a b:ByteArray}(h:RB w y a b):w.cell? ⟨y,0,none⟩=some (.string a):=by rw[au w y 0 _ _ _ h];rfl
theorem RB.c1{a b:ByteArray}(h:RB w y a b):w.cell? ⟨y,1,none⟩=some (.string b):=by rw[au w y 1 _ _ _ h];rfl
theorem RB.fz{a b:ByteArray}(h:RB w y a b)(j:Nat):w.frozen? ⟨y,j,none⟩=false:=aW w y j _ _ h
theorem RB.lt{a b:ByteArray}(h:RB w y a b):y<w.heap.size:=by have:=a_ h.c0;omega
theorem RB.put{a b:ByteArray}(h:RB w y a b)(a' b':ByteArray):RB ((w.setCell ⟨y,0,none⟩ (.string a')).setCell ⟨y,1,none⟩ (.string b')) y a' b':=by
 have I:RB (w.setCell ⟨y,0,none⟩ (.string a')) y a' b:=by unfold RB at *;rw[bN w y 0 _ _ _ h];rfl
 unfold RB at *;rw[bN _ y 1 _ _ _ I];rfl
theorem RB.at{a b:ByteArray}(h:RB w y a b)(K:w'.heap[y]?=w.heap[y]?):RB w' y a b:=by unfold RB at *;simp_all
theorem ZB.c0(h:ZB w z v):w.cell? ⟨z,0,none⟩=some v:=by rw[au w z 0 _ _ _ h];rfl
theorem ZB.fz(h:ZB w z v)(j:Nat):w.frozen? ⟨z,j,none⟩=false:=aW w z j _ _ h
theorem ZB.lt(h:ZB w z v):z<w.heap.size:=by have:=a_ h.c0;omega
theorem ZB.put(h:ZB w z v)(v':ah):ZB (w.setCell ⟨z,0,none⟩ v') z v':=by
 unfold ZB at *;rw[bN w z 0 _ _ v' h];rfl
theorem ZB.at(h:ZB w z v)(K:w'.heap[z]?=w.heap[z]?):ZB w' z v:=by unfold ZB at *;simp_all
theorem FB.c0{c p:Int}(h:FB w m c p):w.cell? ⟨m,0,none⟩=some (.int .i64 c):=by rw[au w m 0 _ _ _ h];rfl
theorem FB.c1{c p:Int}(h:FB w m c p):w.cell? ⟨m,1,none⟩=some (.int .i64 p):=by rw[au w m 1 _ _ _ h];rfl
theorem FB.fz{c p:Int}(h:FB w m c p)(j:Nat):w.frozen? ⟨m,j,none⟩=false:=aW w m j _ _ h
theorem FB.lt{c p:Int}(h:FB w m c p):m<w.heap.size:=by have:=a_ h.c0;omega
theorem Y9(ref reads:ByteArray)(x y u z:Nat)(a b:ByteArray)(v:ah)(w:ae)(I:ref.size<=400)(h2:reads.size<=600)
  (hx:w.cell? ⟨x,0,none⟩=some (.string ref))(hu:w.cell? ⟨u,0,none⟩=some (.string reads))(hy:RB w y a b)(hz:ZB w z v)(huy:u≠y)(O:z≠y)(ha:(lU ref).2=false)(hb:(kL reads 5 0).2=false):
  ao af 89 #[.pointer (some ⟨x,0,none⟩),.pointer (some ⟨y,0,none⟩),.pointer (some ⟨u,0,none⟩),.pointer (some ⟨z,0,none⟩)] w fun e w'=>
   e=.returned (.tuple #[])/\RB w' y (qf ref) (str (mQ ref).2)/\(∃V,ZB w' z V/\w'.ownsRow w.heap.size 131 3 V (iR reads 5 0).length (lD (iR reads 5 0)))/\lQ w w' y z:=by
 have q:=laid ha;have j:=laid hb;clear ha hb;have T:=hy.lt;have G:=hz.lt;have Q:u<w.heap.size:=by have:=a_ hu;simpa using this
 generalize hX:str (mQ ref).2=X;generalize o:qf ref=Y;have d:=laid hX;have f:=laid o;clear hX o;generalize l:iR reads 5 0=U;have c:=laid l;clear l
 go_enter dL,dR
 go_wp2_with fail
 refine(FN ref _ (by omega)).mono ?_;rintro e w1 ⟨J,W,D⟩;rw[d.out,f.out]at J;obtain rfl:=J q.out;clear J W q d f;have R:RB w1 y a b:=hy.at (D.block y T);have Z:ZB w1 z v:=hz.at (D.block z G);have m:w1.cell? ⟨u,0,none⟩=some (.string reads):=by rw[(RZ D).1 u 0 Q];exact hu
 have c0:=R.c0;have c1:=R.c1;have f0:=R.fz 0;have f1:=R.fz 1;have M:=R.put Y X;obtain⟨_,_,K⟩:=vT (.string Y) (.string X) c0 c1;have p:=D.size;have C:=Z.at (K.block z (by omega) (by simpa using O));have L:=js (xS D _) K;clear D K;go_wp2_with fail
 generalize(w1.setCell ⟨y,0,none⟩ (.string Y)).setCell ⟨y,1,none⟩ (.string X)=w2 at *;refine(Ms reads _ (by omega)).mono ?_;rintro e w3 ⟨J,W,A⟩;rw[c.out]at J;obtain⟨V,rfl,H⟩:=J j.out;clear J W j c;obtain⟨va,cap,rfl⟩:∃va cap,V=.slice va U.length cap:=by
  rcases H.2 with⟨I,h2⟩|⟨g,cap,s,I,_⟩
  ·exact⟨none,0,by rw[I,h2]⟩
  ·exact⟨_,cap,I⟩
 have N:RB w3 y Y X:=M.at (A.block y M.lt);have F:ZB w3 z v:=C.at (A.block z C.lt);have c0:=F.c0;have f0:=F.fz 0;have E:=F.put (.slice va U.length cap);have K:=qi w3 z 0 (.slice va U.length cap);have S:=N.at (K.block y N.lt (by simpa using fun h=>O h.symm));have P:=js (xS A _) K;have r:=L.size;have B:(w3.setCell ⟨z,0,none⟩ (.slice va U.length cap)).ownsRow w.heap.size 131 3 (.slice va U.length cap) U.length (lD U):=
  Co (H.kept K (AB H z (.inl (by have:=C.lt;omega)))) (by omega)
 clear K A H;go_wp2
 go_end0
 exact⟨rfl,S,⟨_,E,B⟩,lQ.of L P⟩
theorem XU(ref reads:ByteArray)(x y u z:Nat)(a b:ByteArray)(v:ah)(w:ae)(I:ref.size<=400)(h2:reads.size<=600)
  (hx:w.cell? ⟨x,0,none⟩=some (.string ref))(W:w.cell? ⟨u,0,none⟩=some (.string reads))(T:RB w y a b)(V:ZB w z v)(h:u≠y)(G:z≠y)(A:(lU ref).2=true\/(kL reads 5 0).2=true):
  ao af 89 #[.pointer (some ⟨x,0,none⟩),.pointer (some ⟨y,0,none⟩),.pointer (some ⟨u,0,none⟩),.pointer (some ⟨z,0,none⟩)] w fun e w'=>
   e=.panicked (qz ((j9 ref reads).1:Int) ((j9 ref reads).2:Int))/\(∃a' b',RB w' y a' b')/\ZB w' z v/\lQ w w' y z:=by
 have F:=T.lt;have L:=V.lt;have Q:u<w.heap.size:=by have:=a_ W;simpa using this
 by_cases D:(lU ref).2=true
 ·have B:j9 ref reads=(2,(lU ref).1):=if_pos D;rw[B];have N:=laid D;clear A B D
  go_enter dL,dR
  go_wp2_with fail
  refine(FN ref _ (by omega)).mono ?_;rintro e w1 ⟨O,M,K⟩;obtain rfl:=M N.out;exact⟨rfl,rfl,⟨a,b,T.at (K.block y F)⟩,V.at (K.block z L),V_ K _ _⟩
 ·have hb:=A.resolve_left D;have B:j9 ref reads=(3,(kL reads 5 0).1):=by unfold j9;rw[if_neg D,if_pos hb]
  rw[B];rw[bg]at D;have N:=laid D;have E:=laid hb;clear A B D hb
  go_enter dL,dR
  go_wp2_with fail
  refine(FN ref _ (by omega)).mono ?_;rintro e w1 ⟨O,M,K⟩;generalize str (mQ ref).2=X at *;generalize qf ref=Y at *;obtain rfl:=O N.out;clear O M N;have H:RB w1 y a b:=T.at (K.block y F);have S:ZB w1 z v:=V.at (K.block z L);have q:w1.cell? ⟨u,0,none⟩=some (.string reads):=by rw[(RZ K).1 u 0 Q];exact W
  have c0:=H.c0;have c1:=H.c1;have f0:=H.fz 0;have f1:=H.fz 1;have C:=H.put Y X;obtain⟨_,_,U⟩:=vT (.string Y) (.string X) c0 c1;have Z:=K.size;have J:=S.at (U.block z (by omega) (by simpa using G));have P:=js (xS K _) U;clear K U;go_wp2_with fail
  refine(Ms reads _ (by omega)).mono ?_;rintro e w3 ⟨O,M,R⟩;obtain rfl:=M E.out;exact⟨rfl,rfl,⟨Y,X,C.at (R.block y C.lt)⟩,J.at (R.block z J.lt),lQ.of P (xS R _)⟩
theorem Wa(ref reads:ByteArray)(x y u z:Nat)(a b:ByteArray)(v:ah)(w:ae)(I:ref.size<=400)(h2:reads.size<=600)
  (hx:w.cell? ⟨x,0,none⟩=some (.string ref))(W:w.cell? ⟨u,0,none⟩=some (.string reads))(h:RB w y a b)(hz:ZB w z v)(M:u≠y)(T:z≠y)(G:(lU ref).2=false)(hb:(kL reads 5 0).2=false):
  ao af 41 #[.func (.func 89) #[] #[.pointer (some ⟨x,0,none⟩),.pointer (some ⟨y,0,none⟩),.pointer (some ⟨u,0,none⟩),.pointer (some ⟨z,0,none⟩)]] w fun e w'=>
   e=.returned (.agg #[.int .i64 0,.int .i64 0])/\RB w' y (qf ref) (str (mQ ref).2)/\(∃V,ZB w' z V/\w'.ownsRow w.heap.size 131 3 V (iR reads 5 0).length (lD (iR reads 5 0)))/\lQ w w' y z:=by
 have P:=laid G;have Q:=laid hb;clear G hb;have L:x<w.heap.size:=by have:=a_ hx;simpa using this
 have J:u<w.heap.size:=by have:=a_ W;simpa using this
 have N:=h.lt;have O:=hz.lt
 go_enter_defers Tryz.func41,akF
 go_wp2_with fail
 refine(Y9 ref reads x y u z a b v _ I h2 ?_ ?_ (h.at (aI _ _ N)) (hz.at (aI _ _ O)) M T P.out Q.out).mono ?_
 ·rw[cZ _ _ _ L];exact hx
 ·rw[cZ _ _ _ J];exact W
 rintro e w1 ⟨rfl,H,⟨V,D,K⟩,C⟩;have A:=C.block w.heap.size (by simp) (by omega) (by omega);rw[aM]at A;have n0:w1.cell? ⟨w.heap.size,0,none⟩=some (.int .i64 0):=by rw[au _ _ _ _ _ _ A];rfl
 have n1:w1.cell? ⟨w.heap.size,1,none⟩=some (.int .i64 0):=by rw[au _ _ _ _ _ _ A];rfl
 have z0:w1.frozen? ⟨w.heap.size,0,none⟩=false:=aW _ _ _ _ _ A;have Z:w1.frozen? ⟨w.heap.size,1,none⟩=false:=aW _ _ _ _ _ A;go_wp2
 obtain⟨m0,S,Y⟩:=vT (.int .i64 0) (.int .i64 0) n0 n1;have U:=H.at (Y.block y H.lt (by simp;omega));have B:=D.at (Y.block z D.lt (by simp;omega));have R:=Co (K.kept Y (AB K w.heap.size (.inl (by simp)))) (show w.heap.size<=_ by simp);have F:=lQ.new C Y;clear H D A n0 n1 z0 Z C Y K;refine leaves_cons (f:=61) (args:=#[.pointer (some ⟨w.heap.size,0,none⟩)]) (by simp) (by simp[go_sem]) ?_;refine(Ys _ _).mono ?_;rintro e E X ⟨rfl,rfl,rfl⟩;refine⟨.agg #[.int .i64 0,.int .i64 0],?_,rfl,U,⟨V,B,R⟩,F⟩;simp[bV,akG,go_sem,m0,S]
theorem V3(ref reads:ByteArray)(x y u z:Nat)(a b:ByteArray)(v:ah)(w:ae)(I:ref.size<=400)(h2:reads.size<=600)
  (hx:w.cell? ⟨x,0,none⟩=some (.string ref))(T:w.cell? ⟨u,0,none⟩=some (.string reads))(V:RB w y a b)(G:ZB w z v)(M:u≠y)(O:z≠y)(K:(lU ref).2=true\/(kL reads 5 0).2=true):
  ao af 41 #[.func (.func 89) #[] #[.pointer (some ⟨x,0,none⟩),.pointer (some ⟨y,0,none⟩),.pointer (some ⟨u,0,none⟩),.pointer (some ⟨z,0,none⟩)]] w fun e w'=>
   e=.returned (.agg #[.int .i64 ((j9 ref reads).1:Int),.int .i64 ((j9 ref reads).2:Int)])/\(∃a' b',RB w' y a' b')/\ZB w' z v/\lQ w w' y z:=by
 have Q:=laid K;clear K;have J:x<w.heap.size:=by have:=a_ hx;simpa using this
 have F:u<w.heap.size:=by have:=a_ T;simpa using this
 have L:=V.lt;have N:=G.lt
 go_enter_defers Tryz.func41,akF
 go_wp2_with fail
 refine(XU ref reads x y u z a b v _ I h2 ?_ ?_ (V.at (aI _ _ L)) (G.at (aI _ _ N)) M O Q.out).mono ?_
 ·rw[cZ _ _ _ J];exact hx
 ·rw[cZ _ _ _ F];exact T
 rintro e w1 ⟨rfl,⟨a',b',A⟩,U,P⟩;have R:=P.block w.heap.size (by simp) (by omega) (by omega);rw[aM]at R;have n0:w1.cell? ⟨w.heap.size,0,none⟩=some (.int .i64 0):=by rw[au _ _ _ _ _ _ R];rfl
 have n1:w1.cell? ⟨w.heap.size,1,none⟩=some (.int .i64 0):=by rw[au _ _ _ _ _ _ R];rfl
 have z0:w1.frozen? ⟨w.heap.size,0,none⟩=false:=aW _ _ _ _ _ R;have E:w1.frozen? ⟨w.heap.size,1,none⟩=false:=aW _ _ _ _ _ R;refine leaves_cons (f:=61) (args:=#[.pointer (some ⟨w.heap.size,0,none⟩)]) (by simp) (by simp[go_sem]) ?_;refine(Yr _ _ _ _ _ [] _ n0 n1 z0 E).mono ?_;rintro e q Z ⟨rfl,rfl,rfl⟩;have S:w.heap.size<w1.heap.size:=by have:=a_ n0;simpa using this
 obtain⟨m0,X,Y⟩:=vT (.int .i64 ((j9 ref reads).1:Int)) (.int .i64 ((j9 ref reads).2:Int)) n0 n1;have H:=A.at (Y.block y A.lt (by simp;omega));have D:=U.at (Y.block z U.lt (by simp;omega));have B:=lQ.new P Y;generalize W:(w1.setCell ⟨w.heap.size,0,none⟩ (.int .i64 ((j9 ref reads).1:Int))).setCell ⟨w.heap.size,1,none⟩ (.int .i64 ((j9 ref reads).2:Int))=w2 at *;have C:w.heap.size<w2.heap.size:=by have:=Y.size;omega
 refine⟨.agg #[.int .i64 ((j9 ref reads).1:Int),.int .i64 ((j9 ref reads).2:Int)],?_,rfl,⟨a',b',H.at (aI _ _ H.lt)⟩,D.at (aI _ _ D.lt),B.alloc _⟩;simp[bV,akG,go_sem,m0,X,C]
def He(w:ae)(ref reads:ByteArray)(E P:Int)(K:List (ByteArray×ByteArray×ByteArray))(e:Ending)(w':ae):=
 ∃a b V,e=.returned (.tuple #[.agg #[.string a,.string b],V,.agg #[.int .i64 E,.int .i64 P]])/\(∃va n cap,V=.slice va n cap)/\ai w.heap.size w w'/\
  (E=0->a=qf ref/\b=str (mQ ref).2/\w'.ownsRow w.heap.size 131 3 V K.length (lD K))
theorem FB.put{c p:Int}(h:FB w m c p)(c' p':Int):FB ((w.setCell ⟨m,0,none⟩ (.int .i64 c')).setCell ⟨m,1,none⟩ (.int .i64 p')) m c' p':=by
 have I:FB (w.setCell ⟨m,0,none⟩ (.int .i64 c')) m c' p:=by unfold FB at *;rw[bN w m 0 _ _ _ h];rfl
 unfold FB at *;rw[bN _ m 1 _ _ _ I];rfl
theorem agt{w1:ae}{o0 o1 o2 o3 o4:Obj}(h:lQ (((((w.alloc o0).alloc o1).alloc o2).alloc o3).alloc o4) w1 (w.heap.size+1+1) (w.heap.size+1+1+1)):ai w.heap.size w w1/\w1.heap[w.heap.size+1+1+1+1]?=some o4/\w.heap.size+5<=w1.heap.size:=by
 have hb:=h.below (B:=w.heap.size) (by simp;omega) (by omega) (by omega);refine⟨((((((aB _ _).alloc (ar _) o0).alloc (by simp) o1).alloc (by simp;omega) o2).alloc (by simp;omega) o3).alloc (by simp;omega) o4).trans hb,?_,by have:=h.size;simp_all⟩;rw[h.block _ (by simp) (by omega) (by omega)];have e:w.heap.size+1+1+1+1=((((w.alloc o0).alloc o1).alloc o2).alloc o3).heap.size:=by simp
 rw[e,aM]
theorem acu(w:ae)(K o1:Obj)(o3 o4:Obj):RB (((((w.alloc K).alloc o1).alloc (.cells #[.string ⟨#[]⟩,.string ⟨#[]⟩] 68)).alloc o3).alloc o4) (w.heap.size+1+1) ⟨#[]⟩ ⟨#[]⟩:=by
 unfold RB;rw[aI _ _ (by simp),aI _ _ (by simp)];have e:w.heap.size+1+1=((w.alloc K).alloc o1).heap.size:=by simp
 rw[e,aM]
theorem acv(w:ae)(K o1 o2:Obj)(o4:Obj)(v:ah):ZB (((((w.alloc K).alloc o1).alloc o2).alloc (.cells #[v] 90)).alloc o4) (w.heap.size+1+1+1) v:=by
 unfold ZB;rw[aI _ _ (by simp)];have e:w.heap.size+1+1+1=(((w.alloc K).alloc o1).alloc o2).heap.size:=by simp
 rw[e,aM]
theorem AD{a:Addr}(h:w.cell? a=some v):w.setCell a v=w:=by
 have e:(w.heap.modify a.block fun
   |.cells c Y frozen=>.cells (if a.spot.isSome then c else c.setIfInBounds a.off v) Y frozen
   |o=>o)=w.heap:=by
  apply Array.ext
  ·simp
  ·intro i I h2;rw[Array.getElem_modify];split
   ·rename_i K;subst K;unfold aJ at h;rw[aY h2]at h;generalize w.heap[a.block]=o at *;cases o with
    |cells c Y frozen=>
     simp only at h⊢;split at h
     ·simp at h
     ·rename_i H;rw[if_neg H];congr 1;apply Array.ext
      ·simp
      ·intro j D R;rw[Array.getElem_setIfInBounds];split
       ·simp_all
       ·rfl
    |_=>simp at h
   ·rfl
 exact congrArg (fun h=>({w with heap:=h})) e
theorem acw{B:Nat}{e:bp}{k:Nat}{xs:List _}(h:w.ownsRow B e k v n xs):w.drew.ownsRow B e k v n xs:=h
theorem Wb(ref reads:ByteArray)(w:ae)(I:ref.size<=400)(h2:reads.size<=600):
  ao af 58 #[.string ref,.string reads] w fun e w'=>He w ref reads ((j9 ref reads).1:Int) ((j9 ref reads).2:Int) (iR reads 5 0) e w':=by
 have u:∀(fn:Fn) (first cap:Array ah) (w:ae),(eK fn first cap).run af w=.ok (.func fn first cap) w:=fun _ _ _ _=>rfl;have Q:∀W:ae,W.cell? ⟨w.heap.size,0,none⟩=some (.string ref)->W.cell? ⟨w.heap.size+1,0,none⟩=some (.string reads)->RB W (w.heap.size+1+1) ⟨#[]⟩ ⟨#[]⟩->ZB W (w.heap.size+1+1+1) (.slice none 0 0)->w.heap.size<=W.heap.size->
   ao af 41 #[.func (.func 89) #[] #[.pointer (some ⟨w.heap.size,0,none⟩),.pointer (some ⟨w.heap.size+1+1,0,none⟩),.pointer (some ⟨w.heap.size+1,0,none⟩),.pointer (some ⟨w.heap.size+1+1+1,0,none⟩)]] W fun e w'=>
    e=.returned (.agg #[.int .i64 ((j9 ref reads).1:Int),.int .i64 ((j9 ref reads).2:Int)])/\lQ W w' (w.heap.size+1+1) (w.heap.size+1+1+1)/\
    ∃a b V,RB w' (w.heap.size+1+1) a b/\ZB w' (w.heap.size+1+1+1) V/\(∃va n cap,V=.slice va n cap)/\(((j9 ref reads).1:Int)=0->a=qf ref/\b=str (mQ ref).2/\w'.ownsRow W.heap.size 131 3 V (iR reads 5 0).length (lD (iR reads 5 0))):=by
  intro W c0 c1 L M hW;by_cases Y:(lU ref).2=true\/(kL reads 5 0).2=true
  ·refine(V3 ref reads _ _ _ _ _ _ _ W I h2 c0 c1 L M (by omega) (by omega) Y).mono ?_;rintro e w' ⟨rfl,⟨a,b,j⟩,z,X⟩;refine⟨rfl,X,a,b,_,j,z,⟨_,_,_,rfl⟩,fun h=>?_⟩;exfalso;unfold j9 at h;by_cases F:(lU ref).2=true
   ·rw[if_pos F]at h;simp at h
   ·rw[if_neg F,if_pos (Y.resolve_left F)]at h;simp at h
  ·have F:(lU ref).2=false:=by simpa using fun h=>Y (.inl h)
   have hb:(kL reads 5 0).2=false:=by simpa using fun h=>Y (.inr h)
   have r:j9 ref reads=(0,0):=by unfold j9;rw[F,hb];rfl
   rw[r];refine(Wa ref reads _ _ _ _ _ _ _ W I h2 c0 c1 L M (by omega) (by omega) F hb).mono ?_;rintro e w' ⟨rfl,j,⟨V,z,X⟩,y⟩;refine⟨rfl,y,_,_,V,j,z,?_,fun _=>⟨rfl,rfl,X⟩⟩;rcases X.2 with⟨I,h2⟩|⟨g,cap,l,I,_⟩
   ·exact⟨none,0,0,I⟩
   ·exact⟨_,_,cap,I⟩
 have N:=laid Q;clear Q;generalize o:((j9 ref reads).1:Int)=E at *;generalize hP:((j9 ref reads).2:Int)=P at *;generalize p:iR reads 5 0=T at *;clear o hP p
 go_enter dK,dQ
 go_wp2_with fail
 refine(N.out _ (by simp[go_sem]) (by simp[go_sem]) (acu w _ _ _ _) (acv w _ _ _ _ _) (by simp;omega)).mono ?_;rintro e w1 ⟨rfl,S,a,b,V,L,M,⟨va,n,cap,rfl⟩,R⟩;obtain⟨D,d,x⟩:=agt S;have J:FB w1 (w.heap.size+1+1+1+1) 0 0:=d;have c:Hid (E=0->a=qf ref/\b=str (mQ ref).2/\w1.ownsRow (w.heap.size+5) 131 3 (.slice va n cap) T.length (lD T)):=laid fun h=>by
  obtain⟨g1,O,C⟩:=R h;refine⟨g1,O,?_⟩;simpa using C
 clear S d R N;have f0:=J.c0;have f1:=J.c1;have G:=J.fz 0;have q:=J.fz 1;have K:=J.put E P;obtain⟨_,_,H⟩:=vT (.int .i64 E) (.int .i64 P) f0 f1;have A:=L.at (H.block _ L.lt (by simp));have B:=M.at (H.block _ M.lt (by simp));have U:=D.grown H D.size (by intro k hk;cases hk;omega);have Z:Hid (E=0->a=qf ref/\b=str (mQ ref).2/\((w1.setCell ⟨w.heap.size+1+1+1+1,0,none⟩ (.int .i64 E)).setCell ⟨w.heap.size+1+1+1+1,1,none⟩ (.int .i64 P)).ownsRow (w.heap.size+5) 131 3 (.slice va n cap) T.length (lD T)):=laid fun h=>by
  obtain⟨g1,O,C⟩:=c.out h;exact⟨g1,O,C.kept H (AB C _ (.inl (by omega)))⟩
 have f:=H.size;clear H D c;go_wp2_with fail
 generalize(w1.setCell ⟨w.heap.size+1+1+1+1,0,none⟩ (.int .i64 E)).setCell ⟨w.heap.size+1+1+1+1,1,none⟩ (.int .i64 P)=w2 at *;clear f0 f1 G q;have a0:=A.c0;have a1:=A.c1;have b0:=B.c0;have c0:=K.c0;have c1:=K.c1;have m:=A.fz 0;have t:=A.fz 1;have i:=B.fz 0;have Fc:=K.fz 0;have zc1:=K.fz 1;have s1:=AD a0;have s2:=AD a1;have s3:=AD b0;have s4:=AD c0;have s5:=AD c1;have s:=K.lt;clear L M J A B K
 go_region
 all_goals
  go_wp2
  refine cx (v:=.tuple #[.agg #[.string a,.string b],.slice va n cap,.agg #[.int .i64 E,.int .i64 P]]) ?_ rfl ?_
  ·simp[bV,dU,go_sem,a0,a1,b0,c0,c1]
  ·exact⟨a,b,.slice va n cap,rfl,⟨_,_,_,rfl⟩,U.drew,fun h=>by
    obtain⟨g1,O,C⟩:=Z.out h;exact⟨g1,O,Co (acw C) (by omega)⟩⟩
theorem WC(ref reads:ByteArray)(w:ae)(I:ref.size<=aX)(h2:reads.size<=aX)(K:400<ref.size\/600<reads.size):
  ao af 58 #[.string ref,.string reads] w fun e w'=>He w ref reads 1 0 (iR reads 5 0) e w':=by
 have D:∀(fn:Fn) (first cap:Array ah) (w:ae),(eK fn first cap).run af w=.ok (.func fn first cap) w:=fun _ _ _ _=>rfl;unfold aX at I h2;generalize Y:iR reads 5 0=R at *;clear Y;by_cases H:400<ref.size
 ·clear K
  go_enter dK,dQ
  go_wp2
  refine cx (v:=.tuple #[.agg #[.string ⟨#[]⟩,.string ⟨#[]⟩],.slice none 0 0,.agg #[.int .i64 1,.int .i64 0]]) ?_ rfl ?_
  ·simp[bV,dU,go_sem]
  ·refine⟨_,_,_,rfl,⟨_,_,_,rfl⟩,?_,fun h=>by simp at h⟩;exact((((((aB _ _).alloc (ar _) _).alloc (by simp) _).alloc (by simp;omega) _).alloc (by simp;omega) _).alloc (by simp;omega) _)
 ·have hb:=K.resolve_left H;clear K
  go_enter dK,dQ
  go_wp2
  refine cx (v:=.tuple #[.agg #[.string ⟨#[]⟩,.string ⟨#[]⟩],.slice none 0 0,.agg #[.int .i64 1,.int .i64 0]]) ?_ rfl ?_
  ·simp[bV,dU,go_sem]
  ·refine⟨_,_,_,rfl,⟨_,_,_,rfl⟩,?_,fun h=>by simp at h⟩;exact((((((aB _ _).alloc (ar _) _).alloc (by simp) _).alloc (by simp;omega) _).alloc (by simp;omega) _).alloc (by simp;omega) _)
theorem W8(ref reads:ByteArray)(w:ae)(I:ref.size<=aX)(h2:reads.size<=aX):
  ao af 58 #[.string ref,.string reads] w fun e w'=>He w ref reads (mS ref reads) (yF ref reads) (iR reads 5 0) e w':=by
 by_cases Y:400<ref.size\/600<reads.size
 ·have K:mS ref _=1:=if_pos Y;have H:yF ref _=0:=if_pos Y;rw[K,H];exact WC ref _ w I h2 Y
 ·have K:mS ref _=((j9 ref _).1):=if_neg Y;have H:yF ref _=((j9 ref _).2):=if_neg Y;rw[K,H];exact Wb ref _ w (by omega) (by omega)
def pn(len X k st b:Nat):=min (b *st+st+len+k) X
def looked(P X:ByteArray)(k q st:Nat)(t:Int)(b:Nat):Bool:=decide (t<=0)||decide (t<=(sb P (X.extract (b *st) (pn P.size X.size k st b)) q:Int))
theorem mN(n:Nat)(h:n<=9999):1<=(gJ n).length/\(gJ n).length<=4:=by
 by_cases I:n<=9
 ·rw[ql n I];simp
 rw[rQ n I];by_cases h2:n/10<=9
 ·rw[ql _ h2];simp
 rw[rQ _ h2];by_cases Y:n/10/10<=9
 ·rw[ql _ Y];simp
 rw[rQ _ Y,ql _ (by omega)];simp
def stretches(X st:Nat):=(X+st-1)/st
theorem BW(X st b:Nat)(K:1<=st):b *st<X↔b<stretches X st:=by
 unfold stretches;rw[Nat.lt_div_iff_mul_lt (by omega)];omega
def oR(len k q:Nat):Int:=(len:Int)-(q:Int)+1-((k *q:Nat):Int)
theorem M6(s:ByteArray):∀f acc st,acc.length<=200->st.1<=s.size->(nM s f acc st).2.length<=200
 |0,acc,st,h,_=>h
 |f+1,acc,st,h,Y=>by
  simp[nM];split
  ·refine M6 s f _ _ ?_ (uj s _ _ Y).2;have:=Hv s (200-acc.length) _ Y;have:=z7 s (200-acc.length) st.1;rw[aH];omega
  omega
theorem Y_(s:ByteArray):(mQ s).2.length<=200:=M6 s _ _ _ (by simp) (vL s 62 0 (by omega)).2
theorem y7(s:ByteArray)(i:Nat)(h:i<s.size):s.extract i (i+1)=str [at8 s i]:=by
 apply ByteArray.ext;apply Array.ext';rw[ByteArray.data_extract,Array.toList_extract];unfold str at8;have Y:=by omega
 simp only[List.extract_eq_take_drop];rw[dx Y,cK,aO Y];simp
def iG(s:ByteArray)
 |0=>([],0)
 |i+1=>if i+1=s.size\/at8 s (i+1)≠at8 s i then((iG s i).1++gJ ((iG s i).2+1)++[at8 s i],0)else((iG s i).1,(iG s i).2+1)
def nO(s:ByteArray):=(iG s s.size).1
theorem HY(s:ByteArray):∀i,i<=9000->(iG s i).2<=i/\(iG s i).1.length<=5 *i
 |0,_=>by simp[iG]
 |i+1,h=>by
  have Y:=HY s i (by omega);have hd:=mN ((iG s i).2+1) (by omega);rw[iG];split
  ·simp;omega
  ·simp only;omega
theorem acx{s:ByteArray}{i:Nat}(h:i+1=s.size\/at8 s (i+1)≠at8 s i):iG s (i+1)=((iG s i).1++gJ ((iG s i).2+1)++[at8 s i],0):=by rw[iG,if_pos h]
theorem aeH{s:ByteArray}{i:Nat}(h:¬(i+1=s.size\/at8 s (i+1)≠at8 s i)):iG s (i+1)=((iG s i).1,(iG s i).2+1):=by rw[iG,if_neg h]
theorem toNat_ne{a b:UInt8}(h:a≠b):(a.toNat != (b.toNat:Int))=true:=by
 rw[bne_iff_ne];intro Y;exact h (UInt8.toNat.inj (by omega))
theorem toNat_eq{a b:UInt8}(h:a=b):((a.toNat:Int) != b.toNat)=false:=by simp_all
theorem yt(a b:ByteArray)(K:a.size<=100000000)(hb:b.size<=100000000)(w:ae):(Op.stringOp .add a b).run af w=.ok (.string (a++b)) w:=run_string_add_sum (w:=w) a b (by omega)
structure Df where
 o:List UInt8
 i:Nat
 j:Nat
 n:Nat
def mc(p t s:ByteArray)(x:Nat)(st:Df):Df:=
 if at8 s x=77 then(if ag (at8 p st.i) (at8 t st.j)=true then⟨st.o,st.i+1,st.j+1,st.n+1⟩else⟨st.o++gJ st.n++[at8 t st.j],st.i+1,st.j+1,0⟩)
 else if at8 s x=73 then⟨st.o,st.i+1,st.j,st.n⟩
 else if x=0\/at8 s (x-1)≠68 then⟨st.o++gJ st.n++[94]++[at8 t st.j],st.i,st.j+1,0⟩else⟨st.o++[at8 t st.j],st.i,st.j+1,st.n⟩
def gF(p t s:ByteArray):Nat->Df
 |0=>⟨[],0,0,0⟩
 |x+1=>mc p t s x (gF p t s x)
def jL(p t s:ByteArray):=(gF p t s s.size).o++gJ (gF p t s s.size).n
theorem CU(p t s:ByteArray):∀x,x<=9000->(gF p t s x).i<=x/\(gF p t s x).j<=x/\(gF p t s x).n<=x/\(gF p t s x).o.length<=6 *x
 |0,_=>by simp[gF]
 |x+1,h=>by
  have Y:=CU p t s x (by omega);have hd:=mN (gF p t s x).n (by omega);simp only[gF,mc];split
  ·split
   ·simp only;omega
   ·simp;omega
  ·split
   ·simp only;omega
   ·split
    ·simp;omega
    ·simp only[aH,bY,bD];omega
def Fits(p t s:ByteArray):=∀x,x<s.size->(at8 s x=77->(gF p t s x).i<p.size/\(gF p t s x).j<t.size)/\(at8 s x≠77->at8 s x≠73->(gF p t s x).j<t.size)
theorem acy(a:UInt8)(n:Nat)(K:n<256):(a.toNat==(n:Int))=decide (a=cw n):=by
 by_cases h:a=cw n
 ·rw[decide_eq_true h,h];simp only[beq_iff_eq];rw[eg];omega
 ·rw[decide_eq_false h];simp;intro Y;apply h;apply UInt8.toNat.inj;rw[eg];omega
def qg(c:UInt8):=c==77||c==73
def oS(c:UInt8):=c != 73
theorem ny(l:List _)(x:Nat):at8 (str l) x=l.getD x 0:=rfl
theorem CV(s:ByteArray)(x:Nat)(h:x<s.size):s.data.toList.take (x+1)=s.data.toList.take x++[at8 s x]:=by
 have Y:x<s.data.toList.length:=by simpa using h
 rw[dC,aO Y];unfold at8;rw[cK,aO Y];rfl
theorem Aq(p t s:ByteArray):∀x,x<=s.size->(gF p t s x).i=(s.data.toList.take x).countP qg/\(gF p t s x).j=(s.data.toList.take x).countP oS
 |0,_=>by simp[gF]
 |x+1,h=>by
  have R:=Aq p t s x (by omega);rw[CV s x (by omega),bh,bh];simp only[gF,mc];by_cases K:at8 s x=77
  ·rw[if_pos K];have H:[at8 s x].countP qg=1:=by rw[K];rfl
   have D:[at8 s x].countP oS=1:=by rw[K];rfl
   split<;>simp only<;>omega
  ·rw[if_neg K];by_cases Y:at8 s x=73
   ·rw[if_pos Y];have H:[at8 s x].countP qg=1:=by rw[Y];rfl
    have D:[at8 s x].countP oS=0:=by rw[Y];rfl
    simp_all
   ·rw[if_neg Y];have H:[at8 s x].countP qg=0:=by simp[qg,K,Y]
    have D:[at8 s x].countP oS=1:=by simp[oS,Y]
    split<;>simp only<;>omega
theorem vv(p t:ByteArray):∀(f i j:Nat),i+j<=f->(iC p t f i j).countP qg=i/\(iC p t f i j).countP oS=j
 |0,i,j,h=>by
  have I:i=0:=by omega
  have h2:j=0:=by omega
  subst I h2;simp[iC]
 |f+1,i,j,h=>by
  rw[iC];by_cases A:i=0/\j=0
  ·simp_all
  ·rw[if_neg A];by_cases H:oo p t i j=true
   ·rw[if_pos H];have U:=Ag H;have Y:=vv p t f (i-1) (j-1) (by omega);rw[bh,bh,Y.1,Y.2];have D:[(77:UInt8)].countP qg=1:=rfl;have R:[(77:UInt8)].countP oS=1:=rfl;omega
   ·rw[if_neg H];by_cases K:nF p t i j=true
    ·rw[if_pos K];have U:=Ah K;have Y:=vv p t f (i-1) j (by omega);rw[bh,bh,Y.1,Y.2];have D:[(73:UInt8)].countP qg=1:=rfl;have R:[(73:UInt8)].countP oS=0:=rfl;omega
    ·rw[if_neg K];have U:=z8 (by simpa using K) A;have Y:=vv p t f i (j-1) (by omega);rw[bh,bh,Y.1,Y.2];have D:[(68:UInt8)].countP qg=0:=rfl;have R:[68].countP oS=1:=rfl;omega
theorem Ow(p t:ByteArray):Fits p t (str (gO p t)):=by
 intro x hx;have C:=vv p t _ p.size t.size (ar _);have H:=Aq p t (str (gO p t)) x (by omega);have Y:=CV _ x hx;have D:∀f,((str (gO p t)).data.toList.take (x+1)).countP f<=(gO p t).countP f:=fun f=>(List.take_sublist _ _).countP_le;have I:=D qg;have h2:=D oS;have A:gO p t=iC p t _ _ _:=rfl;rw[Y,bh]at I h2;rw[A]at I h2;rw[H.1,H.2];rw[A]at *;refine⟨fun K=>?_,fun K R=>?_⟩
 ·rw[K]at I h2;have B:[77].countP qg=1:=rfl;have U:[77].countP oS=1:=rfl;omega
 ·have U:[at8 (str (iC p t (p.size+t.size) p.size t.size)) x].countP oS=1:=by simp[oS,R]
  omega
def p9(s:ByteArray)
 |0=>[]
 |x+1=>p9 s x++[at8 s (s.size-1-x)]
def jP(s:ByteArray):=p9 s s.size
theorem Hf(s:ByteArray):∀x,(p9 s x).length=x
 |0=>rfl
 |x+1=>by rw[p9,aH,Hf s x];rfl
theorem Hg(s:ByteArray):∀x,x<=s.size->p9 s x=(s.data.toList.drop (s.size-x)).reverse
 |0,_=>by simp[p9]
 |x+1,h=>by
  rw[p9,Hg s x (by omega)];have Y:s.size-(x+1)<s.data.toList.length:=by simp;omega
  rw[dx Y,List.reverse_cons,show s.size-(x+1)+1=s.size-x by omega];unfold at8;rw[show s.size-1-x=s.size-(x+1) by omega,cK,aO Y];rfl
theorem CG(s:ByteArray):jP s=s.data.toList.reverse:=by
 unfold jP;rw[Hg s _ (ar _)];simp
def pE(C:Array _)(n k:Nat):=(Array.range C.size).map fun x=>if x<n/\(x<k\/n<=x+k)then C.getD (n-1-x) ak else C.getD x ak
theorem te(C:Array _)(n k:Nat):(pE C n k).size=C.size:=by simp[pE]
theorem tj(C:Array _)(n k x:Nat)(h:x<C.size):(pE C n k)[x]?=some (if x<n/\(x<k\/n<=x+k)then C.getD (n-1-x) ak else C.getD x ak):=by
 simp[pE,h]
theorem acz(C:Array _)(n:Nat):pE C n 0=C:=by
 apply Array.ext
 ·exact te C n 0
 ·intro i I h2;have:=tj C n 0 i h2;rw[aY I]at this;rw[Option.some.inj this,if_neg (by omega)];simp[h2]
theorem acA(C:Array ah)(n k:Nat)(A:n<=C.size)(hk:k+1+k<n):((pE C n k).setIfInBounds k (C.getD (n-1-k) ak)).setIfInBounds (n-1-k) (C.getD k ak)=pE C n (k+1):=by
 apply Array.ext
 ·simp[te]
 ·intro i I h2;have Y:i<C.size:=by rw[te]at h2;exact h2
  have H:=tj C n (k+1) i Y;rw[aY h2]at H;rw[Option.some.inj H];have K:=tj C n k i Y;by_cases a1:i=n-1-k
  ·subst a1;rw[eC,if_pos (by omega),show n-1-(n-1-k)=k by omega]
  ·rw[eB (by simp_all) (fun h=>a1 h.symm)];by_cases a2:i=k
   ·subst a2;rw[eC,if_pos (by omega)]
   ·rw[eB (by rw[te];exact Y) (fun h=>a2 h.symm)];rw[aY (by rw[te];exact Y)]at K;rw[Option.some.inj K];by_cases c:i<n/\(i<k\/n<=i+k)
    ·rw[if_pos c,if_pos (by omega)]
    ·rw[if_neg c,if_neg (by omega)]
theorem x5{g k:Nat}{c:Array _}{e:bp}{fz:Nat×Nat}(v:ah)(h:w.heap[g]?=some (.cells c e fz)):(w.setCell ⟨g,k,none⟩ v).heap[g]?=some (.cells (c.setIfInBounds k v) e fz):=by
 have K:=(bq.1 h).1;have Y:w.heap[g]=.cells c e fz:=by simp_all
 simp only[World.setCell];rw[aY (by simp_all),Array.getElem_modify_self,Y];rfl
theorem yb{g k:Nat}{c:Array _}{e:bp}{fz:Nat×Nat}(h:w.heap[g]?=some (.cells c e fz))(hk:¬(fz.1<=k/\k<fz.2)):w.frozen? ⟨g,k,none⟩=false:=by
 simp[ak0,h];omega
theorem M7(C:Array ah)(g n cap:Nat)(fz:Nat×Nat)(w:ae)(hn:n<=1000)(V:n<=C.size)(A:∀k,k<n->¬(fz.1<=k/\k<fz.2))(hb:∀x,x<n->∃z:Int,C.getD x ak=.int .u8 z)(hw:w.heap[g]?=some (.cells C 5 fz)):
  ao af 148 #[.slice (some ⟨g,0,none⟩) n cap] w fun e w'=>(∃v,e=.returned v)/\w'.heap[g]?=some (.cells (pE C n n) 5 fz)/\w.grownBy w' (some g):=by
 have J:=laid hb;have L:=laid A;clear A;have B:Hid (∀(W:ae) (k:Nat),n<=k+1+k->W.heap[g]?=some (.cells (pE C n k) 5 fz)->W.heap[g]?=some (.cells (pE C n n) 5 fz)):=laid fun W k hk h=>by
  rw[h];congr 2;apply Array.ext
  ·simp[te]
  ·intro i I h2;have O:i<C.size:=by rw[te]at h2;exact h2
   have M:=tj C n k i O;have N:=tj C n n i O;rw[aY I]at M;rw[aY h2]at N;rw[Option.some.inj M,Option.some.inj N];by_cases c:i<n
   ·by_cases c2:i<k\/n<=i+k
    ·rw[if_pos ⟨c,c2⟩,if_pos ⟨c,.inl c⟩]
    ·rw[if_neg (by omega),if_pos ⟨c,.inl c⟩,show n-1-i=i by omega]
   ·rw[if_neg (by omega),if_neg (by omega)]
 have S:=laid hw;clear hb hw
 go_enter Tryz.func148,Tryz.ntmps148
 go_wp2
 go_loopw [2,3] (fun iv G wr=>∃k:Nat,iv=.int .i64 (k:Int)/\G=.int .i64 ((n:Int)-1-(k:Int))/\k<=n/\wr.heap[g]?=some (.cells (pE C n k) 5 fz)/\w.grownBy wr (some g)) (fun iv _ _=>n-(intOf iv).toNat)
 case atStart=>exact⟨0,rfl,by go_num,bT _,by rw[acz];exact S.out,World.grownBy.refl _ _⟩
 case round=>
  obtain⟨k,rfl,rfl,E,K,D⟩:=hrel;by_cases F:k+1+k<n
  ·have c1:(k:Int)<(n:Int)-1-(k:Int):=by omega
   obtain⟨m,U⟩:∃m:Nat,m=n-1-k:=⟨_,rfl⟩;have H:(n:Int)-1-(k:Int)=(m:Int):=by omega
   rw[H];rw[H]at c1;have s1:wr.cell? ⟨g,k,none⟩=some (C.getD k ak):=by
    rw[au wr g k _ _ _ K,tj C n k k (by omega),if_neg (by omega)]
   have q:wr.cell? ⟨g,m,none⟩=some (C.getD m ak):=by
    rw[au wr g m _ _ _ K,tj C n k m (by omega),if_neg (by omega)]
   have l:wr.frozen? ⟨g,k,none⟩=false:=yb K (L.out k (by omega));have z2:wr.frozen? ⟨g,m,none⟩=false:=yb K (L.out m (by omega));have j:(k:Int)<(n:Int):=by omega
   have d:(m:Int)<(n:Int):=by omega
   have f:bW.wrap ((m:Int)-1)=(m:Int)-1:=dt _ (by omega);obtain⟨X,hX⟩:=J.out k (by omega);obtain⟨Y,R⟩:=J.out m (by omega);have Q:Hid ((((wr.setCell ⟨g,k,none⟩ (.int .u8 Y)).setCell ⟨g,m,none⟩ (.int .u8 X)).drew).heap[g]?=some (.cells (pE C n (k+1)) 5 fz)):=laid (by
    have I:=x5 (k:=m) (.int .u8 X) (x5 (k:=k) (.int .u8 Y) K);rw[<-hX,<-R,U,acA C n k V F]at I;rw[<-hX,<-R,U];exact I)
   rw[hX]at s1;rw[R]at q;have P:=laid U;have Z:k≠m:=by omega
   clear U H hX R K B;go_wp2_with fail
   go_region
   go_wp2
   go_roundw
   case rel=>go_light;exact⟨k+1,by go_num,by have:=P.out;congr 1;omega,by omega,Q.out,js D (js (js (qi wr g k _) (qi _ g m _)) (nk _ 1 _))⟩
   case measure=>go_light;simp[intOf];omega
  ·have c1:¬(k:Int)<(n:Int)-1-(k:Int):=by omega
   have T:=laid (B.out wr k (by omega) K);clear B K;go_wp2
   go_end0
   exact⟨⟨_,rfl⟩,T.out,D⟩
theorem aaB(l:List UInt8)(m:Nat):pE ((l.map bv).toArray++cC m (.int .u8 0)) l.length l.length=(l.reverse.map bv).toArray++cC m (.int .u8 0):=by
 apply Array.ext
 ·simp[te]
 ·intro i I h2;have K:=by rw[te]at I;exact I
  have Y:=tj _ l.length l.length i K;rw[aY I]at Y;rw[Option.some.inj Y];by_cases c:i<l.length
  ·rw[if_pos ⟨c,.inl c⟩];simp[di,c,show l.length-1-i<l.length by omega];omega
  ·rw[if_neg (by omega)];rw[di,dif_pos K];simp[eA,c]
theorem Mt(s:ByteArray)(w:ae)(M:s.size<=1000):
  ao af 129 #[.string s] w fun e w'=>e=.returned (.string (str (jP s)))/\ai w.heap.size w w':=by
 have F:=fun w:ae=>run_bytes_of_string (P:=af) w 9 79 5 s aQ bA bL
 go_enter Tryz.func129,Tryz.ntmps129
 go_wp2_with fail
 have R:bytesRow s (c_ w s.size 0 5)=(s.data.toList.map bv).toArray++cC (c_ w s.size 0 5-s.size) (ej .u8 0):=by
  unfold bytesRow;congr 1;apply Array.ext<;>simp[bv]
 have H:s.data.toList.length=s.size:=by simp
 rw[R];have D:=fun o=>aM w.drew o;refine(M7 _ w.heap.size s.size _ _ _ M (by simp) (fun k hk=>by simp;omega) (fun x hx=>?_) (D _)).mono ?_
 ·have U:x<s.data.size:=hx;have J:x<((s.data.toList.map bv).toArray++cC (c_ w s.size 0 5-s.size) (ej .u8 0)).size:=by simp;omega
  rw[di,dif_pos J];simp[eA,hx,U,bv]
 rintro e w2 ⟨⟨v,rfl⟩,h2,A⟩;rw[<-H,aaB]at h2;have I:=by
  have:=run_convert_bytes_back (P:=af) w2 79 9 5 ⟨w.heap.size,0,none⟩ (c_ w s.size 0 5) (jP s) bA bL aQ (fun j B=>?_)
  ·rw[show(jP s).length=s.size by rw[CG];simp]at this;exact this
  ·rw[CG]at B;have C:(⟨w.heap.size,0,none⟩:Addr).add j=⟨w.heap.size,j,none⟩:=by unfold Addr.add;split<;>simp_all
   rw[C,au w2 w.heap.size j _ _ _ h2];have K:=B;rw[Array.getElem?_append_left (by simpa using K),eW,eV,aO K];simp only[Option.map_some,bv];congr 4;simp only[CG]
 have Y:ai w.heap.size w w2:=by
  refine Below.grown ((Go.below_drewN (aB _ _) 1).alloc (ar _) _) A (by simp) ?_;intro k e;cases e;exact ar _
 go_wp2
 go_ret
 exact⟨rfl,Y⟩
theorem IA:(af.info? 131).map (·.size)=some 3:=by kernel_rfl
theorem Za(rn rb rm:ByteArray)(w:ae)(hb:rb.size<=200)(T:rm.size<=1000):
  ao af 112 #[.agg #[.string rn,.string rb,.string rm]] w fun e w'=>e=.returned (.agg #[.string rn,.string (iA rb 0),.string (str (jP rm))])/\ai w.heap.size w w':=by
 have Q:=laid (fun W:ae=>abn rb W hb);have P:=laid (fun W:ae=>Mt rm W T);generalize iA rb 0=OB at *;generalize str (jP rm)=O at *
 go_enter Tryz.func112,Tryz.ntmps112
 go_wp2_with fail
 obtain⟨w0,R,S⟩:∃w0:ae,((w.alloc (.cells #[.string rn,.string rb,.string rm] 131)).alloc (.cells #[.string ⟨#[]⟩,.string ⟨#[]⟩,.string ⟨#[]⟩] 131))=w0/\w0.heap.size=w.heap.size+2:=⟨_,rfl,by simp⟩;have F:w0.heap[w.heap.size]?=some (.cells #[.string rn,.string rb,.string rm] 131 (0,0)):=by
  rw[<-R,aI _ _ (by simp)];exact aM w _
 have A:w0.heap[w.heap.size+1]?=some (.cells #[.string ⟨#[]⟩,.string ⟨#[]⟩,.string ⟨#[]⟩] 131 (0,0)):=by
  rw[<-R];have:=aM (w.alloc (.cells #[.string rn,.string rb,.string rm] 131)) (.cells #[.string ⟨#[]⟩,.string ⟨#[]⟩,.string ⟨#[]⟩] 131);simpa using this
 have M:ai w.heap.size w w0:=by rw[<-R];exact((aB _ _).alloc (ar _) _).alloc (by simp) _
 rw[R];clear R;have a0:w0.cell? ⟨w.heap.size,0,none⟩=some (.string rn):=by rw[au w0 _ 0 _ _ _ F];rfl
 have a1:w0.cell? ⟨w.heap.size,1,none⟩=some (.string rb):=by rw[au w0 _ 1 _ _ _ F];rfl
 have a2:w0.cell? ⟨w.heap.size,2,none⟩=some (.string rm):=by rw[au w0 _ 2 _ _ _ F];rfl
 have c0:w0.cell? ⟨w.heap.size+1,0,none⟩=some (.string ⟨#[]⟩):=by rw[au w0 _ 0 _ _ _ A];rfl
 have c1:w0.cell? ⟨w.heap.size+1,1,none⟩=some (.string ⟨#[]⟩):=by rw[au w0 _ 1 _ _ _ A];rfl
 have c2:w0.cell? ⟨w.heap.size+1,2,none⟩=some (.string ⟨#[]⟩):=by rw[au w0 _ 2 _ _ _ A];rfl
 have f0:w0.frozen? ⟨w.heap.size+1,0,none⟩=false:=yb A (by simp);have f1:w0.frozen? ⟨w.heap.size+1,1,none⟩=false:=yb A (by simp);have f2:w0.frozen? ⟨w.heap.size+1,2,none⟩=false:=yb A (by simp);have U:w.heap.size<w0.heap.size:=by omega
 have K:w.heap.size+1<w0.heap.size:=by omega
 have I:Hid (∀W:ae,ai w0.drew.heap.size w0.drew W->W.heap[w.heap.size+1]?=some (.cells #[.string ⟨#[]⟩,.string ⟨#[]⟩,.string ⟨#[]⟩] 131 (0,0))):=laid fun W H=>by rw[H.block _ K];exact A
 clear F A;have J:Hid (∀W:ae,ai w0.drew.heap.size w0.drew W->W.cell? ⟨w.heap.size,0,none⟩=some (.string rn)/\W.cell? ⟨w.heap.size,1,none⟩=some (.string rb)/\W.cell? ⟨w.heap.size,2,none⟩=some (.string rm)):=laid fun W H=>⟨by rw[H.cell (p:=⟨w.heap.size,0,none⟩) U];exact a0,by rw[H.cell (p:=⟨w.heap.size,1,none⟩) U];exact a1,by rw[H.cell (p:=⟨w.heap.size,2,none⟩) U];exact a2⟩;have B:Hid (∀W:ae,ai w0.drew.heap.size w0.drew W->W.cell? ⟨w.heap.size+1,0,none⟩=some (.string ⟨#[]⟩)/\W.cell? ⟨w.heap.size+1,1,none⟩=some (.string ⟨#[]⟩)/\W.cell? ⟨w.heap.size+1,2,none⟩=some (.string ⟨#[]⟩)/\W.frozen? ⟨w.heap.size+1,0,none⟩=false/\W.frozen? ⟨w.heap.size+1,1,none⟩=false/\W.frozen? ⟨w.heap.size+1,2,none⟩=false):=laid fun W H=>⟨by rw[H.cell (p:=⟨w.heap.size+1,0,none⟩) K];exact c0,by rw[H.cell (p:=⟨w.heap.size+1,1,none⟩) K];exact c1,by rw[H.cell (p:=⟨w.heap.size+1,2,none⟩) K];exact c2,by rw[H.frozen (p:=⟨w.heap.size+1,0,none⟩) K];exact f0,by rw[H.frozen (p:=⟨w.heap.size+1,1,none⟩) K];exact f1,by rw[H.frozen (p:=⟨w.heap.size+1,2,none⟩) K];exact f2⟩;clear c0 c1 c2 f0 f1 f2
 go_region_law
  (first
   |(go_simp;go_at_call 51;refine(Q.out _).mono ?_;rintro e w' ⟨rfl,Y⟩;obtain⟨V,d1,d2⟩:=J.out _ Y)
   |(go_simp;go_at_call 129;refine(P.out _).mono ?_;rintro e N ⟨rfl,D⟩;obtain⟨g0,g1,X,Z,E,G⟩:=B.out _ (Y.trans (D.mono Y.size));obtain⟨q,j,z⟩:=J.out _ (Y.trans (D.mono Y.size))))
 all_goals
  have L:Hid (ai w.heap.size w (((N.setCell ⟨w.heap.size+1,0,none⟩ (.string rn)).setCell ⟨w.heap.size+1,1,none⟩ (.string OB)).setCell ⟨w.heap.size+1,2,none⟩ (.string O))):=laid (((((Go.below_drewN M 1).trans (Y.mono (by simp;omega))).trans (D.mono (by have:=Y.size;simp at this;omega))).setCell (p:=⟨w.heap.size+1,0,none⟩) (by simp) _|>.setCell (p:=⟨w.heap.size+1,1,none⟩) (by simp) _).setCell (p:=⟨w.heap.size+1,2,none⟩) (by simp) _);have C:=x5 (k:=2) (.string O) (x5 (k:=1) (.string OB) (x5 (k:=0) (.string rn) (I.out _ (Y.trans (D.mono Y.size)))));clear Q P J B I Y D;go_wp2
  (try simp only[Exit.inBlock,Exit.then])
  refine cx (results_cell_row rfl _ _ (w.heap.size+1) _ _ _ _ rfl C Tryz.underlying131 rfl IA) rfl ?_;exact⟨rfl,L.out⟩
theorem CW(p t:ByteArray)(k:Nat):∀n,n<=t.size+1->∀h∈lA p t k n,h.1<=h.2.1/\h.2.1<=t.size/\h.2.2<=k
 |0,_,h,Y=>by simp[lA]at Y
 |e+1,H,h,Y=>by
  have K:=CW p t k e (by omega);rw[lA]at Y;split at Y
  ·rename_i hb;rw[dA,cO]at Y;rcases Y with Y|Y
   ·exact K h Y
   ·subst Y;have:=FY p t k e (tries p k e);exact⟨this,by simp_all,hb⟩
  ·exact K h Y
def y8(A rn p mk t K:ByteArray)(n s d:Nat):=
 rn.data.toList++[9]++gJ n++[9]++A.data.toList++[9]++gJ (s+1)++[9]++nO K++[9]++gJ d++[9]++jL p t K++[9]++p.data.toList++[9]++mk.data.toList++[10]
def vX(A K rn p mk:ByteArray)(n:Nat)(h:Nat×Nat×Nat):=
 y8 A rn p mk (K.extract h.1 h.2.1) (str (gO p (K.extract h.1 h.2.1))) n h.1 h.2.2
def pS(add:Nat)(more:Bool)(i:Nat):=if more=true\/0<i then add+256 else add
def p_(A K rn p mk:ByteArray)(add:Nat)(more:Bool)(L:List (Nat×Nat×Nat)):Nat->List UInt8
 |0=>[]
 |i+1=>p_ A K rn p mk add more L i++vX A K rn p mk (pS add more i) (L.getD i (0,0,0))
def rZ(A K rn p mk:ByteArray)(add k:Nat)(more:Bool):=p_ A K rn p mk add more (iE p K k) (iE p K k).length
theorem GO(s:ByteArray)(h:s.size<=9000):(nO s).length<=5 *s.size:=(HY s _ h).2
theorem Hh(p t s:ByteArray)(h:s.size<=9000):(jL p t s).length<=6 *s.size+4:=by
 have I:=CU p t s _ h;have h2:=mN (gF p t s s.size).n (by omega);unfold jL;rw[aH];omega
theorem PG(A K rn p mk:ByteArray)(add:Nat)(more:Bool)(L:List (Nat×Nat×Nat))(M:A.size<=1000)(F:K.size<=300)(C:rn.size<=1000)(T:p.size<=100)(B:mk.size<=1000)(O:add<=1000)
  (N:∀h∈L,h.1<=h.2.1/\h.2.1<=K.size/\h.2.2<=1000):∀i,i<=L.length->(p_ A K rn p mk add more L i).length<=20000 *i
 |0,_=>by simp[p_]
 |i+1,S=>by
  have V:=PG A K rn p mk add more L M F C T B O N i (by omega);rw[p_,aH];have Q:=N (L.getD i (0,0,0)) (by rw[cK,aO (by omega)];exact List.getElem_mem _);generalize L.getD i _=h at *;have R:(K.extract h.1 h.2.1).size<=300:=by rw[cD];omega
  have gj:=yg p (K.extract h.1 h.2.1);have D:(str _).size=(gO p (K.extract h.1 h.2.1)).length:=gR _;have H:=GO (str (gO p (K.extract h.1 h.2.1))) (by omega);have Y:=Hh p (K.extract h.1 h.2.1) (str (gO p (K.extract h.1 h.2.1))) (by omega);have d1:=mN (pS add more i) (by unfold pS;split<;>omega);have d2:=mN (h.1+1) (by omega);have d3:=mN h.2.2 (by omega);unfold vX y8;simp;have I:rn.data.size=rn.size:=rfl;have U:A.data.size=A.size:=rfl;have J:p.data.size=p.size:=rfl;have P:mk.data.size=mk.size:=rfl;omega
abbrev mn:=ByteArray×ByteArray×ByteArray
def pT(A K:ByteArray)(k:Nat)(r:mn):=rZ A K r.1 r.2.1 r.2.2 0 k false
def rp(A K:ByteArray)(k:Nat)(r:mn):=rZ A K r.1 (iA r.2.1 0) (str (jP r.2.2)) 16 k (decide (pT A K k r≠ []))
def w_(r:mn):=r.1.data.toList++[9,52,9,42,9,48,9,42,9,45,9,45,9]++r.2.1.data.toList++[9]++r.2.2.data.toList++[10]
def pK(A K:ByteArray)(k:Nat)(r:mn):=
 (if pT A K k r=[]/\rp A K k r=[]then w_ r else pT A K k r)++rp A K k r
def q_(A K:ByteArray):=[64]++A.data.toList++[9]++gJ K.size++[10]
def nP(A K:ByteArray)(k:Nat)(L:List mn)
 |0=>q_ A K
 |i+1=>nP A K k L i++pK A K k (L.getD i (⟨#[]⟩,⟨#[]⟩,⟨#[]⟩))
def o9(ref reads:ByteArray)(k:Nat):=
 nP (vS ref) (str (mQ ref).2) k (iR reads 5 0) (iR reads 5 0).length
def fewer(L:List mn)(k:Int):Bool:=L.all fun r=>decide (k<(r.2.1.size:Int))
def m_(ref reads:ByteArray)(k q step wk:Int):=
 if mS ref reads≠0 then mS ref reads else if vZ k 30 q step=false\/wk<1\/8<wk then 4 else if fewer (iR reads 5 0) k=false then 4 else 0
def qa(ref reads:ByteArray)(k q step wk:Int):=if m_ ref reads k q step wk=0 then str (o9 ref reads k.toNat)else⟨#[]⟩
def uZ(ref reads:ByteArray):=if mS ref reads≠0 then yF ref reads else 0
theorem Ox(s:ByteArray)(st:Nat×Bool):(r_ s st).size<=10:=by
 unfold r_;split
 ·decide
 ·unfold cut;have:=(rO kQ (rest s st.1) 10).1;rw[gR,dz];omega
theorem W9(s:ByteArray)(m p:Nat):(sa s m p).size<=m:=by
 unfold sa yT;have:=z7 s m p;rw[gR,cL,dz];omega
theorem aaC(s:ByteArray)(st:Nat×Bool):(yU s 30 st).size<=30:=by
 unfold yU;split
 ·decide
 ·exact W9 s 30 _
theorem aaD(s:ByteArray)(K:Nat)(st:Nat×Bool):(xe s K st).size<=K:=by
 unfold xe;split
 ·exact bT _
 ·unfold cut;have:=(rO ku (rest s st.1) K).1;rw[gR,dz];omega
theorem Zb(s:ByteArray)(p:Nat):(uG s p).1.size<=10/\(uG s p).2.1.size<=30/\(uG s p).2.2.size<=30:=by
 have h2:(nE s p).size<=30:=aaC s _;refine⟨Ox s _,h2,?_⟩;have:=aaD s (nE s p).size (sx s p);show(xe s _ _).size<=30
 omega
theorem Mi(s:ByteArray):∀n p,∀r∈iR s n p,r.1.size<=10/\r.2.1.size<=30/\r.2.2.size<=30
 |0,_,r,h=>by simp[iR]at h
 |n+1,p,r,h=>by
  rw[iR]at h;split at h
  ·simp at h
  ·rw[List.mem_cons]at h;rcases h with rfl|h
   ·exact Zb s p
   ·split at h
    ·simp at h
    ·exact Mi s n _ r h
theorem Mu(s:ByteArray):∀n p,(iR s n p).length<=n
 |0,_=>by simp[iR]
 |n+1,p=>by
  rw[iR];split
  ·simp
  ·rw[bY];split
   ·simp
   ·have:=Mu s n (lL s p).1;omega
theorem NL(M K rn p mk:ByteArray)(add k:Nat)(more:Bool)(F:M.size<=1000)(C:K.size<=300)(B:rn.size<=1000)(O:p.size<=100)(A:mk.size<=1000)(N:add<=1000)(hk:k<=1000):(rZ M K rn p mk add k more).length<=7000000:=by
 have I:(iE p K k).length<=301:=by have:=Ca p K k (K.size+1);unfold iE;omega
 have h2:=PG M K rn p mk add more (iE p K k) F C B O A N (fun h Y=>by have:=CW p K k _ (ar _) h Y;omega) _ (ar _);unfold rZ;omega
theorem agu{reads:ByteArray}(h:mS ref reads=0):ref.size<=400/\reads.size<=600/\(lU ref).2=false/\(kL reads 5 0).2=false:=by
 unfold mS at h;split at h
 ·omega
 ·unfold j9 at h;split at h
  ·omega
  ·split at h
   ·omega
   ·simp_all
theorem acB{L:List mn}(K:i<L.length):L.getD i (⟨#[]⟩,⟨#[]⟩,⟨#[]⟩)∈L:=by simp_all
theorem aaE(C B:ByteArray)(k:Nat)(r:mn)(A:C.size<=1000)(K:B.size<=300)(hr:r.1.size<=10/\r.2.1.size<=30/\r.2.2.size<=30)(hk:k<=100):(pT C B k r).length<=7000000:=
 NL C B r.1 _ _ 0 k _ A K (by omega) (by omega) (by omega) (by omega) (by omega)
theorem Oy(s:ByteArray):(str (jP s)).size=s.size:=by rw[gR,jP,Hf]
theorem aaF(C B:ByteArray)(k:Nat)(r:mn)(A:C.size<=1000)(K:B.size<=300)(hr:r.1.size<=10/\r.2.1.size<=30/\r.2.2.size<=30)(hk:k<=100):(rp C B k r).length<=7000000:=
 NL C B r.1 _ _ 16 k _ A K (by omega) (by have:=B8 r.2.1 0;omega) (by rw[Oy];omega) (by omega) (by omega)
theorem aaG(r:mn)(hr:r.1.size<=10/\r.2.1.size<=30/\r.2.2.size<=30):(w_ r).length<=1000:=by
 unfold w_;have Y:r.1.data.size=r.1.size:=rfl;have K:r.2.1.data.size=r.2.1.size:=rfl;have H:r.2.2.data.size=r.2.2.size:=rfl;simp only[aH,bY,bD,dk];omega
theorem F0(C B:ByteArray)(k:Nat)(r:mn)(A:C.size<=1000)(K:B.size<=300)(hr:r.1.size<=10/\r.2.1.size<=30/\r.2.2.size<=30)(hk:k<=100):(pK C B k r).length<=15000000:=by
 have I:=aaE C B k r A K hr hk;have h2:=aaF C B k r A K hr hk;have Y:=aaG r hr;unfold pK;rw[aH];split<;>omega
theorem GQ(K C:ByteArray)(k:Nat)(L:List mn)(B:K.size<=1000)(A:C.size<=300)(F:∀r∈L,r.1.size<=10/\r.2.1.size<=30/\r.2.2.size<=30)(hk:k<=100):∀i,i<=L.length->(nP K C k L i).length<=2000+15000000 *i
 |0,_=>by
  have:=mN C.size (by omega);have e:K.data.size=K.size:=rfl;simp only[nP,q_,aH,bY,bD,dk];omega
 |i+1,h=>by
  have Y:=GQ K C k L B A F hk i (by omega);have hr:=F0 K C k (L.getD i _) B A (F _ (acB (by omega))) hk;rw[nP,aH];omega
def gS(c:UInt8):Prop:=kO c=true/\gb c=c
def jo(x:List UInt8):List UInt8:=[62,114,10]++x++[10]
def iy(n:Nat):List UInt8:=(dB n).map fun i=>cw (33+i)
def jl(b:List UInt8):List UInt8:=[64,97,10]++b++[10,43,10]++iy b.length++[10]
theorem nL(n:Nat):(iy n).length=n:=by simp[iy]
theorem QA(h:n<=30):∀c∈iy n,ku c=true:=by
 intro c Y;obtain⟨i,K,rfl⟩:=cM.1 Y;have:i<n:=by simpa using K
 have e:(33+i)%256=33+i:=by omega
 simp only[ku,DY,eg,e,decide_eq_true_eq];omega
theorem vQ(A B:List UInt8):rest (str (A++B)) A.length=B:=by simp[rest,str]
theorem ui(A B:List UInt8)(c:UInt8):gW (str (A++c::B)) c A.length=(A.length+1,false):=by
 have h:A.length<(str (A++c::B)).size:=by rw[gR];simp
 have e:(str (A++c::B))[A.length]=c:=by simp[ByteArray.getElem_eq_getElem_data,str]
 rw[gW,dif_pos h,if_pos e]
theorem zU(f:UInt8->Bool):∀(x:List UInt8) (B:List UInt8) (m:Nat),(∀c∈x,f c=true)->x.length<=m->(∀c K,B=c::K->f c=true->x.length=m)->iN f (x++B) m=x.length
 |[],B,m,_,_,Y=>by
  cases B with
  |nil=>rw[bE,Np];rfl
  |cons c K=>
   cases m with
   |zero=>rw[F2];rfl
   |succ m=>
    rw[bE,vs];split
    ·rename_i h;have:=Y c K rfl h;simp at this
    ·rfl
 |y::x,B,0,_,H,_=>by simp at H
 |y::x,B,m+1,hx,H,Y=>by
  rw[cI,vs,if_pos (hx y (by simp)),zU f x B m (fun c D=>hx c (by simp[D])) (by simpa using H) (fun c K e h=>by have:=Y c K e h;simpa using this)];rfl
theorem GR(f:UInt8->Bool)(A x B:List UInt8)(l m:Nat)(hx:∀c∈x,f c=true)(I:l<=x.length)(h2:x.length<=m)(C:∀c K,B=c::K->f c=true->x.length=m):lC (str (A++(x++B))) f l m A.length=(A.length+x.length,false):=by
 rw[lC,vQ,zU f x B m hx h2 C];simp;omega
theorem agv:kO 10=false:=by decide
theorem agw:kQ 10=false:=by decide
theorem GU(A x B:List UInt8)(m:Nat)(hx:∀c∈x,gS c)(I:1<=x.length)(h2:x.length<=m):iX (str (A++(x++10::B))) m A.length=(A.length+x.length+1,false)/\jK (str (A++(x++10::B))) m A.length=x.length/\su (str (A++(x++10::B))) m A.length=x:=by
 have hb:∀c K,10::B=c::K->kO c=true->x.length=m:=fun c K e h=>by cases e;rw[agv]at h;cases h
 have H:jK (str (A++(x++10::B))) m A.length=x.length:=by rw[jK,vQ,zU kO x _ m (fun c Y=>(hx c Y).1) h2 hb]
 refine⟨?_,H,?_⟩
 ·rw[iX,GR kO A x _ 1 m (fun c Y=>(hx c Y).1) I h2 hb,kz rfl];have:=ui (A++x) B 10;rw[eT,aH]at this;exact this
 ·rw[su,vQ,H,eZ]
  ·exact(List.map_congr_left fun c Y=>(hx c Y).2).trans (List.map_id _)
  ·rfl
theorem GV(A B:List UInt8)(c:UInt8)(K:kQ c=true):qA (str (A++c::10::B)) A.length=(A.length+2,false)/\iN kQ (rest (str (A++c::10::B)) A.length) 10=1:=by
 have hb:∀d Y,10::B=d::Y->kQ d=true->[c].length=10:=fun d Y e h=>by cases e;rw[agw]at h;cases h
 have hx:∀d∈[c],kQ d=true:=by simpa using K
 refine⟨?_,?_⟩
 ·have h:=GR kQ A [c] (10::B) 1 10 hx (by simp) (by simp) hb;rw[qA];simp only[cI,bE,dy]at h;rw[h,kz rfl];have:=ui (A++[c]) B 10;simpa using this
 ·rw[vQ];exact zU kQ [c] (10::B) 10 hx (by simp) hb
section
variable{x:List UInt8}(hx:∀c∈x,gS c)(I:1<=x.length)(h2:x.length<=200)
theorem QB(x:List UInt8):jo x=[62,114,10]++(x++10:: []):=by simp[jo]
include hx I h2
theorem Oz:iB (gW (str (jo x)) 62 0) (qA (str (jo x)))=(3,false):=by
 have a:=ui [] (114::10::(x++[10])) 62;have b:=(GV [62] (x++[10]) 114 (by decide)).1;simp only[bE,bD,cI,dy]at a b;rw[show jo x=62::114::10::(x++[10]) by simp[jo],a,kz rfl];exact b
theorem Zc:mQ (str (jo x))=((x.length+4,false),x):=by
 obtain⟨l1,_,K⟩:=GU [62,114,10] x [] 200 hx I h2;have Y:(str (jo x)).size=x.length+4:=by rw[gR];simp[jo]
 rw[mQ,Y,Oz hx I h2,nM,if_pos ⟨rfl,.inl rfl⟩];simp only[bD,Nat.sub_zero,bE];rw[QB]at Y⊢;have H:([62,114,10]:List UInt8).length=3:=rfl;rw[H]at l1 K;rw[l1,K,nM,if_neg]
 ·simp;omega
 ·rintro⟨_,h|h⟩
  ·rw[h]at I;simp at I
  ·rw[Y]at h;simp at h;omega
theorem acC:(lU (str (jo x))).2=false:=by
 obtain⟨l1,l2,_⟩:=GU [62,114,10] x [] 200 hx I h2;have D:([62,114,10]:List UInt8).length=3:=rfl;have Y:=Oz hx I h2;obtain⟨H,R⟩:=rM (by rw[Y]:(iB (gW (str (jo x)) 62 0) (qA (str (jo x)))).2=false);rw[kz H]at Y;have K:(str (jo x)).size=x.length+4:=by rw[gR];simp[jo]
 rw[lU,kz H,kz R,Y,K];rw[QB]at K⊢;rw[D]at l1 l2;rw[l1,l2,kz rfl,vY,if_pos (by rw[K];simp;omega)]
theorem XV:vS (str (jo x))=⟨#[114]⟩:=by
 have a:=ui [] (114::10::(x++[10])) 62;have b:=(GV [62] (x++[10]) 114 (by decide)).2;have c:=vQ [62] (114::10::(x++[10]));simp only[bE,bD,cI,dy]at a b c;rw[show jo x=62::114::10::(x++[10]) by simp[jo],vS,r_,a,if_neg (by simp),cut];simp only[bS];rw[b,c];rfl
end
section
variable{b:List UInt8}(hb:∀c∈b,gS c)(I:1<=b.length)(h2:b.length<=30)
include hb I h2
theorem acD(A B:List UInt8):lL (str (A++(jl b++B))) A.length=(A.length+(jl b).length,false)/\uG (str (A++(jl b++B))) A.length=(⟨#[97]⟩,str b,str (iy b.length)):=by
 obtain⟨s,Y⟩:∃s,s=str (A++(jl b++B)):=⟨_,rfl⟩;have f1:s=str (A++64::(97::10::(b++10::43::10::(iy b.length++10::B)))):=by rw[Y];simp[jl]
 have f2:s=str ((A++[64])++97::10::(b++10::43::10::(iy b.length++10::B))):=by rw[Y];simp[jl]
 have M:s=str ((A++[64,97,10])++(b++10::(43::10::(iy b.length++10::B)))):=by rw[Y];simp[jl]
 have N:s=str ((A++[64,97,10]++b++[10])++43::(10::(iy b.length++10::B))):=by rw[Y];simp[jl]
 have f5:s=str ((A++[64,97,10]++b++[10,43])++10::(iy b.length++10::B)):=by rw[Y];simp[jl]
 have f6:s=str ((A++[64,97,10]++b++[10,43,10])++(iy b.length++10::B)):=by rw[Y];simp[jl]
 have f7:s=str ((A++[64,97,10]++b++[10,43,10]++iy b.length)++10::B):=by rw[Y];simp[jl]
 have g1:=ui A (97::10::(b++10::43::10::(iy b.length++10::B))) 64;have R:=GV (A++[64]) (b++10::43::10::(iy b.length++10::B)) 97 (by decide);have K:=vQ (A++[64]) (97::10::(b++10::43::10::(iy b.length++10::B)));have D:=GU (A++[64,97,10]) b (43::10::(iy b.length++10::B)) 30 hb I h2;have U:=ui (A++[64,97,10]++b++[10]) (10::(iy b.length++10::B)) 43;have C:=ui (A++[64,97,10]++b++[10,43]) (iy b.length++10::B) 10;have F:=GR ku (A++[64,97,10]++b++[10,43,10]) (iy b.length) (10::B) b.length b.length (QA h2) (by rw[nL];exact ar _) (by rw[nL];exact ar _) (fun _ _ _ _=>nL _);have H:=vQ (A++[64,97,10]++b++[10,43,10]) (iy b.length++10::B);have J:=ui (A++[64,97,10]++b++[10,43,10]++iy b.length) B 10;rw[<-f1]at g1;rw[<-f2]at R K;rw[<-M]at D;rw[<-N]at U;rw[<-f5]at C;rw[<-f6]at F H;rw[<-f7]at J;rw[<-Y];have n1:(A++[64]).length=A.length+1:=by simp
 have n3:(A++[64,97,10]).length=A.length+1+2:=by simp
 have Q:(A++[64,97,10]++b++[10]).length=A.length+1+2+b.length+1:=by simp;omega
 have S:(A++[64,97,10]++b++[10,43]).length=A.length+1+2+b.length+1+1:=by simp;omega
 have L:(A++[64,97,10]++b++[10,43,10]).length=A.length+1+2+b.length+1+1+1:=by simp;omega
 have T:(A++[64,97,10]++b++[10,43,10]++iy b.length).length=A.length+1+2+b.length+1+1+1+b.length:=by simp[nL];omega
 rw[n1]at R K;rw[n3]at D;rw[Q]at U;rw[S]at C;rw[L,nL]at F;rw[L]at H;rw[T]at J;have r2:nc s A.length=(A.length+1+2,false):=by rw[nc,vd,g1,kz rfl,R.1]
 have O:nE s A.length=str b:=by rw[nE,yU,r2,if_neg (by simp),Qc,D.2.2]
 have X:sx s A.length=(A.length+1+2+b.length+1+1+1,false):=by
  have r3:ve s A.length=(A.length+1+2+b.length+1,false):=by rw[ve,r2,kz rfl,D.1]
  have V:vf s A.length=(A.length+1+2+b.length+1+1,false):=by rw[vf,r3,kz rfl,U]
  rw[sx,V,kz rfl,C]
 refine⟨?_,?_⟩
 ·have P:(jl b).length=1+2+b.length+1+1+1+b.length+1:=by simp[jl,nL];omega
  rw[lL,g1,kz rfl,R.1,kz rfl,D.1,kz rfl,U,kz rfl,C,kz rfl,D.2.1,F,kz rfl,J,P];simp;omega
 ·rw[uG,O,r_,xe,vd,g1,X,if_neg (by simp),if_neg (by simp),cut,cut];simp only;rw[R.2,K,gR,H,zU ku (iy b.length) (10::B) b.length (QA h2) (by rw[nL];exact ar _) (fun _ _ _ _=>nL _),nL,akp,akp,eZ (nL _)];rfl
end
def kV(c:Int)(n:Nat):Nat:=(if c<0 then-(c+1)else c).toNat%n
theorem Ac(c:Int)(h:0<n):kV c n<n:=dH _ h
def nA(c:Int):Prop:= -9223372036854775808<=c/\c<=9223372036854775807
theorem acE{c:Int}(h:c<0): -(c+1).tmod (n:Int)=(kV c n:Nat):=by
 unfold kV;rw[if_pos h,<-Int.neg_tmod,Int.tmod_eq_emod_of_nonneg (by omega),eO,eP (by omega)]
theorem acF{c:Int}(h:0<=c):c%(n:Int)=(kV c n:Nat):=by
 unfold kV;rw[if_neg (by omega),eO,eP h]
theorem PH(c:Int)(n:Nat)(w:ae)(K:nA c)(I:1<=n)(h2:n<=1000):
  ao af 19 #[.int .i64 c,.int .i64 n] w fun e w'=>e=.returned (.int .i64 (kV c n:Nat))/\w'=w:=by
 obtain⟨c1,c2⟩:=K;by_cases h:c<0
 ·go_enter Tryz.func19,akE
  go_wp2
  go_ret
  exact⟨congrArg cG (ij (acE h)),rfl⟩
 ·go_enter Tryz.func19,akE
  go_wp2
  go_ret
  exact⟨congrArg cG (ij (acF h)),rfl⟩
theorem aeI(x:List UInt8)(w:ae)(hx:x.length<=1000):
  ao af 23 #[.string (str x)] w fun e w'=>e=.returned (.string (str (jo x)))/\w'=w:=by
 have Y:(str x).size<=1000:=hx
 go_enter Tryz.func23,Tryz.ntmps23
 go_wp2
 go_ret
 refine⟨congrArg cG (yn ?_),rfl⟩;exact(congrArg (· ++str [10]) (oy [62,114,10] x)).trans (oy _ _)
theorem PI(w:ae)(c:Int):(convert 79 9 (.slice (some ⟨w.heap.size,0,none⟩) 1 1)).run af (w.alloc (.cells #[.int .u8 c] 5))=.ok (.string ⟨#[cw c.toNat]⟩) (w.alloc (.cells #[.int .u8 c] 5)):=by
 rw[run_convert_bytes_string _ _ _ 5 _ _ _ (by kernel_rfl) (by kernel_rfl) (by kernel_rfl),run_bytesToString _ _ _ _ [c]]
 ·rfl
 ·have h:(w.alloc (.cells #[.int .u8 c] 5)).cell? ⟨w.heap.size,0,none⟩=some (.int .u8 c):=by rw[au _ _ 0 _ _ _ (aM w _)];rfl
  simp[loadCells,go_sem,h]
theorem OA(n:Nat):iy (n+1)=iy n++[cw (33+n)]:=by simp[iy,eY]
theorem aaH(n:Nat)(w:ae)(A:n<=60):
  ao af 30 #[.int .i64 n] w fun e w'=>e=.returned (.string (str (iy n)))/\ai w.heap.size w w':=by
 go_enter Tryz.func30,Tryz.ntmps30
 go_wp2
 go_loopw [3,4] (fun t i wr=>∃k:Nat,k<=n/\i=.int .i64 k/\t=.string (str (iy k))/\ai w.heap.size w wr) (fun _ i _=>n-(intOf i).toNat)
 case atStart=>exact⟨0,bT _,rfl,rfl,aB _ _⟩
 case round=>
  obtain⟨k,hk,rfl,rfl,Y⟩:=hrel;have H:(str (iy k)).size<=60:=by rw[gR,nL];omega
  by_cases K:k<n
  ·have I:=PI wr (33+(k:Int));have h2:∀o,ai w.heap.size w (wr.alloc o):=fun o=>Y.alloc Y.size o;go_wp2
   go_roundw
   case rel=>go_light;exact⟨k+1,by omega,by go_num,yn (by rw[OA,<-Cw,UInt8.ofNat_add];rfl),h2 _⟩
   case measure=>go_light;simp[intOf];omega
  ·go_wp2
   go_ret
   obtain rfl:k=n:=by omega
   exact⟨rfl,Y⟩
theorem acG(b:List UInt8)(w:ae)(hb:b.length<=60):
  ao af 24 #[.string (str b)] w fun e w'=>e=.returned (.string (str (jl b)))/\ai w.heap.size w w':=by
 have R:(str b).size=b.length:=rfl;have D:(str (iy b.length)).size=b.length:=by rw[gR,nL]
 go_enter Tryz.func24,Tryz.ntmps24
 go_wp2_with fail
 refine(aaH b.length _ hb).mono ?_;rintro e w1 ⟨rfl,Y⟩;go_wp2
 go_ret
 refine⟨congrArg cG (yn ?_),Y⟩;have I:=oy [64,97,10] b;have h2:=oy ([64,97,10]++b) [10,43,10];have H:=oy ([64,97,10]++b++[10,43,10]) (iy b.length);have K:=oy ([64,97,10]++b++[10,43,10]++iy b.length) [10];rw[<-H,<-h2,<-I]at K;exact K
def AW(z:Int):UInt8:=if kV z 25=24 then 78 else [65,67,71,84].getD (kV z 25%4) 0
def lT(zs:Nat->Int)(n:Nat):List UInt8:=(dB n).map fun i=>AW (zs i)
theorem Cp(zs:Nat->Int)(n:Nat):(lT zs n).length=n:=by simp[lT]
theorem Zd(zs:Nat->Int)(n:Nat):lT zs (n+1)=lT zs n++[AW (zs n)]:=by simp[lT,eY]
theorem acH(z:Int):gS (AW z):=by
 unfold AW;split
 ·exact⟨by decide,by decide⟩
 ·have:=dH (kV z 25) (show 0<4 by decide);generalize kV z 25%4=j at this;have:j=0\/j=1\/j=2\/j=3:=by omega
  rcases this with rfl|rfl|rfl|rfl<;>exact⟨by decide,by decide⟩
theorem acI(zs:Nat->Int)(n:Nat):∀c∈lT zs n,gS c:=by
 intro c Y;obtain⟨i,_,rfl⟩:=cM.1 Y;exact acH _
def uC(w:ae)(a:Option Addr)(len:Nat)(zs:Nat->Int):Prop:=
 len=0\/∃b off,a=some ⟨b,off,none⟩/\len<=aX/\∀i,i<len->w.cell? ⟨b,off+i,none⟩=some (.int .i64 (zs i))/\nA (zs i)
def Tf(p t:ByteArray)(i:Nat)(r:Nat->Nat):Nat->Nat
 |0=>i+1
 |j+1=>min (min (r j+cost p t i j) (r (j+1)+1)) (Tf p t i r j+1)
def dS(p t:ByteArray):Nat->Nat->Nat
 |0=>fun j=>j
 |i+1=>Tf p t i (dS p t i)
theorem xa(p t:ByteArray):∀i j,dT p t i j=dS p t i j
 |0,j=>by rw[dT];rfl
 |i+1,0=>by rw[dT];rfl
 |i+1,j+1=>by
  rw[dT,xa p t i j,xa p t i (j+1),xa p t (i+1) j];rfl
def I7(p t:ByteArray):Nat:=dS p t p.size t.size
def xc(p t:ByteArray)(k e:Nat):Nat->Nat×Nat
 |0=>(k+1,0)
 |c+1=>if I7 p (t.extract (e-c) e)<(xc p t k e c).1 then(I7 p (t.extract (e-c) e),e-c)else xc p t k e c
def yP(p t:ByteArray)(k:Nat):Nat->List (Nat×Nat×Nat)
 |0=>[]
 |e+1=>if(xc p t k e (tries p k e)).1<=k then yP p t k e++[((xc p t k e (tries p k e)).2,e,(xc p t k e (tries p k e)).1)]else yP p t k e
def xt(p t:ByteArray):Nat->Nat->Nat->List UInt8
 |0,_,_=>[]
 |f+1,i,j=>if i=0/\j=0 then []else if(decide (0<i)&&decide (0<j)&&decide (dS p t i j=dS p t (i-1) (j-1)+cost p t (i-1) (j-1)))=true then xt p t f (i-1) (j-1)++[77]else if(decide (0<i)&&decide (dS p t i j=dS p t (i-1) j+1))=true then xt p t f (i-1) j++[73]else xt p t f i (j-1)++[68]
theorem agx(p t:ByteArray):iY p t=I7 p t:=xa p t _ _
theorem Rv(p t:ByteArray)(k e:Nat):∀c,nz p t k e c=xc p t k e c
 |0=>rfl
 |c+1=>by rw[nz,xc,Rv p t k e c,agx]
theorem Rw(p t:ByteArray)(k:Nat):∀e,lA p t k e=yP p t k e
 |0=>rfl
 |e+1=>by rw[lA,yP,Rw p t k e,ib,Rv]
theorem DJ(p t:ByteArray):∀f i j,iC p t f i j=xt p t f i j
 |0,_,_=>rfl
 |f+1,i,j=>by rw[iC,xt,DJ p t f,DJ p t f,DJ p t f,oo,nF,xa,xa,xa]
section
variable(H:ByteArray->ByteArray->Nat->List (Nat×Nat×Nat))(Y:ByteArray->ByteArray->List UInt8)
def Fz(A K rn p mk:ByteArray)(add:Nat)(more:Bool)(L:List (Nat×Nat×Nat)):Nat->List UInt8
 |0=>[]
 |i+1=>Fz A K rn p mk add more L i++y8 A rn p mk (K.extract (L.getD i (0,0,0)).1 (L.getD i (0,0,0)).2.1) (str (Y p (K.extract (L.getD i (0,0,0)).1 (L.getD i (0,0,0)).2.1))) (pS add more i) (L.getD i (0,0,0)).1 (L.getD i (0,0,0)).2.2
def IB(A K rn p mk:ByteArray)(add k:Nat)(more:Bool):List UInt8:=Fz Y A K rn p mk add more (H p K k) (H p K k).length
def I8(A K:ByteArray)(k:Nat)(r:mn):List UInt8:=
 let a:=IB H Y A K r.1 r.2.1 r.2.2 0 k false
 let b:=IB H Y A K r.1 (iA r.2.1 0) (str (jP r.2.2)) 16 k (decide (a≠ []))
 (if a=[]/\b=[]then w_ r else a)++b
def Eb(A K:ByteArray)(k:Nat)(L:List mn):Nat->List UInt8
 |0=>q_ A K
 |i+1=>Eb A K k L i++I8 H Y A K k (L.getD i (⟨#[]⟩,⟨#[]⟩,⟨#[]⟩))
end
theorem Ti(A K rn p mk:ByteArray)(add:Nat)(more:Bool)(L:List (Nat×Nat×Nat)):∀i,p_ A K rn p mk add more L i=Fz gO A K rn p mk add more L i
 |0=>rfl
 |i+1=>by rw[p_,Fz,Ti A K rn p mk add more L i];rfl
theorem aeJ(A K rn p mk:ByteArray)(add k:Nat)(more:Bool):rZ A K rn p mk add k more=IB iE gO A K rn p mk add k more:=Ti ..
theorem agy(A K:ByteArray)(k:Nat)(r:mn):pK A K k r=I8 iE gO A K k r:=by
 simp only[pK,I8,rp,pT,aeJ]
theorem Ss(A K:ByteArray)(k:Nat)(L:List mn):∀i,nP A K k L i=Eb iE gO A K k L i
 |0=>rfl
 |i+1=>by rw[nP,Eb,Ss A K k L i,agy]
theorem aeK:iE=fun p t k=>yP p t k (t.size+1):=by funext p t k;exact Rw p t k _
theorem agz:gO=fun p t=>xt p t (p.size+t.size) p.size t.size:=by funext p t;exact DJ p t _ _ _
theorem PJ(ref reads:ByteArray)(k:Nat):o9 ref reads k=Eb (fun p t k=>yP p t k (t.size+1)) (fun p t=>xt p t (p.size+t.size) p.size t.size) (vS ref) (str (mQ ref).2) k (iR reads 5 0) (iR reads 5 0).length:=by
 rw[o9,Ss,aeK,agz]
def vn:ByteArray:=⟨#[62,114,10,65,67,71,84,65,67,71,84,84,84,10]⟩
def FA:ByteArray:=⟨#[64,97,10,71,84,65,10,43,10,49,50,51,10]⟩
def Ec:ByteArray:=⟨#[64,97,10,71,71,84,65,10,43,10,49,50,51,52,10]⟩
abbrev Lx:ByteArray:={data:=#[64,114,9,49,48,10,97,9,48,9,114,9,51,9,51,77,9,48,9,51,9,71,84,65,9,49,50,51,10,97,9,50,55,50,9,114,9,52,9,51,77,9,48,9,51,9,84,65,67,9,51,50,49,10]}
abbrev Ly:ByteArray:={data:=([64,114,9,49,48,10,97,9,48,9,114,9,51,9,49,73,51,77,9,49,9,51,9,71,71,84,65,9,49,50,51,52,10,97,9,50,55,50,9,114,9,52,9,50,77,49].append [73,49,77,9,49,9,51,9,84,65,67,67,9,52,51,50,49,10,97,9,50,55,50,9,114,9,52,9,52,77,9,49,9,51,71,48,9,84,65,67,67,9,52,51,50,49,10]).toArray}
theorem Tj:m_ vn FA 0 2 4 3=0:=by kernel_rfl
theorem Tk:m_ vn Ec 1 1 3 2=0:=by kernel_rfl
theorem ajV:qa vn FA 0 2 4 3=Lx:=by
 rw[qa,if_pos Tj,PJ];kernel_rfl
theorem ajW:qa vn Ec 1 1 3 2=Ly:=by
 rw[qa,if_pos Tk,PJ];kernel_rfl
end
section
open RowKit Maps
def ir(s:ByteArray)(q i:Nat):=(s.extract i (i+q)).data.toList
def lu(x:List UInt8):=!x.contains 78
def iT(s:ByteArray)(q:Nat)(x:List _)
 |0=>0
 |k+1=>iT s q x k+(if ir s q k=x/\lu x=true then 1 else 0)
theorem Hi(s:ByteArray)(q:Nat)(x:List _):∀k,iT s q x k<=k
 |0=>ar _
 |k+1=>by have:=Hi s q x k;simp[iT];split<;>omega
def lV(s:ByteArray)(q:Nat)(x:List _):=iT s q x (s.size+1-q)
theorem HZ(s:ByteArray)(q:Nat)(x:List _):lV s q x<=s.size+1:=by
 have:=Hi s q x (s.size+1-q);unfold lV;omega
theorem NN{k:Nat}(K:lu (ir s q k)=true):iT s q (ir s q k) (k+1)=iT s q (ir s q k) k+1:=by
 rw[iT,if_pos ⟨rfl,K⟩]
theorem F7{k:Nat}{x:List _}(hx:¬(ir s q k=x/\lu x=true)):iT s q x (k+1)=iT s q x k:=by
 simp[iT];simp_all
def ri(D:aZ Unit)(f:List UInt8->Nat):Prop:=
 IsMap D/\(∀x,D.atKey (.string x) (.lit (.int .i64 0))=.lit (.int .i64 (f x:Int)))/\∀x,has D (.string x)=true↔0<f x
theorem W_(s:ByteArray)(q:Nat):ri (.map []) (fun x=>iT s q x 0):=⟨isMap_empty,fun x=>rfl,fun x=>by rw[has_eq];simp[iT]⟩
theorem XW{D:aZ _}{k:Nat}(h:ri D (fun x=>iT s q x k))(K:lu (ir s q k)=false):ri D (fun x=>iT s q x (k+1)):=by
 have e:(fun x=>iT s q x (k+1))=fun x=>iT s q x k:=by
  funext x;exact F7 (by rintro⟨rfl,h⟩;simp_all)
 simp_all
theorem Ze{D:aZ _}{k:Nat}{c:Int}(h:ri D (fun x=>iT s q x k))(A:lu (ir s q k)=true)
  (B:D.atKey (.string (ir s q k)) (.lit (.int .i64 0))=.lit (.int .i64 c)):ri (D.put (.string (ir s q k)) (.lit (.int .i64 (c+1)))) (fun x=>iT s q x (k+1)):=by
 have I:=h.2.1 (ir s q k);rw[B]at I;have K:=by simpa using I
 have Y:akZ (.string (ir s q k)):=by first|trivial
 refine⟨h.1.put _ _,fun x=>?_,fun x=>?_⟩
 ·by_cases hx:x=ir s q k
  ·subst hx;rw[atKey_put_same h.1 Y];show _=DataW.lit (.int .i64 ((iT s q _ _)))
   rw[NN A,K];simp
  ·rw[atKey_put_other (by simp_all),h.2.1 x];show _=DataW.lit (.int .i64 ((iT s q x _)))
   rw[F7 (by rintro⟨e,_⟩;simp_all)]
 ·by_cases hx:x=ir s q k
  ·subst hx;rw[has_put_same h.1 Y];show _↔0<iT s q _ (k+1)
   rw[NN A];simp
  ·rw[has_put_other (by simp_all),h.2.2 x];show _↔0<iT s q x (k+1)
   rw[F7 (by rintro⟨e,_⟩;simp_all)]
theorem Hj{D:aZ _}{f:List _->Nat}{x:List _}{c:Int}(h:ri D f)(K:D.atKey (.string x) (.lit (.int .i64 0))=.lit (.int .i64 c)):c=(f x):=by
 have I:=h.2.1 x;simp_all
theorem agA(l:List _):bC l 78<0↔lu l=true:=by
 unfold lu;induction l with
 |nil=>simp[bC]
 |cons a l K=>
  simp only[bC];by_cases Y:a=78
  ·simp_all
  ·have I:¬(a==78)=true:=by simp_all
   have h2:(List.contains (a::l) 78)=l.contains 78:=by
    rw[List.contains_cons];have:(78==a)=false:=by simpa using fun e=>Y e.symm
    simp_all
   rw[h2,if_neg I,<-K];by_cases H:bC l 78= -1
   ·simp_all
   ·rw[if_neg (by simp_all)];omega
theorem A4:Keyed af 9:=string_keyed aQ
theorem St(w:ae):(cA 3).run af w=.ok (.int .i64 0) w:=by simp
abbrev tv(w:ae)(b n:Nat)(D:aZ Unit):=w.ownsMap af 9 (plainElem af 3) b n D
theorem Wc(s:ByteArray)(w:ae):
  ao af 99 #[.string s,.int .u8 78] w fun e w'=>e=.returned (.int .i64 (bC s.data.toList 78))/\w'=w:=Tryz.strings_IndexByte s 78 w
theorem Mw(s:ByteArray)(q:Nat)(w:ae)(hs:s.size<=1000)(hq:1<=q)(h:q<=1000):
  ao af 76 #[.string s,.int .i64 (q:Int)] w fun e w'=>e=.returned (.map (some w.heap.size))/\(∃(n:Nat) (D:aZ Unit),n<=1001/\tv w' w.heap.size n D/\ri D (lV s q))/\ai w.heap.size w w':=by
 have z:=@run_makeMap af
 go_enter Tryz.func76,Tryz.ntmps76
 go_wp2
 go_loopw [6] (fun ev wr=>∃(k:Nat) (D:aZ Unit),k<=s.size+1-q/\ev=.int .i64 ((q:Int)+(k:Int))/\tv wr w.heap.size k D/\Hid (ri D (fun x=>iT s q x k))/\ai w.heap.size w wr) (fun ev _=>s.size+1-(intOf ev).toNat)
 case atStart=>exact⟨0,.map [],bT _,by simp,World.ownsMap_made _ _ _ _,laid (W_ s q),(aB _ _).alloc (ar _) _⟩
 case round=>
  obtain⟨k,D,hk,rfl,K,J,Y⟩:=hrel;by_cases W:q+k<=s.size
  ·have d:bW.wrap ((q:Int)+(k:Int)-(q:Int))=(k:Int):=by rw[show(q:Int)+(k:Int)-(q:Int)=(k:Int) by omega];exact dt _ (by omega)
   have hX:(s.extract k (q+k)).data.toList=ir s q k:=by unfold ir;rw[Nat.add_comm q k]
   have O:(s.extract k (q+k)).size<=maxLen:=by rw[cD];unfold aX;omega
   have S:=laid hX;clear hX;have L:=laid (agA (ir s q k));have E:=Hi s q (ir s q k) k;go_wp2_with fail
   refine(Wc _ _).mono ?_;rintro e w' ⟨rfl,rfl⟩;rw[S.out];generalize bC (ir s q k) 78=ix at *;by_cases C:ix<0
   ·have H:=L.out.1 C;have N:=laid H;have U:keyOf af 9 (.string (s.extract k (q+k)))=some (.string (ir s q k)):=by rw[<-S.out];exact WideMaps.keyOf_string_mk aQ O
    have Q:=laid U;clear H U L;generalize s.extract k (q+k)=X at *;go_wp2_with(first
     |(at_lookup;refine ak5 _ rfl _ _ 113 rfl 9 3 .i64 A4 cV aL (St _) w.heap.size k D rfl K _ _ rfl Q.out ?_;intro c B f)
     |(at_mapUpdate;refine wpList_mapUpdate_own _ rfl _ _ _ 113 rfl 9 3 A4 cV _ w.heap.size k D rfl K (by unfold aX;omega) _ _ _ rfl rfl Q.out _ [] (eu aL (wrap64_wf _)) ?_;intro w1 R A)
     |go_in)
    have Z:=Hj J.out B;have V:wrap64 (c+1)=c+1:=eQ (c+1) (by omega);rw[V]at R;have I:=Ze J.out N.out B;have P:ai w.heap.size w w1:=Y.grown A Y.size (fun j G=>by cases G;exact ar _)
    go_roundw
    case rel=>go_light;exact⟨k+1,_,by omega,ij (by omega),R,laid I,P⟩
    case measure=>go_light;simp[intOf];omega
   ·have H:lu (ir s q k)=false:=by
     rw[<-bg,<-L.out];exact C
    have I:=XW J.out H;have M:=laid I;clear H I L;generalize s.extract k (q+k)=X at *;go_wp2
    go_roundw
    case rel=>go_light;exact⟨k+1,D,by omega,ij (by omega),K.mono (by omega),M,Y⟩
    case measure=>go_light;simp[intOf];omega
  ·have F:k=s.size+1-q:=by omega
   have T:Hid (ri D (lV s q)):=laid (by have:=J.out;unfold lV;rw[<-F];exact this);clear F;go_wp2
   go_ret
   exact⟨rfl,⟨k,D,by omega,K,T.out⟩,Y⟩
theorem Cq{a b:ByteArray}:a.data.toList=b.data.toList↔a=b:=⟨fun h=>ByteArray.ext (Array.ext' h),fun h=>by rw[h]⟩
theorem CX(r s:ByteArray)(K:lu r.data.toList=true):∀k,wN r s k=iT s r.size r.data.toList k
 |0=>rfl
 |k+1=>by
  simp[wN,iT];rw[CX r s K k];by_cases h:s.extract k (k+r.size)=r
  ·rw[if_pos ((CO _ _).2 h),if_pos ⟨by unfold ir;rw[h],K⟩]
  ·rw[if_neg (by rw[CO];exact h),if_neg (by rintro⟨e,_⟩;exact h (Cq.1 e))]
theorem OC(r s:ByteArray):∀k,0<wN r s k↔∃j,j<k/\s.extract j (j+r.size)=r
 |0=>by simp[wN]
 |k+1=>by
  simp[wN];have K:=OC r s k;by_cases h:s.extract k (k+r.size)=r
  ·rw[if_pos ((CO _ _).2 h)];exact⟨fun _=>⟨k,by omega,h⟩,fun _=>by omega⟩
  ·rw[if_neg (by rw[CO];exact h),Nat.add_zero,K];constructor
   ·rintro⟨j,Y,e⟩;exact⟨j,by omega,e⟩
   ·rintro⟨j,Y,e⟩;rcases dG j k with I|I
    ·exact⟨j,I,e⟩
    ·obtain rfl:j=k:=by omega
     simp_all
theorem Tm(r:ByteArray):0<pd ⟨#[78]⟩ r↔lu r.data.toList=false:=by
 have K:(⟨#[78]⟩:ByteArray).size=1:=rfl;unfold pd;rw[OC,K,ako];have key:∀j,j<r.size->(r.extract j (j+1)=⟨#[78]⟩↔r.data.toList[j]?=some 78):=by
  intro j Y;rw[<-Cq];have I:(r.extract j (j+1)).data.toList=(r.data.toList.drop j).take 1:=by simp
  have H:=by simpa using Y
  rw[I,dx H,aO H];simp
 unfold lu;constructor
 ·rintro⟨j,Y,e⟩;have:=(key j Y).1 e;simp only[eE,eU];exact bZ this
 ·intro h;simp only[eE,eU]at h;obtain⟨j,Y,e⟩:=List.getElem_of_mem h;exact⟨j,by simpa using Y,(key j (by simpa using Y)).2 (by rw[aO Y,e])⟩
theorem VU(p:ByteArray)(n j q:Nat)(h:j+q<=n):(p.extract 0 n).extract j (j+q)=p.extract j (j+q):=by
 rw[<-Cq];simp_all
theorem QC(p:ByteArray)(q n:Nat)(x:List _):∀k,k+q<=n+1->iT (p.extract 0 n) q x k=iT p q x k
 |0,_=>rfl
 |k+1,h=>by
  simp[iT];rw[QC p q n x k (by omega)];unfold ir;rw[VU p n k q (by omega)]
theorem acJ(p:ByteArray)(q k:Nat)(h:k+q<=p.size):(p.extract k (k+q)).size=q:=by simp_all
def oc(P S:ByteArray)(q:Nat)(x:List _):=min (lV P q x) (lV S q x)
theorem aeL(P S:ByteArray)(q k:Nat)(B:1<=q)(h:k+q<=P.size):
  Jh P S q k=if iT P q (ir P q k) k=0/\lu (ir P q k)=true then oc P S q (ir P q k)else 0:=by
 have Y:=acJ P q k h;unfold Jh;by_cases K:lu (ir P q k)=true
 ·have A:¬0<pd ⟨#[78]⟩ (P.extract k (k+q)):=by rw[Tm];show¬lu (ir P q k)=false;simp_all
  have D:pd (P.extract k (k+q)) (P.extract 0 (k+q-1))=iT P q (ir P q k) k:=by
   unfold pd;rw[CX _ _ K,Y,cD,show min _ P.size-0+1-q=k by omega];exact QC P q _ _ k (by omega)
  have R:pd (P.extract k (k+q)) P=lV P q (ir P q k):=by
   unfold pd;rw[CX _ _ K,Y];rfl
  have I:pd (P.extract k (k+q)) S=lV S q (ir P q k):=by
   unfold pd;rw[CX _ _ K,Y];rfl
  rw[D,R,I];by_cases H:iT P q (ir P q k) k=0
  ·rw[if_neg (by omega),if_pos ⟨H,K⟩];rfl
  ·simp_all
 ·have A:0<pd ⟨#[78]⟩ (P.extract k (k+q)):=by rw[Tm];show lu (ir P q k)=false;simpa using K
  simp_all
def tm(P:ByteArray)(q:Nat)
 |0=>[]
 |k+1=>if iT P q (ir P q k) k=0/\lu (ir P q k)=true then tm P q k++[ir P q k]else tm P q k
theorem Cf(P:ByteArray)(q:Nat)(x:List _):∀k,x∈tm P q k↔0<iT P q x k
 |0=>by simp[tm,iT]
 |k+1=>by
  have Y:=Cf P q x k;simp[tm,iT];by_cases h:iT P q (ir P q k) k=0/\lu (ir P q k)=true
  ·rw[if_pos h,dA,cO,Y];by_cases hx:ir P q k=x
   ·simp_all
   ·rw[if_neg (fun e=>hx e.1)];exact⟨fun e=>e.elim (fun e=>by omega) (fun e=>absurd e.symm hx),fun e=>.inl (by omega)⟩
  ·rw[if_neg h,Y];by_cases hx:ir P q k=x/\lu x=true
   ·have K:¬iT P q x k=0:=fun e=>h (by simp_all);omega
   ·rw[if_neg hx];omega
theorem BX(P:ByteArray)(q:Nat):∀k,(tm P q k).Nodup
 |0=>eX
 |k+1=>by
  simp[tm];split
  ·refine List.nodup_append.2 ⟨BX P q k,by simp,?_⟩;intro a Y b hb e;rw[cO]at hb;subst hb;subst e;have:=(Cf P q _ k).1 Y;omega
  ·exact BX P q k
def jF(f:List UInt8->Nat)(l:List _):=(l.map f).sum
theorem OD(f:List _->Nat)(l:List _)(x:List _):jF f (l++[x])=jF f l+f x:=by simp[jF]
theorem aaI(f:List _->Nat){l l':List _}(h:l.Perm l'):jF f l=jF f l':=(h.map f).sum_nat
theorem PK(P S:ByteArray)(q:Nat)(K:1<=q):∀k,k+q<=P.size+1->Dm P S q k=jF (oc P S q) (tm P q k)
 |0,_=>rfl
 |k+1,h=>by
  simp[Dm,tm];rw[PK P S q K k (by omega),aeL P S q k K (by omega)];split
  ·rw[OD]
  ·simp
theorem NO(P S:ByteArray)(q:Nat)(C:1<=q)(K:List _)(A:K.Nodup)(B:∀x,x∈K↔0<lV P q x):jF (oc P S q) K=sb P S q:=by
 unfold sb;by_cases h:q<=P.size+1
 ·rw[PK P S q C _ (by omega)];exact aaI _ ((List.perm_ext_iff_of_nodup A (BX P q _)).2 fun x=>(B x).trans (Cf P q x _).symm)
 ·have e:P.size+1-q=0:=by omega
  rw[e];have:K=[]:=by
   cases K with
   |nil=>rfl
   |cons a l=>
    have:=(B a).1 (by simp);unfold lV at this;rw[e]at this;simp[iT]at this
  rw[this];rfl
theorem QD(P S:ByteArray)(q:Nat):∀l,jF (oc P S q) l<=l.length *(S.size+1)
 |[]=>by simp[jF]
 |x::l=>by
  have Y:=QD P S q l;have I:oc P S q x<=S.size+1:=bF (Nat.min_le_right _ _) (HZ S q x);have e:jF (oc P S q) (x::l)=oc P S q x+jF (oc P S q) l:=by simp[jF]
  rw[e,bY,Nat.succ_mul];omega
end
section
open RowKit Maps
open Proofs (encStr)
theorem Zf{b:Nat}{D:aZ _}(h:tv w b n D):Maps.size D<=n:=by
 obtain⟨es,clock,_,_,Y,rfl⟩:=h;rw[size_eq,ak1,cL,dk];exact Y
theorem Zg(P S:ByteArray)(q N n1 T n2:Nat)(M O:aZ Unit)(w:ae)(hq:1<=q)(hs:S.size<=1000)(Lz:n1<=1001)
  (A:tv w N n1 M)(B:tv w T n2 O)(G:ri M (lV P q))(C:ri O (lV S q)):
  ao af 78 #[.map (some N),.map (some T)] w fun e w'=>e=.returned (.int .i64 (sb P S q:Int))/\ai w.heap.size w w':=by
 have L:=laid G;have p:=laid C;clear G C;have Lv:=B.lt;have zi:=Zf A
 go_enter Tryz.func78,Tryz.ntmps78
 go_wp2_with(first
  |(at_range;refine wpList_range_own _ rfl _ 113 rfl 9 3 A4 cV _ N n1 _ rfl A ?_;intro w0 d Z a)
  |go_in)
 clear a
 go_frame
 go_loopw [5] (fun sv wr=>∃(left:Lit->Bool) (cnt:Nat) (Y:List (List UInt8)),wr.ranges af 9 (plainElem af 3) N w.heap.size n1 M left cnt/\tv wr T n2 O/\Hid (Collected M left Y)/\Y.length+cnt<=Maps.size M/\sv=.int .i64 (jF (oc P S q) Y:Int)/\ai w.heap.size w wr)
  (fun _ wr=>wr.rangeLeft N w.heap.size)
 case atStart=>exact⟨_,_,[],d,B.kept Z (by simp),laid (Collected.start M),by simp,rfl,(aB _ _).grown Z (ar _) (fun j u=>by cases u)⟩
 case round=>
  obtain⟨left,cnt,Y,z,b,o,Fg,rfl,K⟩:=hrel;have SH:jF (oc P S q) Y<=1002001:=by
   have I:=QD P S q Y;have h2:Y.length *(S.size+1)<=1001 *1001:=aks (by omega) (by omega);omega
  go_wp2_with(first
   |(at_next;refine wpList_next_ranges _ rfl _ rfl 9 A4 (plainElem af 3) encStr (ej .i64) (fun key kl hk=>by obtain⟨x,hx,_⟩:=fb aQ hk;exact⟨x,hx⟩) (fun v y l=>by obtain⟨c,rfl,_⟩:=ew aL l;exact⟨c,rfl⟩) N w.heap.size n1 _ _ _ rfl z ?_ ?_)
   |go_in)
  ·intro Ue m;have D:jF (oc P S q) Y=sb P S q:=NO P S q hq Y o.out.1 fun x=>by
    rw[o.out.2 x,m,L.out.2.2 x];simp
   have Q:=laid D;clear D;go_wp2
   go_ret
   exact⟨yl (by rw[Q.out]),K⟩
  ·intro x c kl yd yp w2 V H W l F U n E k hen;obtain⟨x',ex,rfl,_⟩:=fb aQ H;obtain rfl:x=x':=encStr_inj ex;obtain⟨c',i,h,_⟩:=ew aL l;obtain rfl:c=c':=by simpa using i
   have g:yd=.lit (.int .i64 c):=congrArg Prod.fst h;have TK:c=(lV P q x:Int):=Hj L.out (by rw[F];exact g);have r:=laid (o.out.step W F);clear k l i h F g ex;have R:tv w2 T n2 O:=b.kept E (by intro e;cases e;omega);have s:ai w.heap.size w w2:=K.grown E K.size (fun j u=>by cases u;exact ar _);have aox:=HZ P q x;have aoy:=HZ S q x;have HK:=laid H;have t:=laid U.left_eq;have f:=laid z.left_eq;clear H W;go_wp2_with(first
    |(at_lookup;refine ak5 _ rfl _ _ 113 rfl 9 3 .i64 A4 cV aL (St _) T n2 O rfl R _ _ rfl HK.out ?_;intro c2 X aoz)
    |go_in)
   have C:=Hj p.out X;have J:wrap64 ((jF (oc P S q) Y:Int)+min (lV P q x:Int) c2)=(jF (oc P S q) (Y++[x]):Int):=by
    rw[OD,C];have e:min (lV P q x:Int) (lV S q x:Int)=((oc P S q x:Nat):Int):=by unfold oc;omega
    rw[e,eQ _ (by omega)];omega
   go_roundw
   case rel=>go_light;exact⟨_,V,Y++[x],U,R,r,by rw[aH];simp;omega,ij J,s⟩
   case measure=>go_light;rw[t.out,f.out];exact n
end
section
open RowKit
def oI(k q st:Int):Bool:=decide (0<=k/\k<=6/\1<=q/\q<=8/\1<=st/\st<=200)
theorem OE(k m q st:Int):vZ k m q st=(oI k q st&&decide (k<m)):=by
 unfold vZ oI;rw[Bool.eq_iff_iff];simp;omega
theorem aaJ(k q st:Int)(w:ae):
  ao af 45 #[.agg #[.int .i64 k,.int .i64 q,.int .i64 st]] w fun e w'=>e=.returned (.bool (oI k q st))/\ai w.heap.size w w':=by
 have hb:∀o,ai w.heap.size w (w.alloc o):=fun o=>(aB _ _).alloc (ar _) o;by_cases I:0<=k
 case neg=>
  go_enter bG,bI
  go_wp2
  go_ret
  exact⟨oZ (by unfold oI;rw[decide_eq_false (by omega)]),hb _⟩
 by_cases h2:k<=6
 case neg=>
  go_enter bG,bI
  go_wp2
  go_ret
  exact⟨oZ (by unfold oI;rw[decide_eq_false (by omega)]),hb _⟩
 by_cases Y:1<=q
 case neg=>
  go_enter bG,bI
  go_wp2
  go_ret
  exact⟨oZ (by unfold oI;rw[decide_eq_false (by omega)]),hb _⟩
 by_cases K:q<=8
 case neg=>
  go_enter bG,bI
  go_wp2
  go_ret
  exact⟨oZ (by unfold oI;rw[decide_eq_false (by omega)]),hb _⟩
 by_cases H:1<=st
 case neg=>
  go_enter bG,bI
  go_wp2
  go_ret
  exact⟨oZ (by unfold oI;rw[decide_eq_false (by omega)]),hb _⟩
 by_cases D:st<=200
 case neg=>
  go_enter bG,bI
  go_wp2
  go_ret
  exact⟨oZ (by unfold oI;rw[decide_eq_false (by omega)]),hb _⟩
 go_enter bG,bI
 go_wp2
 go_ret
 exact⟨oZ (by unfold oI;rw[decide_eq_true (by omega)]),hb _⟩
theorem Xa(k q st:Int)(S:ByteArray)(w:ae)(K:S.size<=1000):
  ao af 46 #[.agg #[.int .i64 k,.int .i64 q,.int .i64 st],.string S] w fun e w'=>e=.returned (.bool (decide (k<(S.size:Int))))/\ai w.heap.size w w':=by
 go_wp2
 go_ret
 exact⟨rfl,(aB _ _).alloc (ar _) _⟩
theorem agB(len k q m:Nat)(K:(k:Int) *(q:Int)=(m:Int)):oR len k q=(len:Int)-(q:Int)+1-(m:Int):=by
 unfold oR;have:k *q=m:=by omega
 rw[this]
theorem Zh(k q st len:Nat)(w:ae)(hk:k<=6)(A:q<=8)(B:len<=1000):
  ao af 75 #[.agg #[.int .i64 (k:Int),.int .i64 (q:Int),.int .i64 (st:Int)],.int .i64 (len:Int)] w fun e w'=>e=.returned (.int .i64 (oR len k q))/\ai w.heap.size w w':=by
 obtain⟨m,Y,K⟩:∃m:Nat,(k:Int) *(q:Int)=(m:Int)/\m<=48:=⟨k *q,by simp,by have:=aks hk A;omega⟩;rw[agB len k q m Y];go_wp2
 go_ret
 exact⟨rfl,(aB _ _).alloc (ar _) _⟩
theorem XY(X:ByteArray)(k q st len b:Nat)(w:ae)(hX:X.size<=1000)(hk:k<=6)(C:st<=200)(B:len<=1000)(hb:b *st<=X.size)(A:b<=100000):
  ao af 77 #[.agg #[.int .i64 (k:Int),.int .i64 (q:Int),.int .i64 (st:Int)],.string X,.int .i64 (len:Int),.int .i64 (b:Int)] w fun e w'=>e=.returned (.string (X.extract (b *st) (pn len X.size k st b)))/\ai w.heap.size w w':=by
 have Y:pn len X.size k st b=min (b *st+st+len+k) X.size:=rfl;rw[Y];obtain⟨m,K,D⟩:∃m:Nat,b *st=m/\(b:Int) *(st:Int)=(m:Int):=⟨b *st,rfl,by simp⟩;rw[K]at hb⊢;clear K Y;have H:min ((m:Int)+(st:Int)+(len:Int)+(k:Int)) (X.size:Int)=((min (m+st+len+k) X.size:Nat):Int):=by omega
 go_wp2
 go_ret
 exact⟨rfl,(aB _ _).alloc (ar _) _⟩
theorem PM(L:List _)(i:Nat)(r:ByteArray×ByteArray×ByteArray)(h:L[i]?=some r):(lD L)[i *3]?=some (.string r.1)/\(lD L)[i *3+1]?=some (.string r.2.1)/\(lD L)[i *3+2]?=some (.string r.2.2):=by
 induction L generalizing i with
 |nil=>simp at h
 |cons a L Y=>
  cases i with
  |zero=>simp at h;subst h;exact⟨rfl,rfl,rfl⟩
  |succ i=>
   have:=Y i (by simp_all);rw[show(i+1) *3=i *3+1+1+1 by omega];exact this
def FC(w:ae)(b:Nat)(k q st:Int):=w.heap[b]?=some (.cells #[.int .i64 k,.int .i64 q,.int .i64 st] 75 (0,0))
def oY(k:Int)(L:List (ByteArray×ByteArray×ByteArray)):Bool:=L.all fun r=>decide (k<(r.2.1.size:Int))
theorem V4(k q st:Int)(L:List (ByteArray×ByteArray×ByteArray))(v:ah)(B:Nat)(w:ae)(A:w.ownsRow B 131 3 v L.length (lD L))(hl:L.length<=1000)(hs:∀r∈L,r.2.1.size<=1000):
  ao af 59 #[.agg #[.int .i64 k,.int .i64 q,.int .i64 st],v] w fun e w'=>e=.returned (.bool (oY k L))/\ai w.heap.size w w':=by
 obtain⟨p,c,n,U⟩:∃(p:Option Addr) (c:Nat),v=.slice p L.length c/\Hid (∀i (r:ByteArray×ByteArray×ByteArray),L[i]?=some r->∃g,p=some ⟨g,0,none⟩/\g<w.heap.size/\w.cell? ⟨g,i *3,none⟩=some (.string r.1)/\w.cell? ⟨g,i *3+1,none⟩=some (.string r.2.1)/\w.cell? ⟨g,i *3+2,none⟩=some (.string r.2.2)):=by
  rcases A.2 with⟨rfl,O⟩|⟨g,cap,l,rfl,hB,J,o,s,u,x⟩
  ·refine⟨none,0,by rw[O],laid fun i r hr=>?_⟩;have:L=[]:=List.length_eq_zero_iff.1 O;subst this;simp at hr
  ·refine⟨some ⟨g,0,none⟩,cap,rfl,laid fun i r hr=>⟨g,rfl,(bq.1 J).1,?_⟩⟩;have h:=PM L i r hr;have f:=A.cells (g:=g) rfl;have f0:=f _ _ h.1;have f1:=f _ _ h.2.1;have f2:=f _ _ h.2.2;rw[yf]at f0 f1 f2;exact⟨f0,f1,f2⟩
 subst n;have z:=laid hs;have T:=laid (fun(S:ByteArray) (W:ae) (h:S.size<=1000)=>Xa k q st S W h);clear A hs
 go_enter Tryz.func59,Tryz.ntmps59
 go_wp2
 have O:Hid (FC (w.alloc (.cells #[.int .i64 k,.int .i64 q,.int .i64 st] 75)) w.heap.size k q st):=laid (aM w _)
 go_loopw [9] (fun iv wr=>∃i:Nat,iv=.int .i64 (i:Int)/\i<=L.length/\Hid (oY k (L.take i)=true)/\FC wr w.heap.size k q st/\ai w.heap.size w wr) (fun iv _=>L.length-(intOf iv).toNat)
 case atStart=>exact⟨0,rfl,bT _,laid rfl,O.out,(aB _ _).alloc (ar _) _⟩
 case round=>
  obtain⟨i,rfl,m,M,C,Y⟩:=hrel;clear O;by_cases Z:i<L.length
  ·obtain⟨r,hr⟩:∃r,L[i]?=some r:=⟨L[i],aO Z⟩;obtain⟨g,rfl,J,E,G,j⟩:=U.out i r hr;have Q:=z.out r (bZ hr);have I:Hid (L.take (i+1)=L.take i++[r]):=laid (by rw[dC,hr];rfl);have K:=laid (bZ hr);obtain⟨b,rb,t⟩:=r;simp only at E G j Q;have c0:wr.cell? ⟨g,i *3,none⟩=some (.string b):=by rw[Y.cell (p:=⟨g,i *3,none⟩) J];exact E
   have c1:wr.cell? ⟨g,i *3+1,none⟩=some (.string rb):=by rw[Y.cell (p:=⟨g,i *3+1,none⟩) J];exact G
   have c2:wr.cell? ⟨g,i *3+2,none⟩=some (.string t):=by rw[Y.cell (p:=⟨g,i *3+2,none⟩) J];exact j
   have y:g<wr.heap.size:=aD J Y.size;have X:w.heap.size<wr.heap.size:=(bq.1 C).1;have z0:wr.cell? ⟨w.heap.size,0,none⟩=some (.int .i64 k):=by rw[au wr _ 0 _ _ _ C];rfl
   have z1:wr.cell? ⟨w.heap.size,1,none⟩=some (.int .i64 q):=by rw[au wr _ 1 _ _ _ C];rfl
   have z2:wr.cell? ⟨w.heap.size,2,none⟩=some (.int .i64 st):=by rw[au wr _ 2 _ _ _ C];rfl
   have a:(i:Int)<(L.length:Int):=by omega
   have b2:(0:Int)<=(i:Int):=by omega
   have x1:bW.wrap ((i:Int)+1)=(i:Int)+1:=dt _ (by omega);have d:=laid C;clear hr E G j C;go_wp2_with fail
   refine(T.out rb _ Q).mono ?_;rintro e w2 ⟨rfl,P⟩;have H:ai wr.heap.size wr w2:=((aB _ _).alloc (ar _) _).trans (P.mono (by simp));have F:FC w2 w.heap.size k q st:=by unfold FC;rw[H.block _ X];exact d.out
   have D:ai w.heap.size w w2:=Y.trans (H.mono Y.size);clear P H;by_cases R:k<(rb.size:Int)
   ·have N:Hid (oY k (L.take (i+1))=true):=laid (by
     rw[I.out];unfold oY;rw[List.all_append];have:=M.out;unfold oY at this;rw[this];simp[R])
    have V:=laid F;rw[decide_eq_true R];clear F I K M;go_wp2
    go_roundw
    case rel=>go_light;exact⟨i+1,by go_num,by omega,N,V.out,D⟩
    case measure=>go_light;simp[intOf];omega
   ·have N:Hid (oY k L=false):=laid (by
     unfold oY;rw[List.all_eq_false];exact⟨_,K.out,by simpa using R⟩)
    rw[decide_eq_false R];clear F I K M R;go_wp2
    go_ret
    exact⟨oZ N.out.symm,D⟩
  ·have N:Hid (oY k L=true):=laid (by
    have:=M.out;rw[List.take_of_length_le (by omega)]at this;exact this)
   clear M C;go_wp2
   go_ret
   exact⟨oZ N.out.symm,Y⟩
end
end Go.Proofs.YtdcjnhipenbcfaaGreatDoor
