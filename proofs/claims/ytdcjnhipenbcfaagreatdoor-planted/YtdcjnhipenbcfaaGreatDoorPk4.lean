/-
  Own text. Part 4 of what the claim rests on.
-/
import Derived.Test.YtdcjnhipenbcfaaGreatDoorPk3
import Derived.Maps.OwnSet
import Derived.Conc.Events
import Derived.Shelf.Strings.OnBuilder
import Derived.Shelf.SlIterI.Nil
import Derived.Shelf.SortM.Plain
import Derived.Shelf.SortM.SortNone
import Derived.Ground.GgzProg
import Derived.Ground.SlgmProg
import Derived.Test.YtdcjnhipenbcfaaGreatDoorProg
import Derived.Shelf.Strings.Builder1
import Derived.Shelf.Small.Strs
import Derived.Shelf.LaysM
import Derived.Shelf.Strconv.Itoa3
import Derived.OwnWalk
import Derived.Deep.RegionHeld3
import Derived.Laws.BytesString
import Derived.Maps.RangeWalk
import Derived.Maps.OwnOps
import Derived.Maps.Views
import Derived.Lib.MinMax
import Derived.Sort.KeysCollected
set_option linter.unusedVariables false
set_option linter.unusedSectionVars false
set_option linter.unusedSimpArgs false
set_option maxRecDepth 100000
set_option maxHeartbeats 16000000
open Array renaming getElem?_eq_getElem->bc,getElem?_eq_some_iff->bu,getElem?_eq_none->bU,getElem?_setIfInBounds_ne->cG,replicate->cH,getD->dq,getElem?_map->dt,length_toList->du,getElem?_setIfInBounds_self_of_lt->eH,getElem_append->eI,getElem_setIfInBounds_ne->eK,getElem_setIfInBounds_self->eL
open Bool renaming not_eq_true->bk,not_eq_false'->eN
open ByteArray renaming size_extract->cI
open Go renaming World->ae,Value->ah,Frame->aj,undef->ak,Calls->ao,cell_of_row->au,execOp->ax,Goroutine->ay,heap_alloc_old->aL,heap_alloc_new->aP,Program->aQ,maxLen->aT,stepG->aX,frozen_of_row->a_,DataW->bg,block_lt_of_cell->bh,TypeId->bt,Deferred->bA,heap_setCell_same->bT,results->b_,Trace->cu,bodyPost_ret->cB,typeInfo->cD,zeroValue->cE,grownCap->de,MapEntry->dI,Operand->dL,info_parts->eu,madeCells->ew,plainElem_int->ey,plainElem_int_inv->ez,yielded->eG,length_sorted->alT,wpList_append_own->alY,wpList_lookup_own_int->alZ
open Go.Act renaming eval->dp
open Go.Conc renaming run_eq_of->aH,stepG_seq->bj,listed_nil->cC,Deaf_other->cJ,mem_listed->dh,opsC_unwanted->di,seen_none->dj,stepG_cond->dk,runT_crowd_go->alU,woken_quitsD->alX
open Go.DataW renaming put_eq->eP
open Go.Ending renaming returned->cK
open Go.Instr renaming mapUpdate->aN,lookup->aY,findNow->bV,findKey->dx,checkKey->eQ,keyThatStays->eR,makeFunc->eS,makeSlice->eT,sameBits->eU,sameNow->eV
open Go.IntKind renaming i64->cf
open Go.IntWalk renaming i64_in->dz,wrap64_in->eY
open Go.Lib renaming IsBuilder->bB,byteCells->bC,indexByte->bF,cell_of_heap->cg,strCells->cL,BuilderAt->dA,frozen_of_heap->e_
open Go.Lib.BuilderAt renaming put->eZ
open Go.MapKept renaming run_getObj_map->bW,run_setObj_map->fq
open Go.Maps renaming keyOf_str->ft
open Go.MemAct renaming ofEvent->cm,touch?->cT
open Go.MemOp renaming ofEvents->fv
open Go.Oper renaming upon_value->alf
open Go.Proofs.Builder renaming Extra->eO
open Go.Proofs.Tryz renaming prog->af,underlying3->aO,underlying9->aW,f140->aZ,isAgg3->bp,sizeOf3->bq,zeroValue3->br,underlying79->bD,func45->bL,isAgg0->bM,ntmps45->bN,sizeOf0->bO,underlying0->bP,underlying5->bQ,zeroValue0->bR,underlying100->bZ,isAgg5->cv,isAgg9->cw,sizeOf5->cx,sizeOf9->cy,zeroValue5->cz,zeroValue9->cA,isAgg4->cW,isAgg79->cX,sizeOf4->cY,sizeOf79->cZ,underlying113->c7,underlying4->c9,zeroValue4->c_,zeroValue79->da,func58->dO,func89->dP,isAgg100->dQ,isAgg102->dR,isAgg25->dU,ntmps58->dV,ntmps89->dW,results58->dX,sizeOf100->dY,sizeOf102->dZ,sizeOf25->d_,underlying102->ec,underlying159->ed,underlying25->ef,zeroValue100->eg,zeroValue102->eh,zeroValue25->ei,func113->ali,func152->alj,isAgg139->alk,isAgg170->alm,isAgg176->aln,isAgg185->alo,isAgg20->alq,isAgg204->alr,ntmps19->als,ntmps41->alu,results41->alv,sizeOf139->alw,sizeOf170->alx,sizeOf176->aly,sizeOf185->alz,sizeOf20->alA,sizeOf204->alB,underlying139->alE,underlying170->alF,underlying176->alG,underlying185->alH,underlying20->alI,underlying204->alJ,zeroValue139->alK,zeroValue170->alL,zeroValue176->alM,zeroValue185->alN,zeroValue20->alO,zeroValue204->alP
open Go.Proofs.YtdcjnhipenbcfaaGreatDoor.Ph.Tz renaming lz->az
open Go.Proofs.YtdcjnhipenbcfaaGreatDoor.Ph.iE renaming closes->et
open Go.Proofs.YtdcjnhipenbcfaaGreatDoor.Ren.gL renaming tree->dc
open Go.Proofs.YtdcjnhipenbcfaaGreatDoor.Ren.gU renaming trans->bE,refl->ep
open Go.Region renaming wanted->dM,noSelect->alg,ready->alh
open Go.RowKit renaming Below->ai
open Go.RowKit.Below renaming refl->aI,heap_alloc->eM
open Go.Sem renaming events->aV
open Go.Value renaming chan->ek,int->eo
open Go.WideAt renaming IsKeyLit->alQ
open Go.World renaming cell?->aM,cell?_alloc_past->db,frozen?->alR
open Int renaming ofNat_lt->dy,natCast_emod->eW,toNat_of_nonneg->eX
open List renaming length_append->aK,getElem?_eq_getElem->aU,countP_append->bm,length_nil->bG,nil_append->bH,length_cons->cj,mem_of_getElem?->ck,cons_append->cM,foldl_cons->cO,getD_eq_getElem?_getD->cP,length_map->cQ,mem_map->cR,mem_singleton->cS,drop_eq_getElem_cons->dB,length_singleton->dC,length_take->dD,mem_append->dE,range->dG,take_add_one->dH,append_assoc->fa,contains_iff_mem->fb,getElem?_map->fc,getElem?_toArray->fe,nodup_nil->ff,range_succ->fh,take_left'->fi,take_length->fj
open Nat renaming le_refl->ar,lt_of_lt_of_le->aJ,le_trans->bI,zero_le->bK,not_lt_zero->bX,zero_add->bY,lt_of_not_le->cU,mod_lt->cV,le_of_eq->dJ,lt_or_ge->dK,add_sub_cancel->fy,add_sub_cancel_left->alb,eq_zero_or_pos->alc,lt_irrefl->ald,mul_le_mul->ale
open Option renaming map_eq_some_iff->cn
open UInt8 renaming ofNat->ej
namespace Go.Proofs.YtdcjnhipenbcfaaGreatDoor
variable {NM ref s:ByteArray}{f f1:aj}{fn:FuncId}{g1:ay}{cs l:List aj}{k0 kk:List Item}{L R ks l1 l2:List Nat}{Z:Loc->Prop}{Fd cap clock fuel i j m n p q r u y z:Nat}{XX:Nat->Nat->Prop}{RO S X':Nat->Prop}{t t':bt}{v work:ah}{w w' w2 wr:ae}
namespace Ph
open Conc Ren
def kg(Fd b5:Nat)(v1 K A B:ah)(u:Nat->ah):=#[.pointer (some ⟨Fd,0,none⟩),v1,u 2,u 3,u 4,.pointer (some ⟨b5,0,none⟩),u 6,u 7,u 8,u 9,u 10,u 11,u 12,u 13,u 14,K,A,B,u 18,u 19,u 20,u 21,u 22,u 23,u 24,u 25,u 26,u 27,u 28,u 29,u 30,u 31,u 32,u 33,u 34,u 35,u 36,u 37,u 38,u 39,u 40,u 41,u 42,u 43,u 44,u 45,u 46,u 47]
theorem AZ(Fd b5:Nat)(v1 UJ UK UL a2 a3 a4 a6 a7 a8 a9 K A B C F M N a20 O a22 a23 a24 a25 a26 a27 a28 T V a31 a32 a33 G a35 a36 a37 W h a40 a41 UM UN a44 UO a46 UP:ah):#[.pointer (some ⟨Fd,0,none⟩),v1,a2,a3,a4,.pointer (some ⟨b5,0,none⟩),a6,a7,a8,a9,K,A,B,C,F,UJ,UK,UL,M,N,a20,O,a22,a23,a24,a25,a26,a27,a28,T,V,a31,a32,a33,G,a35,a36,a37,W,h,a40,a41,UM,UN,a44,UO,a46,UP]=kg Fd b5 v1 UJ UK UL (fun i=>[.tuple #[],.tuple #[],a2,a3,a4,.tuple #[],a6,a7,a8,a9,K,A,B,C,F,.tuple #[],.tuple #[],.tuple #[],M,N,a20,O,a22,a23,a24,a25,a26,a27,a28,T,V,a31,a32,a33,G,a35,a36,a37,W,h,a40,a41,UM,UN,a44,UO,a46,UP].getD i (.tuple #[])):=rfl
noncomputable def LU:=match aZ.body with
 |some (.seq _ (.seq _ (.seq _ (.block _ (.loop (.seq _ (.seq _ (.seq (.block _ (.seq _ (.seq Y _))) _))))))))=>Y
 |_=>.skip
structure AF(Fd Mp b5:Nat)(e d:Int)(o:Option Obj)(w:ae):Prop where
 m:w.cell? ⟨Fd,2,none⟩=some (.map (some Mp))
 c0:w.cell? ⟨b5,0,none⟩=some (.int .i64 e)
 c1:w.cell? ⟨b5,1,none⟩=some (.int .i64 d)
 o:w.heap[Mp]?=o
section
variable{U:Nat->Nat->Prop}{S X:Nat->Prop}{Fd Mp b5:Nat}{e d:Int}{o:Option Obj}
theorem tO{es:Array _}(h:∀e∈es,(∃a:Addr,e.loc=.cell a/\e.sync=false/\e.write=false/\S a.block/\¬U a.block a.off)\/∃b,e.loc=.obj b/\e.sync=false/\e.write=false/\S b):DU U S X w w es:=
 ⟨⟨fun _ _ _=>rfl,ar _,fun a=>⟨.inl,fun h=>h.resolve_right fun y=>by omega⟩,fun a=>⟨.inl,fun h=>h.resolve_right fun y=>by omega⟩,fun e H=>by
  rcases h e H with⟨a,I,h2,K,Y,D⟩|⟨b,I,h2,K,Y⟩
  ·exact .inl ⟨a,I,h2,.inl ⟨Y,fun y=>by simp_all⟩⟩
  ·exact .inr (.inl ⟨b,I,h2,.inl ⟨Y,fun y=>by simp_all⟩⟩),rfl,.refl _,rfl⟩,fun e H b hb=>by
  rcases h e H with⟨a,I,h2,K,Y,D⟩|⟨b,I,h2,K,Y⟩
  ·simp_all
  ·simp_all⟩
theorem lets:LetsDraw (DU U S X):=fun w=>⟨⟨fun _ _ _=>rfl,ar _,fun a=>⟨.inl,fun h=>h.resolve_right fun y=>by have I:=y.1;have h2:=y.2;exact absurd h2 (Nat.not_lt.2 I)⟩,fun a=>⟨.inl,fun h=>h.resolve_right fun y=>by have I:=y.1;have h2:=y.2;exact absurd h2 (Nat.not_lt.2 I)⟩,fun e Y=>by simp_all,rfl,.refl _,rfl⟩,fun e Y=>by simp_all⟩
theorem TX(w:ae):RU U S w {w with drawn:=w.drawn+1}:=⟨fun a _=>.inl rfl,ar _,.refl _⟩
structure uf(U:Nat->Nat->Prop)(S:Nat->Prop)(Fd Mp b5:Nat):Prop where
 fd:S Fd
 mp:S Mp
 b:S b5
 u2:¬U Fd 2
 ub:∀i,¬U b5 i
 um:∀i,¬U Mp i
theorem qz{w1:ae}{b:Nat}(K:S b)(A:¬U b i)(h:w.cell? ⟨b,i,none⟩=some v)(r:RU U S w w1):w1.cell? ⟨b,i,none⟩=some v:=by
 rcases r.kept b K with I|⟨c,c2,t,fz,_,h2,Y,H,D,_⟩
 ·simp only[aM]at h⊢;simp_all
 ·simp only[aM]at h⊢;simp_all
theorem AF.rely(H:uf U S Fd Mp b5){w w1:ae}(h:AF Fd Mp b5 e d o w)(r:RU U S w w1):AF Fd Mp b5 e d o w1:=
 ⟨qz H.fd H.u2 h.m r,qz H.b (H.ub 0) h.c0 r,qz H.b (H.ub 1) h.c1 r,((r.kept Mp H.mp).eq H.um).trans h.o⟩
theorem tk(H:uf U S Fd Mp b5){A:Act->Prop}{P:aQ}{md:Region.Mode}{ops:Array _}{K:Oper}{li:Array _}{a:Act}(F:ops[i]?=some K)
  (M:alg ops=true)(C:Region.free md ops li i=true)(hr:(alh md ops li).contains i=true)
  (N:YieldsIfC P (DU U S X) fn ops (AF Fd Mp b5 e d o) K v a)(B:AF Fd Mp b5 e d o w)(h:AnyCH P (RU U S) (DU U S X) fn md ops (fun ex a' w'=>ex=.normal/\A a'/\AF Fd Mp b5 e d o w') (AF Fd Mp b5 e d o) fuel (li.setIfInBounds i true) (a.put K.dst v) w):
  AnyCH P (RU U S) (DU U S X) fn md ops (fun ex a' w'=>ex=.normal/\A a'/\AF Fd Mp b5 e d o w') (AF Fd Mp b5 e d o) (fuel+1) li a w:=
 anyCH_take jH (fun _ _ h r=>AF.rely H h r) (fun _ _ _ h r=>⟨h.1,h.2.1,AF.rely H h.2.2 r⟩) F M C hr N B h
theorem ai8(H:uf U S Fd Mp b5)(dd:List bA)(v1 B C F:ah)(u:Nat->ah)(x:Int)(bo:Bool)(N:∀w,AF Fd Mp b5 e d o w->(aY 166 (.map (some Mp)) (.int .i64 e) true).run af w=.ok (.tuple #[.int .i64 x,.bool bo]) w)
  (M:∀w,AF Fd Mp b5 e d o w->∀ev∈aV af (aY 166 (.map (some Mp)) (.int .i64 e) true) w #[],ev.loc=.obj Mp/\ev.sync=false/\ev.write=false):
  ∃k,∀w,AF Fd Mp b5 e d o w->LU.wpC af false (RU U S) (DU U S X) 140 k (fun ex a' w'=>ex=.normal/\(∃A,A 6=.int .i64 x/\A 7=.bool bo/\a'=⟨kg Fd b5 v1 B C F A,dd⟩)/\AF Fd Mp b5 e d o w') ⟨kg Fd b5 v1 B C F u,dd⟩ w:=by
 have D:∀(t:Array ah) (A:Nat->ah) (w':ae),t=kg Fd b5 v1 B C F A->A 6=.int .i64 x->A 7=.bool bo->AF Fd Mp b5 e d o w'->(fun(a':Act)=>∃A,A 6=.int .i64 x/\A 7=.bool bo/\a'=⟨kg Fd b5 v1 B C F A,dd⟩) ⟨t,dd⟩:=fun t A w' P Q T _=>⟨A,Q,T,by rw[P]⟩;generalize R:(fun(a':Act)=>∃A,A 6=.int .i64 x/\A 7=.bool bo/\a'=⟨kg Fd b5 v1 B C F A,dd⟩)=O at D;rw[show(fun(ex:Exit) (a':Act) (w':ae)=>ex=.normal/\(∃A,A 6=.int .i64 x/\A 7=.bool bo/\a'=⟨kg Fd b5 v1 B C F A,dd⟩)/\AF Fd Mp b5 e d o w')=fun ex a' w'=>ex=.normal/\O a'/\AF Fd Mp b5 e d o w' by rw[<-R]];clear R
 co_apply Exists.intro
 intro w hF;unfold LU aZ;dsimp only;rw[show kg Fd b5 v1 B C F u=_ from rfl];simp only[kg];have Z:∀{w w1:ae},AF Fd Mp b5 e d o w->RU U S w w1->AF Fd Mp b5 e d o w1:=fun h r=>AF.rely H h r
 co_held (jH (U:=U) (S:=S) (X:=X)) lets TX (AF Fd Mp b5 e d o) Z hF
 refine tk H (i:=0) (v:=.pointer (some ⟨Fd,0,none⟩)) rfl (by decide+kernel) (by decide+kernel) (by decide+kernel) (.inl ⟨by rfl,fun w2 hw=>⟨aH (fun K Y=>by go_simp;exact Y),by co_quiet (jH (U:=U) (S:=S) (X:=X))⟩⟩) hF ?_;try walk_nrm
 refine tk H (i:=1) (v:=.pointer (some ⟨Fd,0,none⟩)) rfl (by decide+kernel) (by decide+kernel) (by decide+kernel) (.inl ⟨by rfl,fun w2 hw=>⟨aH (fun K Y=>by go_simp;exact Y),by co_quiet (jH (U:=U) (S:=S) (X:=X))⟩⟩) hF ?_;try walk_nrm
 refine tk H (i:=2) (v:=.pointer (some ⟨Fd,2,none⟩)) rfl (by decide+kernel) (by decide+kernel) (by decide+kernel) (.inl ⟨by rfl,fun w2 hw=>⟨aH (fun K Y=>by go_simp;exact Y),by co_quiet (jH (U:=U) (S:=S) (X:=X))⟩⟩) hF ?_;try walk_nrm
 refine tk H (i:=3) (v:=.map (some Mp)) rfl (by decide+kernel) (by decide+kernel) (by decide+kernel) (.inl ⟨by rfl,fun w2 hw=>⟨aH (fun K Y=>by have I:=hw.m;go_simp;exact Y),tO (by have I:=hw.m;co_evs (exact .inl ⟨_,rfl,rfl,rfl,H.fd,H.u2⟩))⟩⟩) hF ?_;try walk_nrm
 refine tk H (i:=4) (v:=.pointer (some ⟨b5,0,none⟩)) rfl (by decide+kernel) (by decide+kernel) (by decide+kernel) (.inl ⟨by rfl,fun w2 hw=>⟨aH (fun K Y=>by go_simp;exact Y),by co_quiet (jH (U:=U) (S:=S) (X:=X))⟩⟩) hF ?_;try walk_nrm
 refine tk H (i:=5) (v:=.int .i64 e) rfl (by decide+kernel) (by decide+kernel) (by decide+kernel) (.inl ⟨by rfl,fun w2 hw=>⟨aH (fun K Y=>by have I:=hw.c0;go_simp;exact Y),tO (by have I:=hw.c0;co_evs (exact .inl ⟨_,rfl,rfl,rfl,H.b,H.ub 0⟩))⟩⟩) hF ?_;try walk_nrm
 refine tk H (i:=6) (v:=.tuple #[.int .i64 x,.bool bo]) rfl (by decide+kernel) (by decide+kernel) (by decide+kernel) (.inl ⟨by rfl,fun w2 hw=>⟨aH (fun K Y=>by have I:=N w2 hw;go_simp;exact Y),tO (by intro ev V;have L:=dh V;simp[go_sem]at L;have J:=M w2 hw ev L;exact .inr ⟨Mp,J.1,J.2.1,J.2.2,H.mp⟩)⟩⟩) hF ?_;try walk_nrm
 refine tk H (i:=7) (v:=.tuple #[.int .i64 x,.bool bo]) rfl (by decide+kernel) (by decide+kernel) (by decide+kernel) (.inl ⟨by rfl,fun w2 hw=>⟨aH (fun K Y=>by go_simp;exact Y),by co_quiet (jH (U:=U) (S:=S) (X:=X))⟩⟩) hF ?_;try walk_nrm
 refine tk H (i:=8) (v:=.int .i64 x) rfl (by decide+kernel) (by decide+kernel) (by decide+kernel) (.inl ⟨by rfl,fun w2 hw=>⟨aH (fun K Y=>by go_simp;exact Y),by co_quiet (jH (U:=U) (S:=S) (X:=X))⟩⟩) hF ?_;try walk_nrm
 refine tk H (i:=9) (v:=.bool bo) rfl (by decide+kernel) (by decide+kernel) (by decide+kernel) (.inl ⟨by rfl,fun w2 hw=>⟨aH (fun K Y=>by go_simp;exact Y),by co_quiet (jH (U:=U) (S:=S) (X:=X))⟩⟩) hF ?_;try walk_nrm
 refine tk H (i:=10) (v:=.int .i64 x) rfl (by decide+kernel) (by decide+kernel) (by decide+kernel) (.inl ⟨by rfl,fun w2 hw=>⟨aH (fun K Y=>by go_simp;exact Y),by co_quiet (jH (U:=U) (S:=S) (X:=X))⟩⟩) hF ?_;try walk_nrm
 refine tk H (i:=11) (v:=.bool bo) rfl (by decide+kernel) (by decide+kernel) (by decide+kernel) (.inl ⟨by rfl,fun w2 hw=>⟨aH (fun K Y=>by go_simp;exact Y),by co_quiet (jH (U:=U) (S:=S) (X:=X))⟩⟩) hF ?_;try walk_nrm
 refine anyCH_done (by first|kernel_rfl|decide+kernel) ?_ _;exact⟨rfl,D _ _ _ (AZ Fd b5 v1 B C F _ _ _ _ _ _ _ _ _ _ _ _ _ _ _ _ _ _ _ _ _ _ _ _ _ _ _ _ _ _ _ _ _ _ _ _ _ _ _ _ _ _) rfl rfl hF,hF⟩
end
noncomputable def LW:=match aZ.body with
 |some (.seq _ (.seq _ (.seq _ (.block _ (.loop (.seq _ (.seq _ (.seq (.block _ (.seq _ (.seq _ (.seq _ (.cond _ Y _))))) _))))))))=>Y
 |_=>.skip
structure AG(Fd Mp b5:Nat)(e d:Int)(w:ae):Prop where
 m:w.cell? ⟨Fd,2,none⟩=some (.map (some Mp))
 c0:w.cell? ⟨b5,0,none⟩=some (.int .i64 e)
 c1:w.cell? ⟨b5,1,none⟩=some (.int .i64 d)
section
variable{U:Nat->Nat->Prop}{S X:Nat->Prop}{Fd Mp b5:Nat}{e d:Int}{o:Option Obj}
theorem AG.rely(H:uf U S Fd Mp b5){w w1:ae}(h:AG Fd Mp b5 e d w)(r:RU U S w w1):AG Fd Mp b5 e d w1:=
 ⟨qz H.fd H.u2 h.m r,qz H.b (H.ub 0) h.c0 r,qz H.b (H.ub 1) h.c1 r⟩
theorem vU(H:uf U S Fd Mp b5){A:Act->Prop}{P:aQ}{md:Region.Mode}{ops:Array _}{K:Oper}{li:Array _}{a:Act}(F:ops[i]?=some K)
  (M:alg ops=true)(C:Region.free md ops li i=true)(hr:(alh md ops li).contains i=true)
  (N:YieldsIfC P (DU U S X) fn ops (AG Fd Mp b5 e d) K v a)(B:AG Fd Mp b5 e d w)(h:AnyCH P (RU U S) (DU U S X) fn md ops (fun ex a' w'=>ex=.normal/\A a'/\AF Fd Mp b5 e d o w') (AG Fd Mp b5 e d) fuel (li.setIfInBounds i true) (a.put K.dst v) w):
  AnyCH P (RU U S) (DU U S X) fn md ops (fun ex a' w'=>ex=.normal/\A a'/\AF Fd Mp b5 e d o w') (AG Fd Mp b5 e d) (fuel+1) li a w:=
 anyCH_take jH (fun _ _ h r=>AG.rely H h r) (fun _ _ _ h r=>⟨h.1,h.2.1,AF.rely H h.2.2 r⟩) F M C hr N B h
theorem ac4{P:aQ}{R:ae->ae->Prop}{D:ae->ae->Array _->Prop}{ops:Array _}{K:Act->ae->Prop}{a:Act}{o:Oper}(A:ops[i]?=some o)(hw:dM o (eG ops a.tmps)=true)
  (h:∀w1,R w w1->∀Z:Result _->Prop,(∀w',D w1 w' (listed P fn a o w1)->K (a.put o.dst ak) w'->Z (.ok .skip w'))->Z ((ax a.eval o).run P w1)):OpC P R D fn ops i K a w:=by
 unfold OpC;rw[A];dsimp only;rw[if_pos hw];exact fun w1 hr=>h w1 hr _ fun w' I h2=>⟨I,h2⟩
theorem H_{w1:ae}{b g:Nat}(h:Env.Eff g w w1)(hb:b≠g):w1.cell? ⟨b,i,none⟩=w.cell? ⟨b,i,none⟩:=by
 simp[aM];rw[h.heap b hb]
theorem ac5{w1:ae}{es:Array _}(hX:X Mp)(A:S Mp)(h:Env.Eff Mp w w1)(K:∀ev∈es,ev.loc=.obj Mp/\ev.sync=false):DU U S X w w1 es:=
 ⟨⟨fun a _ hx=>h.heap a fun e=>hx (e▸hX),dJ h.size.symm,fun a=>⟨.inl,fun y=>y.resolve_right fun z=>by have:=h.size;omega⟩,fun a=>⟨.inl,fun y=>y.resolve_right fun z=>by have:=h.size;omega⟩,fun ev Y=>.inr (.inl ⟨Mp,(K ev Y).1,(K ev Y).2,.inl ⟨A,fun _=>hX⟩⟩),h.tape,h.env,h.output⟩,fun ev Y a H=>by simp_all⟩
theorem ai9(H:uf U S Fd Mp b5)(hX:X Mp)(V:Fd≠Mp)(O:b5≠Mp)(dd:List bA)(v1 A B C:ah)(u:Nat->ah)(o':Option Obj)
  (LX:∀w,w.heap[Mp]?=o->∃v w',(aN 166 (.map (some Mp)) (.int .i64 e) (.int .i64 d)).run af w=.ok v w'/\Env.Eff Mp w w'/\w'.heap[Mp]?=o')
  (h:∀w,w.heap[Mp]?=o->∀ev∈aV af (aN 166 (.map (some Mp)) (.int .i64 e) (.int .i64 d)) w #[],ev.loc=.obj Mp/\ev.sync=false):
  ∃k,∀w,AF Fd Mp b5 e d o w->LW.wpC af false (RU U S) (DU U S X) 140 k (fun ex a' w'=>ex=.normal/\(∃F,a'=⟨kg Fd b5 v1 A B C F,dd⟩)/\AF Fd Mp b5 e d o' w') ⟨kg Fd b5 v1 A B C u,dd⟩ w:=by
 have I:∀(t:Array ah) (F:Nat->ah),t=kg Fd b5 v1 A B C F->(fun(a':Act)=>∃F,a'=⟨kg Fd b5 v1 A B C F,dd⟩) ⟨t,dd⟩:=fun t F g=>⟨F,by rw[g]⟩;generalize L:(fun(a':Act)=>∃F,a'=⟨kg Fd b5 v1 A B C F,dd⟩)=f at I;rw[show(fun(ex:Exit) (a':Act) (w':ae)=>ex=.normal/\(∃F,a'=⟨kg Fd b5 v1 A B C F,dd⟩)/\AF Fd Mp b5 e d o' w')=fun ex a' w'=>ex=.normal/\f a'/\AF Fd Mp b5 e d o' w' by rw[<-L]];clear L
 co_apply Exists.intro
 intro w R;have hF:AG Fd Mp b5 e d w:=⟨R.m,R.c0,R.c1⟩;have M:=R.o;clear R;unfold LW aZ;dsimp only;rw[show kg Fd b5 v1 A B C u=_ from rfl];simp only[kg]
 co_apply wpC_region_held (jH (U:=U) (S:=S) (X:=X)) lets (S:=AG Fd Mp b5 e d) (by first|kernel_rfl|rfl)
 intro w1 G;replace hF:=AG.rely H (AG.rely H hF G) (TX w1);replace M:=((G.kept Mp H.mp).eq H.um).trans M;replace M:({w1 with drawn:=w1.drawn+1}:ae).heap[Mp]?=o:=M;generalize({w1 with drawn:=w1.drawn+1}:ae)=r at *;clear G w1;refine vU H (i:=0) (v:=.pointer (some ⟨Fd,0,none⟩)) rfl (by decide+kernel) (by decide+kernel) (by decide+kernel) (.inl ⟨by rfl,fun w2 hw=>⟨aH (fun K Y=>by go_simp;exact Y),by co_quiet (jH (U:=U) (S:=S) (X:=X))⟩⟩) hF ?_;try walk_nrm
 refine vU H (i:=1) (v:=.pointer (some ⟨Fd,0,none⟩)) rfl (by decide+kernel) (by decide+kernel) (by decide+kernel) (.inl ⟨by rfl,fun w2 hw=>⟨aH (fun K Y=>by go_simp;exact Y),by co_quiet (jH (U:=U) (S:=S) (X:=X))⟩⟩) hF ?_;try walk_nrm
 refine vU H (i:=2) (v:=.pointer (some ⟨Fd,2,none⟩)) rfl (by decide+kernel) (by decide+kernel) (by decide+kernel) (.inl ⟨by rfl,fun w2 hw=>⟨aH (fun K Y=>by go_simp;exact Y),by co_quiet (jH (U:=U) (S:=S) (X:=X))⟩⟩) hF ?_;try walk_nrm
 refine vU H (i:=3) (v:=.map (some Mp)) rfl (by decide+kernel) (by decide+kernel) (by decide+kernel) (.inl ⟨by rfl,fun w2 hw=>⟨aH (fun K Y=>by have P:=hw.m;go_simp;exact Y),tO (by have P:=hw.m;co_evs (exact .inl ⟨_,rfl,rfl,rfl,H.fd,H.u2⟩))⟩⟩) hF ?_;try walk_nrm
 refine vU H (i:=4) (v:=.pointer (some ⟨b5,0,none⟩)) rfl (by decide+kernel) (by decide+kernel) (by decide+kernel) (.inl ⟨by rfl,fun w2 hw=>⟨aH (fun K Y=>by go_simp;exact Y),by co_quiet (jH (U:=U) (S:=S) (X:=X))⟩⟩) hF ?_;try walk_nrm
 refine vU H (i:=5) (v:=.int .i64 e) rfl (by decide+kernel) (by decide+kernel) (by decide+kernel) (.inl ⟨by rfl,fun w2 hw=>⟨aH (fun K Y=>by have P:=hw.c0;go_simp;exact Y),tO (by have P:=hw.c0;co_evs (exact .inl ⟨_,rfl,rfl,rfl,H.b,H.ub 0⟩))⟩⟩) hF ?_;try walk_nrm
 refine vU H (i:=6) (v:=.pointer (some ⟨b5,1,none⟩)) rfl (by decide+kernel) (by decide+kernel) (by decide+kernel) (.inl ⟨by rfl,fun w2 hw=>⟨aH (fun K Y=>by go_simp;exact Y),by co_quiet (jH (U:=U) (S:=S) (X:=X))⟩⟩) hF ?_;try walk_nrm
 refine vU H (i:=7) (v:=.int .i64 d) rfl (by decide+kernel) (by decide+kernel) (by decide+kernel) (.inl ⟨by rfl,fun w2 hw=>⟨aH (fun K Y=>by have P:=hw.c1;go_simp;exact Y),tO (by have P:=hw.c1;co_evs (exact .inl ⟨_,rfl,rfl,rfl,H.b,H.ub 1⟩))⟩⟩) hF ?_;try walk_nrm
 refine anyCH_all (rs:=[8]) (by decide+kernel) (by simp) fun i j=>?_;simp only[cS]at j;subst j;refine ac4 rfl (by rfl) fun w1 Q Z q=>?_;have N:w1.heap[Mp]?=o:=((Q.kept Mp H.mp).eq H.um).trans M;have J:=AG.rely H hF Q;obtain⟨v,w',c,D,E⟩:=LX w1 N;have l:=h w1 N;have T:AG Fd Mp b5 e d w':=⟨(H_ D V).trans J.m,(H_ D O).trans J.c0,(H_ D O).trans J.c1⟩;have W:=q w' (ac5 hX H.mp D fun ev p=>by
  have z:=dh p;simp[go_sem]at z;exact l ev z) ⟨T,anyCH_done (by first|kernel_rfl|decide+kernel) ⟨rfl,I _ _ (AZ Fd b5 v1 A B C _ _ _ _ _ _ _ _ _ _ _ _ _ _ _ _ _ _ _ _ _ _ _ _ _ _ _ _ _ _ _ _ _ _ _ _ _ _ _ _ _ _),T.m,T.c0,T.c1,E⟩ _⟩
 clear q
 go_simp
 exact W
end
noncomputable def BZ:=match aZ.body with
 |some (.seq _ (.seq _ (.seq _ (.block _ (.loop (.seq _ (.seq _ (.seq (.block _ (.seq _ (.seq _ (.seq Y _)))) _))))))))=>Y
 |_=>.skip
section
variable{U:Nat->Nat->Prop}{S X:Nat->Prop}{Fd Mp b5:Nat}{e d:Int}{o:Option Obj}
theorem ag9(H:uf U S Fd Mp b5)(dd:List bA)(v1 K A B:ah)(u:Nat->ah)(M:u 7=.bool false):
  ∃k,∀w,AF Fd Mp b5 e d o w->BZ.wpC af false (RU U S) (DU U S X) 140 k (fun ex a' w'=>ex=.normal/\(∃C,C 38=.bool true/\a'=⟨kg Fd b5 v1 K A B C,dd⟩)/\AF Fd Mp b5 e d o w') ⟨kg Fd b5 v1 K A B u,dd⟩ w:=by
 have Y:∀(t:Array ah) (C:Nat->ah) (w':ae),t=kg Fd b5 v1 K A B C->C 38=.bool true->AF Fd Mp b5 e d o w'->(fun(ex:Exit) (a':Act) w'=>ex=.normal/\(∃C,C 38=.bool true/\a'=⟨kg Fd b5 v1 K A B C,dd⟩)/\AF Fd Mp b5 e d o w') .normal ⟨t,dd⟩ w':=fun t C w' R I F=>⟨rfl,⟨C,I,by rw[R]⟩,F⟩
 co_apply Exists.intro
 intro w hF;simp only[kg,M];have D:∀{w w1:ae},AF Fd Mp b5 e d o w->RU U S w w1->AF Fd Mp b5 e d o w1:=fun h r=>AF.rely H h r
 co_reg (jH (U:=U) (S:=S) (X:=X))
 co_op D hF (co_quiet (jH (U:=U) (S:=S) (X:=X)))
 co_op D hF (co_quiet (jH (U:=U) (S:=S) (X:=X)))
 co_op D hF (co_quiet (jH (U:=U) (S:=S) (X:=X)))
 co_apply di (jH (U:=U) (S:=S) (X:=X)) rfl (by rfl)
 co_apply di (jH (U:=U) (S:=S) (X:=X)) rfl (by rfl)
 co_apply di (jH (U:=U) (S:=S) (X:=X)) rfl (by rfl)
 try walk_nrm
 co_apply di (jH (U:=U) (S:=S) (X:=X)) rfl (by rfl)
 co_op D hF (co_quiet (jH (U:=U) (S:=S) (X:=X)))
 co_apply opsC_nil (jH (U:=U))
 exact Y _ _ _ (AZ Fd b5 v1 K A B _ _ _ _ _ _ _ _ _ _ _ _ _ _ _ _ _ _ _ _ _ _ _ _ _ _ _ _ _ _ _ _ _ _ _ _ _ _ _ _ _ _) rfl hF
theorem afa(H:uf U S Fd Mp b5)(dd:List bA)(v1 K A B:ah)(u:Nat->ah)(N:u 7=.bool true)(x:Int)(M:u 6=.int .i64 x):
  ∃k,∀w,AF Fd Mp b5 e d o w->BZ.wpC af false (RU U S) (DU U S X) 140 k (fun ex a' w'=>ex=.normal/\(∃C,C 38=.bool (decide (d<x))/\a'=⟨kg Fd b5 v1 K A B C,dd⟩)/\AF Fd Mp b5 e d o w') ⟨kg Fd b5 v1 K A B u,dd⟩ w:=by
 have D:∀(t:Array ah) (C:Nat->ah) (w':ae),t=kg Fd b5 v1 K A B C->C 38=.bool (decide (d<x))->AF Fd Mp b5 e d o w'->(fun(ex:Exit) (a':Act) (w':ae)=>ex=.normal/\(∃C,C 38=.bool (decide (d<x))/\a'=⟨kg Fd b5 v1 K A B C,dd⟩)/\AF Fd Mp b5 e d o w') .normal ⟨t,dd⟩ w':=fun t C w' R I F=>⟨rfl,⟨C,I,by rw[R]⟩,F⟩
 co_apply Exists.intro
 intro w hF;unfold BZ aZ;dsimp only;simp only[kg,N,M];have Y:∀{w w1:ae},AF Fd Mp b5 e d o w->RU U S w w1->AF Fd Mp b5 e d o w1:=fun h r=>AF.rely H h r
 co_reg (jH (U:=U) (S:=S) (X:=X))
 co_op Y hF (co_quiet (jH (U:=U) (S:=S) (X:=X)))
 co_op Y hF (co_quiet (jH (U:=U) (S:=S) (X:=X)))
 co_op Y hF (co_quiet (jH (U:=U) (S:=S) (X:=X)))
 co_op Y hF (co_quiet (jH (U:=U) (S:=S) (X:=X)))
 co_opw Y hF (have J:=hF.c1) (exact tO (by have J:=hF.c1;co_evs (exact .inl ⟨_,rfl,rfl,rfl,H.b,H.ub 1⟩)))
 co_op Y hF (co_quiet (jH (U:=U) (S:=S) (X:=X)))
 co_op Y hF (co_quiet (jH (U:=U) (S:=S) (X:=X)))
 co_op Y hF (co_quiet (jH (U:=U) (S:=S) (X:=X)))
 co_apply opsC_nil (jH (U:=U) (S:=S) (X:=X))
 exact D _ _ _ (AZ Fd b5 v1 K A B _ _ _ _ _ _ _ _ _ _ _ _ _ _ _ _ _ _ _ _ _ _ _ _ _ _ _ _ _ _ _ _ _ _ _ _ _ _ _ _ _ _) rfl hF
end
section
variable{P:aQ}{main:Bool}{U:Nat->Nat->Prop}{D:(Nat->Prop)->(Nat->Prop)->ay->ae->Prop}{S X:Nat->Prop}{b:aj}{a:Act}{k:List Item}{cs:List aj}{w:ae}
theorem Tz.op{ops:Array _}{rest:List Nat}{o:Oper}(A:ops[i]?=some o)(hw:dM o (eG ops a.tmps)=true)(hk:b.kind≠.early)
  (h:∀w2,gU U S w w2->uponK o a (fun a' w'=>∃S1 X1,kz U S X w2 w' (listed P b.fn a o w2) S1 X1/\Tz P main U D S1 X1 (G (b.at a' (.inRegion ops rest::k)) cs) w') ((ax a.eval o).run P w2)):
  Tz P main U D S X (G (b.at a (.inRegion ops (i::rest)::k)) cs) w:=by
 refine Tz.one rfl fun w2 hr=>?_;have Y:(aX P main (G (b.at a (.inRegion ops (i::rest)::k)) cs) w2).goes fun K w' es=>∃S1 X1,kz U S X w2 w' es S1 X1/\Tz P main U D S1 X1 K w':=by
  refine goes_oper A hw hk ?_;have:=h w2 hr;revert this;cases(ax _ o).run P w2 with
  |ok x w'=>cases x<;>exact id
  |halt _ _=>exact id
 revert Y;generalize aX P _ _ w2=s;intro Y;cases s with
 |go K w' es=>
  obtain⟨S1,X1,I,h2⟩:=Y;exact⟨K,w',es,S1,X1,rfl,I,h2⟩
 |_=>exact Y.elim
theorem Tz.ya{ops:Array _}{rest:List Nat}{o:Oper}(A:ops[i]?=some o)(hw:dM o (eG ops a.tmps)=true)(hk:b.kind≠.early)
  (h:∀w2,gU U S w w2->∀K,(∀a' w',(∃S1 X1,kz U S X w2 w' (listed P b.fn a o w2) S1 X1/\Tz P main U D S1 X1 (G (b.at a' (.inRegion ops rest::k)) cs) w')->K a' w')->uponK o a K ((ax a.eval o).run P w2)):
  Tz P main U D S X (G (b.at a (.inRegion ops (i::rest)::k)) cs) w:=
 Tz.op A hw hk fun w2 hr=>h w2 hr _ fun _ _ x=>x
theorem Tz.quiet{g:ay}(K:g.status=.running)(e:∀w,aX P main g w=.go g1 w #[])(h:∀w2,gU U S w w2->Tz P main U D S X g1 w2):Tz P main U D S X g w:=
 Tz.one K fun w2 hr=>⟨g1,w2,#[],S,X,e w2,js _ _ _,h w2 hr⟩
theorem Tz.region{id:Nat}{ops:Array _}(h:∀w2,gU U S w w2->Tz P main U D S X (G (b.at a (.inRegion ops (dG ops.size)::k)) cs) w2):Tz P main U D S X (G (b.at a (.code (.region id ops false)::k)) cs) w:=
 Tz.quiet rfl (fun w=>stepG_region) h
theorem Tz.Hq{ops:Array _}(h:∀w2,gU U S w w2->Tz P main U D S X (G (b.at a k) cs) w2):Tz P main U D S X (G (b.at a (.inRegion ops []::k)) cs) w:=
 Tz.quiet rfl (fun w=>stepG_region_end) h
end
def mm(Fd:Nat)(v1 v5 K A B:ah)(u:Nat->ah):=#[.pointer (some ⟨Fd,0,none⟩),v1,u 2,u 3,u 4,v5,u 6,u 7,u 8,u 9,u 10,u 11,u 12,u 13,u 14,K,A,B,u 18,u 19,u 20,u 21,u 22,u 23,u 24,u 25,u 26,u 27,u 28,u 29,u 30,u 31,u 32,u 33,u 34,u 35,u 36,u 37,u 38,u 39,u 40,u 41,u 42,u 43,u 44,u 45,u 46,u 47]
noncomputable def LY:=match aZ.body with
 |some (.seq _ (.seq _ (.seq _ (.block _ (.loop (.seq _ (.seq _ (.seq (.block _ (.seq Y _)) _))))))))=>Y
 |_=>.skip
section
variable{U:Nat->Nat->Prop}{D:(Nat->Prop)->(Nat->Prop)->ay->ae->Prop}{S X:Nat->Prop}{Fd g:Nat}{e d:Int}
theorem Hr(o:Obj):kz U S X w (w.alloc o) #[] (fun a=>S a\/a=w.heap.size) (fun a=>X a\/a=w.heap.size):=by
 have H:(w.alloc o).heap.size=w.heap.size+1:=by simp
 refine⟨⟨fun a Y _=>aL w o Y,by omega,fun a=>?_,fun a=>?_,fun e K=>by simp_all,rfl,.refl _,rfl⟩,fun e K=>by simp_all⟩
 ·exact⟨fun h=>h.imp id fun y=>by omega,fun h=>h.imp id fun y=>by omega⟩
 ·exact⟨fun h=>h.imp id fun y=>by omega,fun h=>h.imp id fun y=>by omega⟩
theorem Ht{w1:ae}{b:Nat}{es:Array _}(B:S b)(hX:X b)(C:∀i,¬U b i)(h:Env.Eff b w w1)(A:∀ev∈es,∃a:Addr,ev.loc=.cell a/\ev.sync=false/\a.block=b):kz U S X w w1 es S X:=
 ⟨⟨fun a _ hx=>h.heap a fun e=>hx (e▸hX),dJ h.size.symm,fun a=>⟨.inl,fun y=>y.resolve_right fun z=>by have:=h.size;omega⟩,fun a=>⟨.inl,fun y=>y.resolve_right fun z=>by have:=h.size;omega⟩,fun ev K=>by
  obtain⟨a,I,h2,Y⟩:=A ev K;exact .inl ⟨a,I,h2,.inl ⟨Y▸B,fun _=>Y▸hX⟩⟩,h.tape,h.env,h.output⟩,fun ev K a H=>by
  obtain⟨a',I,h2,Y⟩:=A ev K;simp_all⟩
theorem sb{b:Nat}(v:ah):Env.Eff b w (w.setCell ⟨b,i,none⟩ v):=⟨fun a Y=>heap_setCell_other w _ a v Y,by simp,rfl,.refl _,rfl⟩
theorem CP{w1:ae}{b:Nat}(h:Env.Eff b w w1)(k:Env.Eff b w1 w2):Env.Eff b w w2:=⟨fun a Y=>(k.heap a Y).trans (h.heap a Y),k.size.trans h.size,k.tape.trans h.tape,k.env.trans h.env,k.output.trans h.output⟩
theorem ai_{b:aj}{k:List Item}(hb:b.fn=140)(hk:b.kind≠.early)(dd:List bA)(v1 v5 T:ah)(u:Nat->ah)(i n cap:Nat)(hi:i<n)(V:S g)
  (hc:∀w2,gU U S w w2->w2.cell? ⟨g,i *2,none⟩=some (.int .i64 e)/\w2.cell? ⟨g,i *2+1,none⟩=some (.int .i64 d))(h:∀i,¬U g i)(zX:∀b i,U b i->b<w.heap.size)(W:∀a,S a->a<w.heap.size)
  (cont:∀F w2 u',w.heap.size<=F->(∀i,¬U F i)->w2.cell? ⟨F,0,none⟩=some (.int .i64 e)->w2.cell? ⟨F,1,none⟩=some (.int .i64 d)->F<w2.heap.size->gU U S w w2->
   Tz af false U D (fun a=>S a\/a=F) (fun a=>X a\/a=F) (G (b.at ⟨kg Fd F v1 (.slice (some ⟨g,0,none⟩) n cap) T (.int .i64 (i:Int)) u',dd⟩ k) cs) w2):
  Tz af false U D S X (G (b.at ⟨mm Fd v1 v5 (.slice (some ⟨g,0,none⟩) n cap) T (.int .i64 (i:Int)) u,dd⟩ (.code LY::k)) cs) w:=by
 have b1:(i:Int)<(n:Int):=by omega
 have b2:(0:Int)<=(i:Int):=Int.natCast_nonneg _;unfold LY aZ;dsimp only;simp only[mm];refine Tz.region fun w1 L=>?_;refine Tz.ya rfl (by rfl) hk fun w2 M K H=>?_
 go_simp
 refine H _ _ ⟨S,X,?_,?_⟩
 ·rw[cC (by simp[go_sem, *])];exact js _ _ _
 clear H K;try walk_nrm
 refine Tz.ya rfl (by rfl) hk fun w3 N K H=>?_;obtain⟨x,m⟩:=hc w3 ((L.trans M).trans N)
 go_simp
 refine H _ _ ⟨S,X,tO fun ev f=>?_,?_⟩
 ·have E:=dh f;simp[go_sem, *]at E;rcases E with rfl|rfl
  ·exact .inl ⟨_,rfl,rfl,rfl,V,h _⟩
  ·exact .inl ⟨_,rfl,rfl,rfl,V,h _⟩
 clear H K;try walk_nrm
 refine Tz.ya rfl (by rfl) hk fun w4 q K H=>?_
 go_simp
 refine H _ _ ⟨_,_,(by rw[cC (by simp[go_sem, *])];exact Hr _),?_⟩;clear H K;try walk_nrm
 have C:∀i,¬U w4.heap.size i:=fun j v=>by
  have I:=zX _ _ v;have h2:=(((L.trans M).trans N).trans q).grow;omega
 have Z:(w4.alloc (.cells #[.int .i64 0,.int .i64 0] 173)).heap[w4.heap.size]?=some (.cells #[.int .i64 0,.int .i64 0] 173):=aP w4 _;refine Tz.ya rfl (by rfl) hk fun J O K H=>?_;have R:=((O.kept _ (.inr rfl)).eq C).trans Z;have f0:J.cell? ⟨w4.heap.size,0,none⟩=some (.int .i64 0):=by rw[au _ _ 0 _ _ _ R];rfl
 have f1:J.cell? ⟨w4.heap.size,1,none⟩=some (.int .i64 0):=by rw[au _ _ 1 _ _ _ R];rfl
 have z0:J.frozen? ⟨w4.heap.size,0,none⟩=false:=a_ _ _ 0 _ _ R;have t:J.frozen? ⟨w4.heap.size,1,none⟩=false:=a_ _ _ 1 _ _ R
 go_simp
 try(unfold stored;go_simp)
 have A:Env.Eff w4.heap.size J ((J.setCell ⟨w4.heap.size,0,none⟩ (.int .i64 e)).setCell ⟨w4.heap.size,1,none⟩ (.int .i64 d)):=CP (sb _) (sb _);have c:((J.setCell ⟨w4.heap.size,0,none⟩ (.int .i64 e)).setCell ⟨w4.heap.size,1,none⟩ (.int .i64 d)).heap[w4.heap.size]?=some (.cells #[.int .i64 e,.int .i64 d] 173):=by
  have I:=bT J w4.heap.size 0 _ _ (.int .i64 e) R;rw[bT _ w4.heap.size 1 _ _ (.int .i64 d) I];rfl
 refine H _ _ ⟨_,_,Ht (.inr rfl) (.inr rfl) C A fun ev f=>?_,?_⟩
 ·have E:=dh f;simp[go_sem, *]at E;rcases E with rfl|rfl
  ·exact⟨_,rfl,rfl,rfl⟩
  ·exact⟨_,rfl,rfl,rfl⟩
 clear H K;try walk_nrm
 refine Tz.Hq fun z P=>?_;have Y:=((L.trans M).trans N).trans q;have B:z.heap[w4.heap.size]?=some (.cells #[.int .i64 e,.int .i64 d] 173):=((P.kept _ (.inr rfl)).eq C).trans c;have l:w4.heap.size<z.heap.size:=cU fun y=>by rw[bU y]at B;cases B
 have o:∀a,S a->a≠w4.heap.size:=fun a Q ee=>by
  have I:=W a Q;have h2:=Y.grow;omega
 have p:gU U S w z:=by
  refine Y.trans ⟨fun a Q=>?_,by omega,?_⟩
  ·have r:=O.kept a (.inl Q);have s:=P.kept a (.inl Q);rw[aL w4 _ (by have I:=W a Q;have h2:=Y.grow;omega)]at r;rw[A.heap a (o a Q)]at s;exact r.trans s
  ·exact P.env.trans (A.env.trans O.env)
 rw[AZ Fd w4.heap.size v1 _ T _ _ _ _ _ _ _ _ _ _ _ _ _ _ _ _ _ _ _ _ _ _ _ _ _ _ _ _ _ _ _ _ _ _ _ _ _ _ _ _ _ _ _];exact cont w4.heap.size z _ Y.grow C (by rw[au _ _ 0 _ _ _ B];rfl) (by rw[au _ _ 1 _ _ _ B];rfl) l p
end
theorem Jf:kE PR (isAgg 214)=some false:=by kernel_rfl
theorem EG:kE PR (isAgg 3)=some false:=by kernel_rfl
theorem zB:(PR.funcs[137]?).any (·.norace)=false:=by kernel_rfl
theorem u213:PR.underlying 213=some (.slice (PR.elem 213)):=by kernel_rfl
theorem z213:(PR.info? (PR.elem 213)).map (·.size)=some 1:=by kernel_rfl
theorem u25:PR.underlying 25=some (.slice (PR.elem 25)):=by kernel_rfl
theorem z25:(PR.info? (PR.elem 25)).map (·.size)=some 1:=by kernel_rfl
theorem y1:yes lO=.code .skip::lO.tail:=by kernel_rfl
theorem n1:no lO=.code (.exit 0)::lO.tail:=by kernel_rfl
theorem y2:yes lZ=.code .skip::lZ.tail:=by kernel_rfl
theorem n2:no lZ=.code (.exit 2)::lZ.tail:=by kernel_rfl
theorem y3:yes l_=.code .skip::l_.tail:=by kernel_rfl
theorem n3:no l_=.code (.exit 4)::l_.tail:=by kernel_rfl
theorem t1:lO=.code (.cond (.tmp 18) .skip (.exit 0))::lO.tail:=by kernel_rfl
theorem t2:lZ=.code (.cond (.tmp 34) .skip (.exit 2))::lZ.tail:=by kernel_rfl
theorem t3:l_=.code (.cond (.tmp 49) .skip (.exit 4))::l_.tail:=by kernel_rfl
theorem ag_{b:Option _}{len Wg Gv:Nat}{J:Nat->ah}{c:aj}{cs:List _}:gS PR 3 ((dF FC (iA (gY b len cap) n work Wg Gv) J).finish unit) (c::cs)=(c.finish unit,cs):=by kernel_rfl
theorem Rh(P:aQ):∀n m f l,gS P (n+m) f l=gS P m (gS P n f l).1 (gS P n f l).2
 |0,m,f,l=>by rw[bY];rfl
 |n+1,m,f,l=>by
  rw[show n+1+m=(n+m)+1 by omega];cases e:oB P f l with
  |some x=>
   obtain⟨f1,l1⟩:=x;have I:gS P (n+m+1) f l=gS P (n+m) f1 l1:=by simp[gS,e]
   have h2:gS P (n+1) f l=gS P n f1 l1:=by simp[gS,e]
   rw[I,h2];exact Rh P n m f1 l1
  |none=>
   cases m with
   |zero=>rfl
   |succ m=>simp[gS,e]
theorem lN.less{site:List _}{s s':Nat->Option _}(h:lN fn n site s f)(K:∀i v,s' i=some v->s i=some v):lN fn n site s' f:=⟨h.fn,h.todo,h.defers,h.mode,h.kind,h.round,h.size,fun i v e=>h.slot i v (K i v e)⟩
theorem lN.kN{site vi:List _}{s:Nat->Option _}(h:lN fn n site s f):lN fn n vi s {f with todo:=vi}:=⟨h.fn,rfl,h.defers,h.mode,h.kind,h.round,h.size,h.slot⟩
theorem y_{a b:List _}(h:sA a i=some v):sA (a++b) i=some v:=by
 unfold sA at h⊢;rw[List.lookup_append,h];rfl
def oN(R:List Nat)(n:Nat):=(R.map (fun c=>ek (some c))++List.replicate (n-R.length) (ek none)).toArray
theorem abb(R:List Nat)(n:Nat)(h:R.length<=n):(oN R n).size=n:=by simp[oN];omega
theorem ac6(R:List Nat)(n c:Nat)(h:R.length<n):(oN R n).setIfInBounds R.length (.chan (some c))=oN (R++[c]) n:=by
 unfold oN;rw[show n-R.length=(n-(R++[c]).length)+1 by simp;omega,List.replicate_succ];simp
theorem IE{c:Nat}(h:R[i]?=some c):(oN R n)[i]?=some (.chan (some c)):=by
 unfold oN;have Y:=(List.getElem?_eq_some_iff.1 h).1;rw[fe,List.getElem?_append_left (by simp_all),fc,h];rfl
section
variable(E:Env)(RO:Nat->Prop)(j6:ae)(Gv n:Nat)
def sY(w:ae):=gU E.U RO j6 w
structure DW(R L:List Nat)(S X:Nat->Prop)(w:ae):Prop where
 ro:∀a,RO a->S a
 mR:∀a,RO a->¬X a
 gs:S Gv
 gx:X Gv
 gv:w.heap[Gv]?=some (.cells (oN R n) 214)
 fx:sY E RO j6 w
 low:∀a,S a->a<w.heap.size
 vV:∀c∈L,¬S c/\c<w.heap.size
end
section
variable{E:Env}{RO:Nat->Prop}{j6:ae}{Gv n:Nat}{R L:List Nat}{S X:Nat->Prop}{w w2:ae}
theorem DW.rely(A:∀i,¬E.U Gv i)(h:DW E RO j6 Gv n R L S X w)(hr:gU E.U S w w2):DW E RO j6 Gv n R L S X w2:=
 ⟨h.ro,h.mR,h.gs,h.gx,((hr.kept Gv h.gs).eq A).trans h.gv,bE h.fx ⟨fun a Y=>hr.kept a (h.ro a Y),hr.grow,hr.env⟩,fun a Y=>aJ (h.low a Y) hr.grow,fun c K=>⟨(h.vV c K).1,aJ (h.vV c K).2 hr.grow⟩⟩
theorem DW.lX(A:Gv≠E.Wg)(h:DW E RO j6 Gv n R L S X w){v wt ws v' il ig:Nat}(I:E.WgAt w v wt ws)(K:Env.Eff E.Wg w w2)(h2:E.WgAt w2 v' il ig):DW E RO j6 Gv n R L S X w2:=
 ⟨h.ro,h.mR,h.gs,h.gx,(K.heap _ A).trans h.gv,bE h.fx (Iz RO I h2 K),fun a Y=>by rw[K.size];exact h.low a Y,fun c H=>by rw[K.size];exact h.vV c H⟩
end
theorem AP(h:j<1000000000):cf.wrap (j+1)=((j+1:Nat)):=by
 rw[Go.IntWalk.i64_in _ (by omega)];omega
section
variable(E:Env)(RO:Nat->Prop)(j6:ae)(work:ah)(c:aj)(cs:List aj)
def TY(ch:Nat)(g:ay)(w:ae):=g=G (IA ch E.Wg work) []/\sY E RO j6 w
def TZ(S X:Nat->Prop)(g:ay)(w:ae):=∃n f l,g=G f l/\gS PR n f l=(c.finish unit,cs)/\sY E RO j6 w/\(∀a,RO a->S a)/\(∀a,RO a->¬X a)
end
section
variable{E:Env}{RO:Nat->Prop}{j6:ae}{Gv:Nat}{J:iE}{b:Option Addr}{cap:Nat}{work:ah}{c:aj}{cs:List aj}
structure Dl(E:Env)(RO:Nat->Prop)(j6:ae)(Gv:Nat)(J:iE)(b:Option Addr):Prop where
 n0:0<J.n
 n8:J.n<=8
 len:J.gP.length<1000000
 nu:∀i,¬E.U Gv i
 gw:Gv≠E.Wg
 gro:¬RO Gv
 LZ:RO E.Wg
 FO:E.po j6
 akv:∀a i,E.U a i->a<j6.heap.size
 num:∀i x:Nat,J.gP[i]?=some x->∃Nb o,b=some ⟨Nb,o,none⟩/\RO Nb/\¬E.U Nb (o+i)/\∀w,sY E RO j6 w->w.cell? ⟨Nb,o+i,none⟩=some (.int .i64 (x:Int))
abbrev qW(E:Env)(J:iE)(b:Option _)(cap:Nat)(work:ah)(Gv:Nat):=iA (gY b J.gP.length cap) J.n work E.Wg Gv
abbrev TD(E:Env)(RO:Nat->Prop)(j6:ae)(J:iE)(work:ah)(c:aj)(cs:List _)(k:Nat)(d:jK)(S X:Nat->Prop)(f:aj)(w:ae):=
 E.Tree PR true (E.lL PR J (TY E RO j6 work) (TZ E RO j6 c cs) k d) S X (G f (c::cs)) w
theorem aja(D:Dl E RO j6 Gv J b)(hL:L.length=J.n):∀(m i:Nat),i+m=J.n->∀(k:Nat) (S X:Nat->Prop) (f:aj) (w:ae),lN 137 55 l_ (sA (pJ (qW E J b cap work Gv) Gv J.n i)) f->f.tmps.getD 49 ak=.bool (decide (i<J.n))->DW E RO j6 Gv J.n L L S X w->
  TD E RO j6 J work c cs k (J.closes L i) S X f w:=by
 intro m;induction m with
 |zero=>
  intro i hi k S X f w H K hw;have W:J.closes L i=.kd:=by unfold et;rw[if_neg (by omega)]
  rw[W];rw[decide_eq_false (by omega)]at K;refine Tz.one rfl fun w1 M=>⟨_,w1,#[],S,X,yO H.mode H.round (by rw[H.kind];nofun) (H.todo.trans t3) K,js _ _ _,?_⟩;have C:lN 137 55 (no l_) (sA (pJ (qW E J b cap work Gv) Gv J.n i)) {f with todo:=.code (.exit 4)::l_.tail}:=by
   have:=H.kN (vi:=.code (.exit 4)::l_.tail);rw[<-n3]at this;rw[<-n3];exact this
  change E.Tree PR true _ S X (G {f with todo:=.code (.exit 4)::l_.tail} (c::cs)) w1;rw[C.eq];generalize(fun i=>({f with todo:=.code (.exit 4)::l_.tail}:aj).tmps.getD i ak)=R;refine az 60 fun w2 N=>?_;change E.Tree PR true _ S X (G (LB b J.gP.length cap J.n i E.Wg Gv work R (c::cs)).1 (LB b J.gP.length cap J.n i E.Wg Gv work R (c::cs)).2) w2;have Y:=kj (rc2 (b:=b) (len:=J.gP.length) (cap:=cap) (n:=J.n) (i:=i) (Wg:=E.Wg) (Gv:=Gv) (work:=work) (J:=R) (l:=c::cs)) rfl;rw[Y.callers,Y.fr.eq];refine Tz.pure 1 fun w3 O=>?_;rw[aiO];have y:=((hw.rely D.nu M).rely D.nu N).rely D.nu O;refine Env.aeX ⟨fun h hr=>h.rely D.nu hr,fun h=>Env.po.rely D.FO D.LZ h.fx,fun h I he h2=>h.lX D.gw I he h2⟩ (fun q f' l' w' hF hp=>?_) k y;exact⟨q+3,f',l',rfl,by rw[Rh,hp];exact ag_,hF.fx,hF.ro,hF.mR⟩
 |succ m ih=>
  intro i hi k S X f w H K hw;have Q:i<J.n:=by omega
  have W:J.closes L i=.close L i:=by unfold et;rw[if_pos (by omega)]
  rw[W];rw[decide_eq_true Q]at K;obtain⟨ch,U⟩:∃ch,L[i]?=some ch:=⟨L[i],aU (by omega)⟩;refine Tz.one rfl fun w1 M=>⟨_,w1,#[],S,X,yO H.mode H.round (by rw[H.kind];nofun) (H.todo.trans t3) K,js _ _ _,?_⟩;have C:lN 137 55 (yes l_) (sA (pJ (qW E J b cap work Gv) Gv J.n i)) {f with todo:=.code .skip::l_.tail}:=by
   have:=H.kN (vi:=.code .skip::l_.tail);rw[<-y3]at this;rw[<-y3];exact this
  change E.Tree PR true _ S X (G {f with todo:=.code .skip::l_.tail} (c::cs)) w1;rw[C.eq];generalize(fun i=>({f with todo:=.code .skip::l_.tail}:aj).tmps.getD i ak)=R;refine az 60 fun w2 N=>?_;change E.Tree PR true _ S X (G (FH b J.gP.length cap J.n i E.Wg Gv work R (c::cs)).1 (FH b J.gP.length cap J.n i E.Wg Gv work R (c::cs)).2) w2;have Y:=kj (ri5 (b:=b) (len:=J.gP.length) (cap:=cap) (n:=J.n) (i:=i) (Wg:=E.Wg) (Gv:=Gv) (work:=work) (J:=R) (l:=c::cs)) rfl;rw[Y.callers,Y.fr.eq];generalize(fun j=>(FH b J.gP.length cap J.n i E.Wg Gv work R (c::cs)).1.tmps.getD j ak)=V;clear Y;have x:=(hw.rely D.nu M).rely D.nu N;refine Tz.one rfl fun w3 O=>⟨_,w3,#[],S,X,AY (i:=i) aiV (B:=Gv) (o:=0) (n:=J.n) (cap:=J.n) rfl rfl Q u213 z213,js _ _ _,?_⟩;rw[bY];refine az 60 fun w4 d=>?_;change E.Tree PR true _ S X (G (FI b J.gP.length cap J.n i E.Wg Gv work V (c::cs)).1 (FI b J.gP.length cap J.n i E.Wg Gv work V (c::cs)).2) w4;have Y:=kj (rl5 (b:=b) (len:=J.gP.length) (cap:=cap) (n:=J.n) (i:=i) (Wg:=E.Wg) (Gv:=Gv) (work:=work) (J:=V) (l:=c::cs)) rfl;have ny:=Y.load;rw[Y.callers];rw[Y.fr.eq]at ny⊢;generalize(fun j=>(FI b J.gP.length cap J.n i E.Wg Gv work V (c::cs)).1.tmps.getD j ak)=Z at ny⊢;clear Y;have t:=(x.rely D.nu O).rely D.nu d;refine Tz.one rfl fun w5 g=>?_;have P:=t.rely D.nu g;have A:w5.cell? ⟨Gv,i,none⟩=some (.chan (some ch)):=by
   simp only[aM,P.gv];exact IE U
  refine⟨_,w5,_,S,X,tw ny Jf A zB,uO P.gs (D.nu _),?_⟩;refine az 60 fun w6 p=>?_;change E.Tree PR true _ S X (G (FJ b J.gP.length cap J.n i E.Wg Gv ch work Z (c::cs)).1 (FJ b J.gP.length cap J.n i E.Wg Gv ch work Z (c::cs)).2) w6;have Y:=kj (rcl (b:=b) (len:=J.gP.length) (cap:=cap) (n:=J.n) (i:=i) (Wg:=E.Wg) (Gv:=Gv) (ch:=ch) (work:=work) (J:=Z) (l:=c::cs)) rfl;rw[Y.callers,Y.fr.eq];generalize(fun j=>(FJ b J.gP.length cap J.n i E.Wg Gv ch work Z (c::cs)).1.tmps.getD j ak)=J4;clear Y;have a:=P.rely D.nu p;refine .stop ?_;cases k with
  |zero=>trivial
  |succ k=>
   refine⟨rfl,rfl,acU S4,ch,U,fun w7 s r gN=>⟨_,rfl,aeY S4 rfl gN zB,?_⟩⟩;have T:=a.rely D.nu r;have z:¬S ch:=(T.vV ch (ck U)).1;have e:DW E RO j6 Gv J.n L L S X (w7.setChan ch 0 #[] true s s false):=T.rely D.nu (wo z);refine az 60 fun w9 u=>?_;change E.Tree PR true _ S X (G _ (TS b J.gP.length cap J.n i E.Wg Gv ch work J4 (c::cs)).2) w9;have Y:=kj (akn (b:=b) (len:=J.gP.length) (cap:=cap) (n:=J.n) (i:=i) (Wg:=E.Wg) (Gv:=Gv) (ch:=ch) (work:=work) (J:=J4) (l:=c::cs)) rfl;have K6:=D.n8;have F:=Y.fr;rw[AP (by omega)]at F;rw[Y.callers];refine ih (i+1) (by omega) k S X _ w9 (F.less fun q v hv=>?_) ((F.slot 49 _ rfl).trans ?_) (e.rely D.nu u)
   ·exact y_ (b:=[(49,.bool _)]) hv
   ·simp only[dy]
theorem ajb(D:Dl E RO j6 Gv J b)(hL:L.length=J.n):∀(m i:Nat),i+m=J.gP.length->∀(k:Nat) (S X:Nat->Prop) (f:aj) (w:ae),lN 137 55 lZ (sA (pI (qW E J b cap work Gv) (gY b J.gP.length cap) J.gP.length i)) f->f.tmps.getD 34 ak=.bool (decide (i<J.gP.length))->DW E RO j6 Gv J.n L L S X w->
  TD E RO j6 J work c cs k (J.sends L i) S X f w:=by
 intro m;induction m with
 |zero=>
  intro i hi k S X f w R H hw;have u:J.sends L i=J.closes L 0:=by
   unfold iE.sends et;rw[if_neg (by omega),if_pos (by rw[hL];exact D.n0)]
  rw[u];rw[decide_eq_false (by omega)]at H;refine Tz.one rfl fun w1 N=>⟨_,w1,#[],S,X,yO R.mode R.round (by rw[R.kind];nofun) (R.todo.trans t2) H,js _ _ _,?_⟩;have F:lN 137 55 (no lZ) (sA (pI (qW E J b cap work Gv) (gY b J.gP.length cap) J.gP.length i)) {f with todo:=.code (.exit 2)::lZ.tail}:=by
   have:=R.kN (vi:=.code (.exit 2)::lZ.tail);rw[<-n2]at this;rw[<-n2];exact this
  change E.Tree PR true _ S X (G {f with todo:=.code (.exit 2)::lZ.tail} (c::cs)) w1;rw[F.eq];generalize(fun i=>({f with todo:=.code (.exit 2)::lZ.tail}:aj).tmps.getD i ak)=A;refine az 60 fun w2 O=>?_;change E.Tree PR true _ S X (G _ (UA b J.gP.length cap J.n i E.Wg Gv work A (c::cs)).2) w2;have Y:=kj (rk3 (b:=b) (len:=J.gP.length) (cap:=cap) (n:=J.n) (i:=i) (Wg:=E.Wg) (Gv:=Gv) (work:=work) (J:=A) (l:=c::cs)) rfl;rw[Y.callers];refine aja (cap:=cap) D hL J.n 0 (by omega) k S X _ w2 (Y.fr.less fun q v hv=>?_) ((Y.fr.slot 49 _ rfl).trans ?_) ((hw.rely D.nu N).rely D.nu O)
  ·exact y_ hv
  ·congr 1;simp
 |succ m ih=>
  intro i hi k S X f w R H hw;have I:i<J.gP.length:=by omega
  have u:J.sends L i=.send L i:=by unfold iE.sends;rw[if_pos I]
  rw[u];rw[decide_eq_true I]at H;obtain⟨x,hx⟩:∃x,J.gP[i]?=some x:=⟨J.gP[i],aU I⟩;obtain⟨Nb,o,hb,t,a,y⟩:=D.num i x hx;have V:i%J.n<J.n:=cV _ D.n0;obtain⟨ch,C⟩:∃ch,L[i%J.n]?=some ch:=⟨L[i%J.n],aU (by omega)⟩;have hlen:=D.len;refine Tz.one rfl fun w1 N=>⟨_,w1,#[],S,X,yO R.mode R.round (by rw[R.kind];nofun) (R.todo.trans t2) H,js _ _ _,?_⟩;have F:lN 137 55 (yes lZ) (sA (pI (qW E J b cap work Gv) (gY b J.gP.length cap) J.gP.length i)) {f with todo:=.code .skip::lZ.tail}:=by
   have:=R.kN (vi:=.code .skip::lZ.tail);rw[<-y2]at this;rw[<-y2];exact this
  change E.Tree PR true _ S X (G {f with todo:=.code .skip::lZ.tail} (c::cs)) w1;rw[F.eq];generalize(fun i=>({f with todo:=.code .skip::lZ.tail}:aj).tmps.getD i ak)=A;refine az 60 fun w2 O=>?_;change E.Tree PR true _ S X (G (FD b J.gP.length cap J.n i E.Wg Gv work A (c::cs)).1 (FD b J.gP.length cap J.n i E.Wg Gv work A (c::cs)).2) w2;have Y:=kj (ri3 (b:=b) (len:=J.gP.length) (cap:=cap) (n:=J.n) (i:=i) (Wg:=E.Wg) (Gv:=Gv) (work:=work) (J:=A) (l:=c::cs)) rfl;rw[Y.callers,Y.fr.eq];generalize(fun j=>(FD b J.gP.length cap J.n i E.Wg Gv work A (c::cs)).1.tmps.getD j ak)=T;clear Y;have rS:=(hw.rely D.nu N).rely D.nu O;have W:(dF BP (BQ (qW E J b cap work Gv) (gY b J.gP.length cap) J.gP.length i) T).eval (.tmp 31)=.slice (some ⟨Nb,o,none⟩) J.gP.length cap:=by
   show gY b J.gP.length cap=_
   rw[hb];rfl
  refine Tz.one rfl fun w3 h=>⟨_,w3,#[],S,X,AY (i:=i) aiT W rfl I u25 z25,js _ _ _,?_⟩;refine az 60 fun w4 e=>?_;change E.Tree PR true _ S X (G (FE b J.gP.length cap J.n i E.Wg Gv ⟨Nb,o+i,none⟩ work T (c::cs)).1 (FE b J.gP.length cap J.n i E.Wg Gv ⟨Nb,o+i,none⟩ work T (c::cs)).2) w4;have Y:=kj (rl3 (b:=b) (len:=J.gP.length) (cap:=cap) (n:=J.n) (i:=i) (Wg:=E.Wg) (Gv:=Gv) (p:=⟨Nb,o+i,none⟩) (work:=work) (J:=T) (l:=c::cs)) rfl;have ny:=Y.load;rw[Y.callers];rw[Y.fr.eq]at ny⊢;generalize(fun j=>(FE b J.gP.length cap J.n i E.Wg Gv ⟨Nb,o+i,none⟩ work T (c::cs)).1.tmps.getD j ak)=z at ny⊢;clear Y;have uu:=(rS.rely D.nu h).rely D.nu e;refine Tz.one rfl fun w5 zZ=>?_;have P:=uu.rely D.nu zZ;refine⟨_,w5,_,S,X,tw ny EG (y w5 P.fx) zB,uO (P.ro _ t) a,?_⟩;refine az 60 fun w6 z6=>?_;change E.Tree PR true _ S X (G (RR b J.gP.length cap J.n i x E.Wg Gv ⟨Nb,o+i,none⟩ work z (c::cs)).1 (RR b J.gP.length cap J.n i x E.Wg Gv ⟨Nb,o+i,none⟩ work z (c::cs)).2) w6;have Y:=kj (rr (b:=b) (len:=J.gP.length) (cap:=cap) (n:=J.n) (i:=i) (x:=x) (Wg:=E.Wg) (Gv:=Gv) (p:=⟨Nb,o+i,none⟩) (work:=work) (J:=z) (l:=c::cs)) rfl;rw[Y.callers,Y.fr.eq];generalize(fun j=>(RR b J.gP.length cap J.n i x E.Wg Gv ⟨Nb,o+i,none⟩ work z (c::cs)).1.tmps.getD j ak)=d;clear Y;have hw6:=P.rely D.nu z6;refine Tz.one rfl fun w7 z7=>⟨_,w7,#[],S,X,acT (i:=i) (n:=J.n) ako rfl rfl D.n0 (by omega),js _ _ _,?_⟩;generalize hm:i%J.n=K at C V⊢;refine az 60 fun w8 z8=>?_;change E.Tree PR true _ S X (G (FF b J.gP.length cap J.n i x K E.Wg Gv work d (c::cs)).1 (FF b J.gP.length cap J.n i x K E.Wg Gv work d (c::cs)).2) w8;have Y:=kj (ri4 (b:=b) (len:=J.gP.length) (cap:=cap) (n:=J.n) (i:=i) (x:=x) (m:=K) (Wg:=E.Wg) (Gv:=Gv) (work:=work) (J:=d) (l:=c::cs)) rfl;rw[Y.callers,Y.fr.eq];generalize(fun j=>(FF b J.gP.length cap J.n i x K E.Wg Gv work d (c::cs)).1.tmps.getD j ak)=g;clear Y;have UQ:=(hw6.rely D.nu z7).rely D.nu z8;refine Tz.one rfl fun w9 BV=>⟨_,w9,#[],S,X,AY (i:=K) aiU (B:=Gv) (o:=0) (n:=J.n) (cap:=J.n) rfl rfl V u213 z213,js _ _ _,?_⟩;rw[bY];refine az 60 fun wA FP=>?_;change E.Tree PR true _ S X (G (FG b J.gP.length cap J.n i x K E.Wg Gv work g (c::cs)).1 (FG b J.gP.length cap J.n i x K E.Wg Gv work g (c::cs)).2) wA;have Y:=kj (rl4 (b:=b) (len:=J.gP.length) (cap:=cap) (n:=J.n) (i:=i) (x:=x) (m:=K) (Wg:=E.Wg) (Gv:=Gv) (work:=work) (J:=g) (l:=c::cs)) rfl;have ny:=Y.load;rw[Y.callers];rw[Y.fr.eq]at ny⊢;generalize(fun j=>(FG b J.gP.length cap J.n i x K E.Wg Gv work g (c::cs)).1.tmps.getD j ak)=r at ny⊢;clear Y;have hwA:=(UQ.rely D.nu BV).rely D.nu FP;refine Tz.one rfl fun wB FQ=>?_;have Q:=hwA.rely D.nu FQ;have U:wB.cell? ⟨Gv,K,none⟩=some (.chan (some ch)):=by
   simp only[aM,Q.gv];exact IE C
  refine⟨_,wB,_,S,X,tw ny Jf U zB,uO Q.gs (D.nu _),?_⟩;refine az 60 fun wC hrC=>?_;change E.Tree PR true _ S X (G (RS b J.gP.length cap J.n i x K E.Wg Gv ch work r (c::cs)).1 (RS b J.gP.length cap J.n i x K E.Wg Gv ch work r (c::cs)).2) wC;have Y:=kj (rs (b:=b) (len:=J.gP.length) (cap:=cap) (n:=J.n) (i:=i) (x:=x) (m:=K) (Wg:=E.Wg) (Gv:=Gv) (ch:=ch) (work:=work) (J:=r) (l:=c::cs)) rfl;rw[Y.callers,Y.fr.eq];generalize(fun j=>(RS b J.gP.length cap J.n i x K E.Wg Gv ch work r (c::cs)).1.tmps.getD j ak)=J7;clear Y;have L0:=Q.rely D.nu hrC;refine .stop ?_;cases k with
  |zero=>trivial
  |succ k=>
   refine⟨rfl,rfl,ch,x,by rw[hm];exact C,hx,ak,fun wD s Z gN=>O4 akl,fun wD Z=>?_⟩;refine az 60 fun wE zT=>?_;change E.Tree PR true _ S X (G _ (TR b J.gP.length cap J.n i x E.Wg Gv ch work J7 (c::cs)).2) wE;have Y:=kj (akm (b:=b) (len:=J.gP.length) (cap:=cap) (n:=J.n) (i:=i) (x:=x) (Wg:=E.Wg) (Gv:=Gv) (ch:=ch) (work:=work) (J:=J7) (l:=c::cs)) rfl;have M:=Y.fr;rw[AP (by omega)]at M;rw[Y.callers];refine ih (i+1) (by omega) k S X _ wE (M.less fun q v hv=>?_) ((M.slot 34 _ rfl).trans ?_) ((L0.rely D.nu Z).rely D.nu zT)
   ·exact y_ (b:=[(34,.bool _)]) hv
   ·simp only[dy]
end
section
variable{E:Env}{RO:Nat->Prop}{j6:ae}{Gv:Nat}{J:iE}{b:Option Addr}{cap:Nat}{work:ah}{c:aj}{cs:List aj}
theorem ra{B:Nat}{row:Array _}(h:w.heap[B]?=some (.cells row t)):(w.setCell ⟨B,i,none⟩ v).heap[B]?=some (.cells (row.setIfInBounds i v) t):=Env.Av h
theorem ajc(D:Dl E RO j6 Gv J b):∀(m:Nat) (L:List Nat),L.length+m=J.n->∀(k:Nat) (S X:Nat->Prop) (f:aj) (w:ae),lN 137 55 lO (sA (oD (qW E J b cap work Gv) J.n L.length)) f->f.tmps.getD 18 ak=.bool (decide (L.length<J.n))->DW E RO j6 Gv J.n L L S X w->
  TD E RO j6 J work c cs k (J.kM L) S X f w:=by
 intro m;induction m with
 |zero=>
  intro L hL k S X f w N M hw;have e0:J.kM L=J.sends L 0:=by unfold iE.kM;rw[if_neg (by omega)]
  rw[e0];rw[show decide (L.length<J.n)=false from decide_eq_false (by omega)]at M;refine Tz.one rfl fun w1 d=>⟨_,w1,#[],S,X,yO N.mode N.round (by rw[N.kind];nofun) (N.todo.trans t1) M,js _ _ _,?_⟩;have V:lN 137 55 (no lO) (sA (oD (qW E J b cap work Gv) J.n L.length)) {f with todo:=.code (.exit 0)::lO.tail}:=by
   have:=N.kN (vi:=.code (.exit 0)::lO.tail);rw[<-n1]at this;rw[<-n1];exact this
  change E.Tree PR true _ S X (G {f with todo:=.code (.exit 0)::lO.tail} (c::cs)) w1;rw[V.eq];generalize(fun i=>({f with todo:=.code (.exit 0)::lO.tail}:aj).tmps.getD i ak)=O;refine az 60 fun w2 g=>?_;change E.Tree PR true _ S X (G _ (Uz b J.gP.length cap J.n L.length E.Wg Gv work O (c::cs)).2) w2;have Y:=kj (rk2 (b:=b) (len:=J.gP.length) (cap:=cap) (n:=J.n) (i:=L.length) (Wg:=E.Wg) (Gv:=Gv) (work:=work) (J:=O) (l:=c::cs)) rfl;rw[Y.callers];refine ajb (cap:=cap) D (by omega) J.gP.length 0 (by omega) k S X _ w2 (Y.fr.less fun q v hv=>?_) ((Y.fr.slot 34 _ rfl).trans ?_) ((hw.rely D.nu d).rely D.nu g)
  ·exact y_ hv
  ·congr 1;simp
 |succ m ih=>
  intro L hL k S X f w N M hw;have K6:=D.n8;have F:L.length<J.n:=by omega
  have e0:J.kM L=.st L:=by unfold iE.kM;rw[if_pos F]
  rw[e0];rw[show decide (L.length<J.n)=true from decide_eq_true F]at M;refine Tz.one rfl fun w1 d=>⟨_,w1,#[],S,X,yO N.mode N.round (by rw[N.kind];nofun) (N.todo.trans t1) M,js _ _ _,?_⟩;have V:lN 137 55 (yes lO) (sA (oD (qW E J b cap work Gv) J.n L.length)) {f with todo:=.code .skip::lO.tail}:=by
   have:=N.kN (vi:=.code .skip::lO.tail);rw[<-y1]at this;rw[<-y1];exact this
  change E.Tree PR true _ S X (G {f with todo:=.code .skip::lO.tail} (c::cs)) w1;rw[V.eq];generalize(fun i=>({f with todo:=.code .skip::lO.tail}:aj).tmps.getD i ak)=O;refine az 60 fun w2 g=>?_;change E.Tree PR true _ S X (G (Fi b J.gP.length cap J.n L.length E.Wg Gv work O (c::cs)).1 (Fi b J.gP.length cap J.n L.length E.Wg Gv work O (c::cs)).2) w2;have Y:=kj (rmk (b:=b) (len:=J.gP.length) (cap:=cap) (n:=J.n) (j:=L.length) (Wg:=E.Wg) (Gv:=Gv) (work:=work) (J:=O) (l:=c::cs)) rfl;rw[Y.callers,Y.fr.eq];generalize(fun j=>(Fi b J.gP.length cap J.n L.length E.Wg Gv work O (c::cs)).1.tmps.getD j ak)=J2;clear Y;have rS:=(hw.rely D.nu d).rely D.nu g;refine Tz.one rfl fun w3 vT=>⟨_,_,#[],_,_,step_mk aiN rfl,Hr _,?_⟩;have K:=rS.rely D.nu vT;generalize x:w3.heap.size=ch;have hcu:∀i,¬E.U ch i:=fun i hu=>by
   have I:=D.akv _ _ hu;have h2:=K.fx.grow;omega
  have u:¬S ch:=fun y=>by have:=K.low _ y;omega
  have Q:¬RO ch:=fun y=>u (K.ro _ y);have P:ch≠Gv:=fun y=>u (y▸K.gs);have UR:(w3.alloc (.chan 0 #[] false 0 0 false)).heap.size=ch+1:=by simp[x]
  have uu:DW E RO j6 Gv J.n L L (fun a=>S a\/a=ch) (fun a=>X a\/a=ch) (w3.alloc (.chan 0 #[] false 0 0 false)):=by
   refine⟨fun a R=>.inl (K.ro a R),fun a R y=>y.elim (K.mR a R) fun e=>Q (e▸R),.inl K.gs,.inl K.gx,?_,?_,fun a R=>?_,fun a R=>?_⟩
   ·rw[aL w3 _ (K.low _ K.gs)];exact K.gv
   ·refine bE K.fx ⟨fun a R=>.inl (aL w3 _ (K.low _ (K.ro a R))),by simp,.refl _⟩
   ·rw[UR];rcases R with y|y
    ·have:=K.low a y;omega
    ·omega
   ·have I:=K.vV a R;refine⟨fun y=>y.elim I.1 fun e=>?_,by rw[UR];omega⟩;omega
  have ho4:oi (w3.alloc (.chan 0 #[] false 0 0 false)) ch 0:=by
   unfold oi;rw[<-x];exact aP w3 _
  refine az 60 fun w5 t=>?_;change E.Tree PR true _ _ _ (G (Fs b J.gP.length cap J.n L.length E.Wg Gv ch work J2 (c::cs)).1 (Fs b J.gP.length cap J.n L.length E.Wg Gv ch work J2 (c::cs)).2) w5;have Y:=kj (ri1 (b:=b) (len:=J.gP.length) (cap:=cap) (n:=J.n) (j:=L.length) (Wg:=E.Wg) (Gv:=Gv) (ch:=ch) (work:=work) (J:=J2) (l:=c::cs)) rfl;rw[Y.callers,Y.fr.eq];generalize(fun j=>(Fs b J.gP.length cap J.n L.length E.Wg Gv ch work J2 (c::cs)).1.tmps.getD j ak)=J3;clear Y;have z_:=uu.rely D.nu t;have opn:∀{w w2:ae},oi w ch 0->gU E.U (fun a=>S a\/a=ch) w w2->oi w2 ch 0:=fun h hr=>((hr.kept ch (.inr rfl)).eq hcu).trans h;have ho5:=opn ho4 t;refine Tz.one rfl fun w6 z6=>⟨_,w6,#[],_,_,AY (i:=L.length) aiQ (B:=Gv) (o:=0) (n:=J.n) (cap:=J.n) rfl rfl F u213 z213,js _ _ _,?_⟩;rw[bY];refine az 60 fun w7 z7=>?_;change E.Tree PR true _ _ _ (G (Ft b J.gP.length cap J.n L.length E.Wg Gv ch work J3 (c::cs)).1 (Ft b J.gP.length cap J.n L.length E.Wg Gv ch work J3 (c::cs)).2) w7;have Y:=kj (vz (b:=b) (len:=J.gP.length) (cap:=cap) (n:=J.n) (j:=L.length) (Wg:=E.Wg) (Gv:=Gv) (ch:=ch) (work:=work) (J:=J3) (l:=c::cs)) rfl;rw[Y.callers,Y.fr.eq];generalize(fun j=>(Ft b J.gP.length cap J.n L.length E.Wg Gv ch work J3 (c::cs)).1.tmps.getD j ak)=s;clear Y;have hw7:=(z_.rely D.nu z6).rely D.nu z7;have ho7:=opn (opn ho5 z6) z7;refine Tz.one rfl fun w8 z8=>?_;have A:=hw7.rely D.nu z8;have ho8:=opn ho7 z8;have gF:=Iu (main:=true) (cs:=c::cs) (w:=w8) (f:=dF BL (BM (qW E J b cap work Gv) Gv J.n L.length ch) s) aiR (B:=Gv) (i:=L.length) (v:=some ch) rfl rfl A.gv (by rw[abb _ _ (by omega)];exact F) zB;have H:Env.Eff Gv w8 (w8.setCell ⟨Gv,L.length,none⟩ (.chan (some ch))):=sb _;refine⟨_,_,_,_,_,gF,Ht A.gs A.gx D.nu H (fun ev Ku=>by simp_all),?_⟩;have hw9:DW E RO j6 Gv J.n (L++[ch]) L (fun a=>S a\/a=ch) (fun a=>X a\/a=ch) (w8.setCell ⟨Gv,L.length,none⟩ (.chan (some ch))):=by
   refine⟨A.ro,A.mR,A.gs,A.gx,?_,bE A.fx ⟨fun a R=>.inl (H.heap a fun e=>D.gro (e▸R)),dJ H.size.symm,H.env⟩,fun a R=>by rw[H.size];exact A.low a R,fun a R=>by rw[H.size];exact A.vV a R⟩;rw[ra A.gv,ac6 _ _ _ F]
  have ho9:=(H.heap ch P).trans ho8;clear gF H;refine az 60 fun wA FP=>?_;change E.Tree PR true _ _ _ (G (Fu b J.gP.length cap J.n L.length E.Wg Gv ch work s (c::cs)).1 (Fu b J.gP.length cap J.n L.length E.Wg Gv ch work s (c::cs)).2) wA;have Y:=kj (rc1 (b:=b) (len:=J.gP.length) (cap:=cap) (n:=J.n) (j:=L.length) (Wg:=E.Wg) (Gv:=Gv) (ch:=ch) (work:=work) (J:=s) (l:=c::cs)) rfl;rw[Y.callers,Y.fr.eq];generalize(fun j=>(Fu b J.gP.length cap J.n L.length E.Wg Gv ch work s (c::cs)).1.tmps.getD j ak)=J5;clear Y;refine Tz.pure 1 fun wB FQ=>?_;rw[aiP];have hwB:=(hw9.rely D.nu FP).rely D.nu FQ;have hoB:=opn (opn ho9 FP) FQ;refine Env.aeW (Fx:=fun w=>DW E RO j6 Gv J.n (L++[ch]) L (fun a=>S a\/a=ch) (fun a=>X a\/a=ch) w/\oi w ch 0) (ch:=ch) ⟨fun h hr=>⟨h.1.rely D.nu hr,opn h.2 hr⟩,fun h=>Env.po.rely D.FO D.LZ h.1.fx,fun h I he h2=>⟨h.1.lX D.gw I he h2,(he.heap ch fun e=>Q (e▸D.LZ)).trans h.2⟩⟩ (by omega) (fun k wC hC=>?_) k ⟨hwB,hoB⟩;obtain⟨L0,hoC⟩:=hC;refine az 60 fun wD US=>?_;change E.Tree PR true _ _ _ (G (Fv b J.gP.length cap J.n L.length E.Wg Gv work J5 (c::cs)).1 (Fv b J.gP.length cap J.n L.length E.Wg Gv work J5 (c::cs)).2) wD;have Y:=kj (ri2 (b:=b) (len:=J.gP.length) (cap:=cap) (n:=J.n) (j:=L.length) (Wg:=E.Wg) (Gv:=Gv) (work:=work) (J:=J5) (l:=c::cs)) rfl;rw[Y.callers,Y.fr.eq];generalize(fun j=>(Fv b J.gP.length cap J.n L.length E.Wg Gv work J5 (c::cs)).1.tmps.getD j ak)=J6;clear Y;have hwD:=L0.rely D.nu US;have hoD:=opn hoC US;refine Tz.one rfl fun wE zT=>⟨_,wE,#[],_,_,AY (i:=L.length) aiS (B:=Gv) (o:=0) (n:=J.n) (cap:=J.n) rfl rfl F u213 z213,js _ _ _,?_⟩;rw[bY];refine az 60 fun wF Fc=>?_;change E.Tree PR true _ _ _ (G (Fw b J.gP.length cap J.n L.length E.Wg Gv work J6 (c::cs)).1 (Fw b J.gP.length cap J.n L.length E.Wg Gv work J6 (c::cs)).2) wF;have Y:=kj (rl2 (b:=b) (len:=J.gP.length) (cap:=cap) (n:=J.n) (j:=L.length) (Wg:=E.Wg) (Gv:=Gv) (work:=work) (J:=J6) (l:=c::cs)) rfl;have ny:=Y.load;rw[Y.callers];rw[Y.fr.eq]at ny⊢;generalize(fun j=>(Fw b J.gP.length cap J.n L.length E.Wg Gv work J6 (c::cs)).1.tmps.getD j ak)=J7 at ny⊢;clear Y;have hwF:=(hwD.rely D.nu zT).rely D.nu Fc;have hoF:=opn (opn hoD zT) Fc;refine Tz.one rfl fun wG Fe=>?_;have r:=hwF.rely D.nu Fe;have hoG:=opn hoF Fe;have T:wG.cell? ⟨Gv,L.length,none⟩=some (.chan (some ch)):=by
   simp only[aM,r.gv];exact IE (by simp)
  refine⟨_,wG,_,_,_,tw ny Jf T zB,uO r.gs (D.nu _),?_⟩;refine az 60 fun wH Ff=>?_;change E.Tree PR true _ _ _ (G (RG b J.gP.length cap J.n L.length E.Wg Gv ch work J7 (c::cs)).1 (RG b J.gP.length cap J.n L.length E.Wg Gv ch work J7 (c::cs)).2) wH;have Y:=kj (z87 (b:=b) (len:=J.gP.length) (cap:=cap) (n:=J.n) (j:=L.length) (Wg:=E.Wg) (Gv:=Gv) (ch:=ch) (work:=work) (J:=J7) (l:=c::cs)) rfl;rw[Y.callers,Y.fr.eq];generalize(fun j=>(RG b J.gP.length cap J.n L.length E.Wg Gv ch work J7 (c::cs)).1.tmps.getD j ak)=J8;clear Y;have UT:=r.rely D.nu Ff;have hoH:=opn hoG Ff;refine .stop ?_;cases k with
  |zero=>trivial
  |succ k=>
   refine⟨rfl,rfl,.inr rfl,.inr rfl,fun wI p=>⟨opn hoH p,_,_,Zi akj,⟨rfl,(UT.rely D.nu p).fx⟩,?_⟩⟩;have C:=UT.rely D.nu p;have hwJ:DW E RO j6 Gv J.n (L++[ch]) (L++[ch]) (fun a=>(S a\/a=ch)/\a≠ch) (fun a=>(X a\/a=ch)/\a≠ch) wI:=by
    refine⟨fun a R=>⟨C.ro a R,fun e=>Q (e▸R)⟩,fun a R y=>C.mR a R y.1,⟨C.gs,fun e=>P e.symm⟩,⟨C.gx,fun e=>P e.symm⟩,C.gv,C.fx,fun a R=>C.low a R.1,fun a R=>?_⟩;have hm:a∈L\/a=ch:=by simpa using R
    rcases hm with y|rfl
    ·exact⟨fun z=>(C.vV a y).1 z.1,(C.vV a y).2⟩
    ·exact⟨fun z=>z.2 rfl,C.low _ (.inr rfl)⟩
   refine az 60 fun wK hrK=>?_;change E.Tree PR true _ _ _ (G _ (TQ b J.gP.length cap J.n L.length E.Wg Gv ch work J8 (c::cs)).2) wK;have Y:=kj (akk (b:=b) (len:=J.gP.length) (cap:=cap) (n:=J.n) (j:=L.length) (Wg:=E.Wg) (Gv:=Gv) (ch:=ch) (work:=work) (J:=J8) (l:=c::cs)) rfl;have Z:=Y.fr;rw[AP (by omega)]at Z;rw[Y.callers];have W:(L++[ch]).length=L.length+1:=by simp
   refine ih (L++[ch]) (by rw[W];omega) k _ _ _ wK (Z.less fun q v hv=>?_) ((Z.slot 18 _ rfl).trans ?_) (hwJ.rely D.nu hrK)
   ·rw[W]at hv;exact y_ (b:=[(18,.bool _)]) hv
   ·rw[W];simp only[dy]
end
noncomputable def uv:=match aZ.body with
 |some (.seq _ (.seq _ (.seq _ (.block _ (.loop c)))))=>c
 |_=>.skip
noncomputable def UU:=match aZ.body with
 |some (.seq _ (.seq _ (.seq _ (.block _ (.loop (.seq r3 _))))))=>r3
 |_=>.skip
noncomputable def L1:=match aZ.body with
 |some (.seq _ (.seq _ (.seq _ (.block _ (.loop (.seq _ (.seq _ (.seq _ Y))))))))=>Y
 |_=>.skip
theorem apg:JL=[.code (.block 0 (.loop uv))]:=by kernel_rfl
theorem apj:uv=.seq UU (.seq (.cond (.tmp 18) .skip (.exit 0)) (.seq (.block 1 (.seq LY (.seq LU (.seq BZ (.cond (.tmp 38) LW .skip))))) L1)):=by kernel_rfl
section
variable{U:Nat->Nat->Prop}{D:(Nat->Prop)->(Nat->Prop)->ay->ae->Prop}{S X:Nat->Prop}{Fd:Nat}
theorem JM{b:aj}{k:List _}{cs:List _}(hk:b.kind≠.early)(dd:List _)(v1 v5 A:ah)(u:Nat->ah)(i n:Nat)
  (cont:∀w2 B,gU U S w w2->B 18=.bool (decide (i<n))->Tz af false U D S X (G (b.at ⟨mm Fd v1 v5 A (.int .i64 n) (.int .i64 i) B,dd⟩ k) cs) w2):
  Tz af false U D S X (G (b.at ⟨mm Fd v1 v5 A (.int .i64 n) (.int .i64 i) u,dd⟩ (.code UU::k)) cs) w:=by
 have key:∀w2,gU U S w w2->Tz _ _ U D S X (G (b.at ⟨mm Fd v1 v5 A _ _ (fun j=>if j=18 then .bool _ else u j),dd⟩ k) cs) w2:=fun w2 hr=>cont w2 _ hr (if_pos rfl);simp[mm];refine Tz.region fun w1 H=>?_;refine Tz.ya rfl (by rfl) hk fun w2 R K C=>?_;have Y:=C _ w2 ⟨S,X,(by rw[cC (by simp[go_sem])];exact js _ _ _),Tz.Hq fun w3 I=>key w3 ((H.trans R).trans I)⟩
 go_simp
 exact Y
theorem ajd{b:aj}{k:List Item}(hk:b.kind≠.early)(dd:List bA)(v1 v5 A B:ah)(u:Nat->ah)(i:Nat)(M:i<=100000)
  (cont:∀w2 F,gU U S w w2->Tz af false U D S X (G (b.at ⟨mm Fd v1 v5 A B (.int .i64 ((i+1:Nat):Int)) F,dd⟩ k) cs) w2):
  Tz af false U D S X (G (b.at ⟨mm Fd v1 v5 A B (.int .i64 i) u,dd⟩ (.code L1::k)) cs) w:=by
 have key:=fun w2 hr=>by
  have h:=cont w2 (fun j=>if j=47 then .int .i64 (i+1)else u j) hr;exact h
 have J:cf.wrap _=i+1:=Go.IntWalk.i64_in _ (by omega);simp only[mm];refine Tz.region fun w1 H=>?_;refine Tz.ya rfl (by rfl) hk fun w2 R K Y=>?_
 go_simp
 refine Y _ _ ⟨S,X,?_,?_⟩
 ·rw[cC (by simp[go_sem])];exact js _ _ _
 refine Tz.ya rfl (by rfl) hk fun w3 I K Y=>?_;refine Y _ _ ⟨S,X,?_,?_⟩
 ·rw[cC (by simp[go_sem])];exact js _ _ _
 exact Tz.Hq fun w4 C=>key w4 (((H.trans R).trans I).trans C)
end
theorem apl(Fd b5:Nat)(v1 K A B:ah)(u:Nat->ah):kg Fd b5 v1 K A B u=mm Fd v1 (.pointer (some ⟨b5,0,none⟩)) K A B u:=rfl
section
variable{U:Nat->Nat->Prop}{D:(Nat->Prop)->(Nat->Prop)->ay->ae->Prop}{S X:Nat->Prop}{Fd g Mp:Nat}{e d x:Int}{bo:Bool}{o o':Option Obj}
theorem afb{b:aj}(hb:b.fn=140)(hk:b.kind≠.early)(dd:List bA)(v1 v5:ah)(u:Nat->ah)(i n cap:Nat)(hi:i<n)(hn:n<=1000)
  (F:S g)(T:S Fd)(C:S Mp)(hXM:X Mp)(FT:¬U Fd 2)(M:∀i,¬U g i)(UW:∀i,¬U Mp i)(L2:Fd≠Mp)(zX:∀b i,U b i->b<w.heap.size)(V:∀a,S a->a<w.heap.size)
  (UX:w.cell? ⟨g,i *2,none⟩=some (.int .i64 e))(UY:w.cell? ⟨g,i *2+1,none⟩=some (.int .i64 d))(hm:w.cell? ⟨Fd,2,none⟩=some (.map (some Mp)))(ho:w.heap[Mp]?=o)
  (L3:∀w,w.heap[Mp]?=o->(aY 166 (.map (some Mp)) (.int .i64 e) true).run af w=.ok (.tuple #[.int .i64 x,.bool bo]) w)
  (W:∀w,w.heap[Mp]?=o->∀ev∈aV af (aY 166 (.map (some Mp)) (.int .i64 e) true) w #[],ev.loc=.obj Mp/\ev.sync=false/\ev.write=false)
  (LX:∀w,w.heap[Mp]?=o->∃v w',(aN 166 (.map (some Mp)) (.int .i64 e) (.int .i64 d)).run af w=.ok v w'/\Env.Eff Mp w w'/\w'.heap[Mp]?=o')
  (akw:∀w,w.heap[Mp]?=o->∀ev∈aV af (aN 166 (.map (some Mp)) (.int .i64 e) (.int .i64 d)) w #[],ev.loc=.obj Mp/\ev.sync=false)
  (cont:∀K w2 u',w.heap.size<=K->(∀i,¬U K i)->AF Fd Mp K e d (if(!bo||decide (d<x))=true then o' else o) w2->
   Tz af false U D (fun a=>S a\/a=K) (fun a=>X a\/a=K) (G (b.at ⟨mm Fd v1 (.pointer (some ⟨K,0,none⟩)) (.slice (some ⟨g,0,none⟩) n cap) (.int .i64 (n:Int)) (.int .i64 ((i+1:Nat):Int)) u',dd⟩ kk) cs) w2):
  Tz af false U D S X (G (b.at ⟨mm Fd v1 v5 (.slice (some ⟨g,0,none⟩) n cap) (.int .i64 (n:Int)) (.int .i64 (i:Int)) u,dd⟩ (.code uv::kk)) cs) w:=by
 refine Tz.quiet rfl (fun _=>bj) fun w1 x9=>?_;refine JM hk dd v1 v5 _ u i n fun w2 u2 qu UZ=>?_;refine Tz.quiet rfl (fun _=>bj) fun w3 vT=>?_;have k:dp ⟨mm Fd v1 v5 (.slice (some ⟨g,0,none⟩) n cap) (.int .i64 n) (.int .i64 i) u2,dd⟩ (.tmp 18)=.bool true:=by
  show u2 18=_
  simp_all
 refine Tz.quiet rfl (fun _=>dk k) fun w4 hr4=>?_;refine Tz.quiet rfl (fun _=>stepG_skip) fun w5 zZ=>?_;refine Tz.quiet rfl (fun _=>bj) fun w6 z6=>?_;refine Tz.quiet rfl (fun _=>stepG_block) fun w7 z7=>?_;refine Tz.quiet rfl (fun _=>bj) fun w8 z8=>?_;have R:=((((((x9.trans qu).trans vT).trans hr4).trans zZ).trans z6).trans z7).trans z8;refine ai_ hb hk dd v1 v5 _ u2 i n cap hi F (fun wz hr=>⟨qz F (M _) UX (R.trans hr),qz F (M _) UY (R.trans hr)⟩) M (fun b i hu=>aJ (zX b i hu) R.grow) (fun a ha=>aJ (V a ha) R.grow) fun K w9 u3 hnb B d0 d1 xZ BV=>?_;have f:=R.trans BV;have Kq:=bI R.grow hnb;have H:uf U (fun a=>S a\/a=K) Fd Mp K:=⟨.inl T,.inl C,.inr rfl,FT,B,UW⟩;have hnM:K≠Mp:=fun ee=>by have:=V Mp C;omega
 have y:AF Fd Mp K e d o w9:=⟨qz T FT hm f,d0,d1,((f.kept Mp C).eq UW).trans ho⟩;refine Tz.quiet rfl (fun _=>bj) fun w10 Q=>?_;have J:=AF.rely H y Q;obtain⟨k5,h5⟩:=ai8 H dd v1 _ _ _ u3 x bo (fun w h=>L3 w h.o) (fun w h=>W w h.o);refine Tz.wpC (h5 w10 J) hb hk fun a' w0 w11 P Z=>?_;obtain⟨⟨u5,h6,h7,rfl⟩,s⟩:=P;have L:=AF.rely H s Z;refine Tz.quiet rfl (fun _=>bj) fun w12 E=>?_;have N:=AF.rely H L E;have six:∃k6,∀w,AF Fd Mp K e d o w->BZ.wpC af false (RU U fun a=>S a\/a=K) (DU U (fun a=>S a\/a=K) fun a=>X a\/a=K) 140 k6 (fun ex a' w'=>ex=.normal/\(∃u',u' 38=.bool (!bo||decide (d<x))/\a'=⟨kg Fd K v1 (.slice (some ⟨g,0,none⟩) n cap) (.int .i64 n) (.int .i64 i) u',dd⟩)/\AF Fd Mp K e d o w') ⟨kg Fd K v1 (.slice (some ⟨g,0,none⟩) n cap) (.int .i64 n) (.int .i64 i) u5,dd⟩ w:=by
  cases bo with
  |false=>exact ag9 H dd _ _ _ _ u5 h7
  |true=>exact afa H dd _ _ _ _ u5 h7 x h6
 obtain⟨k6,p⟩:=six;refine Tz.wpC (p w12 N) hb hk fun a' w0 w13 P q=>?_;obtain⟨⟨u6,l,rfl⟩,m⟩:=P;have O:=AF.rely H m q;refine Tz.quiet rfl (fun _=>dk (by exact l)) fun w14 j=>?_;have A:=AF.rely H O j;have last:∀Y u7,AF Fd Mp K e d (if(!bo||decide (d<x))=true then o' else o) Y->Tz af false U D (fun a=>S a\/a=K) (fun a=>X a\/a=K) (G (b.at ⟨kg Fd K v1 (.slice (some ⟨g,0,none⟩) n cap) (.int .i64 n) (.int .i64 i) u7,dd⟩ (.inBlock 1:: .code L1::kk)) cs) Y:=by
  intro Y u7 hA;refine Tz.quiet rfl (fun _=>stepG_inBlock) fun w16 z=>?_;exact ajd hk dd _ _ _ _ u7 i (by omega) fun w17 u8 c=>cont K w17 u8 Kq B (AF.rely H (AF.rely H hA z) c)
 cases ht:(!bo||decide (d<x))with
 |true=>
  rw[ht]at last;obtain⟨k7,r⟩:=ai9 (X:=fun a=>X a\/a=K) H (.inl hXM) L2 hnM dd v1 _ _ _ u6 o' LX akw;refine Tz.wpC (r w14 A) hb hk fun a' w0 Y P I=>?_;obtain⟨⟨u7,rfl⟩,t⟩:=P;exact last Y u7 (AF.rely H t I)
 |false=>
  rw[ht]at last;refine Tz.quiet rfl (fun _=>stepG_skip) fun Y I=>?_;exact last Y u6 (AF.rely H A I)
end
structure LJ(U:Nat->Nat->Prop)(Fd Mp g:Nat)(og:Option Obj)(S X:Nat->Prop)(w:ae):Prop where
 sl:∀a,S a->a<w.heap.size
 ul:∀b i,U b i->b<w.heap.size
 og:w.heap[g]?=og
 sg:S g
 xg:¬X g
 sf:S Fd
 sm:S Mp
 xm:X Mp
theorem LJ.step{U:Nat->Nat->Prop}{Fd Mp g:Nat}{og:Option Obj}{S X S1 X1:Nat->Prop}{w w2 w1:ae}{es:Array _}(K:∀i,¬U g i)(h:LJ U Fd Mp g og S X w)(hr:gU U S w w2)(hd:Did S X w2 w1 es S1 X1):LJ U Fd Mp g og S1 X1 w1:=by
 have Y:=aJ (h.sl g h.sg) hr.grow;refine⟨fun a H=>?_,fun b i D=>aJ (h.ul b i D) (bI hr.grow hd.grow),?_,(hd.held g).2 (.inl h.sg),fun y=>?_,(hd.held Fd).2 (.inl h.sf),(hd.held Mp).2 (.inl h.sm),(hd.may Mp).2 (.inl h.xm)⟩
 ·rcases(hd.held a).1 H with y|y
  ·exact aJ (h.sl a y) (bI hr.grow hd.grow)
  ·omega
 ·rw[hd.kept g Y h.xg,(hr.kept g h.sg).eq K,h.og]
 ·rcases(hd.may g).1 y with z|z
  ·exact h.xg z
  ·omega
section
variable{U:Nat->Nat->Prop}{D:(Nat->Prop)->(Nat->Prop)->ay->ae->Prop}{Fd g Mp n cap:Nat}{cur:Array ah}{E Dd:Nat->Int}
theorem Sr{b:aj}(hb:b.fn=140)(hk:b.kind≠.early)(dd:List bA)(v1:ah)(h:n<=1000)(O:¬U Fd 2)(A:∀i,¬U g i)(B:∀i,¬U Mp i)(T:Fd≠Mp)
  (M:Nat->Option Obj->Prop)(F:∀i,i<n->cur[i *2]?=some (.int .i64 (E i))/\cur[i *2+1]?=some (.int .i64 (Dd i)))
  (C:(Nat->Prop)->(Nat->Prop)->ae->Prop)(V:∀S X w w2 w1 es S1 X1,C S X w->gU U S w w2->Did S X w2 w1 es S1 X1->C S1 X1 w1)(N:∀S X w w2,C S X w->gU U S w w2->C S X w2)
  (W:∀i o,i<n->M i o->∃x bo o',(∀w,w.heap[Mp]?=o->(aY 166 (.map (some Mp)) (.int .i64 (E i)) true).run af w=.ok (.tuple #[.int .i64 x,.bool bo]) w)/\
   (∀w,w.heap[Mp]?=o->∀ev∈aV af (aY 166 (.map (some Mp)) (.int .i64 (E i)) true) w #[],ev.loc=.obj Mp/\ev.sync=false/\ev.write=false)/\
   (∀w,w.heap[Mp]?=o->∃v w',(aN 166 (.map (some Mp)) (.int .i64 (E i)) (.int .i64 (Dd i))).run af w=.ok v w'/\Env.Eff Mp w w'/\w'.heap[Mp]?=o')/\
   (∀w,w.heap[Mp]?=o->∀ev∈aV af (aN 166 (.map (some Mp)) (.int .i64 (E i)) (.int .i64 (Dd i))) w #[],ev.loc=.obj Mp/\ev.sync=false)/\
   M (i+1) (if(!bo||decide (Dd i<x))=true then o' else o))
  (fin:∀S X v5 u w,LJ U Fd Mp g (some (.cells cur 173)) S X w->C S X w->M n (w.heap[Mp]?)->Tz af false U D S X (G (b.at ⟨mm Fd v1 v5 (.slice (some ⟨g,0,none⟩) n cap) (.int .i64 (n:Int)) (.int .i64 (n:Int)) u,dd⟩ k0) cs) w):
  ∀(m i:Nat),i+m=n->∀S X v5 u w,LJ U Fd Mp g (some (.cells cur 173)) S X w->C S X w->w.cell? ⟨Fd,2,none⟩=some (.map (some Mp))->M i (w.heap[Mp]?)->
   Tz af false U D S X (G (b.at ⟨mm Fd v1 v5 (.slice (some ⟨g,0,none⟩) n cap) (.int .i64 (n:Int)) (.int .i64 i) u,dd⟩ (.code uv:: .inLoop uv:: .inBlock 0::k0)) cs) w
 |0,i,y,S,X,v5,u,w,K,hx,r,Z=>by
  obtain rfl:i=n:=by omega
  refine Tz.quiet rfl (fun _=>bj) fun w1 z=>?_;refine JM hk dd v1 v5 _ u i i fun w2 u2 Y Q=>?_;refine Tz.quiet rfl (fun _=>bj) fun w3 c=>?_;have q:dp ⟨mm Fd v1 v5 (.slice (some ⟨g,0,none⟩) i cap) (.int .i64 i) (.int .i64 i) u2,dd⟩ (.tmp 18)=.bool false:=by
   show u2 18=_
   rw[Q,decide_eq_false (ald i)]
  refine Tz.quiet rfl (fun _=>dk q) fun w4 d=>?_;refine Tz.quiet rfl (fun _=>stepG_exit rfl) fun s f=>?_;have R:=(((z.trans Y).trans c).trans d).trans f;refine fin S X v5 u2 s ?_ (N _ _ _ _ hx R) (by rw[(R.kept Mp K.sm).eq B];exact Z);exact LJ.step A K R (js (U:=U) S X s).toDid
 |m+1,i,y,S,X,v5,u,w,K,hx,r,Z=>by
  obtain⟨x,bo,o',l1,l2,t,l4,a⟩:=W i _ (by omega) Z;obtain⟨c0,c1⟩:=F i (by omega);have hr:=afb (D:=fun S' X' l w'=>∃J L,w.heap.size<=J/\(∀i,¬U J i)/\AF Fd Mp J _ _ _ w'/\l=G (b.at ⟨mm Fd v1 (.pointer (some ⟨J,0,none⟩)) _ _ _ L,dd⟩ (.inLoop uv:: .inBlock 0::k0)) cs)
   hb hk dd v1 v5 u i n cap (by omega) h K.sg K.sf K.sm K.xm O A B T K.ul K.sl (by rw[au _ _ _ _ _ _ K.og];exact c0) (by rw[au _ _ _ _ _ _ K.og];exact c1) r rfl l1 l2 t l4 (fun J w2 L I h2 P=>.stop ⟨J,L,I,h2,P,rfl⟩)
  refine(Tz.inv (fun S X w=>LJ U Fd Mp g _ S X w/\C S X w) (fun S X w w2 w1 es S1 X1 p hr hd=>⟨p.1.step A hr hd,V _ _ _ _ _ _ _ _ p.2 hr hd⟩) hr ⟨K,hx⟩).bind fun S' X' l w' hd=>?_;obtain⟨⟨J,L,I,h2,P,rfl⟩,H,j⟩:=hd;refine Tz.quiet rfl (fun _=>stepG_inLoop) fun w2 Y=>?_;refine Sr hb hk dd v1 h O A B T M F C V N W fin m _ (by omega) S' X' _ L w2 (LJ.step A H Y (js (U:=U) S' X' w2).toDid) (N _ _ _ _ j Y) (qz H.sf O P.m Y) ?_;rw[(Y.kept Mp H.sm).eq B,P.o];exact a
end
section
variable{P:aQ}{main:Bool}{U:Nat->Nat->Prop}{D D':(Nat->Prop)->(Nat->Prop)->ay->ae->Prop}{S X SF XF:Nat->Prop}{g:ay}{w:ae}
theorem Tz.more(h:Tz P main U D S X g w)(k:∀S X g w,D S X g w->Tz P main U D' (fun a=>S a\/SF a) (fun a=>X a\/XF a) g w):Tz P main U D' (fun a=>S a\/SF a) (fun a=>X a\/XF a) g w:=by
 induction h with
 |stop hd=>exact k _ _ _ _ hd
 |@step S X g w R ex _ I=>
  refine Tz.one R fun w2 hr=>?_;have Y:gU U S w w2:=⟨fun a K=>hr.kept a (.inl K),hr.grow,hr.env⟩;obtain⟨g1,w1,es,S1,X1,e,hd⟩:=ex w2 Y;refine⟨g1,w1,es,fun a=>S1 a\/SF a,fun a=>X1 a\/XF a,e,⟨⟨fun a K hx=>hd.kept a K fun y=>hx (.inl y),hd.grow,fun a=>?_,fun a=>?_,fun e H=>P4 (hd.ev e H),hd.tape,hd.env,hd.output⟩,hd.Ky⟩,I w2 g1 w1 es S1 X1 Y e hd⟩
  ·rw[hd.held];constructor
   ·rintro((y|y)|y)
    ·simp_all
    ·exact .inr y
    ·simp_all
   ·rintro((y|y)|y)
    ·simp_all
    ·exact .inr y
    ·omega
  ·rw[hd.may];constructor
   ·rintro((y|y)|y)
    ·simp_all
    ·exact .inr y
    ·exact .inl (.inr y)
   ·rintro((y|y)|y)
    ·simp_all
    ·exact .inr y
    ·omega
end
section
variable{U:Nat->Nat->Prop}{D:(Nat->Prop)->(Nat->Prop)->ay->ae->Prop}{S X:Nat->Prop}{Fd:Nat}
theorem aha{b:aj}{k0:List _}{cs:List _}(hk:b.kind≠.early)(dd:List _)(v1 v5 K:ah)(u:Nat->ah)(n:Nat)
  (cont:∀w2 F,gU U S w w2->Tz af false U D S X (G (b.at ⟨mm Fd v1 v5 K (.int .i64 n) (.int .i64 n) F,dd⟩ k0) cs) w2):
  Tz af false U D S X (G (b.at ⟨mm Fd v1 v5 K (.int .i64 n) (.int .i64 n) u,dd⟩ (.code uv:: .inLoop uv:: .inBlock 0::k0)) cs) w:=by
 refine Tz.quiet rfl (fun _=>bj) fun w1 H=>?_;refine JM hk dd v1 v5 _ u n n fun w2 u2 R C=>?_;refine Tz.quiet rfl (fun _=>bj) fun w3 I=>?_;have Y:dp ⟨mm Fd v1 v5 K (.int .i64 n) (.int .i64 n) u2,dd⟩ (.tmp 18)=.bool false:=by
  show u2 18=_
  simp_all
 refine Tz.quiet rfl (fun _=>dk Y) fun w4 A=>?_;refine Tz.quiet rfl (fun _=>stepG_exit rfl) fun J B=>?_;exact cont J u2 ((((H.trans R).trans I).trans A).trans B)
end
def FU:Frame:=⟨140,#[],[],[],.run,.normal,none⟩
theorem ahb(Fd:Nat)(v1 K A B:ah)(j:Nat->ah):TN 48 (sA [(0,ptr Fd),(1,v1),(15,K),(16,A),(17,B)]) j=mm Fd v1 (j 5) K A B j:=by kernel_rfl
theorem Je.eq{a:Option Addr}(h:Je Fd a n cap f):∃v5 u,f=FU.at ⟨mm Fd (.slice a n cap) v5 (.slice a n cap) (.int .i64 (n:Int)) (.int .i64 ((0:Nat):Int)) u,[dcall 161 #[ptr Fd]]⟩ [.code (.block 0 (.loop uv))]:=by
 obtain⟨fn,tmps,todo,defers,mode,kind,ro⟩:=f;obtain⟨I,h2,D,R,A,U,B,g0,g1,K,H,g17⟩:=h;subst I h2 D R A U;have C:lN 140 48 [] (sA [(0,ptr Fd),(1,.slice a n cap),(15,.slice a n cap),(16,.int .i64 n),(17,.int .i64 0)]) ⟨140,tmps,[],[],.run,.normal,none⟩:=by
  refine⟨rfl,rfl,rfl,rfl,rfl,rfl,B,fun i v Y=>?_⟩;have:(i,v)∈[(0,ptr Fd),(1,Value.slice a n cap),(15,.slice a n cap),(16,.int .i64 n),(17,.int .i64 0)]:=by
   unfold sA at Y;simp only[List.lookup]at Y
   repeat' split at Y
   all_goals first|(rename_i hb;simp_all)
  simp at this;rcases this with⟨rfl,rfl⟩|⟨rfl,rfl⟩|⟨rfl,rfl⟩|⟨rfl,rfl⟩|⟨rfl,rfl⟩<;>assumption
 have e:=congrArg Frame.tmps C.eq;simp only[nz]at e;rw[ahb]at e;refine⟨tmps.getD 5 ak,fun i=>tmps.getD i ak,?_⟩;exact congrArg (fun t=>(⟨140,t,[.code _],[dcall 161 _],.run,.normal,none⟩:aj)) e
def Jg(Mp:Nat)(L:List (Nat×Nat))(M:Nat->Option Obj->Prop):Prop:=∀i o,i<L.length->M i o->∃x bo o',
 (∀w,w.heap[Mp]?=o->(aY 166 (.map (some Mp)) (.int .i64 ((L.getD i (0,0)).1:Int)) true).run af w=.ok (.tuple #[.int .i64 x,.bool bo]) w)/\
 (∀w,w.heap[Mp]?=o->∀ev∈aV af (aY 166 (.map (some Mp)) (.int .i64 ((L.getD i (0,0)).1:Int)) true) w #[],ev.loc=.obj Mp/\ev.sync=false/\ev.write=false)/\
 (∀w,w.heap[Mp]?=o->∃v w',(aN 166 (.map (some Mp)) (.int .i64 ((L.getD i (0,0)).1:Int)) (.int .i64 ((L.getD i (0,0)).2:Int))).run af w=.ok v w'/\Env.Eff Mp w w'/\w'.heap[Mp]?=o')/\
 (∀w,w.heap[Mp]?=o->∀ev∈aV af (aN 166 (.map (some Mp)) (.int .i64 ((L.getD i (0,0)).1:Int)) (.int .i64 ((L.getD i (0,0)).2:Int))) w #[],ev.loc=.obj Mp/\ev.sync=false)/\
 M (i+1) (if(!bo||decide (((L.getD i (0,0)).2:Int)<x))=true then o' else o)
theorem afc(L:List _)(i:Nat)(K:i<L.length):(jU L)[i *2]?=some (.int .i64 ((L.getD i (0,0)).1))/\(jU L)[i *2+1]?=some (.int .i64 ((L.getD i (0,0)).2)):=by
 induction L generalizing i with
 |nil=>simp at K
 |cons a L Y=>
  cases i with
  |zero=>exact⟨rfl,rfl⟩
  |succ i=>
   rw[show(i+1) *2=i *2+1+1 by omega];exact Y i (by simp_all)
section
variable{E:Env}{ok:Nat->Prop}{RO:Nat->Prop}{Fx:ae->Prop}
theorem ahc(X P:ByteArray)(k st:Nat)(K:E.xy RO Fx)(A:∀w,Fx w->(∀b,RO b->b<w.heap.size)/\E.Mp<w.heap.size)(W:RO E.Fd)(hRW:RO E.Wg)(hRM:¬RO E.Mp)(hFm:∀w,Fx w->w.cell? ⟨E.Fd,2,none⟩=some (.map (some E.Mp)))(V:∀i,¬E.U E.Mp i)(L2:E.Fd≠E.Mp)
  (hlen:∀x,ok x->(lC X P k st x).length<=1000)(hMc:∀γ c t,¬E.mJ γ (some (.cells c t)))
  (law:∀γ x,ok x->∃M:Nat->Option Obj->Prop,(∀o,E.mJ γ o->M 0 o)/\(∀o,M (lC X P k st x).length o->E.mJ (E.upd γ x) o)/\Jg E.Mp (lC X P k st x) M):
  Env.S5 E ok RO Fx (E.Kf X P k st):=by
 intro D x γ S X' f l w a n cap hx p hX B v hF r hm hf Z;obtain⟨M,m0,m1,ml⟩:=law γ x hx;obtain⟨v5,u,rfl⟩:=hf.eq;clear hf;obtain⟨hn,r⟩:=r;have FT:¬E.U E.Fd 2:=fun h=>by have:=h.2;omega
 refine Tz.quiet rfl (fun _=>stepG_block) fun w1 x9=>?_;refine Tz.quiet rfl (fun _=>stepG_loop) fun w2 qu=>?_;have hr:=x9.trans qu;have Y:=K.rely S _ _ p hF hr;have F:E.mJ γ (w2.heap[E.Mp]?):=by rw[(hr.kept _ B).eq V];exact hm
 rcases r with⟨rfl,h0⟩|⟨g,L,rfl,Q,hXg,d,hg,zY⟩
 ·subst h0;refine aha (by simp[FU]) _ _ _ _ u 0 fun w3 u' q=>?_;refine Z S X' _ w3 p hX B (K.rely S _ _ p Y q) (m1 _ ?_);rw[<-hn,(q.kept _ B).eq V];exact m0 _ F
 ·have C:=((hr.kept g Q).eq d).trans hg;have m:g≠E.Mp:=fun ee=>by
   rw[<-ee,C]at F;exact hMc _ _ _ F
  have hgl:=cU fun y=>by rw[bU y]at C;cases C
  have J:∀j,j<n *2->L[j]?=(jU _)[j]?:=fun j R=>by
   rw[<-zY,List.getElem?_take,if_pos R];simp
  have O:=Sr (U:=E.U) (D:=fun S1 X1 g1 w1=>(∃T,g1=G (Kd E.Fd T) l)/\(∀a,RO a->¬X1 a)/\Fx w1/\E.mJ (E.upd γ x) (w1.heap[E.Mp]?)) (Fd:=E.Fd) (g:=g) (Mp:=E.Mp) (n:=n) (cap:=cap) (cur:=L)
   (b:=FU) (k0:=[]) (cs:=l) rfl (by simp[FU]) _ (.slice (some ⟨g,0,none⟩) n cap) (by rw[hn];exact hlen x hx) FT d V L2 M
   (fun i hi=>by
    obtain⟨f1,f2⟩:=afc (lC X P k st x) i (by omega);exact⟨(J _ (by omega)).trans f1,(J _ (by omega)).trans f2⟩)
   (fun S1 X1 w1=>(∀a,RO a->S1 a)/\(∀a,RO a->¬X1 a)/\Fx w1)
   (fun S1 X1 w3 w4 w5 es S2 X2 R hr hd=>by
    obtain⟨j1,j2,j3⟩:=R;have N:=K.rely S1 _ _ j1 j3 hr;refine⟨fun a H=>(hd.held a).2 (.inl (j1 a H)),fun a H y=>?_,K.rely RO _ _ (fun _ h=>h) N ⟨fun a H=>.inl (hd.kept a ((A _ N).1 a H) (j2 a H)),hd.grow,hd.env⟩⟩;rcases(hd.may _).1 y with z|z
    ·exact j2 a H z
    ·have:=(A _ N).1 a H;omega)
   (fun S1 X1 w3 w4 R hr=>⟨R.1,R.2.1,K.rely S1 _ _ R.1 R.2.2 hr⟩)
   (fun i o hi s=>ml i o (by omega) s)
   (fun S1 X1 v6 u6 w3 hL R s=>.stop ⟨⟨_,rfl⟩,R.2.1,R.2.2,m1 _ (by rw[<-hn];exact s)⟩)
   n 0 (by omega) (fun a=>RO a\/a=E.Mp\/a=g) (fun a=>a=E.Mp) v5 u w2
   ⟨fun a H=>(by
    rcases H with y|rfl|rfl
    ·simp_all
    ·exact(A w2 Y).2
    ·exact hgl),fun b i hu=>(by
    rcases hu.1 with rfl|rfl
    ·exact(A w2 Y).1 _ W
    ·exact(A w2 Y).1 _ hRW),C,.inr (.inr rfl),m,.inl W,.inr (.inl rfl),rfl⟩
   ⟨fun a H=>.inl H,fun a H e=>hRM (e▸H),Y⟩ (hFm w2 Y) (m0 _ F)
  refine(Tz.more (SF:=S) (XF:=X') O fun S1 X1 g1 w3 hd=>?_).iq (fun a=>⟨fun h=>h.elim (fun y=>y.elim (p a) fun z=>z.elim (fun e=>e▸B) fun e=>e▸Q) id,.inr⟩) (fun a=>⟨fun h=>h.elim (fun y=>by subst y;exact v) id,.inr⟩);obtain⟨⟨T,rfl⟩,I,h2,h3⟩:=hd;simp_all
end
end Ph
namespace Ph
open Conc Ren
open WideElems (Fit rd rg rd_val)
open Maps (Keyed IsMap Tidy has)
theorem u166:PR.underlying 166=some (.map 3 3):=by simp
theorem u3:PR.underlying 3=some (.int .i64):=by simp
theorem S8(w:ae):(cE 3).run PR w=.ok (.int .i64 0) w:=oe (by kernel_rfl) w
theorem B0:Keyed PR 3:=Go.Maps.int_keyed u3
def A0(l:List dI):=∀x∈l,∃a:Int,x.key=.int .i64 a
theorem CF(e:Int):∀l i,A0 l->∃r,bV (.int .i64) (.int .i64 e) l i=some r/\∀j v,r=some (j,v)->i<=j/\∃x,l[j-i]?=some x/\x.key=.int .i64 e
 |[],i,_=>⟨none,rfl,fun j v h=>by cases h⟩
 |x::l,i,h=>by
  obtain⟨a,Y⟩:=h x (by simp);by_cases D:e=a
  ·subst D;refine⟨some (i,x.val),?_,fun j v K=>?_⟩
   ·simp[bV,eV,Y]
   ·simp_all
  ·obtain⟨r,I,h2⟩:=CF e l (i+1) fun y R=>h y (by simp[R]);refine⟨r,?_,fun j v K=>?_⟩
   ·have hb:(e==a)=false:=by simp_all
    simp[bV,eV,Y,hb,I]
   ·obtain⟨A,x',U,H⟩:=h2 j v K;refine⟨by omega,x',?_,H⟩;rw[show j-i=(j-(i+1))+1 by omega];simp_all
def yb(es:Array dI)(clock:Nat)(e d:Int):Obj:=match bV (.int .i64) (.int .i64 e) es.toList 0 with
 |some (some (i,_))=>.map (es.modify i fun x=>{x with key:=.int .i64 e,val:=.int .i64 d}) clock
 |_=>.map (es.push {key:=.int .i64 e,val:=.int .i64 d,born:=clock}) (clock+1)
section
variable{w:ae}{b:Nat}{es:Array dI}{clock:Nat}{e d:Int}
theorem Cl(hb:w.heap[b]?=some (.map es clock))(ev:Array _):(getObj b).events PR w ev=ev.push ⟨.obj b,false,false⟩:=by
 simp[getObj,aV,Sem.runT,hb,Obj.isChan,-Sem.runT_eq]
theorem M3(iK:Array _)(c':Nat)(hb:w.heap[b]?=some (.map es clock))(ev:Array _):(setObj b (.map iK c')).events PR w ev=ev.push ⟨.obj b,true,false⟩:=by
 simp[setObj,aV,Sem.runT,hb,Obj.isChan]
theorem yP(K:Bool):(eQ K 10000 3 (.int .i64 e)).run PR w=.ok () w:=oe (by kernel_rfl) w
theorem DY(K:Bool)(ev:Array _):(eQ K 10000 3 (.int .i64 e)).events PR w ev=ev:=sd (a:=()) (by kernel_rfl) w ev
theorem za{r:Option _}(h:bV (.int .i64) (.int .i64 e) es.toList 0=some r):(dx 3 (.int .i64 e) es.toList).run PR w=.ok r w:=MapKept.run_findKey u3 h
theorem El{r:Option _}(h:bV (.int .i64) (.int .i64 e) es.toList 0=some r)(ev:Array _):(dx 3 (.int .i64 e) es.toList).events PR w ev=ev:=by
 simp[dx,h]
theorem Ri(hk:A0 es.toList)(hb:w.heap[b]?=some (.map es clock)):(aN 166 (.map (some b)) (.int .i64 e) (.int .i64 d)).run PR w=.ok () {w with heap:=w.heap.setIfInBounds b (yb es clock e d)}:=by
 obtain⟨r,I,h2⟩:=CF e _ 0 hk;cases r with
 |none=>simp[aN,bW hb,yP,za I,fq _ hb,yb,I]
 |some x=>
  obtain⟨i,v⟩:=x;obtain⟨_,y,K,H⟩:=h2 i v rfl;have Y:=by simpa using K
  simp[aN,bW hb,yP,za I,fq _ hb,yb,I,eR,Y,H,eU]
theorem ahd(hk:A0 es.toList)(hb:w.heap[b]?=some (.map es clock)):∀ev∈aV PR (aN 166 (.map (some b)) (.int .i64 e) (.int .i64 d)) w #[],ev.loc=.obj b/\ev.sync=false:=by
 obtain⟨r,I,h2⟩:=CF e es.toList 0 hk;intro ev Y;cases r with
 |none=>
  simp[aN,bW hb,Cl hb,yP,DY,za I,El I,M3 _ _ hb]at Y;rcases Y with rfl|rfl<;>exact⟨rfl,rfl⟩
 |some x=>
  obtain⟨i,v⟩:=x;obtain⟨_,y,H,D⟩:=h2 i v rfl;have K:=by simpa using H
  simp[aN,bW hb,Cl hb,yP,DY,za I,El I,M3 _ _ hb,eR,K,D,eU]at Y;rcases Y with rfl|rfl<;>exact⟨rfl,rfl⟩
theorem afd(hk:A0 es.toList)(hb:w.heap[b]?=some (.map es clock)):∀ev∈aV PR (aY 166 (.map (some b)) (.int .i64 e) true) w #[],ev.loc=.obj b/\ev.sync=false/\ev.write=false:=by
 obtain⟨r,I,h2⟩:=CF e _ 0 hk;intro ev Y;cases r with
 |none=>
  simp[aY,bW hb,Cl hb,yP,DY,za I,El I]at Y;simp_all
 |some x=>
  simp[aY,bW hb,Cl hb,yP,DY,za I,El I]at Y;simp_all
end
abbrev KB:=2000
abbrev mC:=Nat->Option Nat
def better(g:mC)(h:Nat×Nat):mC:=fun e=>if e=h.1 then(match g e with|some d=>some (min d h.2)|none=>some h.2)else g e
structure vu(l:List (Lit×bg Unit))(g:mC):Prop where
 has:∀e:Nat,has (.map l) (.int .i64 (e:Int))=(g e).isSome
 at_:∀e:Nat,(DataW.map l).atKey (.int .i64 (e:Int)) (.lit (.int .i64 0))=.lit (.int .i64 (((g e).getD 0:Nat):Int))
 keys:∀p∈l,∃e:Nat,e<KB/\p.1=.int .i64 (e:Int)
def ni(g:mC)(o:Option Obj):Prop:=∃es clock l,o=some (.map es clock)/\Fit PR 3 (plainElem (H:=Unit) PR 3) es clock/\l=(es.toList.map (rg PR 3 (plainElem (H:=Unit) PR 3))).foldr DataW.insert []/\vu l g
theorem Zx(g:mC)(c:Array _)(t:bt):¬ni g (some (.cells c t)):=by
 rintro⟨es,clock,l,h,_⟩;cases h
theorem Ia{es:Array _}(F:Fit PR 3 (plainElem (H:=Unit) PR 3) es clock):A0 es.toList:=by
 intro x hx;obtain⟨y,R⟩:=F.reads x hx;have:∃K,keyOf PR 3 x.key=some K:=by
  obtain⟨K,I,_⟩:=Option.bind_eq_some_iff.1 R;simp_all
 obtain⟨K,Y⟩:=this;generalize D:x.key=A at Y;unfold keyOf at Y;cases A<;>simp[mapKey]at Y;simp_all
theorem Ib:∀K (l:List Nat),l.Nodup->(∀x∈l,x<K)->l.length<=K
 |0,l,_,h=>by
  cases l with
  |nil=>exact ar _
  |cons a l=>have:=h a (by simp);omega
 |K+1,l,Y,h=>by
  by_cases hk:K∈l
  ·have I:=Ib K _ (Y.erase K) (fun x hx=>by
    have h2:=(List.Nodup.mem_erase_iff Y).1 hx;have H:=h x h2.2;omega)
   simp_all
  ·have:=Ib K l Y (fun x hx=>by
    have H:=h x hx;have:x≠K:=fun e=>hk (e▸hx);omega)
   omega
def Kg:Lit->Nat
 |.int _ a=>a.toNat
 |_=>0
theorem ac7{l:List _}{g:mC}(h:vu l g)(B:l.Pairwise fun p q=>p.1≠q.1):l.length<=KB:=by
 have I:(l.map fun p=>Kg p.1).Nodup:=by
  show List.Pairwise _ _
  rw[List.pairwise_map];refine B.imp_of_mem fun{p q} K A Y e=>Y ?_;obtain⟨H,_,I⟩:=h.keys p K;obtain⟨U,_,h2⟩:=h.keys q A;rw[I,h2]at e;simp[Kg]at e;simp_all
 have h2:=Ib KB _ I (fun x hx=>by
  obtain⟨p,K,rfl⟩:=cR.1 hx;obtain⟨H,D,R⟩:=h.keys p K;rw[R];simpa[Kg]using D)
 simp_all
theorem ac8:vu [] (fun _=>none):=⟨fun e=>rfl,fun e=>rfl,fun p Y=>by cases Y⟩
theorem T2(e:Nat):alQ (.int .i64 e):=by first|trivial
theorem ac9{l:List _}{g:mC}(h:vu l g){e d:Nat}(A:e<KB):vu (ChangeMaps.putKey (.int .i64 e) (.lit (.int .i64 d)) l) (fun x=>if x=e then some d else g x):=by
 have K:IsMap _:=⟨l,rfl⟩;refine⟨fun x=>?_,fun x=>?_,fun p H=>?_⟩
 ·rw[<-eP];by_cases hx:x=e
  ·subst hx;rw[Go.Maps.has_put_same K (T2 x),if_pos rfl];rfl
  ·rw[Go.Maps.has_put_other (by intro y;cases y;omega),if_neg hx];exact h.has x
 ·rw[<-eP];by_cases hx:x=e
  ·subst hx;rw[Go.Maps.atKey_put_same K (T2 x),if_pos rfl];rfl
  ·rw[Go.Maps.atKey_put_other (by intro y;cases y;omega),if_neg hx];exact h.at_ x
 ·rcases ChangeMaps.mem_insert_iff.1 H with rfl|Y
  ·exact⟨e,A,rfl⟩
  ·exact h.keys p (List.mem_filter.1 Y).1
theorem A8{e:Nat}(h:e<1000000):(Lit.int .i64 e).wf=true:=by
 simp[Lit.wf,IntKind.min,IntKind.bits,IntKind.signed];omega
theorem ac_{g:mC}{es:Array _}{e d:Nat}(h:ni g (some (.map es clock)))(T:e<KB)(hd:d<1000000):ni (fun x=>if x=e then some d else g x) (some (yb es clock e d)):=by
 obtain⟨M,U,l,N,F,C,R⟩:=h;cases N
 let w:={(default:ae)with heap:=#[.map es clock]}
 have hb:w.heap[0]?=some _:=rfl;have own:w.ownsMap PR 3 _ 0 _ (.map l):=⟨es,clock,hb,F,ar _,by rw[C]⟩;obtain⟨l1,L,P⟩:=own.tidy B0;cases L;have D:es.size<maxLen:=by
  have I:=ac7 R P;have h2:l.length=es.size:=by rw[C,alT];simp
  have Q:KB<maxLen:=by decide
  omega
 obtain⟨w',K,A,_⟩:=own.store B0 u166 D (Go.Maps.keyOf_int_mk u3 (A8 (e:=e) (by have:KB=2000:=rfl;omega))) (ey u3 (A8 hd));rw[Ri (Ia F) hb]at K;cases K;obtain⟨iK,Y,H,J,_,O⟩:=A;have B:some (yb es clock e d)=some (Obj.map iK Y):=H.symm.trans H▸(by
  have:(w.heap.setIfInBounds 0 (yb es clock e d))[0]?=some _:=rfl;simp_all)
 rw[B];refine⟨iK,Y,_,rfl,J,(DataW.map.inj O),ac9 R T⟩
theorem afe(Mp:Nat)(g:mC)(L:List (Nat×Nat))(M:∀h∈L,h.1<KB/\h.2<1000000):Jg Mp L (fun i o=>ni ((L.take i).foldl better g) o):=by
 intro i o V C;have J:L[i]?=some (L.getD i (0,0)):=by simp_all
 generalize T:L.getD i (0,0)=h at J;obtain⟨e,d⟩:=h;obtain⟨P,hd⟩:=M _ (ck J);have Y:(L.take (i+1)).foldl better g=better ((L.take i).foldl better g) (e,d):=by rw[dH,J,List.foldl_append];rfl
 simp only[Y];generalize(L.take i).foldl better g=γ at C⊢;have D:=C;obtain⟨es,clock,l,rfl,F,Q,R⟩:=C;have hk:=Ia F;refine⟨(((γ e).getD 0:Nat):Int),(γ e).isSome,some (yb es clock (e:Int) (d:Int)),fun w hb=>?_,fun w hb=>afd hk hb,fun w hb=>?_,fun w hb=>ahd hk hb,?_⟩
 ·have own:w.ownsMap PR 3 _ Mp es.size (.map l):=⟨es,clock,hb,F,ar _,by rw[Q]⟩;obtain⟨v,ps,U,S⟩:=own.look_ok B0 u166 (S8 w) (ey (H:=Unit) u3 (A8 (e:=0) (by omega))) (Go.Maps.keyOf_int_mk u3 (A8 (e:=e) (by have:KB=2000:=rfl;omega)));obtain⟨c,rfl,O,_⟩:=ez u3 S;have I:=congrArg Prod.fst O;rw[R.at_ e]at I;have h2:c=(((γ e).getD 0:Nat):Int):=by simp_all
  rw[U,h2,R.has e]
 ·refine⟨(),_,Ri hk hb,⟨fun a N=>?_,by simp,rfl,.refl _,rfl⟩,?_⟩
  ·rw[cG fun y=>N y.symm]
  ·rw[eH (bu.1 hb).1]
 ·have hb:=ac_ D P hd;cases B:γ e with
  |none=>
   have K:better γ (e,d)=fun x=>if x=e then some d else γ x:=by
    funext x;unfold better;simp_all
   rw[K];exact hb
  |some c=>
   by_cases A:d<c
   ·have K:better γ (e,d)=fun x=>if x=e then some d else γ x:=by
     funext x;unfold better;by_cases hx:x=e
     ·subst hx;simp[B];omega
     ·simp[hx]
    rw[K,if_pos (by simpa using A)];exact hb
   ·have K:better γ (e,d)=γ:=by
     funext x;unfold better;by_cases hx:x=e
     ·subst hx;simp[B];omega
     ·simp[hx]
    rw[K,if_neg (by simpa using A)];exact D
end Ph
namespace Ph
open Conc Ren
open Lock (Word PC)
section
variable{P:aQ}{main:Bool}{U:Nat->Nat->Prop}{D:(Nat->Prop)->(Nat->Prop)->aj->List aj->ae->Prop}{S X:Nat->Prop}{f:aj}{l:List aj}{w:ae}
theorem Tr.one(h:∀w2,gU U S w w2->∃f1 l1 w1 es S1 X1,aX P main (G f l) w2=.go (G f1 l1) w1 es/\Did S X w2 w1 es S1 X1/\Tr P main U D S1 X1 f1 l1 w1):Tr P main U D S X f l w:=by
 refine .step (fun w2 hr=>?_) fun w2 f1 l1 w1 es S1 X1 hr e hd=>?_
 ·obtain⟨f1,l1,w1,es,S1,X1,e,hd,_⟩:=h w2 hr;exact⟨f1,l1,w1,es,S1,X1,e,hd⟩
 ·obtain⟨R,A,B,iK,K,H,e',Y,I⟩:=h w2 hr;rw[e]at e';cases e';obtain⟨rfl,rfl⟩:=hd.same Y;exact I
theorem Tr.pure:∀n {f:aj} {l:List _} {w:ae},(∀w2,gU U S w w2->Tr P main U D S X (gS P n f l).1 (gS P n f l).2 w2)->Tr P main U D S X f l w
 |0,f,l,w,h=>h w (.refl _ _ _)
 |n+1,f,l,w,h=>by
  unfold gS at h;split at h
  ·rename_i f1 l1 e;exact Tr.one fun w2 hr=>⟨_,_,w2,#[],S,X,tu e,(js (U:=U) S X w2).toDid,Tr.pure n fun w3 Y=>h w3 (hr.trans Y)⟩
  ·exact h w (.refl _ _ _)
end
theorem gL.pure{P:aQ}{Q:QT}(n:Nat)(k:∀w',Kept (fun _=>False) (fun _=>False) w w'->gL P Q Z (gS P n f l).1 (gS P n f l).2 w'):gL P Q Z f l w:=by
 refine dc (U:=fun _ _=>False) (S:=fun _=>False) (X:=fun _=>False) (Done:=fun S X f' l' w'=>X=(fun _=>False)/\f'=(gS P n f l).1/\l'=(gS P n f l).2) (Tr.pure n fun w2 hr=>.stop ⟨rfl,rfl,rfl⟩) (fun a h=>h.elim) fun S' X' f' l' w' hd hk=>?_;obtain⟨rfl,rfl,rfl⟩:=hd;exact k w' hk
structure lJ(Z:Loc->Prop)(Fd Mp Wg Gv By Rf Sg Fp k q st n:Nat)(X P:ByteArray)(b:Option Addr)(gP:List Nat)(w:ae):Prop where
 cin:x_ Fd By Rf Sg Fp k q st X P w
 fd:w.heap[Fd]?=some (.cells #[.int .i32 0,.int .u32 0,.map (some Mp)] 191)
 mp:w.heap[Mp]?=some (.map #[] 0)
 wg:w.heap[Wg]?=some (.cells #[.int .u64 0,.int .u32 0] 212)
 gv:w.heap[Gv]?=some (.cells (oN [] n) 214)
 num:∀i x:Nat,gP[i]?=some x->∃Nb o,b=some ⟨Nb,o,none⟩/\w.cell? ⟨Nb,o+i,none⟩=some (.int .i64 (x:Int))/\Nb≠Mp/\Nb≠Gv/\Nb≠Fd/\Nb≠Wg/\jf Z Nb
 off:∀a,a=Fd\/a=Mp\/a=Wg\/a=Gv\/Kp By Rf Sg Fp a->jf Z a
 fm:Fd≠Mp
 fw:Fd≠Wg
 fg:Fd≠Gv
 mw:Mp≠Wg
 mg:Mp≠Gv
 FV:Gv≠Wg
 kp:∀a,Kp By Rf Sg Fp a->a≠Fd/\a≠Mp/\a≠Wg/\a≠Gv
 n0:0<n
 n8:n<=8
 len:gP.length<1000000
 hX:X.size<=200
 hP:P.size<=30
 hk:k<=6
 gF:st<=200
 ok:∀x∈gP,x *st<=X.size/\x<=100000
def i_(Fd Mp Wg:Nat)(X P:ByteArray)(k st:Nat):Env where
 Fd:=Fd
 Mp:=Mp
 Wg:=Wg
 tF:=191
 tW:=212
 zc:=FL
 Γ:=mC
 upd g x:=(lC X P k st x).foldl better g
 mJ:=ni
def kR(Z:Loc->Prop)(Mp Gv B:Nat)(a:Nat):=a<B/\a≠Mp/\a≠Gv/\jf Z a
theorem j8{a:Nat}{o:Obj}(h:w.heap[a]?=some o):a<w.heap.size:=(bu.1 h).1
section
variable{Z:Loc->Prop}{Fd Mp Wg Gv By Rf Sg Fp k q st n:Nat}{X P:ByteArray}{b:Option Addr}{gP:List Nat}{w:ae}
theorem lJ.Kh(h:lJ Z Fd Mp Wg Gv By Rf Sg Fp k q st n X P b gP w){a:Nat}(K:Kp By Rf Sg Fp a):kR Z Mp Gv w.heap.size a:=by
 obtain⟨I,h2,H,Y⟩:=h.kp a K;refine⟨?_,h2,Y,h.off a (.inr (.inr (.inr (.inr K))))⟩;rcases K with rfl|rfl|rfl|rfl
 ·exact j8 h.cin.b
 ·exact j8 h.cin.r
 ·exact j8 h.cin.s
 ·exact j8 h.cin.f
theorem lJ.zC(h:lJ Z Fd Mp Wg Gv By Rf Sg Fp k q st n X P b gP w):kR Z Mp Gv w.heap.size Fd:=⟨j8 h.fd,h.fm,h.fg,h.off Fd (.inl rfl)⟩
theorem lJ.zD(h:lJ Z Fd Mp Wg Gv By Rf Sg Fp k q st n X P b gP w):kR Z Mp Gv w.heap.size Wg:=⟨j8 h.wg,fun e=>h.mw e.symm,fun e=>h.FV e.symm,h.off Wg (.inr (.inr (.inl rfl)))⟩
theorem xA{a:Nat}(I:a≠Fd)(h2:a≠Wg)(i:Nat):¬(i_ Fd Mp Wg X P k st).U a i:=fun y=>y.1.elim I h2
theorem lJ.same(h:lJ Z Fd Mp Wg Gv By Rf Sg Fp k q st n X P b gP w){a:Nat}(K:kR Z Mp Gv w.heap.size a)(I:a≠Fd)(h2:a≠Wg)(A:sY (i_ Fd Mp Wg X P k st) (kR Z Mp Gv w.heap.size) w w2):w2.heap[a]?=w.heap[a]?:=
 (A.kept a K).eq (xA I h2)
theorem lJ.T3(h:lJ Z Fd Mp Wg Gv By Rf Sg Fp k q st n X P b gP w)(K:sY (i_ Fd Mp Wg X P k st) (kR Z Mp Gv w.heap.size) w w2):x_ Fd By Rf Sg Fp k q st X P w2:=by
 have s:=fun a Y=>h.same (h.Kh Y) (h.kp a Y).1 (h.kp a Y).2.2.1 K;exact⟨(s _ (.inl rfl)).trans h.cin.b,(s _ (.inr (.inl rfl))).trans h.cin.r,(s _ (.inr (.inr (.inl rfl)))).trans h.cin.s,(s _ (.inr (.inr (.inr rfl)))).trans h.cin.f,bI h.cin.low K.grow⟩
theorem lJ.known(h:lJ Z Fd Mp Wg Gv By Rf Sg Fp k q st n X P b gP w):(i_ Fd Mp Wg X P k st).xy (kR Z Mp Gv w.heap.size) (sY (i_ Fd Mp Wg X P k st) (kR Z Mp Gv w.heap.size) w):=
 ⟨fun S w1 w2 Y hF hr=>bE hF ⟨fun a K=>hr.kept a (Y a K),hr.grow,hr.env⟩,fun w1 hF=>Env.vp.rely ⟨_,_,_,h.fd,rfl⟩ h.zC hF,fun w1 hF=>Env.po.rely ⟨_,_,_,h.wg,rfl⟩ h.zD hF⟩
theorem Ot(t p:ByteArray)(k:Nat):∀n,∀h∈lr t p k n,h.2<=k
 |0,h,Y=>by simp[lr]at Y
 |n+1,h,Y=>by
  have K:=Ot t p k n;rw[lr]at Y;split at Y
  ·rcases dE.1 Y with I|I
   ·exact K h I
   ·simp_all
  ·exact K h Y
theorem O_{x:Nat}(hX:X.size<=200)(hP:P.size<=30)(hk:k<=6)(gF:st<=200)(hx:x *st<=X.size/\x<=100000):(lC X P k st x).length<=1000/\∀h∈lC X P k st x,h.1<KB/\h.2<1000000:=by
 have A:(jI X P k st x).size<=300:=by unfold jI;rw[cI];omega
 have R:(lC X P k st x).length=(lE _ P k).length:=yw _ _ _;have I:(lE _ P k).length<=(jI X P k st x).size:=Cz _ _ _ _;refine⟨by omega,fun h K=>?_⟩;unfold lC kN at K;rw[fj,List.drop_length,List.append_nil]at K;obtain⟨H,Y,rfl⟩:=cR.1 K;have h2:=G4 _ _ _ _ H Y;have D:=Ot _ _ _ _ H Y;have:KB=2000:=rfl;omega
theorem lJ.akx(h:lJ Z Fd Mp Wg Gv By Rf Sg Fp k q st n X P b gP w)(ch:Nat):Env.Hp (i_ Fd Mp Wg X P k st) ch (fun x=>x *st<=X.size/\x<=100000) (kv By Rf Sg Fp) (kR Z Mp Gv w.heap.size) (sY (i_ Fd Mp Wg X P k st) (kR Z Mp Gv w.heap.size) w):=by
 have Y:∀w2,sY (i_ Fd Mp Wg X P k st) (kR Z Mp Gv w.heap.size) w w2->(∀b,kR Z Mp Gv w.heap.size b->b<w2.heap.size)/\(i_ Fd Mp Wg X P k st).Mp<w2.heap.size:=fun w2 C=>⟨fun b hb=>aJ hb.1 C.grow,aJ (j8 h.mp) C.grow⟩;have H:¬kR Z Mp Gv w.heap.size (i_ Fd Mp Wg X P k st).Mp:=fun y=>y.2.1 rfl;have D:∀i,¬(i_ Fd Mp Wg X P k st).U (i_ Fd Mp Wg X P k st).Mp i:=xA (fun e=>h.fm e.symm) h.mw;refine Env.Zq D h.known (fun hF F J R=>bE hF (Q_ _ F R J)) (fun hF=>bE hF ⟨fun a _=>.inl rfl,ar _,⟨_,rfl⟩⟩) (Env.ae8 _ X P k st) h.zC h.zD (h.Kh (.inr (.inr (.inr rfl)))) (xA (h.kp Fp (.inr (.inr (.inr rfl)))).1 (h.kp Fp (.inr (.inr (.inr rfl)))).2.2.1 0) (fun w2 hF=>?_) H ?_ ?_
 ·rw[au _ Fp 0 _ _ _ (h.T3 hF).f];rfl
 ·exact ae_ X P k q st h.hX h.hP h.hk h.gF (fun x hx=>hx) h.known (fun w2 hF=>h.T3 hF) (fun b hb=>h.Kh hb) (fun b hb=>xA (h.kp b hb).1 (h.kp b hb).2.2.1) Y
 ·have B:∀(γ:mC) (x:Nat),(x *st<=X.size/\x<=100000)->∃M:Nat->Option Obj->Prop,(∀o,ni γ o->M 0 o)/\(∀o,M (lC X P k st x).length o->ni ((lC X P k st x).foldl better γ) o)/\Jg Mp (lC X P k st x) M:=fun γ x hx=>
   ⟨fun i o=>ni (((lC X P k st x).take i).foldl better γ) o,(fun o A=>by show ni (((lC X P k st x).take 0).foldl better γ) o;rw[List.take_zero];exact A),(fun o A=>by
    have I:ni (((lC X P k st x).take (lC X P k st x).length).foldl better γ) o:=A;rw[fj]at I;exact I),afe Mp γ _ (O_ h.hX h.hP h.hk h.gF hx).2⟩
  have K:w.cell? ⟨Fd,2,none⟩=some (.map (some Mp)):=by rw[au _ Fd 2 _ _ _ h.fd];rfl
  exact ahc X P k st h.known Y h.zC h.zD H (fun w2 hF=>qz (U:=(i_ Fd Mp Wg X P k st).U) (S:=kR Z Mp Gv w.heap.size) h.zC (fun y=>by have:=y.2;omega) K hF) D h.fm (fun x hx=>(O_ h.hX h.hP h.hk h.gF hx).1) (fun γ c t=>Zx γ c t) B
end
end Ph
namespace Ph
open Conc Ren
open Lock (Word PC)
open ConcN (sumTo upd sumTo_upd upd_ne upd_same sumTo_le)
theorem Pa{E:Env}{b:Nat}{a:Addr}(h:¬E.U a.block a.off):nc E RO b XX (.cell a)=mK E RO b XX a.block:=by
 simp[nc];simp_all
theorem abd{E:Env}{b:Nat}{a:Addr}(h:E.U a.block a.off):nc E RO b XX (.cell a)=.at:=by
 simp[nc];simp_all
def EH(E:Env)(gX:E.Γ):iI E:=⟨0,[],fun _=>.no,.st [],.run,Word.zero,0,0,0,0,gX,[],none⟩
theorem Ic(n:Nat):sumTo n (fun _=>0)=0:=by
 induction n with
 |zero=>rfl
 |succ n Y=>simp[sumTo,Y]
theorem ci0{E:Env}{J:iE}{gX:E.Γ}(K:0<J.n):CI J gX (EH E gX):=by
 have Y:Lock.Inv (fun _=>PC.out) J.n Word.zero 0:=by
  refine⟨fun i _=>trivial,by rw[nE _ rfl];rfl,fun _=>⟨by rw[nE Lock.jN rfl,nE Lock.g_ rfl,nE Lock.jY rfl];rfl,by rw[nE Lock.jJ rfl,nE Lock.jY rfl];rfl,nE _ rfl _,nE _ rfl _,fun _ _ h=>absurd h (ald 0)⟩,fun h=>by cases h⟩
 refine⟨bK _,rfl,ff,fun _ _=>rfl,fun k hk=>absurd hk (bX _),Y,nofun,nofun,nofun,⟨nofun,nofun,nofun⟩,fun y=>?_,rfl,?_,?_,fun k hk=>hk.elim,⟨rfl,K⟩,nofun,nofun,nofun,nofun⟩
 ·show 0+sumTo J.n (fun _=>0)=(J.gP.take 0).count y
  rw[Ic];simp
 ·show 0+sumTo J.n (fun _=>0)=0+0
  rw[Ic]
 ·show nA (.st []) 0 0 0 (sumTo J.n fun _=>0) (sumTo J.n fun _=>0)
  rw[Ic];exact .inl ⟨rfl,rfl,rfl,rfl,id,nofun⟩
theorem aje{E:Env}{J:iE}{gX:E.Γ}:Calm J (EH E gX):=⟨nofun,nofun,nofun,nofun⟩
theorem Yg(g:mC)(I h2:Nat×Nat):better (better g I) h2=better (better g h2) I:=by
 funext e;unfold better;by_cases Y:e=I.1<;>by_cases H:e=h2.1<;>simp[Y]<;>(try rfl)
 ·subst Y;by_cases K:I.1=h2.1
  ·rw[if_pos K,if_pos K];cases g _ with
   |none=>simp;omega
   |some d=>simp;omega
  ·omega
 simp_all
theorem MG(g:mC):∀(L:List _) h,L.foldl better (better g h)=better (L.foldl better g) h
 |[],h=>rfl
 |a::L,h=>by
  rw[cO,cO,Yg g h a];exact MG _ L h
theorem Ou(g:mC):∀(A K:List _),K.foldl better (A.foldl better g)=A.foldl better (K.foldl better g)
 |[],K=>rfl
 |a::A,K=>by
  rw[cO,cO,Ou _ A K,MG g K a]
theorem Zy{f:mC->Nat->mC}(A:∀g x y,f (f g x) y=f (f g y) x)(h:l1.Perm l2):∀g,l1.foldl f g=l2.foldl f g:=by
 induction h with
 |nil=>exact fun _=>rfl
 |cons x _ H=>exact fun g=>H _
 |swap x y l=>exact fun g=>by simp_all
 |trans _ _ Y K=>exact fun g=>(Y g).trans (K g)
def qE(X P:ByteArray)(k st:Nat)(gP:List Nat):=gP.foldl (fun g x=>(lC X P k st x).foldl better g) (fun _=>none)
section
variable{Z:Loc->Prop}{Fd Mp Wg Gv By Rf Sg Fp k q st n:Nat}{X P:ByteArray}{b:Option Addr}{gP:List Nat}{w:ae}
noncomputable def T4 (Z:Loc->Prop) (Fd Mp Wg Gv By Rf Sg Fp k st n:Nat) (X P:ByteArray) (gP:List Nat) (w:ae) (c:aj) (cs:List aj) (b:Nat):gR where
 P:=PR
 E:=i_ Fd Mp Wg X P k st
 J:=⟨n,gP⟩
 b:=b
 A ch:=Env.AtRecv (i_ Fd Mp Wg X P k st) ch (kv By Rf Sg Fp) (kR Z Mp Gv w.heap.size) (sY (i_ Fd Mp Wg X P k st) (kR Z Mp Gv w.heap.size) w)
 kG:=TY (i_ Fd Mp Wg X P k st) (kR Z Mp Gv w.heap.size) w (kv By Rf Sg Fp)
 Fin:=TZ (i_ Fd Mp Wg X P k st) (kR Z Mp Gv w.heap.size) w c cs
 RO:=kR Z Mp Gv w.heap.size
 jl l:=Z l\/rN (i_ Fd Mp Wg X P k st) l
 ok x:=x *st<=X.size/\x<=100000
 gX:=fun _=>none
 w0:=w
theorem lJ.aky(h:lJ Z Fd Mp Wg Gv By Rf Sg Fp k q st n X P b gP w)(c:aj)(cs:List _)(A:Nat)(hb:0<A):(T4 Z Fd Mp Wg Gv By Rf Sg Fp k st n X P gP w c cs A).Laws where
 n0:=h.n0
 n8:=h.n8
 b0:=hb
 KW:=h.ok
 fw:=h.fw
 mf:=fun e=>h.fm e.symm
 mw:=h.mw
 rf:=h.zC
 rw:=h.zD
 rm:=fun y=>y.2.1 rfl
 KX:=fun l D=>.inr D
 JG:=fun Y=>Env.X_ Y
 JH:=fun Y w2=>Env.aaZ Y
 Ka:=fun Y hr hx K=>Env.Ya h.known (h.akx _) Y hr hx K
 SQ:=fun Y hr K=>Env.Yb h.known Y hr _ K
 E2:=fun{ch g w2} H=>by
  obtain⟨rfl,hF⟩:=H;exact Env.ae0 h.known ⟨fun _ y=>y,fun y=>y.2.1 rfl,id,h.zC,h.zD,fun _ _ y=>y⟩ hF
theorem lJ.dl(h:lJ Z Fd Mp Wg Gv By Rf Sg Fp k q st n X P b gP w):Dl (i_ Fd Mp Wg X P k st) (kR Z Mp Gv w.heap.size) w Gv ⟨n,gP⟩ b:=by
 refine⟨h.n0,h.n8,h.len,xA (fun e=>h.fg e.symm) h.FV,h.FV,fun y=>y.2.2.1 rfl,h.zD,⟨_,_,_,h.wg,rfl⟩,fun a i U=>?_,fun i x hx=>?_⟩
 ·rcases U.1 with e|e
  ·rw[e];exact j8 h.fd
  ·rw[e];exact j8 h.wg
 ·obtain⟨Nb,o,hb,K,I,h2,D,R,A⟩:=h.num i x hx;have H:Nb<w.heap.size:=cU fun y=>by
   simp[aM,bU y]at K
  have Y:kR Z Mp Gv _ Nb:=⟨H,I,h2,A⟩;refine⟨Nb,o,hb,Y,xA D R _,fun w2 hF=>?_⟩;simp[aM]at K⊢;rw[h.same Y D R hF];exact K
theorem lJ.mu0(h:lJ Z Fd Mp Wg Gv By Rf Sg Fp k q st n X P b gP w):(i_ Fd Mp Wg X P k st).MuAt w Word.zero 0:=by
 exact h.fd
theorem lJ.FO(h:lJ Z Fd Mp Wg Gv By Rf Sg Fp k q st n X P b gP w):(i_ Fd Mp Wg X P k st).WgAt w 0 0 0:=by
 exact h.wg
theorem lJ.phase(h:lJ Z Fd Mp Wg Gv By Rf Sg Fp k q st n X P b gP w){Qq:QT}{c:aj}
  (hf:lN 137 55 lO (sA (oD (qW (i_ Fd Mp Wg X P k st) ⟨n,gP⟩ b cap (kv By Rf Sg Fp) Gv) n 0)) f)(UZ:f.tmps.getD 18 ak=.bool (decide (0<n)))
  (kk:∀w',gU (i_ Fd Mp Wg X P k st).U (kR Z Mp Gv w.heap.size) w w'->ni (qE X P k st gP) (w'.heap[Mp]?)->(i_ Fd Mp Wg X P k st).MuAt w' Word.zero 0->w'.tape=w.tape->w'.output=w.output->Mp<w'.heap.size->gL PR Qq (fun l=>Z l\/rN (i_ Fd Mp Wg X P k st) l) (c.finish unit) cs w'):
  gL PR Qq Z f (c::cs) w:=by
 rintro m t ⟨gs,sl,qq,rfl,H⟩;have C:0<gs.size:=(bu.1 H.g0).1;have hQ:=h.aky c cs gs.size C
 let R:=T4 Z Fd Mp Wg Gv By Rf Sg Fp k st n X P gP w c cs gs.size
 let A:Nat->Prop:=fun a=>kR Z Mp Gv w.heap.size a\/a=Gv
 let B:Nat->Prop:=fun a=>a=Gv
 have hG:Gv<w.heap.size:=j8 h.gv;have hDW:DW (i_ Fd Mp Wg X P k st) (kR Z Mp Gv w.heap.size) w Gv n [] [] A B w:=
  ⟨fun a Y=>.inl Y,fun a Y e=>Y.2.2.1 e,.inr rfl,rfl,h.gv,ep _ _ _,fun a Y=>Y.elim (fun y=>y.1) fun e=>e▸hG,nofun⟩
 have gF:(⟨n,gP⟩:iE).kM []=.st []:=by unfold iE.kM;rw[if_pos (show([]:List Nat).length<n from h.n0)]
 have d:∀fu,Tz PR true (i_ Fd Mp Wg X P k st).U (R.DS fu (.st [])) A B (G f (c::cs)) w:=by
  intro fu;have:=ajc (E:=i_ Fd Mp Wg X P k st) (cap:=cap) (work:=kv By Rf Sg Fp) (c:=c) (cs:=cs) h.dl n [] (by simp) fu A B f w hf UZ hDW;rw[gF]at this;exact this
 have o:∀l,R.cls (fun _=>⟨A,B,G f (c::cs),w⟩) 0 [] l≠.no->¬Z l:=by
  have hU:∀l,rN (i_ Fd Mp Wg X P k st) l->¬Z l:=by
   intro l K;cases l with
   |cell a=>
    rcases K.1 with e|e
    ·exact h.off Fd (.inl rfl) _ e
    ·exact h.off Wg (.inr (.inr (.inl rfl))) _ e
   |_=>exact K.elim
  have hb:∀a,mK (i_ Fd Mp Wg X P k st) (kR Z Mp Gv w.heap.size) gs.size (gR.ov (fun _=>⟨A,B,G f (c::cs),w⟩) 0 []) a≠.no->jf Z a:=by
   intro a Y;unfold mK at Y;split at Y
   ·rename_i y;exact y.2.2.2
   ·split at Y
    ·rename_i y;rw[show a=Mp from y];exact h.off Mp (.inr (.inl rfl))
    ·split at Y
     ·rename_i y;obtain⟨i,y⟩:=y;rcases y with⟨_,y⟩|⟨_,y⟩
      ·rw[show a=Gv from y];exact h.off Gv (.inr (.inr (.inr (.inl rfl))))
      ·cases y
     ·exact absurd rfl Y
  intro l K;cases l with
  |cell a=>
   by_cases hu:(i_ Fd Mp Wg X P k st).U a.block a.off
   ·exact hU (.cell a) hu
   ·refine hb _ (fun e=>K ?_) (.cell a) rfl;exact(Pa hu).trans e
  |obj a=>exact hb a K (.obj a) rfl
  |output=>exact absurd rfl K
  |goroutines=>exact absurd rfl K
  |mark m=>exact absurd rfl K
 have u:∀l g,R.cls (fun _=>⟨A,B,G f (c::cs),w⟩) 0 [] l=.own g->g=0:=by
  have hb:∀a g,mK (i_ Fd Mp Wg X P k st) (kR Z Mp Gv w.heap.size) gs.size (gR.ov (fun _=>⟨A,B,G f (c::cs),w⟩) 0 []) a=.own g->g=0:=by
   intro a g Y;unfold mK at Y;split at Y
   ·cases Y
   ·split at Y
    ·cases Y
    ·split at Y
     ·rename_i y;have hs:=Classical.choose_spec y;have:Classical.choose y=0:=by
       rcases hs with⟨z,_⟩|⟨z,_⟩
       ·omega
       ·exact z
      rw[this]at Y;cases Y;rfl
     ·cases Y
  intro l g K;cases l with
  |cell a=>
   by_cases hu:(i_ Fd Mp Wg X P k st).U a.block a.off
   ·have I:=(abd hu).symm.trans K;cases I
   ·exact hb _ _ ((Pa hu).symm.trans K)
  |obj a=>exact hb a g K
  |output=>cases K
  |goroutines=>cases K
  |mark m=>cases K
 have L:∀a,NoRelease a t:=fun a i O=>by
  obtain⟨op,ho,he⟩:=cn.1 O;exact H.nr op (Array.mem_of_getElem? ho) a he
 have W:∀op∈t,Seen w.heap.size op:=fun op gN=>⟨H.past.seen op gN,H.nr op gN⟩;have hMI:R.MI (EH R.E R.gX) (fun _=>⟨A,B,G f (c::cs),w⟩) (fun _=>mu R.J (EH R.E R.gX)) gs w t qq (fun _=>none):=by
  refine⟨rfl,⟨H.g0,d _⟩,fun kx hk=>absurd hk (bX _),fun i g O _ hg=>H.r_.old i g O hg,fun _ _=>ar _,fun _ _=>ep _ _ _,?_,?_,?_,H.past.hears,fun kx hk=>absurd hk (bX _),fun i O=>H.r_.above i O,fun kx hk=>absurd hk (bX _),fun _ _=>rfl,W⟩
  ·refine⟨fun i i' O EW hne=>?_,fun i _ a Y=>Y.elim (fun y=>y.1) fun e=>e▸hG,fun i _ a Y=>Y,fun i _ a Y e=>Y.2.2.1 e,fun i _ a e=>.inr e,fun i _ Y=>?_,fun a Y=>Y.1,j8 h.mp,nofun⟩
   ·have I:i=0:=Nat.le_zero.1 O;have h2:i'=0:=Nat.le_zero.1 EW;exact absurd (I.trans h2.symm) hne
   ·rcases Y with y|y
    ·exact absurd rfl y.2.1
    ·exact absurd y h.mg
  ·refine⟨h.mu0,h.FO,fun _=>?_,fun kx hk=>absurd hk (bX _),fun kx hk=>absurd hk (bX _),rfl,rfl⟩;rw[show w.heap[R.E.Mp]?=some (.map #[] 0)from h.mp];exact⟨#[],0,[],rfl,⟨by simp,Go.MapKept.stamped_empty 0,by simp⟩,rfl,ac8⟩
  ·exact PT.init H.past C o u O7 (fun l K=>.inr (Qb K)) (fun l K=>.inl K) ⟨L _,L _⟩
 obtain⟨N,m',t',akz,p⟩:=gR.phase (sl:=sl) hQ (ci0 h.n0) aje hMI;obtain⟨n_,w',sl',q',S',X',g',dn,rfl,hg',hF,hL,hP,r,T,K1,hwg,j,s,TA,_,F,hsn⟩:=p;obtain⟨np,f',l',rfl,v,D,_,_⟩:=hF;have S:ni (qE X P k st gP) (w'.heap[Mp]?):=by
  have e:dn.foldl (fun g x=>(lC X P k st x).foldl better g) (fun _=>none)=qE X P k st gP:=Zy (fun g x y=>Ou g _ _) T _;rw[<-e];exact r
 have Q:qh (fun l=>Z l\/rN (i_ Fd Mp Wg X P k st) l) w'.heap.size:=by
  intro l K;rcases K with y|y
  ·exact⟨(H.nU l y).1,Loc.low_mono D.grow (H.nU l y).2⟩
  ·cases l with
   |cell a=>
    refine⟨rfl,?_⟩;show a.block<_
    rcases y.1 with e|e
    ·rw[e];exact aJ (j8 h.fd) D.grow
    ·rw[e];exact aJ (j8 h.wg) D.grow
   |_=>exact y.elim
 have M:gL PR Qq (fun l=>Z l\/rN (i_ Fd Mp Wg X P k st) l) f' l' w':=by
  refine gL.pure np fun w2 hk=>?_;rw[v];have V:gU (i_ Fd Mp Wg X P k st).U (kR Z Mp Gv w.heap.size) w w2:=bE D ⟨fun a Y=>.inl (hk.kept a (aJ Y.1 D.grow) id),hk.grow,hk.env⟩;refine kk w2 V ?_ ?_ (hk.tape.trans j) (hk.output.trans s) (aJ F hk.grow)
  ·rw[hk.kept Mp F id];exact S
  ·have I:w'.heap[(i_ Fd Mp Wg X P k st).Fd]?=_:=K1;have h2:w2.heap[Fd]?=w'.heap[Fd]?:=hk.kept Fd (j8 I) id;exact h2.trans I
 obtain⟨N2,m2,t2,Z2,f2,l2,w2,qu,hA2,hQ2⟩:=M _ t' ⟨n_,sl',q',rfl,hg',hL,hP,(fun a y=>y.elim),Q,fun op gN=>(hsn op gN).2⟩;exact⟨N+N2,m2,t2,Z2,f2,l2,w2,by rw[Go.Proofs.YtdcjnhipenbcfaaGreatDoor.Ren.runNT_add PR N N2 _ _ _ _ akz];exact qu,hA2,hQ2⟩
end
end Ph
namespace Ph
open Conc Ren
structure ie(Z:Loc->Prop)(w w':ae):Prop where
 old:∀a,a<w.heap.size->jf Z a->w'.heap[a]?=w.heap[a]?
 grow:w.heap.size<=w'.heap.size
 tape:w'.tape=w.tape
 env:nH w'.os w.os
 output:w'.output=w.output
theorem ie.trans{Z:Loc->Prop}{w w1 w2:ae}(h:ie Z w w1)(k:ie Z w1 w2):ie Z w w2:=⟨fun a Y K=>(k.old a (aJ Y h.grow) K).trans (h.old a Y K),bI h.grow k.grow,k.tape.trans h.tape,k.env.trans h.env,k.output.trans h.output⟩
theorem ie.of(h:Kept (fun _=>False) X' w w'):ie Z w w':=⟨fun a Y _=>h.kept a Y id,h.grow,h.tape,h.env,h.output⟩
section
variable{P:aQ}{Q:QT}{Z:Loc->Prop}{f:aj}{l:List aj}{w:ae}
theorem gL.xO(k:qh Z w.heap.size->gL P Q Z f l w):gL P Q Z f l w:=by
 rintro m t ⟨gs,sl,q,rfl,Y⟩;exact k Y.nU _ t ⟨gs,sl,q,rfl,Y⟩
theorem gL.alloc{F:Nat->aj}{o:Obj}(gF:∀w2,aX P true (G f l) w2=.go (G (F w2.heap.size) l) (w2.alloc o) #[])
  (k:∀B w',w.heap.size<=B->B<w'.heap.size->w'.heap[B]?=some o->jf Z B->ie Z w w'->gL P Q Z (F B) l w'):gL P Q Z f l w:=by
 refine gL.xO fun Y=>?_;refine dc (U:=fun _ _=>False) (S:=fun _=>False) (X:=fun _=>False) (Done:=fun S X f' l' w'=>∃B,w.heap.size<=B/\B<w'.heap.size/\w'.heap[B]?=some o/\f'=F B/\l'=l) (Tr.one fun w2 hr=>⟨_,_,_,_,_,_,gF w2,(Hr (U:=fun _ _=>False) o).toDid,.stop ⟨w2.heap.size,hr.grow,by simp,aP w2 o,rfl,rfl⟩⟩) (fun a h=>h.elim) fun S' X' f' l' w' hd hk=>?_;obtain⟨B,I,h2,K,rfl,rfl⟩:=hd;exact k B w' I h2 K (Y.off I) (ie.of hk)
theorem gL.read{a:Addr}(gF:∀w2,w2.cell? a=some v->aX P true (G f l) w2=.go (G f1 l) w2 #[⟨.cell a,false,false⟩])(K:w.cell? a=some v)(A:jf Z a.block)(k:∀w',ie Z w w'->gL P Q Z f1 l w'):gL P Q Z f l w:=by
 have H:a.block<w.heap.size:=cU fun y=>by simp[aM,bU y]at K
 refine dc (U:=fun _ _=>False) (S:=fun b=>b=a.block) (X:=fun _=>False) (Done:=fun S X f' l' w'=>X=(fun _=>False)/\f'=f1/\l'=l) (Tr.one fun w2 hr=>?_) (fun b h=>by simp_all) fun S' X' f' l' w' hd hk=>?_
 ·have Y:w2.cell? a=some v:=by
   simp[aM]at K⊢;rw[(hr.kept _ rfl).eq (fun i y=>y)];exact K
  exact⟨_,_,_,_,_,_,gF w2 Y,(uO (U:=fun _ _=>False) (S:=fun b=>b=a.block) rfl id).toDid,.stop ⟨rfl,rfl,rfl⟩⟩
 ·obtain⟨rfl,rfl,rfl⟩:=hd;exact k w' (ie.of hk)
theorem gL.lz(n:Nat)(k:∀w',ie Z w w'->(∀b,b<w.heap.size->w'.heap[b]?=w.heap[b]?)->gL P Q Z (iw P n f l).1 (iw P n f l).2 w'):gL P Q Z f l w:=by
 have tr:∀(n:Nat) (f:aj) (l:List _) (w:ae) (D:(Nat->Prop)->(Nat->Prop)->aj->List _->ae->Prop),(∀w2,gU (fun _ _=>False) (fun _=>False) w w2->Tr P true (fun _ _=>False) D (fun _=>False) (fun _=>False) (iw P n f l).1 (iw P n f l).2 w2)->Tr P true (fun _ _=>False) D (fun _=>False) (fun _=>False) f l w:=by
  intro n;induction n with
  |zero=>exact fun f l w D h=>h w (.refl _ _ _)
  |succ n K=>
   intro f l w D h;unfold iw at h;split at h
   ·exact h w (.refl _ _ _)
   ·split at h
    ·rename_i f1 l1 e;exact Tr.one fun w2 hr=>⟨_,_,w2,#[],_,_,tu e,(js (U:=fun _ _=>False) _ _ w2).toDid,K f1 l1 w2 D fun w3 Y=>h w3 (hr.trans Y)⟩
    ·exact h w (.refl _ _ _)
 refine dc (Done:=fun S X f' l' w'=>X=(fun _=>False)/\f'=(iw P n f l).1/\l'=(iw P n f l).2) (tr n f l w _ fun w2 hr=>.stop ⟨rfl,rfl,rfl⟩) (fun a h=>h.elim) fun S' X' f' l' w' hd hk=>?_;obtain⟨rfl,rfl,rfl⟩:=hd;exact k w' (ie.of hk) fun b hb=>hk.kept b hb id
end
theorem ajf{U:Nat->Nat->Prop}{X:Nat->Prop}(K:∀a,S a->a<w.heap.size/\∀l,EY a l->Z l->∃ad:Addr,l=.cell ad/\U ad.block ad.off)(A:qh Z w.heap.size)(B:w.heap.size<=u){e:Event}(h:zL S X w u e)(C:∀a,e.loc=.cell a->¬U a.block a.off):EvL Z u e:=by
 obtain⟨loc,wr,I⟩:=e;rcases h with⟨a,rfl,h2,D⟩|⟨a,rfl,h2,D⟩|⟨m,rfl,h2⟩|rfl
 ·have Y:¬Z (.cell a)/\a.block<u:=by
   rcases D with⟨h,_⟩|h
   ·refine⟨fun Y=>?_,aJ (K _ h).1 B⟩;obtain⟨ad,e,R⟩:=(K _ h).2 (.cell a) rfl Y;simp_all
   ·exact⟨A.off h.1 _ rfl,h.2⟩
  refine⟨fun x hx H=>?_,by simp,by simp,?_⟩
  ·simp[cm,cT]at hx;subst hx;simp_all
  ·exact Y.2
 ·subst h2;have Y:¬Z (.obj a)/\a<u:=by
   rcases D with⟨h,_⟩|h
   ·refine⟨fun Y=>?_,aJ (K _ h).1 B⟩;obtain⟨ad,e,_⟩:=(K _ h).2 (.obj a) rfl Y;cases e
   ·exact⟨A.off h.1 _ rfl,h.2⟩
  refine⟨fun x hx H=>?_,by simp,by simp,?_⟩
  ·simp[cm,cT]at hx;subst hx;simp_all
  ·simp[cm];exact Y.2
 ·refine⟨fun x hx H=>?_,?_,?_,?_⟩
  ·rcases h2 with rfl|⟨f,rfl⟩<;>simp[cm,cT]at hx
  ·rcases h2 with rfl|⟨f,rfl⟩<;>simp
  ·rcases h2 with rfl|⟨f,rfl⟩<;>simp
  ·rcases h2 with rfl|⟨f,rfl⟩<;>trivial
 ·refine⟨fun x hx H=>?_,by simp,by simp,trivial⟩;simp[cm,cT]at hx;subst hx;have:=(A _ H).1;cases this
structure yQ(P:aQ)(Z:Loc->Prop)(U:Nat->Nat->Prop)(S:Nat->Prop)(g:ay)(w:ae)(gs:Array ay)(t:cu)(q:Nat->Nat):Prop where
 g0:gs[0]?=some g
 r_:Leavers P t gs q
 past:Past Z w.heap.size t
 held:∀a,S a->a<w.heap.size/\∀l,EY a l->Z l->∃ad:Addr,l=.cell ad/\U ad.block ad.off
 nU:qh Z w.heap.size
 nr:∀op∈t,∀a,op.act≠.mark (.release a)
open Go.ConcN (sumTo upd sumTo_upd upd_ne upd_same)
theorem abe{P:aQ}{U:Nat->Nat->Prop}{Done:(Nat->Prop)->(Nat->Prop)->ay->ae->Prop}{X:Nat->Prop}{g:ay}(h:Tz P true U Done S X g w):
  ∀(gs:Array ay) (sl:Option (Nat×Nat)) (t:cu) (q:Nat->Nat),yQ P Z U S g w gs t q->
   ∃(N:Nat) (K:Array ay) (B:ay) (w':ae) (A:Option (Nat×Nat)) (t':cu) (q':Nat->Nat) (S' X':Nat->Prop),
    runNT P N (crowd gs w sl) t=(.next (crowd K w' A),t')/\Done S' X' B w'/\yQ P Z U S' B w' K t' q'/\Kept X X' w w':=by
 induction h with
 |stop hd=>exact fun gs sl t q H=>⟨0,gs,_,_,sl,t,q,_,_,rfl,hd,H,Kept.refl _ _⟩
 |@step S X g w hs ex _ ih=>
  have inner:∀(M:Nat) (gs:Array ay) (w0:ae) (sl:Option (Nat×Nat)) (t:cu) (q:Nat->Nat),sumTo gs.size q=M->gU U S w w0->yQ P Z U S g w0 gs t q->
    ∃(N:Nat) (K:Array ay) (B:ay) (w':ae) (A:Option (Nat×Nat)) (t':cu) (q':Nat->Nat) (S' X':Nat->Prop),
     runNT P N (crowd gs w0 sl) t=(.next (crowd K w' A),t')/\Done S' X' B w'/\yQ P Z U S' B w' K t' q'/\Kept X X' w0 w':=by
   intro M;induction M using Nat.strongRecOn with
   |_ M Kv=>
   intro gs w0 sl t q hM hr H;have o:=H.r_;have p:=H.g0;have Kx:∀x∈gs,awake x:=by
    intro x hx;obtain⟨i,C,rfl⟩:=Array.mem_iff_getElem.1 hx;rcases alc i with rfl|R
    ·have:gs[0]=g:=by simpa[bc C]using p
     rw[this];exact awake_of (.inl hs)
    ·exact awake_of ((o.old i _ R (bc C)).status.elim .inl fun x=>.inr (.inr x))
   obtain⟨i,x,d,A,C,hx,gF⟩:=crowd_pick (P:=P) (w:=w0) (sl:=sl) Kx ⟨0,_,p,hs⟩;rcases alc i with rfl|R
   ·obtain rfl:x=g:=by rw[p]at C;exact(Option.some.inj C).symm
    have u:=hr.trans (AU U S w0 d);obtain⟨g1,w1,es,S1,X1,r,hd⟩:=ex (w0.at d) u;have D:=alU (P:=P) (sl:=A) (i:=0) C (r);have L:0<gs.size:=(bu.1 p).1;have Y:=hd.grow;have Q:yQ P Z U S1 g1 w1 ((gs.map (woken P x g1 w1)).setIfInBounds 0 g1) (t++fv 0 x.frame.fn x.frame.place es) q:=by
     refine⟨by simp[L],⟨fun j y F f=>?_,fun j F=>?_⟩,?_,fun a ha=>?_,H.nU.mono Y,DD H.nr (R6 hd.ev)⟩
     ·have E:0≠j:=by omega
      rw[cG E,dt]at f;obtain⟨z,m,rfl⟩:=cn.1 f;have G:=o.old j z F m;rw[alX G,cJ t (by omega) _ (fun op gN=>Ren.ofEvents_g gN)];exact G
     ·rw[cJ t (g':=0) (by simp at F;omega) _ (fun op gN=>Ren.ofEvents_g gN)];exact o.above j (by simpa using F)
     ·exact(H.past.mono Y).own fun e he=>ajf (w:=w0.at d) H.held H.nU Y (hd.ev e he) (hd.Ky e he)
     ·rcases(hd.held a).1 ha with y|y
      ·exact⟨aJ (H.held a y).1 Y,(H.held a y).2⟩
      ·exact⟨y.2,fun l hl m=>absurd m (H.nU.off y.1 l hl)⟩
    obtain⟨N,K,B,w',I,t',q',S',X',c,T,O,V⟩:=ih (w0.at d) g1 w1 es S1 X1 u r hd _ A _ q Q;exact⟨N+1,K,B,w',I,t',q',S',X',by simp only[runNT,gF,D];exact c,T,O,((Kept.at w0 d).trans hd.toDid.toKept).trans V⟩
   ·have G:=o.old i x R C;have EZ:(i==0)=false:=by simp;omega
    have L:i<gs.size:=(bu.1 C).1;cases W:q i with
    |zero=>rw[W]at G;rw[G.1]at hx;cases hx
    |succ k=>
     rw[W]at G;rcases G with⟨hf,_⟩|⟨_,B,es,hm,v,sW⟩
     ·rw[hf]at hx;cases hx
     have D:=alU (P:=P) (sl:=A) (i:=i) C (by rw[EZ];exact v (w0.at d));have zP:((gs.map (woken P x B (w0.at d))).setIfInBounds i B).size=gs.size:=by simp
     have Tw:sumTo gs.size (upd q i k)+(k+1)=sumTo gs.size q+k:=by
      have:=sumTo_upd q k id L;simpa[W]using this
     have Q:yQ P Z U S g (w0.at d) ((gs.map (woken P x B (w0.at d))).setIfInBounds i B) (t++fv i x.frame.fn x.frame.place es) (upd q i k):=by
      refine⟨?_,⟨fun j y F f=>?_,fun j F=>?_⟩,H.past.mute (by omega) hm,H.held,H.nU,DD H.nr (Q0 hm)⟩
      ·have E:i≠0:=by omega
       rw[cG E,dt,p];simp[woken_run (b:=g) hs]
      ·by_cases J:i=j
       ·subst J;rw[eH (by simpa using L)]at f;obtain rfl:=Option.some.inj f;rw[upd_same,Deaf_own];exact sW
       ·rw[cG J,dt]at f;obtain⟨z,m,rfl⟩:=cn.1 f;have s:=o.old j z F m;rw[alX s,upd_ne q k (Ne.symm J),cJ t J _ (fun op gN=>Ren.ofEvents_g gN)];exact s
      ·rw[cJ t (g':=i) (by simp at F;omega) _ (fun op gN=>Ren.ofEvents_g gN)];exact o.above j (by simpa using F)
     obtain⟨N,K,n,w',I,t',q',S',X',c,T,O,V⟩:=Kv (sumTo gs.size (upd q i k)) (by omega) _ (w0.at d) A _ (upd q i k) (by rw[zP]) (hr.trans (AU U S w0 d)) Q;exact⟨N+1,K,n,w',I,t',q',S',X',by simp only[runNT,gF,D];exact c,T,O,(Kept.at w0 d).trans V⟩
  exact fun gs sl t q H=>inner _ gs w sl t q rfl (ep U S w) H
theorem gL.tz{P:aQ}{Q:QT}{U:Nat->Nat->Prop}{Done:(Nat->Prop)->(Nat->Prop)->ay->ae->Prop}{X:Nat->Prop}(h:Tz P true U Done S X (G f l) w)(O:qh Z w.heap.size->∀a,S a->a<w.heap.size/\∀l,EY a l->Z l->∃ad:Addr,l=.cell ad/\U ad.block ad.off)
  (k:∀S' X' A w',Done S' X' A w'->Kept X X' w w'->∃f' l',A=G f' l'/\gL P Q Z f' l' w'):gL P Q Z f l w:=by
 rintro m t ⟨gs,sl,q,rfl,K⟩;obtain⟨N,H,A,w',B,t',V,S',X',hr,J,Y,M⟩:=abe (Z:=Z) h gs sl t q ⟨K.g0,K.r_,K.past,O K.nU,K.nU,K.nr⟩;obtain⟨f',l',rfl,L⟩:=k S' X' A w' J M;obtain⟨C,T,t2,F,f2,l2,w2,I,D,R⟩:=L _ t' ⟨H,B,V,rfl,Y.g0,Y.r_,Y.past,(fun a h=>h.elim),Y.nU,Y.nr⟩;exact⟨N+C,T,t2,F,f2,l2,w2,by rw[Go.Proofs.YtdcjnhipenbcfaaGreatDoor.Ren.runNT_add P N C _ _ _ _ hr];exact I,D,R⟩
abbrev eF(site:List _)(al:List (Nat×ah))(j:Nat->ah):=nz 122 24 site (sA al) j
abbrev jS(k q st:Nat):Value:=.agg #[iv k,iv q,iv st]
def aE(X P:ByteArray)(k q st n:Nat):=[(0,.string X),(1,.string P),(2,jS k q st),(3,iv n)]
def ZE:=aE .empty .empty 0 0 0 1
noncomputable abbrev qj (site:List _) (al:List _) (v:ah):=iw PR 60 ((eF site al fun _=>ak).finish v) []
def B1(a:List _)(Rf:Nat):=a++[(4,ptr Rf)]
def B2(a:List _)(Rf Sg:Nat):=a++[(4,ptr Rf),(5,ptr Sg)]
def pK(a:List _)(Rf Sg By:Nat):=a++[(4,ptr Rf),(5,ptr Sg),(6,ptr By)]
def FW(Mp:Nat):Value:=.agg #[.int .i32 0,.int .u32 0,.map (some Mp)]
noncomputable def B3:=(iw PR 60 (Frame.enter PR 122 #[.string .empty,.string .empty,jS 0 0 0,iv 1] .normal) []).1.todo
noncomputable def B4:=(qj B3 ZE (ptr 0)).1.todo
noncomputable def B5:=(qj B4 (B1 ZE 0) (ptr 0)).1.todo
noncomputable def B6:=(qj B5 (B2 ZE 0 0) (ptr 0)).1.todo
noncomputable def B7:=(qj B6 (pK ZE 0 0 0) (.map (some 0))).1.todo
noncomputable def B8:=(qj B7 (pK ZE 0 0 0++[(11,FW 0)]) (ptr 0)).1.todo
noncomputable def Aa:=(qj B8 (pK ZE 0 0 0++[(12,ptr 0)]) (ptr 0)).1.todo
def jT(a:List _)(Rf Sg By Fp:Nat):=pK a Rf Sg By++[(9,ptr Fp)]
noncomputable def L4:=(qj Aa (jT ZE 0 0 0 0++[(12,ptr 0)]) ak).1.todo
noncomputable def L5:=(qj L4 (jT ZE 0 0 0 0) (.string .empty)).1.todo
noncomputable def L6:=(qj L5 (jT ZE 0 0 0 0++[(13,.string .empty)]) (.string .empty)).1.todo
noncomputable def yc:=(qj L6 (jT ZE 0 0 0 0++[(13,.string .empty),(14,.string .empty)]) (jS 0 0 0)).1.todo
noncomputable def Ab:=(qj yc (jT ZE 0 0 0 0++[(13,.string .empty),(14,.string .empty),(15,jS 0 0 0)]) (.slice none 0 0)).1.todo
noncomputable def L7:=(qj Ab (jT ZE 0 0 0 0++[(16,.slice none 0 0),(17,iv 1),(18,kv 0 0 0 0)]) unit).1.todo
noncomputable def L8:=(qj L7 (jT ZE 0 0 0 0) (ptr 0)).1.todo
section
variable(X P:ByteArray)(k q st n Rf Sg By Mp Fd Fp:Nat)(v:ah)(J:Nat->ah)(l:List aj)
noncomputable def U0:=iw PR 60 (Frame.enter PR 122 #[.string X,.string P,jS k q st,iv n] .normal) l
noncomputable def U4:=iw PR 60 ((eF B3 (aE X P k q st n) J).finish (ptr Rf)) l
noncomputable def EB2:=iw PR 60 ((eF B4 (B1 (aE X P k q st n) Rf) J).finish (ptr Sg)) l
noncomputable def EMM:=iw PR 60 ((eF B5 (B2 (aE X P k q st n) Rf Sg) J).finish (ptr By)) l
noncomputable def U5:=iw PR 60 ((eF B6 (pK (aE X P k q st n) Rf Sg By) J).finish (.map (some Mp))) l
noncomputable def EAL:=iw PR 60 ((eF B7 (pK (aE X P k q st n) Rf Sg By++[(11,FW Mp)]) J).finish (ptr Fd)) l
noncomputable def EFS:=iw PR 60 ((eF B8 (pK (aE X P k q st n) Rf Sg By++[(12,ptr Fd)]) J).finish (ptr Fp)) l
noncomputable def EE1:=iw PR 60 ((eF Aa (jT (aE X P k q st n) Rf Sg By Fp++[(12,ptr Fd)]) J).finish ak) l
noncomputable def EE2:=iw PR 60 ((eF L4 (jT (aE X P k q st n) Rf Sg By Fp) J).finish (.string X)) l
noncomputable def EE3:=iw PR 60 ((eF L5 (jT (aE X P k q st n) Rf Sg By Fp++[(13,.string X)]) J).finish (.string P)) l
noncomputable def EE4:=iw PR 60 ((eF L6 (jT (aE X P k q st n) Rf Sg By Fp++[(13,.string X),(14,.string P)]) J).finish (jS k q st)) l
noncomputable def EE5:=iw PR 60 ((eF yc (jT (aE X P k q st n) Rf Sg By Fp++[(13,.string X),(14,.string P),(15,jS k q st)]) J).finish v) l
noncomputable def EE6:=iw PR 60 ((eF Ab (jT (aE X P k q st n) Rf Sg By Fp++[(16,v),(17,iv n),(18,kv By Rf Sg Fp)]) J).finish unit) l
noncomputable def U6:=iw PR 60 ((eF L7 (jT (aE X P k q st n) Rf Sg By Fp) J).finish (ptr Fd)) l
end
section
variable{X P:ByteArray}{k q st n Rf Sg By Mp Fd Fp:Nat}{v:ah}{J:Nat->ah}{l cs:List aj}{c:aj}
theorem eb0:look [0,1,2,3] (U0 X P k q st n l)=iQ 122 24 l B3 (aE X P k q st n) none none:=by kernel_rfl
theorem eb1:look [0,1,2,3,4] (U4 X P k q st n Rf J l)=iQ 122 24 l B4 (B1 (aE X P k q st n) Rf) none none:=by kernel_rfl
theorem eb2:look [0,1,2,3,4,5] (EB2 X P k q st n Rf Sg J l)=iQ 122 24 l B5 (B2 (aE X P k q st n) Rf Sg) none none:=by kernel_rfl
theorem emm:look [0,1,2,3,4,5,6] (EMM X P k q st n Rf Sg By J l)=iQ 122 24 l B6 (pK (aE X P k q st n) Rf Sg By) none none:=by kernel_rfl
theorem eb3:look [0,1,2,3,4,5,6,11] (U5 X P k q st n Rf Sg By Mp J l)=iQ 122 24 l B7 (pK (aE X P k q st n) Rf Sg By++[(11,FW Mp)]) none none:=by kernel_rfl
theorem eal:look [0,1,2,3,4,5,6,12] (EAL X P k q st n Rf Sg By Mp Fd J l)=iQ 122 24 l B8 (pK (aE X P k q st n) Rf Sg By++[(12,ptr Fd)]) none none:=by kernel_rfl
theorem efs:look [0,1,2,3,4,5,6,9,12] (EFS X P k q st n Rf Sg By Fd Fp J l)=iQ 122 24 l Aa (jT (aE X P k q st n) Rf Sg By Fp++[(12,ptr Fd)]) none none:=by kernel_rfl
theorem ee1:look [0,1,2,3,4,5,6,9] (EE1 X P k q st n Rf Sg By Fd Fp J l)=iQ 122 24 l L4 (jT (aE X P k q st n) Rf Sg By Fp) none (some (9,ptr Rf)):=by kernel_rfl
theorem ee2:look [0,1,2,3,4,5,6,9,13] (EE2 X P k q st n Rf Sg By Fp J l)=iQ 122 24 l L5 (jT (aE X P k q st n) Rf Sg By Fp++[(13,.string X)]) none (some (9,ptr Sg)):=by kernel_rfl
theorem ee3:look [0,1,2,3,4,5,6,9,13,14] (EE3 X P k q st n Rf Sg By Fp J l)=iQ 122 24 l L6 (jT (aE X P k q st n) Rf Sg By Fp++[(13,.string X),(14,.string P)]) none (some (75,ptr By)):=by kernel_rfl
theorem ee4:look [0,1,2,3,4,5,6,9,13,14,15] (EE4 X P k q st n Rf Sg By Fp J l)=iQ 122 24 l yc (jT (aE X P k q st n) Rf Sg By Fp++[(13,.string X),(14,.string P),(15,jS k q st)]) (some (48,#[.string X,.string P,jS k q st])) none:=by kernel_rfl
theorem ee5:look [0,1,2,3,4,5,6,9,16,17,18] (EE5 X P k q st n Rf Sg By Fp v J l)=iQ 122 24 l Ab (jT (aE X P k q st n) Rf Sg By Fp++[(16,v),(17,iv n),(18,kv By Rf Sg Fp)]) (some (137,#[v,iv n,kv By Rf Sg Fp])) none:=by kernel_rfl
theorem ee6:look [0,1,2,3,4,5,6,9] (EE6 X P k q st n Rf Sg By Fp v J l)=iQ 122 24 l L7 (jT (aE X P k q st n) Rf Sg By Fp) none (some (182,ptr Fp)):=by kernel_rfl
theorem ee7:look [0,1,2,3,4,5,6,9] (U6 X P k q st n Rf Sg By Fd Fp J l)=iQ 122 24 l L8 (jT (aE X P k q st n) Rf Sg By Fp) none (some (166,.pointer (some ⟨Fd,2,none⟩))):=by kernel_rfl
theorem ajg:gS PR 1 (eF yc (jT (aE X P k q st n) Rf Sg By Fp++[(13,.string X),(14,.string P),(15,jS k q st)]) J) l=(Frame.enter PR 48 #[.string X,.string P,jS k q st] .normal,eF yc (jT (aE X P k q st n) Rf Sg By Fp++[(13,.string X),(14,.string P),(15,jS k q st)]) J::l):=by kernel_rfl
theorem ajh:gS PR 1 (eF Ab (jT (aE X P k q st n) Rf Sg By Fp++[(16,v),(17,iv n),(18,kv By Rf Sg Fp)]) J) l=(Frame.enter PR 137 #[v,iv n,kv By Rf Sg Fp] .normal,eF Ab (jT (aE X P k q st n) Rf Sg By Fp++[(16,v),(17,iv n),(18,kv By Rf Sg Fp)]) J::l):=by kernel_rfl
theorem aji:(opAt (eF B3 (aE X P k q st n) J)).map (fun o=>o.op)=some (.box 9 (.tmp 0)):=by kernel_rfl
theorem ajj:(opAt (eF B4 (B1 (aE X P k q st n) Rf) J)).map (fun o=>o.op)=some (.box 9 (.tmp 1)):=by kernel_rfl
theorem ajk:(opAt (eF B5 (B2 (aE X P k q st n) Rf Sg) J)).map (fun o=>o.op)=some (.box 75 (.tmp 2)):=by kernel_rfl
theorem ajl:(opAt (eF B6 (pK (aE X P k q st n) Rf Sg By) J)).map (fun o=>o.op)=some (.makeMap 166 none):=by kernel_rfl
theorem ajm:(opAt (eF B7 (pK (aE X P k q st n) Rf Sg By++[(11,FW Mp)]) J)).map (fun o=>o.op)=some (.box 191 (.tmp 11)):=by kernel_rfl
theorem ajn:(opAt (eF B8 (pK (aE X P k q st n) Rf Sg By++[(12,ptr Fd)]) J)).map (fun o=>o.op)=some (.alloc 182):=by kernel_rfl
theorem ajo:(opAt (eF Aa (jT (aE X P k q st n) Rf Sg By Fp++[(12,ptr Fd)]) J)).map (fun o=>o.op)=some (.store 182 (.tmp 9) (.tmp 12)):=by kernel_rfl
end
noncomputable def B9:=(iw PR 60 (Frame.enter PR 137 #[.slice none 0 0,iv 1,ak] .normal) []).1.todo
def B_(nv:ah)(n:Nat)(work:ah):=[(0,nv),(1,iv n),(2,work)]
noncomputable def FX:=(px B9 (B_ (.slice none 0 0) 1 ak) (ptr 0)).1.todo
def FY(nv:ah)(n:Nat)(work:ah)(Wg:Nat):=[(0,nv),(1,iv n),(2,work),(6,ptr Wg),(13,iv n)]
section
variable(nv:ah)(n Wg Gv:Nat)(work:ah)(J:Nat->ah)(l:List aj)
noncomputable def U7:=iw PR 60 (Frame.enter PR 137 #[nv,iv n,work] .normal) l
noncomputable def U8:=iw PR 60 ((dF B9 (B_ nv n work) J).finish (ptr Wg)) l
end
section
variable{b:Option Addr}{len cap:Nat}{nv:ah}{n Wg Gv:Nat}{work:ah}{J:Nat->ah}{l:List aj}
noncomputable def T5 (b:Option _) (len cap n Wg Gv:Nat) (work:ah) (J:Nat->ah) (l:List _):=iw PR 60 ((dF FX (FY (gY b len cap) n work Wg) J).finish (qV Gv n)) l
theorem ra0:look [0,1,2] (U7 nv n work l)=iQ 137 55 l B9 (B_ nv n work) none none:=by kernel_rfl
theorem ra1:look [0,1,2,6,13] (U8 nv n Wg work J l)=iQ 137 55 l FX (FY nv n work Wg) none none:=by kernel_rfl
theorem akA:look [0,1,2,6,7,16,17,18] (T5 b len cap n Wg Gv work J l)=iQ 137 55 l lO (oD (iA (gY b len cap) n work Wg Gv) n 0++[(18,.bool (decide ((0:Int)<n)))]) none none:=by kernel_rfl
theorem ajp:(opAt (dF B9 (B_ nv n work) J)).map (fun o=>o.op)=some (.alloc 212):=by kernel_rfl
theorem ajq:(opAt (dF FX (FY nv n work Wg) J)).map (fun o=>o.op)=some (.makeSlice 213 (.tmp 13) (.tmp 13)):=by kernel_rfl
end
section
variable{P:aQ}{Q:QT}{Z:Loc->Prop}{f:aj}{l:List aj}{w:ae}
theorem gL.gN(m:Nat)(r:aj×List _)(hr:iw P m f l=r){site:List _}{al:List _}{call:Option _}{load:Option _}(h:look ks r=iQ fn n l site al call load)(hk:al.map (·.1)=ks)
  (k:∀J w',ie Z w w'->(∀b,b<w.heap.size->w'.heap[b]?=w.heap[b]?)->ahead (nz fn n site (sA al) J)=call->ry (nz fn n site (sA al) J)=load->lN fn n site (sA al) (nz fn n site (sA al) J)->gL P Q Z (nz fn n site (sA al) J) l w'):gL P Q Z f l w:=by
 subst hr;refine gL.lz m fun w' H D=>?_;have Y:=kj h hk;have I:=Y.call;have h2:=Y.load;have K:=Y.fr;rw[Y.fr.eq]at I h2;rw[Y.fr.eq]at K;rw[Y.callers,Y.fr.eq];simp_all
end
section
variable{main:Bool}{f:aj}{cs:List aj}
theorem AQ{x:dL}(h:(opAt f).map (fun o=>o.op)=some (.box t x)){c:Array _}(hx:f.eval x=v)(A:v.cells=c)(w:ae):
  aX PR main (G f cs) w=.go (G (f.finish (ptr w.heap.size)) cs) (w.alloc (.cells c t)) #[]:=by
 obtain⟨op,K,gN⟩:=tT h;subst A;have hr:(ax f.eval op).run PR w=.ok (.value (ptr w.heap.size)) (w.alloc (.cells v.cells t)):=by
  unfold ax;simp[gN,hx];rfl
 have Y:(ax f.eval op).events PR w #[]=#[]:=by
  unfold ax;simp[gN];simp[go_sem]
 rw[pN K hr,Y,dj]
theorem Ql(h:(opAt f).map (fun o=>o.op)=some (.alloc t)){c:Array ah}{z:ah}(B:(PR.info? t).map (·.zero)=some (some z))(A:z.cells=c)(w:ae):
  aX PR main (G f cs) w=.go (G (f.finish (ptr w.heap.size)) cs) (w.alloc (.cells c t)) #[]:=by
 obtain⟨op,R,gN⟩:=tT h;subst A;have I:∃Y,PR.info? t=some Y/\Y.zero=some z:=by simp_all
 obtain⟨Y,K,H⟩:=I;have hr:(ax f.eval op).run PR w=.ok (.value (ptr w.heap.size)) (w.alloc (.cells z.cells t)):=by
  unfold ax;simp only[gN];simp[go_sem,cE,cD,K,H];rfl
 have D:(ax f.eval op).events PR w #[]=#[]:=by
  unfold ax;simp only[gN];simp[go_sem,cE,cD,K,H]
 rw[pN R hr,D,dj]
theorem aff(h:(opAt f).map (fun o=>o.op)=some (.makeMap t none))(w:ae):
  aX PR main (G f cs) w=.go (G (f.finish (.map (some w.heap.size))) cs) (w.alloc (.map #[] 0)) #[]:=by
 obtain⟨op,K,gN⟩:=tT h;have hr:(ax f.eval op).run PR w=.ok (.value (.map (some w.heap.size))) (w.alloc (.map #[] 0)):=by
  unfold ax;simp[gN];rfl
 have Y:(ax f.eval op).events PR w #[]=#[]:=by
  unfold ax;simp[gN];rfl
 rw[pN K hr,Y,dj]
theorem afg{x y:dL}(h:(opAt f).map (fun o=>o.op)=some (.makeSlice 213 x y))(M:n<=8)(hx:f.eval x=iv n)(B:f.eval y=iv n)(w:ae):
  aX PR main (G f cs) w=.go (G (f.finish (qV w.heap.size n)) cs) (w.alloc (.cells (oN [] n) 214)) #[]:=by
 obtain⟨op,J,gN⟩:=tT h;have A:PR.underlying 213=some (.slice 214):=by kernel_rfl
 have F:∃Y,PR.info? 214=some Y/\Y.zero=some (.chan none)/\Y.size=1/\Y.bytes=8:=by
  have:(PR.info? 214).map (fun i=>(i.zero,i.size,i.bytes))=some (some (.chan none),1,8):=by kernel_rfl
  simp_all
 obtain⟨Y,H,D,K,R⟩:=F;have I:=run_makeSlice (P:=PR) w 213 214 Y (.chan none) A H D .i64 .i64 (n:Int) (n:Int) (by omega) (Int.le_refl _) (by rw[K];omega) (by rw[R];omega) (by omega);have U:ew (ek none).cells ((n:Int).toNat *Y.size)=oN [] n:=by
  rw[K];apply Array.ext
  ·simp[ew,oN]
  ·intro i I h2;simp[ew,oN,Value.cells,Nat.mod_one]
 rw[U]at I;have hr:(ax f.eval op).run PR w=.ok (.value (qV w.heap.size n)) (w.alloc (.cells (oN [] n) 214)):=by
  unfold ax;simp only[gN,hx,B];rw[Sem.run_bind];show((eT 213 (.int .i64 (n:Int)) (.int .i64 (n:Int))).run PR w).andThen _=_
  rw[I];rfl
 have C:(ax f.eval op).events PR w #[]=#[]:=by
  unfold ax;simp only[gN,hx,B];have:n=0\/n=1\/n=2\/n=3\/n=4\/n=5\/n=6\/n=7\/n=8:=by omega
  rcases this with rfl|rfl|rfl|rfl|rfl|rfl|rfl|rfl|rfl<;>
  simp[go_sem,eT,run_underlying A,underlying,cE,cD,sizeOf,H,D,K,R,askRoom,roomBytes]<;>(try decide)
 rw[pN J hr,C,dj]
theorem afh{x y:dL}(h:(opAt f).map (fun o=>o.op)=some (.store t x y)){B b:Nat}{row:Array ah}(hx:f.eval x=.pointer (some ⟨B,i,none⟩))(C:f.eval y=ptr b)(A:w.heap[B]?=some (.cells row t'))(F:i<row.size)(M:(PR.funcs[f.fn]?).any (·.norace)=false)(N:(PR.info? t).map (·.size)=some 1):
  aX PR main (G f cs) w=.go (G (f.finish ak) cs) (w.setCell ⟨B,i,none⟩ (ptr b)) #[⟨.cell ⟨B,i,none⟩,true,false⟩]:=by
 obtain⟨op,U,gN⟩:=tT h;have D:w.cell? ⟨B,i,none⟩=some row[i]:=by simp[aM,A,F]
 have R:w.frozen? ⟨B,i,none⟩=false:=by simp[alR,A]
 have J:∃Y,PR.info? t=some Y/\Y.size=1:=by simp_all
 obtain⟨Y,K,H⟩:=J;have hr:(ax f.eval op).run PR w=.ok .skip (w.setCell ⟨B,i,none⟩ (ptr b)):=by
  unfold ax;simp only[gN,hx,C];simp[go_sem,storeVar,sizeOf,cD,K,H,D,R,ptr]
 have I:(ax f.eval op).events PR w #[]=#[⟨.cell ⟨B,i,none⟩,true,false⟩]:=by
  unfold ax;simp only[gN,hx,C];simp[go_sem,storeVar,sizeOf,cD,K,H,D,R,ptr,events_store PR w _ _ (.pointer _) .plain rfl]
 rw[step_skip U hr,I,seen_def,M];simp[seenStep]
theorem afi{B:Nat}(h:ry f=some (75,ptr B)){a b c:ah}(K:w.heap[B]?=some (.cells #[a,b,c] t'))(A:(PR.funcs[f.fn]?).any (·.norace)=false):
  aX PR main (G f cs) w=.go (G (f.finish (.agg #[a,b,c])) cs) w #[⟨.cell ⟨B,0,none⟩,false,false⟩,⟨.cell ⟨B,1,none⟩,false,false⟩,⟨.cell ⟨B,2,none⟩,false,false⟩]:=by
 obtain⟨op,x,H,gN,hx⟩:=GH h;have c0:w.cell? ⟨B,0,none⟩=some a:=by simp[aM,K]
 have c1:w.cell? ⟨B,1,none⟩=some b:=by simp[aM,K]
 have c2:w.cell? ⟨B,2,none⟩=some c:=by simp[aM,K]
 have hr:(ax f.eval op).run PR w=.ok (.value (.agg #[a,b,c])) w:=by
  unfold ax;simp only[gN,hx,ptr];simp[go_sem,c0,c1,c2]
 have Y:(ax f.eval op).events PR w #[]=#[⟨.cell ⟨B,0,none⟩,false,false⟩,⟨.cell ⟨B,1,none⟩,false,false⟩,⟨.cell ⟨B,2,none⟩,false,false⟩]:=by
  unfold ax;simp only[gN,hx,ptr];simp[go_sem,c0,c1,c2]
 rw[pN H hr,Y,seen_def,A];simp[seenStep]
end
end Ph
end Go.Proofs.YtdcjnhipenbcfaaGreatDoor
namespace Go.Proofs
open Shelf
def Tryz.NJ:Go.Shelf.Ren:=⟨fun|156=>110|165=>121|166=>63|169=>68|240=>96|241=>136|276=>113|277=>156|n=>n,fun|31=>65|9=>9|3=>3|4=>4|0=>0|20=>20|72=>102|76=>105|70=>100|37=>79|75=>104|127=>139|164=>159|5=>5|80=>108|n=>n,fun|n=>n⟩
theorem Tryz.afj:Go.Proofs.Lays.n156 af Tryz.NJ:={
 mixed:=by kernel_rfl
 f156:=Tryz.func110.trans (congrArg some (by kernel_rfl))
 f165:=Tryz.func121.trans (congrArg some (by kernel_rfl))
 f166:=Tryz.func63.trans (congrArg some (by kernel_rfl))
 f169:=Tryz.func68.trans (congrArg some (by kernel_rfl))
 f240:=Tryz.func96.trans (congrArg some (by kernel_rfl))
 f241:=Tryz.func136.trans (congrArg some (by kernel_rfl))
 f276:=ali.trans (congrArg some (by kernel_rfl))
 f277:=Tryz.func156.trans (congrArg some (by kernel_rfl))
 t0:=bP
 a0:=bM
 z0:=bO
 v0:=bR
 t3:=aO
 a3:=bp
 z3:=bq
 v3:=br
 t4:=c9
 a4:=cW
 z4:=cY
 v4:=c_
 t9:=aW
 a9:=cw
 z9:=cy
 v9:=cA
 t20:=alI
 a20:=alq
 z20:=alA
 v20:=alO
 t31:=Tryz.underlying65
 a31:=Tryz.isAgg65
 z31:=Tryz.sizeOf65
 v31:=Tryz.zeroValue65
 t37:=bD
 a37:=cX
 z37:=cZ
 v37:=da
 t70:=bZ
 a70:=dQ
 z70:=dY
 v70:=eg
 t72:=ec
 a72:=dR
 z72:=dZ
 v72:=eh
 t75:=Tryz.underlying104
 a75:=Tryz.isAgg104
 z75:=Tryz.sizeOf104
 v75:=Tryz.zeroValue104
 t76:=Tryz.underlying105
 a76:=Tryz.isAgg105
 z76:=Tryz.sizeOf105
 v76:=Tryz.zeroValue105
 t127:=alE
 a127:=alk
 z127:=alw
 v127:=alK
 t164:=ed
 a164:=Tryz.isAgg159
 z164:=Tryz.sizeOf159
 v164:=Tryz.zeroValue159}
theorem Tryz.Wj:eO af Tryz.NJ:={
 sizeBuilder:=by kernel_rfl
 liesBuilder:=by kernel_rfl
 t5:=bQ
 a5:=cv
 z5:=cx
 v5:=cz
 infoByte:=by kernel_rfl
 cellsByte:=by kernel_rfl
 sizeByte:=by kernel_rfl
 neB5:=by decide}
open Go.RowKit in
theorem Tryz.strings_Join(F o c:Nat)(xs:List ByteArray)(A:ByteArray)(w:ae)(K:∀(j:Nat) x,xs[j]?=some x->w.cell? ⟨F,o+j,none⟩=some (.string x))(M:F<w.heap.size)(N:xs.length<=140737488355328)(B:xs.length<=c)(C:(Lib.join (xs.map (·.data.toList)) A.data.toList).length<=140737488355328):
  ao af 110 #[.slice (some ⟨F,o,none⟩) xs.length c,.string A] w fun e w'=>e=.returned (.string ⟨(Lib.join (xs.map (·.data.toList)) A.data.toList).toArray⟩)/\ai w.heap.size w w':=Any.strings_Join Tryz.afj Tryz.Wj F o c xs A w K M N B C
def Tryz.abf:Go.Shelf.Ren:=⟨fun|7=>124|10=>143|n=>n,fun|23=>166|26=>3|3=>3|28=>170|0=>0|27=>169|33=>197|4=>4|n=>n,fun|n=>n⟩
theorem Tryz.S9:Go.Proofs.SlLaysZI.n7 af Tryz.abf:={
 mixed:=by kernel_rfl
 f7:=⟨Tryz.f124.name,by decide,Tryz.func124.trans (congrArg some (by kernel_rfl))⟩
 f10:=⟨Tryz.f143.name,by decide,Tryz.func143.trans (congrArg some (by kernel_rfl))⟩
 t0:=bP
 a0:=bM
 z0:=bO
 v0:=bR
 t4:=c9
 a4:=cW
 z4:=cY
 v4:=c_
 t23:=Tryz.underlying166
 a23:=Tryz.isAgg166
 z23:=Tryz.sizeOf166
 v23:=Tryz.zeroValue166
 t26:=aO
 a26:=bp
 z26:=bq
 v26:=br
 t27:=Tryz.underlying169
 a27:=Tryz.isAgg169
 z27:=Tryz.sizeOf169
 v27:=Tryz.zeroValue169
 t28:=alF
 a28:=alm
 z28:=alx
 v28:=alL
 t33:=Tryz.underlying197
 a33:=Tryz.isAgg197
 z33:=Tryz.sizeOf197
 v33:=Tryz.zeroValue197}
def Tryz.NK:Go.Shelf.Ren:=⟨fun|6=>123|8=>141|9=>142|11=>162|13=>164|12=>163|23=>198|24=>152|14=>189|15=>190|16=>191|17=>192|18=>193|19=>194|20=>195|21=>196|22=>197|25=>208|26=>209|27=>210|28=>211|29=>212|30=>213|31=>221|n=>n,fun|26=>3|28=>170|24=>25|0=>0|3=>3|37=>204|48=>185|50=>176|4=>4|40=>239|39=>238|45=>217|5=>5|9=>9|51=>258|55=>261|57=>264|58=>80|33=>197|n=>n,fun|n=>n⟩
theorem Tryz.afk:Go.Proofs.SlLaysZI.n6 af Tryz.NK:={
 mixed:=by kernel_rfl
 f6:=⟨Tryz.f123.name,by decide,Tryz.func123.trans (congrArg some (by kernel_rfl))⟩
 f8:=⟨Tryz.f141.name,by decide,Tryz.func141.trans (congrArg some (by kernel_rfl))⟩
 f11:=⟨Tryz.f162.name,by decide,Tryz.func162.trans (congrArg some (by kernel_rfl))⟩
 t0:=bP
 a0:=bM
 z0:=bO
 v0:=bR
 t24:=ef
 a24:=dU
 z24:=d_
 v24:=ei
 t26:=aO
 a26:=bp
 z26:=bq
 v26:=br
 t28:=alF
 a28:=alm
 z28:=alx
 v28:=alL
 i26:=by kernel_rfl}
def Tryz.abg:Go.Shelf.Ren:=⟨fun|5=>142|8=>164|7=>163|19=>198|20=>152|10=>189|11=>190|12=>191|13=>192|14=>193|15=>194|16=>195|17=>196|18=>197|30=>208|31=>209|32=>210|33=>211|34=>212|35=>213|40=>221|n=>n,fun|23=>25|25=>3|3=>3|32=>204|22=>25|0=>0|44=>185|46=>176|4=>4|36=>239|35=>238|41=>217|5=>5|9=>9|53=>258|57=>261|63=>264|64=>80|n=>n,fun|n=>n⟩
theorem Tryz.S_:Go.Proofs.SlLaysM.n5 af Tryz.abg:={
 mixed:=by kernel_rfl
 f5:=⟨Tryz.f142.name,by decide,Tryz.func142.trans (congrArg some (by kernel_rfl))⟩
 f7:=⟨Tryz.f163.name,by decide,Tryz.func163.trans (congrArg some (by kernel_rfl))⟩
 f8:=Tryz.func164.trans (congrArg some (by kernel_rfl))
 f10:=⟨Tryz.f189.name,by decide,Tryz.func189.trans (congrArg some (by kernel_rfl))⟩
 f11:=⟨Tryz.f190.name,by decide,Tryz.func190.trans (congrArg some (by kernel_rfl))⟩
 f12:=⟨Tryz.f191.name,by decide,Tryz.func191.trans (congrArg some (by kernel_rfl))⟩
 f13:=⟨Tryz.f192.name,by decide,Tryz.func192.trans (congrArg some (by kernel_rfl))⟩
 f14:=⟨Tryz.f193.name,by decide,Tryz.func193.trans (congrArg some (by kernel_rfl))⟩
 f15:=⟨Tryz.f194.name,by decide,Tryz.func194.trans (congrArg some (by kernel_rfl))⟩
 f16:=⟨Tryz.f195.name,by decide,Tryz.func195.trans (congrArg some (by kernel_rfl))⟩
 f17:=⟨Tryz.f196.name,by decide,Tryz.func196.trans (congrArg some (by kernel_rfl))⟩
 f18:=⟨Tryz.f197.name,by decide,Tryz.func197.trans (congrArg some (by kernel_rfl))⟩
 f19:=Tryz.func198.trans (congrArg some (by kernel_rfl))
 f20:=alj.trans (congrArg some (by kernel_rfl))
 f30:=⟨Tryz.f208.name,by decide,Tryz.func208.trans (congrArg some (by kernel_rfl))⟩
 f31:=Tryz.func209.trans (congrArg some (by kernel_rfl))
 f32:=Tryz.func210.trans (congrArg some (by kernel_rfl))
 f33:=⟨Tryz.f211.name,by decide,Tryz.func211.trans (congrArg some (by kernel_rfl))⟩
 f34:=⟨Tryz.f212.name,by decide,Tryz.func212.trans (congrArg some (by kernel_rfl))⟩
 f35:=⟨Tryz.f213.name,by decide,Tryz.func213.trans (congrArg some (by kernel_rfl))⟩
 f40:=⟨Tryz.f221.name,by decide,Tryz.func221.trans (congrArg some (by kernel_rfl))⟩
 t0:=bP
 a0:=bM
 z0:=bO
 v0:=bR
 t3:=aO
 a3:=bp
 z3:=bq
 v3:=br
 t4:=c9
 a4:=cW
 z4:=cY
 v4:=c_
 t5:=bQ
 a5:=cv
 z5:=cx
 v5:=cz
 t9:=aW
 a9:=cw
 z9:=cy
 v9:=cA
 t22:=ef
 a22:=dU
 z22:=d_
 v22:=ei
 t23:=ef
 a23:=dU
 z23:=d_
 v23:=ei
 t25:=aO
 a25:=bp
 z25:=bq
 v25:=br
 t32:=alJ
 a32:=alr
 z32:=alB
 v32:=alP
 t35:=Tryz.underlying238
 a35:=Tryz.isAgg238
 z35:=Tryz.sizeOf238
 v35:=Tryz.zeroValue238
 t36:=Tryz.underlying239
 a36:=Tryz.isAgg239
 z36:=Tryz.sizeOf239
 v36:=Tryz.zeroValue239
 t41:=Tryz.underlying217
 a41:=Tryz.isAgg217
 z41:=Tryz.sizeOf217
 v41:=Tryz.zeroValue217
 t44:=alH
 a44:=alo
 z44:=alz
 v44:=alN
 t46:=alG
 a46:=aln
 z46:=aly
 v46:=alM
 t53:=Tryz.underlying258
 a53:=Tryz.isAgg258
 z53:=Tryz.sizeOf258
 v53:=Tryz.zeroValue258
 t57:=Tryz.underlying261
 a57:=Tryz.isAgg261
 z57:=Tryz.sizeOf261
 v57:=Tryz.zeroValue261
 t63:=Tryz.underlying264
 a63:=Tryz.isAgg264
 z63:=Tryz.sizeOf264
 v63:=Tryz.zeroValue264
 t64:=Tryz.underlying80
 a64:=Tryz.isAgg80
 z64:=Tryz.sizeOf80
 v64:=Tryz.zeroValue80}
def Tryz.Yh:Go.Shelf.Ren:=⟨fun|170=>66|n=>n,fun|70=>100|3=>3|0=>0|72=>102|37=>79|5=>5|n=>n,fun|n=>n⟩
theorem Tryz.afl:Go.Proofs.Lays.n170 af Tryz.Yh:={
 mixed:=by kernel_rfl
 f170:=Tryz.func66.trans (congrArg some (by kernel_rfl))
 t0:=bP
 a0:=bM
 z0:=bO
 v0:=bR
 t3:=aO
 a3:=bp
 z3:=bq
 v3:=br
 t37:=bD
 a37:=cX
 z37:=cZ
 v37:=da
 t70:=bZ
 a70:=dQ
 z70:=dY
 v70:=eg
 t72:=ec
 a72:=dR
 z72:=dZ
 v72:=eh}
open Go.RowKit in
theorem Tryz.Builder_Len(B b:Nat)(bs:List ah)(w:ae)(h:bB 102 5 B b bs w):
  ao af 66 #[.pointer (some ⟨b,0,none⟩)] w fun e w'=>e=.returned (.int .i64 bs.length)/\w'=w:=Any.Builder_Len Tryz.afl B b bs w h
def Tryz.NL:Go.Shelf.Ren:=⟨fun|169=>68|n=>n,fun|70=>100|9=>9|0=>0|72=>102|37=>79|127=>139|3=>3|5=>5|n=>n,fun|n=>n⟩
theorem Tryz.afm:Go.Proofs.Lays.n169 af Tryz.NL:={
 mixed:=by kernel_rfl
 f169:=Tryz.func68.trans (congrArg some (by kernel_rfl))
 t0:=bP
 a0:=bM
 z0:=bO
 v0:=bR
 t3:=aO
 a3:=bp
 z3:=bq
 v3:=br
 t9:=aW
 a9:=cw
 z9:=cy
 v9:=cA
 t37:=bD
 a37:=cX
 z37:=cZ
 v37:=da
 t70:=bZ
 a70:=dQ
 z70:=dY
 v70:=eg
 t72:=ec
 a72:=dR
 z72:=dZ
 v72:=eh
 t127:=alE
 a127:=alk
 z127:=alw
 v127:=alK}
theorem Tryz.Wk:eO af Tryz.NL:={
 sizeBuilder:=by kernel_rfl
 liesBuilder:=by kernel_rfl
 t5:=bQ
 a5:=cv
 z5:=cx
 v5:=cz
 infoByte:=by kernel_rfl
 cellsByte:=by kernel_rfl
 sizeByte:=by kernel_rfl
 neB5:=by decide}
open Go.RowKit in
theorem Tryz.Builder_String_any(B b:Nat)(l:List UInt8)(w:ae)(h:bB 102 5 B b (bC l) w)(K:B<=w.heap.size):
  ao af 68 #[.pointer (some ⟨b,0,none⟩)] w fun e w'=>e=.returned (.string ⟨l.toArray⟩)/\ai B w w':=Any.Builder_String_any Tryz.afm Tryz.Wk B b l w h K
def Tryz.Yi:Go.Shelf.Ren:=⟨fun|137=>99|217=>115|266=>134|n=>n,fun|9=>9|5=>5|3=>3|n=>n,fun|n=>n⟩
theorem Tryz.afn:Go.Proofs.Lays.n137 af Tryz.Yi:={
 mixed:=by kernel_rfl
 f137:=Tryz.func99.trans (congrArg some (by kernel_rfl))
 f217:=Tryz.func115.trans (congrArg some (by kernel_rfl))
 f266:=Tryz.func134.trans (congrArg some (by kernel_rfl))
 t3:=aO
 a3:=bp
 z3:=bq
 v3:=br
 t5:=bQ
 a5:=cv
 z5:=cx
 v5:=cz
 t9:=aW
 a9:=cw
 z9:=cy
 v9:=cA}
open Go.RowKit in
theorem Tryz.strings_IndexByte(s:ByteArray)(c:Int)(w:ae):
  ao af 99 #[.string s,.int .u8 c] w fun e w'=>e=.returned (.int .i64 (bF s.data.toList c.toNat.toUInt8))/\w'=w:=Any.strings_IndexByte Tryz.afn s c w
def Tryz.Xy:Go.Shelf.Ren:=⟨fun|171=>74|243=>98|246=>114|283=>130|284=>131|285=>132|286=>133|129=>152|317=>151|318=>153|319=>154|320=>155|337=>166|338=>167|n=>n,fun|3=>3|9=>9|2=>2|4=>4|171=>175|0=>0|53=>176|37=>79|5=>5|173=>179|212=>202|51=>185|20=>20|213=>203|46=>204|232=>245|233=>246|n=>n,fun|17=>0|18=>2|19=>3|n=>n⟩
theorem Tryz.ada:Go.Proofs.LaysM.n171 af Tryz.Xy:={
 mixed:=by kernel_rfl
 f129:=alj.trans (congrArg some (by kernel_rfl))
 f171:=Tryz.func74.trans (congrArg some (by kernel_rfl))
 f243:=Tryz.func98.trans (congrArg some (by kernel_rfl))
 f246:=Tryz.func114.trans (congrArg some (by kernel_rfl))
 f283:=Tryz.func130.trans (congrArg some (by kernel_rfl))
 f284:=Tryz.func131.trans (congrArg some (by kernel_rfl))
 f285:=Tryz.func132.trans (congrArg some (by kernel_rfl))
 f286:=Tryz.func133.trans (congrArg some (by kernel_rfl))
 f317:=Tryz.func151.trans (congrArg some (by kernel_rfl))
 f318:=Tryz.func153.trans (congrArg some (by kernel_rfl))
 f319:=Tryz.func154.trans (congrArg some (by kernel_rfl))
 f320:=Tryz.func155.trans (congrArg some (by kernel_rfl))
 f337:=Tryz.func166.trans (congrArg some (by kernel_rfl))
 f338:=Tryz.func167.trans (congrArg some (by kernel_rfl))
 t0:=bP
 a0:=bM
 z0:=bO
 v0:=bR
 t2:=Tryz.underlying2
 a2:=Tryz.isAgg2
 z2:=Tryz.sizeOf2
 v2:=Tryz.zeroValue2
 t3:=aO
 a3:=bp
 z3:=bq
 v3:=br
 t4:=c9
 a4:=cW
 z4:=cY
 v4:=c_
 t5:=bQ
 a5:=cv
 z5:=cx
 v5:=cz
 t9:=aW
 a9:=cw
 z9:=cy
 v9:=cA
 t20:=alI
 a20:=alq
 z20:=alA
 v20:=alO
 t37:=bD
 a37:=cX
 z37:=cZ
 v37:=da
 t46:=alJ
 a46:=alr
 z46:=alB
 v46:=alP
 t51:=alH
 a51:=alo
 z51:=alz
 v51:=alN
 t53:=alG
 a53:=aln
 z53:=aly
 v53:=alM
 t171:=Tryz.underlying175
 a171:=Tryz.isAgg175
 z171:=Tryz.sizeOf175
 v171:=Tryz.zeroValue175
 t173:=Tryz.underlying179
 a173:=Tryz.isAgg179
 z173:=Tryz.sizeOf179
 v173:=Tryz.zeroValue179
 t212:=Tryz.underlying202
 a212:=Tryz.isAgg202
 z212:=Tryz.sizeOf202
 v212:=Tryz.zeroValue202
 t213:=Tryz.underlying203
 a213:=Tryz.isAgg203
 z213:=Tryz.sizeOf203
 t232:=Tryz.underlying245
 a232:=Tryz.isAgg245
 z232:=Tryz.sizeOf245
 v232:=Tryz.zeroValue245
 t233:=Tryz.underlying246
 a233:=Tryz.isAgg246
 z233:=Tryz.sizeOf246
 v233:=Tryz.zeroValue246
 g17:=by kernel_rfl
 g18:=by kernel_rfl
 g19:=by kernel_rfl
 i0:=by kernel_rfl
 i2:=by kernel_rfl
 i3:=by kernel_rfl
 i4:=by kernel_rfl
 i5:=by kernel_rfl
 i9:=by kernel_rfl
 i20:=by kernel_rfl
 i37:=by kernel_rfl
 i46:=by kernel_rfl
 i51:=by kernel_rfl
 i53:=by kernel_rfl
 i171:=by kernel_rfl
 i173:=by kernel_rfl
 i212:=by kernel_rfl
 i232:=by kernel_rfl
 i233:=by kernel_rfl
 m17:=by kernel_rfl
 m18:=by kernel_rfl
 m19:=by kernel_rfl}
open Go.RowKit Go.Sort Go.Lib in
theorem Tryz.strconv_Itoa(n:Int)(A: -9223372036854775808<=n)(I:n<=9223372036854775807)(w:ae)(K:Lib.TabIs af w "internal/strconv.uint64pow10" .u64 Lib.pow10Tab):
  ao af 74 #[.int .i64 n] w fun e w'=>e=.returned (.string ⟨(Lib.itoa n).toArray⟩)/\∃k os,w'=grow (w.drewN k) os:=Any.strconv_Itoa Tryz.ada n A I w K
end Go.Proofs
namespace Go.Proofs.YtdcjnhipenbcfaaGreatDoor
variable {NM ref s:ByteArray}{f f1:aj}{fn:FuncId}{g1:ay}{cs l:List aj}{k0 kk:List Item}{L R ks l1 l2:List Nat}{Z:Loc->Prop}{Fd cap clock fuel i j m n p q r u y z:Nat}{XX:Nat->Nat->Prop}{RO S X':Nat->Prop}{t t':bt}{v work:ah}{w w' w2 wr:ae}
section
open RowKit
theorem Ta:(af.info? 102).map (·.size)=some 2:=by kernel_rfl
theorem ajr:liesAt af af.depth 102 (2/af.cellsOf 102) 0 102 1=true:=by kernel_rfl
theorem Em:(af.info? 5).map (fun i=>(i.zero,i.size,i.bytes))=some (some (.int .u8 0),1,1):=by kernel_rfl
theorem MR(b:Nat)(w:ae)(K:w.cell? ⟨b,0,none⟩=some (.pointer (some ⟨b,0,none⟩))):
  ao af 96 #[.pointer (some ⟨b,0,none⟩)] w fun e w'=>e=.returned (.tuple #[])/\w'=w:=by
 obtain⟨j,Y,_⟩:=cn.1 Ta;go_wp2
 rw[Lib.run_neq_ptr_same w _ bZ Y];go_wp2
 go_end0
 exact⟨rfl,rfl⟩
theorem MN(b:Nat)(w:ae)(B:w.cell? ⟨b,0,none⟩=some (.pointer none))(K:w.shape? b=some (102,2))(A:w.frozen? ⟨b,0,none⟩=false):
  ao af 96 #[.pointer (some ⟨b,0,none⟩)] w fun e w'=>e=.returned (.tuple #[])/\w'=w.setCell ⟨b,0,none⟩ (.pointer (some ⟨b,0,none⟩)):=by
 obtain⟨j,H,Y⟩:=cn.1 Ta;go_wp2
 rw[Lib.run_to_unsafe w ⟨b,0,none⟩ bZ ed H (by rw[Y];decide) K (Nat.zero_lt_succ 1)];simp only[Result.andThen];go_wp2
 rw[run_callFunc_extern ali (by kernel_rfl) (by kernel_rfl) (by kernel_rfl) (by kernel_rfl)];rw[Lib.run_noEscape];simp only[Result.andThen];rw[alf];go_wp2
 rw[Lib.run_from_unsafe w ⟨b,0,none⟩ ed bZ H K ajr];simp only[Result.andThen];rw[alf];go_wp2
 go_end0
 exact⟨rfl,rfl⟩
theorem M4(B b:Nat)(bs:List _)(w:ae)(h:bB 102 5 B b bs w):
  ao af 96 #[.pointer (some ⟨b,0,none⟩)] w fun e w'=>e=.returned (.tuple #[])/\dA 102 5 B b (.pointer (some ⟨b,0,none⟩)) bs w'/\ai B w w':=by
 rcases h with h|h
 ·refine(MN b w h.cell0 h.shape h.frozen0).mono ?_;rintro e w' ⟨rfl,rfl⟩;exact⟨rfl,h.used _,(aI B w).setCell h.1 _⟩
 ·refine(MR b w h.cell0).mono ?_;rintro e w' ⟨rfl,rfl⟩;exact⟨rfl,h,aI B _⟩
theorem FZ:(102:bt)≠5:=by simp
theorem Wx(B b:Nat)(bs:List ah)(s:ByteArray)(w:ae)(h:bB 102 5 B b bs w)(O:bs.length+s.size<=1000000)(V:B<=w.heap.size):
  ao af 63 #[.pointer (some ⟨b,0,none⟩),.string s] w fun e w'=>e=.returned (.tuple #[.int .i64 (s.size:Int),.nilIface])/\bB 102 5 B b (bs++cL s) w'/\ai B w w':=by
 obtain⟨i0,S,F,J,L⟩:=eu Em
 go_enter Tryz.func63,Tryz.ntmps63
 go_wp2_with(go_at_call 96;refine(M4 B b bs _ h).mono ?_)
 rintro e w1 ⟨rfl,⟨N,v,H,D,U⟩,R⟩;have c0:w1.cell? ⟨b,0,none⟩=some (.pointer (some ⟨b,0,none⟩)):=by rw[cg H];rfl
 have c1:w1.cell? ⟨b,1,none⟩=some v:=by rw[cg H];rfl
 go_wp2_with(at_builtin;refine Lib.wpList_append_own_string _ rfl _ _ 79 9 rfl B 5 i0 bD aW S F J L _ _ _ rfl D s rfl ?c3 ?c4 ?c5 ?_)
 case c3=>unfold aT;omega
 case c4=>omega
 case c5=>have:=R.size;omega
 intro v' w2 K Y _;have A:b<w1.heap.size:=by
  rcases dK b w1.heap.size with h'|h'
  ·exact h'
  ·simp[bU h']at H
 have I:w2.heap[b]?=some (.cells #[.pointer (some ⟨b,0,none⟩),v] 102 (0,0)):=by
  rw[Y.block b A (fun e=>U e.symm)];exact H
 have d1:w2.cell? ⟨b,1,none⟩=some v:=by rw[cg I];rfl
 have f1:w2.frozen? ⟨b,1,none⟩=false:=e_ I 1;obtain⟨M,P,cap,rfl⟩:∃M P cap,v'=.slice M P cap:=by
  rcases K.2 with⟨C,_⟩|⟨g,cap,Q,C,_⟩
  ·exact⟨_,_,_,C⟩
  ·exact⟨_,_,_,C⟩
 go_wp2
 go_ret2
 refine⟨rfl,.inr ?_,?_⟩
 ·exact eZ (T:=102) (e:=5) N I (bs':=bs++cL s) (by simpa[Lib.strCells_length]using K) FZ
 ·exact(R.grown Y (by have:=R.size;omega) (fun k hk=>(D.lt k hk).1)).setCell (p:=⟨b,1,none⟩) N _
theorem M5(B b:Nat)(bs:List ah)(c:Int)(w:ae)(h:bB 102 5 B b bs w)(N:bs.length+1<=1000000)(V:B<=w.heap.size):
  ao af 73 #[.pointer (some ⟨b,0,none⟩),.int .u8 c] w fun e w'=>e=.returned .nilIface/\bB 102 5 B b (bs++[.int .u8 c]) w'/\ai B w w':=by
 obtain⟨i0,Q,F,J,L⟩:=eu Em
 go_enter Tryz.func73,Tryz.ntmps73
 go_wp2_with(go_at_call 96;refine(M4 B b bs _ h).mono ?_)
 rintro e w1 ⟨rfl,⟨M,v,I,D,C⟩,H⟩;have c1:w1.cell? ⟨b,1,none⟩=some v:=by rw[cg I];rfl
 go_wp2_with(at_builtin;refine alY _ rfl _ _ 79 rfl B 5 i0 (.int .u8 0) 1 1 bD Q F J L rfl (by decide) _ _ _ rfl (D.alloc _) ⟨w1.heap.size,0,none⟩ 1 1 [.int .u8 c] rfl rfl ?c1 ?c2 ?c3 ?c4 ?c5 ?_)
 case c1=>
  intro j u A
  match j,A with
  |0,A=>simp at A;subst A;simp[Addr.add]
 case c2=>intro u O;simp at O;subst O;rfl
 case c3=>unfold aT;omega
 case c4=>omega
 case c5=>have:=H.size;simp;omega
 intro v' w2 K Y _;have U:b<w1.heap.size:=by
  rcases dK b w1.heap.size with h'|h'
  ·exact h'
  ·simp[bU h']at I
 have R:w2.heap[b]?=some (.cells #[.pointer (some ⟨b,0,none⟩),v] 102 (0,0)):=by
  rw[Y.block b (by simp;omega) (fun e=>C e.symm),Lib.alloc_old w1 _ b U];exact I
 have d1:w2.cell? ⟨b,1,none⟩=some v:=by rw[cg R];rfl
 have f1:w2.frozen? ⟨b,1,none⟩=false:=e_ R 1;obtain⟨g,cap,rfl⟩:∃g cap,v'=.slice (some ⟨g,0,none⟩) (bs.length+1) cap:=by
  rcases K.2 with⟨_,X⟩|⟨g,cap,P,S,_⟩
  ·omega
  ·exact⟨g,cap,S⟩
 go_wp2
 go_ret
 refine⟨rfl,.inr ?_,?_⟩
 ·exact eZ (T:=102) (e:=5) M R (bs':=bs++[.int .u8 c]) (by simpa using K) FZ
 ·exact((H.alloc (by have:=H.size;omega) _).grown Y (by have:=H.size;simp;omega) (fun k hk=>(D.lt k hk).1)).setCell (p:=⟨b,1,none⟩) M _
theorem afo(s:ByteArray):jV s=iJ (kZ s 62 0) fun p=>iJ (ju s 200 p) (xj s (s.size+1) (j9 s 200 p)):=by
 unfold jV kZ;rw[GV]
theorem abh{o o':Obj}(h:((w.alloc o).alloc o').grownBy w' (some r))(hr:w.heap.size<=r):ai w.heap.size w w':=
 (((aI _ _).alloc (ar _) _).alloc (by simp) _).grown h (by simp;omega) (by simp_all)
theorem GJ(s:ByteArray)(f:Nat)(acc:List _)(st:Nat×Bool)(h:st.2=true):nP s f acc st=(st,acc):=yk (.inl h) rfl
theorem M6(s:ByteArray):∀f acc p,acc≠ []->p<=s.size->(nP s f acc (p,false)).1=xj s f acc.length p
 |0,acc,p,_,_=>rfl
 |f+1,acc,p,H,D=>by
  by_cases h:p<s.size
  ·have I:=CA (f:=f+1) (acc:=acc) (st:=(p,false)) (by omega) rfl (.inr h) rfl;rw[<-I,fy];simp only[xj];rw[if_neg (by omega)];by_cases hb:(ju s (200-acc.length) p).2=true
   ·rw[GJ _ _ _ _ hb,wv hb]
   ·rw[bk]at hb;have K:=(uK s (200-acc.length) p D).2;have Y:(acc++sP s (200-acc.length) p).length=acc.length+j9 s (200-acc.length) p:=by rw[aK,Is s _ p D]
    rw[<-Y];have e:ju s (200-acc.length) p=((ju s (200-acc.length) p).1,false):=by rw[<-hb]
    rw[e];exact M6 s f _ _ (by simp[H]) K
  ·rw[yk (.inr ⟨H,by omega⟩) rfl];simp only[xj];simp_all
theorem abj(s:ByteArray):(kY s).1=jV s:=by
 unfold kY;rw[afo];have e:iJ _ _=kZ s 62 0:=rfl;rw[e];by_cases hb:(kZ s 62 0).2=true
 ·rw[GJ _ _ _ _ hb,wv hb]
 ·rw[bk]at hb;rw[kX hb];have K:=(wN s 62 0 (by omega)).2;generalize kZ s 62 0=st at *;obtain⟨p,b⟩:=st;subst hb;have I:=CA (s:=s) (f:=s.size+2) (st:=(p,false)) (by omega) rfl (.inl rfl) rfl;rw[<-I];simp at *;by_cases hb:(ju s 200 p).2=true
  ·rw[GJ _ _ _ _ hb,wv hb]
  ·rw[bk]at hb;have D:=GQ s 200 p hb;have Y:=Is s 200 p K;have H:ju s 200 p=((ju s 200 p).1,false):=by rw[<-hb]
   rw[H,<-Y];refine M6 s _ _ _ ?_ (uK s 200 p K).2;intro h;rw[h]at Y;simp at Y;omega
abbrev ij(B:Nat)(acc:List _)(w:ae):=bB 102 5 B B (bC acc) w
theorem Ov{p:ah}{B:Nat}{bs:List _}(h:dA 102 5 B B p bs w)(A:w.grownBy w' (some r))(hr:r<B):dA 102 5 B B p bs w':=by
 obtain⟨D,v,hb,Y,K⟩:=h;have H:=Lib.BuilderAt.lt ⟨D,v,hb,Y,K⟩;refine⟨D,v,?_,Y.kept A (.inr ?_),K⟩
 ·rw[A.block B H (by intro e;simp_all)];exact hb
 ·intro e;have:=(Y.lt r e).1;omega
theorem ij.kept{B:Nat}{acc:List _}(h:ij B acc w)(K:w.grownBy w' (some r))(hr:r<B):ij B acc w':=
 h.imp (fun h=>Ov h K hr) (fun h=>Ov h K hr)
theorem ij.drewN{B:Nat}{acc:List _}(h:ij B acc w)(m:Nat):ij B acc (w.drewN m):=h
theorem ij.lt{B:Nat}{acc:List _}(h:ij B acc w):B<w.heap.size:=by
 rcases h with h|h<;>exact h.lt
theorem ij.new(w:ae):ij w.heap.size [] (w.alloc (.cells #[.pointer none,.slice none 0 0] 102)):=Lib.fresh_isBuilder 102 5 w
theorem ahe(B:Nat)(acc:List _)(w:ae)(h:ij B acc w):
  ao af 66 #[.pointer (some ⟨B,0,none⟩)] w fun e w'=>e=.returned (.int .i64 acc.length)/\w'=w:=by
 have:=Tryz.Builder_Len B B _ w h
 rwa [show(bC acc).length=acc.length by simp[bC]]at this
theorem yA(B:Nat)(acc:List _)(w:ae)(h:ij B acc w):
  ao af 68 #[.pointer (some ⟨B,0,none⟩)] w fun e w'=>e=.returned (.string (str acc))/\ai B w w':=Tryz.Builder_String_any B B acc w h (by have:=h.lt;omega)
theorem Pb(acc:List _)(x:ByteArray):bC acc++cL x=bC (acc++x.data.toList):=by
 simp[bC,cL]
theorem yI(B:Nat)(acc:List _)(x:ByteArray)(w:ae)(h:ij B acc w)(K:acc.length+x.size<=1000000):
  ao af 63 #[.pointer (some ⟨B,0,none⟩),.string x] w fun e w'=>e=.returned (.tuple #[.int .i64 x.size,.nilIface])/\ij B (acc++x.data.toList) w'/\ai B w w':=by
 refine(Wx B B _ x w h (by simp[bC];omega) (by have:=h.lt;omega)).mono ?_;rintro e w' ⟨Y,I,h2⟩;rw[Pb]at I;simp_all
def DZ(NM:ByteArray)(w:ae)(R:(Nat×Bool)×List UInt8)(e:Ending)(w':ae):Prop:=
 (R.1.2=false->e=.returned (.agg #[.string NM,.string (str R.2)]))/\(R.1.2=true->e=.panicked (nQ 2 (R.1.1:Int)))/\ai w.heap.size w w'
theorem G5{w1:ae}{st:Nat×Bool}{l:List _}{R:(Nat×Bool)×List _}(K:R=(st,l))(gF:st.2=true)(hb:ai w.heap.size w w1):DZ NM w R (.panicked (nQ 2 (st.1))) w1:=by
 subst K;exact⟨fun h=>by simp_all,fun _=>rfl,hb⟩
theorem Yj{w1:ae}{l:List _}{R:(Nat×Bool)×List _}(K:R=((p,false),l))(hb:ai w.heap.size w w1):DZ NM w R (.returned (.agg #[.string NM,.string (str l)])) w1:=by
 subst K;exact⟨fun _=>rfl,fun h=>Bool.noConfusion h,hb⟩
theorem Qm(s:ByteArray)(m p:Nat)(K:p<=s.size):(oo s m p).data.toList.map gb=sP s m p:=by
 unfold sP oo;simp only[rest];simp
theorem adb(l:List _):(str l).data.toList=l:=by simp[str]
def nN(s:ByteArray):=ug s (ik s 62 0).1
theorem WL{o o':Obj}(K:((w.alloc o).alloc o').grownBy w' (some r))(hr:r≠w.heap.size):w'.heap[w.heap.size]?=some o:=by
 rw[K.block _ (by simp;omega) (by simpa using fun h=>hr h.symm),aL _ _ (by simp),aP]
theorem Wm(s:ByteArray)(w:ae)(hs:s.size<=1000):
  ao af 43 #[.string s] w fun e w'=>DZ (nN s) w (kY s) e w':=by
 generalize hR:kY s=R;have HR:=laid (show nP s (s.size+2) [] (kZ s 62 0)=R from hR);clear hR;generalize hM:nN s=o;have HM:=laid (show ug s (ik s 62 0).1=o from hM);clear hM
 go_enter Tryz.func43,Tryz.ntmps43
 go_wp2_with fail
 have O:=yF (w.alloc (.cells #[.string ⟨#[]⟩,.string ⟨#[]⟩] 68)) s 0 2;have f:(w.alloc (.cells #[.string ⟨#[]⟩,.string ⟨#[]⟩] 68)).heap.size=w.heap.size+1:=by simp
 rw[f]at O;refine(Na _ _ s 0 2 _ 62 rfl O hs (by omega)).mono ?_;rw[HM.out];clear HM;rintro e w1 ⟨I,h2,b,m⟩;have M:=wN s 62 0 (by omega);have P:=WL m (by omega);have J:ai w.heap.size w w1:=abh m (by omega);clear m O f;generalize hQ:w.heap.size+1=Q at *;by_cases gF:(kZ s 62 0).2=true
 ·obtain rfl:=h2 gF;exact⟨rfl,G5 (yk (.inl gF) HR.out) gF J⟩
 ·rw[bk]at gF;obtain rfl:=I gF;clear I h2;have l:=laid (CA (by omega) gF (.inl rfl) HR.out);generalize(kZ s 62 0).1=C at *;clear gF HR;have j:=b.lt;go_wp2_with fail
  refine(Gt _ _ s C 2 _ 200 rfl (by omega) (b.alloc _) hs M.2).mono ?_;rintro e w2 ⟨I,h2,qu,W⟩;have U9:=(ij.new w1).kept W j;have D:=W.block w.heap.size (by simp;omega) (by simp;omega);rw[aL _ _ (by omega),P]at D;have u:ai w.heap.size w w2:=(J.alloc J.size _).grown W (by simp;have:=J.size;omega) (by intro k hk;cases hk;omega);clear W b J P;have L9:=uK s 200 C M.2;by_cases gF:(ju s 200 C).2=true
  ·obtain rfl:=h2 gF;exact⟨rfl,G5 (yk (.inl gF) l.out) gF u⟩
  ·rw[bk]at gF;obtain rfl:=I gF;clear I h2;have H:=GQ s 200 C gF;have n:=AL s 200 C;have a:=GU s 200 C M.2;have V:=Qm s 200 C M.2;have U_:Hid (s.size-(ju s 200 C).1<s.size+1/\nP s (s.size+1) ((oo s 200 C).data.toList.map gb) ((ju s 200 C).1,false)=R):=laid ⟨by omega,by
    have:=l.out;rw[show s.size+2-1=s.size+1 by omega]at this;rw[V,<-gF];exact this⟩
   clear l V;have ET:1<=(oo s 200 C).size/\(oo s 200 C).size<=200:=by omega
   generalize oo s 200 C=X at *;generalize(ju s 200 C).1=p2 at *;clear gF H n a M;generalize w1.heap.size=B at *;go_wp2_with fail
   refine(yI B [] X _ U9 (by simp;omega)).mono ?_;rintro e w3 ⟨rfl,r,Y⟩;have vT:=qu.below Y j;have A:=Y.block w.heap.size (by omega);rw[D]at A;have Va:ai w.heap.size w w3:=u.trans (Y.mono (by omega));clear Y qu u U9 D;rw[bH]at r;go_wp2
   go_loopw [] (fun wr=>∃(acc:List UInt8) (p fuel:Nat),1<=acc.length/\acc.length<=200/\p<=s.size/\RD wr Q s p 2/\ij B acc wr/\wr.heap[w.heap.size]?=some (.cells #[.string ⟨#[]⟩,.string ⟨#[]⟩] 68)/\ai w.heap.size w wr/\Hid (s.size-p<fuel/\nP s fuel (acc.map gb) (p,false)=R)) (fun wr=>s.size-mZ wr Q)
   case atStart=>exact⟨X.data.toList,p2,s.size+1,by simp;omega,by simp;omega,L9.2,vT,r,A,Va,U_⟩
   case round=>
    obtain⟨acc,p,fuel,ha1,ha2,hp,F,y,d,L,HF⟩:=hrel;clear U_ vT r Va L9 ET A;by_cases z:p<s.size
    ·have HL:=laid (CA (by have:=HF.out.1;omega) rfl (.inr z) HF.out.2);go_wp2_with fail
     refine(CZ _ _ s p 2 F z).mono ?_;rintro e w4 ⟨rfl,i,rfl⟩;go_wp2_with fail
     refine(ahe B acc _ (y.drewN i)).mono ?_;rintro e w4 ⟨rfl,rfl⟩;go_wp2_with fail
     refine(Gt _ _ s p 2 _ (200-acc.length) (by omega) (by omega) (F.drewN i) hs hp).mono ?_;rintro e w4 ⟨I,h2,t,q⟩;have Vb:=(y.drewN i).kept q j;have S:=q.block w.heap.size (by have:=F.lt;simp;omega) (by simp;omega);have x:ai w.heap.size w w4:=(Go.below_drewN L i).grown q (by have:=L.size;simpa using this) (by intro k hk;cases hk;omega);have L_:=uK s (200-acc.length) p hp;have E:=HL.out;rw[cQ]at E;by_cases gF:(ju s (200-acc.length) p).2=true
     ·obtain rfl:=h2 gF;exact⟨rfl,G5 (yk (.inl gF) E) gF x⟩
     ·rw[bk]at gF;obtain rfl:=I gF;clear I h2 q;have U:w4.heap[w.heap.size]?=some (.cells #[.string ⟨#[]⟩,.string ⟨#[]⟩] 68):=S.trans d;clear S;have H:=GQ s (200-acc.length) p gF;have n:=AL s (200-acc.length) p;have a:=GU s (200-acc.length) p hp;have V:=Qm s (200-acc.length) p hp;have HL1:Hid (s.size-(ju s (200-acc.length) p).1<fuel-1/\nP s (fuel-1) ((acc++(oo s (200-acc.length) p).data.toList).map gb) ((ju s (200-acc.length) p).1,false)=R):=laid ⟨by have:=HF.out.1;omega,by
       rw[List.map_append,V,<-gF];exact E⟩
      clear HL E HF V;have ET:(oo s (200-acc.length) p).size+acc.length<=200:=by omega
      have hpm:p<(ju s (200-acc.length) p).1:=by omega
      have F0:=laid F.mZ;have apo:=laid t.mZ;generalize oo s (200-acc.length) p=X at *;generalize(ju s (200-acc.length) p).1=p4 at *;clear gF H n a;go_wp2_with fail
      refine(yI B acc X _ Vb (by omega)).mono ?_;rintro e w5 ⟨rfl,hB5,Y⟩;have zZ:=t.below Y j;have T:=Y.block w.heap.size (by omega);rw[U]at T;have G:ai w.heap.size w w5:=x.trans (Y.mono (by omega));have akB:=laid zZ.mZ;clear Y t x Vb U;go_wp2
      go_roundw
      case rel=>go_light;exact⟨acc++X.data.toList,p4,fuel-1,by simp;omega,by simp;omega,L_.2,zZ,hB5,T,G,HL1⟩
      case measure=>go_light;rw[F0.out,akB.out];omega
    ·have Vd:s.size=p:=by omega
     have HPE:=laid Vd;have c:=yk (.inr ⟨by intro h;have h0:=congrArg List.length h;rw[cQ,bG]at h0;omega,by simp only;omega⟩) HF.out.2;have akC:=laid c;clear c Vd HF;go_wp2_with fail
     refine(Hc _ _ s p 2 F HPE.out).mono ?_;rintro e w4 ⟨rfl,i,rfl⟩;go_wp2_with fail
     refine(yA B acc _ (y.drewN i)).mono ?_;rintro e w5 ⟨rfl,Y⟩;go_wp2_with fail
     refine(Gi (str acc) _ (by rw[ia];omega)).mono ?_;rintro e g ⟨rfl,Ve⟩;have G:ai w.heap.size w w5:=(Go.below_drewN L i).trans (Y.mono (by omega));have Vf:ai w.heap.size w g:=G.trans (Ve.mono G.size);have K:g.heap[w.heap.size]?=some (.cells #[.string ⟨#[]⟩,.string ⟨#[]⟩] 68):=by
      have z_:=Y.size;have hrl:=F.lt;simp at z_;rw[Ve.block w.heap.size (by omega),Y.block w.heap.size (by omega)];exact d
     have n0:g.cell? ⟨w.heap.size,0,none⟩=some (.string ⟨#[]⟩):=by rw[au _ _ _ _ _ _ K];rfl
     have n1:g.cell? ⟨w.heap.size,1,none⟩=some (.string ⟨#[]⟩):=by rw[au _ _ _ _ _ _ K];rfl
     have z0:g.frozen? ⟨w.heap.size,0,none⟩=false:=a_ _ _ _ _ _ K;have z1:g.frozen? ⟨w.heap.size,1,none⟩=false:=a_ _ _ _ _ _ K;have N:str ((str acc).data.toList.map gb)=str (acc.map gb):=by rw[adb]
     rw[N];generalize akD:acc.map gb=Z at *;obtain⟨m0,m1,Vg⟩:=rk (.string o) (.string (str Z)) n0 n1;have F1:ai w.heap.size w ((g.setCell ⟨w.heap.size,0,none⟩ (.string o)).setCell ⟨w.heap.size,1,none⟩ (.string (str Z))):=Vf.grown Vg Vf.size (by intro k hk;cases hk;exact ar _);have HG:=laid (Yj (NM:=o) akC.out F1);clear akD N K Vg;go_wp2
     generalize(g.setCell ⟨w.heap.size,0,none⟩ (.string o)).setCell ⟨w.heap.size,1,none⟩ (.string (str Z))=w8 at *;refine cB (v:=.agg #[.string o,.string (str Z)]) ?_ rfl HG.out;simp[b_,Tryz.results43,go_sem,m0,m1]
theorem yg(s:ByteArray)(w:ae)(K:s.size<=1000):
  ao af 43 #[.string s] w fun e w'=>((jV s).2=false->e=.returned (.agg #[.string (nN s),.string (str (kY s).2)]))/\((jV s).2=true->e=.panicked (nQ 2 ((jV s).1)))/\ai w.heap.size w w':=by
 have:=Wm s w K;unfold DZ at this
 rwa [abj]at this
theorem Yk{k:Nat}{R:Nat×Bool}(hk:k<5)(K:p<s.size)(h:lu s (5-k) p=R):iJ (mc s p) (lu s (5-(k+1)))=R:=by
 rw[<-h,show 5-k=(5-(k+1))+1 by omega];simp only[lu];rw[if_neg (by omega)]
theorem Ow{k:Nat}{R:Nat×Bool}(K:s.size=p)(h:lu s (5-k) p=R):R=(p,false):=by
 rw[<-h];generalize 5-k=m;cases m with
 |zero=>simp[lu];simp_all
 |succ m=>simp[lu];simp_all
theorem Yl{R:Nat×Bool}(K:p<s.size)(h:lu s (5-5) p=R):(p,true)=R:=by
 rw[<-h];simp[lu,Nat.sub_self];simp_all
theorem Zz(s:ByteArray)(p:Nat)(h:(mc s p).2=false)(M:p<=s.size):p<(mc s p).1:=by
 unfold mc at *;obtain⟨I,h2⟩:=r6 h;rw[kX I];have J:=N8 s 64 p I;have R:(ik s 64 p).1<=s.size:=by omega
 have:=pV (PQ s _ R) fun q A=>pV (uK s 30 q A) fun U Y=>pV (qA s 43 U Y) fun B K=>pV (qA s 10 B K) fun C H=>pV (wy s kT (j9 s 30 q) (j9 s 30 q) C H) fun F D=>qA s 10 F D;omega
theorem ahf:(af.info? 131).map (fun i=>(i.zero,i.size,i.bytes))=some (some (.agg #[.string ⟨#[]⟩,.string ⟨#[]⟩,.string ⟨#[]⟩]),3,48):=by kernel_rfl
def IF(w:ae)(R:Nat×Bool)(K:List (ByteArray×ByteArray×ByteArray))(e:Ending)(w':ae):Prop:=
 (R.2=false->∃V,e=.returned V/\w'.ownsRow (w.heap.size+1) 131 3 V K.length (lU K))/\(R.2=true->e=.panicked (nQ 3 (R.1:Int)))/\ai w.heap.size w w'
theorem NN{w1:ae}{st R:Nat×Bool}{K:List _}(A:st=R)(gF:st.2=true)(hb:ai w.heap.size w w1):IF w R K (.panicked (nQ 3 (st.1))) w1:=by
 subst A;exact⟨fun h=>by simp_all,fun _=>rfl,hb⟩
theorem Nn{w1:ae}{R:Nat×Bool}{L K:List _}{V:ah}(C:R.2=false)(A:L=K)(B:w1.ownsRow (w.heap.size+1) 131 3 V L.length (lU L))(hb:ai w.heap.size w w1):IF w R K (.returned V) w1:=by
 subst A;exact⟨fun _=>⟨V,rfl,B⟩,fun h=>by simp_all,hb⟩
theorem Xz{k:Nat}{L K:List _}(hk:k<5)(A:p<s.size)(gF:(mc s p).2=false)(h:L++ji s (5-k) p=K):(L++[(xV s p,xW s p,xX s p)])++ji s (5-(k+1)) (mc s p).1=K:=by
 rw[<-h,show 5-k=(5-(k+1))+1 by omega];simp only[ji];rw[if_neg (by omega),if_neg (by simp_all),agw s p (by omega) gF,fa];rfl
theorem NO{k:Nat}{L K:List _}(A:s.size<=p)(h:L++ji s k p=K):L=K:=by
 rw[<-h];cases k with
 |zero=>simp[ji]
 |succ k=>simp[ji];simp_all
theorem A9{b:Nat}{e:bt}{k:Nat}{xs:List _}(h:wr.ownsRow b e k v n xs)(r:Nat)(hr:r<b\/wr.heap.size<=r):v.ownBlock=none\/v.ownBlock≠some r:=by
 cases hb:v.ownBlock with
 |none=>exact .inl rfl
 |some g=>
  right;have:=h.lt g hb;intro Y;cases Y;omega
theorem CQ{B B':Nat}{e:bt}{k:Nat}{xs:List _}(h:w.ownsRow B e k v n xs)(A:B'<=B):w.ownsRow B' e k v n xs:=by
 refine⟨h.1,?_⟩;rcases h.2 with h'|⟨g,cap,Y,I,h2,K⟩
 ·simp_all
 ·exact .inr ⟨g,cap,Y,I,by omega,K⟩
theorem M7(s:ByteArray)(w:ae)(hs:s.size<=1000):
  ao af 90 #[.string s] w fun e w'=>IF w (lu s 5 0) (ji s 5 0) e w':=by
 obtain⟨i0,hi,hz,hsi,hby⟩:=eu ahf;generalize hR:lu s 5 0=R;have HR:=laid hR;clear hR;generalize d:ji s 5 0=LR;have q:=laid (show []++ji s 5 0=LR from d);clear d
 go_enter Tryz.func90,Tryz.ntmps90
 go_wp2
 go_loopw [4] (fun v wr=>∃(L:List (ByteArray×ByteArray×ByteArray)) (p:Nat),L.length<=5/\p<=s.size/\RD wr w.heap.size s p 3/\wr.ownsRow (w.heap.size+1) 131 3 v L.length (lU L)/\ai w.heap.size w wr/\Hid (lu s (5-L.length) p=R)/\Hid (L++ji s (5-L.length) p=LR)) (fun _ wr=>s.size-mZ wr w.heap.size)
 case atStart=>exact⟨[],0,by simp,by omega,yF w s 0 3,World.ownsRow_nil _ _ _ _,(aI _ _).alloc (ar _) _,HR,q⟩
 case round=>
  obtain⟨L,p,hk,hp,J,U,H,P,b⟩:=hrel;clear HR q;obtain⟨av,cap,rfl⟩:∃a cap,u4=.slice a L.length cap:=by
   rcases U.2 with⟨I,h2⟩|⟨g,cap,cur,I,_⟩
   ·exact⟨none,0,by rw[I,h2]⟩
   ·exact⟨_,cap,I⟩
  generalize hn:L.length=n at *;have G:=laid hn;clear hn;by_cases l:n<5
  ·by_cases D:p<s.size
   ·have z:=laid (Yk l D P.out);clear P;go_wp2_with fail
    refine(CZ _ _ s p 3 J D).mono ?_;rintro e w3 ⟨rfl,m,rfl⟩;go_wp2_with fail
    refine(XK _ _ s p 3 (J.drewN m) hs hp).mono ?_;rintro e w4 ⟨I,h2,x,Z⟩;have K:=World.ownsRow.kept (w:=wr.drewN m) U Z (A9 U _ (.inl (by omega)));have Y:ai w.heap.size w w4:=(Go.below_drewN H m).grown Z (by have:=H.size;simpa using this) (by intro k hk;cases hk;exact ar _);have L_:=acb s p hp;by_cases gF:(mc s p).2=true
    ·obtain rfl:=h2 gF;exact⟨rfl,NN (ts z.out gF) gF Y⟩
    ·rw[bk]at gF;obtain rfl:=I gF;clear I h2;have c:=laid (tK z.out gF);have W:=laid (Xz l D gF b.out);have hmo:=Zz s p gF hp;have F0:=laid J.mZ;unfold oQ;generalize(mc s p).1=i at *;generalize xV s p=T at *;generalize xW s p=Q at *;generalize xX s p=S at *;clear gF z b Z;have apq:=x.lt;go_wp2_with(first
      |(at_builtin;refine alY _ rfl _ _ 90 rfl (w.heap.size+1) 131 i0 (.agg #[.string ⟨#[]⟩,.string ⟨#[]⟩,.string ⟨#[]⟩]) 3 48 Tryz.underlying90 hi hz hsi hby rfl (by decide) _ _ _ rfl (K.alloc _) ⟨w4.heap.size,0,none⟩ 1 1 [.string T,.string Q,.string S] rfl rfl ?c1 ?c2 ?c3 ?c4 ?c5 ?_)
      |go_in)
     case c1=>
      intro j u N
      match j,N with
      |0,N=>simp at N;subst N;simp[Addr.add,go_sem]
      |1,N=>simp at N;subst N;simp[Addr.add,go_sem]
      |2,N=>simp at N;subst N;simp[Addr.add,go_sem]
     case c2=>intro u hu;simp at hu;rcases hu with rfl|rfl|rfl<;>rfl
     case c3=>unfold aT;omega
     case c4=>omega
     case c5=>simp;omega
     intro v' w7 C B _;have o:=A9 K w.heap.size (.inl (by omega));have y:RD w7 w.heap.size s i 3:=by
      have ha:=x.alloc (.cells #[.string T,.string Q,.string S] 131);unfold RD at *;rw[B.block _ (by simp;omega) (by rcases o with h|h<;>simp_all;exact fun h'=>h h'.symm)];exact ha
     have X:ai w.heap.size w w7:=(Y.alloc Y.size _).grown B (by simp;have:=Y.size;omega) (fun k hk=>by have:=K.lt k hk;omega);have E:w7.ownsRow (w.heap.size+1) 131 3 v' (L++[(T,Q,S)]).length (lU (L++[(T,Q,S)])):=by
      rw[YV,aK,G.out];exact C
     have r:=laid y.mZ;have HS2:Hid (lu s (5-(L++[(T,Q,S)]).length) i=R):=laid (by rw[aK,G.out];exact c.out);have HL2:Hid ((L++[(T,Q,S)])++ji s (5-(L++[(T,Q,S)]).length) i=LR):=laid (by rw[aK,G.out];exact W.out);obtain⟨g,EI,n',rfl⟩:∃g cap n',v'=.slice (some ⟨g,0,none⟩) n' cap:=by
      rcases C.2 with⟨_,h0⟩|⟨g,cap,cur,hv,_⟩
      ·omega
      ·exact⟨g,cap,_,hv⟩
     clear C B o K c W;go_wp2
     go_roundw
     case rel=>go_light;exact⟨L++[(T,Q,S)],i,by rw[aK,G.out];simp;omega,L_.2,y,E,X,HS2,HL2⟩
     case measure=>go_light;rw[F0.out,r.out];omega
   ·have F:s.size=p:=by omega
    have O:=laid F;have A:=Ow F P.out;have M:=laid (show R.2=false by rw[A]);have V:=laid (NO (by omega) b.out);clear A F P;go_wp2_with fail
    refine(Hc _ _ s p 3 J O.out).mono ?_;rintro e w3 ⟨rfl,m,rfl⟩;go_wp2_with fail
    refine(Gu _ _ s p 3 (J.drewN m) (by rw[O.out])).mono ?_;rintro e w4 ⟨rfl,t,rfl⟩;go_wp2
    go_ret
    exact Nn M.out V.out (by rw[G.out];exact U) (Go.below_drewN H _)
  ·have f:n=5:=by omega
   have HK:=laid f;clear f;by_cases D:p<s.size
   ·have z:=laid (Yl D (HK.out▸P.out));clear P;go_wp2_with fail
    refine(MW _ _ s p 3 J (by omega)).mono ?_;rintro e w4 ⟨rfl,t,rfl⟩;exact⟨rfl,NN (st:=(p,true)) z.out rfl (Go.below_drewN H t)⟩
   ·have F:s.size=p:=by omega
    have O:=laid F;have A:=Ow F P.out;have M:=laid (show R.2=false by rw[A]);have V:=laid (NO (by omega) b.out);clear A F P;go_wp2_with fail
    refine(Gu _ _ s p 3 J (by rw[O.out])).mono ?_;rintro e w4 ⟨rfl,t,rfl⟩;go_wp2
    go_ret
    exact Nn M.out V.out (by rw[G.out];exact U) (Go.below_drewN H t)
structure ko(w w':ae)(y z:Nat):Prop where
 os:w'.os=w.os
 tape:w'.tape=w.tape
 output:w'.output=w.output
 size:w.heap.size<=w'.heap.size
 block:∀k,k<w.heap.size->k≠y->k≠z->w'.heap[k]?=w.heap[k]?
theorem ko.of{wm:ae}(I:w.grownBy wm (some y))(h2:wm.grownBy w' (some z)):ko w w' y z:=
 ⟨h2.os.trans I.os,h2.tape.trans I.tape,h2.output.trans I.output,bI I.size h2.size,fun k hk Y K=>by
  rw[h2.block k (by have:=I.size;omega) (by simp_all),I.block k hk (by simp_all)]⟩
theorem ko.below{B:Nat}(h:ko w w' y z)(K:B<=w.heap.size)(A:B<=y)(C:B<=z):ai B w w':=
 ⟨h.os,h.tape,h.output,h.size,fun k hk=>h.block k (by omega) (by omega) (by omega)⟩
theorem ko.new{w w1 w2:ae}{o:Obj}{y z:Nat}(K:ko (w.alloc o) w1 y z)(h2:w1.grownBy w2 (some w.heap.size)):ko w w2 y z:=by
 refine⟨h2.os.trans K.os,h2.tape.trans K.tape,h2.output.trans K.output,?_,fun k hk H D=>?_⟩
 ·have:=K.size;have:=h2.size;simp at *;omega
 ·have Y:=K.size;simp at Y;rw[h2.block k (by omega) (by simp;omega),K.block k (by simp;omega) H D,eM w o k hk]
theorem ko.alloc{w1:ae}(K:ko w w1 y z)(o:Obj):ko w (w1.alloc o) y z:=
 ⟨K.os,K.tape,K.output,by have:=K.size;simp;omega,fun k hk Y H=>by
  have:=K.size;rw[eM w1 o k (by omega)];exact K.block k hk Y H⟩
theorem MS(h:ai w.heap.size w w')(y z:Nat):ko w w' y z:=⟨h.os,h.tape,h.output,h.size,fun k hk _ _=>h.block k hk⟩
def kJ(ref reads:ByteArray):=
 if(jV ref).2=true then(2,(jV ref).1)else if(lu reads 5 0).2=true then(3,(lu reads 5 0).1)else(0,0)
def na(ref reads:ByteArray):Int:=if 400<ref.size\/600<reads.size then 1 else((kJ ref reads).1:Int)
def zb(ref reads:ByteArray):Int:=if 400<ref.size\/600<reads.size then 0 else((kJ ref reads).2:Int)
def RB(w:ae)(y:Nat)(a b:ByteArray):=w.heap[y]?=some (.cells #[.string a,.string b] 68 (0,0))
def ZB(w:ae)(z:Nat)(v:ah):=w.heap[z]?=some (.cells #[v] 90 (0,0))
def FB(w:ae)(m:Nat)(c p:Int):=w.heap[m]?=some (.cells #[.int .i64 c,.int .i64 p] 70 (0,0))
theorem RB.c0{a b:ByteArray}(h:RB w y a b):w.cell? ⟨y,0,none⟩=some (.string a):=by rw[au w y 0 _ _ _ h];rfl
theorem RB.c1{a b:ByteArray}(h:RB w y a b):w.cell? ⟨y,1,none⟩=some (.string b):=by rw[au w y 1 _ _ _ h];rfl
theorem RB.fz{a b:ByteArray}(h:RB w y a b)(j:Nat):w.frozen? ⟨y,j,none⟩=false:=a_ w y j _ _ h
theorem RB.lt{a b:ByteArray}(h:RB w y a b):y<w.heap.size:=by have:=bh h.c0;omega
theorem RB.put{a b:ByteArray}(h:RB w y a b)(a' b':ByteArray):RB ((w.setCell ⟨y,0,none⟩ (.string a')).setCell ⟨y,1,none⟩ (.string b')) y a' b':=by
 have I:RB (w.setCell ⟨y,0,none⟩ (.string a')) y a' b:=by unfold RB at *;rw[bT w y 0 _ _ _ h];rfl
 unfold RB at *;rw[bT _ y 1 _ _ _ I];rfl
theorem RB.at{a b:ByteArray}(h:RB w y a b)(K:w'.heap[y]?=w.heap[y]?):RB w' y a b:=by unfold RB at *;simp_all
theorem ZB.c0(h:ZB w z v):w.cell? ⟨z,0,none⟩=some v:=by rw[au w z 0 _ _ _ h];rfl
theorem ZB.fz(h:ZB w z v)(j:Nat):w.frozen? ⟨z,j,none⟩=false:=a_ w z j _ _ h
theorem ZB.lt(h:ZB w z v):z<w.heap.size:=by have:=bh h.c0;omega
theorem ZB.put(h:ZB w z v)(v':ah):ZB (w.setCell ⟨z,0,none⟩ v') z v':=by
 unfold ZB at *;rw[bT w z 0 _ _ v' h];rfl
theorem ZB.at(h:ZB w z v)(K:w'.heap[z]?=w.heap[z]?):ZB w' z v:=by unfold ZB at *;simp_all
theorem FB.c0{c p:Int}(h:FB w m c p):w.cell? ⟨m,0,none⟩=some (.int .i64 c):=by rw[au w m 0 _ _ _ h];rfl
theorem FB.c1{c p:Int}(h:FB w m c p):w.cell? ⟨m,1,none⟩=some (.int .i64 p):=by rw[au w m 1 _ _ _ h];rfl
theorem FB.fz{c p:Int}(h:FB w m c p)(j:Nat):w.frozen? ⟨m,j,none⟩=false:=a_ w m j _ _ h
theorem FB.lt{c p:Int}(h:FB w m c p):m<w.heap.size:=by have:=bh h.c0;omega
theorem ZA(ref reads:ByteArray)(x y u z:Nat)(a b:ByteArray)(v:ah)(w:ae)(I:ref.size<=400)(h2:reads.size<=600)
  (hx:w.cell? ⟨x,0,none⟩=some (.string ref))(hu:w.cell? ⟨u,0,none⟩=some (.string reads))(hy:RB w y a b)(hz:ZB w z v)(huy:u≠y)(O:z≠y)(ha:(jV ref).2=false)(hb:(lu reads 5 0).2=false):
  ao af 89 #[.pointer (some ⟨x,0,none⟩),.pointer (some ⟨y,0,none⟩),.pointer (some ⟨u,0,none⟩),.pointer (some ⟨z,0,none⟩)] w fun e w'=>
   e=.returned (.tuple #[])/\RB w' y (nN ref) (str (kY ref).2)/\(∃V,ZB w' z V/\w'.ownsRow w.heap.size 131 3 V (ji reads 5 0).length (lU (ji reads 5 0)))/\ko w w' y z:=by
 have q:=laid ha;have j:=laid hb;clear ha hb;have T:=hy.lt;have G:=hz.lt;have Q:u<w.heap.size:=by have:=bh hu;simpa using this
 generalize hX:str (kY ref).2=X;generalize o:nN ref=Y;have d:=laid hX;have f:=laid o;clear hX o;generalize l:ji reads 5 0=U;have c:=laid l;clear l
 go_enter dP,dW
 go_wp2_with fail
 refine(yg ref _ (by omega)).mono ?_;rintro e w1 ⟨J,W,D⟩;rw[d.out,f.out]at J;obtain rfl:=J q.out;clear J W q d f;have R:RB w1 y a b:=hy.at (D.block y T);have Z:ZB w1 z v:=hz.at (D.block z G);have m:w1.cell? ⟨u,0,none⟩=some (.string reads):=by rw[(vd D).1 u 0 Q];exact hu
 have c0:=R.c0;have c1:=R.c1;have f0:=R.fz 0;have f1:=R.fz 1;have M:=R.put Y X;obtain⟨_,_,K⟩:=rk (.string Y) (.string X) c0 c1;have p:=D.size;have C:=Z.at (K.block z (by omega) (by simpa using O));have L:=jA (rZ D _) K;clear D K;go_wp2_with fail
 generalize(w1.setCell ⟨y,0,none⟩ (.string Y)).setCell ⟨y,1,none⟩ (.string X)=w2 at *;refine(M7 reads _ (by omega)).mono ?_;rintro e w3 ⟨J,W,A⟩;rw[c.out]at J;obtain⟨V,rfl,H⟩:=J j.out;clear J W j c;obtain⟨va,cap,rfl⟩:∃va cap,V=.slice va U.length cap:=by
  rcases H.2 with⟨I,h2⟩|⟨g,cap,s,I,_⟩
  ·exact⟨none,0,by rw[I,h2]⟩
  ·exact⟨_,cap,I⟩
 have N:RB w3 y Y X:=M.at (A.block y M.lt);have F:ZB w3 z v:=C.at (A.block z C.lt);have c0:=F.c0;have f0:=F.fz 0;have E:=F.put (.slice va U.length cap);have K:=oZ w3 z 0 (.slice va U.length cap);have S:=N.at (K.block y N.lt (by simpa using fun h=>O h.symm));have P:=jA (rZ A _) K;have r:=L.size;have B:(w3.setCell ⟨z,0,none⟩ (.slice va U.length cap)).ownsRow w.heap.size 131 3 (.slice va U.length cap) U.length (lU U):=
  CQ (H.kept K (A9 H z (.inl (by have:=C.lt;omega)))) (by omega)
 clear K A H;go_wp2
 go_end0
 exact⟨rfl,S,⟨_,E,B⟩,ko.of L P⟩
theorem Ym(ref reads:ByteArray)(x y u z:Nat)(a b:ByteArray)(v:ah)(w:ae)(I:ref.size<=400)(h2:reads.size<=600)
  (hx:w.cell? ⟨x,0,none⟩=some (.string ref))(W:w.cell? ⟨u,0,none⟩=some (.string reads))(T:RB w y a b)(V:ZB w z v)(h:u≠y)(G:z≠y)(A:(jV ref).2=true\/(lu reads 5 0).2=true):
  ao af 89 #[.pointer (some ⟨x,0,none⟩),.pointer (some ⟨y,0,none⟩),.pointer (some ⟨u,0,none⟩),.pointer (some ⟨z,0,none⟩)] w fun e w'=>
   e=.panicked (nQ ((kJ ref reads).1:Int) ((kJ ref reads).2:Int))/\(∃a' b',RB w' y a' b')/\ZB w' z v/\ko w w' y z:=by
 have F:=T.lt;have L:=V.lt;have Q:u<w.heap.size:=by have:=bh W;simpa using this
 by_cases D:(jV ref).2=true
 ·have B:kJ ref reads=(2,(jV ref).1):=if_pos D;rw[B];have N:=laid D;clear A B D
  go_enter dP,dW
  go_wp2_with fail
  refine(yg ref _ (by omega)).mono ?_;rintro e w1 ⟨O,M,K⟩;obtain rfl:=M N.out;exact⟨rfl,rfl,⟨a,b,T.at (K.block y F)⟩,V.at (K.block z L),MS K _ _⟩
 ·have hb:=A.resolve_left D;have B:kJ ref reads=(3,(lu reads 5 0).1):=by unfold kJ;rw[if_neg D,if_pos hb]
  rw[B];rw[bk]at D;have N:=laid D;have E:=laid hb;clear A B D hb
  go_enter dP,dW
  go_wp2_with fail
  refine(yg ref _ (by omega)).mono ?_;rintro e w1 ⟨O,M,K⟩;generalize str (kY ref).2=X at *;generalize nN ref=Y at *;obtain rfl:=O N.out;clear O M N;have H:RB w1 y a b:=T.at (K.block y F);have S:ZB w1 z v:=V.at (K.block z L);have q:w1.cell? ⟨u,0,none⟩=some (.string reads):=by rw[(vd K).1 u 0 Q];exact W
  have c0:=H.c0;have c1:=H.c1;have f0:=H.fz 0;have f1:=H.fz 1;have C:=H.put Y X;obtain⟨_,_,U⟩:=rk (.string Y) (.string X) c0 c1;have Z:=K.size;have J:=S.at (U.block z (by omega) (by simpa using G));have P:=jA (rZ K _) U;clear K U;go_wp2_with fail
  refine(M7 reads _ (by omega)).mono ?_;rintro e w3 ⟨O,M,R⟩;obtain rfl:=M E.out;exact⟨rfl,rfl,⟨Y,X,C.at (R.block y C.lt)⟩,J.at (R.block z J.lt),ko.of P (rZ R _)⟩
theorem WM(ref reads:ByteArray)(x y u z:Nat)(a b:ByteArray)(v:ah)(w:ae)(I:ref.size<=400)(h2:reads.size<=600)
  (hx:w.cell? ⟨x,0,none⟩=some (.string ref))(W:w.cell? ⟨u,0,none⟩=some (.string reads))(h:RB w y a b)(hz:ZB w z v)(M:u≠y)(T:z≠y)(G:(jV ref).2=false)(hb:(lu reads 5 0).2=false):
  ao af 41 #[.func (.func 89) #[] #[.pointer (some ⟨x,0,none⟩),.pointer (some ⟨y,0,none⟩),.pointer (some ⟨u,0,none⟩),.pointer (some ⟨z,0,none⟩)]] w fun e w'=>
   e=.returned (.agg #[.int .i64 0,.int .i64 0])/\RB w' y (nN ref) (str (kY ref).2)/\(∃V,ZB w' z V/\w'.ownsRow w.heap.size 131 3 V (ji reads 5 0).length (lU (ji reads 5 0)))/\ko w w' y z:=by
 have P:=laid G;have Q:=laid hb;clear G hb;have L:x<w.heap.size:=by have:=bh hx;simpa using this
 have J:u<w.heap.size:=by have:=bh W;simpa using this
 have N:=h.lt;have O:=hz.lt
 go_enter_defers Tryz.func41,alu
 go_wp2_with fail
 refine(ZA ref reads x y u z a b v _ I h2 ?_ ?_ (h.at (aL _ _ N)) (hz.at (aL _ _ O)) M T P.out Q.out).mono ?_
 ·rw[db _ _ _ L];exact hx
 ·rw[db _ _ _ J];exact W
 rintro e w1 ⟨rfl,H,⟨V,D,K⟩,C⟩;have A:=C.block w.heap.size (by simp) (by omega) (by omega);rw[aP]at A;have n0:w1.cell? ⟨w.heap.size,0,none⟩=some (.int .i64 0):=by rw[au _ _ _ _ _ _ A];rfl
 have n1:w1.cell? ⟨w.heap.size,1,none⟩=some (.int .i64 0):=by rw[au _ _ _ _ _ _ A];rfl
 have z0:w1.frozen? ⟨w.heap.size,0,none⟩=false:=a_ _ _ _ _ _ A;have Z:w1.frozen? ⟨w.heap.size,1,none⟩=false:=a_ _ _ _ _ _ A;go_wp2
 obtain⟨m0,S,Y⟩:=rk (.int .i64 0) (.int .i64 0) n0 n1;have U:=H.at (Y.block y H.lt (by simp;omega));have B:=D.at (Y.block z D.lt (by simp;omega));have R:=CQ (K.kept Y (A9 K w.heap.size (.inl (by simp)))) (show w.heap.size<=_ by simp);have F:=ko.new C Y;clear H D A n0 n1 z0 Z C Y K;refine leaves_cons (f:=61) (args:=#[.pointer (some ⟨w.heap.size,0,none⟩)]) (by simp) (by simp[go_sem]) ?_;refine(Oa _ _).mono ?_;rintro e E X ⟨rfl,rfl,rfl⟩;refine⟨.agg #[.int .i64 0,.int .i64 0],?_,rfl,U,⟨V,B,R⟩,F⟩;simp[b_,alv,go_sem,m0,S]
theorem Wy(ref reads:ByteArray)(x y u z:Nat)(a b:ByteArray)(v:ah)(w:ae)(I:ref.size<=400)(h2:reads.size<=600)
  (hx:w.cell? ⟨x,0,none⟩=some (.string ref))(T:w.cell? ⟨u,0,none⟩=some (.string reads))(V:RB w y a b)(G:ZB w z v)(M:u≠y)(O:z≠y)(K:(jV ref).2=true\/(lu reads 5 0).2=true):
  ao af 41 #[.func (.func 89) #[] #[.pointer (some ⟨x,0,none⟩),.pointer (some ⟨y,0,none⟩),.pointer (some ⟨u,0,none⟩),.pointer (some ⟨z,0,none⟩)]] w fun e w'=>
   e=.returned (.agg #[.int .i64 ((kJ ref reads).1:Int),.int .i64 ((kJ ref reads).2:Int)])/\(∃a' b',RB w' y a' b')/\ZB w' z v/\ko w w' y z:=by
 have Q:=laid K;clear K;have J:x<w.heap.size:=by have:=bh hx;simpa using this
 have F:u<w.heap.size:=by have:=bh T;simpa using this
 have L:=V.lt;have N:=G.lt
 go_enter_defers Tryz.func41,alu
 go_wp2_with fail
 refine(Ym ref reads x y u z a b v _ I h2 ?_ ?_ (V.at (aL _ _ L)) (G.at (aL _ _ N)) M O Q.out).mono ?_
 ·rw[db _ _ _ J];exact hx
 ·rw[db _ _ _ F];exact T
 rintro e w1 ⟨rfl,⟨a',b',A⟩,U,P⟩;have R:=P.block w.heap.size (by simp) (by omega) (by omega);rw[aP]at R;have n0:w1.cell? ⟨w.heap.size,0,none⟩=some (.int .i64 0):=by rw[au _ _ _ _ _ _ R];rfl
 have n1:w1.cell? ⟨w.heap.size,1,none⟩=some (.int .i64 0):=by rw[au _ _ _ _ _ _ R];rfl
 have z0:w1.frozen? ⟨w.heap.size,0,none⟩=false:=a_ _ _ _ _ _ R;have E:w1.frozen? ⟨w.heap.size,1,none⟩=false:=a_ _ _ _ _ _ R;refine leaves_cons (f:=61) (args:=#[.pointer (some ⟨w.heap.size,0,none⟩)]) (by simp) (by simp[go_sem]) ?_;refine(N_ _ _ _ _ _ [] _ n0 n1 z0 E).mono ?_;rintro e q Z ⟨rfl,rfl,rfl⟩;have S:w.heap.size<w1.heap.size:=by have:=bh n0;simpa using this
 obtain⟨m0,X,Y⟩:=rk (.int .i64 ((kJ ref reads).1:Int)) (.int .i64 ((kJ ref reads).2:Int)) n0 n1;have H:=A.at (Y.block y A.lt (by simp;omega));have D:=U.at (Y.block z U.lt (by simp;omega));have B:=ko.new P Y;generalize W:(w1.setCell ⟨w.heap.size,0,none⟩ (.int .i64 ((kJ ref reads).1:Int))).setCell ⟨w.heap.size,1,none⟩ (.int .i64 ((kJ ref reads).2:Int))=w2 at *;have C:w.heap.size<w2.heap.size:=by have:=Y.size;omega
 refine⟨.agg #[.int .i64 ((kJ ref reads).1:Int),.int .i64 ((kJ ref reads).2:Int)],?_,rfl,⟨a',b',H.at (aL _ _ H.lt)⟩,D.at (aL _ _ D.lt),B.alloc _⟩;simp[b_,alv,go_sem,m0,X,C]
def Ie(w:ae)(ref reads:ByteArray)(E P:Int)(K:List (ByteArray×ByteArray×ByteArray))(e:Ending)(w':ae):=
 ∃a b V,e=.returned (.tuple #[.agg #[.string a,.string b],V,.agg #[.int .i64 E,.int .i64 P]])/\(∃va n cap,V=.slice va n cap)/\ai w.heap.size w w'/\
  (E=0->a=nN ref/\b=str (kY ref).2/\w'.ownsRow w.heap.size 131 3 V K.length (lU K))
theorem FB.put{c p:Int}(h:FB w m c p)(c' p':Int):FB ((w.setCell ⟨m,0,none⟩ (.int .i64 c')).setCell ⟨m,1,none⟩ (.int .i64 p')) m c' p':=by
 have I:FB (w.setCell ⟨m,0,none⟩ (.int .i64 c')) m c' p:=by unfold FB at *;rw[bT w m 0 _ _ _ h];rfl
 unfold FB at *;rw[bT _ m 1 _ _ _ I];rfl
theorem ahg{w1:ae}{o0 o1 o2 o3 o4:Obj}(h:ko (((((w.alloc o0).alloc o1).alloc o2).alloc o3).alloc o4) w1 (w.heap.size+1+1) (w.heap.size+1+1+1)):ai w.heap.size w w1/\w1.heap[w.heap.size+1+1+1+1]?=some o4/\w.heap.size+5<=w1.heap.size:=by
 have hb:=h.below (B:=w.heap.size) (by simp;omega) (by omega) (by omega);refine⟨((((((aI _ _).alloc (ar _) o0).alloc (by simp) o1).alloc (by simp;omega) o2).alloc (by simp;omega) o3).alloc (by simp;omega) o4).trans hb,?_,by have:=h.size;simp_all⟩;rw[h.block _ (by simp) (by omega) (by omega)];have e:w.heap.size+1+1+1+1=((((w.alloc o0).alloc o1).alloc o2).alloc o3).heap.size:=by simp
 rw[e,aP]
theorem ade(w:ae)(K o1:Obj)(o3 o4:Obj):RB (((((w.alloc K).alloc o1).alloc (.cells #[.string ⟨#[]⟩,.string ⟨#[]⟩] 68)).alloc o3).alloc o4) (w.heap.size+1+1) ⟨#[]⟩ ⟨#[]⟩:=by
 unfold RB;rw[aL _ _ (by simp),aL _ _ (by simp)];have e:w.heap.size+1+1=((w.alloc K).alloc o1).heap.size:=by simp
 rw[e,aP]
theorem adf(w:ae)(K o1 o2:Obj)(o4:Obj)(v:ah):ZB (((((w.alloc K).alloc o1).alloc o2).alloc (.cells #[v] 90)).alloc o4) (w.heap.size+1+1+1) v:=by
 unfold ZB;rw[aL _ _ (by simp)];have e:w.heap.size+1+1+1=(((w.alloc K).alloc o1).alloc o2).heap.size:=by simp
 rw[e,aP]
theorem A_{a:Addr}(h:w.cell? a=some v):w.setCell a v=w:=by
 have e:(w.heap.modify a.block fun
   |.cells c Y frozen=>.cells (if a.spot.isSome then c else c.setIfInBounds a.off v) Y frozen
   |o=>o)=w.heap:=by
  apply Array.ext
  ·simp
  ·intro i I h2;rw[Array.getElem_modify];split
   ·rename_i K;subst K;unfold aM at h;rw[bc h2]at h;generalize w.heap[a.block]=o at *;cases o with
    |cells c Y frozen=>
     simp only at h⊢;split at h
     ·simp at h
     ·rename_i H;rw[if_neg H];congr 1;apply Array.ext
      ·simp
      ·intro j D R;rw[Array.getElem_setIfInBounds];split
       ·simp_all
       ·rfl
    |_=>simp at h
   ·rfl
 exact congrArg (fun h=>({w with heap:=h})) e
theorem adg{B:Nat}{e:bt}{k:Nat}{xs:List _}(h:w.ownsRow B e k v n xs):w.drew.ownsRow B e k v n xs:=h
theorem WN(ref reads:ByteArray)(w:ae)(I:ref.size<=400)(h2:reads.size<=600):
  ao af 58 #[.string ref,.string reads] w fun e w'=>Ie w ref reads ((kJ ref reads).1:Int) ((kJ ref reads).2:Int) (ji reads 5 0) e w':=by
 have u:∀(fn:Fn) (first cap:Array ah) (w:ae),(eS fn first cap).run af w=.ok (.func fn first cap) w:=fun _ _ _ _=>rfl;have Q:∀W:ae,W.cell? ⟨w.heap.size,0,none⟩=some (.string ref)->W.cell? ⟨w.heap.size+1,0,none⟩=some (.string reads)->RB W (w.heap.size+1+1) ⟨#[]⟩ ⟨#[]⟩->ZB W (w.heap.size+1+1+1) (.slice none 0 0)->w.heap.size<=W.heap.size->
   ao af 41 #[.func (.func 89) #[] #[.pointer (some ⟨w.heap.size,0,none⟩),.pointer (some ⟨w.heap.size+1+1,0,none⟩),.pointer (some ⟨w.heap.size+1,0,none⟩),.pointer (some ⟨w.heap.size+1+1+1,0,none⟩)]] W fun e w'=>
    e=.returned (.agg #[.int .i64 ((kJ ref reads).1:Int),.int .i64 ((kJ ref reads).2:Int)])/\ko W w' (w.heap.size+1+1) (w.heap.size+1+1+1)/\
    ∃a b V,RB w' (w.heap.size+1+1) a b/\ZB w' (w.heap.size+1+1+1) V/\(∃va n cap,V=.slice va n cap)/\(((kJ ref reads).1:Int)=0->a=nN ref/\b=str (kY ref).2/\w'.ownsRow W.heap.size 131 3 V (ji reads 5 0).length (lU (ji reads 5 0))):=by
  intro W c0 c1 L M hW;by_cases Y:(jV ref).2=true\/(lu reads 5 0).2=true
  ·refine(Wy ref reads _ _ _ _ _ _ _ W I h2 c0 c1 L M (by omega) (by omega) Y).mono ?_;rintro e w' ⟨rfl,⟨a,b,j⟩,z,X⟩;refine⟨rfl,X,a,b,_,j,z,⟨_,_,_,rfl⟩,fun h=>?_⟩;exfalso;unfold kJ at h;by_cases F:(jV ref).2=true
   ·rw[if_pos F]at h;simp at h
   ·rw[if_neg F,if_pos (Y.resolve_left F)]at h;simp at h
  ·have F:(jV ref).2=false:=by simpa using fun h=>Y (.inl h)
   have hb:(lu reads 5 0).2=false:=by simpa using fun h=>Y (.inr h)
   have r:kJ ref reads=(0,0):=by unfold kJ;rw[F,hb];rfl
   rw[r];refine(WM ref reads _ _ _ _ _ _ _ W I h2 c0 c1 L M (by omega) (by omega) F hb).mono ?_;rintro e w' ⟨rfl,j,⟨V,z,X⟩,y⟩;refine⟨rfl,y,_,_,V,j,z,?_,fun _=>⟨rfl,rfl,X⟩⟩;rcases X.2 with⟨I,h2⟩|⟨g,cap,l,I,_⟩
   ·exact⟨none,0,0,I⟩
   ·exact⟨_,_,cap,I⟩
 have N:=laid Q;clear Q;generalize o:((kJ ref reads).1:Int)=E at *;generalize hP:((kJ ref reads).2:Int)=P at *;generalize p:ji reads 5 0=T at *;clear o hP p
 go_enter dO,dV
 go_wp2_with fail
 refine(N.out _ (by simp[go_sem]) (by simp[go_sem]) (ade w _ _ _ _) (adf w _ _ _ _ _) (by simp;omega)).mono ?_;rintro e w1 ⟨rfl,S,a,b,V,L,M,⟨va,n,cap,rfl⟩,R⟩;obtain⟨D,d,x⟩:=ahg S;have J:FB w1 (w.heap.size+1+1+1+1) 0 0:=d;have c:Hid (E=0->a=nN ref/\b=str (kY ref).2/\w1.ownsRow (w.heap.size+5) 131 3 (.slice va n cap) T.length (lU T)):=laid fun h=>by
  obtain⟨g1,O,C⟩:=R h;refine⟨g1,O,?_⟩;simpa using C
 clear S d R N;have f0:=J.c0;have f1:=J.c1;have G:=J.fz 0;have q:=J.fz 1;have K:=J.put E P;obtain⟨_,_,H⟩:=rk (.int .i64 E) (.int .i64 P) f0 f1;have A:=L.at (H.block _ L.lt (by simp));have B:=M.at (H.block _ M.lt (by simp));have U:=D.grown H D.size (by intro k hk;cases hk;omega);have Z:Hid (E=0->a=nN ref/\b=str (kY ref).2/\((w1.setCell ⟨w.heap.size+1+1+1+1,0,none⟩ (.int .i64 E)).setCell ⟨w.heap.size+1+1+1+1,1,none⟩ (.int .i64 P)).ownsRow (w.heap.size+5) 131 3 (.slice va n cap) T.length (lU T)):=laid fun h=>by
  obtain⟨g1,O,C⟩:=c.out h;exact⟨g1,O,C.kept H (A9 C _ (.inl (by omega)))⟩
 have f:=H.size;clear H D c;go_wp2_with fail
 generalize(w1.setCell ⟨w.heap.size+1+1+1+1,0,none⟩ (.int .i64 E)).setCell ⟨w.heap.size+1+1+1+1,1,none⟩ (.int .i64 P)=w2 at *;clear f0 f1 G q;have a0:=A.c0;have a1:=A.c1;have b0:=B.c0;have c0:=K.c0;have c1:=K.c1;have m:=A.fz 0;have t:=A.fz 1;have i:=B.fz 0;have FL:=K.fz 0;have zc1:=K.fz 1;have s1:=A_ a0;have s2:=A_ a1;have s3:=A_ b0;have s4:=A_ c0;have s5:=A_ c1;have s:=K.lt;clear L M J A B K
 go_region
 all_goals
  go_wp2
  refine cB (v:=.tuple #[.agg #[.string a,.string b],.slice va n cap,.agg #[.int .i64 E,.int .i64 P]]) ?_ rfl ?_
  ·simp[b_,dX,go_sem,a0,a1,b0,c0,c1]
  ·exact⟨a,b,.slice va n cap,rfl,⟨_,_,_,rfl⟩,U.drew,fun h=>by
    obtain⟨g1,O,C⟩:=Z.out h;exact⟨g1,O,CQ (adg C) (by omega)⟩⟩
theorem Xd(ref reads:ByteArray)(w:ae)(I:ref.size<=aT)(h2:reads.size<=aT)(K:400<ref.size\/600<reads.size):
  ao af 58 #[.string ref,.string reads] w fun e w'=>Ie w ref reads 1 0 (ji reads 5 0) e w':=by
 have D:∀(fn:Fn) (first cap:Array ah) (w:ae),(eS fn first cap).run af w=.ok (.func fn first cap) w:=fun _ _ _ _=>rfl;unfold aT at I h2;generalize Y:ji reads 5 0=R at *;clear Y;by_cases H:400<ref.size
 ·clear K
  go_enter dO,dV
  go_wp2
  refine cB (v:=.tuple #[.agg #[.string ⟨#[]⟩,.string ⟨#[]⟩],.slice none 0 0,.agg #[.int .i64 1,.int .i64 0]]) ?_ rfl ?_
  ·simp[b_,dX,go_sem]
  ·refine⟨_,_,_,rfl,⟨_,_,_,rfl⟩,?_,fun h=>by simp at h⟩;exact((((((aI _ _).alloc (ar _) _).alloc (by simp) _).alloc (by simp;omega) _).alloc (by simp;omega) _).alloc (by simp;omega) _)
 ·have hb:=K.resolve_left H;clear K
  go_enter dO,dV
  go_wp2
  refine cB (v:=.tuple #[.agg #[.string ⟨#[]⟩,.string ⟨#[]⟩],.slice none 0 0,.agg #[.int .i64 1,.int .i64 0]]) ?_ rfl ?_
  ·simp[b_,dX,go_sem]
  ·refine⟨_,_,_,rfl,⟨_,_,_,rfl⟩,?_,fun h=>by simp at h⟩;exact((((((aI _ _).alloc (ar _) _).alloc (by simp) _).alloc (by simp;omega) _).alloc (by simp;omega) _).alloc (by simp;omega) _)
theorem XA(ref reads:ByteArray)(w:ae)(I:ref.size<=aT)(h2:reads.size<=aT):
  ao af 58 #[.string ref,.string reads] w fun e w'=>Ie w ref reads (na ref reads) (zb ref reads) (ji reads 5 0) e w':=by
 by_cases Y:400<ref.size\/600<reads.size
 ·have K:na ref _=1:=if_pos Y;have H:zb ref _=0:=if_pos Y;rw[K,H];exact Xd ref _ w I h2 Y
 ·have K:na ref _=((kJ ref _).1):=if_neg Y;have H:zb ref _=((kJ ref _).2):=if_neg Y;rw[K,H];exact WN ref _ w (by omega) (by omega)
def py(len X k st b:Nat):=min (b *st+st+len+k) X
def looked(P X:ByteArray)(k q st:Nat)(t:Int)(b:Nat):Bool:=decide (t<=0)||decide (t<=(sy P (X.extract (b *st) (py P.size X.size k st b)) q:Int))
def uW(P X:ByteArray)(k q st:Nat)(t:Int)
 |0=>[]
 |b+1=>if looked P X k q st t b=true then(if uW P X k q st t b=[]then gV b else uW P X k q st t b++(44::gV b))else uW P X k q st t b
theorem mF(n:Nat)(h:n<=9999):1<=(gV n).length/\(gV n).length<=4:=by
 by_cases I:n<=9
 ·rw[tj n I];simp
 rw[uL n I];by_cases h2:n/10<=9
 ·rw[tj _ h2];simp
 rw[uL _ h2];by_cases Y:n/10/10<=9
 ·rw[tj _ Y];simp
 rw[uL _ Y,tj _ (by omega)];simp
def stretches(X st:Nat):=(X+st-1)/st
theorem Aw(X st b:Nat)(K:1<=st):b *st<X↔b<stretches X st:=by
 unfold stretches;rw[Nat.lt_div_iff_mul_lt (by omega)];omega
def ma(len k q:Nat):Int:=(len:Int)-(q:Int)+1-((k *q:Nat):Int)
def Rj(ref K:ByteArray)(k q step:Int):=
 uW (str (K.data.toList.map gb)) (str (kY ref).2) k.toNat q.toNat step.toNat (ma K.size k.toNat q.toNat) (stretches (kY ref).2.length step.toNat)
def tX(ref K:ByteArray)(k q step:Int):=
 if 400<ref.size\/(jV ref).2=true\/K.size<1\/30<K.size\/K.data.toList.all iM=false\/pZ k K.size q step=false then⟨#[]⟩else str (Rj ref K k q step)
def qb(ref K:ByteArray)(k q step:Int):Int:=
 if 400<ref.size then 1 else if(jV ref).2=true then 2 else if K.size<1\/30<K.size\/K.data.toList.all iM=false then 5 else if pZ k K.size q step=false then 4 else 0
theorem NP(s:ByteArray):∀f acc st,acc.length<=200->st.1<=s.size->(nP s f acc st).2.length<=200
 |0,acc,st,h,_=>h
 |f+1,acc,st,h,Y=>by
  simp[nP];split
  ·refine NP s f _ _ ?_ (uK s _ _ Y).2;have:=Is s (200-acc.length) _ Y;have:=AL s (200-acc.length) st.1;rw[aK];omega
  omega
theorem Ox(s:ByteArray):(kY s).2.length<=200:=NP s _ _ _ (by simp) (wN s 62 0 (by omega)).2
theorem akE(s:ByteArray)(i:Nat)(h:i<s.size):s.extract i (i+1)=str [at8 s i]:=by
 apply ByteArray.ext;apply Array.ext';rw[ByteArray.data_extract,Array.toList_extract];unfold str at8;have Y:=by omega
 simp only[List.extract_eq_take_drop];rw[dB Y,cP,aU Y];simp
def iS(s:ByteArray)
 |0=>([],0)
 |i+1=>if i+1=s.size\/at8 s (i+1)≠at8 s i then((iS s i).1++gV ((iS s i).2+1)++[at8 s i],0)else((iS s i).1,(iS s i).2+1)
def nG(s:ByteArray):=(iS s s.size).1
theorem IG(s:ByteArray):∀i,i<=9000->(iS s i).2<=i/\(iS s i).1.length<=5 *i
 |0,_=>by simp[iS]
 |i+1,h=>by
  have Y:=IG s i (by omega);have hd:=mF ((iS s i).2+1) (by omega);rw[iS];split
  ·simp;omega
  ·simp only;omega
theorem adh{s:ByteArray}{i:Nat}(h:i+1=s.size\/at8 s (i+1)≠at8 s i):iS s (i+1)=((iS s i).1++gV ((iS s i).2+1)++[at8 s i],0):=by rw[iS,if_pos h]
theorem afp{s:ByteArray}{i:Nat}(h:¬(i+1=s.size\/at8 s (i+1)≠at8 s i)):iS s (i+1)=((iS s i).1,(iS s i).2+1):=by rw[iS,if_neg h]
theorem toNat_ne{a b:UInt8}(h:a≠b):(a.toNat != (b.toNat:Int))=true:=by
 rw[bne_iff_ne];intro Y;exact h (UInt8.toNat.inj (by omega))
theorem toNat_eq{a b:UInt8}(h:a=b):((a.toNat:Int) != b.toNat)=false:=by simp_all
theorem afq(a b:ByteArray)(K:a.size<=100000000)(hb:b.size<=100000000)(w:ae):(Op.stringOp .add a b).run af w=.ok (.string (a++b)) w:=run_string_add_sum (w:=w) a b (by omega)
structure Df where
 o:List UInt8
 i:Nat
 j:Nat
 n:Nat
def uX(p t s:ByteArray)(x:Nat)(st:Df):Df:=
 if at8 s x=77 then(if ag (at8 p st.i) (at8 t st.j)=true then⟨st.o,st.i+1,st.j+1,st.n+1⟩else⟨st.o++gV st.n++[at8 t st.j],st.i+1,st.j+1,0⟩)
 else if at8 s x=73 then⟨st.o,st.i+1,st.j,st.n⟩
 else if x=0\/at8 s (x-1)≠68 then⟨st.o++gV st.n++[94]++[at8 t st.j],st.i,st.j+1,0⟩else⟨st.o++[at8 t st.j],st.i,st.j+1,st.n⟩
def jq(p t s:ByteArray):Nat->Df
 |0=>⟨[],0,0,0⟩
 |x+1=>uX p t s x (jq p t s x)
def pz(p t s:ByteArray):=(jq p t s s.size).o++gV (jq p t s s.size).n
theorem IH(p t s:ByteArray):∀x,x<=9000->(jq p t s x).i<=x/\(jq p t s x).j<=x/\(jq p t s x).n<=x/\(jq p t s x).o.length<=6 *x
 |0,_=>by simp[jq]
 |x+1,h=>by
  have Y:=IH p t s x (by omega);have hd:=mF (jq p t s x).n (by omega);simp only[jq,uX];split
  ·split
   ·simp only;omega
   ·simp;omega
  ·split
   ·simp only;omega
   ·split
    ·simp;omega
    ·simp only[aK,cj,bG];omega
def Fits(p t s:ByteArray):=∀x,x<s.size->(at8 s x=77->(jq p t s x).i<p.size/\(jq p t s x).j<t.size)/\(at8 s x≠77->at8 s x≠73->(jq p t s x).j<t.size)
def rV(c:UInt8):=c==77||c==73
def mT(c:UInt8):=c != 73
theorem pX(l:List _)(x:Nat):at8 (str l) x=l.getD x 0:=rfl
theorem A1(s:ByteArray)(x:Nat)(h:x<s.size):s.data.toList.take (x+1)=s.data.toList.take x++[at8 s x]:=by
 have Y:x<s.data.toList.length:=by simpa using h
 rw[dH,aU Y];unfold at8;rw[cP,aU Y];rfl
theorem Rk(p t s:ByteArray):∀x,x<=s.size->(jq p t s x).i=(s.data.toList.take x).countP rV/\(jq p t s x).j=(s.data.toList.take x).countP mT
 |0,_=>by simp[jq]
 |x+1,h=>by
  have R:=Rk p t s x (by omega);rw[A1 s x (by omega),bm,bm];simp only[jq,uX];by_cases K:at8 s x=77
  ·rw[if_pos K];have H:[at8 s x].countP rV=1:=by rw[K];rfl
   have D:[at8 s x].countP mT=1:=by rw[K];rfl
   split<;>simp only<;>omega
  ·rw[if_neg K];by_cases Y:at8 s x=73
   ·rw[if_pos Y];have H:[at8 s x].countP rV=1:=by rw[Y];rfl
    have D:[at8 s x].countP mT=0:=by rw[Y];rfl
    simp_all
   ·rw[if_neg Y];have H:[at8 s x].countP rV=0:=by simp[rV,K,Y]
    have D:[at8 s x].countP mT=1:=by simp[mT,Y]
    split<;>simp only<;>omega
theorem AB(p t:ByteArray):∀(f i j:Nat),i+j<=f->(iR p t f i j).countP rV=i/\(iR p t f i j).countP mT=j
 |0,i,j,h=>by
  have I:i=0:=by omega
  have h2:j=0:=by omega
  subst I h2;simp[iR]
 |f+1,i,j,h=>by
  rw[iR];by_cases A:i=0/\j=0
  ·simp_all
  ·rw[if_neg A];by_cases H:pD p t i j=true
   ·rw[if_pos H];have U:=Dm H;have Y:=AB p t f (i-1) (j-1) (by omega);rw[bm,bm,Y.1,Y.2];have D:[(77:UInt8)].countP rV=1:=rfl;have R:[(77:UInt8)].countP mT=1:=rfl;omega
   ·rw[if_neg H];by_cases K:oz p t i j=true
    ·rw[if_pos K];have U:=Dn K;have Y:=AB p t f (i-1) j (by omega);rw[bm,bm,Y.1,Y.2];have D:[(73:UInt8)].countP rV=1:=rfl;have R:[(73:UInt8)].countP mT=0:=rfl;omega
    ·rw[if_neg K];have U:=C0 (by simpa using K) A;have Y:=AB p t f i (j-1) (by omega);rw[bm,bm,Y.1,Y.2];have D:[(68:UInt8)].countP rV=0:=rfl;have R:[68].countP mT=1:=rfl;omega
theorem abk(p t:ByteArray):Fits p t (str (iu p t)):=by
 intro x hx;have C:=AB p t _ p.size t.size (ar _);have H:=Rk p t (str (iu p t)) x (by omega);have Y:=A1 _ x hx;have D:∀f,((str (iu p t)).data.toList.take (x+1)).countP f<=(iu p t).countP f:=fun f=>(List.take_sublist _ _).countP_le;have I:=D rV;have h2:=D mT;have A:iu p t=iR p t _ _ _:=rfl;rw[Y,bm]at I h2;rw[A]at I h2;rw[H.1,H.2];rw[A]at *;refine⟨fun K=>?_,fun K R=>?_⟩
 ·rw[K]at I h2;have B:[77].countP rV=1:=rfl;have U:[77].countP mT=1:=rfl;omega
 ·have U:[at8 (str (iR p t (p.size+t.size) p.size t.size)) x].countP mT=1:=by simp[mT,R]
  omega
def xP(s:ByteArray)
 |0=>[]
 |x+1=>xP s x++[at8 s (s.size-1-x)]
def ky(s:ByteArray):=xP s s.size
theorem Qn(s:ByteArray):∀x,(xP s x).length=x
 |0=>rfl
 |x+1=>by rw[xP,aK,Qn s x];rfl
theorem Ig(s:ByteArray):∀x,x<=s.size->xP s x=(s.data.toList.drop (s.size-x)).reverse
 |0,_=>by simp[xP]
 |x+1,h=>by
  rw[xP,Ig s x (by omega)];have Y:s.size-(x+1)<s.data.toList.length:=by simp;omega
  rw[dB Y,List.reverse_cons,show s.size-(x+1)+1=s.size-x by omega];unfold at8;rw[show s.size-1-x=s.size-(x+1) by omega,cP,aU Y];rfl
theorem C8(s:ByteArray):ky s=s.data.toList.reverse:=by
 unfold ky;rw[Ig s _ (ar _)];simp
def pL(C:Array _)(n k:Nat):=(Array.range C.size).map fun x=>if x<n/\(x<k\/n<=x+k)then C.getD (n-1-x) ak else C.getD x ak
theorem tJ(C:Array _)(n k:Nat):(pL C n k).size=C.size:=by simp[pL]
theorem tP(C:Array _)(n k x:Nat)(h:x<C.size):(pL C n k)[x]?=some (if x<n/\(x<k\/n<=x+k)then C.getD (n-1-x) ak else C.getD x ak):=by
 simp[pL,h]
theorem adi(C:Array _)(n:Nat):pL C n 0=C:=by
 apply Array.ext
 ·exact tJ C n 0
 ·intro i I h2;have:=tP C n 0 i h2;rw[bc I]at this;rw[Option.some.inj this,if_neg (by omega)];simp[h2]
theorem adj(C:Array ah)(n k:Nat)(A:n<=C.size)(hk:k+1+k<n):((pL C n k).setIfInBounds k (C.getD (n-1-k) ak)).setIfInBounds (n-1-k) (C.getD k ak)=pL C n (k+1):=by
 apply Array.ext
 ·simp[tJ]
 ·intro i I h2;have Y:i<C.size:=by rw[tJ]at h2;exact h2
  have H:=tP C n (k+1) i Y;rw[bc h2]at H;rw[Option.some.inj H];have K:=tP C n k i Y;by_cases a1:i=n-1-k
  ·subst a1;rw[eL,if_pos (by omega),show n-1-(n-1-k)=k by omega]
  ·rw[eK (by simp_all) (fun h=>a1 h.symm)];by_cases a2:i=k
   ·subst a2;rw[eL,if_pos (by omega)]
   ·rw[eK (by rw[tJ];exact Y) (fun h=>a2 h.symm)];rw[bc (by rw[tJ];exact Y)]at K;rw[Option.some.inj K];by_cases c:i<n/\(i<k\/n<=i+k)
    ·rw[if_pos c,if_pos (by omega)]
    ·rw[if_neg c,if_neg (by omega)]
theorem yr{g k:Nat}{c:Array _}{e:bt}{fz:Nat×Nat}(v:ah)(h:w.heap[g]?=some (.cells c e fz)):(w.setCell ⟨g,k,none⟩ v).heap[g]?=some (.cells (c.setIfInBounds k v) e fz):=by
 have K:=(bu.1 h).1;have Y:w.heap[g]=.cells c e fz:=by simp_all
 simp only[World.setCell];rw[bc (by simp_all),Array.getElem_modify_self,Y];rfl
theorem yB{g k:Nat}{c:Array _}{e:bt}{fz:Nat×Nat}(h:w.heap[g]?=some (.cells c e fz))(hk:¬(fz.1<=k/\k<fz.2)):w.frozen? ⟨g,k,none⟩=false:=by
 simp[alR,h];omega
theorem NQ(C:Array ah)(g n cap:Nat)(fz:Nat×Nat)(w:ae)(hn:n<=1000)(V:n<=C.size)(A:∀k,k<n->¬(fz.1<=k/\k<fz.2))(hb:∀x,x<n->∃z:Int,C.getD x ak=.int .u8 z)(hw:w.heap[g]?=some (.cells C 5 fz)):
  ao af 148 #[.slice (some ⟨g,0,none⟩) n cap] w fun e w'=>(∃v,e=.returned v)/\w'.heap[g]?=some (.cells (pL C n n) 5 fz)/\w.grownBy w' (some g):=by
 have J:=laid hb;have L:=laid A;clear A;have B:Hid (∀(W:ae) (k:Nat),n<=k+1+k->W.heap[g]?=some (.cells (pL C n k) 5 fz)->W.heap[g]?=some (.cells (pL C n n) 5 fz)):=laid fun W k hk h=>by
  rw[h];congr 2;apply Array.ext
  ·simp[tJ]
  ·intro i I h2;have O:i<C.size:=by rw[tJ]at h2;exact h2
   have M:=tP C n k i O;have N:=tP C n n i O;rw[bc I]at M;rw[bc h2]at N;rw[Option.some.inj M,Option.some.inj N];by_cases c:i<n
   ·by_cases c2:i<k\/n<=i+k
    ·rw[if_pos ⟨c,c2⟩,if_pos ⟨c,.inl c⟩]
    ·rw[if_neg (by omega),if_pos ⟨c,.inl c⟩,show n-1-i=i by omega]
   ·rw[if_neg (by omega),if_neg (by omega)]
 have S:=laid hw;clear hb hw
 go_enter Tryz.func148,Tryz.ntmps148
 go_wp2
 go_loopw [2,3] (fun iv G wr=>∃k:Nat,iv=.int .i64 (k:Int)/\G=.int .i64 ((n:Int)-1-(k:Int))/\k<=n/\wr.heap[g]?=some (.cells (pL C n k) 5 fz)/\w.grownBy wr (some g)) (fun iv _ _=>n-(intOf iv).toNat)
 case atStart=>exact⟨0,rfl,by go_num,bK _,by rw[adi];exact S.out,World.grownBy.refl _ _⟩
 case round=>
  obtain⟨k,rfl,rfl,E,K,D⟩:=hrel;by_cases F:k+1+k<n
  ·have c1:(k:Int)<(n:Int)-1-(k:Int):=by omega
   obtain⟨m,U⟩:∃m:Nat,m=n-1-k:=⟨_,rfl⟩;have H:(n:Int)-1-(k:Int)=(m:Int):=by omega
   rw[H];rw[H]at c1;have s1:wr.cell? ⟨g,k,none⟩=some (C.getD k ak):=by
    rw[au wr g k _ _ _ K,tP C n k k (by omega),if_neg (by omega)]
   have q:wr.cell? ⟨g,m,none⟩=some (C.getD m ak):=by
    rw[au wr g m _ _ _ K,tP C n k m (by omega),if_neg (by omega)]
   have d:wr.frozen? ⟨g,k,none⟩=false:=yB K (L.out k (by omega));have z2:wr.frozen? ⟨g,m,none⟩=false:=yB K (L.out m (by omega));have b1:(k:Int)<(n:Int):=by omega
   have b2:(m:Int)<(n:Int):=by omega
   have j:cf.wrap ((m:Int)-1)=(m:Int)-1:=dz _ (by omega);obtain⟨X,hX⟩:=J.out k (by omega);obtain⟨Y,R⟩:=J.out m (by omega);have Q:Hid ((((wr.setCell ⟨g,k,none⟩ (.int .u8 Y)).setCell ⟨g,m,none⟩ (.int .u8 X)).drew).heap[g]?=some (.cells (pL C n (k+1)) 5 fz)):=laid (by
    have I:=yr (k:=m) (.int .u8 X) (yr (k:=k) (.int .u8 Y) K);rw[<-hX,<-R,U,adj C n k V F]at I;rw[<-hX,<-R,U];exact I)
   rw[hX]at s1;rw[R]at q;have P:=laid U;have Z:k≠m:=by omega
   clear U H hX R K B;go_wp2_with fail
   go_region
   go_wp2
   go_roundw
   case rel=>go_light;exact⟨k+1,by go_num,by have:=P.out;congr 1;omega,by omega,Q.out,jA D (jA (jA (oZ wr g k _) (oZ _ g m _)) (nB _ 1 _))⟩
   case measure=>go_light;simp[intOf];omega
  ·have c1:¬(k:Int)<(n:Int)-1-(k:Int):=by omega
   have T:=laid (B.out wr k (by omega) K);clear B K;go_wp2
   go_end0
   exact⟨⟨_,rfl⟩,T.out,D⟩
theorem abl(l:List UInt8)(m:Nat):pL ((l.map bv).toArray++cH m (.int .u8 0)) l.length l.length=(l.reverse.map bv).toArray++cH m (.int .u8 0):=by
 apply Array.ext
 ·simp[tJ]
 ·intro i I h2;have K:=by rw[tJ]at I;exact I
  have Y:=tP _ l.length l.length i K;rw[bc I]at Y;rw[Option.some.inj Y];by_cases c:i<l.length
  ·rw[if_pos ⟨c,.inl c⟩];simp[dq,c,show l.length-1-i<l.length by omega];omega
  ·rw[if_neg (by omega)];rw[dq,dif_pos K];simp[eI,c]
theorem M8(s:ByteArray)(w:ae)(M:s.size<=1000):
  ao af 129 #[.string s] w fun e w'=>e=.returned (.string (str (ky s)))/\ai w.heap.size w w':=by
 have F:=fun w:ae=>run_bytes_of_string (P:=af) w 9 79 5 s aW bD bQ
 go_enter Tryz.func129,Tryz.ntmps129
 go_wp2_with fail
 have R:bytesRow s (de w s.size 0 5)=(s.data.toList.map bv).toArray++cH (de w s.size 0 5-s.size) (eo .u8 0):=by
  unfold bytesRow;congr 1;apply Array.ext<;>simp[bv]
 have H:s.data.toList.length=s.size:=by simp
 rw[R];have D:=fun o=>aP w.drew o;refine(NQ _ w.heap.size s.size _ _ _ M (by simp) (fun k hk=>by simp;omega) (fun x hx=>?_) (D _)).mono ?_
 ·have U:x<s.data.size:=hx;have J:x<((s.data.toList.map bv).toArray++cH (de w s.size 0 5-s.size) (eo .u8 0)).size:=by simp;omega
  rw[dq,dif_pos J];simp[eI,hx,U,bv]
 rintro e w2 ⟨⟨v,rfl⟩,h2,A⟩;rw[<-H,abl]at h2;have I:=by
  have:=run_convert_bytes_back (P:=af) w2 79 9 5 ⟨w.heap.size,0,none⟩ (de w s.size 0 5) (ky s) bD bQ aW (fun j B=>?_)
  ·rw[show(ky s).length=s.size by rw[C8];simp]at this;exact this
  ·rw[C8]at B;have C:(⟨w.heap.size,0,none⟩:Addr).add j=⟨w.heap.size,j,none⟩:=by unfold Addr.add;split<;>simp_all
   rw[C,au w2 w.heap.size j _ _ _ h2];have K:=B;rw[Array.getElem?_append_left (by simpa using K),fe,fc,aU K];simp only[Option.map_some,bv];congr 4;simp only[C8]
 have Y:ai w.heap.size w w2:=by
  refine Below.grown ((Go.below_drewN (aI _ _) 1).alloc (ar _) _) A (by simp) ?_;intro k e;cases e;exact ar _
 go_wp2
 go_ret
 exact⟨rfl,Y⟩
theorem Jh:(af.info? 131).map (·.size)=some 3:=by kernel_rfl
theorem ZC(rn rb rm:ByteArray)(w:ae)(hb:rb.size<=200)(T:rm.size<=1000):
  ao af 112 #[.agg #[.string rn,.string rb,.string rm]] w fun e w'=>e=.returned (.agg #[.string rn,.string (iP rb 0),.string (str (ky rm))])/\ai w.heap.size w w':=by
 have Q:=laid (fun W:ae=>ab7 rb W hb);have P:=laid (fun W:ae=>M8 rm W T);generalize iP rb 0=OB at *;generalize str (ky rm)=O at *
 go_enter Tryz.func112,Tryz.ntmps112
 go_wp2_with fail
 obtain⟨w0,R,S⟩:∃w0:ae,((w.alloc (.cells #[.string rn,.string rb,.string rm] 131)).alloc (.cells #[.string ⟨#[]⟩,.string ⟨#[]⟩,.string ⟨#[]⟩] 131))=w0/\w0.heap.size=w.heap.size+2:=⟨_,rfl,by simp⟩;have F:w0.heap[w.heap.size]?=some (.cells #[.string rn,.string rb,.string rm] 131 (0,0)):=by
  rw[<-R,aL _ _ (by simp)];exact aP w _
 have A:w0.heap[w.heap.size+1]?=some (.cells #[.string ⟨#[]⟩,.string ⟨#[]⟩,.string ⟨#[]⟩] 131 (0,0)):=by
  rw[<-R];have:=aP (w.alloc (.cells #[.string rn,.string rb,.string rm] 131)) (.cells #[.string ⟨#[]⟩,.string ⟨#[]⟩,.string ⟨#[]⟩] 131);simpa using this
 have M:ai w.heap.size w w0:=by rw[<-R];exact((aI _ _).alloc (ar _) _).alloc (by simp) _
 rw[R];clear R;have a0:w0.cell? ⟨w.heap.size,0,none⟩=some (.string rn):=by rw[au w0 _ 0 _ _ _ F];rfl
 have a1:w0.cell? ⟨w.heap.size,1,none⟩=some (.string rb):=by rw[au w0 _ 1 _ _ _ F];rfl
 have a2:w0.cell? ⟨w.heap.size,2,none⟩=some (.string rm):=by rw[au w0 _ 2 _ _ _ F];rfl
 have c0:w0.cell? ⟨w.heap.size+1,0,none⟩=some (.string ⟨#[]⟩):=by rw[au w0 _ 0 _ _ _ A];rfl
 have c1:w0.cell? ⟨w.heap.size+1,1,none⟩=some (.string ⟨#[]⟩):=by rw[au w0 _ 1 _ _ _ A];rfl
 have c2:w0.cell? ⟨w.heap.size+1,2,none⟩=some (.string ⟨#[]⟩):=by rw[au w0 _ 2 _ _ _ A];rfl
 have f0:w0.frozen? ⟨w.heap.size+1,0,none⟩=false:=yB A (by simp);have f1:w0.frozen? ⟨w.heap.size+1,1,none⟩=false:=yB A (by simp);have f2:w0.frozen? ⟨w.heap.size+1,2,none⟩=false:=yB A (by simp);have U:w.heap.size<w0.heap.size:=by omega
 have K:w.heap.size+1<w0.heap.size:=by omega
 have I:Hid (∀W:ae,ai w0.drew.heap.size w0.drew W->W.heap[w.heap.size+1]?=some (.cells #[.string ⟨#[]⟩,.string ⟨#[]⟩,.string ⟨#[]⟩] 131 (0,0))):=laid fun W H=>by rw[H.block _ K];exact A
 clear F A;have J:Hid (∀W:ae,ai w0.drew.heap.size w0.drew W->W.cell? ⟨w.heap.size,0,none⟩=some (.string rn)/\W.cell? ⟨w.heap.size,1,none⟩=some (.string rb)/\W.cell? ⟨w.heap.size,2,none⟩=some (.string rm)):=laid fun W H=>⟨by rw[H.cell (p:=⟨w.heap.size,0,none⟩) U];exact a0,by rw[H.cell (p:=⟨w.heap.size,1,none⟩) U];exact a1,by rw[H.cell (p:=⟨w.heap.size,2,none⟩) U];exact a2⟩;have B:Hid (∀W:ae,ai w0.drew.heap.size w0.drew W->W.cell? ⟨w.heap.size+1,0,none⟩=some (.string ⟨#[]⟩)/\W.cell? ⟨w.heap.size+1,1,none⟩=some (.string ⟨#[]⟩)/\W.cell? ⟨w.heap.size+1,2,none⟩=some (.string ⟨#[]⟩)/\W.frozen? ⟨w.heap.size+1,0,none⟩=false/\W.frozen? ⟨w.heap.size+1,1,none⟩=false/\W.frozen? ⟨w.heap.size+1,2,none⟩=false):=laid fun W H=>⟨by rw[H.cell (p:=⟨w.heap.size+1,0,none⟩) K];exact c0,by rw[H.cell (p:=⟨w.heap.size+1,1,none⟩) K];exact c1,by rw[H.cell (p:=⟨w.heap.size+1,2,none⟩) K];exact c2,by rw[H.frozen (p:=⟨w.heap.size+1,0,none⟩) K];exact f0,by rw[H.frozen (p:=⟨w.heap.size+1,1,none⟩) K];exact f1,by rw[H.frozen (p:=⟨w.heap.size+1,2,none⟩) K];exact f2⟩;clear c0 c1 c2 f0 f1 f2
 go_region_law
  (first
   |(go_simp;go_at_call 51;refine(Q.out _).mono ?_;rintro e w' ⟨rfl,Y⟩;obtain⟨V,d1,d2⟩:=J.out _ Y)
   |(go_simp;go_at_call 129;refine(P.out _).mono ?_;rintro e N ⟨rfl,D⟩;obtain⟨g0,g1,X,Z,E,G⟩:=B.out _ (Y.trans (D.mono Y.size));obtain⟨q,j,z⟩:=J.out _ (Y.trans (D.mono Y.size))))
 all_goals
  have L:Hid (ai w.heap.size w (((N.setCell ⟨w.heap.size+1,0,none⟩ (.string rn)).setCell ⟨w.heap.size+1,1,none⟩ (.string OB)).setCell ⟨w.heap.size+1,2,none⟩ (.string O))):=laid (((((Go.below_drewN M 1).trans (Y.mono (by simp;omega))).trans (D.mono (by have:=Y.size;simp at this;omega))).setCell (p:=⟨w.heap.size+1,0,none⟩) (by simp) _|>.setCell (p:=⟨w.heap.size+1,1,none⟩) (by simp) _).setCell (p:=⟨w.heap.size+1,2,none⟩) (by simp) _);have C:=yr (k:=2) (.string O) (yr (k:=1) (.string OB) (yr (k:=0) (.string rn) (I.out _ (Y.trans (D.mono Y.size)))));clear Q P J B I Y D;go_wp2
  (try simp only[Exit.inBlock,Exit.then])
  refine cB (results_cell_row rfl _ _ (w.heap.size+1) _ _ _ _ rfl C Tryz.underlying131 rfl Jh) rfl ?_;exact⟨rfl,L.out⟩
theorem A2(p t:ByteArray)(k:Nat):∀n,n<=t.size+1->∀h∈lQ p t k n,h.1<=h.2.1/\h.2.1<=t.size/\h.2.2<=k
 |0,_,h,Y=>by simp[lQ]at Y
 |e+1,H,h,Y=>by
  have K:=A2 p t k e (by omega);rw[lQ]at Y;split at Y
  ·rename_i hb;rw[dE,cS]at Y;rcases Y with Y|Y
   ·exact K h Y
   ·subst Y;have:=Gw p t k e (tries p k e);exact⟨this,by simp_all,hb⟩
  ·exact K h Y
def zE(A rn p mk t K:ByteArray)(n s d:Nat):=
 rn.data.toList++[9]++gV n++[9]++A.data.toList++[9]++gV (s+1)++[9]++nG K++[9]++gV d++[9]++pz p t K++[9]++p.data.toList++[9]++mk.data.toList++[10]
def xi(A K rn p mk:ByteArray)(n:Nat)(h:Nat×Nat×Nat):=
 zE A rn p mk (K.extract h.1 h.2.1) (str (iu p (K.extract h.1 h.2.1))) n h.1 h.2.2
def qc(add:Nat)(more:Bool)(i:Nat):=if more=true\/0<i then add+256 else add
def ql(A K rn p mk:ByteArray)(add:Nat)(more:Bool)(L:List (Nat×Nat×Nat)):Nat->List UInt8
 |0=>[]
 |i+1=>ql A K rn p mk add more L i++xi A K rn p mk (qc add more i) (L.getD i (0,0,0))
def se(A K rn p mk:ByteArray)(add k:Nat)(more:Bool):=ql A K rn p mk add more (iL p K k) (iL p K k).length
theorem Hu(s:ByteArray)(h:s.size<=9000):(nG s).length<=5 *s.size:=(IG s _ h).2
theorem Qo(p t s:ByteArray)(h:s.size<=9000):(pz p t s).length<=6 *s.size+4:=by
 have I:=IH p t s _ h;have h2:=mF (jq p t s s.size).n (by omega);unfold pz;rw[aK];omega
theorem Qp(A K rn p mk:ByteArray)(add:Nat)(more:Bool)(L:List (Nat×Nat×Nat))(M:A.size<=1000)(F:K.size<=300)(C:rn.size<=1000)(T:p.size<=100)(B:mk.size<=1000)(O:add<=1000)
  (N:∀h∈L,h.1<=h.2.1/\h.2.1<=K.size/\h.2.2<=1000):∀i,i<=L.length->(ql A K rn p mk add more L i).length<=20000 *i
 |0,_=>by simp[ql]
 |i+1,S=>by
  have V:=Qp A K rn p mk add more L M F C T B O N i (by omega);rw[ql,aK];have Q:=N (L.getD i (0,0,0)) (by rw[cP,aU (by omega)];exact List.getElem_mem _);generalize L.getD i _=h at *;have R:(K.extract h.1 h.2.1).size<=300:=by rw[cI];omega
  have gF:=AM p (K.extract h.1 h.2.1);have D:(str _).size=(iu p (K.extract h.1 h.2.1)).length:=ia _;have H:=Hu (str (iu p (K.extract h.1 h.2.1))) (by omega);have Y:=Qo p (K.extract h.1 h.2.1) (str (iu p (K.extract h.1 h.2.1))) (by omega);have d1:=mF (qc add more i) (by unfold qc;split<;>omega);have d2:=mF (h.1+1) (by omega);have d3:=mF h.2.2 (by omega);unfold xi zE;simp;have I:rn.data.size=rn.size:=rfl;have U:A.data.size=A.size:=rfl;have J:p.data.size=p.size:=rfl;have P:mk.data.size=mk.size:=rfl;omega
abbrev mM:=ByteArray×ByteArray×ByteArray
def qd(A K:ByteArray)(k:Nat)(r:mM):=se A K r.1 r.2.1 r.2.2 0 k false
def rE(A K:ByteArray)(k:Nat)(r:mM):=se A K r.1 (iP r.2.1 0) (str (ky r.2.2)) 16 k (decide (qd A K k r≠ []))
def xB(r:mM):=r.1.data.toList++[9,52,9,42,9,48,9,42,9,45,9,45,9]++r.2.1.data.toList++[9]++r.2.2.data.toList++[10]
def pT(A K:ByteArray)(k:Nat)(r:mM):=
 (if qd A K k r=[]/\rE A K k r=[]then xB r else qd A K k r)++rE A K k r
def rq(A K:ByteArray):=[64]++A.data.toList++[9]++gV K.size++[10]
def nT(A K:ByteArray)(k:Nat)(L:List mM)
 |0=>rq A K
 |i+1=>nT A K k L i++pT A K k (L.getD i (⟨#[]⟩,⟨#[]⟩,⟨#[]⟩))
def oj(ref reads:ByteArray)(k:Nat):=
 nT (xd ref) (str (kY ref).2) k (ji reads 5 0) (ji reads 5 0).length
def fewer(L:List mM)(k:Int):Bool:=L.all fun r=>decide (k<(r.2.1.size:Int))
def nj(ref reads:ByteArray)(k q step wk:Int):=
 if na ref reads≠0 then na ref reads else if pZ k 30 q step=false\/wk<1\/8<wk then 4 else if fewer (ji reads 5 0) k=false then 4 else 0
def qm(ref reads:ByteArray)(k q step wk:Int):=if nj ref reads k q step wk=0 then str (oj ref reads k.toNat)else⟨#[]⟩
def vv(ref reads:ByteArray):=if na ref reads≠0 then zb ref reads else 0
theorem Pd(s:ByteArray)(st:Nat×Bool):(su s st).size<=10:=by
 unfold su;split
 ·decide
 ·unfold cut;have:=(re lA (rest s st.1) 10).1;rw[ia,dD];omega
theorem XB(s:ByteArray)(m p:Nat):(sx s m p).size<=m:=by
 unfold sx zw;have:=AL s m p;rw[ia,cQ,dD];omega
theorem abm(s:ByteArray)(st:Nat×Bool):(zx s 30 st).size<=30:=by
 unfold zx;split
 ·decide
 ·exact XB s 30 _
theorem abn(s:ByteArray)(K:Nat)(st:Nat×Bool):(xE s K st).size<=K:=by
 unfold xE;split
 ·exact bK _
 ·unfold cut;have:=(re kT (rest s st.1) K).1;rw[ia,dD];omega
theorem ZF(s:ByteArray)(p:Nat):(ve s p).1.size<=10/\(ve s p).2.1.size<=30/\(ve s p).2.2.size<=30:=by
 have h2:(nL s p).size<=30:=abm s _;refine⟨Pd s _,h2,?_⟩;have:=abn s (nL s p).size (sQ s p);show(xE s _ _).size<=30
 omega
theorem MT(s:ByteArray):∀n p,∀r∈ji s n p,r.1.size<=10/\r.2.1.size<=30/\r.2.2.size<=30
 |0,_,r,h=>by simp[ji]at h
 |n+1,p,r,h=>by
  rw[ji]at h;split at h
  ·simp at h
  ·rw[List.mem_cons]at h;rcases h with rfl|h
   ·exact ZF s p
   ·split at h
    ·simp at h
    ·exact MT s n _ r h
theorem M9(s:ByteArray):∀n p,(ji s n p).length<=n
 |0,_=>by simp[ji]
 |n+1,p=>by
  rw[ji];split
  ·simp
  ·rw[cj];split
   ·simp
   ·have:=M9 s n (mc s p).1;omega
theorem Oy(M K rn p mk:ByteArray)(add k:Nat)(more:Bool)(F:M.size<=1000)(C:K.size<=300)(B:rn.size<=1000)(O:p.size<=100)(A:mk.size<=1000)(N:add<=1000)(hk:k<=1000):(se M K rn p mk add k more).length<=7000000:=by
 have I:(iL p K k).length<=301:=by have:=CB p K k (K.size+1);unfold iL;omega
 have h2:=Qp M K rn p mk add more (iL p K k) F C B O A N (fun h Y=>by have:=A2 p K k _ (ar _) h Y;omega) _ (ar _);unfold se;omega
theorem ahh{reads:ByteArray}(h:na ref reads=0):ref.size<=400/\reads.size<=600/\(jV ref).2=false/\(lu reads 5 0).2=false:=by
 unfold na at h;split at h
 ·omega
 ·unfold kJ at h;split at h
  ·omega
  ·split at h
   ·omega
   ·simp_all
theorem adk{L:List mM}(K:i<L.length):L.getD i (⟨#[]⟩,⟨#[]⟩,⟨#[]⟩)∈L:=by simp_all
theorem abo(C B:ByteArray)(k:Nat)(r:mM)(A:C.size<=1000)(K:B.size<=300)(hr:r.1.size<=10/\r.2.1.size<=30/\r.2.2.size<=30)(hk:k<=100):(qd C B k r).length<=7000000:=
 Oy C B r.1 _ _ 0 k _ A K (by omega) (by omega) (by omega) (by omega) (by omega)
theorem Pe(s:ByteArray):(str (ky s)).size=s.size:=by rw[ia,ky,Qn]
theorem abp(C B:ByteArray)(k:Nat)(r:mM)(A:C.size<=1000)(K:B.size<=300)(hr:r.1.size<=10/\r.2.1.size<=30/\r.2.2.size<=30)(hk:k<=100):(rE C B k r).length<=7000000:=
 Oy C B r.1 _ _ 16 k _ A K (by omega) (by have:=Cy r.2.1 0;omega) (by rw[Pe];omega) (by omega) (by omega)
theorem abq(r:mM)(hr:r.1.size<=10/\r.2.1.size<=30/\r.2.2.size<=30):(xB r).length<=1000:=by
 unfold xB;have Y:r.1.data.size=r.1.size:=rfl;have K:r.2.1.data.size=r.2.1.size:=rfl;have H:r.2.2.data.size=r.2.2.size:=rfl;simp only[aK,cj,bG,du];omega
theorem Gy(C B:ByteArray)(k:Nat)(r:mM)(A:C.size<=1000)(K:B.size<=300)(hr:r.1.size<=10/\r.2.1.size<=30/\r.2.2.size<=30)(hk:k<=100):(pT C B k r).length<=15000000:=by
 have I:=abo C B k r A K hr hk;have h2:=abp C B k r A K hr hk;have Y:=abq r hr;unfold pT;rw[aK];split<;>omega
theorem Hv(K C:ByteArray)(k:Nat)(L:List mM)(B:K.size<=1000)(A:C.size<=300)(F:∀r∈L,r.1.size<=10/\r.2.1.size<=30/\r.2.2.size<=30)(hk:k<=100):∀i,i<=L.length->(nT K C k L i).length<=2000+15000000 *i
 |0,_=>by
  have:=mF C.size (by omega);have e:K.data.size=K.size:=rfl;simp only[nT,rq,aK,cj,bG,du];omega
 |i+1,h=>by
  have Y:=Hv K C k L B A F hk i (by omega);have hr:=Gy K C k (L.getD i _) B A (F _ (adk (by omega))) hk;rw[nT,aK];omega
def g_(c:UInt8):Prop:=iM c=true/\gb c=c
def iU(x:List UInt8):List UInt8:=[62,114,10]++x++[10]
def iY(n:Nat):List UInt8:=(dG n).map fun i=>ej (33+i)
def jB(b:List UInt8):List UInt8:=[64,97,10]++b++[10,43,10]++iY b.length++[10]
theorem oG(n:Nat):(iY n).length=n:=by simp[iY]
theorem Rl(h:n<=30):∀c∈iY n,kT c=true:=by
 intro c Y;obtain⟨i,K,rfl⟩:=cR.1 Y;have:i<n:=by simpa using K
 have e:(33+i)%256=33+i:=by omega
 simp only[kT,Ev,UInt8.toNat_ofNat',e,decide_eq_true_eq];omega
theorem w_(A B:List UInt8):rest (str (A++B)) A.length=B:=by simp[rest,str]
theorem uJ(A B:List UInt8)(c:UInt8):ik (str (A++c::B)) c A.length=(A.length+1,false):=by
 have h:A.length<(str (A++c::B)).size:=by rw[ia];simp
 have e:(str (A++c::B))[A.length]=c:=by simp[ByteArray.getElem_eq_getElem_data,str]
 rw[ik,dif_pos h,if_pos e]
theorem AD(f:UInt8->Bool):∀(x:List UInt8) (B:List UInt8) (m:Nat),(∀c∈x,f c=true)->x.length<=m->(∀c K,B=c::K->f c=true->x.length=m)->iH f (x++B) m=x.length
 |[],B,m,_,_,Y=>by
  cases B with
  |nil=>rw[bH,N7];rfl
  |cons c K=>
   cases m with
   |zero=>rw[GC];rfl
   |succ m=>
    rw[bH,pM];split
    ·rename_i h;have:=Y c K rfl h;simp at this
    ·rfl
 |y::x,B,0,_,H,_=>by simp at H
 |y::x,B,m+1,hx,H,Y=>by
  rw[cM,pM,if_pos (hx y (by simp)),AD f x B m (fun c D=>hx c (by simp[D])) (by simpa using H) (fun c K e h=>by have:=Y c K e h;simpa using this)];rfl
theorem Hw(f:UInt8->Bool)(A x B:List UInt8)(l m:Nat)(hx:∀c∈x,f c=true)(I:l<=x.length)(h2:x.length<=m)(C:∀c K,B=c::K->f c=true->x.length=m):lT (str (A++(x++B))) f l m A.length=(A.length+x.length,false):=by
 rw[lT,w_,AD f x B m hx h2 C];simp;omega
theorem ahi:iM 10=false:=by decide
theorem ahj:lA 10=false:=by decide
theorem Hx(A x B:List UInt8)(m:Nat)(hx:∀c∈x,g_ c)(I:1<=x.length)(h2:x.length<=m):ju (str (A++(x++10::B))) m A.length=(A.length+x.length+1,false)/\j9 (str (A++(x++10::B))) m A.length=x.length/\sP (str (A++(x++10::B))) m A.length=x:=by
 have hb:∀c K,10::B=c::K->iM c=true->x.length=m:=fun c K e h=>by cases e;rw[ahi]at h;cases h
 have H:j9 (str (A++(x++10::B))) m A.length=x.length:=by rw[j9,w_,AD iM x _ m (fun c Y=>(hx c Y).1) h2 hb]
 refine⟨?_,H,?_⟩
 ·rw[ju,Hw iM A x _ 1 m (fun c Y=>(hx c Y).1) I h2 hb,kX rfl];have:=uJ (A++x) B 10;rw[fa,aK]at this;exact this
 ·rw[sP,w_,H,fi]
  ·exact(List.map_congr_left fun c Y=>(hx c Y).2).trans (List.map_id _)
  ·rfl
theorem Hy(A B:List UInt8)(c:UInt8)(K:lA c=true):qF (str (A++c::10::B)) A.length=(A.length+2,false)/\iH lA (rest (str (A++c::10::B)) A.length) 10=1:=by
 have hb:∀d Y,10::B=d::Y->lA d=true->[c].length=10:=fun d Y e h=>by cases e;rw[ahj]at h;cases h
 have hx:∀d∈[c],lA d=true:=by simpa using K
 refine⟨?_,?_⟩
 ·have h:=Hw lA A [c] (10::B) 1 10 hx (by simp) (by simp) hb;rw[qF];simp only[cM,bH,dC]at h;rw[h,kX rfl];have:=uJ (A++[c]) B 10;simpa using this
 ·rw[w_];exact AD lA [c] (10::B) 10 hx (by simp) hb
section
variable{x:List UInt8}(hx:∀c∈x,g_ c)(I:1<=x.length)(h2:x.length<=200)
theorem Rm(x:List UInt8):iU x=[62,114,10]++(x++10:: []):=by simp[iU]
include hx I h2
theorem Pf:iJ (ik (str (iU x)) 62 0) (qF (str (iU x)))=(3,false):=by
 have a:=uJ [] (114::10::(x++[10])) 62;have b:=(Hy [62] (x++[10]) 114 (by decide)).1;simp only[bH,bG,cM,dC]at a b;rw[show iU x=62::114::10::(x++[10]) by simp[iU],a,kX rfl];exact b
theorem Oz:kY (str (iU x))=((x.length+4,false),x):=by
 obtain⟨l1,_,K⟩:=Hx [62,114,10] x [] 200 hx I h2;have Y:(str (iU x)).size=x.length+4:=by rw[ia];simp[iU]
 rw[kY,Y,Pf hx I h2,nP,if_pos ⟨rfl,.inl rfl⟩];simp only[bG,Nat.sub_zero,bH];rw[Rm]at Y⊢;have H:([62,114,10]:List UInt8).length=3:=rfl;rw[H]at l1 K;rw[l1,K,nP,if_neg]
 ·simp;omega
 ·rintro⟨_,h|h⟩
  ·rw[h]at I;simp at I
  ·rw[Y]at h;simp at h;omega
theorem Ih:(jV (str (iU x))).2=false:=by
 obtain⟨l1,l2,_⟩:=Hx [62,114,10] x [] 200 hx I h2;have D:([62,114,10]:List UInt8).length=3:=rfl;have Y:=Pf hx I h2;obtain⟨H,R⟩:=r6 (by rw[Y]:(iJ (ik (str (iU x)) 62 0) (qF (str (iU x)))).2=false);rw[kX H]at Y;have K:(str (iU x)).size=x.length+4:=by rw[ia];simp[iU]
 rw[jV,kX H,kX R,Y,K];rw[Rm]at K⊢;rw[D]at l1 l2;rw[l1,l2,kX rfl,xj,if_pos (by rw[K];simp;omega)]
theorem Yn:xd (str (iU x))=⟨#[114]⟩:=by
 have a:=uJ [] (114::10::(x++[10])) 62;have b:=(Hy [62] (x++[10]) 114 (by decide)).2;have c:=w_ [62] (114::10::(x++[10]));simp only[bH,bG,cM,dC]at a b c;rw[show iU x=62::114::10::(x++[10]) by simp[iU],xd,su,a,if_neg (by simp),cut];simp only[bY];rw[b,c];rfl
end
section
variable{b:List UInt8}(hb:∀c∈b,g_ c)(I:1<=b.length)(h2:b.length<=30)
include hb I h2
theorem adl(A B:List UInt8):mc (str (A++(jB b++B))) A.length=(A.length+(jB b).length,false)/\ve (str (A++(jB b++B))) A.length=(⟨#[97]⟩,str b,str (iY b.length)):=by
 obtain⟨s,Y⟩:∃s,s=str (A++(jB b++B)):=⟨_,rfl⟩;have f1:s=str (A++64::(97::10::(b++10::43::10::(iY b.length++10::B)))):=by rw[Y];simp[jB]
 have f2:s=str ((A++[64])++97::10::(b++10::43::10::(iY b.length++10::B))):=by rw[Y];simp[jB]
 have M:s=str ((A++[64,97,10])++(b++10::(43::10::(iY b.length++10::B)))):=by rw[Y];simp[jB]
 have N:s=str ((A++[64,97,10]++b++[10])++43::(10::(iY b.length++10::B))):=by rw[Y];simp[jB]
 have f5:s=str ((A++[64,97,10]++b++[10,43])++10::(iY b.length++10::B)):=by rw[Y];simp[jB]
 have f6:s=str ((A++[64,97,10]++b++[10,43,10])++(iY b.length++10::B)):=by rw[Y];simp[jB]
 have f7:s=str ((A++[64,97,10]++b++[10,43,10]++iY b.length)++10::B):=by rw[Y];simp[jB]
 have g1:=uJ A (97::10::(b++10::43::10::(iY b.length++10::B))) 64;have R:=Hy (A++[64]) (b++10::43::10::(iY b.length++10::B)) 97 (by decide);have K:=w_ (A++[64]) (97::10::(b++10::43::10::(iY b.length++10::B)));have D:=Hx (A++[64,97,10]) b (43::10::(iY b.length++10::B)) 30 hb I h2;have U:=uJ (A++[64,97,10]++b++[10]) (10::(iY b.length++10::B)) 43;have C:=uJ (A++[64,97,10]++b++[10,43]) (iY b.length++10::B) 10;have F:=Hw kT (A++[64,97,10]++b++[10,43,10]) (iY b.length) (10::B) b.length b.length (Rl h2) (by rw[oG];exact ar _) (by rw[oG];exact ar _) (fun _ _ _ _=>oG _);have H:=w_ (A++[64,97,10]++b++[10,43,10]) (iY b.length++10::B);have J:=uJ (A++[64,97,10]++b++[10,43,10]++iY b.length) B 10;rw[<-f1]at g1;rw[<-f2]at R K;rw[<-M]at D;rw[<-N]at U;rw[<-f5]at C;rw[<-f6]at F H;rw[<-f7]at J;rw[<-Y];have n1:(A++[64]).length=A.length+1:=by simp
 have n3:(A++[64,97,10]).length=A.length+1+2:=by simp
 have Q:(A++[64,97,10]++b++[10]).length=A.length+1+2+b.length+1:=by simp;omega
 have S:(A++[64,97,10]++b++[10,43]).length=A.length+1+2+b.length+1+1:=by simp;omega
 have L:(A++[64,97,10]++b++[10,43,10]).length=A.length+1+2+b.length+1+1+1:=by simp;omega
 have T:(A++[64,97,10]++b++[10,43,10]++iY b.length).length=A.length+1+2+b.length+1+1+1+b.length:=by simp[oG];omega
 rw[n1]at R K;rw[n3]at D;rw[Q]at U;rw[S]at C;rw[L,oG]at F;rw[L]at H;rw[T]at J;have r2:nx s A.length=(A.length+1+2,false):=by rw[nx,vz,g1,kX rfl,R.1]
 have O:nL s A.length=str b:=by rw[nL,zx,r2,if_neg (by simp),QS,D.2.2]
 have X:sQ s A.length=(A.length+1+2+b.length+1+1+1,false):=by
  have r3:vO s A.length=(A.length+1+2+b.length+1,false):=by rw[vO,r2,kX rfl,D.1]
  have V:vP s A.length=(A.length+1+2+b.length+1+1,false):=by rw[vP,r3,kX rfl,U]
  rw[sQ,V,kX rfl,C]
 refine⟨?_,?_⟩
 ·have P:(jB b).length=1+2+b.length+1+1+1+b.length+1:=by simp[jB,oG];omega
  rw[mc,g1,kX rfl,R.1,kX rfl,D.1,kX rfl,U,kX rfl,C,kX rfl,D.2.1,F,kX rfl,J,P];simp;omega
 ·rw[ve,O,su,xE,vz,g1,X,if_neg (by simp),if_neg (by simp),cut,cut];simp only;rw[R.2,K,ia,H,AD kT (iY b.length) (10::B) b.length (Rl h2) (by rw[oG];exact ar _) (fun _ _ _ _=>oG _),oG,alb,alb,fi (oG _)];rfl
end
def iO(c:Int)(n:Nat):Nat:=(if c<0 then-(c+1)else c).toNat%n
theorem pU(c:Int)(h:0<n):iO c n<n:=cV _ h
def jj(c:Int):Prop:= -9223372036854775808<=c/\c<=9223372036854775807
theorem adm{c:Int}(h:c<0): -(c+1).tmod (n:Int)=(iO c n:Nat):=by
 unfold iO;rw[if_pos h,<-Int.neg_tmod,Int.tmod_eq_emod_of_nonneg (by omega),eW,eX (by omega)]
theorem adn{c:Int}(h:0<=c):c%(n:Int)=(iO c n:Nat):=by
 unfold iO;rw[if_neg (by omega),eW,eX h]
theorem yJ(c:Int)(n:Nat)(w:ae)(K:jj c)(I:1<=n)(h2:n<=1000):
  ao af 19 #[.int .i64 c,.int .i64 n] w fun e w'=>e=.returned (.int .i64 (iO c n:Nat))/\w'=w:=by
 obtain⟨c1,c2⟩:=K;by_cases h:c<0
 ·go_enter Tryz.func19,als
  go_wp2
  go_ret
  exact⟨congrArg cK (jb (adm h)),rfl⟩
 ·go_enter Tryz.func19,als
  go_wp2
  go_ret
  exact⟨congrArg cK (jb (adn h)),rfl⟩
theorem Ro(x:List UInt8)(w:ae)(hx:x.length<=1000):
  ao af 23 #[.string (str x)] w fun e w'=>e=.returned (.string (str (iU x)))/\w'=w:=by
 have Y:(str x).size<=1000:=hx
 go_enter Tryz.func23,Tryz.ntmps23
 go_wp2
 go_ret
 refine⟨congrArg cK (od ?_),rfl⟩;exact(congrArg (· ++str [10]) (ob [62,114,10] x)).trans (ob _ _)
theorem ado(w:ae)(c:Int):(convert 79 9 (.slice (some ⟨w.heap.size,0,none⟩) 1 1)).run af (w.alloc (.cells #[.int .u8 c] 5))=.ok (.string ⟨#[ej c.toNat]⟩) (w.alloc (.cells #[.int .u8 c] 5)):=by
 rw[run_convert_bytes_string _ _ _ 5 _ _ _ (by kernel_rfl) (by kernel_rfl) (by kernel_rfl),run_bytesToString _ _ _ _ [c]]
 ·rfl
 ·have h:(w.alloc (.cells #[.int .u8 c] 5)).cell? ⟨w.heap.size,0,none⟩=some (.int .u8 c):=by rw[au _ _ 0 _ _ _ (aP w _)];rfl
  simp[loadCells,go_sem,h]
theorem abr(n:Nat):iY (n+1)=iY n++[ej (33+n)]:=by simp[iY,fh]
theorem abt(n:Nat)(w:ae)(A:n<=60):
  ao af 30 #[.int .i64 n] w fun e w'=>e=.returned (.string (str (iY n)))/\ai w.heap.size w w':=by
 go_enter Tryz.func30,Tryz.ntmps30
 go_wp2
 go_loopw [3,4] (fun t i wr=>∃k:Nat,k<=n/\i=.int .i64 k/\t=.string (str (iY k))/\ai w.heap.size w wr) (fun _ i _=>n-(intOf i).toNat)
 case atStart=>exact⟨0,bK _,rfl,rfl,aI _ _⟩
 case round=>
  obtain⟨k,hk,rfl,rfl,Y⟩:=hrel;have H:(str (iY k)).size<=60:=by rw[ia,oG];omega
  by_cases K:k<n
  ·have I:=ado wr (33+(k:Int));have h2:∀o,ai w.heap.size w (wr.alloc o):=fun o=>Y.alloc Y.size o;go_wp2
   go_roundw
   case rel=>go_light;exact⟨k+1,by omega,by go_num,od (by rw[abr,<-CY,UInt8.ofNat_add];rfl),h2 _⟩
   case measure=>go_light;simp[intOf];omega
  ·go_wp2
   go_ret
   obtain rfl:k=n:=by omega
   exact⟨rfl,Y⟩
theorem adp(b:List UInt8)(w:ae)(hb:b.length<=60):
  ao af 24 #[.string (str b)] w fun e w'=>e=.returned (.string (str (jB b)))/\ai w.heap.size w w':=by
 have R:(str b).size=b.length:=rfl;have D:(str (iY b.length)).size=b.length:=by rw[ia,oG]
 go_enter Tryz.func24,Tryz.ntmps24
 go_wp2_with fail
 refine(abt b.length _ hb).mono ?_;rintro e w1 ⟨rfl,Y⟩;go_wp2
 go_ret
 refine⟨congrArg cK (od ?_),Y⟩;have I:=ob [64,97,10] b;have h2:=ob ([64,97,10]++b) [10,43,10];have H:=ob ([64,97,10]++b++[10,43,10]) (iY b.length);have K:=ob ([64,97,10]++b++[10,43,10]++iY b.length) [10];rw[<-H,<-h2,<-I]at K;exact K
def Bj(z:Int):UInt8:=if iO z 25=24 then 78 else [65,67,71,84].getD (iO z 25%4) 0
def qK(zs:Nat->Int)(n:Nat):List UInt8:=(dG n).map fun i=>Bj (zs i)
theorem Pg(zs:Nat->Int)(n:Nat):(qK zs n).length=n:=by simp[qK]
theorem ZG(zs:Nat->Int)(n:Nat):qK zs (n+1)=qK zs n++[Bj (zs n)]:=by simp[qK,fh]
theorem adq(z:Int):g_ (Bj z):=by
 unfold Bj;split
 ·exact⟨by decide,by decide⟩
 ·have:=cV (iO z 25) (show 0<4 by decide);generalize iO z 25%4=j at this;have:j=0\/j=1\/j=2\/j=3:=by omega
  rcases this with rfl|rfl|rfl|rfl<;>exact⟨by decide,by decide⟩
theorem adr(zs:Nat->Int)(n:Nat):∀c∈qK zs n,g_ c:=by
 intro c Y;obtain⟨i,_,rfl⟩:=cR.1 Y;exact adq _
theorem akF(j:Nat)(h:j<4):(⟨#[65,67,71,84,78]⟩:ByteArray).extract j (j+1)=⟨#[[65,67,71,84].getD j 0]⟩:=by
 have:j=0\/j=1\/j=2\/j=3:=by omega
 rcases this with rfl|rfl|rfl|rfl<;>rfl
def ahk(w:ae)(a:Option Addr)(len:Nat)(zs:Nat->Int):Prop:=
 len=0\/∃b off,a=some ⟨b,off,none⟩/\len<=aT/\∀i,i<len->w.cell? ⟨b,off+i,none⟩=some (.int .i64 (zs i))/\jj (zs i)
theorem ads(b off len cap K:Nat)(zs:Nat->Int)(w:ae)(B:len<=aT)(M:K<=60)(h:∀i,i<len->w.cell? ⟨b,off+i,none⟩=some (.int .i64 (zs i))/\jj (zs i)):
  ao af 18 #[.slice (some ⟨b,off,none⟩) len cap,.int .i64 K] w fun e w'=>e=.returned (.string (str (qK zs (min len K))))/\w'=w:=by
 have H:=laid h;clear h;unfold aT at B
 go_enter Tryz.func18,Tryz.ntmps18
 go_wp2
 go_loop [5,6] (fun t i=>∃k:Nat,k<=min len K/\i=.int .i64 k/\t=.string (str (qK zs k))) (fun _ i=>min len K-(intOf i).toNat)
 case atStart=>exact⟨0,bK _,rfl,rfl⟩
 case round=>
  obtain⟨k,hk,rfl,rfl⟩:=hrel;have J:(str (qK zs k)).size<=60:=by rw[ia,Pg];omega
  by_cases I:k<len
  ·by_cases h2:k<K
   ·obtain⟨F,U⟩:=H.out k I;have C:=pU (zs k) (show 0<25 by decide);have Y:=ZG zs k;unfold Bj at Y;have D:=laid Y;clear Y;go_wp2_with fail
    refine(yJ (zs k) 25 _ U (by omega) (by omega)).mono ?_;rintro e w1 ⟨rfl,rfl⟩;generalize iO (zs k) 25=j at C D;by_cases R:j=24
    ·subst R;go_wp2
     go_round
     case rel=>go_light;exact⟨k+1,by omega,by go_num,od (by rw[D.out,<-CY];rfl)⟩
     case measure=>go_light;simp[intOf];omega
    ·have A:j%4<4:=cV _ (by decide);go_wp2
     go_round
     case rel=>go_light;exact⟨k+1,by omega,by go_num,od (by rw[D.out,if_neg R,<-CY,akF _ A])⟩
     case measure=>go_light;simp[intOf];omega
   ·go_wp2
    go_ret
    obtain rfl:k=min len K:=by omega
    exact⟨rfl,rfl⟩
  ·go_wp2
   go_ret
   obtain rfl:k=min len K:=by omega
   exact⟨rfl,rfl⟩
def T6(p t:ByteArray)(i:Nat)(r:Nat->Nat):Nat->Nat
 |0=>i+1
 |j+1=>min (min (r j+cost p t i j) (r (j+1)+1)) (T6 p t i r j+1)
def dS(p t:ByteArray):Nat->Nat->Nat
 |0=>fun j=>j
 |i+1=>T6 p t i (dS p t i)
theorem xC(p t:ByteArray):∀i j,dT p t i j=dS p t i j
 |0,j=>by rw[dT];rfl
 |i+1,0=>by rw[dT];rfl
 |i+1,j+1=>by
  rw[dT,xC p t i j,xC p t i (j+1),xC p t (i+1) j];rfl
def JN(p t:ByteArray):Nat:=dS p t p.size t.size
def xD(p t:ByteArray)(k e:Nat):Nat->Nat×Nat
 |0=>(k+1,0)
 |c+1=>if JN p (t.extract (e-c) e)<(xD p t k e c).1 then(JN p (t.extract (e-c) e),e-c)else xD p t k e c
def zq(p t:ByteArray)(k:Nat):Nat->List (Nat×Nat×Nat)
 |0=>[]
 |e+1=>if(xD p t k e (tries p k e)).1<=k then zq p t k e++[((xD p t k e (tries p k e)).2,e,(xD p t k e (tries p k e)).1)]else zq p t k e
def xQ(p t:ByteArray):Nat->Nat->Nat->List UInt8
 |0,_,_=>[]
 |f+1,i,j=>if i=0/\j=0 then []else if(decide (0<i)&&decide (0<j)&&decide (dS p t i j=dS p t (i-1) (j-1)+cost p t (i-1) (j-1)))=true then xQ p t f (i-1) (j-1)++[77]else if(decide (0<i)&&decide (dS p t i j=dS p t (i-1) j+1))=true then xQ p t f (i-1) j++[73]else xQ p t f i (j-1)++[68]
theorem ahl(p t:ByteArray):jd p t=JN p t:=xC p t _ _
theorem Ss(p t:ByteArray)(k e:Nat):∀c,nF p t k e c=xD p t k e c
 |0=>rfl
 |c+1=>by rw[nF,xD,Ss p t k e c,ahl]
theorem St(p t:ByteArray)(k:Nat):∀e,lQ p t k e=zq p t k e
 |0=>rfl
 |e+1=>by rw[lQ,zq,St p t k e,iy,Ss]
theorem Eo(p t:ByteArray):∀f i j,iR p t f i j=xQ p t f i j
 |0,_,_=>rfl
 |f+1,i,j=>by rw[iR,xQ,Eo p t f,Eo p t f,Eo p t f,pD,oz,xC,xC,xC]
section
variable(H:ByteArray->ByteArray->Nat->List (Nat×Nat×Nat))(Y:ByteArray->ByteArray->List UInt8)
def F2(A K rn p mk:ByteArray)(add:Nat)(more:Bool)(L:List (Nat×Nat×Nat)):Nat->List UInt8
 |0=>[]
 |i+1=>F2 A K rn p mk add more L i++zE A rn p mk (K.extract (L.getD i (0,0,0)).1 (L.getD i (0,0,0)).2.1) (str (Y p (K.extract (L.getD i (0,0,0)).1 (L.getD i (0,0,0)).2.1))) (qc add more i) (L.getD i (0,0,0)).1 (L.getD i (0,0,0)).2.2
def Ji(A K rn p mk:ByteArray)(add k:Nat)(more:Bool):List UInt8:=F2 Y A K rn p mk add more (H p K k) (H p K k).length
def JO(A K:ByteArray)(k:Nat)(r:mM):List UInt8:=
 let a:=Ji H Y A K r.1 r.2.1 r.2.2 0 k false
 let b:=Ji H Y A K r.1 (iP r.2.1 0) (str (ky r.2.2)) 16 k (decide (a≠ []))
 (if a=[]/\b=[]then xB r else a)++b
def EJ(A K:ByteArray)(k:Nat)(L:List mM):Nat->List UInt8
 |0=>rq A K
 |i+1=>EJ A K k L i++JO H Y A K k (L.getD i (⟨#[]⟩,⟨#[]⟩,⟨#[]⟩))
end
theorem T7(A K rn p mk:ByteArray)(add:Nat)(more:Bool)(L:List (Nat×Nat×Nat)):∀i,ql A K rn p mk add more L i=F2 iu A K rn p mk add more L i
 |0=>rfl
 |i+1=>by rw[ql,F2,T7 A K rn p mk add more L i];rfl
theorem afr(A K rn p mk:ByteArray)(add k:Nat)(more:Bool):se A K rn p mk add k more=Ji iL iu A K rn p mk add k more:=T7 ..
theorem ahm(A K:ByteArray)(k:Nat)(r:mM):pT A K k r=JO iL iu A K k r:=by
 simp only[pT,JO,rE,qd,afr]
theorem Tb(A K:ByteArray)(k:Nat)(L:List mM):∀i,nT A K k L i=EJ iL iu A K k L i
 |0=>rfl
 |i+1=>by rw[nT,EJ,Tb A K k L i,ahm]
theorem afs:iL=fun p t k=>zq p t k (t.size+1):=by funext p t k;exact St p t k _
theorem ahn:iu=fun p t=>xQ p t (p.size+t.size) p.size t.size:=by funext p t;exact Eo p t _ _ _
theorem Qr(ref reads:ByteArray)(k:Nat):oj ref reads k=EJ (fun p t k=>zq p t k (t.size+1)) (fun p t=>xQ p t (p.size+t.size) p.size t.size) (xd ref) (str (kY ref).2) k (ji reads 5 0) (ji reads 5 0).length:=by
 rw[oj,Tb,afs,ahn]
def vW:ByteArray:=⟨#[62,114,10,65,67,71,84,65,67,71,84,84,84,10]⟩
def F3:ByteArray:=⟨#[64,97,10,71,84,65,10,43,10,49,50,51,10]⟩
def EK:ByteArray:=⟨#[64,97,10,71,71,84,65,10,43,10,49,50,51,52,10]⟩
abbrev Ma:ByteArray:={data:=#[64,114,9,49,48,10,97,9,48,9,114,9,51,9,51,77,9,48,9,51,9,71,84,65,9,49,50,51,10,97,9,50,55,50,9,114,9,52,9,51,77,9,48,9,51,9,84,65,67,9,51,50,49,10]}
abbrev Mb:ByteArray:={data:=([64,114,9,49,48,10,97,9,48,9,114,9,51,9,49,73,51,77,9,49,9,51,9,71,71,84,65,9,49,50,51,52,10,97,9,50,55,50,9,114,9,52,9,50,77,49].append [73,49,77,9,49,9,51,9,84,65,67,67,9,52,51,50,49,10,97,9,50,55,50,9,114,9,52,9,52,77,9,49,9,51,71,48,9,84,65,67,67,9,52,51,50,49,10]).toArray}
theorem T8:nj vW F3 0 2 4 3=0:=by kernel_rfl
theorem T9:nj vW EK 1 1 3 2=0:=by kernel_rfl
theorem akG:qm vW F3 0 2 4 3=Ma:=by
 rw[qm,if_pos T8,Qr];kernel_rfl
theorem akH:qm vW EK 1 1 3 2=Mb:=by
 rw[qm,if_pos T9,Qr];kernel_rfl
end
section
open RowKit Maps
def iG(s:ByteArray)(q i:Nat):=(s.extract i (i+q)).data.toList
def lP(x:List UInt8):=!x.contains 78
def jk(s:ByteArray)(q:Nat)(x:List _)
 |0=>0
 |k+1=>jk s q x k+(if iG s q k=x/\lP x=true then 1 else 0)
theorem Ii(s:ByteArray)(q:Nat)(x:List _):∀k,jk s q x k<=k
 |0=>ar _
 |k+1=>by have:=Ii s q x k;simp[jk];split<;>omega
def mr(s:ByteArray)(q:Nat)(x:List _):=jk s q x (s.size+1-q)
theorem II(s:ByteArray)(q:Nat)(x:List _):mr s q x<=s.size+1:=by
 have:=Ii s q x (s.size+1-q);unfold mr;omega
theorem OA{k:Nat}(K:lP (iG s q k)=true):jk s q (iG s q k) (k+1)=jk s q (iG s q k) k+1:=by
 rw[jk,if_pos ⟨rfl,K⟩]
theorem GK{k:Nat}{x:List _}(hx:¬(iG s q k=x/\lP x=true)):jk s q x (k+1)=jk s q x k:=by
 simp[jk];simp_all
def rA(D:bg Unit)(f:List UInt8->Nat):Prop:=
 IsMap D/\(∀x,D.atKey (.string x) (.lit (.int .i64 0))=.lit (.int .i64 (f x:Int)))/\∀x,has D (.string x)=true↔0<f x
theorem XC(s:ByteArray)(q:Nat):rA (.map []) (fun x=>jk s q x 0):=⟨isMap_empty,fun x=>rfl,fun x=>by rw[has_eq];simp[jk]⟩
theorem Yo{D:bg _}{k:Nat}(h:rA D (fun x=>jk s q x k))(K:lP (iG s q k)=false):rA D (fun x=>jk s q x (k+1)):=by
 have e:(fun x=>jk s q x (k+1))=fun x=>jk s q x k:=by
  funext x;exact GK (by rintro⟨rfl,h⟩;simp_all)
 simp_all
theorem ZH{D:bg _}{k:Nat}{c:Int}(h:rA D (fun x=>jk s q x k))(A:lP (iG s q k)=true)
  (B:D.atKey (.string (iG s q k)) (.lit (.int .i64 0))=.lit (.int .i64 c)):rA (D.put (.string (iG s q k)) (.lit (.int .i64 (c+1)))) (fun x=>jk s q x (k+1)):=by
 have I:=h.2.1 (iG s q k);rw[B]at I;have K:=by simpa using I
 have Y:alQ (.string (iG s q k)):=by first|trivial
 refine⟨h.1.put _ _,fun x=>?_,fun x=>?_⟩
 ·by_cases hx:x=iG s q k
  ·subst hx;rw[atKey_put_same h.1 Y];show _=DataW.lit (.int .i64 ((jk s q _ _)))
   rw[OA A,K];simp
  ·rw[atKey_put_other (by simp_all),h.2.1 x];show _=DataW.lit (.int .i64 ((jk s q x _)))
   rw[GK (by rintro⟨e,_⟩;simp_all)]
 ·by_cases hx:x=iG s q k
  ·subst hx;rw[has_put_same h.1 Y];show _↔0<jk s q _ (k+1)
   rw[OA A];simp
  ·rw[has_put_other (by simp_all),h.2.2 x];show _↔0<jk s q x (k+1)
   rw[GK (by rintro⟨e,_⟩;simp_all)]
theorem Ij{D:bg _}{f:List _->Nat}{x:List _}{c:Int}(h:rA D f)(K:D.atKey (.string x) (.lit (.int .i64 0))=.lit (.int .i64 c)):c=(f x):=by
 have I:=h.2.1 x;simp_all
theorem aho(l:List _):bF l 78<0↔lP l=true:=by
 unfold lP;induction l with
 |nil=>simp[bF]
 |cons a l K=>
  simp only[bF];by_cases Y:a=78
  ·simp_all
  ·have I:¬(a==78)=true:=by simp_all
   have h2:(List.contains (a::l) 78)=l.contains 78:=by
    rw[List.contains_cons];have:(78==a)=false:=by simpa using fun e=>Y e.symm
    simp_all
   rw[h2,if_neg I,<-K];by_cases H:bF l 78= -1
   ·simp_all
   ·rw[if_neg (by simp_all)];omega
theorem Bt:Keyed af 9:=string_keyed aW
theorem Tc(w:ae):(cE 3).run af w=.ok (.int .i64 0) w:=by simp
abbrev tY(w:ae)(b n:Nat)(D:bg Unit):=w.ownsMap af 9 (plainElem af 3) b n D
theorem WO(s:ByteArray)(w:ae):
  ao af 99 #[.string s,.int .u8 78] w fun e w'=>e=.returned (.int .i64 (bF s.data.toList 78))/\w'=w:=Tryz.strings_IndexByte s 78 w
theorem M_(s:ByteArray)(q:Nat)(w:ae)(hs:s.size<=1000)(hq:1<=q)(h:q<=1000):
  ao af 76 #[.string s,.int .i64 (q:Int)] w fun e w'=>e=.returned (.map (some w.heap.size))/\(∃(n:Nat) (D:bg Unit),n<=1001/\tY w' w.heap.size n D/\rA D (mr s q))/\ai w.heap.size w w':=by
 have z:=@run_makeMap af
 go_enter Tryz.func76,Tryz.ntmps76
 go_wp2
 go_loopw [6] (fun ev wr=>∃(k:Nat) (D:bg Unit),k<=s.size+1-q/\ev=.int .i64 ((q:Int)+(k:Int))/\tY wr w.heap.size k D/\Hid (rA D (fun x=>jk s q x k))/\ai w.heap.size w wr) (fun ev _=>s.size+1-(intOf ev).toNat)
 case atStart=>exact⟨0,.map [],bK _,by simp,World.ownsMap_made _ _ _ _,laid (XC s q),(aI _ _).alloc (ar _) _⟩
 case round=>
  obtain⟨k,D,hk,rfl,K,J,Y⟩:=hrel;by_cases W:q+k<=s.size
  ·have d:cf.wrap ((q:Int)+(k:Int)-(q:Int))=(k:Int):=by rw[show(q:Int)+(k:Int)-(q:Int)=(k:Int) by omega];exact dz _ (by omega)
   have hX:(s.extract k (q+k)).data.toList=iG s q k:=by unfold iG;rw[Nat.add_comm q k]
   have O:(s.extract k (q+k)).size<=maxLen:=by rw[cI];unfold aT;omega
   have S:=laid hX;clear hX;have L:=laid (aho (iG s q k));have E:=Ii s q (iG s q k) k;go_wp2_with fail
   refine(WO _ _).mono ?_;rintro e w' ⟨rfl,rfl⟩;rw[S.out];generalize bF (iG s q k) 78=ix at *;by_cases C:ix<0
   ·have H:=L.out.1 C;have N:=laid H;have U:keyOf af 9 (.string (s.extract k (q+k)))=some (.string (iG s q k)):=by rw[<-S.out];exact WideMaps.keyOf_string_mk aW O
    have Q:=laid U;clear H U L;generalize s.extract k (q+k)=X at *;go_wp2_with(first
     |(at_lookup;refine alZ _ rfl _ _ 113 rfl 9 3 .i64 Bt c7 aO (Tc _) w.heap.size k D rfl K _ _ rfl Q.out ?_;intro c B f)
     |(at_mapUpdate;refine wpList_mapUpdate_own _ rfl _ _ _ 113 rfl 9 3 Bt c7 _ w.heap.size k D rfl K (by unfold aT;omega) _ _ _ rfl rfl Q.out _ [] (ey aO (wrap64_wf _)) ?_;intro w1 R A)
     |go_in)
    have Z:=Ij J.out B;have V:wrap64 (c+1)=c+1:=eY (c+1) (by omega);rw[V]at R;have I:=ZH J.out N.out B;have P:ai w.heap.size w w1:=Y.grown A Y.size (fun j G=>by cases G;exact ar _)
    go_roundw
    case rel=>go_light;exact⟨k+1,_,by omega,jb (by omega),R,laid I,P⟩
    case measure=>go_light;simp[intOf];omega
   ·have H:lP (iG s q k)=false:=by
     rw[<-bk,<-L.out];exact C
    have I:=Yo J.out H;have M:=laid I;clear H I L;generalize s.extract k (q+k)=X at *;go_wp2
    go_roundw
    case rel=>go_light;exact⟨k+1,D,by omega,jb (by omega),K.mono (by omega),M,Y⟩
    case measure=>go_light;simp[intOf];omega
  ·have F:k=s.size+1-q:=by omega
   have T:Hid (rA D (mr s q)):=laid (by have:=J.out;unfold mr;rw[<-F];exact this);clear F;go_wp2
   go_ret
   exact⟨rfl,⟨k,D,by omega,K,T.out⟩,Y⟩
theorem AJ{a b:ByteArray}:a.data.toList=b.data.toList↔a=b:=⟨fun h=>ByteArray.ext (Array.ext' h),fun h=>by rw[h]⟩
theorem Du(r s:ByteArray)(K:lP r.data.toList=true):∀k,xt r s k=jk s r.size r.data.toList k
 |0=>rfl
 |k+1=>by
  simp[xt,jk];rw[Du r s K k];by_cases h:s.extract k (k+r.size)=r
  ·rw[if_pos ((Dk _ _).2 h),if_pos ⟨by unfold iG;rw[h],K⟩]
  ·rw[if_neg (by rw[Dk];exact h),if_neg (by rintro⟨e,_⟩;exact h (AJ.1 e))]
theorem Pj(r s:ByteArray):∀k,0<xt r s k↔∃j,j<k/\s.extract j (j+r.size)=r
 |0=>by simp[xt]
 |k+1=>by
  simp[xt];have K:=Pj r s k;by_cases h:s.extract k (k+r.size)=r
  ·rw[if_pos ((Dk _ _).2 h)];exact⟨fun _=>⟨k,by omega,h⟩,fun _=>by omega⟩
  ·rw[if_neg (by rw[Dk];exact h),Nat.add_zero,K];constructor
   ·rintro⟨j,Y,e⟩;exact⟨j,by omega,e⟩
   ·rintro⟨j,Y,e⟩;rcases dK j k with I|I
    ·exact⟨j,I,e⟩
    ·obtain rfl:j=k:=by omega
     simp_all
theorem T_(r:ByteArray):0<pn ⟨#[78]⟩ r↔lP r.data.toList=false:=by
 have K:(⟨#[78]⟩:ByteArray).size=1:=rfl;unfold pn;rw[Pj,K,fy];have key:∀j,j<r.size->(r.extract j (j+1)=⟨#[78]⟩↔r.data.toList[j]?=some 78):=by
  intro j Y;rw[<-AJ];have I:(r.extract j (j+1)).data.toList=(r.data.toList.drop j).take 1:=by simp
  have H:=by simpa using Y
  rw[I,dB H,aU H];simp
 unfold lP;constructor
 ·rintro⟨j,Y,e⟩;have:=(key j Y).1 e;simp only[eN,fb];exact ck this
 ·intro h;simp only[eN,fb]at h;obtain⟨j,Y,e⟩:=List.getElem_of_mem h;exact⟨j,by simpa using Y,(key j (by simpa using Y)).2 (by rw[aU Y,e])⟩
theorem Wp(p:ByteArray)(n j q:Nat)(h:j+q<=n):(p.extract 0 n).extract j (j+q)=p.extract j (j+q):=by
 rw[<-AJ];simp_all
theorem Rp(p:ByteArray)(q n:Nat)(x:List _):∀k,k+q<=n+1->jk (p.extract 0 n) q x k=jk p q x k
 |0,_=>rfl
 |k+1,h=>by
  simp[jk];rw[Rp p q n x k (by omega)];unfold iG;rw[Wp p n k q (by omega)]
theorem adt(p:ByteArray)(q k:Nat)(h:k+q<=p.size):(p.extract k (k+q)).size=q:=by simp_all
def om(P S:ByteArray)(q:Nat)(x:List _):=min (mr P q x) (mr S q x)
theorem aft(P S:ByteArray)(q k:Nat)(B:1<=q)(h:k+q<=P.size):
  JU P S q k=if jk P q (iG P q k) k=0/\lP (iG P q k)=true then om P S q (iG P q k)else 0:=by
 have Y:=adt P q k h;unfold JU;by_cases K:lP (iG P q k)=true
 ·have A:¬0<pn ⟨#[78]⟩ (P.extract k (k+q)):=by rw[T_];show¬lP (iG P q k)=false;simp_all
  have D:pn (P.extract k (k+q)) (P.extract 0 (k+q-1))=jk P q (iG P q k) k:=by
   unfold pn;rw[Du _ _ K,Y,cI,show min _ P.size-0+1-q=k by omega];exact Rp P q _ _ k (by omega)
  have R:pn (P.extract k (k+q)) P=mr P q (iG P q k):=by
   unfold pn;rw[Du _ _ K,Y];rfl
  have I:pn (P.extract k (k+q)) S=mr S q (iG P q k):=by
   unfold pn;rw[Du _ _ K,Y];rfl
  rw[D,R,I];by_cases H:jk P q (iG P q k) k=0
  ·rw[if_neg (by omega),if_pos ⟨H,K⟩];rfl
  ·simp_all
 ·have A:0<pn ⟨#[78]⟩ (P.extract k (k+q)):=by rw[T_];show lP (iG P q k)=false;simpa using K
  simp_all
def tQ(P:ByteArray)(q:Nat)
 |0=>[]
 |k+1=>if jk P q (iG P q k) k=0/\lP (iG P q k)=true then tQ P q k++[iG P q k]else tQ P q k
theorem CG(P:ByteArray)(q:Nat)(x:List _):∀k,x∈tQ P q k↔0<jk P q x k
 |0=>by simp[tQ,jk]
 |k+1=>by
  have Y:=CG P q x k;simp[tQ,jk];by_cases h:jk P q (iG P q k) k=0/\lP (iG P q k)=true
  ·rw[if_pos h,dE,cS,Y];by_cases hx:iG P q k=x
   ·simp_all
   ·rw[if_neg (fun e=>hx e.1)];exact⟨fun e=>e.elim (fun e=>by omega) (fun e=>absurd e.symm hx),fun e=>.inl (by omega)⟩
  ·rw[if_neg h,Y];by_cases hx:iG P q k=x/\lP x=true
   ·have K:¬jk P q x k=0:=fun e=>h (by simp_all);omega
   ·rw[if_neg hx];omega
theorem Cn(P:ByteArray)(q:Nat):∀k,(tQ P q k).Nodup
 |0=>ff
 |k+1=>by
  simp[tQ];split
  ·refine List.nodup_append.2 ⟨Cn P q k,by simp,?_⟩;intro a Y b hb e;rw[cS]at hb;subst hb;subst e;have:=(CG P q _ k).1 Y;omega
  ·exact Cn P q k
def jZ(f:List UInt8->Nat)(l:List _):=(l.map f).sum
theorem Pk(f:List _->Nat)(l:List _)(x:List _):jZ f (l++[x])=jZ f l+f x:=by simp[jZ]
theorem abu(f:List _->Nat){l l':List _}(h:l.Perm l'):jZ f l=jZ f l':=(h.map f).sum_nat
theorem Qs(P S:ByteArray)(q:Nat)(K:1<=q):∀k,k+q<=P.size+1->D6 P S q k=jZ (om P S q) (tQ P q k)
 |0,_=>rfl
 |k+1,h=>by
  simp[D6,tQ];rw[Qs P S q K k (by omega),aft P S q k K (by omega)];split
  ·rw[Pk]
  ·simp
theorem OC(P S:ByteArray)(q:Nat)(C:1<=q)(K:List _)(A:K.Nodup)(B:∀x,x∈K↔0<mr P q x):jZ (om P S q) K=sy P S q:=by
 unfold sy;by_cases h:q<=P.size+1
 ·rw[Qs P S q C _ (by omega)];exact abu _ ((List.perm_ext_iff_of_nodup A (Cn P q _)).2 fun x=>(B x).trans (CG P q x _).symm)
 ·have e:P.size+1-q=0:=by omega
  rw[e];have:K=[]:=by
   cases K with
   |nil=>rfl
   |cons a l=>
    have:=(B a).1 (by simp);unfold mr at this;rw[e]at this;simp[jk]at this
  rw[this];rfl
theorem Rq(P S:ByteArray)(q:Nat):∀l,jZ (om P S q) l<=l.length *(S.size+1)
 |[]=>by simp[jZ]
 |x::l=>by
  have Y:=Rq P S q l;have I:om P S q x<=S.size+1:=bI (Nat.min_le_right _ _) (II S q x);have e:jZ (om P S q) (x::l)=om P S q x+jZ (om P S q) l:=by simp[jZ]
  rw[e,cj,Nat.succ_mul];omega
end
section
open RowKit Maps
open Proofs (encStr)
theorem ZJ{b:Nat}{D:bg _}(h:tY w b n D):Maps.size D<=n:=by
 obtain⟨es,clock,_,_,Y,rfl⟩:=h;rw[size_eq,alT,cQ,du];exact Y
theorem ZK(P S:ByteArray)(q b1 n1 b2 n2:Nat)(M N:bg Unit)(w:ae)(hq:1<=q)(hs:S.size<=1000)(Mc:n1<=1001)
  (A:tY w b1 n1 M)(B:tY w b2 n2 N)(V:rA M (mr P q))(C:rA N (mr S q)):
  ao af 78 #[.map (some b1),.map (some b2)] w fun e w'=>e=.returned (.int .i64 (sy P S q:Int))/\ai w.heap.size w w':=by
 have L:=laid V;have l:=laid C;clear V C;have L9:=B.lt;have zP:=ZJ A
 go_enter Tryz.func78,Tryz.ntmps78
 go_wp2_with(first
  |(at_range;refine wpList_range_own _ rfl _ 113 rfl 9 3 Bt c7 _ b1 n1 _ rfl A ?_;intro w0 W X b)
  |go_in)
 clear b
 go_frame
 go_loopw [5] (fun sv wr=>∃(left:Lit->Bool) (cnt:Nat) (Y:List (List UInt8)),wr.ranges af 9 (plainElem af 3) b1 w.heap.size n1 M left cnt/\tY wr b2 n2 N/\Hid (Collected M left Y)/\Y.length+cnt<=Maps.size M/\sv=.int .i64 (jZ (om P S q) Y:Int)/\ai w.heap.size w wr)
  (fun _ wr=>wr.rangeLeft b1 w.heap.size)
 case atStart=>exact⟨_,_,[],W,B.kept X (by simp),laid (Collected.start M),by simp,rfl,(aI _ _).grown X (ar _) (fun j r=>by cases r)⟩
 case round=>
  obtain⟨left,cnt,Y,G,m,g,LS,rfl,K⟩:=hrel;have Tw:jZ (om P S q) Y<=1002001:=by
   have I:=Rq P S q Y;have h2:Y.length *(S.size+1)<=1001 *1001:=ale (by omega) (by omega);omega
  go_wp2_with(first
   |(at_next;refine wpList_next_ranges _ rfl _ rfl 9 Bt (plainElem af 3) encStr (eo .i64) (fun key kl hk=>by obtain⟨x,hx,_⟩:=ft aW hk;exact⟨x,hx⟩) (fun v y f=>by obtain⟨c,rfl,_⟩:=ez aO f;exact⟨c,rfl⟩) b1 w.heap.size n1 _ _ _ rfl G ?_ ?_)
   |go_in)
  ·intro UX s;have D:jZ (om P S q) Y=sy P S q:=OC P S q hq Y g.out.1 fun x=>by
    rw[g.out.2 x,s,L.out.2.2 x];simp
   have O:=laid D;clear D;go_wp2
   go_ret
   exact⟨yM (by rw[O.out]),K⟩
  ·intro x c kl yd yp w2 Q H E f F U u Z t hen;obtain⟨x',ex,rfl,_⟩:=ft aW H;obtain rfl:x=x':=encStr_inj ex;obtain⟨c',a,k,_⟩:=ez aO f;obtain rfl:c=c':=by simpa using a
   have d:yd=.lit (.int .i64 c):=congrArg Prod.fst k;have Uu:c=(mr P q x:Int):=Ij L.out (by rw[F];exact d);have o:=laid (g.out.step E F);clear t f a k F d ex;have R:tY w2 b2 n2 N:=m.kept Z (by intro e;cases e;omega);have p:ai w.heap.size w w2:=K.grown Z K.size (fun j r=>by cases r;exact ar _);have i:=II P q x;have h:=II S q x;have HK:=laid H;have n:=laid U.left_eq;have z:=laid G.left_eq;clear H E;go_wp2_with(first
    |(at_lookup;refine alZ _ rfl _ _ 113 rfl 9 3 .i64 Bt c7 aO (Tc _) b2 n2 N rfl R _ _ rfl HK.out ?_;intro c2 T apr)
    |go_in)
   have C:=Ij l.out T;have J:wrap64 ((jZ (om P S q) Y:Int)+min (mr P q x:Int) c2)=(jZ (om P S q) (Y++[x]):Int):=by
    rw[Pk,C];have e:min (mr P q x:Int) (mr S q x:Int)=((om P S q x:Nat):Int):=by unfold om;omega
    rw[e,eY _ (by omega)];omega
   go_roundw
   case rel=>go_light;exact⟨_,Q,Y++[x],U,R,o,by rw[aK];simp;omega,jb J,p⟩
   case measure=>go_light;rw[n.out,z.out];exact u
end
section
open RowKit
def nJ(k q st:Int):Bool:=decide (0<=k/\k<=6/\1<=q/\q<=8/\1<=st/\st<=200)
theorem Hz(k m q st:Int):pZ k m q st=(nJ k q st&&decide (k<m)):=by
 unfold pZ nJ;rw[Bool.eq_iff_iff];simp;omega
theorem HA(k q st:Int)(w:ae):
  ao af 45 #[.agg #[.int .i64 k,.int .i64 q,.int .i64 st]] w fun e w'=>e=.returned (.bool (nJ k q st))/\ai w.heap.size w w':=by
 have hb:∀o,ai w.heap.size w (w.alloc o):=fun o=>(aI _ _).alloc (ar _) o;by_cases I:0<=k
 case neg=>
  go_enter bL,bN
  go_wp2
  go_ret
  exact⟨pa (by unfold nJ;rw[decide_eq_false (by omega)]),hb _⟩
 by_cases h2:k<=6
 case neg=>
  go_enter bL,bN
  go_wp2
  go_ret
  exact⟨pa (by unfold nJ;rw[decide_eq_false (by omega)]),hb _⟩
 by_cases Y:1<=q
 case neg=>
  go_enter bL,bN
  go_wp2
  go_ret
  exact⟨pa (by unfold nJ;rw[decide_eq_false (by omega)]),hb _⟩
 by_cases K:q<=8
 case neg=>
  go_enter bL,bN
  go_wp2
  go_ret
  exact⟨pa (by unfold nJ;rw[decide_eq_false (by omega)]),hb _⟩
 by_cases H:1<=st
 case neg=>
  go_enter bL,bN
  go_wp2
  go_ret
  exact⟨pa (by unfold nJ;rw[decide_eq_false (by omega)]),hb _⟩
 by_cases D:st<=200
 case neg=>
  go_enter bL,bN
  go_wp2
  go_ret
  exact⟨pa (by unfold nJ;rw[decide_eq_false (by omega)]),hb _⟩
 go_enter bL,bN
 go_wp2
 go_ret
 exact⟨pa (by unfold nJ;rw[decide_eq_true (by omega)]),hb _⟩
theorem Gz(k q st:Int)(S:ByteArray)(w:ae)(K:S.size<=1000):
  ao af 46 #[.agg #[.int .i64 k,.int .i64 q,.int .i64 st],.string S] w fun e w'=>e=.returned (.bool (decide (k<(S.size:Int))))/\ai w.heap.size w w':=by
 go_wp2
 go_ret
 exact⟨rfl,(aI _ _).alloc (ar _) _⟩
theorem ahp(len k q m:Nat)(K:(k:Int) *(q:Int)=(m:Int)):ma len k q=(len:Int)-(q:Int)+1-(m:Int):=by
 unfold ma;have:k *q=m:=by omega
 rw[this]
theorem ZM(k q st len:Nat)(w:ae)(hk:k<=6)(A:q<=8)(B:len<=1000):
  ao af 75 #[.agg #[.int .i64 (k:Int),.int .i64 (q:Int),.int .i64 (st:Int)],.int .i64 (len:Int)] w fun e w'=>e=.returned (.int .i64 (ma len k q))/\ai w.heap.size w w':=by
 obtain⟨m,Y,K⟩:∃m:Nat,(k:Int) *(q:Int)=(m:Int)/\m<=48:=⟨k *q,by simp,by have:=ale hk A;omega⟩;rw[ahp len k q m Y];go_wp2
 go_ret
 exact⟨rfl,(aI _ _).alloc (ar _) _⟩
theorem Yp(X:ByteArray)(k q st len b:Nat)(w:ae)(hX:X.size<=1000)(hk:k<=6)(C:st<=200)(B:len<=1000)(hb:b *st<=X.size)(A:b<=100000):
  ao af 77 #[.agg #[.int .i64 (k:Int),.int .i64 (q:Int),.int .i64 (st:Int)],.string X,.int .i64 (len:Int),.int .i64 (b:Int)] w fun e w'=>e=.returned (.string (X.extract (b *st) (py len X.size k st b)))/\ai w.heap.size w w':=by
 have Y:py len X.size k st b=min (b *st+st+len+k) X.size:=rfl;rw[Y];obtain⟨m,K,D⟩:∃m:Nat,b *st=m/\(b:Int) *(st:Int)=(m:Int):=⟨b *st,rfl,by simp⟩;rw[K]at hb⊢;clear K Y;have H:min ((m:Int)+(st:Int)+(len:Int)+(k:Int)) (X.size:Int)=((min (m+st+len+k) X.size:Nat):Int):=by omega
 go_wp2
 go_ret
 exact⟨rfl,(aI _ _).alloc (ar _) _⟩
theorem Qt(L:List _)(i:Nat)(r:ByteArray×ByteArray×ByteArray)(h:L[i]?=some r):(lU L)[i *3]?=some (.string r.1)/\(lU L)[i *3+1]?=some (.string r.2.1)/\(lU L)[i *3+2]?=some (.string r.2.2):=by
 induction L generalizing i with
 |nil=>simp at h
 |cons a L Y=>
  cases i with
  |zero=>simp at h;subst h;exact⟨rfl,rfl,rfl⟩
  |succ i=>
   have:=Y i (by simp_all);rw[show(i+1) *3=i *3+1+1+1 by omega];exact this
def F4(w:ae)(b:Nat)(k q st:Int):=w.heap[b]?=some (.cells #[.int .i64 k,.int .i64 q,.int .i64 st] 75 (0,0))
def o_(k:Int)(L:List (ByteArray×ByteArray×ByteArray)):Bool:=L.all fun r=>decide (k<(r.2.1.size:Int))
theorem Wz(k q st:Int)(L:List (ByteArray×ByteArray×ByteArray))(v:ah)(B:Nat)(w:ae)(A:w.ownsRow B 131 3 v L.length (lU L))(hl:L.length<=1000)(hs:∀r∈L,r.2.1.size<=1000):
  ao af 59 #[.agg #[.int .i64 k,.int .i64 q,.int .i64 st],v] w fun e w'=>e=.returned (.bool (o_ k L))/\ai w.heap.size w w':=by
 obtain⟨p,c,n,U⟩:∃(p:Option Addr) (c:Nat),v=.slice p L.length c/\Hid (∀i (r:ByteArray×ByteArray×ByteArray),L[i]?=some r->∃g,p=some ⟨g,0,none⟩/\g<w.heap.size/\w.cell? ⟨g,i *3,none⟩=some (.string r.1)/\w.cell? ⟨g,i *3+1,none⟩=some (.string r.2.1)/\w.cell? ⟨g,i *3+2,none⟩=some (.string r.2.2)):=by
  rcases A.2 with⟨rfl,O⟩|⟨g,cap,l,rfl,a,J,o,s,u,x⟩
  ·refine⟨none,0,by rw[O],laid fun i r hr=>?_⟩;have:L=[]:=List.length_eq_zero_iff.1 O;subst this;simp at hr
  ·refine⟨some ⟨g,0,none⟩,cap,rfl,laid fun i r hr=>⟨g,rfl,(bu.1 J).1,?_⟩⟩;have h:=Qt L i r hr;have f:=A.cells (g:=g) rfl;have f0:=f _ _ h.1;have f1:=f _ _ h.2.1;have f2:=f _ _ h.2.2;rw[yG]at f0 f1 f2;exact⟨f0,f1,f2⟩
 subst n;have z:=laid hs;have T:=laid (fun(S:ByteArray) (W:ae) (h:S.size<=1000)=>Gz k q st S W h);clear A hs
 go_enter Tryz.func59,Tryz.ntmps59
 go_wp2
 have O:Hid (F4 (w.alloc (.cells #[.int .i64 k,.int .i64 q,.int .i64 st] 75)) w.heap.size k q st):=laid (aP w _)
 go_loopw [9] (fun iv wr=>∃i:Nat,iv=.int .i64 (i:Int)/\i<=L.length/\Hid (o_ k (L.take i)=true)/\F4 wr w.heap.size k q st/\ai w.heap.size w wr) (fun iv _=>L.length-(intOf iv).toNat)
 case atStart=>exact⟨0,rfl,bK _,laid rfl,O.out,(aI _ _).alloc (ar _) _⟩
 case round=>
  obtain⟨i,rfl,m,M,C,Y⟩:=hrel;clear O;by_cases Z:i<L.length
  ·obtain⟨r,hr⟩:∃r,L[i]?=some r:=⟨L[i],aU Z⟩;obtain⟨g,rfl,J,E,G,j⟩:=U.out i r hr;have Q:=z.out r (ck hr);have I:Hid (L.take (i+1)=L.take i++[r]):=laid (by rw[dH,hr];rfl);have K:=laid (ck hr);obtain⟨b,rb,t⟩:=r;simp only at E G j Q;have c0:wr.cell? ⟨g,i *3,none⟩=some (.string b):=by rw[Y.cell (p:=⟨g,i *3,none⟩) J];exact E
   have c1:wr.cell? ⟨g,i *3+1,none⟩=some (.string rb):=by rw[Y.cell (p:=⟨g,i *3+1,none⟩) J];exact G
   have c2:wr.cell? ⟨g,i *3+2,none⟩=some (.string t):=by rw[Y.cell (p:=⟨g,i *3+2,none⟩) J];exact j
   have y:g<wr.heap.size:=aJ J Y.size;have X:w.heap.size<wr.heap.size:=(bu.1 C).1;have z0:wr.cell? ⟨w.heap.size,0,none⟩=some (.int .i64 k):=by rw[au wr _ 0 _ _ _ C];rfl
   have z1:wr.cell? ⟨w.heap.size,1,none⟩=some (.int .i64 q):=by rw[au wr _ 1 _ _ _ C];rfl
   have z2:wr.cell? ⟨w.heap.size,2,none⟩=some (.int .i64 st):=by rw[au wr _ 2 _ _ _ C];rfl
   have b1:(i:Int)<(L.length:Int):=by omega
   have b2:(0:Int)<=(i:Int):=by omega
   have x1:cf.wrap ((i:Int)+1)=(i:Int)+1:=dz _ (by omega);have d:=laid C;clear hr E G j C;go_wp2_with fail
   refine(T.out rb _ Q).mono ?_;rintro e w2 ⟨rfl,P⟩;have H:ai wr.heap.size wr w2:=((aI _ _).alloc (ar _) _).trans (P.mono (by simp));have F:F4 w2 w.heap.size k q st:=by unfold F4;rw[H.block _ X];exact d.out
   have D:ai w.heap.size w w2:=Y.trans (H.mono Y.size);clear P H;by_cases R:k<(rb.size:Int)
   ·have N:Hid (o_ k (L.take (i+1))=true):=laid (by
     rw[I.out];unfold o_;rw[List.all_append];have:=M.out;unfold o_ at this;rw[this];simp[R])
    have V:=laid F;rw[decide_eq_true R];clear F I K M;go_wp2
    go_roundw
    case rel=>go_light;exact⟨i+1,by go_num,by omega,N,V.out,D⟩
    case measure=>go_light;simp[intOf];omega
   ·have N:Hid (o_ k L=false):=laid (by
     unfold o_;rw[List.all_eq_false];exact⟨_,K.out,by simpa using R⟩)
    rw[decide_eq_false R];clear F I K M R;go_wp2
    go_ret
    exact⟨pa N.out.symm,D⟩
  ·have N:Hid (o_ k L=true):=laid (by
    have:=M.out;rw[List.take_of_length_le (by omega)]at this;exact this)
   clear M C;go_wp2
   go_ret
   exact⟨pa N.out.symm,Y⟩
end
end Go.Proofs.YtdcjnhipenbcfaaGreatDoor
