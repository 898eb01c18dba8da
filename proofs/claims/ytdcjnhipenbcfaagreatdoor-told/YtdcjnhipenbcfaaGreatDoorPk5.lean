/-
  Own text. Part 5 of what the claim rests on.
-/
import Derived.Test.YtdcjnhipenbcfaaGreatDoorPk4
import Derived.Lib.AppendIntMem
import Derived.Deep.AppendLies
import Derived.Deep.RegionLaw
import Derived.Deep.RegionHeld3
import Derived.Laws.StructEq
import Derived.Conc.HoldsTime
import Derived.StillGives
import Derived.LaidLaws
import Derived.SevenTiedAt
import Derived.Maps.Range
import Derived.Conc.CompanyDraw
set_option linter.unusedVariables false
set_option linter.unusedSectionVars false
set_option linter.unusedSimpArgs false
set_option maxRecDepth 100000
set_option maxHeartbeats 16000000
open Array renaming getElem?_eq_getElem->aW,getElem?_eq_some_iff->aX,getElem?_toList->bF,getElem?_eq_none->cg,replicate->cj,toList_extract->ck,all_eq_true->dz
open Bool renaming toNat_le->bG,not_eq_true->cm,and_eq_true->cL,or_true->cM,true_or->dA
open ByteArray renaming size_extract->bk,data_extract->cn
open Classical renaming byContradiction->cO
open Go renaming World->ae,Value->ah,Calls->ak,cell_of_row->ar,Frame->au,undef->ay,maxLen->aB,bodyPost->aT,execOp->aU,wpList_append_own->aV,FuncId->a_,info_parts->bg,heap_alloc_old->bD,stepG->bE,Program->bJ,bodyPost_ret->bL,TypeId->bY,intKeys->bZ,typeInfo->b_,wpOps->cf,results_tmp->cJ,sizeOf->cK,Operand->dc,asIntOf->dq,block_lt_of_cell->dt,plainElem->du,run_store->dx,run_underlying->dy,callsIn_wide->ez,heap_alloc2_new->eA,linearise_go_acc->eB,results_cell_row->eC
open Go.Act renaming eval->aJ
open Go.ByteArray renaming toList_eq->dB
open Go.Claim7 renaming isSixth->dC
open Go.Exit renaming normal->cP
open Go.Frame renaming eval_at'->bO,eval_at->cQ
open Go.Instr renaming loadAt->bm,indexAt->cu,typeAssert->cR,lookup->dD
open Go.IntKind renaming i64->aI
open Go.IntWalk renaming i64_in->aL
open Go.Lib renaming join->aY,byteCells->bh,BuilderAt->bP,IsBuilder->bQ,cell_of_heap->cv,decDigits->cS,frozen_of_heap->dH,strCells->dI
open Go.Lib.BuilderAt renaming put->dG
open Go.Proofs.Tryz renaming prog->ai,f92->aH,f111->br,underlying79->bB,underlying65->bK,func147->bV,func92->bW,ntmps147->bX,func111->dh,func26->di,ntmps26->dj,ntmps93->eo,underlying131->ep,underlying133->et,underlying25->eu,underlying9->ew
open Go.Proofs.YtdcjnhipenbcfaaGreatDoor.Ph.gn renaming gu->aM,alloc->bt,pure->bM,xr->bN
open Go.Proofs.YtdcjnhipenbcfaaGreatDoor.Ren.gn renaming tree->bC
open Go.Region renaming ready->aD,schedule->de,wanted->ek
open Go.Region.linearise renaming go->aQ
open Go.RowKit renaming Below->af
open Go.RowKit.Below renaming refl->az
open Go.Value renaming int->cH
open Go.World renaming cell?->aO,drewN_drewN->cI,frozen?->dk,news_of_block->dp,ownsRow_nil->ey
open Int renaming natCast_nonneg->dE
open List renaming length_append->ao,getD_eq_getElem?_getD->ax,getElem?_eq_getElem->aA,map_append->aN,mem_append->bc,mem_map->bj,getElem?_map->bp,getElem?_take_of_lt->bu,range->bA,length_singleton->bH,append_assoc->bR,length_pos_iff->bS,mem_singleton->bT,pairwise_map->bU,all_eq_true->cw,append_nil->cx,getElem?_eq_none->cy,getElem?_take->cz,getElem_mem->cA,length_cons->cB,reverse_append->cC,take_of_length_le->cD,getElem?_drop->cT,length_map->cU,length_nil->cV,map_map->cW,range_succ->cX,countP_append->dJ,drop_take->dK,ext_getElem?->dL,extract_eq_take_drop->dM,getElem?_append_left->dO,getElem?_append_right->dP,getElem?_reverse->dQ,mem_flatMap->dR,mem_of_getElem?->dU,mem_range->dV,nil_append->dW,pairwise_append->dX,reverse_singleton->dY,singleton_append->dZ,take_length->d_
open Nat renaming le_refl->aj,le_trans->aK,zero_le->aP,lt_of_lt_of_le->aZ,lt_or_ge->bq,zero_add->bI,add_assoc->cE,le_total->cG,div_mul_le_self->cY,min_eq_left->cZ,min_eq_right->c9,mod_lt->c_,mul_add->da,mul_comm->db,div_add_mod->ec,div_le_self->ed,le_antisymm->ef,mul_le_mul->eg
open Option renaming getD_some->ei,isNone_iff_eq_none->ej
namespace Go.Proofs.YtdcjnhipenbcfaaGreatDoor
noncomputable section
variable {listed:Array Bool}{a':Array ah}{fl:Bool}{X XN p rm rn s:ByteArray}{f1:au}{cs l:List au}{gB:List Nat}{Tn:List UInt8}{xs:List ah}{Z Z' Z1:Loc->Prop}{By Fd Fp Mp Rf Sg b' b4 b5 b6 cap d j n q:Nat}{X':Nat->Prop}{PP:bJ}{e t t':bY}{x x' y z:ah}{v' v0 v1 w w' w0:ae}
section
open RowKit Maps
def jV(P X:ByteArray)(k q st:Nat)(t:Int)
 |0=>[]
 |b+1=>if looked P X k q st t b=true then jV P X k q st t b++[b]else jV P X k q st t b
theorem F8(P X:ByteArray)(k q st:Nat)(t:Int):∀n,(jV P X k q st t n).length<=n
 |0=>aj _
 |n+1=>by
  have:=F8 P X k q st t n;simp[jV];split
  ·simp_all
  ·omega
theorem M8{P:ByteArray}{k st:Nat}{t:Int}{b:Nat}(h:looked P X k q st t b=true):jV P X k q st t (b+1)=jV P X k q st t b++[b]:=by
 rw[jV,if_pos h]
theorem Zi{P:ByteArray}{k st:Nat}{t:Int}{b:Nat}(h:looked P X k q st t b=false):jV P X k q st t (b+1)=jV P X k q st t b:=by
 rw[jV,if_neg (by simp[h])]
def oJ(z:Nat):Value:=.int .i64 (z:Int)
def ST(w:ae)(p:Nat)(k q st:Nat):Prop:=w.heap[p]?=some (.cells #[.int .i64 (k:Int),.int .i64 (q:Int),.int .i64 (st:Int)] 75 (0,0))
theorem ST.c0{p k st:Nat}(h:ST w p k q st):w.cell? ⟨p,0,none⟩=some (.int .i64 k):=by rw[ar w p 0 _ _ _ h];rfl
theorem ST.c1{p k st:Nat}(h:ST w p k q st):w.cell? ⟨p,1,none⟩=some (.int .i64 q):=by rw[ar w p 1 _ _ _ h];rfl
theorem ST.c2{p k st:Nat}(h:ST w p k q st):w.cell? ⟨p,2,none⟩=some (.int .i64 st):=by rw[ar w p 2 _ _ _ h];rfl
theorem ST.lt{p k st:Nat}(h:ST w p k q st):p<w.heap.size:=by
 have:=dt h.c0;omega
theorem ST.below{p k st B:Nat}(h:ST w p k q st)(K:af B w w')(Y:p<B):ST w' p k q st:=by unfold ST at *;rw[K.block p Y];exact h
theorem ST.new(w:ae)(k q st:Nat):ST (w.alloc (.cells #[.int .i64 k,.int .i64 q,.int .i64 st] 75)) w.heap.size k q st:=heap_alloc_new w _
theorem aeM:(ai.info? 3).map (fun i=>(i.zero,i.size,i.bytes))=some (some (.int .i64 0),1,8):=by kernel_rfl
theorem CH{B:Nat}{v:ah}{xs:List _}(h:w.ownsRow B e 1 v n xs)(Y:af w.heap.size w w'):w'.ownsRow B e 1 v n xs:=
 h.kept (xS Y none) (by cases v.ownBlock<;>simp)
theorem XZ{b B:Nat}{D:DataW _}(h:tv w b n D)(K:af B w w')(Y:b<B):tv w' b n D:=by
 obtain⟨es,clock,H,r⟩:=h;exact⟨es,clock,by rw[K.block b Y];exact H,r⟩
theorem yj{B B':Nat}{v:ah}{xs:List _}(h:w.ownsRow B e 1 v n xs)(U:B'<=B):w.ownsRow B' e 1 v n xs:=by
 refine⟨h.1,?_⟩;rcases h.2 with h'|⟨g,cap,Y,K,D,H⟩
 ·simp_all
 ·exact .inr ⟨g,cap,Y,K,by omega,H⟩
theorem Xb(X P:ByteArray)(k q st:Nat)(w:ae)(hX:X.size<=200)(hP:P.size<=30)(hk:k<=6)(hq:1<=q)(zf:q<=8)(hs:1<=st)(Uv:st<=200):
  ak ai 48 #[.string X,.string P,.agg #[.int .i64 (k:Int),.int .i64 (q:Int),.int .i64 (st:Int)]] w fun e w'=>
   ∃v,e=.returned v/\w'.ownsRow w.heap.size 3 1 v (jV P X k q st (oR P.size k q) (stretches X.size st)).length ((jV P X k q st (oR P.size k q) (stretches X.size st)).map oJ)/\af w.heap.size w w':=by
 obtain⟨i0,hi,sF,qS,sH⟩:=bg aeM;have htl: -1000<=oR P.size k q/\oR P.size k q<=1000:=by
  unfold oR;have:=eg hk zf;omega
 have s:=laid (fun b=>BW X.size st b hs);have hsl:stretches X.size st<=400:=by
  unfold stretches;have:=ed (X.size+st-1) st;omega
 generalize hT:oR P.size k q=t at *;have HT:=laid hT;clear hT
 go_enter Tryz.func48,Tryz.ntmps48
 go_wp2_with fail
 refine(Zh k q st P.size _ hk zf (by omega)).mono ?_;rintro e w1 ⟨rfl,d⟩;have F:=(ST.new w k q st).below d (by simp);have O:af w.heap.size w w1:=((az _ _).alloc (aj _) _).trans (d.mono (by simp));clear d;rw[HT.out];clear HT;have c1:=F.c1;go_wp2_with fail
 refine(Mw P q _ (by omega) hq (by omega)).mono ?_;rintro e w2 ⟨rfl,⟨n1,D1,Lz,Q,G⟩,f⟩;have Z:=F.below f F.lt;have i:af w.heap.size w w2:=O.trans (f.mono O.size);have Uw:=Z.lt;have n:=Q.lt;clear f O F c1;have HCN:=laid G;clear G;generalize w1.heap.size=b1 at *;go_wp2
 go_loopw [9,10] (fun v num wr=>∃b:Nat,num=.int .i64 (b:Int)/\b<=stretches X.size st/\wr.ownsRow w2.heap.size 3 1 v (jV P X k q st t b).length ((jV P X k q st t b).map oJ)/\af w2.heap.size w2 wr) (fun _ num _=>stretches X.size st-(intOf num).toNat)
 case atStart=>exact⟨0,rfl,aP _,⟨rfl,.inl ⟨rfl,rfl⟩⟩,az _ _⟩
 case round=>
  obtain⟨b,rfl,hb,c,C⟩:=hrel;have gj:=Z.below C Uw;have c0:=gj.c0;have c1:=gj.c1;have c2:=gj.c2;have hll:=F8 P X k q st t b;have L:Hid (looked P X k q st t b=(decide (t<=0)||decide (t<=(sb P (X.extract (b *st) (pn P.size X.size k st b)) q:Int)))):=laid rfl;by_cases xG:b<stretches X.size st
  ·have N:=(s.out b).2 xG;have y:=laid (fun W=>XY X k q st P.size b W (by omega) hk Uv (by omega) (by omega) (by omega));obtain⟨m,M,hm⟩:∃m:Nat,b *st=m/\(b:Int) *(st:Int)=(m:Int):=⟨b *st,rfl,by simp⟩;rw[M]at N;have hS:(X.extract (b *st) (pn P.size X.size k st b)).size<=1000:=by rw[bk];omega
   generalize X.extract (b *st) (pn P.size X.size k st b)=S at *;clear M;go_wp2_with fail
   refine(y.out _).mono ?_;rintro e w3 ⟨rfl,l⟩;have U:=CH c l;have Y:=C.trans (l.mono C.size);clear l y;by_cases ht0:t<=0
   ·have x:Hid (looked P X k q st t b=true):=laid (by rw[L.out,decide_eq_true ht0];rfl);clear L;go_wp2_with(first
     |(at_builtin;refine aV _ rfl _ _ 25 rfl w2.heap.size 3 i0 (.int .i64 0) 1 8 eu hi sF qS sH rfl (by decide) _ _ _ rfl (U.alloc _) ⟨w3.heap.size,0,none⟩ 1 1 [oJ b] rfl rfl ?c1 ?c2 ?c3 ?c4 ?c5 ?_)
     |go_in)
    case c1=>
     intro j u J
     match j,J with
     |0,J=>simp at J;subst J;simp[Addr.add,oJ]
    case c2=>intro u hu;simp at hu;subst hu;rfl
    case c3=>unfold aB;omega
    case c4=>omega
    case c5=>have:=Y.size;simp;omega
    intro v' wz K D _;have A:af w2.heap.size w2 wz:=(Y.alloc Y.size _).grown D (by have:=Y.size;simp;omega) (fun j J=>(U.lt j J).1);have R:wz.ownsRow w2.heap.size 3 1 v' (jV P X k q st t (b+1)).length ((jV P X k q st t (b+1)).map oJ):=by
     rw[M8 x.out,ao,aN];exact K
    obtain⟨g,cap,n',rfl⟩:∃g cap n',v'=.slice (some ⟨g,0,none⟩) n' cap:=by
     rcases K.2 with⟨_,h0⟩|⟨g,cap,cur,hv,_⟩
     ·omega
     ·exact⟨g,cap,_,hv⟩
    clear K D;go_wp2
    go_roundw
    case rel=>go_light;exact⟨b+1,by go_num,by omega,R,A⟩
    case measure=>go_light;simp[intOf];omega
   ·have ajX:=Z.below Y Uw;have d1:=ajX.c1;clear c0 c1 c2;go_wp2_with fail
    refine(Mw S q _ hS hq (by omega)).mono ?_;rintro e w4 ⟨rfl,⟨n2,D2,hn2,T,z⟩,o⟩;have I:=Y.trans (o.mono Y.size);have r:=CH U o;have V:=XZ Q I n;have E:=laid z;clear z o;go_wp2_with fail
    refine(Zg P S q b1 n1 _ n2 D1 D2 _ hq hS Lz V T HCN.out E.out).mono ?_;rintro e w5 ⟨rfl,p⟩;have H:=I.trans (p.mono I.size);have B:=CH r p;clear p V T E;by_cases hge:t<=(sb P S q:Int)
    ·have x:Hid (looked P X k q st t b=true):=laid (by rw[L.out,decide_eq_true hge,cM]);clear L;go_wp2_with(first
      |(at_builtin;refine aV _ rfl _ _ 25 rfl w2.heap.size 3 i0 (.int .i64 0) 1 8 eu hi sF qS sH rfl (by decide) _ _ _ rfl (B.alloc _) ⟨w5.heap.size,0,none⟩ 1 1 [oJ b] rfl rfl ?c1 ?c2 ?c3 ?c4 ?c5 ?_)
      |go_in)
     case c1=>
      intro j u J
      match j,J with
      |0,J=>simp at J;subst J;simp[Addr.add,oJ]
     case c2=>intro u hu;simp at hu;subst hu;rfl
     case c3=>unfold aB;omega
     case c4=>omega
     case c5=>have:=H.size;simp;omega
     intro v' wz K D _;have A:af w2.heap.size w2 wz:=(H.alloc H.size _).grown D (by have:=H.size;simp;omega) (fun j J=>(B.lt j J).1);have R:wz.ownsRow w2.heap.size 3 1 v' (jV P X k q st t (b+1)).length ((jV P X k q st t (b+1)).map oJ):=by
      rw[M8 x.out,ao,aN];exact K
     obtain⟨g,cap,n',rfl⟩:∃g cap n',v'=.slice (some ⟨g,0,none⟩) n' cap:=by
      rcases K.2 with⟨_,h0⟩|⟨g,cap,cur,hv,_⟩
      ·omega
      ·exact⟨g,cap,_,hv⟩
     clear K D;go_wp2
     go_roundw
     case rel=>go_light;exact⟨b+1,by go_num,by omega,R,A⟩
     case measure=>go_light;simp[intOf];omega
    ·have x:Hid (looked P X k q st t b=false):=laid (by rw[L.out,decide_eq_false (by omega),decide_eq_false (by omega)];rfl);clear L;have R:w5.ownsRow w2.heap.size 3 1 u9 (jV P X k q st t (b+1)).length ((jV P X k q st t (b+1)).map oJ):=by
      rw[Zi x.out];exact B
     go_wp2
     go_roundw
     case rel=>go_light;exact⟨b+1,by go_num,by omega,R,H⟩
     case measure=>go_light;simp[intOf];omega
  ·have a:b=stretches X.size st:=by omega
   have N:=fun h=>xG ((s.out b).1 h);obtain⟨m,M,hm⟩:∃m:Nat,b *st=m/\(b:Int) *(st:Int)=(m:Int):=⟨b *st,rfl,by simp⟩;rw[M]at N;have hmb:m<=100000:=by rw[<-M];exact aK (eg (show b<=400 by omega) Uv) (by omega)
   clear M;have hms:X.size<=m:=Nat.le_of_not_lt N;have HBE:=laid a;clear N a;go_wp2
   go_ret
   exact⟨u9,rfl,by rw[<-HBE.out];exact yj c (by omega),i.trans (C.mono (by omega))⟩
end
section
open RowKit
theorem Zj(n:Nat):cS n=gJ n:=by
 induction n using Nat.strongRecOn with
 |_ n Y=>
  by_cases h:n<10
  ·rw[cS,dif_pos h,ql n (by omega)];rfl
  ·rw[cS,dif_neg h,rQ n (by omega),Y _ (by omega)];rfl
theorem PO(z:Nat)(w:ae)(K:z<=9999)(Y:iS w):
  ak ai 74 #[.int .i64 z] w fun e w'=>e=.returned (.string (str (gJ z)))/\af w.heap.size w w':=by
 refine(Tryz.strconv_Itoa _ (by omega) (by omega) w Y).mono ?_;rintro e w' ⟨rfl,k,os,rfl⟩;rw[Lib.itoa_nonneg,Zj];exact⟨rfl,Lib.below_grow _ w (aj _) k os⟩
theorem M9{p:ah}{B:Nat}{bs:List _}(h:bP 102 5 B B p bs w)(U:af w.heap.size w w'):bP 102 5 B B p bs w':=by
 obtain⟨D,v,R,Y,K⟩:=h;have H:=Lib.BuilderAt.lt ⟨D,v,R,Y,K⟩;exact⟨D,v,by rw[U.block B H];exact R,CH Y U,K⟩
theorem ia.below{B:Nat}{acc:List _}(h:ia B acc w)(Y:af w.heap.size w w'):ia B acc w':=
 h.imp (fun h=>M9 h Y) (fun h=>M9 h Y)
theorem PQ(B:Nat)(acc:List _)(c:UInt8)(w:ae)(h:ia B acc w)(U:acc.length+1<=1000000):
  ak ai 73 #[.pointer (some ⟨B,0,none⟩),.int .u8 c.toNat] w fun e w'=>e=.returned .nilIface/\ia B (acc++[c]) w'/\af B w w':=by
 refine(WB B B _ _ w h (by simp[bh];omega) (by have:=h.lt;omega)).mono ?_;rintro e w' ⟨D,K,H⟩;have Y:bh acc++[cH .u8 c.toNat]=bh (acc++[c]):=by simp[bh]
 simp_all
theorem yu(x:Int)(z:Nat)(K:x=z)(w:ae)(H:z<=9999)(Y:iS w):
  ak ai 74 #[.int .i64 x] w fun e w'=>e=.returned (.string (str (gJ z)))/\af w.heap.size w w':=by subst K;exact PO z w H Y
theorem Zk(s:ByteArray)(w:ae)(hs:s.size<=1000)(S:iS w):
  ak ai 127 #[.string s] w fun e w'=>e=.returned (.string (str (nO s)))/\af w.heap.size w w':=by
 have HT:=laid S;clear S
 go_enter Tryz.func127,Tryz.ntmps127
 go_wp2
 go_loopw [4,8] (fun k iv wr=>∃i:Nat,k=.int .i64 ((iG s i).2:Int)/\iv=.int .i64 (i:Int)/\i<=s.size/\ia w.heap.size (iG s i).1 wr/\af w.heap.size w wr) (fun _ iv _=>s.size-(intOf iv).toNat)
 case atStart=>exact⟨0,rfl,rfl,aP _,ia.new w,(az _ _).alloc (aj _) _⟩
 case round=>
  obtain⟨i,rfl,rfl,b,J,H⟩:=hrel;have Z:=HY s i (by omega);by_cases o:i<s.size
  ·have m:(i:Int)<(s.size:Int):=by omega
   have y:(0:Int)<=(i:Int):=by omega
   have v:=jJ s i o;have d:=laid (@acx s i);have c:=laid (@aeH s i);have x:=mN ((iG s i).2+1) (by omega);have x1:aI.wrap ((i:Int)+1)=(i:Int)+1:=aL _ (by omega);have x2:aI.wrap (((iG s i).2:Int)+1)=((iG s i).2:Int)+1:=aL _ (by omega);have E:Hid (∀W:ae,af w.heap.size w W->ak ai 74 #[.int .i64 (((iG s i).2:Int)+1)] W fun e w'=>e=.returned (.string (str (gJ ((iG s i).2+1))))/\af W.heap.size W w'):=laid (fun W u=>yu _ ((iG s i).2+1) (by omega) W (by omega) (HT.out.on u));have t:(iG s i).2<=1000:=by omega
   have hO:(iG s i).1.length<=5000:=by omega
   generalize(iG s i).1=O at *;generalize(iG s i).2=n at *;by_cases K:i+1=s.size\/at8 s (i+1)≠at8 s i
   ·have T:=laid (d.out K);clear d c Z;have X:((i:Int)+1==(s.size:Int))=true\/(((i:Int)+1==(s.size:Int))=false/\i+1<s.size/\(((at8 s (i+1)).toNat:Int) != ((at8 s i).toNat:Int))=true):=by
     by_cases N:i+1=s.size
     ·left;simp;omega
     ·right;refine⟨by simp;omega,by omega,?_⟩;rcases K with h|h
      ·exact absurd h N
      ·exact toNat_ne h
    clear K;rcases X with q|⟨q,P,a⟩
    ·go_wp2_with fail
     go_quiet(fail)
     have D:=J.drewN nq;have Y:=Go.below_drewN H nq;go_wp2_with fail
     refine(E.out _ Y).mono ?_;rintro e w2 ⟨rfl,U⟩;have R:=D.below U;have B:=Y.trans (U.mono Y.size);clear U J H D Y E;go_wp2_with fail
     refine(CF _ _ (str (gJ (n+1))) _ R (by rw[gR];omega)).mono ?_;rintro e w3 ⟨rfl,I,L⟩;have C:=B.trans L;clear L R;go_wp2_with fail
     refine(PQ _ _ (at8 s i) _ I (by rw[ao];show _+(gJ (n+1)).length+1<=_;omega)).mono ?_;rintro e w4 ⟨rfl,A,M⟩;have F:=C.trans M;have Q:=laid A;clear M I A;go_wp2
     go_roundw
     case rel=>go_light;exact⟨i+1,ij (by rw[T.out];rfl),by go_num,by omega,by rw[T.out];exact Q.out,F⟩
     case measure=>go_light;simp[intOf];omega
    ·have g:(i:Int)+1<(s.size:Int):=by omega
     have l:(0:Int)<=(i:Int)+1:=by omega
     have G:=jJ s (i+1) P;go_wp2_with fail
     go_quiet(fail)
     have D:=J.drewN nq;have Y:=Go.below_drewN H nq;go_wp2_with fail
     refine(E.out _ Y).mono ?_;rintro e w2 ⟨rfl,U⟩;have R:=D.below U;have B:=Y.trans (U.mono Y.size);clear U J H D Y E;go_wp2_with fail
     refine(CF _ _ (str (gJ (n+1))) _ R (by rw[gR];omega)).mono ?_;rintro e w3 ⟨rfl,I,L⟩;have C:=B.trans L;clear L R;go_wp2_with fail
     refine(PQ _ _ (at8 s i) _ I (by rw[ao];show _+(gJ (n+1)).length+1<=_;omega)).mono ?_;rintro e w4 ⟨rfl,A,M⟩;have F:=C.trans M;have Q:=laid A;clear M I A;go_wp2
     go_roundw
     case rel=>go_light;exact⟨i+1,ij (by rw[T.out];rfl),by go_num,by omega,by rw[T.out];exact Q.out,F⟩
     case measure=>go_light;simp[intOf];omega
   ·have T:=laid (c.out K);have N:i+1≠s.size:=fun h=>K (.inl h);have z:at8 s (i+1)=at8 s i:=cO fun h=>K (.inr h);have q:((i:Int)+1==(s.size:Int))=false:=by simp;omega
    have P:i+1<s.size:=by omega
    have g:(i:Int)+1<(s.size:Int):=by omega
    have l:(0:Int)<=(i:Int)+1:=by omega
    have G:=jJ s (i+1) P;have a:=toNat_eq z;have p:=laid J;clear d c N z K Z E;go_wp2_with fail
    go_quiet(fail)
    have Y:=Go.below_drewN H nq;go_wp2
    go_roundw
    case rel=>go_light;exact⟨i+1,ij (by rw[T.out];simp),by go_num,by omega,by rw[T.out];exact p.out.drewN _,Y⟩
    case measure=>go_light;simp[intOf];omega
  ·have j:i=s.size:=by omega
   have r:Hid (str (iG s i).1=str (nO s)):=laid (by unfold nO;rw[j]);clear j Z;generalize(iG s i).1=O at *;generalize(iG s i).2=n at *;go_wp2_with fail
   refine(Cn _ _ _ J).mono ?_;rintro e w1 ⟨rfl,f⟩;have V:=H.trans f;go_wp2
   go_ret
   exact⟨Qa r.out,V⟩
def Kp(b:Nat)(w w':ae):Prop:=∀(x:Nat) (c:Array ah) (T:bY) (fz:Nat×Nat),x≠b->T≠5->w.heap[x]?=some (.cells c T fz)->w'.heap[x]?=some (.cells c T fz)
theorem Kp.refl(b:Nat)(w:ae):Kp b w w:=fun _ _ _ _ _ _ h=>h
theorem Kp.trans{b:Nat}{w w' ze:ae}(h:Kp b w w')(k:Kp b w' ze):Kp b w ze:=fun x c T fz Y K H=>k x c T fz Y K (h x c T fz Y K H)
theorem Kp.uq{b:Nat}(h:af w.heap.size w w'):Kp b w w':=fun x c T fz H D Y=>by
 have K:=(aX.1 Y).1;rw[h.block x K];exact Y
theorem Kp.put(b k:Nat)(v:ah)(w:ae):Kp b w (w.setCell ⟨b,k,none⟩ v):=fun x c T fz Y D K=>by
 have H:=(aX.1 K).1;have:=(qi w b k v).block x H (fun e=>Y (by simp_all));simp_all
theorem Kp.alloc(b:Nat)(w:ae)(o:Obj):Kp b w (w.alloc o):=fun x c T fz H D Y=>by
 have K:=(aX.1 Y).1;rw[bD w _ K];exact Y
theorem Kp.row{b B:Nat}{v:ah}{xs:List _}(D:w.ownsRow B 5 1 v n xs)(h:w.grownBy w' v.ownBlock):Kp b w w':=fun x c T fz R K Y=>by
 have H:=(aX.1 Y).1;rw[h.block x H (fun e=>x7 D Y K e.symm)];exact Y
theorem M_(B b:Nat)(bs:List _)(w:ae)(h:bQ 102 5 B b bs w):
  ak ai 96 #[.pointer (some ⟨b,0,none⟩)] w fun e w'=>e=.returned (.tuple #[])/\bP 102 5 B b (.pointer (some ⟨b,0,none⟩)) bs w'/\af B w w'/\Kp b w w':=by
 rcases h with h|h
 ·refine(Mc b w h.cell0 h.shape h.frozen0).mono ?_;rintro e w' ⟨rfl,rfl⟩;exact⟨rfl,h.used _,(az B w).setCell h.1 _,Kp.put b 0 _ w⟩
 ·refine(Mh b w h.cell0).mono ?_;rintro e w' ⟨rfl,rfl⟩;exact⟨rfl,h,az B _,Kp.refl b _⟩
theorem WE(B b:Nat)(bs:List ah)(s:ByteArray)(w:ae)(h:bQ 102 5 B b bs w)(S:bs.length+s.size<=1000000000)(V:B<=w.heap.size):
  ak ai 63 #[.pointer (some ⟨b,0,none⟩),.string s] w fun e w'=>e=.returned (.tuple #[.int .i64 (s.size:Int),.nilIface])/\bQ 102 5 B b (bs++dI s) w'/\af B w w'/\Kp b w w':=by
 obtain⟨i0,X,J,L,M⟩:=bg DI
 go_enter Tryz.func63,Tryz.ntmps63
 go_wp2_with(go_at_call 96;refine(M_ B b bs _ h).mono ?_)
 rintro e w1 ⟨rfl,⟨O,v,I,K,C⟩,D,A⟩;have c1:w1.cell? ⟨b,1,none⟩=some v:=by rw[cv I];rfl
 go_wp2_with(at_builtin;refine Lib.wpList_append_own_string _ rfl _ _ 79 9 rfl B 5 i0 bB ew X J L M _ _ _ rfl K s rfl ?c3 ?c4 ?c5 ?_)
 case c3=>unfold aB;omega
 case c4=>omega
 case c5=>have:=D.size;omega
 intro v' w2 H Y _;have U:b<w1.heap.size:=by
  rcases bq b w1.heap.size with h'|h'
  ·exact h'
  ·simp[cg h']at I
 have R:w2.heap[b]?=some (.cells #[.pointer (some ⟨b,0,none⟩),v] 102 (0,0)):=by
  rw[Y.block b U (fun e=>C e.symm)];exact I
 have d1:w2.cell? ⟨b,1,none⟩=some v:=by rw[cv R];rfl
 have f1:w2.frozen? ⟨b,1,none⟩=false:=dH R 1;obtain⟨N,P,cap,rfl⟩:∃N P cap,v'=.slice N P cap:=by
  rcases H.2 with⟨F,_⟩|⟨g,cap,Q,F,_⟩
  ·exact⟨_,_,_,F⟩
  ·exact⟨_,_,_,F⟩
 go_wp2
 go_ret2
 refine⟨rfl,.inr ?_,?_,?_⟩
 ·exact dG (T:=102) (e:=5) O R (bs':=bs++dI s) (by simpa[Lib.strCells_length]using H) Fv
 ·exact(D.grown Y (by have:=D.size;omega) (fun k hk=>(K.lt k hk).1)).setCell (p:=⟨b,1,none⟩) O _
 ·exact(A.trans (Kp.row K Y)).trans (Kp.put b 1 _ w2)
theorem X0(B b:Nat)(bs:List ah)(c:Int)(w:ae)(h:bQ 102 5 B b bs w)(O:bs.length+1<=1000000000)(S:B<=w.heap.size):
  ak ai 73 #[.pointer (some ⟨b,0,none⟩),.int .u8 c] w fun e w'=>e=.returned .nilIface/\bQ 102 5 B b (bs++[.int .u8 c]) w'/\af B w w'/\Kp b w w':=by
 obtain⟨i0,V,J,L,M⟩:=bg DI
 go_enter Tryz.func73,Tryz.ntmps73
 go_wp2_with(go_at_call 96;refine(M_ B b bs _ h).mono ?_)
 rintro e w1 ⟨rfl,⟨N,v,I,K,F⟩,D,U⟩;have c1:w1.cell? ⟨b,1,none⟩=some v:=by rw[cv I];rfl
 go_wp2_with(at_builtin;refine aV _ rfl _ _ 79 rfl B 5 i0 (.int .u8 0) 1 1 bB V J L M rfl (by decide) _ _ _ rfl (K.alloc _) ⟨w1.heap.size,0,none⟩ 1 1 [.int .u8 c] rfl rfl ?c1 ?c2 ?c3 ?c4 ?c5 ?_)
 case c1=>
  intro j u A
  match j,A with
  |0,A=>simp at A;subst A;simp[Addr.add]
 case c2=>intro u P;simp at P;subst P;rfl
 case c3=>unfold aB;omega
 case c4=>omega
 case c5=>have:=D.size;simp;omega
 intro v' w2 H Y _;have C:b<w1.heap.size:=by
  rcases bq b w1.heap.size with h'|h'
  ·exact h'
  ·simp[cg h']at I
 have R:w2.heap[b]?=some (.cells #[.pointer (some ⟨b,0,none⟩),v] 102 (0,0)):=by
  rw[Y.block b (by simp;omega) (fun e=>F e.symm),Lib.alloc_old w1 _ b C];exact I
 have d1:w2.cell? ⟨b,1,none⟩=some v:=by rw[cv R];rfl
 have f1:w2.frozen? ⟨b,1,none⟩=false:=dH R 1;obtain⟨g,cap,rfl⟩:∃g cap,v'=.slice (some ⟨g,0,none⟩) (bs.length+1) cap:=by
  rcases H.2 with⟨_,Z⟩|⟨g,cap,Q,X,_⟩
  ·omega
  ·exact⟨g,cap,X⟩
 go_wp2
 go_ret
 refine⟨rfl,.inr ?_,?_,?_⟩
 ·exact dG (T:=102) (e:=5) N R (bs':=bs++[.int .u8 c]) (by simpa using H) Fv
 ·exact((D.alloc (by have:=D.size;omega) _).grown Y (by have:=D.size;simp;omega) (fun k hk=>(K.lt k hk).1)).setCell (p:=⟨b,1,none⟩) N _
 ·exact((U.trans (Kp.alloc b w1 _)).trans (Kp.row (K.alloc _) Y)).trans (Kp.put b 1 _ w2)
theorem OG(B:Nat)(acc:List _)(x:ByteArray)(w:ae)(h:ia B acc w)(U:acc.length+x.size<=1000000000):
  ak ai 63 #[.pointer (some ⟨B,0,none⟩),.string x] w fun e w'=>e=.returned (.tuple #[.int .i64 x.size,.nilIface])/\ia B (acc++x.data.toList) w'/\af B w w'/\Kp B w w':=by
 refine(WE B B _ x w h (by simp[bh];omega) (by have:=h.lt;omega)).mono ?_;rintro e w' ⟨D,Y,K,H⟩;rw[Ov]at Y;simp_all
theorem vR(B:Nat)(acc:List _)(c:UInt8)(w:ae)(h:ia B acc w)(U:acc.length+1<=1000000000):
  ak ai 73 #[.pointer (some ⟨B,0,none⟩),.int .u8 c.toNat] w fun e w'=>e=.returned .nilIface/\ia B (acc++[c]) w'/\af B w w'/\Kp B w w':=by
 refine(X0 B B _ _ w h (by simp[bh];omega) (by have:=h.lt;omega)).mono ?_;rintro e w' ⟨R,K,H,D⟩;have Y:bh acc++[cH .u8 c.toNat]=bh (acc++[c]):=by simp[bh]
 simp_all
def na(xs:List ByteArray):=aY (xs.map (·.data.toList)) [9]
def Ux(x:ByteArray):Value:=.string x
theorem FU(B V:Nat)(acc:List UInt8)(xs:List ByteArray)(v:ah)(w:ae)(H:ia B acc w)(Y:w.ownsRow V 9 1 v xs.length (xs.map Ux))(m:1<=xs.length)(hn:xs.length<=100)(u:acc.length+(na xs).length+1<=1000000000):
  ak ai 91 #[.pointer (some ⟨B,0,none⟩),v] w fun e w'=>e=.returned (.tuple #[])/\ia B (acc++na xs++[10]) w'/\af B w w'/\Kp B w w':=by
 rcases Y.2 with⟨_,z⟩|⟨g,cap,Z,rfl,G,C,L,W,M,N⟩
 ·omega
 have T:Hid (ak ai 110 _ w fun e w'=>e=.returned (.string (str (na xs)))/\af w.heap.size w w'):=laid (by
  refine(Tryz.strings_Join g 0 cap xs ⟨#[9]⟩ w (fun j x q=>?_) (aX.1 C).1 (by omega) L (by unfold na at u;show(aY _ [9]).length<=_;omega)).mono ?_
  ·have h:=(Y.cells (g:=g) rfl) j (Ux x) (by rw[bp,q];rfl);rw[yf]at h;rw[bI];exact h
  ·rintro e w' ⟨rfl,E⟩;exact⟨rfl,E⟩)
 clear Y C M N
 go_enter Tryz.func91,Tryz.ntmps91
 go_wp2_with fail
 refine T.out.mono ?_;rintro e w1 ⟨rfl,K⟩;have I:=H.below K;have O:Kp B w w1:=Kp.uq K;have D:af B w w1:=K.mono (by have:=H.lt;omega);clear K T H;go_wp2_with fail
 refine(OG _ _ (str (na xs)) _ I (by rw[gR];omega)).mono ?_;rintro e w2 ⟨rfl,A,F,P⟩;have Q:=O.trans P;have R:=D.trans F;go_wp2_with fail
 refine(vR _ _ 10 _ A (by rw[ao];show _+(na xs).length+1<=_;omega)).mono ?_;rintro e w3 ⟨rfl,U,J,S⟩;have X:Hid (ia B (acc++na xs++[10]) w3/\af B w w3/\Kp B w w3):=laid ⟨U,R.trans J,Q.trans S⟩;go_wp2
 go_end0
 exact⟨rfl,X.out⟩
theorem QE:(ai.info? 9).map (fun i=>(i.zero,i.size,i.bytes))=some (some (.string ⟨#[]⟩),1,16):=by kernel_rfl
theorem PS:∀l m,(∀x∈l,x.length<=m)->(aY l [9]).length<=l.length *(m+1)
 |[],m,_=>by simp[aY]
 |[a],m,h=>by have:=h a (by simp);simp[aY];omega
 |a::b::l,m,h=>by
  have K:=h a (by simp);have H:=PS (b::l) m (fun x Y=>h x (by simp[Y]));have e:aY (a::b::l) [9]=a++([9]++aY (b::l) [9]):=by simp[aY]
  rw[e,ao,ao];simp at *;rw[Nat.add_mul _ 1 _];omega
theorem QF(xs:List _)(m:Nat)(h:∀x∈xs,x.size<=m):(na xs).length<=xs.length *(m+1):=by
 have:=PS _ m (fun x Y=>by
  rw[bj]at Y;obtain⟨y,K,rfl⟩:=Y;exact h y K)
 rw[cU]at this;exact this
def r6(rn rb rm:ByteArray):Value:=.agg #[.string rn,.string rb,.string rm]
structure Pl where
 rn:ByteArray
 rb:ByteArray
 rm:ByteArray
 fl:Bool
 st:Nat
 er:Nat
 lt:ByteArray
 df:ByteArray
def Pl.val(p:Pl):Value:=.agg #[.string p.rn,.string p.rb,.string p.rm,.bool p.fl,.int .i64 (p.st:Int),.int .i64 (p.er:Int),.string p.lt,.string p.df]
def uN(fl first:Bool):=(if fl then 16 else 0)+(if first then 0 else 256)
theorem aaK(p:Pl)(w:ae):
  ak ai 241 #[p.val] w fun e w'=>e=.returned (r6 p.rn p.rb p.rm)/\af w.heap.size w w':=by
 unfold Pl.val r6;obtain⟨rn,rb,rm,fl,st,er,lt,df⟩:=p;simp only;go_wp2
 refine bL (eC rfl _ _ _ _ _ _ _ rfl (eA _ _ _) ep rfl IA) rfl ?_;exact⟨rfl,((az _ _).alloc (aj _) _).alloc (by simp) _⟩
theorem aaL(p:Pl)(first:Bool)(w:ae):
  ak ai 240 #[p.val,.bool first] w fun e w'=>e=.returned (.int .i64 (uN p.fl first:Int))/\af w.heap.size w w':=by
 unfold Pl.val;obtain⟨rn,rb,rm,fl,st,er,lt,df⟩:=p;simp only;cases fl<;>cases first
 all_goals
  go_wp2
  go_ret
  exact⟨rfl,(az _ _).alloc (aj _) _⟩
theorem aaM(rn rb rm:ByteArray)(w:ae):
  ak ai 239 #[r6 rn rb rm] w fun e w'=>e=.returned (r6 rn rb rm)/\af w.heap.size w w':=by
 unfold r6;go_wp2
 refine bL (eC rfl _ _ _ _ _ _ _ rfl (eA _ _ _) ep rfl IA) rfl ?_;exact⟨rfl,((az _ _).alloc (aj _) _).alloc (by simp) _⟩
theorem aaN(rn rb rm:ByteArray)(first:Bool)(w:ae):
  ak ai 238 #[r6 rn rb rm,.bool first] w fun e w'=>e=.returned (.int .i64 4)/\af w.heap.size w w':=by
 go_wp2
 go_ret
 exact⟨rfl,(az _ _).alloc (aj _) _⟩
theorem aaO(a b c:ByteArray)(w:ae):(cR (.iface 155 (.agg #[.string a,.string b,.string c])) 136 158 true).run ai w=.ok (.tuple #[.agg #[.string ⟨#[]⟩,.string ⟨#[]⟩,.string ⟨#[]⟩,.bool false,.int .i64 0,.int .i64 0,.string ⟨#[]⟩,.string ⟨#[]⟩],.bool false]) w:=by kernel_rfl
theorem aaP(a b c:ByteArray)(w:ae):(cR (.iface 155 (.agg #[.string a,.string b,.string c])) 136 155 true).run ai w=.ok (.tuple #[.agg #[.string a,.string b,.string c],.bool true]) w:=by kernel_rfl
theorem aaQ(p:Pl)(w:ae):(cR (.iface 158 p.val) 136 158 true).run ai w=.ok (.tuple #[p.val,.bool true]) w:=by kernel_rfl
theorem VV(B:Nat)(acc:List UInt8)(XN rn rb rm:ByteArray)(first:Bool)(w:ae)(m:ia B acc w)(h1:rn.size<=1000)(h2:rb.size<=1000)(h3:rm.size<=1000)(hl:acc.length<=500000000)(E:iS w):
  ak ai 93 #[.pointer (some ⟨B,0,none⟩),.string XN,.iface 155 (r6 rn rb rm),.bool first] w fun e w'=>e=.returned (.tuple #[])/\ia B (acc++na [rn,str (gJ 4),str [42],str [48],str [42],str [45],str [45],rb,rm]++[10]) w'/\af B w w'/\Kp B w w':=by
 have HT:=laid E;have o:=laid (fun W:ae=>aaN rn rb rm first W);have s:=laid (aaM rn rb rm w);clear E;unfold r6 at *
 go_enter Tryz.func93,eo
 go_wp2_with fail
 refine s.out.mono ?_;rintro e w1 ⟨rfl,L⟩;have M:=m.below L;have a:Kp B w w1:=Kp.uq L;have N:af B w w1:=L.mono (by have:=m.lt;omega);have v:=laid (HT.out.on L);clear L s m HT;go_wp2_with fail
 obtain⟨i0,hi,sF,qS,sH⟩:=bg QE;obtain⟨w2,Q,rE,t,T,V,O,k,y⟩:∃(w2:ae) (Q:Nat),w1.alloc (.cells #[.string rn,.string rb,.string rm] 131)=w2/\w1.heap.size=Q/\w2.heap[Q]?=some (.cells #[.string rn,.string rb,.string rm] 131 (0,0))/\ia B acc w2/\af B w w2/\Kp B w w2/\iS w2:=by
  have hb:af w1.heap.size w1 (w1.alloc (.cells #[.string rn,.string rb,.string rm] 131)):=(az _ _).alloc (aj _) _;exact⟨_,_,rfl,rfl,heap_alloc_new w1 _,M.below hb,N.trans (hb.mono (by have:=M.lt;omega)),a.trans (Kp.uq hb),v.out.on hb⟩
 rw[rE,t];clear rE t M N a v;have a0:w2.cell? ⟨Q,0,none⟩=some (.string rn):=by rw[ar w2 _ 0 _ _ _ T];rfl
 have LA:Q<w2.heap.size:=(aX.1 T).1;have r:=laid T;have q:=laid V;have c:Hid (∀W:ae,af w2.drew.heap.size w2.drew W->ak ai 74 #[.int .i64 4] W fun e w'=>e=.returned (.string (str (gJ 4)))/\af W.heap.size W w'):=laid fun W n=>yu 4 4 rfl W (by omega) (y.on (w':=W) ⟨n.os,n.tape,n.output,n.size,n.block⟩);obtain⟨G,d⟩:∃D,D=str (gJ 4):=⟨_,rfl⟩;rw[<-d]at c;have z:=laid d;clear d T V y
 go_region_held3 (fun w'=>w'.cell? ⟨Q,0,none⟩=some (.string rn))
  (first
   |go_keep
   |(rw[S.cell (by have:=K.size;simp at this⊢;omega),K.cell (by first|omega|(simp;omega))];assumption)
   |(rw[K.cell (by first|omega|(simp;omega))];assumption))
  (first
   |(go_at_call 238;refine(o.out _).mono ?_;rintro e w' ⟨rfl,K⟩)
   |(go_at_call 74;refine(c.out _ K).mono ?_;rintro e F ⟨rfl,S⟩))
 have A:af w2.heap.size w2 (F.alloc (.cells #[.string rn,.string G] 9)):=by
  have h1:af w2.heap.size w2 w':=⟨K.os,K.tape,K.output,K.size,K.block⟩;have h2:=h1.trans (S.mono h1.size);exact h2.alloc h2.size _
 have R:(F.alloc (.cells #[.string rn,.string G] 9)).ownsRow w2.heap.size 9 1 (.slice (some ⟨F.heap.size,0,none⟩) 2 2) 2 [.string rn,.string G]:=
  ⟨rfl,.inr ⟨F.heap.size,2,_,rfl,by have h1:=K.size;have h2:=S.size;simp at h1;omega,heap_alloc_new F _,aj _,by unfold aB;omega,rfl,rfl⟩⟩
 obtain⟨w4,tQ⟩:∃w4:ae,F.alloc (.cells #[.string rn,.string G] 9)=w4:=⟨_,rfl⟩;rw[tQ]at A R⊢;generalize F.heap.size=g4 at *;clear tQ K S c o;have f:w2.heap.size<=w4.heap.size:=A.size;have q1:=aaO rn rb rm;have q2:=aaP rn rb rm;clear a0;go_wp2_with(first
  |(at_builtin;refine aV _ rfl _ _ 65 rfl w2.heap.size 9 i0 (.string ⟨#[]⟩) 1 16 bK hi sF qS sH rfl (by decide) _ _ _ rfl ((R.alloc _).alloc _) ⟨w4.heap.size+1,0,none⟩ 5 5 [.string ⟨#[42]⟩,.string ⟨#[48]⟩,.string ⟨#[42]⟩,.string ⟨#[45]⟩,.string ⟨#[45]⟩] rfl rfl ?c1 ?c2 ?c3 ?c4 ?c5 ?_)
  |go_in)
 case c1=>
  intro j u Y
  match j,Y with
  |0,Y=>simp at Y;subst Y;simp[Addr.add,go_sem]
  |1,Y=>simp at Y;subst Y;simp[Addr.add,go_sem]
  |2,Y=>simp at Y;subst Y;simp[Addr.add,go_sem]
  |3,Y=>simp at Y;subst Y;simp[Addr.add,go_sem]
  |4,Y=>simp at Y;subst Y;simp[Addr.add,go_sem]
 case c2=>intro u hu;simp at hu;rcases hu with rfl|rfl|rfl|rfl|rfl<;>rfl
 case c3=>unfold aB;omega
 case c4=>omega
 case c5=>simp;omega
 intro v5 Z I H _;have U:af w2.heap.size w2 Z:=((A.alloc A.size _).alloc (by simp;omega) _).grown H (by simp;omega) (fun j Y=>(R.lt j Y).1);obtain⟨g5,Ee,rfl⟩:∃g cap,v5=.slice (some ⟨g,0,none⟩) 7 cap:=by
  rcases I.2 with⟨_,h0⟩|⟨gg,cap,cur,hv,_⟩
  ·omega
  ·exact⟨gg,cap,hv⟩
 clear H R A q1 q2 f;have P:Z.heap[Q]?=some (.cells #[.string rn,.string rb,.string rm] 131 (0,0)):=by rw[U.block Q LA];exact r.out
 have a1:Z.cell? ⟨Q,1,none⟩=some (.string rb):=by rw[ar Z _ 1 _ _ _ P];rfl
 have a2:Z.cell? ⟨Q,2,none⟩=some (.string rm):=by rw[ar Z _ 2 _ _ _ P];rfl
 have f:w2.heap.size<=Z.heap.size:=U.size;clear P r;go_wp2_with(first
  |(at_builtin;refine aV _ rfl _ _ 65 rfl w2.heap.size 9 i0 (.string ⟨#[]⟩) 1 16 bK hi sF qS sH rfl (by decide) _ _ _ rfl (I.alloc _) ⟨Z.heap.size,0,none⟩ 2 2 [.string rb,.string rm] rfl rfl ?c1 ?c2 ?c3 ?c4 ?c5 ?_)
  |go_in)
 case c1=>
  intro j u Y
  match j,Y with
  |0,Y=>simp at Y;subst Y;simp[Addr.add,go_sem]
  |1,Y=>simp at Y;subst Y;simp[Addr.add,go_sem]
 case c2=>intro u hu;simp at hu;rcases hu with rfl|rfl<;>rfl
 case c3=>unfold aB;omega
 case c4=>omega
 case c5=>simp;omega
 intro v6 w6 C H _;have J:af w2.heap.size w2 w6:=(U.alloc U.size _).grown H (by simp;omega) (fun j Y=>(I.lt j Y).1);obtain⟨g6,aoA,rfl⟩:∃g cap,v6=.slice (some ⟨g,0,none⟩) 9 cap:=by
  rcases C.2 with⟨_,h0⟩|⟨gg,cap,cur,hv,_⟩
  ·omega
  ·exact⟨gg,cap,hv⟩
 have HW:=laid (FU B w2.heap.size acc [rn,G,str [42],str [48],str [42],str [45],str [45],rb,rm] _ w6 (q.out.below J) C (by simp) (by simp) (by
  have h:=QF [rn,G,str [42],str [48],str [42],str [45],str [45],rb,rm] 1000 (fun x hx=>by
   have hd:=mN 4 (by omega);have hd4:G.size<=1000:=by rw[z.out,gR];omega
   simp at hx;rcases hx with rfl|rfl|rfl|rfl|rfl|rfl|rfl|rfl|rfl<;>first|assumption|(rw[gR];simp))
  simp at h;omega))
 have l:=laid (O.trans (J.mono (by have:=q.out.lt;omega)));have p:=laid (k.trans (Kp.uq J));clear H I U f a1 a2 C J q O k;go_wp2_with fail
 refine HW.out.mono ?_;rintro e w7 ⟨rfl,X,b,i⟩;have HF:Hid (ia B (acc++na [rn,str (gJ 4),str [42],str [48],str [42],str [45],str [45],rb,rm]++[10]) w7/\af B w w7/\Kp B w w7):=laid ⟨by rw[<-z.out];exact X,l.out.trans b,p.out.trans i⟩;clear X b i l p HW z;go_wp2
 go_end0
 exact⟨rfl,HF.out⟩
theorem VX(B:Nat)(acc:List UInt8)(XN:ByteArray)(p:Pl)(first:Bool)(w:ae)(LB:ia B acc w)(h0:XN.size<=1000)(m:p.rn.size<=1000)(h2:p.rb.size<=1000)(h3:p.rm.size<=1000)(h4:p.lt.size<=10000)(h5:p.df.size<=10000)(h6:p.st<=1000)(h7:p.er<=1000)(hl:acc.length<=500000000)(u_:iS w):
  ak ai 93 #[.pointer (some ⟨B,0,none⟩),.string XN,.iface 158 p.val,.bool first] w fun e w'=>e=.returned (.tuple #[])/\ia B (acc++na [p.rn,str (gJ (uN p.fl first)),XN,str (gJ (p.st+1)),p.lt,str (gJ p.er),p.df,p.rb,p.rm]++[10]) w'/\af B w w'/\Kp B w w':=by
 have HT:=laid u_;have Uy:=laid (fun W:ae=>aaL p first W);have Uz:=laid (aaK p w);have q1:=aaQ p;clear u_;unfold r6 Pl.val at *;have hF:uN p.fl first<=272:=by unfold uN;cases p.fl<;>cases first<;>decide
 generalize hFF:uN p.fl first=F at *
 obtain⟨rn,rb,rm,fl,st,er,lt,df⟩:=p;simp only at *;clear hFF
 go_enter Tryz.func93,eo
 go_wp2_with fail
 refine Uz.out.mono ?_;rintro e w1 ⟨rfl,X⟩;have Z:=LB.below X;have UA:Kp B w w1:=Kp.uq X;have E:af B w w1:=X.mono (by have:=LB.lt;omega);have UC:=laid (HT.out.on X);clear X Uz LB HT;go_wp2_with fail
 obtain⟨i0,hi,sF,qS,sH⟩:=bg QE;obtain⟨w2,f,rE,Fy,l,v,G,UD,LC⟩:∃(w2:ae) (f:Nat),w1.alloc (.cells #[.string rn,.string rb,.string rm] 131)=w2/\w1.heap.size=f/\w2.heap[f]?=some (.cells #[.string rn,.string rb,.string rm] 131 (0,0))/\ia B acc w2/\af B w w2/\Kp B w w2/\iS w2:=by
  have hb:af w1.heap.size w1 (w1.alloc (.cells #[.string rn,.string rb,.string rm] 131)):=(az _ _).alloc (aj _) _;exact⟨_,_,rfl,rfl,heap_alloc_new w1 _,Z.below hb,E.trans (hb.mono (by have:=Z.lt;omega)),UA.trans (Kp.uq hb),UC.out.on hb⟩
 rw[rE,Fy];clear rE Fy Z E UA UC;have a0:w2.cell? ⟨f,0,none⟩=some (.string rn):=by rw[ar w2 _ 0 _ _ _ l];rfl
 have LA:f<w2.heap.size:=(aX.1 l).1;have UE:=laid l;have b:=laid v;have i:Hid (∀W:ae,af w2.drew.heap.size w2.drew W->ak ai 74 #[.int .i64 (F:Int)] W fun e w'=>e=.returned (.string (str (gJ F)))/\af W.heap.size W w'):=laid fun W I=>yu (F:Int) F rfl W (by omega) (LC.on (w':=W) ⟨I.os,I.tape,I.output,I.size,I.block⟩);have LD:=laid LC;obtain⟨d,LF⟩:∃D,D=str (gJ F):=⟨_,rfl⟩;rw[<-LF]at i;have k:=laid LF;clear LF l v LC
 go_region_held3 (fun w'=>w'.cell? ⟨f,0,none⟩=some (.string rn))
  (first
   |go_keep
   |(rw[C.cell (by have:=Y.size;simp at this⊢;omega),Y.cell (by first|omega|(simp;omega))];assumption)
   |(rw[Y.cell (by first|omega|(simp;omega))];assumption))
  (first
   |(go_at_call 240;refine(Uy.out _).mono ?_;rintro e w' ⟨rfl,Y⟩)
   |(go_at_call 74;refine(i.out _ Y).mono ?_;rintro e U ⟨rfl,C⟩))
 have M:af w2.heap.size w2 (U.alloc (.cells #[.string rn,.string d] 9)):=by
  have m:af w2.heap.size w2 w':=⟨Y.os,Y.tape,Y.output,Y.size,Y.block⟩;have h2:=m.trans (C.mono m.size);exact h2.alloc h2.size _
 have J:(U.alloc (.cells #[.string rn,.string d] 9)).ownsRow w2.heap.size 9 1 (.slice (some ⟨U.heap.size,0,none⟩) 2 2) 2 [.string rn,.string d]:=
  ⟨rfl,.inr ⟨U.heap.size,2,_,rfl,by have m:=Y.size;have h2:=C.size;simp at m;omega,heap_alloc_new U _,aj _,by unfold aB;omega,rfl,rfl⟩⟩
 obtain⟨w4,tQ⟩:∃w4:ae,U.alloc (.cells #[.string rn,.string d] 9)=w4:=⟨_,rfl⟩;rw[tQ]at M J⊢;generalize U.heap.size=g4 at *;clear tQ Y C i Uy;have LG:w2.heap.size<=w4.heap.size:=M.size;clear a0;go_wp2_with fail
 obtain⟨R,K,zx,s,P,L,H⟩:∃(R:ae) (K:Nat),w4.alloc (.cells #[.string rn,.string rb,.string rm,.bool fl,.int .i64 (st:Int),.int .i64 (er:Int),.string lt,.string df] 158)=R/\w4.heap.size=K/\R.heap[K]?=some (.cells #[.string rn,.string rb,.string rm,.bool fl,.int .i64 (st:Int),.int .i64 (er:Int),.string lt,.string df] 158 (0,0))/\R.ownsRow w2.heap.size 9 1 (.slice (some ⟨g4,0,none⟩) 2 2) 2 [.string rn,.string d]/\af w2.heap.size w2 R:=
  ⟨_,_,rfl,rfl,heap_alloc_new w4 _,J.alloc _,M.alloc M.size _⟩
 rw[zx,s];have ajY:w2.heap.size<=g4:=by
  rcases J.2 with⟨h,_⟩|⟨g,cap,cur,h,h',_⟩
  ·cases h
  ·cases h;exact h'
 clear zx s J M LG q1;have O:K<R.heap.size:=(aX.1 P).1;have p4:R.cell? ⟨K,4,none⟩=some (.int .i64 (st:Int)):=by rw[ar R _ 4 _ _ _ P];rfl
 have p5:R.cell? ⟨K,5,none⟩=some (.int .i64 (er:Int)):=by rw[ar R _ 5 _ _ _ P];rfl
 have p6:R.cell? ⟨K,6,none⟩=some (.string lt):=by rw[ar R _ 6 _ _ _ P];rfl
 have p7:R.cell? ⟨K,7,none⟩=some (.string df):=by rw[ar R _ 7 _ _ _ P];rfl
 have x1:aI.wrap ((st:Int)+1)=(st:Int)+1:=aL _ (by omega);have un:∀{W:ae},af R.drew.heap.size R.drew W->af R.heap.size R W:=fun I=>⟨I.os,I.tape,I.output,I.size,I.block⟩;have HP:Hid (∀W:ae,af R.drew.heap.size R.drew W->W.cell? ⟨K,4,none⟩=some (.int .i64 (st:Int))/\W.cell? ⟨K,5,none⟩=some (.int .i64 (er:Int))/\W.cell? ⟨K,6,none⟩=some (.string lt)/\W.cell? ⟨K,7,none⟩=some (.string df)):=laid fun W I=>⟨by rw[(un I).cell (p:=⟨K,4,none⟩) O];exact p4,by rw[(un I).cell (p:=⟨K,5,none⟩) O];exact p5,by rw[(un I).cell (p:=⟨K,6,none⟩) O];exact p6,by rw[(un I).cell (p:=⟨K,7,none⟩) O];exact p7⟩;obtain⟨D1,LH⟩:∃D,D=str (gJ (st+1)):=⟨_,rfl⟩;obtain⟨D2,LI⟩:∃D,D=str (gJ er):=⟨_,rfl⟩;have t:=laid LH;have a:=laid LI;have UF:Hid (∀W:ae,W=R.drew\/af R.drew.heap.size R.drew W->ak ai 74 #[.int .i64 ((st:Int)+1)] W fun e w'=>e=.returned (.string D1)/\af W.heap.size W w'):=laid fun W I=>by
  rw[LH];refine yu _ (st+1) (by omega) W (by omega) (LD.out.on ?_);rcases I with rfl|I
  ·exact Go.below_drewN H 1
  ·exact H.trans ((un I).mono H.size)
 have UG:Hid (∀W:ae,af R.drew.heap.size R.drew W->ak ai 74 #[.int .i64 (er:Int)] W fun e w'=>e=.returned (.string D2)/\af W.heap.size W w'):=laid fun W I=>by
  rw[LI];exact yu _ er rfl W (by omega) (LD.out.on (H.trans ((un I).mono H.size)))
 have BM:Hid (∀(W:ae),af R.drew.heap.size R.drew W->∀o:Obj,(W.alloc o).ownsRow w2.heap.size 9 1 (.slice (some ⟨g4,0,none⟩) 2 2) 2 [.string rn,.string d]):=laid fun W I o=>(uv L (un I)).alloc _;have BN:Hid (∀(W:ae),af R.drew.heap.size R.drew W->∀o:Obj,w2.heap.size<=(W.alloc o).heap.size):=laid fun W I o=>by have m:=H.size;have h2:=(un I).size;simp;omega
 have n:=laid H;have BO:Hid (∀(W1 V:ae) (o:Obj),af R.drew.heap.size R.drew W1->(W1.alloc o).grownBy V (some g4)->V.cell? ⟨K,4,none⟩=some (.int .i64 (st:Int))/\V.cell? ⟨K,5,none⟩=some (.int .i64 (er:Int))/\V.cell? ⟨K,6,none⟩=some (.string lt)/\V.cell? ⟨K,7,none⟩=some (.string df)):=laid fun W1 V o I hg=>by
  have e1:V.heap[K]?=some (.cells #[.string rn,.string rb,.string rm,.bool fl,.int .i64 (st:Int),.int .i64 (er:Int),.string lt,.string df] 158 (0,0)):=by
   have hs:=(un I).size;rw[hg.block K (by simp;omega) (fun e=>x7 L P (by decide) e.symm),bD W1 _ (by omega),(un I).block K O];exact P
  exact⟨by rw[ar V _ 4 _ _ _ e1];rfl,by rw[ar V _ 5 _ _ _ e1];rfl,by rw[ar V _ 6 _ _ _ e1];rfl,by rw[ar V _ 7 _ _ _ e1];rfl⟩
 clear LH LI L H P un
 go_region_held3 (fun w'=>w'.cell? ⟨K,4,none⟩=some (.int .i64 (st:Int))/\w'.cell? ⟨K,5,none⟩=some (.int .i64 (er:Int))/\w'.cell? ⟨K,6,none⟩=some (.string lt)/\w'.cell? ⟨K,7,none⟩=some (.string df))
  (first
   |go_keep
   |exact BO.out _ _ _ (Y.trans (C.mono Y.size)) A
   |exact HP.out _ (Y.trans (C.mono Y.size))
   |exact HP.out _ Y)
  (first
   |(go_at_call 74;refine(UF.out _ (.inl rfl)).mono ?_;rintro e w' ⟨rfl,Y⟩)
   |(go_at_call 74;refine(UG.out _ Y).mono ?_;rintro e U ⟨rfl,C⟩)
   |(refine step_append_lies _ rfl _ _ 65 rfl w2.heap.size 9 i0 (.string ⟨#[]⟩) 1 16 bK hi sF qS sH rfl (by decide) _ 2 _ rfl (BM.out U (Y.trans (C.mono Y.size)) _) ⟨U.heap.size,0,none⟩ 5 5 [.string XN,.string D1,.string lt,.string D2,.string df] rfl rfl (dp (heap_alloc_new U _)) (fun u hu=>by simp at hu;rcases hu with rfl|rfl|rfl|rfl|rfl<;>rfl) (by omega) (by unfold aB;omega) (by omega) (BN.out U (Y.trans (C.mono Y.size)) _) _ rfl ?_;intro g5 Ee r c A FD Jx))
 rename_i I9;clear I9;have N:af w2.heap.size w2 r:=by
  have m:af R.heap.size R w':=⟨Y.os,Y.tape,Y.output,Y.size,Y.block⟩;have h2:=n.out.trans (m.mono n.out.size);have h3:=h2.trans (C.mono h2.size);exact(h3.alloc h3.size _).grown A (by have:=h3.size;simp;omega) (fun j q=>by cases q;exact ajY)
 have Q:r.ownsRow w2.heap.size 9 1 (.slice (some ⟨g5,0,none⟩) 7 Ee) 7 [.string rn,.string d,.string XN,.string D1,.string lt,.string D2,.string df]:=c;simp only[Nat.reduceAdd];clear c;clear A FD Jx Y C UF UG BM BN BO HP p4 p5 p6 p7 n LD;have z:r.heap[f]?=some (.cells #[.string rn,.string rb,.string rm] 131 (0,0)):=by rw[N.block f LA];exact UE.out
 have a1:r.cell? ⟨f,1,none⟩=some (.string rb):=by rw[ar r _ 1 _ _ _ z];rfl
 have a2:r.cell? ⟨f,2,none⟩=some (.string rm):=by rw[ar r _ 2 _ _ _ z];rfl
 have LG:w2.heap.size<=r.heap.size:=N.size;clear z UE;go_wp2_with(first
  |(at_builtin;refine aV _ rfl _ _ 65 rfl w2.heap.size 9 i0 (.string ⟨#[]⟩) 1 16 bK hi sF qS sH rfl (by decide) _ _ _ rfl (Q.alloc _) ⟨r.heap.size,0,none⟩ 2 2 [.string rb,.string rm] rfl rfl ?c1 ?c2 ?c3 ?c4 ?c5 ?_)
  |go_in)
 case c1=>
  intro j u q
  match j,q with
  |0,q=>simp at q;subst q;simp[Addr.add,go_sem]
  |1,q=>simp at q;subst q;simp[Addr.add,go_sem]
 case c2=>intro u hu;simp at hu;rcases hu with rfl|rfl<;>rfl
 case c3=>unfold aB;omega
 case c4=>omega
 case c5=>simp;omega
 intro v8 w8 S A _;have T:af w2.heap.size w2 w8:=(N.alloc N.size _).grown A (by simp;omega) (fun j q=>(Q.lt j q).1);obtain⟨g8,aoB,rfl⟩:∃g cap,v8=.slice (some ⟨g,0,none⟩) 9 cap:=by
  rcases S.2 with⟨_,h0⟩|⟨gg,cap,cur,hv,_⟩
  ·omega
  ·exact⟨gg,cap,hv⟩
 have HW:=laid (FU B w2.heap.size acc [rn,d,XN,D1,lt,D2,df,rb,rm] _ w8 (b.out.below T) S (by simp) (by simp) (by
  have h:=QF [rn,d,XN,D1,lt,D2,df,rb,rm] 10000 (fun x hx=>by
   have hd:=mN F (by omega);have hd4:d.size<=10000:=by rw[k.out,gR];omega
   have he:=mN (st+1) (by omega);have hd1:D1.size<=10000:=by rw[t.out,gR];omega
   have hf:=mN er (by omega);have hd2:D2.size<=10000:=by rw[a.out,gR];omega
   simp at hx;rcases hx with rfl|rfl|rfl|rfl|rfl|rfl|rfl|rfl|rfl<;>omega)
  simp at h;omega))
 have UH:=laid (G.trans (T.mono (by have:=b.out.lt;omega)));have BP:=laid (UD.trans (Kp.uq T));clear A Q N LG a1 a2 S T b G UD;go_wp2_with fail
 refine HW.out.mono ?_;rintro e w9 ⟨rfl,y,UI,UJ⟩;have HF:Hid (ia B (acc++na [rn,str (gJ F),XN,str (gJ (st+1)),lt,str (gJ er),df,rb,rm]++[10]) w9/\af B w w9/\Kp B w w9):=laid ⟨by rw[<-k.out,<-t.out,<-a.out];exact y,UH.out.trans UI,BP.out.trans UJ⟩;clear y UI UJ UH BP HW k t a;go_wp2
 go_end0
 exact⟨rfl,HF.out⟩
def AG(w:ae)(A n:Nat):Prop:=w.heap[A]?=some (.cells #[.int .i64 (n:Int)] 3 (0,0))
theorem AG.c0{A:Nat}(h:AG w A n):w.cell? ⟨A,0,none⟩=some (.int .i64 (n:Int)):=by rw[ar w A 0 _ _ _ h];rfl
theorem AG.fz{A:Nat}(h:AG w A n):w.frozen? ⟨A,0,none⟩=false:=yb h (by simp)
theorem AG.kp{A B:Nat}(h:AG w A n)(k:Kp B w w')(Y:A≠B):AG w' A n:=k A _ _ _ Y (by simp) h
theorem AG.put{A:Nat}(h:AG w A n)(m:Nat):AG (w.setCell ⟨A,0,none⟩ (.int .i64 (m:Int))) A m:=by
 exact x5 _ h
theorem OH{p:ah}{B A:Nat}{bs:List ah}{v:ah}(h:bP 102 5 B B p bs w)(C:AG w A n)(H:A≠B):bP 102 5 B B p bs (w.setCell ⟨A,0,none⟩ v):=by
 obtain⟨D,u,I,Y,U⟩:=h;have K:=Lib.BuilderAt.lt ⟨D,u,I,Y,U⟩;have R:=qi w A 0 v;refine⟨D,u,?_,Y.kept R (.inr (x7 Y C (by simp))),U⟩;rw[R.block B K (fun e=>H (by simp_all))];exact I
theorem ia.put{B A:Nat}{acc:List UInt8}{v:ah}(h:ia B acc w)(K:AG w A n)(Y:A≠B):ia B acc (w.setCell ⟨A,0,none⟩ v):=
 h.imp (fun h=>OH h K Y) (fun h=>OH h K Y)
theorem OI{B A:Nat}{v:ah}(h:B<=A):af B w (w.setCell ⟨A,0,none⟩ v):=(az B w).setCell h v
theorem PU(B A n:Nat)(acc:List UInt8)(W:ae)(C:ia B acc W)(U:AG W A n)(S:B<A)(O:n<=9999)(V:acc.length+10<=1000000)(M:iS W):
  ak ai 149 #[.pointer (some ⟨B,0,none⟩),.pointer (some ⟨A,0,none⟩)] W fun e w'=>e=.returned (.tuple #[])/\ia B (acc++gJ n) w'/\AG w' A 0/\af B W w':=by
 have c0:=U.c0;have P:=mN n O
 go_enter Tryz.func149,Tryz.ntmps149
 go_wp2_with fail
 refine(PO n _ O M).mono ?_;rintro e w2 ⟨rfl,K⟩;have I:=C.below K;have R:AG w2 A n:=U.kp (B:=B) (Kp.uq K) (by omega);have H:af B W w2:=K.mono (by have:=C.lt;omega);clear K c0;go_wp2_with fail
 refine(OG _ _ (str (gJ n)) _ I (by rw[gR];omega)).mono ?_;rintro e w3 ⟨rfl,F,L,N⟩;have Y:=R.kp N (by omega);have D:=H.trans L;have T:=Y.fz;have Q:=Y.c0;have J:Hid (ia B (acc++gJ n) (w3.setCell _ (.int .i64 0))/\AG _ A 0/\af B W (w3.setCell ⟨A,0,none⟩ (.int .i64 0))):=laid ⟨F.put Y (by omega),Y.put 0,D.trans (OI (by omega))⟩;go_wp2
 go_end0
 exact⟨rfl,J.out.1,J.out.2.1,J.out.2.2⟩
theorem V5(p t s:ByteArray)(w:ae)(hp:p.size<=1000)(ht:t.size<=1000)(hs:s.size<=1000)(m:Fits p t s)(To:∀x,x<s.size->at8 s x=77\/at8 s x=73\/at8 s x=68)(u_:iS w):
  ak ai 128 #[.string s,.string p,.string t] w fun e w'=>e=.returned (.string (str (jL p t s)))/\af w.heap.size w w':=by
 have ajZ:=laid m;have aj0:=laid To;have HT:=laid u_;clear m To u_
 go_enter Tryz.func128,Tryz.ntmps128
 go_wp2
 have h0:Hid (ia w.heap.size [] ((w.alloc (.cells #[.pointer none,.slice none 0 0] 102)).alloc (.cells #[.int .i64 0] 3))/\AG ((w.alloc (.cells #[.pointer none,.slice none 0 0] 102)).alloc (.cells #[.int .i64 0] 3)) (w.heap.size+1) 0/\af w.heap.size w ((w.alloc (.cells #[.pointer none,.slice none 0 0] 102)).alloc (.cells #[.int .i64 0] 3))):=laid (by
  refine⟨(ia.new w).below ((az _ _).alloc (aj _) _),?_,((az _ _).alloc (aj _) _).alloc (by simp) _⟩;unfold AG;have:=heap_alloc_new (w.alloc (.cells #[.pointer none,.slice none 0 0] 102)) (.cells #[.int .i64 0] 3);simpa using this)
 go_loopw [8,9,16] (fun iv jv xv wr=>∃x:Nat,iv=.int .i64 ((gF p t s x).i:Int)/\jv=.int .i64 ((gF p t s x).j:Int)/\xv=.int .i64 (x:Int)/\x<=s.size/\ia w.heap.size (gF p t s x).o wr/\AG wr (w.heap.size+1) (gF p t s x).n/\af w.heap.size w wr) (fun _ _ xv _=>s.size-(intOf xv).toNat)
 case atStart=>exact⟨0,rfl,rfl,rfl,aP _,h0.out.1,h0.out.2.1,h0.out.2.2⟩
 case round=>
  obtain⟨x,rfl,rfl,rfl,Ep,S,F,K⟩:=hrel;clear h0;have hle:=CU p t s x (by omega);by_cases b:x<s.size
  ·have TU:(x:Int)<(s.size:Int):=by omega
   have hx0:(0:Int)<=(x:Int):=by omega
   have FD:=jJ s x b;have r:=ajZ.out x b;have hlx:=aj0.out x b;have x1:aI.wrap ((x:Int)+1)=(x:Int)+1:=aL _ (by omega);have z:Hid (gF p t s (x+1)=mc p t s x (gF p t s x)):=laid rfl;generalize gF p t s x=st at *;obtain⟨O,I,J,N⟩:=st;simp only at *;have hdl:=mN N (by omega);have x2:aI.wrap ((I:Int)+1)=(I:Int)+1:=aL _ (by omega);have x3:aI.wrap ((J:Int)+1)=(J:Int)+1:=aL _ (by omega);have x4:aI.wrap ((N:Int)+1)=(N:Int)+1:=aL _ (by omega);have c:Hid (∀W:ae,ia w.heap.size O W->AG W (w.heap.size+1) N->af w.heap.size w W->ak ai 149 #[.pointer (some ⟨w.heap.size,0,none⟩),.pointer (some ⟨w.heap.size+1,0,none⟩)] W fun e w'=>e=.returned (.tuple #[])/\ia w.heap.size (O++gJ N) w'/\AG w' (w.heap.size+1) 0/\af w.heap.size W w'):=laid (fun W h1 h2 h3=>PU _ _ N O W h1 h2 (by omega) (by omega) (by omega) (HT.out.on h3));rcases hlx with u|l|d
   ·have e1:(((at8 s x).toNat:Int)==77)=true:=by rw[u];rfl
    have UK:=r.1 u;have hi1:(I:Int)<(p.size:Int):=by omega
    have Ev:(0:Int)<=(I:Int):=by omega
    have FE:(J:Int)<(t.size:Int):=by omega
    have hj0:(0:Int)<=(J:Int):=by omega
    have hpI:=jJ p I UK.1;have htJ:=jJ t J UK.2;have T:Hid (gF p t s (x+1)=if ag (at8 p I) (at8 t J)=true then⟨O,I+1,J+1,N+1⟩else⟨O++gJ N++[at8 t J],I+1,J+1,0⟩):=laid (by rw[z.out,mc,if_pos u]);clear u r z;have UL:=laid S;have f:=laid F;clear S F;go_wp2_with fail
    go_quiet((go_at_call 150;refine(Ht _ _ _).mono ?_;rintro e ze ⟨rfl,rfl⟩;exact⟨rfl,_,rfl⟩))
    have V:=Go.below_drewN K nq;have q:=UL.out.drewN nq;have L:AG (wr.drewN nq) (w.heap.size+1) N:=f.out;clear UL f;generalize wr.drewN nq=w1 at *;clear K;by_cases M:ag (at8 p I) (at8 t J)=true
    ·have A:Hid (gF p t s (x+1)=⟨O,I+1,J+1,N+1⟩):=laid (by rw[T.out,if_pos M]);rw[M];have c0:=L.c0;have f0:=L.fz;have C:Hid (ia w.heap.size O (w1.setCell ⟨w.heap.size+1,0,none⟩ (.int .i64 ((N:Int)+1)))/\AG (w1.setCell ⟨w.heap.size+1,0,none⟩ (.int .i64 ((N:Int)+1))) (w.heap.size+1) (N+1)/\af w.heap.size w (w1.setCell ⟨w.heap.size+1,0,none⟩ (.int .i64 ((N:Int)+1)))):=laid ⟨q.put L (by omega),L.put (N+1),V.trans (OI (by omega))⟩;clear T M q L c;go_wp2
     go_roundw
     case rel=>go_light;exact⟨x+1,ij (by rw[A.out];simp),ij (by rw[A.out];simp),by go_num,by omega,by rw[A.out];exact C.out.1,by rw[A.out];exact C.out.2.1,C.out.2.2⟩
     case measure=>go_light;simp[intOf];omega
    ·have A:Hid (gF p t s (x+1)=⟨O++gJ N++[at8 t J],I+1,J+1,0⟩):=laid (by rw[T.out,if_neg M]);rw[cm]at M;rw[M];have g:=laid (c.out w1 q L V);clear T M c q L;go_wp2_with fail
     refine g.out.mono ?_;rintro e w2 ⟨rfl,H,D,P⟩;have Y:=V.trans P;clear P g;go_wp2_with fail
     refine(vR _ _ (at8 t J) _ H (by rw[ao];omega)).mono ?_;rintro e w3 ⟨rfl,U,Q,E⟩;have C:Hid (ia w.heap.size (O++gJ N++[at8 t J]) w3/\AG w3 (w.heap.size+1) 0/\af w.heap.size w w3):=laid ⟨U,D.kp E (by omega),Y.trans Q⟩;clear Q E U D H Y V;go_wp2
     go_roundw
     case rel=>go_light;exact⟨x+1,ij (by rw[A.out];simp),ij (by rw[A.out];simp),by go_num,by omega,by rw[A.out];exact C.out.1,by rw[A.out];exact C.out.2.1,C.out.2.2⟩
     case measure=>go_light;simp[intOf];omega
   ·have e1:(((at8 s x).toNat:Int)==77)=false:=by rw[l];rfl
    have e2:(((at8 s x).toNat:Int)==73)=true:=by rw[l];rfl
    have A:Hid (gF p t s (x+1)=⟨O,I+1,J,N⟩):=laid (by rw[z.out,mc,if_neg (by rw[l];decide),if_pos l]);have C:=laid (And.intro S F);clear l r z c S F;go_wp2
    go_roundw
    case rel=>go_light;exact⟨x+1,ij (by rw[A.out];simp),ij (by rw[A.out]),by go_num,by omega,by rw[A.out];exact C.out.1,by rw[A.out];exact C.out.2,K⟩
    case measure=>go_light;simp[intOf];omega
   ·have e1:(((at8 s x).toNat:Int)==77)=false:=by rw[d];rfl
    have e2:(((at8 s x).toNat:Int)==73)=false:=by rw[d];rfl
    have e3:(((at8 s x).toNat:Int)==68)=true:=by rw[d];rfl
    have k:at8 s x≠77:=by rw[d];decide
    have a:at8 s x≠73:=by rw[d];decide
    have hJ:=r.2 k a;have FE:(J:Int)<(t.size:Int):=by omega
    have hj0:(0:Int)<=(J:Int):=by omega
    have htJ:=jJ t J hJ;have T:Hid (gF p t s (x+1)=if x=0\/at8 s (x-1)≠68 then⟨O++gJ N++[94]++[at8 t J],I,J+1,0⟩else⟨O++[at8 t J],I,J+1,N⟩):=laid (by rw[z.out,mc,if_neg k,if_neg a]);have g:=laid (c.out wr S F K);clear d r z c k a;have v:(((x:Int)==0)=true/\Hid (gF p t s (x+1)=⟨O++gJ N++[94]++[at8 t J],I,J+1,0⟩))\/∃y:Nat,((x:Int)==0)=false/\y<s.size/\aI.wrap ((x:Int)-1)=(y:Int)/\(((((at8 s y).toNat:Int) != 68)=true/\Hid (gF p t s (x+1)=⟨O++gJ N++[94]++[at8 t J],I,J+1,0⟩))\/((((at8 s y).toNat:Int) != 68)=false/\Hid (gF p t s (x+1)=⟨O++[at8 t J],I,J+1,N⟩))):=by
     by_cases UM:x=0
     ·exact .inl ⟨by simp;omega,laid (by rw[T.out,if_pos (.inl UM)])⟩
     ·refine .inr ⟨x-1,by simp;omega,by omega,by rw[show(x:Int)-1=((x-1:Nat):Int) by omega];exact aL _ (by omega),?_⟩;by_cases h:at8 s (x-1)=68
      ·exact .inr ⟨by rw[h];rfl,laid (by rw[T.out,if_neg (by rintro(h'|h');exact UM h';exact h' h)])⟩
      ·exact .inl ⟨toNat_ne h,laid (by rw[T.out,if_pos (.inr h)])⟩
    clear T;rcases v with⟨hd,A⟩|⟨y,hd,UN,UO,⟨hq,A⟩|⟨hq,A⟩⟩
    ·skip
     clear S F;go_wp2_with fail
     refine g.out.mono ?_;rintro e w2 ⟨rfl,H,D,P⟩;have Y:=K.trans P;clear P g K;go_wp2_with fail
     refine(vR _ _ 94 _ H (by rw[ao];omega)).mono ?_;rintro e w3 ⟨rfl,U,Q,E⟩;have X:=D.kp E (by omega);have R:=Y.trans Q;clear Q E D H Y;go_wp2_with fail
     refine(vR _ _ (at8 t J) _ U (by rw[ao,ao];simp;omega)).mono ?_;rintro e w4 ⟨rfl,B,Z,G⟩;have C:Hid (ia w.heap.size (O++gJ N++[94]++[at8 t J]) w4/\AG w4 (w.heap.size+1) 0/\af w.heap.size w w4):=laid ⟨B,X.kp G (by omega),R.trans Z⟩;clear Z G B X U R;go_wp2
     go_roundw
     case rel=>go_light;exact⟨x+1,ij (by rw[A.out]),ij (by rw[A.out];simp),by go_num,by omega,by rw[A.out];exact C.out.1,by rw[A.out];exact C.out.2.1,C.out.2.2⟩
     case measure=>go_light;simp[intOf];omega
    ·obtain⟨aj1,hy1,hy0⟩:s[y]=at8 s y/\(y:Int)<(s.size:Int)/\(0:Int)<=(y:Int):=⟨jJ s y UN,by omega,by omega⟩;clear S F;go_wp2_with fail
     refine g.out.mono ?_;rintro e w2 ⟨rfl,H,D,P⟩;have Y:=K.trans P;clear P g K;go_wp2_with fail
     refine(vR _ _ 94 _ H (by rw[ao];omega)).mono ?_;rintro e w3 ⟨rfl,U,Q,E⟩;have X:=D.kp E (by omega);have R:=Y.trans Q;clear Q E D H Y;go_wp2_with fail
     refine(vR _ _ (at8 t J) _ U (by rw[ao,ao];simp;omega)).mono ?_;rintro e w4 ⟨rfl,B,Z,G⟩;have C:Hid (ia w.heap.size (O++gJ N++[94]++[at8 t J]) w4/\AG w4 (w.heap.size+1) 0/\af w.heap.size w w4):=laid ⟨B,X.kp G (by omega),R.trans Z⟩;clear Z G B X U R;go_wp2
     go_roundw
     case rel=>go_light;exact⟨x+1,ij (by rw[A.out]),ij (by rw[A.out];simp),by go_num,by omega,by rw[A.out];exact C.out.1,by rw[A.out];exact C.out.2.1,C.out.2.2⟩
     case measure=>go_light;simp[intOf];omega
    ·have aj1:=jJ s y UN;have hy1:(y:Int)<(s.size:Int):=by omega
     have hy0:(0:Int)<=(y:Int):=by omega
     have f:=laid F;clear F g;go_wp2_with fail
     refine(vR _ _ (at8 t J) _ S (by omega)).mono ?_;rintro e w4 ⟨rfl,B,Z,G⟩;have C:Hid (ia w.heap.size (O++[at8 t J]) w4/\AG w4 (w.heap.size+1) N/\af w.heap.size w w4):=laid ⟨B,f.out.kp G (by omega),K.trans Z⟩;clear Z G B f S K;go_wp2
     go_roundw
     case rel=>go_light;exact⟨x+1,ij (by rw[A.out]),ij (by rw[A.out];simp),by go_num,by omega,by rw[A.out];exact C.out.1,by rw[A.out];exact C.out.2.1,C.out.2.2⟩
     case measure=>go_light;simp[intOf];omega
  ·have UP:x=s.size:=by omega
   have C:Hid (str ((gF p t s x).o++gJ (gF p t s x).n)=str (jL p t s)):=laid (by unfold jL;rw[UP]);have g:=laid (PU _ _ (gF p t s x).n (gF p t s x).o wr S F (by omega) (by omega) (by omega) (HT.out.on K));clear UP hle;generalize gF p t s x=st at *;obtain⟨O,I,J,N⟩:=st;simp only at *;clear S F;go_wp2_with fail
   refine g.out.mono ?_;rintro e w2 ⟨rfl,H,D,P⟩;have Y:=K.trans P;clear P g D;go_wp2_with fail
   refine(Cn _ _ _ H).mono ?_;rintro e w3 ⟨rfl,Q⟩;have R:=Y.trans Q;clear Q H;go_wp2
   go_ret
   exact⟨Qa C.out,R⟩
def cutAt(s:ByteArray)(c:UInt8)(i:Nat):Bool:=decide (i=s.size)||decide (at8 s i=c)
def mo(s:ByteArray)(c:UInt8):Nat->Nat
 |0=>0
 |i+1=>if cutAt s c i=true then i+1 else mo s c i
def iK(s:ByteArray)(c:UInt8):Nat->List ByteArray
 |0=>[]
 |i+1=>if cutAt s c i=true then iK s c i++[s.extract (mo s c i) i]else iK s c i
theorem QG(s:ByteArray)(c:UInt8):∀i,mo s c i<=i
 |0=>aj _
 |i+1=>by
  have:=QG s c i;unfold mo;split<;>omega
theorem Hk(s:ByteArray)(c:UInt8):∀i,(iK s c i).length<=i
 |0=>aj _
 |i+1=>by
  have:=Hk s c i;unfold iK;split
  ·rw[ao];simp;omega
  ·omega
def sV(s:ByteArray):Value:=.string s
theorem acK:(ai.info? 9).map (fun i=>(i.zero,i.size,i.bytes))=some (some (.string ⟨#[]⟩),1,16):=by kernel_rfl
theorem aaR(s:ByteArray)(c:UInt8)(w:ae)(hs:s.size<=100000000):
  ak ai 40 #[.string s,.int .u8 (c.toNat:Int)] w fun e w'=>∃v,e=.returned v/\w'.ownsRow w.heap.size 9 1 v (iK s c (s.size+1)).length ((iK s c (s.size+1)).map sV)/\af w.heap.size w w':=by
 obtain⟨i0,d,Q,S,T⟩:=bg acK
 go_enter Tryz.func40,Tryz.ntmps40
 go_wp2
 go_loopw [5,6,7] (fun v f i wr=>∃n:Nat,i=.int .i64 (n:Int)/\n<=s.size+1/\f=.int .i64 (mo s c n:Int)/\wr.ownsRow w.heap.size 9 1 v (iK s c n).length ((iK s c n).map sV)/\af w.heap.size w wr) (fun _ _ i _=>s.size+1-(intOf i).toNat)
 case atStart=>exact⟨0,rfl,aP _,rfl,⟨rfl,.inl ⟨rfl,rfl⟩⟩,az _ _⟩
 case round=>
  obtain⟨n,rfl,a,rfl,R,Y⟩:=hrel;have y:=QG s c n;have m:=Hk s c n;have U:cutAt s c n=true->mo s c (n+1)=n+1/\iK s c (n+1)=iK s c n++[s.extract (mo s c n) n]:=fun h=>⟨by rw[mo,if_pos h],by rw[iK,if_pos h]⟩;have C:cutAt s c n=false->mo s c (n+1)=mo s c n/\iK s c (n+1)=iK s c n:=fun h=>⟨by rw[mo,if_neg (by rw[h];simp)],by rw[iK,if_neg (by rw[h];simp)]⟩;have J:cutAt s c n=(decide (n=s.size)||decide (at8 s n=c)):=rfl;have M:=laid (show n=s.size+1->iK s c n=iK s c (s.size+1)from fun h=>by rw[h]);generalize mo s c n=F at *;by_cases x:n<=s.size
  ·by_cases I:n=s.size
   ·have N:=laid (U (by rw[J,decide_eq_true I];rfl));clear U C J M;have E:((n:Int)==(s.size:Int))=true:=by simp;omega
    have b:(F:Int)<=(n:Int):=by omega
    have t:(n:Int)<=(s.size:Int):=by omega
    clear I;go_wp2_with(first
     |(at_builtin;refine aV _ rfl _ _ 65 rfl w.heap.size 9 i0 (.string ⟨#[]⟩) 1 16 bK d Q S T rfl (by decide) _ _ _ rfl (R.alloc _) ⟨wr.heap.size,0,none⟩ 1 1 [sV (s.extract F n)] rfl rfl ?c1 ?c2 ?c3 ?c4 ?c5 ?_)
     |go_in)
    case c1=>
     intro j u B
     match j,B with
     |0,B=>simp at B;subst B;simp[Addr.add,sV]
    case c2=>intro u P;simp at P;subst P;rfl
    case c3=>unfold aB;omega
    case c4=>omega
    case c5=>have:=Y.size;simp;omega
    intro v' X K H _;have A:af w.heap.size w X:=(Y.alloc Y.size _).grown H (by have:=Y.size;simp;omega) (fun j B=>(R.lt j B).1);have D:X.ownsRow w.heap.size 9 1 v' (iK s c (n+1)).length ((iK s c (n+1)).map sV):=by
     rw[N.out.2,ao,aN];exact K
    obtain⟨g,cap,V,rfl⟩:∃g cap V,v'=.slice (some ⟨g,0,none⟩) V cap:=by
     rcases K.2 with⟨_,o⟩|⟨g,cap,Z,W,_⟩
     ·omega
     ·exact⟨g,cap,_,W⟩
    clear K H;go_wp2
    go_roundw
    case rel=>go_light;exact⟨n+1,by go_num,by omega,ij (by rw[N.out.1];omega),D,A⟩
    case measure=>go_light;simp[intOf];omega
   ·have O:n<s.size:=by omega
    have E:((n:Int)==(s.size:Int))=false:=by simp;omega
    have r:(n:Int)<(s.size:Int):=by omega
    have p:=jJ s n O;by_cases L:at8 s n=c
    ·have N:=laid (U (by rw[J,decide_eq_true L,cM]));have G:=toNat_eq L;clear U C J M I L;go_wp2_with(first
      |(at_builtin;refine aV _ rfl _ _ 65 rfl w.heap.size 9 i0 (.string ⟨#[]⟩) 1 16 bK d Q S T rfl (by decide) _ _ _ rfl (R.alloc _) ⟨wr.heap.size,0,none⟩ 1 1 [sV (s.extract F n)] rfl rfl ?c1 ?c2 ?c3 ?c4 ?c5 ?_)
      |go_in)
     case c1=>
      intro j u B
      match j,B with
      |0,B=>simp at B;subst B;simp[Addr.add,sV]
     case c2=>intro u P;simp at P;subst P;rfl
     case c3=>unfold aB;omega
     case c4=>omega
     case c5=>have:=Y.size;simp;omega
     intro v' X K H _;have A:af w.heap.size w X:=(Y.alloc Y.size _).grown H (by have:=Y.size;simp;omega) (fun j B=>(R.lt j B).1);have D:X.ownsRow w.heap.size 9 1 v' (iK s c (n+1)).length ((iK s c (n+1)).map sV):=by
      rw[N.out.2,ao,aN];exact K
     obtain⟨g,cap,V,rfl⟩:∃g cap V,v'=.slice (some ⟨g,0,none⟩) V cap:=by
      rcases K.2 with⟨_,o⟩|⟨g,cap,Z,W,_⟩
      ·omega
      ·exact⟨g,cap,_,W⟩
     clear K H;go_wp2
     go_roundw
     case rel=>go_light;exact⟨n+1,by go_num,by omega,ij (by rw[N.out.1];omega),D,A⟩
     case measure=>go_light;simp[intOf];omega
    ·have q:=laid (C (by rw[J,decide_eq_false I,decide_eq_false L];rfl));have G:=toNat_ne L;clear U C J M I L;have D:wr.ownsRow w.heap.size 9 1 u5 (iK s c (n+1)).length ((iK s c (n+1)).map sV):=by
      rw[q.out.2];exact R
     go_wp2
     go_roundw
     case rel=>go_light;exact⟨n+1,by go_num,by omega,ij (by rw[q.out.1]),D,Y⟩
     case measure=>go_light;simp[intOf];omega
  ·have z:n=s.size+1:=by omega
   have l:=laid (M.out z);clear U C J M z;go_wp2
   go_ret
   exact⟨u5,rfl,by rw[<-l.out];exact R,Y⟩
def nH(c:UInt8):Bool:=decide (48<=c.toNat/\c.toNat<=57)
def ni(s:ByteArray):Nat->Nat
 |0=>0
 |i+1=>10 *ni s i+((at8 s i).toNat-48)
def nb(s:ByteArray):Nat->Bool
 |0=>true
 |i+1=>nb s i&&nH (at8 s i)
def kt(s:ByteArray):Int:=if 1<=s.size/\s.size<=6/\nb s s.size=true then(ni s s.size:Int)else-1
theorem Rx(s:ByteArray):∀i,nb s i=true->ni s i<10 ^ i
 |0,_=>by simp[ni]
 |i+1,h=>by
  simp only[nb,nH,cL,decide_eq_true_eq]at h;have:=Rx s i h.1;rw[ni,Nat.pow_succ];omega
theorem OJ(s:ByteArray):∀{i j:Nat},i<=j->nb s j=true->nb s i=true
 |i,0,h,_=>by rw[Nat.le_zero.1 h];rfl
 |i,j+1,h,k=>by
  simp only[nb,cL]at k;by_cases e:i=j+1
  ·rw[e,nb,k.1,k.2];rfl
  ·exact OJ s (by omega) k.1
theorem NP(s:ByteArray)(w:ae)(E:s.size<=100000000):
  ak ai 26 #[.string s] w fun e w'=>e=.returned (.int .i64 (kt s))/\w'=w:=by
 by_cases V:s.size<1
 ·have g1:(s.size:Int)<1:=by omega
  have R:Hid (kt s= -1):=laid (by rw[kt,if_neg (by omega)])
  go_enter di,dj
  go_wp2
  go_ret
  exact⟨by rw[R.out];rfl,rfl⟩
 by_cases X:6<s.size
 ·have g1:¬(s.size:Int)<1:=by omega
  have O:(6:Int)<(s.size:Int):=by omega
  have R:Hid (kt s= -1):=laid (by rw[kt,if_neg (by omega)])
  go_enter di,dj
  go_wp2
  go_ret
  exact⟨by rw[R.out];rfl,rfl⟩
 have g1:¬(s.size:Int)<1:=by omega
 have O:¬(6:Int)<(s.size:Int):=by omega
 go_enter di,dj
 go_wp2
 go_loop [3,4] (fun n i=>∃k:Nat,k<=s.size/\i=.int .i64 (k:Int)/\n=.int .i64 (ni s k:Int)/\nb s k=true) (fun _ i=>s.size-(intOf i).toNat)
 case atStart=>exact⟨0,aP _,rfl,rfl,rfl⟩
 case round=>
  obtain⟨k,hk,rfl,rfl,Y⟩:=hrel;have G:ni s k<1000000:=aZ (Rx s k Y) (Nat.pow_le_pow_right (by decide) (show k<=6 by omega));have L:Hid (ni s (k+1)=10 *ni s k+((at8 s k).toNat-48)):=laid rfl;have J:Hid (nb s (k+1)=(nb s k&&nH (at8 s k))):=laid rfl;have F:Hid (nb s k=true):=laid Y;have A:Hid (k=s.size->kt s=(ni s k:Int)):=laid fun e=>by rw[kt,if_pos ⟨by omega,by omega,e▸Y⟩,e]
  have I:Hid (k<s.size->nH (at8 s k)=false->kt s= -1):=laid fun e h=>by
   rw[kt,if_neg];rintro⟨_,_,P⟩;have:=OJ s (show k+1<=s.size by omega) P;rw[nb,h,Bool.and_false]at this;cases this
  clear Y;generalize ni s k=N at *;by_cases H:k<s.size
  ·have S:(k:Int)<(s.size:Int):=by omega
   have Q:=jJ s k H;have D:=I.out H;clear I A;generalize at8 s k=C at *;have Z:=C.toNat_lt;by_cases d1:C.toNat<48
   ·have K:=laid (D (by simp[nH];omega));clear D;have U:(C.toNat:Int)<48:=by omega
    go_wp2
    go_ret
    exact⟨by rw[K.out];rfl,rfl⟩
   ·by_cases d2:57<C.toNat
    ·have K:=laid (D (by simp[nH];omega));clear D;have U:¬(C.toNat:Int)<48:=by omega
     have M:(57:Int)<(C.toNat:Int):=by omega
     go_wp2
     go_ret
     exact⟨by rw[K.out];rfl,rfl⟩
    ·clear D;have U:¬(C.toNat:Int)<48:=by omega
     have M:¬(57:Int)<(C.toNat:Int):=by omega
     have T:(48:Int)<=(C.toNat:Int):=by omega
     go_wp2
     go_round
     case rel=>go_light;exact⟨k+1,by omega,by go_num,ij (by rw[L.out];omega),by rw[J.out,F.out];simp[nH];omega⟩
     case measure=>go_light;simp[intOf];omega
  ·have B:k=s.size:=by omega
   have K:=laid (A.out B);clear A I B;go_wp2
   go_ret
   exact⟨by rw[K.out];rfl,rfl⟩
theorem Cr(s:ByteArray)(c:UInt8):∀i,∀x∈iK s c i,x.size<=s.size
 |0,x,h=>by simp[iK]at h
 |i+1,x,h=>by
  unfold iK at h;split at h
  ·rw[bc,bT]at h;rcases h with h|rfl
   ·exact Cr s c i x h
   ·rw[bk];omega
  ·exact Cr s c i x h
abbrev nS:ByteArray:=⟨#[]⟩
def oh(s:ByteArray):List ByteArray:=iK s 9 (s.size+1)
def qF(P:List ByteArray):List Value:=[.string (P.getD 0 nS),.int .i64 (kt (P.getD 1 nS)),.string (P.getD 2 nS),.int .i64 (kt (P.getD 3 nS)),.string (P.getD 4 nS),.string (P.getD 5 nS),.string (P.getD 6 nS),.string (P.getD 7 nS),.string (P.getD 8 nS)]
def wu(L:List ByteArray):Nat->List ah
 |0=>[]
 |i+1=>wu L i++qF (oh (L.getD (i+1) nS))
theorem OK{B:Nat}{v:ah}{L:List ByteArray}(h:w.ownsRow B e 1 v L.length (L.map sV))(F:1<=L.length):∃g cap Y,v=.slice (some ⟨g,0,none⟩) L.length cap/\B<=g/\w.heap[g]?=some (.cells Y e)/\∀i,i<L.length->Y[i]?=some (.string (L.getD i nS)):=by
 rcases h.2 with⟨_,I⟩|⟨g,cap,Y,rfl,H,D,A,U,C,R⟩
 ·omega
 ·refine⟨g,cap,Y,rfl,H,D,fun i K=>?_⟩;have:=congrArg (·[i]?) R;simp only[Nat.mul_one,bu K,bF,bp]at this;rw[this,aA K,ax,aA K];rfl
theorem QH:(ai.info? 42).map (fun i=>(i.zero,i.size,i.bytes))=some (some (.agg #[.string nS,.int .i64 0,.string nS,.int .i64 0,.string nS,.string nS,.string nS,.string nS,.string nS]),9,128):=by kernel_rfl
theorem Ar(l:List UInt8)(a b:Nat):(str l).extract a b=str ((l.take b).drop a):=by
 apply ByteArray.ext;apply Array.ext';simp[str,dK]
section
variable{c:UInt8}{A B:List UInt8}(I:c∉A)
include I
theorem agC(i:Nat)(Y:i<A.length):cutAt (str (A++B)) c i=false:=by
 have K:¬i=(str (A++B)).size:=by rw[gR,ao];omega
 have H:¬at8 (str (A++B)) i=c:=by
  rw[ny,ax,dO Y,aA Y];intro e;exact I (e▸cA Y)
 simp only[cutAt,decide_eq_false K,decide_eq_false H,Bool.or_self]
theorem IC(B:List UInt8):∀i,i<=A.length->iK (str (A++B)) c i=[]/\mo (str (A++B)) c i=0
 |0,_=>⟨rfl,rfl⟩
 |i+1,h=>by
  have:=IC B i (by omega);have Y:=agC (B:=B) I i (by omega);exact⟨by rw[iK,Y];exact this.1,by rw[mo,Y];exact this.2⟩
theorem aeN:iK (str A) c (A.length+1)=[str A]:=by
 have:=IC I [] A.length (aj _);rw[cx]at this;have Y:cutAt (str A) c A.length=true:=by
  have:A.length=(str A).size:=(gR A).symm;simp only[cutAt,decide_eq_true this,dA]
 rw[iK,if_pos Y,this.1,this.2,Ar];simp
theorem QI:∀i,i<=B.length+1->iK (str (A++c::B)) c (A.length+1+i)=str A::iK (str B) c i/\mo (str (A++c::B)) c (A.length+1+i)=A.length+1+mo (str B) c i
 |0,_=>by
  have:=IC I (c::B) A.length (aj _);have Y:cutAt (str (A++c::B)) c A.length=true:=by
   have:at8 (str (A++c::B)) A.length=c:=by rw[ny,ax];simp
   simp only[cutAt,decide_eq_true this,cM]
  refine⟨?_,?_⟩
  ·show(if cutAt _ c A.length=true then _ else _)=_
   rw[if_pos Y,this.1,this.2,Ar];simp[iK]
  ·show(if cutAt _ c A.length=true then _ else _)=_
   rw[if_pos Y];rfl
 |i+1,h=>by
  obtain⟨U,H⟩:=QI i (by omega);have Y:cutAt (str (A++c::B)) c (A.length+1+i)=cutAt (str B) c i:=by
   have K:(A.length+1+i=(str (A++c::B)).size)=(i=(str B).size):=by
    rw[gR,gR,ao,cB];exact propext (by omega)
   have R:i<B.length->at8 (str (A++c::B)) (A.length+1+i)=at8 (str B) i:=fun D=>by
    rw[ny,ny,ax,ax,dP (by omega),show A.length+1+i-A.length=i+1 by omega,List.getElem?_cons_succ]
   by_cases D:i<B.length
   ·simp only[cutAt,K,R D]
   ·have:i=(str B).size:=by rw[gR];omega
    simp only[cutAt,K,decide_eq_true this,dA]
  have C:(str (A++c::B)).extract (A.length+1+mo (str B) c i) (A.length+1+i)=(str B).extract (mo (str B) c i) i:=by
   rw[Ar,Ar,show A++c::B=(A++[c])++B by simp,show A.length+1=(A++[c]).length by simp,List.take_length_add_append,List.drop_length_add_append]
  refine⟨?_,?_⟩
  ·rw[<-cE,iK,Y,U,H,iK];split
   ·rw[C];rfl
   ·rfl
  ·rw[<-cE,mo,Y,H,mo];split<;>omega
theorem acL:iK (str (A++c::B)) c ((str (A++c::B)).size+1)=str A::iK (str B) c ((str B).size+1):=by
 have:=(QI (B:=B) I (B.length+1) (aj _)).1;rw[gR,gR,ao,cB,show A.length+(B.length+1)+1=A.length+1+(B.length+1) by omega];exact this
end
def jX(c:UInt8):List (List UInt8)->List UInt8
 |[]=>[]
 |x::xs=>x++c::jX c xs
theorem Hm(c:UInt8)(T:List UInt8)(K:c∉T):∀Y:List (List UInt8),(∀x∈Y,c∉x)->iK (str (jX c Y++T)) c ((str (jX c Y++T)).size+1)=Y.map str++[str T]
 |[],_=>by
  rw[jX,dW,gR];exact aeN K
 |x::xs,h=>by
  rw[jX,bR,List.cons_append,acL (h x (by simp)),Hm c T K xs (fun y H=>h y (by simp[H]))];rfl
theorem aiG:ai.underlying 42=some (.struct (ai.fieldsOf 42)):=by kernel_rfl
theorem aeO:ai.stoodInHeld 42=false:=by kernel_rfl
theorem acM{a b:ByteArray}:a.toList=b.toList↔a=b:=by
 rw[dB,dB];exact⟨fun h=>ByteArray.ext (Array.ext' h),fun h=>h▸rfl⟩
section
variable(p0 p2 p4 p5 p6 p7 p8 q0 q2 q4 q5 q6 q7 q8:ByteArray)(y1 y3 z1 z3:Int)(w:ae)
theorem acN:(binOp .eql 42 (.agg #[.string p0,.int .i64 y1,.string p2,.int .i64 y3,.string p4,.string p5,.string p6,.string p7,.string p8]) (.agg #[.string q0,.int .i64 z1,.string q2,.int .i64 z3,.string q4,.string q5,.string q6,.string q7,.string q8])).run ai w=.ok (.bool (decide (p0=q0/\y1=z1/\p2=q2/\y3=z3/\p4=q4/\p5=q5/\p6=q6/\p7=q7/\p8=q8))) w/\(binOp .neq 42 (.agg #[.string p0,.int .i64 y1,.string p2,.int .i64 y3,.string p4,.string p5,.string p6,.string p7,.string p8]) (.agg #[.string q0,.int .i64 z1,.string q2,.int .i64 z3,.string q4,.string q5,.string q6,.string q7,.string q8])).run ai w=.ok (.bool (!decide (p0=q0/\y1=z1/\p2=q2/\y3=z3/\p4=q4/\p5=q5/\p6=q6/\p7=q7/\p8=q8))) w:=by
 have key:∀f:Bool->ah,(((Op.equalIn 10000 42 (.agg #[.string p0,.int .i64 y1,.string p2,.int .i64 y3,.string p4,.string p5,.string p6,.string p7,.string p8]) (.agg #[.string q0,.int .i64 z1,.string q2,.int .i64 z3,.string q4,.string q5,.string q6,.string q7,.string q8])).run ai w).andThen fun b w'=>.ok (f b) w')=.ok (f (decide (p0=q0/\y1=z1/\p2=q2/\y3=z3/\p4=q4/\p5=q5/\p6=q6/\p7=q7/\p8=q8))) w:=fun f=>by
  rw[show(10000:Nat)=9999+1 from rfl,run_equalIn_agg _ _ _ _ _ aiG aeO];simp[go_sem,Op.eqFields,Program.fieldsOf,Tryz.underlying42,acM]
  repeat' split
  all_goals simp_all
 exact⟨(run_eql_struct w 42 _ _).trans (key Value.bool),(run_neq_struct w 42 _ _).trans (key fun b=>.bool !b)⟩
end
end
section
open RowKit Maps Go.Sort Shelf
theorem acO(m:Nat):AnyZI.SortsIn ai Tryz.MZ Fence.wide m:=
 ⟨fun blk off cap D W H Y K=>callsIn_wide.2 (AnyM.slices_Sort_int Tryz.Sq blk off cap D W H Y K),
  fun p cap W=>callsIn_wide.2 (AnyM.slices_Sort_int_none Tryz.Sq p cap W)⟩
theorem X3(mb:Option Nat)(W:ae):
  ak ai 124 #[.map mb] W fun e w'=>e=.returned (.func (.func 143) #[] #[.pointer (some ⟨W.heap.size,0,none⟩)])/\w'=W.alloc (.cells #[.map mb] 166):=by
 refine(ez (n:=5)).1 ?_;exact AnyZI.keys_in Tryz.Sp _ 5 trivial rfl mb W
theorem WH{H:Type}(b C:Nat)(D0:DataW H)(R:ah->Option _)(w:ae)(Y:w.ownsMap ai 3 R b C D0)(O:Maps.size D0<=10000):
  ak ai 123 #[.func (.func 143) #[] #[.pointer (some ⟨w.heap.size,0,none⟩)]] (w.alloc (.cells #[.map (some b)] 166)) fun e w'=>∃(v:ah) (U:List Int),e=.returned v/\U.Perm (bZ D0)/\
   w'.ownsRow w.heap.size 3 1 v U.length ((U.mergeSort (fun x y=>decide (x<=y))).map encZ)/\af w.heap.size w w':=by
 refine(ez (n:=5)).1 ?_;have A:=Y.lt;have D:SeqGives Fence.wide 2 _ 143 _ _ _ _ (w.alloc (.cells #[.map (some b)] 166)):=
  AnyZI.keys_gives {Tryz.Sp with} _ _ trivial rfl (by omega) w.heap.size b C D0 _ (by simp) (by simp) (by
   obtain⟨es,clock,I,F,N,L⟩:=Y;exact⟨es,clock,(Below.heap_alloc _ _ b A).trans I,F,N,L⟩)
 have J:=AnyZI.sorted_in Tryz.aeC _ 5 trivial trivial trivial trivial rfl (by omega) (acO _) (enters_of Tryz.func142 (by kernel_rfl) rfl) 143 _ trivial (enters_of Tryz.func143 (by kernel_rfl) rfl) _ _ (by unfold aB;omega) (by omega) _ D;refine J.mono ?_;rintro e w' ⟨v,U,rfl,M,K,B,I⟩;exact⟨v,U,rfl,M,ownsRow_base_a K (by simp),((az _ w).alloc (aj _) _).trans (I.mono (by simp))⟩
end
section
structure Good(q:Nat)(p t:ByteArray)(i j:Nat)(l:List (Nat×Nat)):Prop where
 FF:∀w∈l,w.1+q<=i/\w.2+q<=j/\∀u,u<q->ag (at8 p (w.1+u)) (at8 t (w.2+u))=true
 up:l.Pairwise fun a b=>a.1<b.1/\a.2<b.2
theorem Good.nil(q:Nat)(p t:ByteArray)(i j:Nat):Good q p t i j []:=⟨fun _ h=>by simp at h,List.Pairwise.nil⟩
theorem Good.mono{t:ByteArray}{i i' j':Nat}{l:List _}(h:Good q p t i j l)(Y:i<=i')(K:j<=j'):Good q p t i' j' l:=
 ⟨fun w hw=>by have:=h.FF w hw;exact⟨by omega,by omega,this.2.2⟩,h.up⟩
structure rH(p t:ByteArray)(i j r:Nat):Prop where
 li:r<=i
 lj:r<=j
 all:∀u,u<r->ag (at8 p (i-1-u)) (at8 t (j-1-u))=true
theorem rH.zero(p t:ByteArray)(i j:Nat):rH p t i j 0:=⟨aP _,aP _,fun u h=>by omega⟩
theorem rH.succ{t:ByteArray}{i r:Nat}(h:rH p t i j r)(Y:ag (at8 p i) (at8 t j)=true):rH p t (i+1) (j+1) (r+1):=
 ⟨by have:=h.li;omega,by have:=h.lj;omega,fun u K=>by
  cases u with
  |zero=>simpa using Y
  |succ u=>
   have:=h.all u (by omega);rw[show i+1-1-(u+1)=i-1-u by omega,show j+1-1-(u+1)=j-1-u by omega];omega⟩
theorem Cg(q:Nat)(U:1<=q)(p t:ByteArray):∀i j,∃l r,Good q p t i j l/\rH p t i j r/\i+(q-1-min r (q-1))<=l.length+q *dT p t i j+(q-1)
 |0,j=>⟨[],0,Good.nil _ _ _ _ _,rH.zero _ _ _ _,by
   have:0<=q *dT p t 0 j:=aP _;simp only[cV];omega⟩
 |i+1,0=>⟨[],0,Good.nil _ _ _ _ _,rH.zero _ _ _ _,by
   rw[dT];have:i+1<=q *(i+1):=Nat.le_mul_of_pos_left _ U;simp only[cV];omega⟩
 |i+1,j+1=>by
  have D:dT p t (i+1) (j+1)=dT p t i j+cost p t i j\/dT p t (i+1) (j+1)=dT p t i (j+1)+1\/dT p t (i+1) (j+1)=dT p t (i+1) j+1:=by rw[dT];omega
  rcases D with h|h|h
  ·obtain⟨l,r,K,hr,H⟩:=Cg q U p t i j;by_cases R:ag (at8 p i) (at8 t j)=true
   ·have A:cost p t i j=0:=if_pos R;have h:dT p t (i+1) (j+1)=dT p t i j:=by rw[h,A];rfl
    rw[h];have Y:=hr.succ R;by_cases C:q<=r+1
    ·refine⟨l++[(i+1-q,j+1-q)],r+1,⟨fun w hw=>?_,?_⟩,Y,?_⟩
     ·rw[bc,bT]at hw;rcases hw with hw|hw
      ·have:=K.FF w hw;exact⟨by omega,by omega,this.2.2⟩
      ·subst hw;have F:=Y.li;have J:=Y.lj;refine⟨by simp only;omega,by simp only;omega,fun u L=>?_⟩;have:=Y.all (q-1-u) (by omega);simp only;rw[show i+1-q+u=i+1-1-(q-1-u) by omega,show j+1-q+u=j+1-1-(q-1-u) by omega];exact this
     ·refine dX.2 ⟨K.up,List.pairwise_singleton _ _,fun a I b B=>?_⟩;rw[bT]at B;subst B;have:=K.FF a I;simp only;omega
     ·rw[ao];simp only[cB,cV];omega
    ·exact⟨l,r+1,K.mono (by omega) (by omega),Y,by omega⟩
   ·have A:cost p t i j=1:=if_neg R;rw[A]at h;rw[h,da];exact⟨l,0,K.mono (by omega) (by omega),rH.zero _ _ _ _,by omega⟩
  ·obtain⟨l,r,K,hr,H⟩:=Cg q U p t i (j+1);rw[h,da];exact⟨l,0,K.mono (by omega) (by omega),rH.zero _ _ _ _,by omega⟩
  ·obtain⟨l,r,K,hr,H⟩:=Cg q U p t (i+1) j;rw[h,da];exact⟨l,0,K.mono (by omega) (by omega),rH.zero _ _ _ _,by omega⟩
theorem Cs(P:Nat->Bool):∀k (xs:List Nat),xs.Nodup->(∀x∈xs,x<k/\P x=true)->xs.length<=((bA k).countP P)
 |0,xs,_,h=>by
  cases xs with
  |nil=>simp
  |cons a l=>have:=(h a (by simp)).1;omega
 |k+1,xs,K,h=>by
  rw[cX,dJ];by_cases hk:k∈xs
  ·have R:=(h k hk).2;have D:=Cs P k _ (K.erase k) (fun x Y=>by
    have H:=(K.mem_erase_iff).1 Y;have:=h x H.2;exact⟨by omega,this.2⟩)
   simp_all
  ·have D:=Cs P k xs K (fun x Y=>by
    have:x≠k:=fun e=>hk (e▸Y);have:=h x Y;exact⟨by omega,this.2⟩)
   omega
theorem Ct(s:ByteArray)(q:Nat)(z:List _)(Y:lu z=true):∀k,iT s q z k=(bA k).countP (fun x=>decide (ir s q x=z))
 |0=>rfl
 |k+1=>by
  rw[iT,Ct s q z Y k,cX,dJ];simp_all
theorem OL(f:Nat×Nat->List _)(Y:List _):∀(l:List _),(∀w∈l,f w∈Y)->l.length<=jF (fun z=>l.countP (fun w=>decide (f w=z))) Y
 |[],_=>aP _
 |w::l,h=>by
  have I:=OL f Y l (fun w' U=>h w' (by simp_all));have H:1<=jF (fun z=>if f w=z then 1 else 0) Y:=by
   have A:=h w (by simp);clear I h;induction Y with
   |nil=>simp at A
   |cons a Y D=>
    have e:jF (fun z=>if f w=z then 1 else 0) (a::Y)=(if f w=a then 1 else 0)+jF (fun z=>if f w=z then 1 else 0) Y:=by simp[jF]
    rw[e];by_cases B:f w=a
    ·simp_all
    ·simp_all
  have K:jF (fun z=>(w::l).countP (fun w=>decide (f w=z))) Y=jF (fun z=>l.countP (fun w=>decide (f w=z))) Y+jF (fun z=>if f w=z then 1 else 0) Y:=by
   clear I H h;induction Y with
   |nil=>rfl
   |cons a Y D=>
    have R:∀g,jF g (a::Y)=g a+jF g Y:=fun g=>by simp[jF]
    rw[R,R,R,D];have:(w::l).countP (fun w=>decide (f w=a))=l.countP (fun w=>decide (f w=a))+(if f w=a then 1 else 0):=by
     rw[List.countP_cons];simp
    omega
  rw[K,cB];omega
theorem acP(f g:List _->Nat)(Y:List _)(h:∀z∈Y,f z<=g z):jF f Y<=jF g Y:=by
 induction Y with
 |nil=>exact aj _
 |cons a Y D=>
  have K:∀g,jF g (a::Y)=g a+jF g Y:=fun g=>by simp[jF]
  rw[K,K];have:=D (fun z H=>h z (by simp[H]));have:=h a (by simp);omega
theorem X4(p S:ByteArray)(q:Nat)(F:1<=q)(l:List (Nat×Nat))(C:l.Pairwise fun a b=>a.1<b.1/\a.2<b.2)
  (H:∀w∈l,w.1+q<=p.size/\w.2+q<=S.size/\ir p q w.1=ir S q w.2/\lu (ir p q w.1)=true):l.length<=sb p S q:=by
 have U:=BX p q (p.size+1-q);have Y:=fun z=>Cf p q z (p.size+1-q);rw[<-NO p S q F _ U Y];refine aK (OL (fun w=>ir p q w.1) _ l (fun w hw=>?_)) (acP _ _ _ (fun z J=>?_))
 ·have h:=H w hw;rw[Y,Ct p q _ h.2.2.2];refine List.countP_pos_iff.2 ⟨w.1,by rw[dV];omega,by simp⟩
 ·have L:=(Y z).1 J;have R:lu z=true:=by
   cases A:lu z with
   |true=>rfl
   |false=>
    have:∀k,iT p q z k=0:=fun k=>by
     induction k with
     |zero=>rfl
     |succ k M=>rw[iT,M,if_neg (fun e=>by simp_all)]
    simp_all
  have I:l.countP _=(l.filter (fun w=>decide (ir p q w.1=z))).length:=List.countP_eq_length_filter;have B:(l.filter (fun w=>decide (ir p q w.1=z))).Pairwise _:=C.filter _;have K:∀w∈l.filter (fun w=>decide (ir p q w.1=z)),w.1+q<=p.size/\w.2+q<=S.size/\ir p q w.1=z/\ir S q w.2=z:=fun w hw=>by
   rw[List.mem_filter]at hw;have h:=H w hw.1;simp_all
  generalize l.filter (fun w=>decide (ir p q w.1=z))=m at *;have N:m.length<=lV p q z:=by
   unfold lV;rw[Ct p q z R];have A:(m.map (·.1)).Nodup:=bU.2 (B.imp fun h=>by omega);have:=Cs (fun x=>decide (ir p q x=z)) (p.size+1-q) _ A (fun x D=>by
    rw[bj]at D;obtain⟨w,hw,rfl⟩:=D;have:=K w hw;exact⟨by omega,decide_eq_true this.2.2.1⟩)
   simpa using this
  have O:m.length<=lV S q z:=by
   unfold lV;rw[Ct S q z R];have A:(m.map (·.2)).Nodup:=bU.2 (B.imp fun h=>by omega);have:=Cs (fun x=>decide (ir S q x=z)) (S.size+1-q) (m.map (·.2)) A (fun x D=>by
    rw[bj]at D;obtain⟨w,hw,rfl⟩:=D;have:=K w hw;exact⟨by omega,decide_eq_true this.2.2.2⟩)
   simpa using this
  unfold oc;omega
theorem vu(X:ByteArray)(a c i:Nat)(Y:c<=X.size)(K:a+i<c):at8 (X.extract a c) i=at8 X (a+i):=by
 unfold at8;rw[cn,ck];simp only[ax];rw[cz,if_pos (by omega),cT]
theorem I_{a b:UInt8}(h:ag a b=true):a=b/\a≠78:=by
 unfold ag at h;simp at h;exact h
theorem H0(s:ByteArray)(q x:Nat)(h:x+q<=s.size):(ir s q x).length=q:=by
 show(s.extract x _).size=q;simp_all
theorem H2(s:ByteArray)(q x u:Nat)(h:x+q<=s.size)(H:u<q):(ir s q x)[u]?=some (at8 s (x+u)):=by
 have Y:=vu s x _ u h (by omega);unfold at8 at Y;unfold ir;have K:u<(s.extract x (x+q)).data.toList.length:=by
  show u<(s.extract x _).size;simp_all
 rw[ax,aA K]at Y;rw[aA K];simp only[ei]at Y;rw[Y];rfl
theorem aeP{S:ByteArray}{x y:Nat}(K:x+q<=p.size)(H:y+q<=S.size)(h:∀u,u<q->at8 p (x+u)=at8 S (y+u)):ir p q x=ir S q y:=by
 apply dL;intro u;by_cases Y:u<q
 ·rw[H2 p q x u K Y,H2 S q y u H Y,h u Y]
 ·rw[cy (by rw[H0 p q x K];omega),cy (by rw[H0 S q y H];omega)]
theorem agD{x:Nat}(Y:x+q<=p.size)(h:∀u,u<q->at8 p (x+u)≠78):lu (ir p q x)=true:=by
 unfold lu;rw[Bool.not_eq_true',<-cm,List.contains_iff_mem];intro H;obtain⟨u,D,e⟩:=List.getElem_of_mem H;have R:=H0 p q x Y;have K:=H2 p q x u Y (by omega);rw[aA D,e]at K;exact h u (by omega) (by simp_all)
theorem We(p X:ByteArray)(k q a c s e:Nat)(U:1<=q)(has:a<=s)(M:s<=e)(C:e<=c)(K:c<=X.size)(hd:iY p (X.extract s e)<=k):
  oR p.size k q<=(sb p (X.extract a c) q:Int):=by
 obtain⟨l,r,I,hr,F⟩:=Cg q U p (X.extract s e) p.size (X.extract s e).size;have Y:(X.extract s e).size=e-s:=by rw[bk];omega
 have R:(X.extract a c).size=c-a:=by simp_all
 have A:l.length<=sb p (X.extract a c) q:=by
  have B:(l.map fun w=>(w.1,w.2+(s-a))).length=l.length:=cU ..;rw[<-B];refine X4 p (X.extract a c) q U _ (bU.2 (I.up.imp fun h=>by simp only;omega)) (fun w hw=>?_);rw[bj]at hw;obtain⟨v,J,rfl⟩:=hw;have h:=I.FF v J;rw[Y]at h;refine⟨h.1,by rw[R];simp only;omega,aeP h.1 (by rw[R];simp only;omega) (fun u H=>?_),agD h.1 (fun u H=>(I_ (h.2.2 u H)).2)⟩;have D:=(I_ (h.2.2 u H)).1;rw[vu X s e _ (by omega) (by omega)]at D;simp only;rw[vu X a c _ K (by omega),D];congr 1;omega
 unfold iY at hd;have L:=Nat.mul_le_mul_left q hd;unfold oR;rw[db k q];omega
theorem DK(p t:ByteArray):∀i j,j<=i+dT p t i j/\i<=j+dT p t i j
 |0,j=>by simp[dT]
 |i+1,0=>by simp[dT]
 |i+1,j+1=>by
  have Y:=DK p t i j;have K:=DK p t i (j+1);have H:=DK p t (i+1) j;rw[dT];omega
theorem CJ(p X:ByteArray)(k s e:Nat)(H:s<=e)(K:e<=X.size)(hd:iY p (X.extract s e)<=k):e<=s+p.size+k:=by
 have h:=(DK p (X.extract s e) p.size (X.extract s e).size).1;have Y:(X.extract s e).size=e-s:=by simp_all
 unfold iY at hd;omega
theorem Zl(p X:ByteArray)(k q st s e:Nat)(U:1<=q)(gj:1<=st)(Y:s<=e)(K:e<=X.size)(hd:iY p (X.extract s e)<=k):
  looked p X k q st (oR p.size k q) ((e-(p.size+k))/st)=true:=by
 have H:=CJ p X k s e Y K hd;have R:(e-(p.size+k))/st *st<=e-(p.size+k):=cY _ _;have D:e-(p.size+k)<(e-(p.size+k))/st *st+st:=by
  have:=ec (e-(p.size+k)) st;have I:=c_ (e-(p.size+k)) (show 0<st by omega);rw[db]at this;omega
 unfold looked;rw[Bool.or_eq_true];right;refine decide_eq_true ?_;refine We p X k q _ _ s e U (by omega) Y ?_ ?_ hd
 ·unfold pn;omega
 ·unfold pn;omega
theorem Ae{t p' t':ByteArray}:∀i j,(∀x,x<i->at8 p x=at8 p' x)->(∀y,y<j->at8 t y=at8 t' y)->dT p t i j=dT p' t' i j
 |0,j,_,_=>by simp[dT]
 |i+1,0,_,_=>by simp[dT]
 |i+1,j+1,Y,K=>by
  rw[dT,dT,Ae i j (fun x h=>Y x (by omega)) (fun y h=>K y (by omega)),Ae i _ (fun x h=>Y x (by omega)) K,Ae _ j Y (fun y h=>K y (by omega))];unfold cost;simp_all
def dF(p t:ByteArray)(s i j:Nat):=dT p (t.extract s t.size) i (j-s)
theorem aiH(p t:ByteArray)(s e i:Nat)(K:s<=e)(Y:e<=t.size):dT p (t.extract s e) i (e-s)=dF p t s i e:=by
 refine Ae i _ (fun _ _=>rfl) (fun y H=>?_);rw[vu t s e y Y (by omega),vu t s _ y (aj _) (by omega)]
theorem PV(p t:ByteArray)(s e:Nat)(K:s<=e)(Y:e<=t.size):iY p (t.extract s e)=dF p t s p.size e:=by
 have h:(t.extract s e).size=e-s:=by simp_all
 unfold iY;rw[h];exact aiH p t s e _ K Y
theorem yk(p t:ByteArray)(s i:Nat):dF p t s i s=i:=by
 unfold dF;cases i<;>simp[dT]
theorem CY(p t:ByteArray)(s i j:Nat)(K:s<=j)(Y:j<t.size):dF p t s (i+1) (j+1)=min (min (dF p t s i j+cost p t i j) (dF p t s i (j+1)+1)) (dF p t s (i+1) j+1):=by
 unfold dF;rw[show j+1-s=(j-s)+1 by omega,dT];have:cost p (t.extract s t.size) i (j-s)=cost p t i j:=by
  unfold cost;rw[vu t s _ _ (aj _) (by omega),show s+(j-s)=j by omega]
 omega
def sT(p t:ByteArray)
 |0,_=>0
 |i+1,0=>i+1
 |i+1,j+1=>min (min (sT p t i j+cost p t i j) (sT p t i (j+1)+1)) (sT p t (i+1) j+1)
theorem H3(p t:ByteArray):∀i j,sT p t i j<=i
 |0,j=>by simp[sT]
 |i+1,0=>by simp[sT]
 |i+1,j+1=>by have:=H3 p t i (j+1);rw[sT];omega
theorem AX(p t:ByteArray):∀i j,j<=t.size->∀s,s<=j->sT p t i j<=dF p t s i j
 |0,j,_,s,_=>by simp[sT]
 |i+1,0,_,s,Y=>by
  have:s=0:=by omega
  subst this;rw[yk];exact H3 p t _ _
 |i+1,j+1,K,s,Y=>by
  rcases bq j s with h|h
  ·have:s=j+1:=by omega
   subst this;rw[yk];exact H3 p t _ _
  ·have H:=AX p t i j (by omega) s h;have D:=AX p t i (j+1) K s Y;have R:=AX p t (i+1) j (by omega) s h;rw[sT,CY p t s i j h (by omega)];omega
theorem DN(p t:ByteArray):∀i j,j<=t.size->∃s,s<=j/\dF p t s i j=sT p t i j
 |0,j,_=>⟨j,aj _,by rw[yk,sT]⟩
 |i+1,0,_=>⟨0,aj _,by rw[yk,sT]⟩
 |i+1,j+1,D=>by
  have key:∃s,s<=j+1/\dF p t s (i+1) (j+1)<=sT p t (i+1) (j+1):=by
   have K:sT p t (i+1) (j+1)=sT p t i j+cost p t i j\/sT p t (i+1) (j+1)=sT p t i (j+1)+1\/sT p t (i+1) (j+1)=sT p t (i+1) j+1:=by rw[sT];omega
   rcases K with h|h|h
   ·obtain⟨s,Y,e⟩:=DN p t i j (by omega);exact⟨s,by omega,by rw[CY p t s i j Y (by omega),h];omega⟩
   ·obtain⟨s,Y,e⟩:=DN p t i (j+1) D;rcases bq j s with h'|h'
    ·have:s=j+1:=by omega
     subst this;rw[yk]at e;exact⟨j+1,aj _,by rw[yk,h];omega⟩
    ·exact⟨s,Y,by rw[CY p t s i j h' (by omega),h];omega⟩
   ·obtain⟨s,Y,e⟩:=DN p t (i+1) j (by omega);exact⟨s,by omega,by rw[CY p t s i j Y (by omega),h];omega⟩
  obtain⟨s,Y,H⟩:=key;exact⟨s,Y,ef H (AX p t (i+1) (j+1) D s Y)⟩
theorem Na(p t:ByteArray)(k e:Nat):∀c,c<=e+1->
  (∀x,x<c->(nz p t k e c).1<=iY p (t.extract (e-x) e))/\
  ((nz p t k e c).1<=k->∃x,x<c/\(nz p t k e c).2=e-x/\iY p (t.extract (e-x) e)=(nz p t k e c).1/\∀y,y<x->(nz p t k e c).1<iY p (t.extract (e-y) e))
 |0,_=>⟨fun x h=>by omega,fun h=>by simp[nz]at h;omega⟩
 |c+1,I=>by
  obtain⟨K,D⟩:=Na p t k e c (by omega);by_cases h:iY p (t.extract (e-c) e)<(nz p t k e c).1
  ·rw[nz,if_pos h];refine⟨fun x H=>?_,fun hk=>⟨c,by omega,rfl,rfl,fun y R=>?_⟩⟩
   ·rcases bq x c with Y|Y
    ·have:=K x Y;omega
    ·have:x=c:=by omega
     simp_all
   ·have:=K y R;omega
  ·rw[nz,if_neg h];refine⟨fun x H=>?_,fun hk=>?_⟩
   ·rcases bq x c with Y|Y
    ·simp_all
    ·have:x=c:=by omega
     subst this;omega
   ·obtain⟨x,H,a,b,d⟩:=D hk;exact⟨x,by omega,a,b,d⟩
theorem zZ(p t:ByteArray)(k e:Nat)(K:e<=t.size):
  (∀s,s<=e->iY p (t.extract s e)<=k->(ib p t k e).1<=iY p (t.extract s e))/\
  ((ib p t k e).1<=k->(ib p t k e).2<=e/\iY p (t.extract (ib p t k e).2 e)=(ib p t k e).1/\(∀s,s<=e->(ib p t k e).1<=iY p (t.extract s e))/\∀s,(ib p t k e).2<s->s<=e->(ib p t k e).1<iY p (t.extract s e)):=by
 have U:tries p k e=min e _+1:=rfl;obtain⟨H,D⟩:=Na p t k e (tries p k e) (by omega);have I:=fun s Y hd=>by
  have B:=CJ p t k s e Y K hd;have:=H (e-s) (by omega);rw[show e-(e-s)=s by omega]at this;exact this
 refine⟨I,fun hk=>?_⟩;obtain⟨x,C,a,b,d⟩:=D hk;refine⟨FY p t k e _,by unfold ib;rw[a];exact b,fun s Y=>?_,fun s Y A=>?_⟩
 ·rcases bq k (iY p (t.extract s e))with h|h
  ·omega
  ·exact I s Y h
 ·have R:(ib p t k e).2=e-x:=a;have:=d (e-s) (by omega);rw[show e-(e-s)=s by omega]at this;exact this
theorem Mj(X:ByteArray)(a c s e:Nat)(has:a<=s)(H:s<=e)(K:e<=c)(Y:c<=X.size):(X.extract a c).extract (s-a) (e-a)=X.extract s e:=by
 rw[<-Cq];simp only[cn,ck,dM];rw[dK,List.drop_drop,List.take_take,show a+(s-a)=s by omega];congr 1;omega
theorem Zm(p X:ByteArray)(a c s e:Nat)(has:a<=s)(H:s<=e)(K:e<=c)(Y:c<=X.size):sT p (X.extract a c) p.size (e-a)<=iY p (X.extract s e):=by
 have D:(X.extract a c).size=c-a:=by simp_all
 have:=AX p (X.extract a c) p.size (e-a) (by omega) (s-a) (by omega);rw[<-PV p _ _ _ (by omega) (by omega),Mj X a c s e has H K Y]at this;omega
theorem Zn(p X:ByteArray)(a c e:Nat)(H:a<=e)(K:e<=c)(Y:c<=X.size):∃s,a<=s/\s<=e/\iY p (X.extract s e)=sT p (X.extract a c) p.size (e-a):=by
 have R:(X.extract a c).size=c-a:=by simp_all
 obtain⟨s,D,h⟩:=DN p (X.extract a c) _ (e-a) (by omega);rw[<-PV p _ s _ D (by omega)]at h;have:=Mj X a c (a+s) e (by omega) (by omega) K Y;rw[show a+s-a=s by omega]at this;rw[this]at h;exact⟨a+s,by omega,by omega,h⟩
theorem Me(p X:ByteArray)(k a c e:Nat)(Y:a<=e)(H:e<=c)(K:c<=X.size)(hk:sT p (X.extract a c) p.size (e-a)<=k):(ib p X k e).1<=sT p (X.extract a c) p.size (e-a):=by
 obtain⟨s,has,D,h⟩:=Zn p X a c e Y H K;rw[<-h]at hk⊢;exact(zZ p X k e (by omega)).1 s D hk
theorem Xc(p X:ByteArray)(k st e:Nat)(gj:1<=st)(H:e<=X.size)(hk:(ib p X k e).1<=k):
  (e-(p.size+k))/st *st<=e/\e<=pn p.size X.size k st ((e-(p.size+k))/st)/\sT p (X.extract ((e-(p.size+k))/st *st) (pn p.size X.size k st ((e-(p.size+k))/st))) p.size (e-(e-(p.size+k))/st *st)=(ib p X k e).1:=by
 obtain⟨R,A,B,C⟩:=(zZ p X k e H).2 hk;have I:=CJ p X k _ e R H (by omega);have F:(e-(p.size+k))/st *st<=e-(p.size+k):=cY _ _;have U:e-(p.size+k)<(e-(p.size+k))/st *st+st:=by
  have:=ec (e-(p.size+k)) st;have J:=c_ (e-(p.size+k)) (show 0<st by omega);rw[db]at this;omega
 have Y:e<=pn p.size X.size k st ((e-(p.size+k))/st):=by unfold pn;omega
 have K:pn p.size X.size k st ((e-(p.size+k))/st)<=X.size:=by unfold pn;omega
 refine⟨by omega,Y,?_⟩;have D:=Zm p X _ _ _ e (show(e-(p.size+k))/st *st<=(ib p X k e).2 by omega) R Y K;rw[A]at D;exact ef D (Me p X k _ _ e (by omega) Y K (by omega))
inductive Ed:List UInt8->List UInt8->Nat->Prop
 |nil:Ed [] [] 0
 |sub {x y:List UInt8} {n:Nat} (a b:UInt8):Ed x y n->Ed (x++[a]) (y++[b]) (n+co a b)
 |del {x y:List UInt8} {n:Nat} (a:UInt8):Ed x y n->Ed (x++[a]) y (n+1)
 |ins {x y:List UInt8} {n:Nat} (b:UInt8):Ed x y n->Ed x (y++[b]) (n+1)
theorem Ed.aj2{x y:List _}(a b:UInt8)(h:Ed x y n):Ed (a::x) (b::y) (n+co a b):=by
 induction h with
 |nil=>simpa using Ed.sub a b Ed.nil
 |@sub x y n c d _ Y=>have:=Ed.sub c d Y;rw[show n+co c d+co a b=n+co a b+co c d by omega];exact this
 |@del x y n c _ Y=>have:=Ed.del c Y;rw[show n+1+co a b=n+co a b+1 by omega];exact this
 |@ins x y n d _ Y=>have:=Ed.ins d Y;rw[show n+1+co a b=n+co a b+1 by omega];exact this
theorem Ed.aj3{x y:List _}(a:UInt8)(h:Ed x y n):Ed (a::x) y (n+1):=by
 induction h with
 |nil=>simpa using Ed.del a Ed.nil
 |@sub x y n c d _ Y=>have:=Ed.sub c d Y;rw[show n+co c d+1=n+1+co c d by omega];exact this
 |@del x y n c _ Y=>exact Ed.del c Y
 |@ins x y n d _ Y=>exact Ed.ins d Y
theorem Ed.aj4{x y:List _}(b:UInt8)(h:Ed x y n):Ed x (b::y) (n+1):=by
 induction h with
 |nil=>simpa using Ed.ins b Ed.nil
 |@sub x y n c d _ Y=>have:=Ed.sub c d Y;rw[show n+co c d+1=n+1+co c d by omega];exact this
 |@del x y n c _ Y=>exact Ed.del c Y
 |@ins x y n d _ Y=>exact Ed.ins d Y
theorem Ed.rev{x y:List _}(h:Ed x y n):Ed x.reverse y.reverse n:=by
 induction h with
 |nil=>exact .nil
 |sub a b _ Y=>rw[cC,cC];exact Y.aj2 a b
 |del a _ Y=>rw[cC];exact Y.aj3 a
 |ins b _ Y=>rw[cC];exact Y.aj4 b
theorem vw(s:ByteArray)(i:Nat)(h:i<s.size):s.data.toList.take (i+1)=s.data.toList.take i++[at8 s i]:=by
 rw[List.take_succ_eq_append_getElem _];unfold at8;rw[ax,aA (by simp_all)];rfl
theorem ID(p t:ByteArray)(i:Nat):dT p t i 0=i:=by
 cases i with
 |zero=>rw[dT]
 |succ i=>rw[dT]
theorem Ed.yQ(p t:ByteArray):∀i j,i<=p.size->j<=t.size->Ed (p.data.toList.take i) (t.data.toList.take j) (dT p t i j)
 |0,0,_,_=>by simpa[dT]using Ed.nil
 |0,j+1,Y,K=>by
  have:=Ed.ins (at8 t j) (Ed.yQ p t 0 j Y (by omega));rw[<-vw t j (by omega)]at this;simpa[dT]using this
 |i+1,0,Y,K=>by
  have I:dT p t i 0=i:=ID p t i;have:=Ed.del (at8 p i) (Ed.yQ p t i 0 (by omega) K);rw[<-vw p i (by omega),I]at this;simpa[dT]using this
 |i+1,j+1,Y,K=>by
  have H:=Ed.sub (at8 p i) (at8 t j) (Ed.yQ p t i j (by omega) (by omega));have R:=Ed.del (at8 p i) (Ed.yQ p t i (j+1) (by omega) K);have D:=Ed.ins (at8 t j) (Ed.yQ p t (i+1) j Y (by omega));rw[<-vw p i (by omega),<-vw t j (by omega)]at H;rw[<-vw p i (by omega)]at R;rw[<-vw t j (by omega)]at D;have A:co (at8 p i) (at8 t j)=cost p t i j:=rfl;rw[A]at H;rw[dT];rcases cG (dT p t i j+cost p t i j) (dT p t i (j+1)+1)with a|a
  ·rw[cZ a];rcases cG (dT p t i j+cost p t i j) (dT p t (i+1) j+1)with b|b
   ·rw[cZ b];exact H
   ·rw[c9 b];exact D
  ·rw[c9 a];rcases cG (dT p t i (j+1)+1) (dT p t (i+1) j+1)with b|b
   ·rw[cZ b];exact R
   ·rw[c9 b];exact D
theorem CK{x:List _}{a:UInt8}(H:(x++[a]).length<=s.size)(h:x++[a]=s.data.toList.take (x++[a]).length):x.length<s.size/\x=s.data.toList.take x.length/\a=at8 s x.length:=by
 have Y:=by simp at H;omega
 rw[ao,bH,vw s _ Y]at h;have:=List.append_inj h (by simp;omega);refine⟨Y,this.1,?_⟩;have K:=this.2;simpa using K
theorem Ed.le{x y:List UInt8}(h:Ed x y n)(p t:ByteArray):x.length<=p.size->y.length<=t.size->x=p.data.toList.take x.length->y=t.data.toList.take y.length->dT p t x.length y.length<=n:=by
 induction h with
 |nil=>simp[dT]
 |@sub x y n a b _ R=>
  intro Y K H D;obtain⟨a1,a2,a3⟩:=CK Y H;obtain⟨C,I,A⟩:=CK K D;have:=R (by omega) (by omega) a2 I;rw[ao,ao,bH,bH,dT,a3,A];have J:co _ _=cost p t x.length y.length:=rfl;omega
 |@del x y n a _ R=>
  intro Y K H D;obtain⟨a1,a2,a3⟩:=CK Y H;have:=R (by omega) K a2 D;rw[ao,bH];cases B:y.length with
  |zero=>
   rw[B]at this;have F:dT p t _ 0=x.length:=ID p t _;rw[dT];omega
  |succ j=>rw[B]at this;rw[dT];omega
 |@ins x y n b _ R=>
  intro Y K H D;obtain⟨C,I,A⟩:=CK K D;have:=R Y (by omega) H I;rw[ao,bH];cases U:x.length with
  |zero=>rw[U]at this;simp[dT]at this⊢;omega
  |succ i=>rw[U]at this;rw[dT];omega
def rev8(s:ByteArray):=str s.data.toList.reverse
theorem vH(s:ByteArray):(rev8 s).size=s.size:=by unfold rev8;rw[gR];simp
theorem Cu(s:ByteArray):(rev8 s).data.toList=s.data.toList.reverse:=by simp[rev8,str]
theorem Nc(p t:ByteArray):iY (rev8 p) (rev8 t)<=iY p t:=by
 have h:=(Ed.yQ p t _ _ (aj _) (aj _)).rev;have Y:p.data.toList.take p.size=p.data.toList:=cD (by simp);have K:t.data.toList.take t.size=t.data.toList:=cD (by simp);rw[Y,K]at h;have:=h.le (rev8 p) (rev8 t) (by rw[vH];simp) (by rw[vH];simp) (by rw[Cu,cD (by simp)]) (by rw[Cu,cD (by simp)]);unfold iY;rw[vH,vH];simp_all
theorem OM(s:ByteArray):rev8 (rev8 s)=s:=by
 simp[rev8,str]
theorem acQ(p t:ByteArray):iY (rev8 p) (rev8 t)=iY p t:=by
 have K:=Nc p t;have Y:=Nc (rev8 p) (rev8 t);rw[OM,OM]at Y;omega
def nI(X o:ByteArray)(e:Nat)
 |0=>id
 |c+1=>mr (nI X o e c) (c+1) (at8 X (e-(c+1))) o
theorem aeQ(a b:UInt8):co a b=co b a:=by
 unfold co ag;by_cases h:a=b
 ·simp_all
 ·have Y:(a==b)=false:=by simp_all
  have K:(b==a)=false:=by simpa using fun e=>h e.symm
  simp_all
theorem QJ(X:ByteArray)(e c:Nat)(H:e<=X.size)(K:c<e):at8 (rev8 (X.extract 0 e)) c=at8 X (e-(c+1)):=by
 unfold at8;rw[Cu];have Y:(X.extract 0 e).data.toList.length=e:=by simp;omega
 rw[ax,dQ (by omega),ax,Y];congr 1;simp only[cn,ck];rw[bu (by omega),cT];congr 1;omega
theorem Dg(X o:ByteArray)(e:Nat)(Y:e<=X.size):∀c,c<=e->∀j,nI X o e c j=dT o (rev8 (X.extract 0 e)) j c
 |0,_,j=>by rw[ID];rfl
 |c+1,K,0=>by rw[dT];rfl
 |c+1,K,j+1=>by
  have H:=Dg X o e Y c (by omega) j;have i2:=Dg X o e Y c (by omega) (j+1);have i3:=Dg X o e Y (c+1) K j;rw[dT];show min _ (nI X o e (c+1) j+1)=_
  rw[H,i2,i3,aeQ,<-QJ X e c Y (by omega)];have K:co _ _=cost o (rev8 (X.extract 0 e)) j c:=rfl;omega
theorem PW(X P:ByteArray)(e c:Nat)(Y:e<=X.size)(K:c<=e):nI X (rev8 P) e c P.size=iY P (X.extract (e-c) e):=by
 rw[Dg X (rev8 P) e Y c K,<-acQ P (X.extract (e-c) e)];unfold iY;have D:(rev8 (X.extract (e-c) e)).size=c:=by rw[vH,bk];omega
 rw[vH,D];refine Ae _ _ (fun _ _=>rfl) fun y R=>?_;rw[QJ X e y Y (by omega)];unfold at8;rw[Cu];have H:(X.extract (e-c) e).data.toList.length=c:=by simp;omega
 rw[ax,ax,dQ (by omega),H];congr 1;simp only[cn,ck];rw[dM];rw[bu (by omega),cT];congr 1;omega
def pU(p t:ByteArray)(k n:Nat):=(lA p t k n).map (·.2.1)
def iZ(p t:ByteArray)(k:Nat):=(iE p t k).map (·.2.1)
theorem GX(p t:ByteArray)(k e:Nat):∀n,e∈pU p t k n↔e<n/\(ib p t k e).1<=k
 |0=>by simp[pU,lA]
 |n+1=>by
  have Y:=GX p t k e n;unfold pU at *;rw[lA];split
  ·rw[aN,bc,Y];simp;constructor
   ·rintro(⟨a,b⟩|rfl)
    ·omega
    ·omega
   ·omega
  ·rename_i h;rw[Y];constructor
   ·omega
   ·rintro⟨a,b⟩;by_cases K:e<n
    ·omega
    ·have:e=n:=by omega
     subst this;omega
theorem NQ(p t:ByteArray)(k:Nat):∀n,(pU p t k n).Pairwise (· < ·)
 |0=>by simp[pU,lA]
 |n+1=>by
  have K:=NQ p t k n;have Y:=fun e=>GX p t k e n;unfold pU at *;rw[lA];split
  ·rw[aN,dX];simp_all
  ·omega
theorem GY(p t:ByteArray)(k e:Nat):e∈iZ p t k↔e<=t.size/\(ib p t k e).1<=k:=by
 have:=GX p t k e (t.size+1);unfold pU at this;unfold iZ iE;rw[this];omega
theorem NR(p t:ByteArray)(k:Nat):(iZ p t k).Pairwise (· < ·):=NQ p t k _
theorem ON(p t:ByteArray)(k:Nat):∀n,(pU p t k n).length<=n
 |0=>by simp[pU,lA]
 |n+1=>by
  have Y:=ON p t k n;unfold pU at *;rw[lA];split
  ·simp_all
  ·omega
theorem z6(p t:ByteArray)(k:Nat):(iZ p t k).length<=t.size+1:=ON p t k _
theorem Nf(p t:ByteArray)(k e:Nat)(h:e∈iZ p t k):e<=t.size/\(ib p t k e).1<=k/\(ib p t k e).2<=e/\iY p (t.extract (ib p t k e).2 e)<=(ib p t k e).1/\∀c,c<e-(ib p t k e).2->(ib p t k e).1<iY p (t.extract (e-c) e):=by
 obtain⟨Y,K⟩:=(GY p t k e).1 h;obtain⟨H,D,R,b4⟩:=(zZ p t k e Y).2 K;exact⟨Y,K,H,by omega,fun c I=>b4 _ (by omega) (by omega)⟩
theorem Xd{H:Type}{enc:bY×ah->H}{C:Checked}{os:Os}{f:a_}{fn:Func}{s:ChangeSpec}{Y:List _}{apart:Bool}{X:ae->Array _->Prop}(w0:ae)(args:Array _)(fuel:Nat)(U:w0.os=os)
  (F:(w0.forCall (fun _ _=>0) ⟨#[],args,[]⟩).Shaped C.prog)
  (D:Input.okWideB C.prog (w0.forCall (fun _ _=>0) ⟨#[],args,[]⟩) f ⟨#[],args,[]⟩=true)
  (K:s.preB enc C.prog fn Y apart (w0.forCall (fun _ _=>0) ⟨#[],args,[]⟩).memory args fuel=true)
  (M:s.sizedB enc C.prog fn apart (w0.forCall (fun _ _=>0) ⟨#[],args,[]⟩).memory args fuel=true)
  (N:X (w0.forCall (fun _ _=>0) ⟨#[],args,[]⟩).memory args):
  ∃(w:ae) (tape:Tape) (i:Input),w.os=os/\(w.forCall tape i).Shaped C.prog/\i.vars=[]/\Input.okWide C.prog (w.forCall tape i) .any w.heap.size f i/\
   ((s.pre enc C.prog fn Y apart (w.forCall tape i).memory i.args/\X (w.forCall tape i).memory i.args)/\sizedMet enc C.prog fn (OpenSpec.ofChange s) apart (w.forCall tape i).memory i.args)/\
   ({calm:=true}:Assume).holds C.prog (lone (Frame.enter C.prog f i.args .normal) [] (w.forCall tape i)):=by
 have h:=Input.okWide_of_okWideB (base:=w0.heap.size) D;refine⟨w0,fun _ _=>0,⟨#[],args,[]⟩,U,F,h.1,h.2,⟨⟨ChangeSpec.pre_of_preB K,N⟩,sizedMet_of_sizedB M⟩,?_⟩;exact⟨by simp,fun _ _ _ _=>rfl,by simp,by simp,by simp⟩
theorem aaS{p:Pinned}{s:OpenSpec}{c:OpenClaim}(kinds:List _)(K:Bool)(Y:Bool×String)(lk:Bool)
  (U:c.holds p s)(hw:c.wfByText s=true)(H:c.laidByTextAt .later p kinds K)
  (gj:c.start=.entering)(D:c.noBlocks=false/\c.again=false)(M:p.checked.prog.mainIs=some (Y.1,Y.2.toList))(N:(!Y.1&&Y.2.isEmpty&&!lk)=false)
  (F:∀f fn,p.checked.prog.funcNamed c.func=some f->p.checked.prog.funcs[f]?=some fn->lk=p.checked.prog.looks []/\∀(j:Nat) t,fn.params[j]?=some t->p.checked.prog.wantsStandIn t=false)
  (C:true=c.goesBy p.checked.prog):
  Claim7.holds p (.plain s) {stood:={row:=c,standIns:=[],harness:=Y,looks:=lk},kinds:=[],alts:=[],goes:=true,laidByText:=true,laidKinds:=kinds,laidTests:=K,laidLooks:=.later}:=by
 have R:dC {stood:={row:=c,standIns:=[],harness:=Y,looks:=lk},kinds:=[]}=false:=by simpa[dC]using N
 exact⟨Claim7.tied_new_at .later kinds K (Claim7.new_of_sixth U Y lk gj D M R F) hw,(fun _ h=>by cases h),H,(fun h=>by cases h),C⟩
end
section
open RowKit
def oT(w:ae)(p:Nat)(e d:Nat):Prop:=w.heap[p]?=some (.cells #[.int .i64 (e:Int),.int .i64 (d:Int)] 173 (0,0))
theorem oT.c0{p e:Nat}(h:oT w p e d):w.cell? ⟨p,0,none⟩=some (.int .i64 e):=by rw[ar w p 0 _ _ _ h];rfl
theorem oT.c1{p e:Nat}(h:oT w p e d):w.cell? ⟨p,1,none⟩=some (.int .i64 d):=by rw[ar w p 1 _ _ _ h];rfl
theorem oT.below{p e B:Nat}(h:oT w p e d)(K:af B w w')(Y:p<B):oT w' p e d:=by unfold oT at *;rw[K.block p Y];exact h
theorem oT.drewN{p e:Nat}(h:oT w p e d)(k:Nat):oT (w.drewN k) p e d:=h
theorem lP.drewN{G:Nat}{g:Nat->Nat}(h:lP w G g n)(k:Nat):lP (w.drewN k) G g n:=h
theorem Ry(X o:ByteArray)(e:Nat):∀c j,nI X o e c j<=c+j
 |0,j=>by simp[nI]
 |c+1,j=>C0 _ _ _ _ j
theorem aaT(s:ByteArray):str (jP s)=rev8 s:=by unfold rev8;rw[CG]
theorem X5(X P:ByteArray)(e d c0:Nat)(w:ae)(hX:X.size<=200)(hP:P.size<=100)(he:e<=X.size)(hd:d<=1000)(hc:c0<=e)(h1:iY P (X.extract (e-c0) e)<=d)(h2:∀c,c<c0->d<iY P (X.extract (e-c) e)):
  ak ai 125 #[.string X,.string P,.agg #[.int .i64 (e:Int),.int .i64 (d:Int)]] w fun r w'=>r=.returned (.int .i64 ((e-c0:Nat):Int))/\af w.heap.size w w':=by
 have i:Hid (nI X (rev8 P) e c0 P.size<=d):=laid (by rw[PW X P e c0 he hc];exact h1);have h:Hid (∀c,c<c0->d<nI X (rev8 P) e c P.size):=laid fun c E=>by rw[PW X P e c he (by omega)];exact h2 c E
 clear h1 h2;have Z:(rev8 P).size=P.size:=vH P;have V:Hid (∀W:ae,ak ai 129 #[.string P] W fun e w'=>e=.returned (.string (rev8 P))/\af W.heap.size W w'):=laid fun W=>by
  have:=Mt P W (by omega);rw[aaT]at this;exact this
 generalize rev8 P=R at *;have g:oT (w.alloc (.cells #[.int .i64 (e:Int),.int .i64 (d:Int)] 173)) w.heap.size e d:=heap_alloc_new w _;have A:∀o,af w.heap.size w (w.alloc o):=fun o=>(az _ _).alloc (aj _) o;have N:=laid (fun W:ae=>FP R.size W (by omega));rw[<-Z]at i h hP;clear Z;have T:=laid g;clear g
 go_enter Tryz.func125,Tryz.ntmps125
 go_wp2_with fail
 refine(V.out _).mono ?_;rintro e1 w1 ⟨rfl,B⟩;have J:=T.out.below B (by simp);have D:af w.heap.size w w1:=(A _).trans (B.mono (by simp));clear B T V;go_wp2_with fail
 refine(N.out _).mono ?_;rintro e2 w2 ⟨rfl,z,C⟩;have a:w.heap.size<w1.heap.size:=by have:=J.c0;exact dt this
 have L:=J.below C a;have U:af w.heap.size w w2:=D.trans (C.mono D.size);clear C N J D A;have d0:=L.c0;have M:=laid L;have Q:=laid z;clear L z;generalize w1.heap.size=H1 at *;go_wp2
 go_loopw [8,9] (fun lv sv wr=>∃c G:Nat,sv=.int .i64 ((e:Int)-(c:Int))/\lv=.slice (some ⟨G,0,none⟩) (R.size+1) (R.size+1)/\c<=c0/\lP wr G (nI X R e c) (R.size+1)/\oT wr w.heap.size e d/\af w.heap.size w wr) (fun _ sv _=>(intOf sv).toNat)
 case atStart=>exact⟨0,H1,by simp,rfl,aP _,Q.out,M.out,U⟩
 case round=>
  obtain⟨c,G,rfl,rfl,E,Y,K,H⟩:=hrel;clear Q M U d0;have l:=K.c0;have c1':=K.c1;have x:=Y.cell R.size (by omega);have v:=Ry X R e c R.size;by_cases y:c<c0
  ·have u:(d:Int)<(nI X R e c R.size:Int):=by have:=h.out c y;omega
   obtain⟨m,b⟩:∃m:Nat,m=e-(c+1):=⟨_,rfl⟩;have aoC:aI.wrap ((e:Int)-(c:Int)-1)=(m:Int):=by rw[show(e:Int)-(c:Int)-1=(m:Int) by omega];exact aL _ (by omega)
   have k:aI.wrap ((e:Int)-(m:Int))=(c:Int)+1:=by rw[show(e:Int)-(m:Int)=(c:Int)+1 by omega];exact aL _ (by omega)
   have t:m<X.size:=by omega
   have p:=jJ X m t;have b1:(m:Int)<(X.size:Int):=by omega
   have b2:(0:Int)<=(m:Int):=dE _;have S:Hid (∀W:ae,lP W G (nI X R e c) (R.size+1)->ak ai 145 #[.slice (some ⟨G,0,none⟩) (R.size+1) (R.size+1),.int .i64 ((c:Int)+1),.int .u8 ((at8 X m).toNat:Int),.string R] W fun e' w'=>e'=.returned (.slice (some ⟨W.heap.size,0,none⟩) (R.size+1) (R.size+1))/\lP w' W.heap.size (nI X R e (c+1)) (R.size+1)/\af W.heap.size W w'):=laid fun W hW=>by
    have:=FV (nI X R e c) (c+1) (at8 X m) R G W (by omega) (by omega) (fun j hj=>by have:=Ry X R e c j;omega) hW;have e1:nI X R e (c+1)=mr (nI X R e c) (c+1) (at8 X m) R:=by rw[b];rfl
    rw[e1];rw[show((c+1:Nat):Int)=(c:Int)+1 by omega]at this;exact this
   have HL:=laid Y;have O:=laid K;have HM:=laid b;clear Y K b;generalize nI X R e c R.size=LV at *;have f:w.heap.size<wr.heap.size:=dt l;go_wp2_with fail
   go_quiet(fail)
   go_wp2_with fail
   go_region_held3 (fun w'=>w'.cell? ⟨w.heap.size,0,none⟩=some (.int .i64 (e:Int)))
    (first|go_keep|(rw[I.cell (by first|exact f|(simp;omega))];assumption))
    (first|(go_at_call 145;refine(S.out _ (HL.out.drewN _)).mono ?_;rintro e' w' ⟨rfl,n,I⟩))
   have F:af w.heap.size w w':=(Go.below_drewN H _).trans (I.mono H.size);have s:=oT.below (w:=wr.drewN _) (O.out.drewN _) I f;clear I S HL O x u v p;go_wp2
   go_roundw
   case rel=>go_light;exact⟨c+1,_,by have:=HM.out;congr 1;omega,rfl,by omega,n,s,F⟩
   case measure=>go_light;have:=HM.out;simp[intOf];omega
  ·have q:c=c0:=by omega
   have hle:¬((d:Int)<(nI X R e c R.size:Int)):=by have:=i.out;rw[q];omega
   have HC:Hid ((e:Int)-(c:Int)=((e-c0:Nat):Int)):=laid (by omega);generalize nI X R e c R.size=LV at *;clear q;go_wp2_with fail
   go_quiet(fail)
   go_wp2
   go_ret
   exact⟨yl HC.out,Go.below_drewN H _⟩
theorem aeR(p t:ByteArray)(i:Nat):mr (dT p t i) (i+1) (at8 p i) t=dT p t (i+1):=by
 funext j;induction j with
 |zero=>rw[mr,dT]
 |succ j Y=>rw[mr,Y,dT];rfl
theorem acR(p t:ByteArray):(id:Nat->Nat)=dT p t 0:=by
 funext j;rw[dT];rfl
theorem acS{wr wz:ae}{B G g' Ea i:Nat}{t:ByteArray}{g:Nat->Nat}{o:Obj}(U:qB wr B p t (.slice (some ⟨G,0,none⟩) (i+1) cap) (i+1) g)(N:B<=wr.heap.size)(C:af wr.drew.heap.size wr.drew w')(F:lP w' wr.heap.size (dT p t (i+1)) (t.size+1))
  (H:(w'.alloc o).grownBy wz (some G))(D:wz.ownsRow B 25 1 (.slice (some ⟨g',0,none⟩) (i+1+1) Ea) (i+1+1) ((bA (i+1)).map (sv t g)++[.slice (some ⟨wr.heap.size,0,none⟩) (t.size+1) (t.size+1)])):
  qB wz B p t (.slice (some ⟨g',0,none⟩) (i+1+1) Ea) (i+1+1) (fun x=>if x<i+1 then g x else wr.heap.size):=by
 have L:wr.drew.ownsRow B 25 1 _ (i+1) _:=U.own;have M:=uv L C;have K:∀(k:Nat) (c:Array ah),w'.heap[k]?=some (.cells c 3 (0,0))->wz.heap[k]?=some (.cells c 3 (0,0)):=fun k c hk=>by
  have I:k<w'.heap.size:=by
   rcases bq k w'.heap.size with h'|h'
   ·exact h'
   ·simp_all
  rw[H.block k (by simp;omega) (fun e=>Lib.ownBlock_ne M hk (by decide) e.symm),bD w' _ I];exact hk
 refine⟨?_,fun x R=>?_,fun x R=>?_⟩
 ·have J:(bA (i+1+1)).map (sv t fun x=>if x<i+1 then g x else wr.heap.size)=(bA (i+1)).map (sv t g)++[.slice (some ⟨wr.heap.size,0,none⟩) (t.size+1) (t.size+1)]:=by
   rw[cX,aN];congr 1
   ·apply List.map_congr_left;intro x R;rw[dV]at R;simp[sv,R]
   ·simp[sv]
  rw[J];exact D
 ·by_cases Y:x<i+1
  ·simp only[Y,if_true];have hr:=U.rows x Y;have I:=hr.lt;refine K _ _ ?_;rw[C.block (g x) I];exact hr
  ·have A:x=i+1:=by omega
   subst A;simp only[Y,if_false];exact K _ _ F
 ·by_cases Y:x<i+1
  ·simp only[Y,if_true];exact U.base x Y
  ·simp only[Y,if_false];exact N
theorem WI(p t:ByteArray)(w:ae)(hp:p.size<=100)(h:t.size<=300):
  ak ai 146 #[.string p,.string t] w fun e w'=>∃v g,e=.returned v/\qB w' w.heap.size p t v (p.size+1) g/\af w.heap.size w w':=by
 obtain⟨i0,hi,d,f,l⟩:=bg adv;have J:=laid (fun W:ae=>FP t.size W h)
 go_enter Tryz.func146,Tryz.ntmps146
 go_wp2_with fail
 refine(J.out _).mono ?_;rintro e1 w1 ⟨rfl,C,I⟩;have U:Hid (qB (w1.alloc (.cells #[.slice (some ⟨w.heap.size,0,none⟩) (t.size+1) (t.size+1)] 25)) w.heap.size p t (.slice (some ⟨w1.heap.size,0,none⟩) 1 1) 1 (fun _=>w.heap.size)):=laid (by
  have hl:=C.lt;refine⟨⟨rfl,.inr ⟨w1.heap.size,1,_,rfl,I.size,heap_alloc_new w1 _,aj _,by unfold aB;omega,rfl,rfl⟩⟩,fun x hx=>?_,fun x hx=>aj _⟩;have:x=0:=by omega
  subst this;unfold uE;rw[bD w1 _ hl];have:=C;rw[acR p t]at this;exact this)
 have A:af w.heap.size w (w1.alloc (.cells #[.slice (some ⟨w.heap.size,0,none⟩) (t.size+1) (t.size+1)] 25)):=I.alloc I.size _;clear C I J;go_wp2
 go_loopw [5,13] (fun v iv wr=>∃(i:Nat) (g:Nat->Nat),iv=.int .i64 (i:Int)/\i<=p.size/\qB wr w.heap.size p t v (i+1) g/\af w.heap.size w wr) (fun _ iv _=>p.size-(intOf iv).toNat)
 case atStart=>exact⟨0,_,rfl,aP _,U.out,A⟩
 case round=>
  obtain⟨i,g,rfl,UQ,K,Y⟩:=hrel;clear U A;by_cases q:i<p.size
  ·obtain⟨G,cap,rfl,hGl,n⟩:=K.get (by omega);have Z:=n i (by omega);have z:=jJ p i q;have b1:(i:Int)<(p.size:Int):=by omega
   have b2:(0:Int)<=(i:Int):=dE _;have b3:(i:Int)<(i:Int)+1:=by omega
   have x1:aI.wrap ((i:Int)+1)=(i:Int)+1:=aL _ (by omega);have S:=K.rows i (by omega);have X:w.heap.size<=G:=by
    rcases K.own.2 with⟨V,_⟩|⟨g1,y,m,V,T,_⟩
    ·cases V
    ·cases V;exact T
   have L:=laid fun W O=>by
    have:=FV (dT p t i) (i+1) (at8 p i) t (g i) W h (by omega) (fun j hj=>by have:=AN p t i j;omega) O;rw[aeR]at this;rw[show((i+1:Nat):Int)=(i:Int)+1 by omega]at this;exact this
   have r:Hid (lP wr (g i) (dT p t i) (t.size+1)):=laid S;have N:=laid K;have M:Hid (∀(W:ae),af wr.drew.heap.size wr.drew W->∀o:Obj,(W.alloc o).ownsRow w.heap.size 25 1 (.slice (some ⟨G,0,none⟩) (i+1) cap) (i+1) ((bA (i+1)).map (sv t g))):=laid fun W O o=>by
    have T:wr.drew.ownsRow w.heap.size 25 1 (.slice (some ⟨G,0,none⟩) (i+1) cap) (i+1) ((bA (i+1)).map (sv t g)):=K.own;exact(uv T O).alloc _
   have F:Hid (∀(W:ae),af wr.drew.heap.size wr.drew W->∀o:Obj,w.heap.size<=(W.alloc o).heap.size):=laid fun W O o=>by have T:=Y.size;have h2:=O.size;simp at h2⊢;omega
   clear K S n;go_wp2_with fail
   go_region_law
    (first
     |(go_simp;go_at_call 145;refine(L.out wr.drew r.out).mono ?_;rintro e' w' ⟨rfl,Q,H⟩)
     |(refine step_append_lies _ rfl _ _ 162 rfl w.heap.size 25 i0 (.slice none 0 0) 1 24 Tryz.underlying162 hi d f l rfl (by decide) _ (i+1) _ rfl (M.out w' H _) ⟨w'.heap.size,0,none⟩ 1 1 [.slice (some ⟨wr.heap.size,0,none⟩) (t.size+1) (t.size+1)] rfl rfl (dp (heap_alloc_new w' _)) (fun u a=>by simp at a;subst a;rfl) (by omega) (by unfold aB;omega) (by omega) (F.out w' H _) _ rfl ?_;intro g' s wz R D E b))
   all_goals
    have c:=acS N.out Y.size H Q D R;have B:af w.heap.size w wz:=((Go.below_drewN Y 1).trans (H.mono Y.size)).trans (Below.grown (az _ _|>.alloc (by have:=H.size;have:=Y.size;simp at *;omega) _) D (by have:=H.size;have:=Y.size;simp at *;omega) (fun k e=>by cases e;exact X));clear L r N M F Q H R D E Z z;go_wp2
    go_roundw
    case rel=>go_light;exact⟨i+1,_,by go_num,by omega,c,B⟩
    case measure=>go_light;simp[intOf];omega
  ·have P:i=p.size:=by omega
   have HE:Hid (qB wr w.heap.size p t u5 (p.size+1) g):=laid (by rw[<-P];exact K);clear P K;go_wp2
   go_ret
   exact⟨u5,g,rfl,HE.out,Y⟩
def letter(p t:ByteArray)(i j:Nat):UInt8:=if oo p t i j=true then 77 else if nF p t i j=true then 73 else 68
theorem Xe(p t:ByteArray)(B:Nat)(v:ah)(g:Nat->Nat)(i j:Nat)(w:ae)(hp:p.size<=100)(ht:t.size<=300)(u:i<=p.size)(m:j<=t.size)(F:qB w B p t v (p.size+1) g):
  ak ai 147 #[v,.string p,.string t,.int .i64 (i:Int),.int .i64 (j:Int)] w fun e w'=>e=.returned (.int .u8 ((letter p t i j).toNat:Int))/\∃d,w'=w.drewN d:=by
 obtain⟨G,cap,rfl,y,r⟩:=F.get (by omega);have Q:=laid r;have O:=laid (fun i u j m=>(F.rows i u).cell j m);clear F r;by_cases U:i=0
 ·have D:Hid (letter p t i j=68):=laid (by unfold letter oo nF;rw[U];rfl);have hd1:decide ((0:Int)<(i:Int))=false:=by simp;omega
  have Lz:¬(0:Int)<(i:Int):=by omega
  clear Q O
  go_enter bV,bX
  go_wp2_with fail
  go_quiet(fail)
  go_wp2_with fail
  go_quiet(fail)
  rw[cI];go_wp2
  go_ret
  exact⟨by rw[D.out];rfl,_,rfl⟩
 ·obtain⟨a,R⟩:∃a,i=a+1:=⟨i-1,by omega⟩;have E:(0:Int)<(i:Int):=by omega
  have q:0<i:=by omega
  have hi3:decide (0<i)=true:=decide_eq_true q;have hi4:decide ((0:Int)<(i:Int))=true:=decide_eq_true E;have x:=Q.out i (by omega);have s:=Q.out a (by omega);have r1:=O.out i (by omega) j (by omega);have r3:=O.out a (by omega) j (by omega);have b1:(0:Int)<=(i:Int):=by omega
  have b2:(i:Int)<(p.size:Int)+1:=by omega
  have b3:(0:Int)<=(a:Int):=by omega
  have b4:(a:Int)<(p.size:Int)+1:=by omega
  have b5:(0:Int)<=(j:Int):=by omega
  have b6:(j:Int)<(t.size:Int)+1:=by omega
  have UO:aI.wrap ((i:Int)-1)=(a:Int):=by rw[show(i:Int)-1=(a:Int) by omega];exact aL _ (by omega)
  have hX:dT p t i j<=1000:=by have:=AN p t i j;omega
  have hZ:dT p t a j<=1000:=by have:=AN p t a j;omega
  have z1:aI.wrap ((dT p t a j:Int)+1)=(dT p t a j:Int)+1:=aL _ (by omega);have K:Hid (nF p t i j=decide (dT p t i j=dT p t a j+1)):=laid (by unfold nF;rw[R];simp);by_cases I:j=0
  ·have hd2:decide ((0:Int)<(j:Int))=false:=by simp;omega
   have S:Hid (nF p t i j=true):=laid (by rw[I];exact Qd p t i (by omega));have D:Hid (letter p t i j=73):=laid (by unfold letter;rw[S.out];unfold oo;rw[I];simp);have M:((dT p t i j:Int)==(dT p t a j:Int)+1)=true:=by
    have o:=S.out;rw[K.out]at o;have:=of_decide_eq_true o;simp;omega
   have hj9:¬(0:Int)<(j:Int):=by omega
   have f:¬0<j:=by omega
   have hj7:decide (0<j)=false:=decide_eq_false f;clear S K R I U;generalize dT p t i j=X at *;generalize dT p t a j=Z at *
   go_enter bV,bX
   go_wp2_with fail
   go_quiet(fail)
   go_wp2_with fail
   go_quiet(fail)
   rw[cI];go_wp2
   go_ret
   exact⟨by rw[D.out];rfl,_,rfl⟩
  ·obtain⟨b,L⟩:∃b,j=b+1:=⟨j-1,by omega⟩;have z:(0:Int)<(j:Int):=by omega
   have c:0<j:=by omega
   have hj3:decide (0<j)=true:=decide_eq_true c;have hj4:decide ((0:Int)<(j:Int))=true:=decide_eq_true z;have r2:=O.out a (by omega) b (by omega);have b7:(0:Int)<=(b:Int):=by omega
   have b8:(b:Int)<(t.size:Int)+1:=by omega
   have n:(a:Int)<(p.size:Int):=by omega
   have k:(b:Int)<(t.size:Int):=by omega
   have T:a<p.size:=by omega
   have V:b<t.size:=by omega
   have hpa:=jJ p a T;have htb:=jJ t b V;have rE:aI.wrap ((j:Int)-1)=(b:Int):=by rw[show(j:Int)-1=(b:Int) by omega];exact aL _ (by omega)
   have hY:dT p t a b<=1000:=by have:=AN p t a b;omega
   have h:=RY (at8 p a) (at8 t b)
   have H:Hid (oo p t i j=decide (dT p t i j=dT p t a b+co (at8 p a) (at8 t b))):=laid (by unfold oo;rw[R,L];simp[cost,co];rfl);have A:=laid (fun W:ae=>O1 (at8 p a) (at8 t b) W);have y1:aI.wrap ((dT p t a b:Int)+(co (at8 p a) (at8 t b):Int))=(dT p t a b:Int)+(co (at8 p a) (at8 t b):Int):=aL _ (by omega);clear R L U I;generalize dT p t i j=X at *;generalize dT p t a j=Z at *;generalize dT p t a b=Y at *;generalize co (at8 p a) (at8 t b)=C at *;by_cases J:X=Y+C
   ·have D:Hid (letter p t i j=77):=laid (by unfold letter;rw[H.out,decide_eq_true J];rfl);have l:((X:Int)==(Y:Int)+(C:Int))=true:=by simp;omega
    clear H K J
    go_enter bV,bX
    go_wp2_with fail
    go_quiet((go_at_call 165;refine(A.out _).mono ?_;rintro e N ⟨rfl,rfl⟩;exact⟨rfl,_,rfl⟩))
    go_wp2
    go_ret
    exact⟨by rw[D.out];rfl,_,rfl⟩
   ·have l:((X:Int)==(Y:Int)+(C:Int))=false:=by simp;omega
    by_cases P:X=Z+1
    ·have D:Hid (letter p t i j=73):=laid (by unfold letter;rw[H.out,decide_eq_false J,K.out,decide_eq_true P];rfl);have M:((X:Int)==(Z:Int)+1)=true:=by simp;omega
     clear H K J P
     go_enter bV,bX
     go_wp2_with fail
     go_quiet((go_at_call 165;refine(A.out _).mono ?_;rintro e N ⟨rfl,rfl⟩;exact⟨rfl,_,rfl⟩))
     go_wp2_with fail
     go_quiet(fail)
     rw[cI];go_wp2
     go_ret
     exact⟨by rw[D.out];rfl,_,rfl⟩
    ·have D:Hid (letter p t i j=68):=laid (by unfold letter;rw[H.out,decide_eq_false J,K.out,decide_eq_false P];rfl);have M:((X:Int)==(Z:Int)+1)=false:=by simp;omega
     clear H K J P
     go_enter bV,bX
     go_wp2_with fail
     go_quiet((go_at_call 165;refine(A.out _).mono ?_;rintro e N ⟨rfl,rfl⟩;exact⟨rfl,_,rfl⟩))
     go_wp2_with fail
     go_quiet(fail)
     rw[cI];go_wp2
     go_ret
     exact⟨by rw[D.out];rfl,_,rfl⟩
theorem qB.below{B:Nat}{t:ByteArray}{v:ah}{g:Nat->Nat}(h:qB w B p t v n g)(Y:af w.heap.size w w'):qB w' B p t v n g:=by
 refine⟨uv h.own Y,fun x H=>?_,h.base⟩;have hr:=h.rows x H;have K:=hr.lt;unfold uE at *;rw[Y.block _ K];exact hr
theorem agE:(ai.info? 5).map (fun i=>(i.zero,i.size,i.bytes))=some (some (.int .u8 0),1,1):=by kernel_rfl
theorem X6{t:ByteArray}{i:Nat}{L:List _}(H:¬(i=0/\j=0))(h:iC p t (i+j) i j++L.reverse=gO p t):
  (letter p t i j=77/\0<i/\0<j/\iC p t (i-1+(j-1)) (i-1) (j-1)++(L++[77]).reverse=gO p t)\/
  (letter p t i j=73/\0<i/\iC p t (i-1+j) (i-1) j++(L++[73]).reverse=gO p t)\/
  (letter p t i j=68/\0<j/\iC p t (i+(j-1)) i (j-1)++(L++[68]).reverse=gO p t):=by
 simp;unfold letter;by_cases Y:oo p t i j=true
 ·have:=Ag Y;exact .inl ⟨if_pos Y,this.1,this.2.1,afJ Y h⟩
 ·rw[cm]at Y;by_cases K:nF p t i j=true
  ·exact .inr (.inl ⟨by simp_all,(Ah K).1,afK Y K h⟩)
  ·rw[cm]at K;exact .inr (.inr ⟨by simp_all,z8 K H,afL H Y K h⟩)
theorem aaU{C:Array _}{L:List _}{g:Nat}(H:L.length<=cap)(M:C.size=cap *1)(F:C.toList.take (L.length *1)=L.map bv)(U:w.heap[g]?=some (.cells (pE C L.length L.length) 5 (0,0))):
  ∀j D,w.cell? ((⟨g,0,none⟩:Addr).add j)=some (.int .u8 (L.reverse[j].toNat)):=by
 intro j D;have Y:=by simpa using D
 rw[yf,ar w g j _ _ _ U,tj C _ _ j (by omega),if_pos ⟨Y,.inl Y⟩];have A:L.length-1-j<C.size:=by omega
 have K:C.toList[L.length-1-j]?=(L.map bv)[L.length-1-j]?:=by
  rw[<-F,cz,if_pos (by omega)]
 rw[bp,aA (by omega:L.length-1-j<L.length),aA (by omega)]at K;have R:=Option.some.inj K;rw[Array.getD,dif_pos A];have I:=by simpa using R
 show some (C[L.length-1-j])=_
 rw[I,List.getElem_reverse];rfl
theorem aaV(p t:ByteArray)(w:ae)(hp:p.size<=100)(hp1:1<=p.size)(ht:t.size<=300):
  ak ai 126 #[.string p,.string t] w fun e w'=>e=.returned (.string (str (gO p t)))/\af w.heap.size w w':=by
 obtain⟨i0,hi,W,q,z⟩:=bg agE
 go_enter Tryz.func126,Tryz.ntmps126
 go_wp2_with fail
 refine(WI p t _ hp ht).mono ?_;rintro e w1 ⟨v,g,rfl,T,E⟩;have f:=laid T;clear T;go_wp2
 go_loopw [6,7,8] (fun sv iv jv wr=>∃(i j:Nat) (L:List UInt8),iv=.int .i64 (i:Int)/\jv=.int .i64 (j:Int)/\i<=p.size/\j<=t.size/\L.length+i+j<=p.size+t.size/\p.size<=i+L.length/\Hid (iC p t (i+j) i j++L.reverse=gO p t)/\wr.ownsRow w1.heap.size 5 1 sv L.length (L.map bv)/\af w1.heap.size w1 wr) (fun _ iv jv _=>(intOf iv).toNat+(intOf jv).toNat)
 case atStart=>exact⟨p.size,t.size,[],rfl,rfl,aj _,aj _,by simp,by simp,laid (by simp[gO]),ey _ _ _ _,az _ _⟩
 case round=>
  obtain⟨i,j,L,rfl,rfl,UQ,hjt,hlen,Fw,HL,I,R⟩:=hrel;by_cases l:i=0/\j=0
  ·obtain⟨rfl,rfl⟩:=l;have HF:Hid (L.reverse=gO p t):=laid (by rw[<-HL.out];rfl);rcases I.2 with⟨_,h1⟩|⟨G,cap,M,rfl,hG1,n,b,hG4,a,o⟩
   ·omega
   ·have HC:=laid (⟨b,a,o⟩:L.length<=cap/\M.size=cap *1/\M.toList.take (L.length *1)=L.map bv);have m:=laid (M7 M G L.length cap (0,0) wr (by omega) (by omega) (fun k hk=>by simp) (fun x hx=>by
     refine⟨((L.getD x 0).toNat:Int),?_⟩;have Bx:x<M.size:=by omega
     have e1:M.toList[x]?=(L.map bv)[x]?:=by rw[<-o,cz,if_pos (by omega)]
     rw[bp,aA hx,aA (by simpa using Bx)]at e1;have e2:=Option.some.inj e1;rw[Array.getD,dif_pos Bx];show M[x]=_
     have e3:M[x]=bv (L[x]):=by simpa using e2
     rw[e3,ax,aA hx];rfl) n)
    have HB:=laid (E.trans (R.mono E.size));have HW:=laid E.size;clear HL f I n b a o E;go_wp2_with fail
    refine m.out.mono ?_;rintro e w2 ⟨⟨v2,rfl⟩,h2,UR⟩;have r:(convert 79 9 (.slice (some ⟨G,0,none⟩) L.length cap)).run ai w2=.ok (.string (str L.reverse)) w2:=by
     have:=run_convert_bytes_back (P:=ai) w2 79 9 5 ⟨G,0,none⟩ cap L.reverse bB Tryz.underlying5 ew (aaU HC.out.1 HC.out.2.1 HC.out.2.2 h2);rw[List.length_reverse]at this;exact this
    rw[HF.out]at r;have HB2:Hid (af w.heap.size w w2):=laid (HB.out.grown UR HB.out.size (fun k e=>by cases e;have:=HW.out;omega));clear m UR h2 HC HF HB;go_wp2
    go_ret
    exact⟨rfl,HB2.out⟩
  ·have T:=f.out.below R;have Q:=laid (Xe p t w.heap.size v g i j wr hp ht UQ hjt T);have hxi:aI.wrap ((i:Int)-1)=(i:Int)-1:=aL _ (by omega);have hxj:aI.wrap ((j:Int)-1)=(j:Int)-1:=aL _ (by omega);have key:=X6 l HL.out;have aj5:(letter p t i j=77/\0<i/\0<j/\Hid (iC p t (i-1+(j-1)) (i-1) (j-1)++(L++[77]).reverse=gO p t))\/(letter p t i j=73/\0<i/\Hid (iC p t (i-1+j) (i-1) j++(L++[73]).reverse=gO p t))\/(letter p t i j=68/\0<i/\0<j/\Hid (iC p t (i+(j-1)) i (j-1)++(L++[68]).reverse=gO p t))\/(letter p t i j=68/\i=0/\0<j/\Hid (iC p t (i+(j-1)) i (j-1)++(L++[68]).reverse=gO p t)):=by
    rcases key with h|h|h
    ·exact .inl h
    ·exact .inr (.inl h)
    ·by_cases hi9:0<i
     ·exact .inr (.inr (.inl ⟨h.1,hi9,h.2.1,h.2.2⟩))
     ·exact .inr (.inr (.inr ⟨h.1,by omega,h.2.1,h.2.2⟩))
   clear HL key f T l;rcases aj5 with⟨S,N,FE,c⟩|⟨S,N,c⟩|⟨S,N,FE,c⟩|⟨S,N,FE,c⟩
   ·have q1:(0:Int)<(i:Int):=by omega
    have J:Hid (ak ai 147 #[v,.string p,.string t,.int .i64 (i:Int),.int .i64 (j:Int)] wr fun e w'=>e=.returned (.int .u8 77)/\∃d,w'=wr.drewN d):=laid (by have:=Q.out;rw[S]at this;exact this);have y:decide ((0:Int)<(i:Int))=decide ((0:Int)<(i:Int)):=rfl;have F:=laid N;clear Q S y N;go_wp2_with fail
    refine J.out.mono ?_;rintro e w2 ⟨rfl,B⟩;have H:w2.ownsRow w1.heap.size 5 1 u6 L.length (L.map bv):=by obtain⟨d,rfl⟩:=B;exact I
    have Y:af w1.heap.size w1 w2:=by obtain⟨d,rfl⟩:=B;exact Go.below_drewN R d
    clear J I B R;go_wp2_with(first
     |(at_builtin;refine aV _ rfl _ _ 79 rfl w1.heap.size 5 i0 (.int .u8 0) 1 1 bB hi W q z rfl (by decide) _ _ _ rfl (H.alloc _) ⟨w2.heap.size,0,none⟩ 1 1 [.int .u8 77] rfl rfl ?c1 ?c2 ?c3 ?c4 ?c5 ?_)
     |go_in)
    case c1=>
     intro j u C
     match j,C with
     |0,C=>simp at C;subst C;simp[Addr.add]
    case c2=>intro u V;simp at V;subst V;rfl
    case c3=>unfold aB;omega
    case c4=>omega
    case c5=>have:=Y.size;simp;omega
    intro v' Z K D _;have A:af w1.heap.size w1 Z:=(Y.alloc Y.size _).grown D (by have:=Y.size;simp;omega) (fun j C=>(H.lt j C).1);have U:Z.ownsRow w1.heap.size 5 1 v' (L++[77]).length ((L++[77]).map bv):=by
     rw[ao,aN];exact K
    obtain⟨O,cap,X,rfl⟩:∃O cap X,v'=.slice (some ⟨O,0,none⟩) X cap:=by
     rcases K.2 with⟨_,l⟩|⟨O,cap,M,s,_⟩
     ·omega
     ·exact⟨O,cap,_,s⟩
    clear K D H Y;go_wp2
    go_roundw
    case rel=>go_light;have:=F.out;exact⟨i-1,j-1,L++[77],ij (by omega),ij (by omega),by omega,by omega,by rw[ao];simp;omega,by rw[ao];simp;omega,c,U,A⟩
    case measure=>go_light;have:=F.out;simp[intOf];omega
   ·have q1:(0:Int)<(i:Int):=by omega
    have J:Hid (ak ai 147 #[v,.string p,.string t,.int .i64 (i:Int),.int .i64 (j:Int)] wr fun e w'=>e=.returned (.int .u8 73)/\∃d,w'=wr.drewN d):=laid (by have:=Q.out;rw[S]at this;exact this);have y:decide ((0:Int)<(i:Int))=decide ((0:Int)<(i:Int)):=rfl;have F:=laid N;clear Q S y N;go_wp2_with fail
    refine J.out.mono ?_;rintro e w2 ⟨rfl,B⟩;have H:w2.ownsRow w1.heap.size 5 1 u6 L.length (L.map bv):=by obtain⟨d,rfl⟩:=B;exact I
    have Y:af w1.heap.size w1 w2:=by obtain⟨d,rfl⟩:=B;exact Go.below_drewN R d
    clear J I B R;go_wp2_with(first
     |(at_builtin;refine aV _ rfl _ _ 79 rfl w1.heap.size 5 i0 (.int .u8 0) 1 1 bB hi W q z rfl (by decide) _ _ _ rfl (H.alloc _) ⟨w2.heap.size,0,none⟩ 1 1 [.int .u8 73] rfl rfl ?c1 ?c2 ?c3 ?c4 ?c5 ?_)
     |go_in)
    case c1=>
     intro j u C
     match j,C with
     |0,C=>simp at C;subst C;simp[Addr.add]
    case c2=>intro u V;simp at V;subst V;rfl
    case c3=>unfold aB;omega
    case c4=>omega
    case c5=>have:=Y.size;simp;omega
    intro v' Z K D _;have A:af w1.heap.size w1 Z:=(Y.alloc Y.size _).grown D (by have:=Y.size;simp;omega) (fun j C=>(H.lt j C).1);have U:Z.ownsRow w1.heap.size 5 1 v' (L++[73]).length ((L++[73]).map bv):=by
     rw[ao,aN];exact K
    obtain⟨O,cap,X,rfl⟩:∃O cap X,v'=.slice (some ⟨O,0,none⟩) X cap:=by
     rcases K.2 with⟨_,l⟩|⟨O,cap,M,s,_⟩
     ·omega
     ·exact⟨O,cap,_,s⟩
    clear K D H Y;go_wp2
    go_roundw
    case rel=>go_light;have:=F.out;exact⟨i-1,j,L++[73],ij (by omega),ij (by omega),by omega,by omega,by rw[ao];simp;omega,by rw[ao];simp;omega,c,U,A⟩
    case measure=>go_light;have:=F.out;simp[intOf];omega
   ·have q1:(0:Int)<(i:Int):=by omega
    have J:Hid (ak ai 147 #[v,.string p,.string t,.int .i64 (i:Int),.int .i64 (j:Int)] wr fun e w'=>e=.returned (.int .u8 68)/\∃d,w'=wr.drewN d):=laid (by have:=Q.out;rw[S]at this;exact this);have y:decide ((0:Int)<(i:Int))=decide ((0:Int)<(i:Int)):=rfl;have F:=laid N;clear Q S y N;go_wp2_with fail
    refine J.out.mono ?_;rintro e w2 ⟨rfl,B⟩;have H:w2.ownsRow w1.heap.size 5 1 u6 L.length (L.map bv):=by obtain⟨d,rfl⟩:=B;exact I
    have Y:af w1.heap.size w1 w2:=by obtain⟨d,rfl⟩:=B;exact Go.below_drewN R d
    clear J I B R;go_wp2_with(first
     |(at_builtin;refine aV _ rfl _ _ 79 rfl w1.heap.size 5 i0 (.int .u8 0) 1 1 bB hi W q z rfl (by decide) _ _ _ rfl (H.alloc _) ⟨w2.heap.size,0,none⟩ 1 1 [.int .u8 68] rfl rfl ?c1 ?c2 ?c3 ?c4 ?c5 ?_)
     |go_in)
    case c1=>
     intro j u C
     match j,C with
     |0,C=>simp at C;subst C;simp[Addr.add]
    case c2=>intro u V;simp at V;subst V;rfl
    case c3=>unfold aB;omega
    case c4=>omega
    case c5=>have:=Y.size;simp;omega
    intro v' Z K D _;have A:af w1.heap.size w1 Z:=(Y.alloc Y.size _).grown D (by have:=Y.size;simp;omega) (fun j C=>(H.lt j C).1);have U:Z.ownsRow w1.heap.size 5 1 v' (L++[68]).length ((L++[68]).map bv):=by
     rw[ao,aN];exact K
    obtain⟨O,cap,X,rfl⟩:∃O cap X,v'=.slice (some ⟨O,0,none⟩) X cap:=by
     rcases K.2 with⟨_,l⟩|⟨O,cap,M,s,_⟩
     ·omega
     ·exact⟨O,cap,_,s⟩
    clear K D H Y;go_wp2
    go_roundw
    case rel=>go_light;have:=F.out;exact⟨i,j-1,L++[68],ij (by omega),ij (by omega),by omega,by omega,by rw[ao];simp;omega,by rw[ao];simp;omega,c,U,A⟩
    case measure=>go_light;have:=F.out;simp[intOf];omega
   ·obtain⟨q3,q1,q4⟩:(0:Int)<(j:Int)/\¬(0:Int)<(i:Int)/\¬0<i:=⟨by omega,by omega,by omega⟩;have J:Hid (ak ai 147 #[v,.string p,.string t,.int .i64 (i:Int),.int .i64 (j:Int)] wr fun e w'=>e=.returned (.int .u8 68)/\∃d,w'=wr.drewN d):=laid (by have:=Q.out;rw[S]at this;exact this);have y:decide ((0:Int)<(i:Int))=decide ((0:Int)<(i:Int)):=rfl;have F:=laid N;clear Q S y N;go_wp2_with fail
    refine J.out.mono ?_;rintro e w2 ⟨rfl,B⟩;have H:w2.ownsRow w1.heap.size 5 1 u6 L.length (L.map bv):=by obtain⟨d,rfl⟩:=B;exact I
    have Y:af w1.heap.size w1 w2:=by obtain⟨d,rfl⟩:=B;exact Go.below_drewN R d
    clear J I B R;go_wp2_with(first
     |(at_builtin;refine aV _ rfl _ _ 79 rfl w1.heap.size 5 i0 (.int .u8 0) 1 1 bB hi W q z rfl (by decide) _ _ _ rfl (H.alloc _) ⟨w2.heap.size,0,none⟩ 1 1 [.int .u8 68] rfl rfl ?c1 ?c2 ?c3 ?c4 ?c5 ?_)
     |go_in)
    case c1=>
     intro j u C
     match j,C with
     |0,C=>simp at C;subst C;simp[Addr.add]
    case c2=>intro u V;simp at V;subst V;rfl
    case c3=>unfold aB;omega
    case c4=>omega
    case c5=>have:=Y.size;simp;omega
    intro v' Z K D _;have A:af w1.heap.size w1 Z:=(Y.alloc Y.size _).grown D (by have:=Y.size;simp;omega) (fun j C=>(H.lt j C).1);have U:Z.ownsRow w1.heap.size 5 1 v' (L++[68]).length ((L++[68]).map bv):=by
     rw[ao,aN];exact K
    obtain⟨O,cap,X,rfl⟩:∃O cap X,v'=.slice (some ⟨O,0,none⟩) X cap:=by
     rcases K.2 with⟨_,l⟩|⟨O,cap,M,s,_⟩
     ·omega
     ·exact⟨O,cap,_,s⟩
    clear K D H Y;go_wp2
    go_roundw
    case rel=>go_light;have:=F.out;exact⟨i,j-1,L++[68],ij (by omega),ij (by omega),by omega,by omega,by rw[ao];simp;omega,by rw[ao];simp;omega,c,U,A⟩
    case measure=>go_light;have:=F.out;simp[intOf];omega
theorem aeS(a b:UInt8):ag a b=ag b a:=by
 unfold ag;by_cases h:a=b
 ·rw[h]
 ·have Y:(a==b)=false:=by simp_all
  have K:(b==a)=false:=by simpa using fun e=>h e.symm
  rw[Y,K];rfl
theorem AE(t p:ByteArray):∀i j,lX t p i j=sT p t j i
 |0,0=>by simp[lX,sT]
 |0,j+1=>by simp[lX,sT]
 |i+1,0=>by simp[lX,mr,sT]
 |i+1,j+1=>by
  have Y:=AE t p i j;have K:=AE t p i (j+1);have H:=AE t p (i+1) j;rw[sT,<-Y,<-K,<-H];simp only[lX];rw[mr];have e:co (at8 t i) (at8 p j)=cost p t j i:=by unfold co cost;rw[aeS]
  omega
theorem Gq(t p:ByteArray)(k e d:Nat):∀n,(e,d)∈kK t p k n↔1<=e/\e<=n/\d=lX t p e p.size/\d<=k
 |0=>by simp[kK];omega
 |n+1=>by
  have Y:=Gq t p k e d n;rw[kK];split
  ·rename_i h;rw[bc,Y];simp only[bT,Prod.mk.injEq];constructor
   ·rintro(⟨a,b,c,x⟩|⟨rfl,rfl⟩)
    ·omega
    ·omega
   ·rintro⟨a,b,c,x⟩;by_cases K:e<=n
    ·omega
    ·have:e=n+1:=by omega
     subst this;exact .inr ⟨rfl,c⟩
  ·rw[Y];constructor
   ·omega
   ·rintro⟨a,b,c,x⟩;by_cases K:e<=n
    ·omega
    ·have:e=n+1:=by omega
     subst this;omega
theorem QK(X P:ByteArray)(k st x e d:Nat):(e,d)∈ki (x *st) (kU (jh X P k st x) P k) (kU (jh X P k st x) P k).length↔∃i,1<=i/\i<=(jh X P k st x).size/\e=i+x *st/\d=sT P (jh X P k st x) P.size i/\d<=k:=by
 unfold ki;rw[d_,List.drop_length,cx,bj];constructor
 ·rintro⟨⟨i,d'⟩,K,Y⟩;obtain⟨rfl,rfl⟩:=Y;obtain⟨a,b,c,h⟩:=(Gq _ _ _ _ _ _).1 K;exact⟨i,a,b,rfl,by rw[<-AE];exact c,h⟩
 ·rintro⟨i,a,b,rfl,c,h⟩;exact⟨(i,d),(Gq _ _ _ _ _ _).2 ⟨a,b,by rw[AE];exact c,h⟩,rfl⟩
theorem F_{P:ByteArray}{k st:Nat}{t:Int}{x:Nat}:∀n,x∈jV P X k q st t n↔x<n/\looked P X k q st t x=true
 |0=>by simp[jV]
 |n+1=>by
  have K:x∈jV P X k q st t n↔x<n/\looked P X k q st t x=true:=F_ n;rw[jV];split
  ·rename_i h;rw[bc,K];simp only[bT];constructor
   ·rintro(⟨a,b⟩|rfl)
    ·exact⟨by omega,b⟩
    ·exact⟨by omega,h⟩
   ·rintro⟨a,b⟩;by_cases Y:x<n
    ·exact .inl ⟨Y,b⟩
    ·exact .inr (by omega)
  ·rename_i h;rw[K];constructor
   ·rintro⟨a,b⟩;exact⟨by omega,b⟩
   ·rintro⟨a,b⟩;by_cases Y:x<n
    ·exact⟨Y,b⟩
    ·have:x=n:=by omega
     subst this;exact absurd b h
theorem acT(X P:ByteArray)(k q st x e d:Nat)(U:x *st<=X.size)(h:(e,d)∈ki (x *st) (kU (jh X P k st x) P k) (kU (jh X P k st x) P k).length):e<=X.size/\d<=k/\(ib P X k e).1<=d:=by
 obtain⟨i,R,I,rfl,Y,K⟩:=(QK X P k st x e d).1 h;have D:(jh X P k st x).size=min (x *st+st+P.size+k) X.size-x *st:=by unfold jh;simp_all
 have H:i+x *st<=min (x *st+st+P.size+k) X.size:=by omega
 refine⟨by omega,K,?_⟩;have:=Me P X k (x *st) _ _ (by omega) H (by omega) (by rw[show i+x *st-x *st=i by omega];show sT P (jh X P k st x) _ i<=k;omega);rw[show i+x *st-x *st=i by omega]at this;rw[Y];exact this
theorem Zo(X P:ByteArray)(k q st e:Nat)(M:1<=q)(gj:1<=st)(Y:e<=X.size)(hk:(ib P X k e).1<=k)(C:k<P.size):∃x∈jV P X k q st (oR P.size k q) (stretches X.size st),(e,(ib P X k e).1)∈ki (x *st) (kU (jh X P k st x) P k) (kU (jh X P k st x) P k).length:=by
 obtain⟨S,I,U⟩:=Xc P X k st e gj Y hk;obtain⟨D,R,O,b4⟩:=(zZ P X k e Y).2 hk;have F:=Zl P X k q st (ib P X k e).2 e M gj D Y (by omega);generalize N:(e-(P.size+k))/st=x at *;have B:0<e:=by
  rcases Nat.eq_zero_or_pos e with K|K
  ·exfalso;subst K;have H:(ib P X k 0).2=0:=by omega
   rw[H]at R;have Q:iY P (X.extract 0 0)=P.size:=by
    unfold iY;rw[show(X.extract 0 0).size=0 by rw[bk];omega];cases P.size<;>simp[dT]
   omega
  ·exact K
 have J:x *st<e:=by
  have T:x *st<=e-(P.size+k):=by rw[<-N];exact cY _ _
  omega
 refine⟨x,(F_ _).2 ⟨(BW X.size st x gj).1 (by omega),F⟩,?_⟩;rw[QK];have L:(jh X P k st x).size=min (x *st+st+P.size+k) X.size-x *st:=by unfold jh;rw[bk];omega
 have A:e<=min (x *st+st+P.size+k) X.size:=I;exact⟨e-x *st,by omega,by omega,by omega,U.symm,hk⟩
end
section
open RowKit Maps
noncomputable def vo:=match br.body with
 |some (.seq _ (.seq _ c))=>c
 |_=>.skip
def FG(a0 a1 a3 a4:ah)(fl:Bool)(b5 b6 Y b:Nat)(u:Nat->ah):=#[a0,a1,.bool fl,a3,a4,pt b5,pt b6,u 7,pt Y,u 9,.slice none 0 0,.map (some b),u 12,u 13,u 14,u 15,u 16,u 17,u 18,u 19,u 20,u 21,u 22,u 23,u 24,u 25,u 26,u 27,u 28,u 29,u 30,u 31,u 32,u 33,u 34,u 35,u 36,u 37,u 38,u 39,u 40,u 41,u 42,u 43,u 44,u 45,u 46,u 47,u 48,u 49,u 50,u 51,u 52,u 53,u 54,u 55,u 56,u 57,u 58,u 59,u 60,u 61,u 62,u 63,u 64,u 65,u 66,u 67,u 68,u 69,u 70,u 71,u 72]
def po(X P rn rm:ByteArray)(fl:Bool)(st dd:Nat->Nat)(e:Nat):Pl:=
 ⟨rn,P,rm,fl,st e,dd e,str (nO (str (gO P (X.extract (st e) e)))),str (jL P (X.extract (st e) e) (str (gO P (X.extract (st e) e))))⟩
def qK(p:Pl):Value:=.iface 158 p.val
theorem BZ(p t:ByteArray):∀f i j,∀c∈iC p t f i j,c=77\/c=73\/c=68
 |0,i,j=>by simp[iC]
 |f+1,i,j=>by
  intro c Y;rw[iC]at Y;split at Y
  ·simp at Y
  ·split at Y
   ·rw[bc]at Y;rcases Y with Y|Y
    ·exact BZ p t f _ _ c Y
    ·simp_all
   ·split at Y
    ·rw[bc]at Y;rcases Y with Y|Y
     ·exact BZ p t f _ _ c Y
     ·simp_all
    ·rw[bc]at Y;rcases Y with Y|Y
     ·exact BZ p t f _ _ c Y
     ·simp_all
theorem X7(p t:ByteArray):∀x,x<(str (gO p t)).size->at8 (str (gO p t)) x=77\/at8 (str (gO p t)) x=73\/at8 (str (gO p t)) x=68:=by
 intro x Y;rw[ny,ax,aA Y];exact BZ p t _ _ _ _ (cA Y)
theorem QL:(ai.info? 136).map (fun i=>(i.zero,i.size,i.bytes))=some (some .nilIface,1,16):=by kernel_rfl
theorem aaW(X P rn rm XN:ByteArray)(fl:Bool)(es:List Nat)(st dd:Nat->Nat)(a0 a1 a3 a4:ah)(b5 b6 b8 b:Nat)(u:Nat->ah)(w:ae)
  (hX:X.size<=200)(hP:P.size<=30)(hP1:1<=P.size)(hes:es.length<=1000)
  (h5:w.heap[b5]?=some (.cells #[.string XN,.string X] 68 (0,0)))(h6:w.heap[b6]?=some (.cells #[.string rn,.string P,.string rm] 131 (0,0)))
  (HS:ak ai 123 #[.func (.func 143) #[] #[.pointer (some ⟨w.heap.size,0,none⟩)]] (w.alloc (.cells #[.map (some b)] 166)) fun e w'=>∃v,e=.returned v/\w'.ownsRow w.heap.size 3 1 v es.length (es.map oJ)/\af w.heap.size w w')
  (US:∀W:ae,W.heap[b]?=w.heap[b]?->∀e∈es,(dD 166 (.map (some b)) (.int .i64 (e:Int)) false).run ai W=.ok (.int .i64 (dd e:Int)) W)(hbl:b<w.heap.size)
  (HE:∀e∈es,e<=X.size/\dd e<=1000/\st e<=e/\iY P (X.extract (st e) e)<=dd e/\∀c,c<e-st e->dd e<iY P (X.extract (e-c) e))(u_:iS w):
  vo.wp ai (aT ai br fun e w'=>∃v,e=.returned v/\w'.ownsRow w.heap.size 136 1 v es.length (es.map fun e=>qK (po X P rn rm fl st dd e))/\af w.heap.size w w'/\(es=[]->v=.slice none 0 0)) ⟨FG a0 a1 a3 a4 fl b5 b6 b8 b u,[]⟩ w:=by
 obtain⟨i0,hi,sF,qS,sH⟩:=bg QL;have UT:=laid HS;have UU:=laid US;have UW:=laid HE;have HT:=laid u_;have H5:=laid h5;have H6:=laid h6;have Er:b5<w.heap.size:=(aX.1 h5).1;have Es:b6<w.heap.size:=(aX.1 h6).1;clear HS US HE u_ h5 h6;obtain⟨Q,hQ⟩:∃Q,Q=(aT ai br fun e w'=>∃v,e=.returned v/\w'.ownsRow w.heap.size 136 1 v es.length (es.map fun e=>qK (po X P rn rm fl st dd e))/\af w.heap.size w w'/\(es=[]->v=.slice none 0 0)):=⟨_,rfl⟩;rw[<-hQ];have HQ:=laid hQ;clear hQ;unfold vo br FG;dsimp only;simp only[pt];go_wp2_with fail
 refine(X3 _ _).mono ?_;rintro e w1 ⟨rfl,rfl⟩;go_wp2_with fail
 refine UT.out.mono ?_;rintro e w2 ⟨v,rfl,O,LK⟩;clear UT;have aj6:=laid O;obtain⟨LM,UX,hv,aiI⟩:∃(LM:Option Addr) (UX:Nat),v=.slice LM es.length UX/\Hid (∀i,i<es.length->∃g,LM=some ⟨g,0,none⟩/\g<w2.heap.size/\w2.cell? ⟨g,i,none⟩=some (.int .i64 ((es.getD i 0:Nat):Int))):=by
  rcases O.2 with⟨rfl,h0⟩|⟨g,cap,cur,rfl,hB,hg,Uf,hc2,hc3,hc4⟩
  ·exact⟨none,0,by rw[h0],laid fun i hi=>by omega⟩
  ·refine⟨some ⟨g,0,none⟩,cap,rfl,laid fun i hi=>⟨g,rfl,(aX.1 hg).1,?_⟩⟩;have h:=(O.cells (g:=g) rfl) i (oJ (es.getD i 0)) (by rw[bp,ax,aA hi];rfl);rw[yf]at h;exact h
 subst hv;clear O aj6;have Z:w.heap.size<=w2.heap.size:=LK.size;go_wp2
 go_loopw [12,30] (fun rv iv wr=>∃i:Nat,iv=.int .i64 (i:Int)/\i<=es.length/\Hid (i=0->rv=.slice none 0 0)/\wr.ownsRow w2.heap.size 136 1 rv i ((es.take i).map fun e=>qK (po X P rn rm fl st dd e))/\af w2.heap.size w2 wr) (fun _ iv _=>es.length-(intOf iv).toNat)
 case atStart=>exact⟨0,rfl,aP _,laid fun _=>rfl,by simpa using ey _ _ _ _,az _ _⟩
 case round=>
  obtain⟨i,rfl,hil,UY,N,U⟩:=hrel;have J:af w.heap.size w wr:=LK.trans (U.mono Z);by_cases l:i<es.length
  ·obtain⟨UZ,rfl,aj7,t⟩:=aiI.out i l;have hci:wr.cell? ⟨UZ,i,none⟩=some (.int .i64 ((es.getD i 0:Nat):Int)):=by rw[U.cell (p:=⟨UZ,i,none⟩) aj7];exact t
   have G:es.getD i 0∈es:=by rw[ax,aA l];exact cA _
   have zr:Hid ((es.take (i+1)).map (fun e=>qK (po X P rn rm fl st dd e))=(es.take i).map (fun e=>qK (po X P rn rm fl st dd e))++[qK (po X P rn rm fl st dd (es.getD i 0))]):=laid (by
    rw[List.take_add_one,aA l,aN,ax,aA l];rfl)
   obtain⟨U0,he2,he3,U4,U5⟩:=UW.out _ G;have Ln:=UU.out wr (by rw[J.block b hbl]) _ G;generalize es.getD i 0=E at *;have B:=laid (And.intro U4 U5);clear U4 U5 t G;have b1:(i:Int)<(es.length:Int):=by omega
   have b2:(0:Int)<=(i:Int):=by omega
   have aj8:b5<wr.heap.size:=aZ Er J.size;have aj9:b6<wr.heap.size:=aZ Es J.size;have k5:wr.heap[b5]?=some (.cells #[.string XN,.string X] 68 (0,0)):=by rw[J.block b5 Er];exact H5.out
   have S:wr.heap[b6]?=some (.cells #[.string rn,.string P,.string rm] 131 (0,0)):=by rw[J.block b6 Es];exact H6.out
   have c5:wr.cell? ⟨b5,1,none⟩=some (.string X):=by rw[ar wr _ 1 _ _ _ k5];rfl
   have c6:wr.cell? ⟨b6,1,none⟩=some (.string P):=by rw[ar wr _ 1 _ _ _ S];rfl
   have U6:Hid (∀W:ae,ak ai 125 #[.string X,.string P,.agg #[.int .i64 (E:Int),.int .i64 (dd E:Int)]] W fun r w'=>r=.returned (.int .i64 (st E:Int))/\af W.heap.size W w'):=laid fun W=>by
    have:=X5 X P E (dd E) (E-st E) W hX (by omega) U0 he2 (by omega) (by rw[show E-(E-st E)=st E by omega];exact B.out.1) B.out.2;rw[show E-(E-st E)=st E by omega]at this;exact this
   have U7:oT (wr.alloc (.cells #[.int .i64 (E:Int),.int .i64 (dd E:Int)] 173)) wr.heap.size E (dd E):=heap_alloc_new wr _;have U8:=laid U7;have U9:=laid k5;have BP:=laid S;clear U7 k5 S B;go_wp2_with fail
   refine(U6.out _).mono ?_;rintro e w3 ⟨rfl,f⟩;have R:af wr.heap.size wr w3:=((az _ _).alloc (aj _) _).trans (f.mono (by simp));have Bz:=U8.out.below f (by simp);have q:=uv N R;have F:=U.trans (R.mono U.size);have k5:w3.heap[b5]?=some (.cells #[.string XN,.string X] 68 (0,0)):=by rw[R.block b5 aj8];exact U9.out
   have S:w3.heap[b6]?=some (.cells #[.string rn,.string P,.string rm] 131 (0,0)):=by rw[R.block b6 aj9];exact BP.out
   have d5:w3.cell? ⟨b5,1,none⟩=some (.string X):=by rw[ar w3 _ 1 _ _ _ k5];rfl
   have d6:w3.cell? ⟨b6,1,none⟩=some (.string P):=by rw[ar w3 _ 1 _ _ _ S];rfl
   have U_:wr.heap.size<w3.heap.size:=by have:=f.size;simp at this;omega
   have a:b6<w3.heap.size:=by omega
   have x:=laid S;have Va:=laid Bz;generalize wr.heap.size=y at *;clear f R N U U8 U9 BP k5 S Bz c5 c6 U6 Ln hci;have s1:(st E:Int)<=(E:Int):=by omega
   have s2:(E:Int)<=(X.size:Int):=by omega
   have s3:(0:Int)<=(st E:Int):=by omega
   have s4:E<=X.size:=U0;have hAs:(X.extract (st E) E).size<=300:=by rw[bk];omega
   have Vb:=laid (fun W:ae=>aaV P (X.extract (st E) E) W (by omega) hP1 hAs);have Vd:Hid (qK (po X P rn rm fl st dd E)=.iface 158 (.agg #[.string rn,.string P,.string rm,.bool fl,.int .i64 (st E:Int),.int .i64 (dd E:Int),.string (str (nO (str (gO P (X.extract (st E) E))))),.string (str (jL P (X.extract (st E) E) (str (gO P (X.extract (st E) E)))))])):=laid rfl;have Ve:(str (gO P (X.extract (st E) E))).size<=1000:=by rw[gR];have:=yg P (X.extract (st E) E);omega
   have Vf:Hid (∀W:ae,iS W->ak ai 127 #[.string (str (gO P (X.extract (st E) E)))] W fun e w'=>e=.returned (.string (str (nO (str (gO P (X.extract (st E) E))))))/\af W.heap.size W w'):=laid fun W K=>Zk _ W Ve K;have Vg:Hid (∀W:ae,iS W->ak ai 128 #[.string (str (gO P (X.extract (st E) E))),.string P,.string (X.extract (st E) E)] W fun e w'=>e=.returned (.string (str (jL P (X.extract (st E) E) (str (gO P (X.extract (st E) E))))))/\af W.heap.size W w'):=laid fun W K=>V5 P (X.extract (st E) E) _ W (by omega) (by omega) Ve (Ow P _) (X7 P _) K;generalize str (jL P (X.extract (st E) E) (str (gO P (X.extract (st E) E))))=DF at *;generalize str (nO (str (gO P (X.extract (st E) E))))=RN at *;generalize str (gO P (X.extract (st E) E))=LL at *;generalize I:X.extract (st E) E=A at *;go_wp2_with fail
   refine(Vb.out _).mono ?_;rintro e w4 ⟨rfl,C⟩;have d:=Va.out.below C U_;have H:=uv q C;have D:=F.trans (C.mono F.size);have S:w4.heap[b6]?=some (.cells #[.string rn,.string P,.string rm] 131 (0,0)):=by rw[C.block b6 a];exact x.out
   have c0:w4.cell? ⟨b6,0,none⟩=some (.string rn):=by rw[ar w4 _ 0 _ _ _ S];rfl
   have c1:w4.cell? ⟨b6,1,none⟩=some (.string P):=by rw[ar w4 _ 1 _ _ _ S];rfl
   have c2:w4.cell? ⟨b6,2,none⟩=some (.string rm):=by rw[ar w4 _ 2 _ _ _ S];rfl
   have cF:=d.c1;have m:y<w4.heap.size:=aZ U_ C.size;have M:b6<w4.heap.size:=aZ a C.size;have n:af w.heap.size w w4:=LK.trans (D.mono Z);have LN:iS w4:=HT.out.on n;have un:∀{W:ae},af w4.drew.heap.size w4.drew W->af w4.heap.size w4 W:=fun K=>⟨K.os,K.tape,K.output,K.size,K.block⟩;have LP:Hid (∀W:ae,W=w4.drew\/af w4.drew.heap.size w4.drew W->iS W):=laid fun W K=>by
    rcases K with rfl|K
    ·exact LN
    ·exact LN.on (un K)
   have LQ:Hid (∀W:ae,af w4.drew.heap.size w4.drew W->W.cell? ⟨b6,0,none⟩=some (.string rn)/\W.cell? ⟨b6,1,none⟩=some (.string P)/\W.cell? ⟨b6,2,none⟩=some (.string rm)/\W.cell? ⟨y,1,none⟩=some (.int .i64 (dd E:Int))):=laid fun W K=>⟨by rw[(un K).cell (p:=⟨b6,0,none⟩) M];exact c0,by rw[(un K).cell (p:=⟨b6,1,none⟩) M];exact c1,by rw[(un K).cell (p:=⟨b6,2,none⟩) M];exact c2,by rw[(un K).cell (p:=⟨y,1,none⟩) m];exact cF⟩;have BO:Hid (∀(W1 V:ae) (o:Obj),af w4.drew.heap.size w4.drew W1->(W1.alloc o).grownBy V u12.ownBlock->V.cell? ⟨b6,0,none⟩=some (.string rn)/\V.cell? ⟨b6,1,none⟩=some (.string P)/\V.cell? ⟨b6,2,none⟩=some (.string rm)/\V.cell? ⟨y,1,none⟩=some (.int .i64 (dd E:Int))):=laid fun W1 V o K hg=>by
    have hs:=(un K).size;have e1:V.heap[b6]?=some (.cells #[.string rn,.string P,.string rm] 131 (0,0)):=by
     rw[hg.block b6 (by simp;omega) (fun e=>x7 H S (by decide) e.symm),bD W1 _ (by omega),(un K).block b6 M];exact S
    have e2:V.heap[y]?=some (.cells #[.int .i64 (E:Int),.int .i64 (dd E:Int)] 173 (0,0)):=by
     rw[hg.block y (by simp;omega) (fun e=>x7 H d (by decide) e.symm),bD W1 _ (by omega),(un K).block y m];exact d
    exact⟨by rw[ar V _ 0 _ _ _ e1];rfl,by rw[ar V _ 1 _ _ _ e1];rfl,by rw[ar V _ 2 _ _ _ e1];rfl,by rw[ar V _ 1 _ _ _ e2];rfl⟩
   have BM:Hid (∀(W:ae),af w4.drew.heap.size w4.drew W->∀o:Obj,(W.alloc o).ownsRow w2.heap.size 136 1 u12 i ((es.take i).map fun e=>qK (po X P rn rm fl st dd e))):=laid fun W K o=>(uv H (un K)).alloc _;have BN:Hid (∀(W:ae),af w4.drew.heap.size w4.drew W->∀o:Obj,w2.heap.size<=(W.alloc o).heap.size):=laid fun W K o=>by have h1:=D.size;have h2:=(un K).size;simp;omega
   have k:=laid D;have Vh:=laid H;clear C d H q D F S un LN n Va x d5 d6 Vb J;go_wp2_with fail
   go_region_held3 (fun w'=>w'.cell? ⟨b6,0,none⟩=some (.string rn)/\w'.cell? ⟨b6,1,none⟩=some (.string P)/\w'.cell? ⟨b6,2,none⟩=some (.string rm)/\w'.cell? ⟨y,1,none⟩=some (.int .i64 (dd E:Int)))
    (first
     |go_keep
     |exact BO.out _ _ _ (Y.trans (T.mono Y.size)) L
     |exact LQ.out _ (Y.trans (T.mono Y.size))
     |exact LQ.out _ Y)
    (first
     |(go_at_call 127;refine(Vf.out _ (LP.out _ (.inl rfl))).mono ?_;rintro e w' ⟨rfl,Y⟩)
     |(go_at_call 128;refine(Vg.out _ (LP.out _ (.inr Y))).mono ?_;rintro e s ⟨rfl,T⟩)
     |(refine step_append_lies _ rfl _ _ 133 rfl w2.heap.size 136 i0 .nilIface 1 16 et hi sF qS sH rfl (by decide) _ i _ rfl (BM.out s (Y.trans (T.mono Y.size)) _) ⟨s.heap.size,0,none⟩ 1 1 [.iface 158 (.agg #[.string rn,.string P,.string rm,.bool fl,.int .i64 (st E:Int),.int .i64 (dd E:Int),.string RN,.string DF])] rfl rfl (dp (heap_alloc_new s _)) (fun u hu=>by simp at hu;subst hu;rfl) (by omega) (by unfold aB;omega) (by omega) (BN.out s (Y.trans (T.mono Y.size)) _) _ rfl ?_;intro g5 Ee w6 z L FD Jx))
   rename_i I9;clear I9;have aj_:af w2.heap.size w2 w6:=by
    have h1:af w4.heap.size w4 w':=⟨Y.os,Y.tape,Y.output,Y.size,Y.block⟩;have h2:=k.out.trans (h1.mono k.out.size);have h3:=h2.trans (T.mono h2.size);exact(h3.alloc h3.size _).grown L (by have:=h3.size;simp;omega) (fun j hj=>(Vh.out.lt j hj).1)
   have HR6:Hid (w6.ownsRow w2.heap.size 136 1 (.slice (some ⟨g5,0,none⟩) (i+1) Ee) (i+1) ((es.take (i+1)).map fun e=>qK (po X P rn rm fl st dd e))):=laid (by
    rw[zr.out,Vd.out];exact z)
   clear z L FD Jx Y T Vf Vg LP LQ BO BM BN k Vh Vd zr c0 c1 c2 cF I;go_wp2
   go_roundw
   case rel=>go_light;exact⟨i+1,by go_num,by omega,laid (fun h=>by omega),HR6.out,aj_⟩
   case measure=>go_light;simp[intOf];omega
  ·have LS:i=es.length:=by omega
   have HF:Hid (wr.ownsRow w.heap.size 136 1 u12 es.length (es.map fun e=>qK (po X P rn rm fl st dd e))):=laid (by
    have h:=yj N Z;rw[LS,d_]at h;exact h)
   have HNN:Hid (es=[]->u12=.slice none 0 0):=laid fun h=>UY.out (by rw[LS,h];rfl);clear LS N UU UW UY;go_wp2
   (try simp only[Exit.inBlock,Exit.then])
   rw[HQ.out];refine bL (cJ rfl _ _ _) rfl ?_;exact⟨_,rfl,HF.out,J,HNN.out⟩
end
namespace Ph
open Conc Ren
section
variable{P:bJ}{Q:QT}{Z:Loc->Prop}{f:au}{l:List au}{w:ae}
theorem gn.Ef(m:Nat)(r:au)(hr:gX P m f l=(r,l))(k:∀w',g_ Z w w'->(∀b,b<w.heap.size->w'.heap[b]?=w.heap[b]?)->gn P Q Z r l w'):gn P Q Z f l w:=by
 refine gn.kN m fun w' Y K=>?_;simp_all
end
abbrev pq(XN X:ByteArray):Value:=.agg #[.string XN,.string X]
abbrev oM(rn P rm:ByteArray):Value:=.agg #[.string rn,.string P,.string rm]
def qT(b i:Nat):Value:=.pointer (some ⟨b,i,none⟩)
theorem g_.at{B:Nat}{o:Obj}(h:g_ Z w w')(Y:w.heap[B]?=some o)(K:iP Z B):w'.heap[B]?=some o:=(h.old B (jI Y) K).trans Y
section
variable{P:bJ}{Q:QT}{Z:Loc->Prop}{f:au}{l:List au}{w:ae}
theorem gn.reads{B:Nat}{o:Obj}{es:Array _}(H:w.heap[B]?=some o)(gj:∀w2,w2.heap[B]?=some o->bE P true (G f l) w2=.go (G f1 l) w2 es)(K:∀e∈es,∃a:Addr,e=⟨.cell a,false,false⟩/\a.block=B)(C:iP Z B)(k:∀w',g_ Z w w'->gn P Q Z f1 l w'):gn P Q Z f l w:=by
 have R:=jI H;refine bC (U:=fun _ _=>False) (S:=fun b=>b=B) (X:=fun _=>False) (Done:=fun S X f' l' w'=>X=(fun _=>False)/\f'=f1/\l'=l) (Tr.one fun w2 hr=>?_) (fun b h=>by simp_all) fun S' X' f' l' w' hd hk=>?_
 ·have Y:=((hr.kept B rfl).eq (fun i y=>y)).trans H;refine⟨_,_,_,_,_,_,gj w2 Y,jY.toDid (U:=fun _ _=>False) (ti fun e D=>?_),.stop ⟨rfl,rfl,rfl⟩⟩;obtain⟨a,rfl,I⟩:=K e D;simp_all
 ·obtain⟨rfl,rfl,rfl⟩:=hd;exact k w' (g_.of hk)
theorem gn.write{B i:Nat}{v:ah}{c:Array _}(H:w.heap[B]?=some (.cells c t))(gj:∀w2,w2.heap[B]?=some (.cells c t)->bE P true (G f l) w2=.go (G f1 l) (w2.setCell ⟨B,i,none⟩ v) #[⟨.cell ⟨B,i,none⟩,true,false⟩])(C:iP Z B)
  (k:∀w',w'.heap[B]?=some (.cells (c.setIfInBounds i v) t)->(∀b,b<w.heap.size->b≠B->w'.heap[b]?=w.heap[b]?)->w.heap.size<=w'.heap.size->w'.tape=w.tape->nB w'.os w.os->w'.output=w.output->gn P Q Z f1 l w'):gn P Q Z f l w:=by
 have I:=jI H;refine bC (U:=fun _ _=>False) (S:=fun b=>b=B) (X:=fun b=>b=B) (Done:=fun S X f' l' w'=>w'.heap[B]?=some (.cells (c.setIfInBounds i v) t)/\f'=f1/\l'=l) (Tr.one fun w2 hr=>?_) (fun b h=>by simp_all) fun S' X' f' l' w' hd hk=>?_
 ·have Y:=((hr.kept B rfl).eq (fun i y=>y)).trans H;refine⟨_,_,_,_,_,_,gj w2 Y,jY.toDid (U:=fun _ _=>False) (GN rfl rfl (fun _=>id) (rW v) fun e A=>?_),.stop ⟨qX Y,rfl,rfl⟩⟩;simp_all
 ·obtain⟨D,rfl,rfl⟩:=hd;exact k w' D (fun b R K=>hk.kept b R K) hk.grow hk.tape hk.env hk.output
end
section
variable[gq]{r:Rn}{v w:ae}
theorem OB.plain{b:Nat}{o o':Obj}(h:OB r b o o')(Y:∀b,¬gq.ro b):O r o o':=by
 cases h with
 |same _ x=>exact x
 |ro _ y=>exact absurd y (Y _)
theorem acU{base Su:Nat}{size:Nat}{sv Vi:ah}{xs:List _}(h:v.ownsRow base e size sv n xs)(u:∀x∈xs,∀y,V r x y->y=x)(O:V r sv Vi)(E:W r 0 v w)(C:∀b,¬gq.ro b)(G:∀b b',r b=some b'->base<=b->Su<=b'):w.ownsRow Su e size Vi n xs:=by
 refine⟨h.1,?_⟩;rcases h.2 with⟨rfl,Z⟩|⟨g,cap,R,rfl,Q,S,J,T,L,M⟩
 ·cases O;simp_all
 ·cases O with
  |@slice a a' _ _ U=>
   obtain⟨b',o',s'⟩:=a';obtain⟨N,X,A⟩:=U;subst X A;obtain⟨o,o',F,P,I⟩:=E.obj _ _ N;rw[S]at F;cases F;have I:=OB.plain I C
   ·cases I with
    |@cells _ K _ _ B=>
     refine .inr ⟨b',cap,K,rfl,G _ _ N Q,P,J,T,B.size.symm.trans L,?_⟩;rw[<-M];apply dL;intro i;by_cases D:i<n *size
     ·rw[bu D,bu D,bF,bF];have Y:i<R.size:=by
       rw[L];exact aZ D (Nat.mul_le_mul_right _ J)
      have H:=B.size▸Y;rw[aW Y,aW H];congr 1;refine u _ ?_ _ (B.at_ i _ _ (aW Y) (aW _));rw[<-M];refine List.mem_iff_getElem?.2 ⟨i,?_⟩;rw[bu D,bF,aW Y]
     ·rw[cy (by simp;omega),cy (by simp;omega)]
theorem OO{k:IntKind}{n:Int}(h:V r (.int k n) y):y=.int k n:=by cases h;rfl
theorem acV{r0:Rn}(K:∀b,¬gq.ro b)(Y:Le r0 r)(hk:Kept (Wr r0) (Wr r) w0 w){B:Nat}(hd:∀b,B<=b->r0 b=none){b:Nat}(h:r b=some b')(D:B<=b):w0.heap.size<=b':=by
 rcases hk.may b' ⟨b,h,K b⟩with⟨c,H,_⟩|y
 ·have:=r.inj c b b' (Y _ _ H) h;simp_all
 omega
end
def K4:pC:={il:=fun f=>[48,75,76,77,78,99,115,134].contains f,sy:=fun _=>false,uJ:=fun _=>false,rB:=true}
theorem Zp:Ay K4 ai=true:=by decide+kernel
theorem Zq:([48,75,76,77,78,99,115,134].all fun f=>tu K4 ai uW f)=true:=by decide+kernel
theorem acW(f:Nat)(h:K4.il f=true):tu K4 ai uW f=true:=by
 have:f∈[48,75,76,77,78,99,115,134]:=by
  have:[48,75,76,77,78,99,115,134].contains f=true:=h;simp_all
 exact cw.1 Zq f this
def wv:List Item->Prop:=fun _=>False
def tw:List Deferred->Prop:=fun _=>False
theorem aiJ:@k_ (K4.jc ai AU wo wv tw) ai:=Ix (fun _ _ h=>h) _ GK Zp acW (HU K4 _ _ _ _)
def jS(X P:ByteArray)(k q st:Nat):=jV P X k q st (oR P.size k q) (stretches X.size st)
theorem X8{Q:QT}{c:au}{P:ByteArray}{k st:Nat}(hX:X.size<=200)(hP:P.size<=30)(hk:k<=6)(E:1<=q)(C:q<=8)(G:1<=st)(F:st<=200)(D:PR.globals.size<=w.heap.size)
  (m:∀v w',w'.ownsRow w.heap.size 3 1 v (jS X P k q st).length ((jS X P k q st).map oJ)->g_ Z w w'->gn PR Q Z (c.finish v) cs w'):
  gn PR Q Z (Frame.enter PR 48 #[.string X,.string P,jx k q st] .normal) (c::cs) w:=by
 letI:gq:=K4.jc ai AU wo wv tw
 have Y:∀b,¬gq.ro b:=fun b h=>h;have H:∀b,mj (fun _=>False) b=none:=fun b=>by
  cases e:mj (fun _=>False) b with
  |none=>rfl
  |some c=>exact((yi.1 e).1).elim
 refine gn.call (r0:=mj (fun _=>False)) (v0:=w) aiJ (fun _ h=>by cases h) (fun _ h=>h) (fun g h=>by cases h) (args:=#[.string X,.string P,jx k q st]) (R:=fun e w'=>∃v,e=.returned v/\w'.ownsRow w.heap.size 3 1 v (jS X P k q st).length ((jS X P k q st).map oJ)) (fun T=>(Xb X P k q st (tp w T) hX hP hk E C G F).mono fun e w' ⟨v,A,L,_⟩=>⟨v,A,L⟩) (fun e u ⟨v,h,_⟩=>⟨v,h⟩) (show K4.il 48=true by decide) ⟨rfl,fun i x x' e e'=>?_⟩ (Ie Y D fun b h=>h.elim) (fun a h=>(yo.1 h).elim) ?_
 ·obtain rfl:=Option.some.inj (e.symm.trans e');have j:i<3:=by
   have:=(aX.1 e).1;simpa using this
  have:i=0\/i=1\/i=2:=by omega
  rcases this with rfl|rfl|rfl<;>(simp at e;subst e)
  ·exact .string _
  ·exact .string _
  ·exact zT (n:=2) (by simp[jx,iv,mW])
 ·intro r v x x' w' U O S N K;obtain⟨y,J,I⟩:=N;cases J;refine m x' w' (acU I (fun z W y J=>?_) O S Y fun b b' A L=>acV Y U K (B:=0) (fun b _=>H b) A (aP _)) ?_
  ·obtain⟨n,_,rfl⟩:=bj.1 W;exact OO J
  ·exact⟨fun a V _=>K.kept a V (fun⟨b,M,_⟩=>by rw[H b]at M;cases M),K.grow,K.tape,K.env,K.output⟩
section
variable{P:bJ}{Q:QT}{Z:Loc->Prop}{f:au}{l:List au}{w:ae}
theorem gn.still(gj:∀w2,bE P true (G f l) w2=.go (G f1 l) w2 #[])(k:∀w',g_ Z w w'->(∀a,a<w.heap.size->w'.heap[a]?=w.heap[a]?)->gn P Q Z f1 l w'):gn P Q Z f l w:=by
 refine bC (U:=fun _ _=>False) (S:=fun _=>False) (Done:=fun S X f' l' w'=>X=(fun _=>False)/\f'=f1/\l'=l) (Tr.one fun w2 hr=>⟨_,_,_,_,_,_,gj w2,(iW (U:=fun _ _=>False) _ _ w2).toDid,.stop ⟨rfl,rfl,rfl⟩⟩) (fun b h=>h.elim) fun S' X' f' l' w' hd hk=>?_;obtain⟨rfl,rfl,rfl⟩:=hd;exact k w' (g_.of hk) fun a Y=>hk.kept a Y id
end
section
variable{main:Bool}{f:au}{cs:List au}
def Eg(B:Nat)(a b c:ah)(w:ae):World:=((w.setCell ⟨B,0,none⟩ a).setCell ⟨B,1,none⟩ b).setCell ⟨B,2,none⟩ c
theorem aka{B:Nat}{a b c:ah}(w:ae)(h:w.heap[B]?=some (.cells #[x,y,z] t)):Env.Eff B w (Eg B a b c w)/\(Eg B a b c w).heap[B]?=some (.cells #[a,b,c] t):=by
 refine⟨Cm (Cm (rW _) (rW _)) (rW _),?_⟩;have Y:=qX (i:=0) (v:=a) h;have K:=qX (i:=1) (v:=b) Y;exact qX K
end
section
variable{main:Bool}{f:au}{cs:List au}
def Eh(B:Nat)(a b:ah)(w:ae):World:=(w.setCell ⟨B,0,none⟩ a).setCell ⟨B,1,none⟩ b
theorem akb{B:Nat}{a b:ah}(w:ae)(h:w.heap[B]?=some (.cells #[x,y] t)):Env.Eff B w (Eh B a b w)/\(Eh B a b w).heap[B]?=some (.cells #[a,b] t):=by
 refine⟨Cm (rW _) (rW _),?_⟩;have Y:=qX (i:=0) (v:=a) h;exact qX Y
end
end Ph
namespace Ph
open Conc Ren
open Lock (Word PC)
theorem xu:j7 PR (isAgg 9)=some false:=by kernel_rfl
theorem agF:j7 PR (isAgg 166)=some false:=by kernel_rfl
theorem x6:(PR.funcs[122]?).any (·.norace)=false:=by kernel_rfl
theorem aeT:(PR.info? 182).map (·.zero)=some (some (.pointer none)):=by kernel_rfl
theorem aeU:(PR.info? 182).map (·.size)=some 1:=by kernel_rfl
theorem aeV:(PR.info? 212).map (·.zero)=some (some (.agg #[.int .u64 0,.int .u32 0])):=by kernel_rfl
section
variable{X P:ByteArray}{k q st n Rf Sg By Mp Fd Fp:Nat}{J:Nat->ah}{c:au}{cs:List au}
theorem agG:gC PR 4 ((eF Lu (jA (aE X P k q st n) Rf Sg By Fp) J).finish (.map (some Mp))) (c::cs)=(c.finish (.map (some Mp)),cs):=by kernel_rfl
end
theorem Ng{P:ByteArray}{k st:Nat}{t:Int}{x:Nat}:∀n,x∈jV P X k q st t n->x<n
 |0,h=>by cases h
 |n+1,h=>by
  have Y:x∈jV P X k q st t n->x<n:=Ng n;rw[jV]at h;split at h
  ·rcases bc.1 h with y|y
   ·have:=Y y;omega
   ·simp at y;omega
  ·have:=Y h;omega
structure Lay(Z:Loc->Prop)(w0:ae)(X P:ByteArray)(k q st Rf Sg By Mp Fd Fp:Nat)(w:ae):Prop where
 rf:w.heap[Rf]?=some (.cells #[.string X] 9)
 sg:w.heap[Sg]?=some (.cells #[.string P] 9)
 by_:w.heap[By]?=some (.cells #[iv k,iv q,iv st] 75)
 mp:w.heap[Mp]?=some (.map #[] 0)
 fd:w.heap[Fd]?=some (.cells #[.int .i32 0,.int .u32 0,.map (some Mp)] 191)
 fp:w.heap[Fp]?=some (.cells #[ptr Fd] 182)
 Vj:iP Z Rf
 Vk:iP Z Sg
 Vl:iP Z By
 LU:iP Z Mp
 LW:iP Z Fd
 FH:iP Z Fp
 o1:w0.heap.size<=Rf
 o2:Rf<Sg
 o3:Sg<By
 o4:By<Mp
 o5:Mp<Fd
 o6:Fd<Fp
 o7:Fp<w.heap.size
 oK:g_ Z w0 w
theorem Lay.on{P:ByteArray}{k st:Nat}(h:Lay Z w0 X P k q st Rf Sg By Mp Fd Fp w)(g:g_ Z w w'):Lay Z w0 X P k q st Rf Sg By Mp Fd Fp w':=
 ⟨g.at h.rf h.Vj,g.at h.sg h.Vk,g.at h.by_ h.Vl,g.at h.mp h.LU,g.at h.fd h.LW,g.at h.fp h.FH,h.Vj,h.Vk,h.Vl,h.LU,h.LW,h.FH,h.o1,h.o2,h.o3,h.o4,h.o5,h.o6,aZ h.o7 g.grow,h.oK.trans g⟩
section
variable{Qq:QT}{Z:Loc->Prop}{w:ae}{c:au}{cs:List au}{X P:ByteArray}{k q st n:Nat}
theorem agH(kk:∀Rf Sg By Mp Fd Fp J w',Lay Z w X P k q st Rf Sg By Mp Fd Fp w'->gn PR Qq Z ((eF zy (jA (aE X P k q st n) Rf Sg By Fp++[(12,ptr Fd)]) J).finish ay) (c::cs) w'):
  gn PR Qq Z (Frame.enter PR 122 #[.string X,.string P,jx k q st,iv n] .normal) (c::cs) w:=by
 refine aM 60 (Uh X P k q st n (c::cs)) rfl eb0 rfl fun J1 w1 g1 _ _ _ _=>?_;refine bt (F:=fun B=>(eF BE (aE X P k q st n) J1).finish (ptr B)) (o:=.cells #[.string X] 9) (fun w2=>Ab aiw rfl rfl w2) fun Rf w2 l1 u1 f N g2=>?_;refine aM 60 (Ui X P k q st n Rf J1 (c::cs)) rfl eb1 rfl fun J2 w3 g3 _ _ _ _=>?_;refine bt (F:=fun B=>(eF BF (BC (aE X P k q st n) Rf) J2).finish (ptr B)) (o:=.cells #[.string P] 9) (fun w2=>Ab aix rfl rfl w2) fun Sg w4 l2 u2 g O g4=>?_;refine aM 60 _ rfl eb2 rfl fun J3 w5 V _ _ _ _=>?_;refine bt (F:=fun B=>(eF BG (BD (aE X P k q st n) Rf Sg) J3).finish (ptr B)) (o:=.cells #[iv k,iv q,iv st] 75) (fun w2=>Ab aiy rfl rfl w2) fun By w6 l3 u3 W C g6=>?_;refine aM 60 _ rfl emm rfl fun J4 w7 S _ _ _ _=>?_;refine bt (F:=fun B=>(eF BH _ J4).finish (.map (some B))) (o:=.map #[] 0) (fun w2=>aex aiz w2) fun Mp w8 l4 u4 d M E=>?_;refine aM 60 (Uj X P k q st n Rf Sg By Mp J4 (c::cs)) rfl eb3 rfl fun J5 w9 I _ _ _ _=>?_;refine bt (F:=fun B=>(eF BI _ J5).finish (ptr B)) (fun w2=>Ab aiA rfl rfl w2) fun Fd wA l5 u5 j L gA=>?_;refine aM 60 _ rfl eal rfl fun J6 wB R _ _ _ _=>?_;refine bt (F:=fun B=>(eF BJ (pD (aE X P k q st n) Rf Sg By++[(12,ptr Fd)]) J6).finish (ptr B)) (o:=.cells #[.pointer none] 182) (fun w2=>PD aiB aeT rfl w2) fun Fp wC l6 u6 z D A=>?_;refine aM 60 _ rfl efs rfl fun J7 wD H _ _ _ _=>?_;have Q:=((((((((((g3.trans g4).trans V).trans g6).trans S).trans E).trans I).trans gA).trans R).trans A).trans H);have e:=((((((((V.trans g6).trans S).trans E).trans I).trans gA).trans R).trans A).trans H);have b:=((((((S.trans E).trans I).trans gA).trans R).trans A).trans H);have h:=((((I.trans gA).trans R).trans A).trans H);have t:=((R.trans A).trans H);have s0:=g1.grow;have s2:=g3.grow;have s4:=V.grow;have s6:=S.grow;have s8:=I.grow;have s10:=R.grow;have s12:=H.grow;refine gn.write (v:=ptr Fd) (i:=0) (H.at z D) (fun w2 l=>aez aiC rfl rfl l (by simp) x6 aeU) D fun wE U K G m T p=>?_;have x:=(K Rf (by omega) (by omega)).trans (Q.at f N);have y:=(K Sg (by omega) (by omega)).trans (e.at g O);have r:=(K By (by omega) (by omega)).trans (b.at W C);have u:=(K Mp (by omega) (by omega)).trans (h.at d M);have s:=(K Fd (by omega) (by omega)).trans (t.at j L);have Y:=(g1.trans g2).trans Q;exact kk Rf Sg By Mp Fd Fp J7 wE ⟨x,y,r,u,s,U,N,O,C,M,L,D,by omega,by omega,by omega,by omega,by omega,by omega,by omega,⟨fun a ha ho=>(K a (by have:=Y.grow;omega) (by omega)).trans (Y.old a ha ho),aK Y.grow G,m.trans Y.tape,T.trans Y.env,p.trans Y.output⟩⟩
def yG(Z:Loc->Prop)(B:Nat)(gB:List Nat)(b:Option Addr)(w:ae):Prop:=∀i x:Nat,gB[i]?=some x->∃Nb Y,b=some ⟨Nb,0,none⟩/\B<=Nb/\Nb<w.heap.size/\w.heap[Nb]?=some (.cells Y 3)/\Y[i]?=some (.int .i64 (x:Int))/\iP Z Nb
theorem yG.on{B:Nat}{b:Option _}(h:yG Z B gB b w)(g:g_ Z w w'):yG Z B gB b w':=fun i x U=>by
 obtain⟨Nb,Y,H,D,R,I,A,K⟩:=h i x U;exact⟨Nb,Y,H,D,aZ R g.grow,g.at I K,A,K⟩
theorem agI(hX:X.size<=200)(hP:P.size<=30)(hk:k<=6)(h:1<=q)(S:q<=8)(hs:1<=st)(T:st<=200)(D:PR.globals.size<=w.heap.size)(u:Lay Z w0 X P k q st Rf Sg By Mp Fd Fp w)(m:Nat->ah)
  (kk:∀b cap J w',Lay Z w0 X P k q st Rf Sg By Mp Fd Fp w'->yG Z w.heap.size (jS X P k q st) b w'->gn PR Qq Z ((eF xO (jA (aE X P k q st n) Rf Sg By Fp++[(13,.string X),(14,.string P),(15,jx k q st)]) J).finish (gM b (jS X P k q st).length cap)) (c::cs) w'):
  gn PR Qq Z ((eF zy (jA (aE X P k q st n) Rf Sg By Fp++[(12,ptr Fd)]) m).finish ay) (c::cs) w:=by
 obtain⟨V,E,Q,rMp,rFd,rFp,U,B,A,oMp,oFd,oFp,o1,o2,o3,o4,o5,o6,o7,gw⟩:=id u;refine aM 60 _ rfl ee1 rfl fun J8 wF L _ _ ld _=>?_;refine gn.read (fun w2 H=>rP ld xu H x6) (by rw[ar _ Rf 0 _ _ _ (L.at V U)];rfl) U fun wG gG=>?_;refine aM 60 _ rfl ee2 rfl fun J9 wH gH _ _ ld _=>?_;refine gn.read (fun w2 H=>rP ld xu H x6) (by rw[ar _ Sg 0 _ _ _ (((L.trans gG).trans gH).at E B)];rfl) B fun wI l=>?_;refine aM 60 _ rfl ee3 rfl fun JA wJ o _ _ ld _=>?_;have K:=(((L.trans gG).trans gH).trans l).trans o;have gj:∀w2:ae,w2.heap[By]?=some (.cells #[iv k,iv q,iv st] 75)->bE PR true (G _ (c::cs)) w2=.go _ w2 _:=fun w2 H=>aeA ld H x6;have N:∀e∈(#[⟨.cell ⟨By,0,none⟩,false,false⟩,⟨.cell ⟨By,1,none⟩,false,false⟩,⟨.cell ⟨By,2,none⟩,false,false⟩]:Array Event),∃a:Addr,e=⟨.cell a,false,false⟩/\a.block=By:=by simp
 refine gn.reads (K.at Q A) gj N A fun wK p=>?_;refine aM 60 _ rfl ee4 rfl fun f wL r _ ca _ _=>?_;refine bM 1 fun wM t=>?_;rw[aiu];have s:g_ Z wL wM:=g_.of t;have Y:=((K.trans p).trans r).trans s;refine bN fun O=>?_;refine X8 hX hP hk h S hs T (aK D Y.grow) fun nv d I v=>?_;obtain⟨b,cap,rfl,R⟩:∃(b:Option Addr) (cap:Nat),nv=gM b (jS X P k q st).length cap/\yG Z w.heap.size (jS X P k q st) b d:=by
  rcases I.2 with⟨M,C⟩|⟨g,cap,F,M,C,j,h4,h5,h6,y⟩
  ·refine⟨none,0,by rw[M,C];rfl,fun i x z=>?_⟩;simp_all
  ·refine⟨some _,cap,M,fun i x z=>⟨g,F,rfl,aK Y.grow C,jI j,j,?_,O.off C⟩⟩;have W:((jS X P k q st).map oJ)[i]?=some (oJ x):=by simp_all
   rw[<-y,bu (by have:=(List.getElem?_eq_some_iff.1 z).1;omega),bF]at W;exact W
 exact kk b cap f d (u.on (Y.trans v)) R
theorem agJ(hX:X.size<=200)(hP:P.size<=30)(hk:k<=6)(hs:1<=st)(E:st<=200)(hn:1<=n)(N:n<=8)(M:PR.globals.size<=w.heap.size){w1:ae}(hL:Lay Z w0 X P k q st Rf Sg By Mp Fd Fp w){b:Option Addr}(aoD:Fp<w1.heap.size)(hN:yG Z w1.heap.size (jS X P k q st) b w)(JB:Nat->ah)
  (kk:∀Wg J w',gI (iL Fd Mp Wg X P k st).U (fun a=>a<w.heap.size/\a≠Mp/\iP Z a) w w'->w.heap.size<=Wg->Wg<w'.heap.size->mZ (qy X P k st (jS X P k q st)) (w'.heap[Mp]?)->w'.heap[Fd]?=some (.cells #[.int .i32 0,.int .u32 0,.map (some Mp)] 191)->w'.tape=w.tape->w'.output=w.output->Mp<w'.heap.size->gn PR Qq (fun l=>Z l\/rA (iL Fd Mp Wg X P k st) l) ((eF zz (jA (aE X P k q st n) Rf Sg By Fp++[(16,gM b (jS X P k q st).length cap),(17,iv n),(18,jW By Rf Sg Fp)]) J).finish unit) (c::cs) w'):
  gn PR Qq Z ((eF xO (jA (aE X P k q st n) Rf Sg By Fp++[(13,.string X),(14,.string P),(15,jx k q st)]) JB).finish (gM b (jS X P k q st).length cap)) (c::cs) w:=by
 refine aM 60 _ rfl ee5 rfl fun JC wO y _ _ _ _=>?_;refine bM 1 fun wP kP=>?_;rw[aiv];have m:g_ Z wO wP:=g_.of kP;refine aM 60 (Ul (gM b (jS X P k q st).length cap) n (jW By Rf Sg Fp) _) rfl ra0 rfl fun s wQ gQ _ _ _ _=>?_;refine bt (F:=fun B=>(dF BK (BL (gM b (jS X P k q st).length cap) n (jW By Rf Sg Fp)) s).finish (ptr B)) (o:=.cells #[.int .u64 0,.int .u32 0] 212) (fun w2=>PD aiD aeV rfl w2) fun Wg wR l7 u7 I j t=>?_;refine aM 60 (Um (gM b (jS X P k q st).length cap) n Wg (jW By Rf Sg Fp) s _) rfl ra1 rfl fun u wS O _ _ _ _=>?_;refine bt (F:=fun B=>(dF Ft (Fu (gM b (jS X P k q st).length cap) n (jW By Rf Sg Fp) Wg) u).finish (qQ B n)) (o:=.cells (oH [] n) 214) (fun w2=>aey aiE N rfl rfl w2) fun Gv wT l8 u8 D W Q=>?_;refine aM 60 (Te b (jS X P k q st).length cap n Wg Gv (jW By Rf Sg Fp) u _) rfl ajR rfl fun JF wU H _ _ _ C=>?_;have gA:=y.trans (m.trans gQ);have K:=(gA.trans t).trans (O.trans (Q.trans H));have A:=((O.trans Q).trans H).at I j;have R:=H.at D W;have s5:=gA.grow;have s7:=O.grow;have s9:=H.grow;have S:=hL.on K;have hNU:=hN.on K;have sB:=K.grow;have a1:=hL.o7;clear y m gQ t O Q H gA kP I D;obtain⟨p,r,z,g,d,f,oRf,oSg,oBy,oMp,oFd,oFp,o1,o2,o3,o4,o5,o6,o7,gw⟩:=id S;have hG:k4 Z Fd Mp Wg Gv By Rf Sg Fp k q st n X P b (jS X P k q st) wU:={
  cin:=⟨z,p,r,f,aK M K.grow⟩
  fd:=d
  mp:=g
  wg:=A
  gv:=R
  num:=fun i x G=>by
   obtain⟨Nb,cur,h,e,h3,h4,h5,h6⟩:=hN i x G;refine⟨Nb,0,h,?_,by omega,by omega,by omega,by omega,h6⟩;rw[ar _ Nb (0+i) _ _ _ (K.at h4 h6),bI];exact h5
  off:=fun a Y=>by
   rcases Y with rfl|rfl|rfl|rfl|(rfl|rfl|rfl|rfl)<;>assumption
  fm:=by omega
  fw:=by omega
  fg:=by omega
  mw:=by omega
  mg:=by omega
  Fq:=by omega
  kp:=fun a Y=>by
   rcases Y with rfl|rfl|rfl|rfl<;>(refine⟨?_,?_,?_,?_⟩<;>omega)
  n0:=hn
  n8:=N
  len:=by
   have:=F8 P X k q st (oR P.size k q) (stretches X.size st);have e:stretches X.size st<=400:=by
    unfold stretches;have:=ed (X.size+st-1) st;omega
   unfold jS;omega
  hX:=hX
  hP:=hP
  hk:=hk
  gj:=E
  ok:=fun x G=>by
   have h:=(BW X.size st x hs).2 (Ng _ G);have e:x<=x *st:=Nat.le_mul_of_pos_right x hs;omega}
 refine hG.phase (cap:=cap) (C.less fun i v hv=>wq (b:=[(18,.bool (decide ((0:Int)<(n:Int))))]) hv) ((C.slot 18 _ rfl).trans (by congr 1;simp)) fun w' hr hm V ht ho T=>?_;have L:∀a,a<w.heap.size/\a≠Mp/\iP Z a->ko Z Mp Gv wU.heap.size a:=fun a Y=>⟨by omega,Y.2.1,by omega,Y.2.2⟩;refine kk Wg JC w' ⟨fun a Y=>?_,aK sB hr.grow,hr.env.trans K.env⟩ (by omega) (by have:=hr.grow;omega) hm V (ht.trans K.tape) (ho.trans K.output) T;have:=hr.kept a (L a Y);rw[K.old a Y.1 Y.2.2]at this;exact this
theorem gn.aiK{f:au}{l:List _}{a:Addr}{v:ah}(gj:∀w2,w2.cell? a=some v->bE PP true (G f l) w2=.go (G f1 l) w2 #[⟨.cell a,false,false⟩])(Y:w.cell? a=some v)(C:iP Z a.block)(k:∀w',g_ Z w w'->(∀b,b<w.heap.size->w'.heap[b]?=w.heap[b]?)->gn PP Qq Z f1 l w'):gn PP Qq Z f l w:=by
 have D:a.block<w.heap.size:=Nat.lt_of_not_le fun y=>by simp[aO,cg y]at Y
 refine bC (U:=fun _ _=>False) (S:=fun b=>b=a.block) (X:=fun _=>False) (Done:=fun S X f' l' w'=>X=(fun _=>False)/\f'=f1/\l'=l) (Tr.one fun w2 hr=>?_) (fun b h=>by simp_all) fun S' X' f' l' w' hd hk=>?_
 ·have K:w2.cell? a=some v:=by
   simp[aO]at Y⊢;rw[(hr.kept _ rfl).eq (fun i y=>y)];exact Y
  exact⟨_,_,_,_,_,_,gj w2 K,(uo (U:=fun _ _=>False) (S:=fun b=>b=a.block) rfl id).toDid,.stop ⟨rfl,rfl,rfl⟩⟩
 ·obtain⟨rfl,rfl,rfl⟩:=hd;exact k w' (g_.of hk) fun b H=>hk.kept b H id
theorem PX{Wg:Nat}{a:Nat}(h:iP Z a)(K:a≠Fd)(H:a≠Wg):iP (fun l=>Z l\/rA (iL Fd Mp Wg X P k st) l) a:=by
 intro l Y y;rcases y with y|y
 ·exact h l Y y
 ·cases l with
  |cell ad=>
   have:=Y;rcases y.1 with e|e
   ·exact K (this.symm.trans e)
   ·exact H (this.symm.trans e)
  |_=>exact y.elim
theorem Wh(hX:X.size<=200)(hP:P.size<=30)(hk:k<=6)(hq:1<=q)(u:q<=8)(h:1<=st)(M:st<=200)(hn:1<=n)(g:n<=8)(C:PR.globals.size<=w.heap.size)
  (kk:∀Z' Mp w',(∀l,Z l->Z' l)->(∀l,Z' l->Z l\/∃a:Addr,l=.cell a/\w.heap.size<=a.block)->g_ Z w w'->w.heap.size<=Mp->iP Z' Mp->mZ (qy X P k st (jS X P k q st)) (w'.heap[Mp]?)->Mp<w'.heap.size->gn PR Qq Z' (c.finish (.map (some Mp))) cs w'):
  gn PR Qq Z (Frame.enter PR 122 #[.string X,.string P,jx k q st,iv n] .normal) (c::cs) w:=by
 refine agH fun Rf Sg By Mp Fd Fp t w1 O=>?_;refine agI hX hP hk hq u h M (aK C O.oK.grow) O t fun b cap i w2 Y hN=>?_;refine agJ hX hP hk h M hn g (aK C Y.oK.grow) Y O.o7 hN i fun Wg J3 w3 W hW1 hW2 hM hF ht ho xG=>?_;have o1:=Y.o1;have o2:=Y.o2;have o3:=Y.o3;have o4:=Y.o4;have o5:=Y.o5;have o6:=Y.o6;have o7:=Y.o7;have s3:=W.grow;have key:=fun a x m h3 B=>(W.kept a ⟨x,m,h3⟩).eq (wZ B (by omega));have p:w3.heap[Fp]?=some (.cells #[ptr Fd] 182):=(key Fp o7 (by omega) Y.FH (by omega)).trans Y.fp;have H:g_ Z w w3:=⟨fun a A I=>(key a (by omega) (by omega) I (by omega)).trans (Y.oK.old a A I),aK Y.oK.grow s3,ht.trans Y.oK.tape,W.env.trans Y.oK.env,ho.trans Y.oK.output⟩;have L:iP (fun l=>Z l\/rA (iL Fd Mp Wg X P k st) l) Fp:=PX Y.FH (by omega) (by omega);have o:iP (fun l=>Z l\/rA (iL Fd Mp Wg X P k st) l) Mp:=PX Y.LU (by omega) (by omega);clear key;refine aM 60 _ rfl ee6 rfl fun J4 w4 R B _ ld _=>?_;refine gn.aiK (a:=⟨Fp,0,none⟩) (fun w2 j=>rP ld Rp j x6) (by rw[ar _ Fp 0 _ _ _ (R.at p L)];rfl) L fun w5 N Q=>?_;refine aM 60 (Uk X P k q st n Rf Sg By Fd Fp J4 (c::cs)) rfl ee7 rfl fun J5 w6 g6 T _ f _=>?_;have F:=(T Fd (by have:=R.grow;have:=N.grow;omega)).trans ((Q Fd (by have:=R.grow;omega)).trans ((B Fd (by omega)).trans hF));have V:w6.heap[Mp]?=w3.heap[Mp]?:=(T Mp (by have:=R.grow;have:=N.grow;omega)).trans ((Q Mp (by have:=R.grow;omega)).trans (B Mp (by omega)));have D:=(R.trans N).trans g6;have s36:=D.grow;refine gn.tz (U:=(iL Fd Mp Wg X P k st).U) (S:=fun a=>a=Fd) (X:=fun _=>False) (Done:=fun S' X' v w'=>X'=(fun _=>False)/\v=G ((eF Lu (jA (aE X P k q st n) Rf Sg By Fp) J5).finish (.map (some Mp))) (c::cs)) (Tz.one rfl fun r z=>?_) (fun hlo a A=>?_) fun S' X' v r hd hk=>?_
 ·have j:r.cell? ⟨Fd,2,none⟩=some (.map (some Mp)):=qp (U:=(iL Fd Mp Wg X P k st).U) (S:=fun a=>a=Fd) rfl (fun y=>by have:=y.2;omega) (by rw[ar _ Fd 2 _ _ _ F];rfl) z;exact⟨_,r,_,_,_,rP f agF j x6,uo rfl (fun y=>by have m:(2:Nat)<2:=y.2;omega),.stop ⟨rfl,rfl⟩⟩
 ·subst A;refine⟨jI F,fun l J I=>?_⟩;rcases I with y|y
  ·exact absurd y (Y.LW l J)
  ·cases l with
   |cell ad=>exact⟨ad,rfl,y⟩
   |_=>exact y.elim
 ·obtain⟨rfl,rfl⟩:=hd;refine⟨_,_,rfl,bM 4 fun s K=>?_⟩;rw[agG];have E:s.heap[Mp]?=w3.heap[Mp]?:=(K.kept Mp (by have:=hk.grow;omega) id).trans ((hk.kept Mp (by omega) id).trans V);have s8:=K.grow;have s7:=hk.grow;refine kk _ Mp s (fun l J=>.inl J) (fun l J=>?_) ?_ (by omega) o (by rw[E];exact hM) (by omega)
  ·rcases J with y|y
   ·exact .inl y
   ·cases l with
    |cell ad=>
     refine .inr ⟨ad,rfl,?_⟩;have:=Y.oK.grow;rcases y.1 with e|e
     ·rw[e];exact aK (by omega) (aj Fd)
     ·rw[e];exact aK (by omega) (aj Wg)
    |_=>exact y.elim
  ·have d:∀a,a<w.heap.size->iP Z a->s.heap[a]?=w3.heap[a]?:=fun a A I=>by
    have x:=Y.oK.grow;exact(K.kept a (by omega) id).trans ((hk.kept a (by omega) id).trans ((T a (by have:=R.grow;have:=N.grow;omega)).trans ((Q a (by have:=R.grow;omega)).trans (B a (by omega)))))
   exact⟨fun a A I=>(d a A I).trans (H.old a A I),by have:=H.grow;omega,K.tape.trans (hk.tape.trans (D.tape.trans H.tape)),K.env.trans (hk.env.trans (D.env.trans H.env)),K.output.trans (hk.output.trans (D.output.trans H.output))⟩
end
end Ph
namespace Ph
open Conc Ren
theorem uw{a:Nat}(K:∀l,Z' l->Z l\/∃a:Addr,l=.cell a/\w.heap.size<=a.block)(h:iP Z a)(H:a<w.heap.size):iP Z' a:=by
 intro l Y y;rcases K l y with y|⟨ad,rfl,D⟩
 ·exact h l Y y
 ·have:ad.block=a:=Y;omega
end Ph
namespace Ph
open Conc Ren
open Maps (Keyed IsMap Tidy has)
theorem acX{g:lZ}{b:Nat}(h:mZ g (w.heap[b]?)):∃U l,w.ownsMap PR 3 (du PR 3) b U (.map l)/\uY l g/\l.Pairwise (fun p q=>p.1≠q.1):=by
 obtain⟨es,clock,l,K,F,H,D⟩:=h;have Y:w.ownsMap PR 3 _ b _ (.map l):=⟨es,clock,K,F,aj _,by rw[H]⟩;refine⟨es.size,l,Y,D,?_⟩;obtain⟨l',R,I,_⟩:=Y.entries BB;simp_all
theorem acY{g:lZ}{b nn:Nat}{l:List _}(D:w.ownsMap PR 3 (du PR 3) b nn (.map l))(K:uY l g){e:Nat}(U:g e=some d)(H:e<1000000):(dD 166 (.map (some b)) (.int .i64 e) false).run PR w=.ok (.int .i64 d) w:=by
 have Y:keyOf PR 3 (.int .i64 e)=some (.int .i64 e):=by
  unfold keyOf;simp[mapKey,AA H]
 obtain⟨c,R,I,A⟩:=D.lookup_int BB u166 u3 (Sn w) Y;have:=K.at_ e;simp_all
theorem X9{g:lZ}{l:List _}(H:uY l g)(M:l.Pairwise (fun p q=>p.1≠q.1))(L:List Nat)(C:L.Pairwise (· < ·))(F:∀e,e∈L↔(g e).isSome=true):
  (∀U:List Int,U.Perm (bZ (.map l))->U.mergeSort (fun x y=>decide (x<=y))=L.map (fun e=>((e:Nat):Int)))/\l.length=L.length:=by
 have Y:(L.map (fun e=>((e:Nat):Int))).Perm (bZ (.map l)):=by
  refine perm_intKeys M (fun p K=>by obtain⟨e,_,h⟩:=H.keys p K;simp_all) ?_ fun x=>?_
  ·show List.Pairwise _ _
   rw[bU];exact C.imp fun h e=>by omega
  ·rw[bj];constructor
   ·rintro⟨e,B,rfl⟩;rw[H.has e];simp_all
   ·intro h;have h':=h;rw[Go.Maps.has_eq,List.any_eq_true]at h';obtain⟨p,K,D⟩:=h';obtain⟨e,_,I⟩:=H.keys p K;rw[I]at D;have A:=by simpa[Lit.sameKey]using D
    subst A;rw[H.has e]at h;exact⟨e,(F e).2 h,rfl⟩
 refine⟨fun U D=>?_,?_⟩
 ·have R:=mergeSort_of_perm_i (D.trans Y.symm);rw[R];refine List.mergeSort_of_pairwise ?_;rw[bU];exact C.imp fun h=>by simp;omega
 ·have:=Y.length_eq;simp[bZ]at this;omega
end Ph
namespace Ph
theorem Nh(e:Nat):∀(L:List (Nat×Nat)) (g:lZ),(∀d,L.foldl better g e=some d->g e=some d\/(e,d)∈L)/\(∀d',(e,d')∈L->∃d,L.foldl better g e=some d/\d<=d')/\(∀d',g e=some d'->∃d,L.foldl better g e=some d/\d<=d')
 |[],g=>⟨fun d h=>.inl h,(fun d' h=>by cases h),fun d' h=>⟨d',h,aj _⟩⟩
 |(x,y)::L,g=>by
  obtain⟨U,B,I⟩:=Nh e L (better g (x,y));by_cases A:e=x
  ·subst A;have H:g e=none->better g (e,y) e=some y:=fun h=>by simp[better,h]
   have Y:∀z,g e=some z->better g (e,y) e=some (min z y):=fun z h=>by simp[better,h]
   refine⟨fun d hd=>?_,fun d' K=>?_,fun d' K=>?_⟩
   ·rcases U d hd with h|h
    ·cases D:g e with
     |none=>rw[H D]at h;simp_all
     |some z=>
      rw[Y z D]at h;simp only[Option.some.injEq]at h;rcases cG z y with C|C
      ·simp_all
      ·simp_all
    ·simp_all
   ·rcases List.mem_cons.1 K with h|h
    ·cases h;have:∃z,better g (e,y) e=some z/\z<=y:=by
      cases D:g e with
      |none=>exact⟨y,H D,aj _⟩
      |some z=>exact⟨min z y,Y z D,Nat.min_le_right _ _⟩
     obtain⟨z,F,J⟩:=this;obtain⟨d,hd,R⟩:=I z F;exact⟨d,hd,by omega⟩
    ·exact B d' h
   ·have:=Y d' K;obtain⟨d,hd,R⟩:=I _ this;exact⟨d,hd,by omega⟩
  ·have M:better g (x,y) e=g e:=by simp[better,A]
   simp_all
theorem Ni(X P:ByteArray)(k st:Nat):∀(gB:List Nat) g,gB.foldl (fun g x=>(kR X P k st x).foldl better g) g=(gB.flatMap (kR X P k st)).foldl better g
 |[],g=>rfl
 |x::l,g=>by simp;exact Ni X P k st l _
theorem X_(X P:ByteArray)(k q st:Nat)(C:1<=q)(gj:1<=st)(K:k<P.size)(e:Nat):qy X P k st (jS X P k q st) e=if e<=X.size/\(ib P X k e).1<=k then some (ib P X k e).1 else none:=by
 unfold qy;rw[Ni];obtain⟨I,A,_⟩:=Nh e ((jS X P k q st).flatMap (kR X P k st)) _;have ge:∀d,(e,d)∈(jS X P k q st).flatMap (kR X P k st)->e<=X.size/\d<=k/\(ib P X k e).1<=d:=by
  intro d hd;obtain⟨x,D,H⟩:=dR.1 hd;have R:=(F_ _).1 D;have:=(BW _ st x gj).2 R.1;exact acT X P k q st x e d (by omega) H
 by_cases Y:e<=X.size/\(ib P X k e).1<=k
 ·rw[if_pos Y];obtain⟨x,D,H⟩:=Zo X P k q st e C gj Y.1 Y.2 K;obtain⟨d,hd,U⟩:=A _ (dR.2 ⟨x,D,H⟩);rw[hd];rcases I d hd with h|h
  ·cases h
  ·have:=ge d h;congr 1;omega
 ·rw[if_neg Y];cases hr:((jS X P k q st).flatMap _).foldl better _ e with
  |none=>rfl
  |some d=>
   rcases I d hr with h|h
   ·cases h
   ·have:=ge d h;omega
end Ph
namespace Ph
open Conc Ren
def ln(w:ae):Prop:=∀g,g=0\/g=2\/g=3->∃(c:Array ah) (t:bY) (fz:Nat×Nat),w.heap[g]?=some (.cells c t fz)/\∀x∈c,∃k n,x=cH k n
theorem ln.same(h:ln w)(e:∀g,g=0\/g=2\/g=3->w'.heap[g]?=w.heap[g]?):ln w':=fun g Y=>by rw[e g Y];exact h g Y
theorem zV(h:iS w)(e:w'.heap[0]?=w.heap[0]?):iS w':=by
 have Y:Program.globalNamed ai "internal/strconv.uint64pow10"=some 0:=by kernel_rfl
 unfold iS Lib.TabIs World.var? at *;simp_all
theorem OP{i:Nat}{v:ah}:∀{al:List _},al.lookup i=some v->∃p∈al,p.2=v
 |[],h=>by cases h
 |(a,b)::al,h=>by
  rw[List.lookup_cons]at h;split at h
  ·simp_all
  ·obtain⟨p,Y,e⟩:=OP h;exact⟨p,by simp[Y],e⟩
theorem agK:lE K0 PR false vo=true:=by decide+kernel
def mT(X P rn rm:ByteArray)(fl:Bool)(k:Nat):=(iZ P X k).map fun e=>qK (po X P rn rm fl (fun e=>(ib P X k e).2) (fun e=>(ib P X k e).1) e)
def uM (X P:ByteArray) (k q st n b5 b6 Mp:Nat) (i:Nat):Value:=(([(19,qT b5 1),(20,.string X),(21,qT b6 1),(22,.string P),(23,jx k q st),(24,iv n),(25,.map (some Mp))]:List (Nat×ah)).lookup i).getD ay
section
variable{Qq:QT}{Z:Loc->Prop}{w:ae}{c:au}{cs:List au}{XN X rn P rm:ByteArray}{fl:Bool}{k q st n:Nat}
theorem aeW(hX:X.size<=200)(hP:P.size<=30)(hk:k<=6)(N:k<P.size)(m:1<=q)(h:1<=st){w1:ae}{b8:Nat}(U:w1.heap[b5]?=some (.cells #[.string XN,.string X] 68))(C:w1.heap[b6]?=some (.cells #[.string rn,.string P,.string rm] 131))(g:mZ (qy X P k st (jS X P k q st)) (w1.heap[Mp]?))(O:Mp<w1.heap.size)(u:iS w1)(T:Nat->Question->Nat):
  vo.wp PR (aT PR br fun e v=>∃y,e=.returned y/\v.ownsRow w1.heap.size 136 1 y (iZ P X k).length (mT X P rn rm fl k)/\(iZ P X k=[]->y=.slice none 0 0)/\∀a,a<w1.heap.size->v.heap[a]?=w1.heap[a]?) ⟨FG (pq XN X) (oM rn P rm) (jx k q st) (iv n) fl b5 b6 b8 Mp (uM X P k q st n b5 b6 Mp),[]⟩ (tp w1 T):=by
 obtain⟨E,l,I,S,Q⟩:=acX g;have d:=X_ X P k q st m h N;have f:∀e,e∈iZ P X k↔(qy X P k st (jS X P k q st) e).isSome=true:=by
  intro e;rw[GY,d e];simp_all
 obtain⟨R,Z⟩:=X9 S Q _ (NR P X k) f;have c:=z6 P X k;have Y:∀W:ae,W.heap[Mp]?=w1.heap[Mp]?->W.ownsMap PR 3 (du PR 3) Mp E (.map l):=by
  intro W J;obtain⟨es,clock,H,r⟩:=I;exact⟨es,clock,J.trans H,r⟩
 refine wp_mono (aaW X P rn rm XN fl (iZ P X k) (fun e=>(ib P X k e).2) (fun e=>(ib P X k e).1) _ _ _ _ b5 b6 b8 Mp _ _ hX hP (by omega) (by omega) U C ?_ ?_ O ?_ (zV u rfl)) ?_
 ·refine(WH Mp E _ _ (tp w1 T) (Y _ rfl) (by show l.length<=_;omega)).mono ?_;rintro e w' ⟨v,G,rfl,V,K,H⟩;refine⟨v,rfl,?_,H⟩;have j:=R G V;rw[j]at K;have z:G.length=(iZ P X k).length:=by
   have:=V.length_eq;simp[bZ]at this;omega
  rw[z,cW]at K;exact K
 ·intro W J e M;have hd:qy X P k st (jS X P k q st) e=some (ib P X k e).1:=by simp_all
  exact acY (Y W J) S hd (by have:=((GY P X k e).1 M).1;omega)
 ·intro e M;obtain⟨a1,a2,a3,a4,a5⟩:=Nf P X k e M;exact⟨a1,by omega,a3,a4,a5⟩
 ·intro e a v H;cases e with
  |normal=>obtain⟨A,y,B,v',D,F,U,C⟩:=H;exact⟨A,y,B,v',D,F,C,fun a L=>U.block a L⟩
  |ret=>obtain⟨A,y,B,v',D,F,U,C⟩:=H;exact⟨A,y,B,v',D,F,C,fun a L=>U.block a L⟩
  |panic ch=>obtain⟨A,v',D,_⟩:=H;cases D
  |outgrown=>obtain⟨v',D,_⟩:=H;cases D
  |exit id=>exact H
  |goto l=>exact H
end
end Ph
namespace Ph
open Conc Ren
open WideElems (Fit rd rg rd_val)
theorem Zr{g:lZ}{es:Array _}{clock:Nat}(h:mZ g (some (.map es clock))):∀x∈es,∃a b,x.key=.int .i64 a/\x.val=.int .i64 b:=by
 obtain⟨iD,K,l,H,F,_⟩:=h;cases H;intro x U;have Y:x∈es.toList:=by simp_all
 obtain⟨a,I⟩:=Hb F x Y;obtain⟨y,D⟩:=F.reads x Y;obtain⟨z,R,_⟩:=rd_val D;obtain⟨b,A,_⟩:=plainElem_int_inv u3 R;simp_all
theorem aaX[gq]{r:Rn}{c c':Array _}(h:VA r c c')(D:∀x∈c,∃k n,x=cH k n):c'=c:=by
 apply Array.ext
 ·exact h.size.symm
 ·intro i H Y;have K:=h.at_ i _ _ (aW Y) (aW H);obtain⟨k,n,e⟩:=D _ (Array.getElem_mem Y);rw[e]at K⊢;exact OO K
end Ph
namespace Ph
open Conc Ren
@[reducible] def gv:gq:=K0.jc PR AU wo wv tw
@[reducible] def gr(k:List Item):gq:=K0.jc PR AU wo (fun x=>x=k) tw
theorem agL(k:List Item):A9 gv (gr k):=⟨rfl,fun _ h=>h,fun _ h=>h,fun _ h=>h,fun _=>Iff.rfl,fun _ _ h=>h⟩
theorem agM(k:List Item):A9 (gr k) gv:=⟨rfl,fun _ h=>h,fun _ h=>h,fun _ h=>h,fun _=>Iff.rfl,fun _ _ h=>h⟩
abbrev RN:=@Rn gv
structure Al(Z:Loc->Prop)(r:RN)(v w:ae):Prop where
 w:@Ren.W gv r 0 v w
 gi:@GI gv r
 off:∀a,@Rd gv r a->iP Z a
structure Ke(w w':ae):Prop where
 tape:w'.tape=w.tape
 env:nB w'.os w.os
 output:w'.output=w.output
 grow:w.heap.size<=w'.heap.size
theorem Ke.trans{w w1 w2:ae}(h:Ke w w1)(k:Ke w1 w2):Ke w w2:=⟨k.tape.trans h.tape,k.env.trans h.env,k.output.trans h.output,aK h.grow k.grow⟩
theorem Ke.of{X:Nat->Prop}(h:Kept X X' w w'):Ke w w':=⟨h.tape,h.env,h.output,h.grow⟩
section
variable{tb:Bool}{Q:QT}{R:ah->ae->Prop}{Z:Loc->Prop}{r:RN}{v w w':ae}{fn:a_}{k k':List Item}{a:Array ah}
theorem Al.low(h:Al Z r v w){b:Nat}(Y:@Rd gv r b):b<w.heap.size:=by
 letI:=gv
 obtain⟨c,K⟩:=Y;exact(h.w.lt K).2
theorem Al.on(h:Al Z r v w)(hk:∀b,@Rd gv r b->w'.heap[b]?=w.heap[b]?)(Y:Ke w w'):Al Z r v w':=
 ⟨@W.rely gv (fun _ _=>False) r 0 v w w' h.w (fun _ _ _ _ y=>y.elim) ⟨fun b K=>.inl (hk b K),Y.grow,Y.env⟩,h.gi,h.off⟩
theorem Al.quiet(h:Al Z r v w)(hk:Kept (fun _=>False) X' w w'):Al Z r v w':=h.on (fun b Y=>hk.kept b (h.low Y) id) (.of hk)
structure Kz(Z:Loc->Prop)(r:RN)(w:ae)(Z':Loc->Prop)(r':RN)(w':ae):Prop where
 ke:Ke w w'
 kept:∀b,b<w.heap.size->¬ @Rd gv r b->iP Z b->w'.heap[b]?=w.heap[b]?
 may:∀b,b<w.heap.size-> @Rd gv r' b-> @Rd gv r b
 more:∀l,Z l->Z' l
 only:∀l,Z' l->Z l\/∃a:Addr,l=.cell a/\w.heap.size<=a.block
theorem Kz.trans{Z1 Z2:Loc->Prop}{r1 r2:RN}{w1 w2:ae}(h:Kz Z r w Z1 r1 w1)(k:Kz Z1 r1 w1 Z2 r2 w2):Kz Z r w Z2 r2 w2:=
 have g:=h.ke.grow
 ⟨h.ke.trans k.ke,fun b Y K H=>(k.kept b (by omega) (fun y=>K (h.may b Y y)) (uw h.only H Y)).trans (h.kept b Y K H),fun b Y y=>h.may b Y (k.may b (by omega) y),fun l y=>k.more l (h.more l y),fun l y=>(k.only l y).elim (h.only l) fun⟨a,e,q⟩=>.inr ⟨a,e,by omega⟩⟩
theorem Kz.of{X:Nat->Prop}{r':RN}(h:Kept X X' w w')(K:∀a,X a-> @Rd gv r a)(D:∀a,@Rd gv r' a->X' a):Kz Z r w Z r' w':=
 ⟨.of h,fun b Y H _=>h.kept b Y fun y=>H (K b y),fun b Y y=>(h.may b (D b y)).elim (K b) fun q=>by omega,fun _ y=>y,fun _ y=>.inl y⟩
theorem Kz.qt(h:Kept (fun _=>False) X' w w'):Kz Z r w Z r w':=⟨.of h,fun b Y _ _=>h.kept b Y id,fun _ _ y=>y,fun _ y=>y,fun _ y=>.inl y⟩
theorem Al.fin{r':RN}(I:Al Z r v w)(U:pX Z w.heap.size)(H:@Le gv r r')(D:@Ren.W gv r' 0 v' w')(Y:Kept (@Wr gv r) (@Wr gv r') w w'):Al Z r' v' w'/\Kz Z r w Z r' w':=by
 letI:=gv
 exact⟨⟨D,I.gi.mono H,fun b ⟨b0,R⟩=>(Y.may b ⟨b0,R,id⟩).elim (fun⟨K,h,_⟩=>I.off b ⟨K,h⟩) U.off⟩,.of Y (fun _ ⟨b,e,_⟩=>⟨b,e⟩) fun _ ⟨b,e⟩=>⟨b,e,id⟩⟩
def akc(Q:QT)(Z:Loc->Prop)(x:ah)(l:List au)(w:ae):Prop:=match l with
 |c::cs=>gn PR Q Z (c.finish x) cs w
 |[]=>∀f,(∀u,bE PR true (G f []) u=.ended (.done x) u #[])->gn PR Q Z f [] w
theorem CZ(h:l.isEmpty=false):∃c cs,l=c::cs:=by
 cases l with
 |nil=>cases h
 |cons c cs=>exact⟨c,cs,rfl⟩
def Kt(Q:QT)(R:ah->ae->Prop)(r:RN)(Z:Loc->Prop)(w:ae)(l:List au):Prop:=
 ∀(r':RN) (Z':Loc->Prop) (x x':ah) (v' w':ae),@Le gv r r'-> @V gv r' x x'->Al Z' r' v' w'->Kz Z r w Z' r' w'->R x v'->akc Q Z' x' l w'
theorem Kt.on{r':RN}(h:Kt Q R r Z w l)(hr:@Le gv r r')(hw:Kz Z r w Z1 r' w'):Kt Q R r' Z1 w' l:=
 fun r2 Z' x x' v' w2 Y K H D I=>h r2 Z' x x' v' w2 (@Le.trans gv r r' r2 hr Y) K H (hw.trans D) I
def iF(Q:QT)(g:a_)(args:Array ah)(v:ae)(R:ah->ae->Prop):Prop:=
 ∀(r:RN) (Z:Loc->Prop) (w:ae) (Y:Array ah) (c:au) (cs:List au),@VA gv r args Y->Al Z r v w->Kt Q R r Z w (c::cs)->gn PR Q Z (Frame.enter PR g Y .normal) (c::cs) w
abbrev bf(fn:a_):Frame:=⟨fn,#[],[],[],.run,.normal,none⟩
def GW(tb:Bool)(Q:QT)(R:ah->ae->Prop)(fn:a_)(k:List Item)(a:Array ah)(v:ae):Prop:=
 ∀(r:RN) (Z:Loc->Prop) (w:ae) (t:Array ah) (l:List au),l.isEmpty=tb-> @VA gv r a t->Al Z r v w->Kt Q R r Z w l->gn PR Q Z ((bf fn).at ⟨t,[]⟩ k) l w
theorem GW.run(n:Nat)(g:GW tb Q R fn k' a v)(h:∀t l,gC PR n ((bf fn).at ⟨t,[]⟩ k) l=((bf fn).at ⟨t,[]⟩ k',l):=by intro t l;kernel_rfl):GW tb Q R fn k a v:=by
 intro r Z w t l Y K I H;refine bM n fun w' hk=>?_;rw[h];exact g r Z w' t l Y K (I.quiet hk) (H.on (fun _ _ e=>e) (.qt hk))
theorem aiL(Y:∃F,PR.funcs[fn]?=some F){t:Array ah}(K:@VA gv r a t):@FR gv PR r true ((bf fn).at ⟨a,[]⟩ []) ((bf fn).at ⟨t,[]⟩ []):=by
 letI:=gv
 exact⟨rfl,K,.nil,.nil,.run,rfl,.inl rfl,.none,fun _=>Y⟩
theorem yv(Y:∃F,PR.funcs[fn]?=some F){t:Array ah}(H:@VA gv r a t)(K:@GI gv r){x:dc}(D:@jk gv x):@V gv r (aJ ⟨a,[]⟩ x) (aJ ⟨t,[]⟩ x):=by
 letI:=gv
 have:=(aiL Y H).eval K x D
 rwa [cQ,cQ]at this
theorem GW.cond(Y:∃F,PR.funcs[fn]?=some F){x:dc}{p q:Code}{t:Bool}(C:@jk gv x)(U:aJ ⟨a,[]⟩ x=.bool t)(g:GW tb Q R fn (.code (if t then p else q)::k) a v):GW tb Q R fn (.code (.cond x p q)::k) a v:=by
 intro r Z w u l A K I B;have D:aJ ⟨u,[]⟩ x=.bool t:=by
  have:=yv Y K I.gi C;rw[U]at this;generalize aJ ⟨u,[]⟩ x=y at this;cases this;rfl
 refine bM 1 fun w' hk=>?_;have e:gC PR 1 ((bf fn).at ⟨u,[]⟩ (.code (.cond x p q)::k)) l=((bf fn).at ⟨u,[]⟩ (.code (if t then p else q)::k),l):=by
  have H:Frame.eval ⟨fn,u,.code (.cond x p q)::k,[],.run,.normal,none⟩ x=.bool t:=(cQ (bf fn) ⟨u,[]⟩ _ x).trans D;simp only[gC,ot,Frame.at,prun,H]
 rw[e];exact g r Z w' u l A K (I.quiet hk) (B.on (fun _ _ e=>e) (.qt hk))
theorem GW.piece(S:∃F,PR.funcs[fn]?=some F){p:Code}(m:lE K0 PR false p=true){R1:Array ah->ae->Prop}(hk:Av k=true)(u:∀T,p.wp PR (fun e a' v'=>e=.normal/\a'.defers=[]/\R1 a'.tmps v') ⟨a,[]⟩ (tp v T))
  (g:∀a' v',R1 a' v'->GW tb Q R fn k a' v'):GW tb Q R fn (.code p::k) a v:=by
 intro r Z w t l s i I kk;refine bN fun Y=>?_;have A:=agL k;have D:=agM k
 letI:=gr k
 have K:lK PR false p:=xZ (fun _ _ h=>h) m;have o:FR PR (oE A r) true ((bf fn).at ⟨a,[]⟩ (.code p::ts)) ((bf fn).at ⟨t,[]⟩ (.code p::k)):=by
  refine⟨rfl,uz A i,?_,.nil,.run,rfl,.inl rfl,.none,fun _=>S⟩;show IL PR _ false true (.code p::ts) (.code p::k)
  exact .cons (.code K) (.rest rfl rfl rfl hk)
 have n:=Nz (main:=true) (U:=fun _ _=>False) (AV (fun x=>x=k) tw) (fun ops h=>by cases h) (r0:=oE A r) (fun g V=>I.gi g V) u rfl K o (gL:=l) (IQ A I.w) (fun _ _ _ _ h=>h.elim) (fun _ _ h=>h.elim);refine bC (U:=fun _ _=>False) n (fun b B=>⟨I.off b B,I.low B⟩) fun S' X' f' l' w' hd W=>?_;obtain⟨rfl,r',a',v',G,z,q,j,⟨O,f⟩,_,_,H,f1,f2,X,E,f5,f6⟩:=Of (kr:=k) (fun k h=>h) hd;subst q j;obtain⟨L,tmps,todo,defers,mode,kind,ro⟩:=f';simp only at f1 f2 X E f5 f6 H;rw[O]at f6;have P:defers=[]:=by
  generalize defers=d at f6;cases f6 with
  |nil=>rfl
  |rest _ h=>exact h.elim
 subst P X E f5;have C:L=fn:=f1;have J:kind=.normal:=f2;subst C J;have M:Al Z (oE D r') v' w':=⟨IQ D z,fun g V=>G _ _ (I.gi g V),fun b B=>?_⟩
 ·exact g a'.tmps v' f (oE D r') Z w' tmps _ s (uz D H) M (kk.on (fun b c e=>G b c e) (.of W (fun _ ⟨b,e,_⟩=>⟨b,e⟩) fun _ ⟨b,e⟩=>⟨b,e,id⟩))
 ·rcases W.may b ⟨_,B.choose_spec,fun h=>h⟩with y|y
  ·obtain⟨b0,N,_⟩:=y;exact I.off b ⟨b0,N⟩
  ·exact Y.off y
theorem GW.rest{F:Func}(Y:PR.funcs[fn]?=some F){p:Code}(N:lE K0 PR false p=true)(M:∀T,p.wp PR (aT PR F fun e v'=>∃x,e=.returned x/\R x v') ⟨a,[]⟩ (tp v T)):GW false Q R fn [.code p] a v:=by
 intro r Z w t l L O I P;obtain⟨c,cs,rfl⟩:=CZ L;refine bN fun K=>?_
 letI:=gv
 have H:lK PR false p:=xZ (fun _ _ h=>h) N;refine gn.rest (AV wv tw) (fun _ h=>by cases h) (fun _ h=>h) I.gi (b:=bf fn) Y rfl M (fun e u h=>h.imp fun x y=>y.1) (f':=(bf fn).at ⟨t,[]⟩ [.code p]) ⟨rfl,O,.cons (.code H) .nil,.nil,.run,rfl,.inl rfl,.none,fun _=>⟨_,Y⟩⟩ I.w I.off fun r' v' x x' w' D A U B C=>?_;obtain⟨y,e,J⟩:=B;cases e;have z:=I.fin K D U C;exact P r' Z x x' v' w' D A z.1 z.2 J
end
theorem acZ{U:Nat->Nat->Prop}(S X:Nat->Prop)(w:ae):jY U S X w {w with drawn:=w.drawn+1} #[] S X:=⟨⟨fun _ _ _=>rfl,aj _,fun a=>⟨.inl,fun h=>h.resolve_right fun y=>by have:=y.2;simp at this;omega⟩,fun a=>⟨.inl,fun h=>h.resolve_right fun y=>by have:=y.2;simp at this;omega⟩,fun e Y=>by simp_all,rfl,.refl _,rfl⟩,fun e Y=>by simp_all⟩
section
variable{P:bJ}{Q:QT}{Z:Loc->Prop}{w:ae}{cs:List au}
theorem gn.pick{b:au}{a:Act}{k:List Item}{id:Nat}{ops:Array Oper}(h:∀t w',g_ Z w w'->(∀b,b<w.heap.size->w'.heap[b]?=w.heap[b]?)->gn P Q Z (b.at a (.inRegion ops (de (P.follows .mixedOrders) ops t)::k)) cs w'):gn P Q Z (b.at a (.code (.region id ops true)::k)) cs w:=by
 refine bC (U:=fun _ _=>False) (S:=fun _=>False) (Done:=fun S X f' l' w'=>X=(fun _=>False)/\l'=cs/\∃t,f'=b.at a (.inRegion ops (de _ ops t)::k)) (Tr.one fun w2 hr=>⟨_,_,_,_,_,_,stepG_region_draw,(acZ (U:=fun _ _=>False) _ _ w2).toDid,.stop ⟨rfl,rfl,_,rfl⟩⟩) (fun b h=>h.elim) fun S' X' f' l' w' hd hk=>?_;obtain⟨rfl,rfl,t,rfl⟩:=hd;exact h t w' (g_.of hk) fun b Y=>hk.kept b Y (fun y=>y)
end
theorem mixed:PR.follows .mixedOrders=true:=by kernel_rfl
theorem sched{ops:Array Oper}(t:Nat):de (PR.follows .mixedOrders) ops t=aQ .any ops ops.size t (cj ops.size false) []:=by
 rfl
theorem Dh{md:Region.Mode}{ops:Array Oper}{i:Nat}(h:aD md ops listed=[i])(fuel t:Nat):aQ md ops (fuel+1) t listed []=i::aQ md ops fuel (t/1) (listed.setIfInBounds i true) []:=by
 change(match(aD md ops _)[t%(aD md ops _).length]? with
   |some i=>aQ md ops _ (t/(aD md ops _).length) _ [i]
   |none=>[].reverse)=_
 rw[h];simp only[bH,Nat.mod_one,List.getElem?_cons_zero];rw[eB,dY,dZ]
def ab:List Bool:=[false,true]
theorem kM{f:Bool->Bool}(h:ab.all f=true)(d:Bool):f d=true:=cw.1 h d (by cases d<;>simp[ab])
def uO:Nat->ah->Bool
 |_,.bool _|_,.int .. |_,.string _|_,.pointer none|_,.slice none _ _|_,.nilFunc|_,.nilIface=>true
 |n+1,.agg c=>c.all (uO n)
 |n+1,.iface _ v=>uO n v
 |_,_=>false
theorem PY[gq]{r:Rn}:∀{n:Nat} {v y:ah},uO n v=true->V r v y->y=v:=by
 intro n;induction n with
 |zero=>
  intro v y h K;cases K<;>first|rfl|(simp[uO]at h)
 |succ n D=>
  intro v y h K;cases K with
  |agg I R=>
   congr 1;apply Array.ext
   ·omega
   ·intro i Y H;exact D (dz.1 h i H) (R i _ _ (aW H) (aW Y))
  |iface t Y=>exact congrArg _ (D h Y)
  |_=>first|rfl|(simp[uO]at h)
def kD(d:Option Nat)(x:ah)(a:Array ah):Array Value:=match d with
 |some i=>a.setIfInBounds i x
 |none=>a
theorem ac0(d:Option Nat)(x:ah)(a:Array ah):Act.put ⟨a,[]⟩ d x=⟨kD d x a,[]⟩:=by cases d<;>rfl
section
variable{tb:Bool}{Q:QT}{R R1:ah->ae->Prop}{Z:Loc->Prop}{r:RN}{v v1 w w':ae}{fn f:a_}{k:List Item}{a args:Array ah}{ops:Array Oper}{i:Nat}{is:List Nat}{o:Oper}{x:ah}
theorem Rz{r':RN}{t:Array ah}(h:@VA gv r a t)(hr:@Le gv r r')(Y:@V gv r' x x')(d:Option Nat):@VA gv r' (kD d x a) (kD d x' t):=by
 letI:=gv
 cases d with
 |none=>exact h.mono hr
 |some i=>exact(h.mono hr).set i Y
theorem Sv(K:ops[i]?=some o)(Y:o.guard=none)(t:Array ah):opAt ((bf fn).at ⟨t,[]⟩ (.inRegion ops (i::is)::k))=some o:=by
 simp[opAt,Frame.at,K,ek,Y]
theorem fin_at(Y:ops[i]?=some o)(t:Array ah)(y:ah):((bf fn).at ⟨t,[]⟩ (.inRegion ops (i::is)::k)).finish y=(bf fn).at ⟨kD o.dst y t,[]⟩ (.inRegion ops is::k):=by
 rw[Frame.finish_at,Y];simp only[Option.bind_some];rw[ac0]
theorem GW.op(T:∃F,PR.funcs[fn]?=some F)(N:ops[i]?=some o)(u:o.guard=none)(M:nh K0 PR o.op=true)(E:∀c,o.op=.call c->c.callee≠.builtin .recover)(hd:v1.drawn=v.drawn){n:Next}(hr:(aU (aJ ⟨a,[]⟩) o).run PR v=.ok n v1)(hn:n=.value x\/n=.skip/\x=ay)
  (g:GW tb Q R fn (.inRegion ops is::k) (kD o.dst x a) v1):GW tb Q R fn (.inRegion ops (i::is)::k) a v:=by
 intro r Z w t l hl j I kk;refine bN fun B=>?_
 letI:=gv
 have F:=AV wv tw;have G:D4 PR o.op:=PA (fun _ _ h=>h) M;have q:SR PR (NX true) r (aU (aJ ⟨a,[]⟩) o) (aU (aJ ⟨t,[]⟩) o):=Od F.toFit (fun y hy=>yv T j I.gi hy) (fun y=>⟨rfl,rfl⟩) o G (fun c e d=>absurd d (E c e));refine bC (U:=fun _ _=>False) (S:=Rd r) (X:=Wr r) (Done:=fun S X f' l' w'=>∃(r':Rn) (x':ah),Le r r'/\V r' x x'/\Ren.W r' 0 v1 w'/\S=Rd r'/\X=Wr r'/\f'=(bf fn).at ⟨kD o.dst x' t,[]⟩ (.inRegion ops is::k)/\l'=l) (Tr.one fun w2 hrel=>?_) (fun b M=>⟨I.off b M,I.low M⟩) fun S' X' f' l' w' hd hK=>?_
 ·have H:Ren.W r 0 v w2:=I.w.rely (U:=fun _ _=>False) (fun _ _ _ _ y=>y.elim) hrel;have h:=SR.run F.sc q #[] H;rw[hr]at h;generalize D:(aU (aJ ⟨t,[]⟩) o).runT PR w2 #[]=y at h;cases h with
  |@ok _ a' _ w1 fs r1 c1 out C O=>
   have L:c1=0:=by have:=out.drew;omega
   subst L;rw[Sem.runT_eq]at D;have K:(aU (aJ ⟨t,[]⟩) o).run PR w2=.ok a' w1:=congrArg Prod.fst D;have Y:(aU (aJ ⟨t,[]⟩) o).events PR w2 #[]=fs:=congrArg Prod.snd D;have A:∀p e,e∈seen PR p fs->lN r w2 w1.heap.size e:=fun p e he=>(O e (mem_seen _ _ e he)).elim (fun z=>by simp at z) id;rcases hn with rfl|⟨rfl,rfl⟩
   ·cases C with
    |@value _ x' hV=>
     have gj:=oX (P:=PR) (main:=true) (f:=(bf fn).at ⟨t,[]⟩ (.inRegion ops (i::is)::k)) (cs:=l) (w:=w2) (w':=w1) (Sv N u t) (v:=x') (by rw[bO];exact K);rw[bO,Y,fin_at N]at gj;exact⟨_,_,_,_,_,_,gj,out.did H (A _),.stop ⟨r1,x',out.le,hV,out.wl,rfl,rfl,rfl,rfl⟩⟩
   ·cases C with
    |skip=>
     have gj:=step_skip (P:=PR) (main:=true) (f:=(bf fn).at ⟨t,[]⟩ (.inRegion ops (i::is)::k)) (cs:=l) (w:=w2) (w':=w1) (Sv N u t) (by rw[bO];exact K);rw[bO,Y,fin_at N]at gj;exact⟨_,_,_,_,_,_,gj,out.did H (A _),.stop ⟨r1,ay,out.le,.tuple rfl (fun i x x' e=>by simp at e),out.wl,rfl,rfl,rfl,rfl⟩⟩
  |lq hf _=>have:(Result.ok n v1).world.drawn=v1.drawn:=rfl;omega
 ·obtain⟨r',x',J,s,m,rfl,rfl,rfl,rfl⟩:=hd;have z:=I.fin B J m hK;exact g r' Z w' _ _ hl (Rz j J s o.dst) z.1 (kk.on J z.2)
def jR(ops:Array Oper)(i:Nat):Option Nat:=ops[i]?.bind (·.dst)
def sI(ops:Array Oper)(i:Nat):Array Operand:=match ops[i]?.map (fun o=>o.op)with
 |some (Op.call c)=>c.args
 |_=>#[]
def ss (ops:Array Oper) (i:Nat) (t:Array ah):Option (a_×Array ah):=match ops[i]? with
 |some o=>if o.guard.isNone then match j7 PR (aU (aJ ⟨t,[]⟩) o)with
  |some (.enter f zs)=>some (f,zs)
  |_=>none else none
 |none=>none
theorem ac1{t zs:Array ah}(h:ss ops i t=some (f,zs)):∃o,ops[i]?=some o/\o.guard=none/\j7 PR (aU (aJ ⟨t,[]⟩) o)=some (.enter f zs):=by
 unfold ss at h;split at h
 ·rename_i o H;split at h
  ·rename_i Y;split at h
   ·rename_i g D K;cases h;exact⟨o,H,ej.1 Y,K⟩
   ·cases h
  ·cases h
 ·cases h
theorem GW.call(H:∃F,PR.funcs[fn]?=some F)(M:iF Q f args v R1)(g:∀x v',R1 x v'->GW tb Q R fn (.inRegion ops is::k) (kD (jR ops i) x a) v')(Y:(sI ops i).map (aJ ⟨a,[]⟩)=args:=by kernel_rfl)(h:∀t,ss ops i t=some (f,(sI ops i).map (aJ ⟨t,[]⟩)):=by intro t;kernel_rfl)(U:(sI ops i).all (j0 K0)=true:=by kernel_rfl):GW tb Q R fn (.inRegion ops (i::is)::k) a v:=by
 intro r Z w t l O A I S
 letI:=gv
 refine bM 1 fun w1 hk=>?_;obtain⟨o,D,N,gu⟩:=ac1 (h t);have e:gC PR 1 ((bf fn).at ⟨t,[]⟩ (.inRegion ops (i::is)::k)) l=(Frame.enter PR f ((sI ops i).map (aJ ⟨t,[]⟩)) .normal,(bf fn).at ⟨t,[]⟩ (.inRegion ops (i::is)::k)::l):=by
  have K:Frame.eval ⟨fn,t,.inRegion ops (i::is)::k,[],.run,.normal,none⟩=aJ ⟨t,[]⟩:=bO (bf fn) ⟨t,[]⟩ _;simp only[gC,ot,Frame.at,prun,D,ek,N,pop,K,gu];simp
 rw[e];refine M r Z w1 _ _ _ ?_ (I.quiet hk) fun r' Z' x x' v' w' K B C J L=>?_
 ·rw[<-Y];exact VA.mapOf fun y P=>yv H A I.gi (ug (Array.all_eq_true_iff_forall_mem.1 U y P))
 ·have e:jR ops i=o.dst:=by simp[jR,D]
  rw[e]at g;change gn PR Q Z' (((bf fn).at ⟨t,[]⟩ (.inRegion ops (i::is)::k)).finish x') l w';rw[fin_at D];exact g x v' L r' Z' w' _ l O (Rz A K B o.dst) C (S.on K ((Kz.qt hk).trans J))
theorem iF.il(H:K0.il f=true)(M:∀T,ak PR f args (tp v T) fun e v'=>∃x,e=.returned x/\R x v'):iF Q f args v R:=by
 intro r Z w K c cs J I L;refine bN fun Y=>?_
 letI:=gv
 refine gn.call (AV wv tw) (fun _ h=>by cases h) (fun _ h=>h) I.gi M (fun e u h=>h.imp fun x y=>y.1) H J I.w I.off fun r' v' x x' w' D A U B C=>?_;obtain⟨y,e,F⟩:=B;cases e;have z:=I.fin Y D U C;exact L r' Z x x' v' w' D A z.1 z.2 F
theorem iF.of{F:Func}(K:PR.funcs[fn]?=some F){p:Code}(U:F.body=some p)(D:F.ntmps=n)(h:GW false Q R fn [.code p] (args++cj (n-args.size) ay) v):iF Q fn args v R:=by
 intro r Z w Y c cs H I A
 letI:=gv
 have e:Frame.enter PR fn Y .normal=(bf fn).at ⟨Y++cj (n-args.size) ay,[]⟩ [.code p]:=by
  simp[Frame.enter,K,U,D,Frame.at,H.size]
 rw[e];exact h r Z w _ (c::cs) rfl (H.append (.rep _ (.tuple rfl (fun i x x' e=>by simp at e)))) I A
theorem GW.draw{id:Nat}(h:∀t,GW tb Q R fn (.inRegion ops (aQ .any ops ops.size t (cj ops.size false) [])::k) a v):GW tb Q R fn (.code (.region id ops true)::k) a v:=by
 intro r Z w t l A U I B;refine gn.pick fun u w' Y D=>?_;rw[sched];have H:Ke w w':=⟨Y.tape,Y.env,Y.output,Y.grow⟩;exact h u r Z w' t l A U (I.on (fun b K=>D b (I.low K)) H) (B.on (fun _ _ e=>e) ⟨H,fun b K _ _=>D b K,fun _ _ y=>y,fun _ y=>y,fun _ y=>.inl y⟩)
theorem GW.Sw{md:Region.Mode}(mk:Array Bool->Array ah)(Inv:Nat->Array Bool->ae->Prop)
  (K:∀listed i fuel t v,Inv (fuel+1) listed v->i∈aD md ops listed->(∀v',Inv fuel (listed.setIfInBounds i true) v'->GW tb Q R fn (.inRegion ops (aQ md ops fuel t (listed.setIfInBounds i true) [])::k) (mk (listed.setIfInBounds i true)) v')->GW tb Q R fn (.inRegion ops (i::aQ md ops fuel t (listed.setIfInBounds i true) [])::k) (mk listed) v)
  (Y:∀fuel listed v,Inv fuel listed v->fuel=0\/aD md ops listed=[]->GW tb Q R fn (.inRegion ops []::k) (mk listed) v):
  ∀fuel t listed v,Inv fuel listed v->GW tb Q R fn (.inRegion ops (aQ md ops fuel t listed [])::k) (mk listed) v:=by
 intro fuel;induction fuel with
 |zero=>intro t listed v h;exact Y 0 listed v h (.inl rfl)
 |succ fuel A=>
  intro t listed v h;simp only[aQ];change GW tb Q R fn (.inRegion ops (match(aD md ops listed)[t%(aD md ops listed).length]? with
   |some i=>aQ md ops fuel (t/(aD md ops listed).length) (listed.setIfInBounds i true) [i]
   |none=>[].reverse)::k) (mk listed) v
  cases D:(aD md ops listed)[t%(aD md ops listed).length]? with
  |none=>
   have H:aD md ops listed=[]:=by
    cases hr:aD md ops listed with
    |nil=>rfl
    |cons x xs=>
     rw[hr]at D;have I:t%(x::xs).length<(x::xs).length:=c_ _ (by simp);simp at D;simp at I;omega
   exact Y (fuel+1) listed v h (.inr H)
  |some i=>
   simp only[];rw[eB,dY,dZ];exact K listed i fuel _ v h (dU D) fun v' h'=>A _ _ v' h'
end
end Ph
namespace Ph
open Conc Ren RowKit
section
variable{Q:QT}{Z Z':Loc->Prop}{r:RN}{v w w':ae}
theorem Ke.oK(h:g_ Z w w'):Ke w w':=⟨h.tape,h.env,h.output,h.grow⟩
theorem Al.oK(h:Al Z r v w)(H:∀l,Z' l->Z l\/∃a:Addr,l=.cell a/\w.heap.size<=a.block)(K:g_ Z w w'):Al Z' r v w':=
 have k:=h.on (fun b Y=>K.old b (h.low Y) (h.off b Y)) (.oK K)
 ⟨k.w,k.gi,fun b Y=>uw H (h.off b Y) (h.low Y)⟩
theorem agN(h:Al Z r v w){B:Nat}{H:∀x,r x≠some B}{Y:gv.size<=v.heap.size}{K:gv.size<=B}:@Le gv r (@ext gv r v.heap.size B H Y K):=fun b a e=>by
 letI:=gv
 have:=(h.w.lt e).1;show(if b=v.heap.size then some B else r b)=some a
 rw[if_neg (by omega)];exact e
theorem H4{B:Nat}{H:∀x,r x≠some B}{Y:gv.size<=n}{K:gv.size<=B}{b:Nat}(e:@ext gv r n B H Y K b=some b'):(b=n/\b'=B)\/r b=some b':=by
 have e:(if b=n then some B else r b)=some b':=e;split at e
 ·simp_all
 ·simp_all
theorem Al.new(h:Al Z r v w)(T:∀l,Z' l->Z l\/∃a:Addr,l=.cell a/\w.heap.size<=a.block)(N:g_ Z w w'){B:Nat}(U:w.heap.size<=B)(C:iP Z' B){o o':Obj}(S:w'.heap[B]?=some o')(M:∀r':RN,@Le gv r r'-> @O gv r' o o'):
  ∃r':RN,@Le gv r r'/\r' v.heap.size=some B/\Al Z' r' (v.alloc o) w'/\∀b,@Rd gv r' b->b=B\/ @Rd gv r b:=by
 letI:=gv
 have D:=h.oK T N;have A:∀x,r x≠some B:=fun x e=>by have:=h.low ⟨x,e⟩;omega
 have Y:Le r (ext r _ B A h.w.gv (aK h.w.gw U)):=agN h;have R:ext r _ B A h.w.gv (aK h.w.gw U) _=some B:=if_pos rfl;refine⟨_,Y,R,⟨⟨fun b b' e=>?_,aK h.w.gv (by simp),D.w.gw,fun b H=>absurd H id,fun i q P=>by omega,D.w.env⟩,h.gi.mono Y,fun b H=>?_⟩,fun b H=>?_⟩
 ·rcases H4 e with⟨rfl,rfl⟩|e
  ·exact⟨o,o',heap_alloc_new v o,S,.same id (M _ Y)⟩
  ·obtain⟨q,L,I,F,J⟩:=D.w.obj b b' e;refine⟨q,L,?_,F,J.mono Y⟩;rw[<-I];exact((az _ v).alloc (aj _) o).block b (jI I)
 ·obtain⟨b0,K⟩:=H;rcases H4 K with⟨_,rfl⟩|e
  ·omega
  ·exact D.off b ⟨b0,e⟩
 ·obtain⟨b0,K⟩:=H;rcases H4 K with⟨_,rfl⟩|e
  ·simp
  ·exact .inr ⟨b0,e⟩
theorem aeX{a b:Array ah}(h:@VA gv r a b)(H:a.all (uO 3)=true):b=a:=by
 letI:=gv
 apply Array.ext
 ·exact h.size.symm
 ·intro i K Y;exact PY (dz.1 H i Y) (h.at_ i _ _ (aW Y) (aW K))
theorem Al.nR(h:Al Z r v w)(U:ln v)(g:Nat)(H:g=0\/g=2\/g=3):w.heap[g]?=v.heap[g]?:=by
 letI:=gv
 obtain⟨A,t,fz,e,I⟩:=U g H;obtain⟨o,o',K,D,Y⟩:=h.w.obj g g (h.gi g (by rcases H with rfl|rfl|rfl<;>first|exact rfl|exact rfl|exact rfl));rw[e]at K;cases K;have Y:=OB.plain Y (fun _ h=>h);cases Y with
 |cells _ _ R=>rw[D,aaX R I,<-e]
theorem aeY{P:ByteArray}{k st:Nat}(hX:X.size<=200)(hP:P.size<=30)(hk:k<=6)(g:1<=q)(C:q<=8)(u:1<=st)(F:st<=200)(G:1<=n)(U:n<=8):
  iF Q 122 #[.string X,.string P,jx k q st,iv n] v fun x v'=>x=.map (some v.heap.size)/\∃o,v'=v.alloc o/\mZ (qy X P k st (jS X P k q st)) (some o):=by
 intro r Z w D c cs j I z;obtain rfl:=aeX j (by simp[uO])
 letI:=gv
 refine Wh hX hP hk g C u F G U I.w.gw fun Z' Mp w' B K A R Y H E=>?_;obtain⟨es,clock,l,L,hF⟩:=id H;rw[L]at H;obtain⟨r',M,N,O,S⟩:=I.new K A R Y L fun r' _=>.map _ rfl fun i x x' e e'=>by
  obtain rfl:=Option.some.inj (e.symm.trans e');obtain⟨a,b,T,V⟩:=Zr H x (Array.mem_of_getElem? e);exact⟨by rw[T];exact .int _ _,by rw[V];exact .int _ _,rfl⟩
 exact z r' Z' _ _ _ w' M (.map N) O ⟨.oK A,fun b J _ W=>A.old b J W,fun b J y=>(S b y).resolve_left (by omega),B,K⟩ ⟨rfl,_,rfl,H⟩
end
section
variable{tb:Bool}{Q:QT}{R:ah->ae->Prop}{v v1:ae}{fn:a_}{k:List Item}{a:Array ah}{ops:Array Oper}{i:Nat}{is:List Nat}{x:ah}
def Kw(v v1:ae):Prop:=∀a,a<v.heap.size->v1.heap[a]?=v.heap[a]?
theorem Kw.size{v:ae}(h:Kw v v1):v.heap.size<=v1.heap.size:=by
 cases e:v.heap.size with
 |zero=>exact aP _
 |succ n=>
  have:=h n (by omega);rw[aW (by omega:n<v.heap.size)]at this;exact jI this
theorem Kw.refl(v:ae):Kw v v:=fun _ _=>rfl
theorem Kw.trans{v v1 v2:ae}(h:Kw v v1)(k:Kw v1 v2):Kw v v2:=fun a Y=>(k a (aZ Y h.size)).trans (h a Y)
theorem Kw.at{v:ae}(h:Kw v v1){a:Nat}{o:Obj}(Y:v.heap[a]?=some o):v1.heap[a]?=some o:=(h a (jI Y)).trans Y
theorem Kw.alloc(v:ae)(o:Obj):Kw v (v.alloc o):=fun a Y=>((az _ v).alloc (aj _) o).block a Y
theorem Kw.r7{v:ae}(h:Kw v v1)(Y:ln v)(k:iS v):iS v1:=by
 obtain⟨_,_,_,e,_⟩:=Y 0 (.inl rfl);exact zV k (h 0 (jI e))
theorem Kw.nR{v:ae}(h:Kw v v1)(Y:ln v):ln v1:=Y.same fun g K=>by
 obtain⟨_,_,_,e,_⟩:=Y g K;exact h g (jI e)
def RA:Op->Bool
 |.call c=>match c.callee with
  |.builtin .recover=>false
  |_=>true
 |_=>true
def mD (ops:Array Oper) (i:Nat) (a:Array ah):Option (Sem Next):=match ops[i]? with
 |some o=>if o.guard.isNone&&nh K0 PR o.op&&RA o.op then some (aU (aJ ⟨a,[]⟩) o)else none
 |none=>none
theorem GW.ex(K:∃F,PR.funcs[fn]?=some F){s:Sem Next}{n:Next}(h:mD ops i a=some s)(hr:s.run PR v=.ok n v1)(U:n=.value x\/n=.skip/\x=ay)(hd:v1.drawn=v.drawn)(g:GW tb Q R fn (.inRegion ops is::k) (kD (jR ops i) x a) v1):GW tb Q R fn (.inRegion ops (i::is)::k) a v:=by
 unfold mD at h;split at h
 ·rename_i o H;split at h
  ·rename_i Y;simp only[cL,ej]at Y;cases h;have e:jR ops i=o.dst:=by simp[jR,H]
   rw[e]at g;exact GW.op K H Y.1.1 Y.1.2 (fun c e D=>by rw[e]at Y;simp[RA,D]at Y) hd hr U g
  ·cases h
 ·cases h
def sr(s:Sem ah):Sem Next:=do pure (.value (<-s))
def A5(s:Sem Unit):Sem Next:=do s;pure .skip
theorem GW.vl(Y:∃F,PR.funcs[fn]?=some F){s:Sem ah}(h:mD ops i a=some (sr s))(hr:s.run PR v=.ok x v1)(hd:v1.drawn=v.drawn)(g:GW tb Q R fn (.inRegion ops is::k) (kD (jR ops i) x a) v1):GW tb Q R fn (.inRegion ops (i::is)::k) a v:=
 GW.ex Y h (by simp[sr,hr]) (.inl rfl) hd g
def vp (ops:Array Oper) (i:Nat) (a:Array ah):Option (Array ah):=match mD ops i a with
 |some s=>match j7 PR s with
  |some (.value x)=>some (kD (jR ops i) x a)
  |_=>none
 |none=>none
theorem GW.pu(Y:∃F,PR.funcs[fn]?=some F)(h:vp ops i a=some a')(g:GW tb Q R fn (.inRegion ops is::k) a' v):GW tb Q R fn (.inRegion ops (i::is)::k) a v:=by
 unfold vp at h;split at h
 ·rename_i s H;split at h
  ·rename_i x K;cases h;exact GW.ex Y H (n_ K v) (.inl rfl) rfl g
  ·cases h
 ·cases h
def zB (ops:Array Oper):List Nat->Array ah->Option (Array ah)
 |[],a=>some a
 |i::l,a=>(vp ops i a).bind (zB ops l)
theorem GW.Tp(Y:∃F,PR.funcs[fn]?=some F):∀(l:List Nat) {a:Array ah},(zB ops l a).isSome=true->GW tb Q R fn (.inRegion ops is::k) ((zB ops l a).getD #[]) v->GW tb Q R fn (.inRegion ops (l++is)::k) a v
 |[],a,_,g=>g
 |i::l,a,h,g=>by
  simp only[zB]at h g;cases e:vp ops i a with
  |none=>rw[e]at h;cases h
  |some a'=>
   rw[e]at h g;exact GW.pu Y e (GW.Tp Y l h g)
theorem GW.h_(Y:∃F,PR.funcs[fn]?=some F)(l:List Nat)(g:GW tb Q R fn (.inRegion ops is::k) ((zB ops l a).getD #[]) v)(h:(zB ops l a).isSome=true:=by kernel_rfl):GW tb Q R fn (.inRegion ops (l++is)::k) a v:=GW.Tp Y l h g
theorem GW.bx(Y:∃F,PR.funcs[fn]?=some F)(g:∀v1,Kw v v1->v.heap.size<v1.heap.size->v1.heap[v.heap.size]?=some (.cells y.cells t)->GW tb Q R fn (.inRegion ops is::k) (kD (jR ops i) (ptr v.heap.size) a) v1)(h:mD ops i a=some (sr (Instr.box t y)):=by kernel_rfl):GW tb Q R fn (.inRegion ops (i::is)::k) a v:=
 GW.vl (v1:=v.alloc (.cells y.cells t)) Y h (by simp[go_sem];rfl) rfl (g _ (.alloc v _) (by simp) (heap_alloc_new v _))
theorem GW.ld(Y:∃F,PR.funcs[fn]?=some F)(K:(bm t y).run PR v=.ok x v)(g:GW tb Q R fn (.inRegion ops is::k) (kD (jR ops i) x a) v)(h:mD ops i a=some (sr (bm t y)):=by kernel_rfl):GW tb Q R fn (.inRegion ops (i::is)::k) a v:=
 GW.vl Y h K rfl g
theorem wy{α:Type}{f:TypeInfo->α}{z:α}(K:(PR.info? t).map f=some z):∃Y,PR.info? t=some Y/\f Y=z:=Option.map_eq_some_iff.1 K
theorem GW.al(Y:∃F,PR.funcs[fn]?=some F)(D:(PR.info? t).map (·.zero)=some (some z))(g:∀v1,v1=v.alloc (.cells z.cells t)->Kw v v1->v.heap.size<v1.heap.size->v1.heap[v.heap.size]?=some (.cells z.cells t)->GW tb Q R fn (.inRegion ops is::k) (kD (jR ops i) (ptr v.heap.size) a) v1)(h:mD ops i a=some (sr (Instr.alloc t true (.tuple #[]))):=by kernel_rfl):GW tb Q R fn (.inRegion ops (i::is)::k) a v:=by
 obtain⟨I,K,H⟩:=wy D;exact GW.vl (v1:=v.alloc (.cells z.cells t)) Y h (by simp[go_sem,Instr.alloc,zeroValue,b_,K,H];rfl) rfl (g _ rfl (.alloc v _) (by simp) (heap_alloc_new v _))
theorem GW.ix(H:∃F,PR.funcs[fn]?=some F){B off z:Nat}(M:j<n)(U:PR.underlying t=some (.slice (PR.elem t)))(C:(PR.info? (PR.elem t)).map (·.size)=some z)
  (g:GW tb Q R fn (.inRegion ops is::k) (kD (jR ops i) (.pointer (some ⟨B,off+j *z,none⟩)) a) v)(h:mD ops i a=some (sr (cu t (.slice (some ⟨B,off,none⟩) n cap) (.int .i64 (j:Int)))):=by kernel_rfl):GW tb Q R fn (.inRegion ops (i::is)::k) a v:=by
 obtain⟨Y,D,rfl⟩:=wy C;have A:(0:Int)<=(j:Int)/\(j:Int)<(n:Int):=by omega
 have K:(⟨B,off,none⟩:Addr).add (j *Y.size)=⟨B,off+j *Y.size,none⟩:=by
  by_cases I:j *Y.size=0
  ·rw[I];simp[Addr.add]
  ·simp only[Addr.add,I];simp
 refine GW.vl H h ?_ rfl g;simp[cu,dy U,dq,A,cK,b_,D,K];intro J;omega
theorem GW.to(a':Array ah)(g:GW tb Q R fn k a' v)(h:a=a':=by kernel_rfl):GW tb Q R fn k a v:=h▸g
theorem GW.mono{R1:ah->ae->Prop}(h:∀x v',R1 x v'->R x v')(g:GW tb Q R1 fn k a v):GW tb Q R fn k a v:=
 fun r Z w t l U B I C=>g r Z w t l U B I fun r' Z' x x' v' w' Y K H D A=>C r' Z' x x' v' w' Y K H D (h _ _ A)
theorem GW.IE{F:Func}(Y:PR.funcs[fn]?=some F){p:Code}(S:lE K0 PR false p=true)(O:(is.all fun i=>match ops[i]? with|some o=>AT K0 PR false o|none=>true)=true)
  (M:∀T,cf PR ops (fun e a' w'=>e=.normal/\p.wp PR (aT PR F fun e v'=>∃x,e=.returned x/\R x v') a' w') is ⟨a,[]⟩ (tp v T)):GW false Q R fn [.inRegion ops is,.code p] a v:=by
 intro r Z w t l H V I X;obtain⟨c,cs,rfl⟩:=CZ H;refine bN fun K=>?_
 letI:=gv
 have D:lK PR false p:=xZ (fun _ _ h=>h) S;refine gn.lone (AV wv tw) (fun _ h=>by cases h) (fun _ h=>h) I.gi (R:=fun e v'=>∃x,e=.returned x/\R x v') (b:=bf fn) (a:=⟨a,[]⟩) (Ew:=[.inRegion ops is,.code p]) Y rfl (fun T=>XA Y rfl (by rintro u ⟨x,e,_⟩;cases e) (M T) [jm]) (fun e u h=>h.imp fun x y=>y.1) (f':=(bf fn).at ⟨t,[]⟩ [.inRegion ops is,.code p]) ⟨rfl,V,.cons (.inRegion _ fun i N o P=>?_) (.cons (.code D) .nil),.nil,.run,rfl,.inl rfl,.none,fun _=>⟨_,Y⟩⟩ I.w I.off fun r' v' x x' w' A U B C J=>?_
 ·have:=cw.1 O i N;rw[P]at this;exact NG (fun _ _ h=>h) this
 ·obtain⟨y,e,L⟩:=C;cases e;have z:=I.fin K A B J;exact X r' Z x x' v' w' A U z.1 z.2 L
theorem mq(j:Nat){b:Nat}{c:Array ah}{fz:Nat×Nat}(H:j7 PR (isAgg t)=some false)(h:v.heap[b]?=some (.cells c e fz))(K:c[j]?=some x):(bm t (qT b j)).run PR v=.ok x v:=by
 have Y:v.cell? ⟨b,j,none⟩=some x:=by simp[aO,h,K]
 have:=n_ H v;simp[bm,qT,this,Y,go_sem]
end
section
variable{v:ae}{b:Nat}{x y z:ah}{e:bY}{fz:Nat×Nat}
theorem AY(h:v.heap[b]?=some (.cells #[x,y,z] e fz)):(bm 75 (ptr b)).run PR v=.ok (.agg #[x,y,z]) v:=by
 have c0:v.cell? ⟨b,0,none⟩=some x:=by simp[aO,h]
 have c1:v.cell? ⟨b,1,none⟩=some y:=by simp[aO,h]
 have c2:v.cell? ⟨b,2,none⟩=some z:=by simp[aO,h]
 simp[ptr,go_sem,c0,c1,c2]
end
noncomputable def Vm:Array Oper:=match br.body with
 |some (.seq (.region _ o _) _)=>o
 |_=>#[]
noncomputable def LX:Array Oper:=match br.body with
 |some (.seq _ (.seq (.region _ o _) _))=>o
 |_=>#[]
theorem aiM:br.body=some (.seq (.region 0 Vm false) (.seq (.region 1 LX false) vo)):=by kernel_rfl
section
variable{Q:QT}{XN X rn P rm:ByteArray}{fl:Bool}{k q st n:Nat}{v:ae}
theorem PZ(hX:X.size<=200)(hP:P.size<=30)(hk:k<=6)(U:k<P.size)(O:1<=q)(M:q<=8)(S:1<=st)(N:st<=200)(E:1<=n)(C:n<=8)(D:ln v)(V:iS v):
  iF Q 111 #[pq XN X,oM rn P rm,.bool fl,jx k q st,iv n] v fun x v'=>v'.ownsRow v.heap.size 136 1 x (iZ P X k).length (mT X P rn rm fl k)/\(iZ P X k=[]->x=.slice none 0 0)/\∀a,a<v.heap.size->v'.heap[a]?=v.heap[a]?:=by
 have Y:∃F,PR.funcs[111]?=some F:=⟨_,dh⟩;refine iF.of (n:=73) dh aiM (by kernel_rfl) ?_;refine GW.run 2 (k':=[.inRegion Vm [0,1,2,3],.code (.seq (.region 1 LX false) vo)]) ?_;refine GW.bx Y (t:=68) (y:=pq XN X) fun v1 Z l1 A=>?_;refine GW.bx Y (t:=131) (y:=oM rn P rm) fun v2 R l2 c6=>?_;refine GW.bx Y (t:=75) (y:=jx k q st) fun v3 K G J=>?_;refine GW.h_ Y [3] ?_;refine GW.run 3 (k':=[.inRegion LX [0,1,2,3,4,5,6,7],.code vo]) ?_;refine GW.h_ Y [0] ?_;refine GW.ld Y (mq 1 xu (K.at (R.at A)) rfl) ?_;refine GW.h_ Y [2] ?_;refine GW.ld Y (mq 1 xu (K.at c6) rfl) ?_;refine GW.ld Y (AY J) ?_;refine GW.h_ Y [5] ?_;refine GW.call Y (aeY hX hP hk O M S N E C) ?_;rintro x v4 ⟨rfl,o,rfl,L⟩;refine GW.h_ Y [7] ?_;refine GW.run 1 (k':=[.code vo]) ?_;have I:=Kw.alloc v3 o;have K3:Kw v v3:=(Z.trans R).trans K;have K4:=K3.trans I;have H:mZ (qy X P k st (jS X P k q st)) ((v3.alloc o).heap[v3.heap.size]?):=by rw[heap_alloc_new];exact L
 have hr:=fun T=>aeW (rn:=rn) (rm:=rm) (XN:=XN) (fl:=fl) (n:=n) (b8:=v2.heap.size) hX hP hk U O S (I.at (K.at (R.at A))) (I.at (K.at c6)) H (by simp) (K4.r7 D V) T;refine GW.to (FG (pq XN X) (oM rn P rm) (jx k q st) (iv n) fl v.heap.size v1.heap.size v2.heap.size v3.heap.size (uM X P k q st n v.heap.size v1.heap.size v3.heap.size)) ?_;exact GW.mono (fun x v' h=>⟨yj h.1 K4.size,h.2.1,fun a B=>(h.2.2 a (aZ B K4.size)).trans (K4 a B)⟩) (GW.rest dh agK hr)
end
section
variable{main:Bool}{f:au}{cs:List au}
theorem ac2{x y:dc}(h:(opAt f).map (fun o=>o.op)=some (.indexAddr t x y)){B o i z:Nat}(F:f.eval x=.slice (some ⟨B,o,none⟩) n cap)(M:f.eval y=.int .i64 (i:Int))(U:i<n)(C:PR.underlying t=some (.slice (PR.elem t)))(N:(PR.info? (PR.elem t)).map (·.size)=some z)(w:ae):
  bE PR main (G f cs) w=.go (G (f.finish (.pointer (some ⟨B,o+i *z,none⟩))) cs) w #[]:=by
 obtain⟨op,I,gu⟩:=r5 h;have A:∃Y,PR.info? (PR.elem t)=some Y/\Y.size=z:=by simp_all
 obtain⟨Y,H,rfl⟩:=A;have K:(⟨B,o,none⟩:Addr).add (i *Y.size)=⟨B,o+i *Y.size,none⟩:=by
  by_cases D:i *Y.size=0
  ·rw[D];simp[Addr.add]
  ·simp only[Addr.add,D];simp
 have hr:(aU f.eval op).run PR w=.ok (.value (.pointer (some ⟨B,o+i *Y.size,none⟩))) w:=by
  unfold aU;simp only[gu,F,M];simp[cu,dy C,dq,U,cK,b_,H,K]
 have R:(aU f.eval op).events PR w #[]=#[]:=by
  unfold aU;simp only[gu,F,M];simp[cu,dy C,dq,U,cK,b_,H]
 rw[oX I hr,R,seen_none]
end
end Ph
section
open RowKit
noncomputable def lM:=match aH.body with
 |some (.seq _ (.seq _ (.seq (.region _ ops _) _)))=>ops
 |_=>#[]
noncomputable def oU:=match aH.body with
 |some (.seq _ (.seq _ (.seq _ c)))=>c
 |_=>.skip
def xP(a0 a1 a2 a3 v1 v2:ah)(b4 b5 b6:Nat)(u:Nat->ah):=#[a0,a1,a2,a3,pt b4,pt b5,pt b6,u 7,.slice none 0 0,v1,u 10,u 11,u 12,u 13,u 14,v1,u 16,u 17,u 18,u 19,u 20,v2,u 22,u 23,u 24,u 25,u 26,u 27,u 28,u 29,u 30]
def yR(rn rb rm:ByteArray):Value:=.iface 155 (r6 rn rb rm)
theorem Gb{P:bJ}{K o1 o2 o3 o4 o5 o6 o7 Y:Oper}{Q:Exit->Act->ae->Prop}:cf P #[K,o1,o2,o3,o4,o5,o6,o7,Y] Q [7,8]=wpList P #[K,o1,o2,o3,o4,o5,o6,o7,Y] Q [o7,Y]:=by
 have:=wpOps_eq_wpList (P:=P) (ops:=#[K,o1,o2,o3,o4,o5,o6,o7,Y]) (Q:=Q) [o7,Y] 7 (fun j=>by
  match j with
  |0=>rfl
  |1=>rfl
  |j+2=>rw[cg (by simp;omega)];rfl)
 exact this
theorem aaY(K Y:List ah)(rn rb rm:ByteArray)(a0 a1 a2 a3 v1:ah)(U c2 b4 b5 b6 B:Nat)(u:Nat->ah)(w:ae)(m:K.length<=1000)(h2:Y.length<=1000)(W:0<Y.length)(E:∀x∈Y,x.oneCell'=true)
  (r1:w.ownsRow B 136 1 v1 K.length K)(r2:w.ownsRow B 136 1 (.slice (some ⟨U,0,none⟩) Y.length c2) Y.length Y)(T:B<=w.heap.size):
  cf ai lM (fun e a' w'=>e=.normal/\oU.wp ai (aT ai aH fun e w'=>∃v,e=.returned v/\w'.ownsRow B 136 1 v (K++Y).length (K++Y)/\∀a,a<B->w'.heap[a]?=w.heap[a]?) a' w') [7,8] ⟨xP a0 a1 a2 a3 v1 (.slice (some ⟨U,0,none⟩) Y.length c2) b4 b5 b6 u,[]⟩ w:=by
 obtain⟨i0,X,F,J,L⟩:=bg QL;have V:=fun j u Z=>(r2.cells (g:=U) rfl) j u Z;obtain⟨Q,C⟩:∃Q,Q=(fun e a' w'=>e=cP/\oU.wp ai (aT ai aH fun e w'=>∃v,e=.returned v/\w'.ownsRow B 136 1 v (K++Y).length (K++Y)/\∀a,a<B->w'.heap[a]?=w.heap[a]?) a' w'):=⟨_,rfl⟩;rw[<-C];have M:=laid C;clear C;unfold lM aH xP;rw[Gb];refine aV _ rfl _ _ 133 rfl B 136 i0 .nilIface 1 16 et X F J L rfl (by decide) _ _ _ rfl r1 _ Y.length c2 Y rfl (by omega) V E (by unfold aB;omega) (by omega) T ?_;intro v' O H R _;obtain⟨A,cap,rfl⟩:∃A cap,v'=.slice _ _ cap:=by
  rcases H.2 with⟨_,h⟩|⟨A,cap,S,G,_⟩
  ·omega
  ·exact⟨A,cap,G⟩
 have P:Hid (O.ownsRow B 136 1 _ (K++Y).length (K++Y)/\∀a,a<B->O.heap[a]?=w.heap[a]?):=laid ⟨by rw[ao];exact H,fun a q=>R.block a (by omega) (fun e=>by have:=(r1.lt a e.symm).1;omega)⟩;go_wp2
 rw[M.out];obtain⟨N,D⟩:∃N,N=(aT ai aH fun e w'=>∃v,e=.returned v/\w'.ownsRow B 136 1 v (K++Y).length (K++Y)/\∀a,a<B->w'.heap[a]?=w.heap[a]?):=⟨_,rfl⟩;rw[<-D];have I:=laid D;clear D M;unfold oU aH;go_wp2
 rw[I.out];refine bL (cJ rfl _ _ _) rfl ?_;exact⟨_,rfl,P.out⟩
theorem Zs(Y:List ah)(rn rb rm:ByteArray)(a0 a1 a2 a3:ah)(g1 c1 b4 b5 b6 B:Nat)(u:Nat->ah)(w:ae)(N:Y.length<=1000)(M:0<Y.length)
  (r1:w.ownsRow B 136 1 (.slice (some ⟨g1,0,none⟩) Y.length c1) Y.length Y):
  cf ai lM (fun e a' w'=>e=.normal/\oU.wp ai (aT ai aH fun e w'=>∃v,e=.returned v/\w'.ownsRow B 136 1 v Y.length Y/\∀a,a<B->w'.heap[a]?=w.heap[a]?) a' w') [7,8] ⟨xP a0 a1 a2 a3 (.slice (some ⟨g1,0,none⟩) Y.length c1) (.slice none 0 0) b4 b5 b6 u,[]⟩ w:=by
 obtain⟨Q,D⟩:∃Q,Q=(fun e a' w'=>e=cP/\oU.wp ai (aT ai aH fun e w'=>∃v,e=.returned v/\w'.ownsRow B 136 1 v Y.length Y/\∀a,a<B->w'.heap[a]?=w.heap[a]?) a' w'):=⟨_,rfl⟩;rw[<-D];have R:=laid D;clear D;unfold lM aH xP;dsimp only;simp only[pt];rw[Gb];have A:Y.length<=c1:=by
  rcases r1.2 with⟨h,_⟩|⟨g,cap,C,h,_,_,F,_⟩
  ·cases h
  ·cases h;exact F
 have U:=laid r1;clear r1;go_wp2
 rw[R.out];refine⟨rfl,?_⟩;obtain⟨I,K⟩:∃I,I=(aT ai aH fun e w'=>∃v,e=.returned v/\w'.ownsRow B 136 1 v Y.length Y/\∀a,a<B->w'.heap[a]?=w.heap[a]?):=⟨_,rfl⟩;rw[<-K];have H:=laid K;clear K R;unfold oU aH;dsimp only;go_wp2
 rw[H.out];refine bL (cJ rfl _ _ _) rfl ?_;exact⟨_,rfl,U.out,fun _ _=>rfl⟩
theorem aaZ(rn rb rm:ByteArray)(a0 a1 a2 a3:ah)(b4 b5 b6 B:Nat)(u:Nat->ah)(w:ae)(U:B<=w.heap.size)(K:w.heap[b5]?=some (.cells #[.string rn,.string rb,.string rm] 131 (0,0))):
  cf ai lM (fun e a' w'=>e=.normal/\oU.wp ai (aT ai aH fun e w'=>∃v,e=.returned v/\w'.ownsRow B 136 1 v 1 [yR rn rb rm]/\∀a,a<B->w'.heap[a]?=w.heap[a]?) a' w') [7,8] ⟨xP a0 a1 a2 a3 (.slice none 0 0) (.slice none 0 0) b4 b5 b6 u,[]⟩ w:=by
 obtain⟨Q,D⟩:∃Q,Q=(fun e a' w'=>e=cP/\oU.wp ai (aT ai aH fun e w'=>∃v,e=.returned v/\w'.ownsRow B 136 1 v 1 [yR rn rb rm]/\∀a,a<B->w'.heap[a]?=w.heap[a]?) a' w'):=⟨_,rfl⟩;rw[<-D];have R:=laid D;clear D;have c0:w.cell? ⟨b5,0,none⟩=some (.string rn):=by rw[ar w _ 0 _ _ _ K];rfl
 have c1:w.cell? ⟨b5,1,none⟩=some (.string rb):=by rw[ar w _ 1 _ _ _ K];rfl
 have c2:w.cell? ⟨b5,2,none⟩=some (.string rm):=by rw[ar w _ 2 _ _ _ K];rfl
 clear K;unfold lM aH xP;dsimp only;simp only[pt];rw[Gb];go_wp2
 rw[R.out];refine⟨rfl,?_⟩;obtain⟨I,Y⟩:∃I,I=(aT ai aH fun e w'=>∃v,e=.returned v/\w'.ownsRow B 136 1 v 1 [yR rn rb rm]/\∀a,a<B->w'.heap[a]?=w.heap[a]?):=⟨_,rfl⟩;rw[<-Y];have H:=laid Y;clear Y R;unfold oU aH;dsimp only;go_wp2
 rw[H.out];refine bL (cJ rfl _ _ _) rfl ?_;refine⟨_,rfl,⟨rfl,.inr ⟨w.heap.size,1,_,rfl,U,heap_alloc_new w _,aj _,by unfold aB;omega,rfl,rfl⟩⟩,fun a A=>bD w _ (by omega)⟩
end
namespace Ph
open Conc Ren RowKit
noncomputable def Tq:Array Oper:=match aH.body with
 |some (.seq (.region _ o _) _)=>o
 |_=>#[]
noncomputable def Jy:Array Oper:=match aH.body with
 |some (.seq _ (.seq (.region _ o _) _))=>o
 |_=>#[]
theorem aiN:aH.body=some (.seq (.region 0 Tq false) (.seq (.region 1 Jy false) (.seq (.region 2 lM true) oU))):=by kernel_rfl
theorem H7:lE K0 PR false oU=true:=by decide+kernel
theorem aoo:lM.size=9:=by kernel_rfl
theorem aiO:(ab.all fun K=>ab.all fun d1=>ab.all fun d2=>ab.all fun d3=>ab.all fun d4=>ab.all fun Y=>(aD .any lM #[K,d1,d2,d3,d4,Y,false,false,false]).all fun i=>(i==0&&!K)||(i==1&&!d1)||(i==2&&!d2)||(i==3&&(!d3&&d2))||(i==4&&!d4)||(i==5&&!Y)||(i==6&&(d1&&(d3&&(d4&&Y)))))=true:=by decide+kernel
theorem FI(K d1 d2 d3 d4 Y:Bool)(i:Nat)(H:i∈aD .any lM #[K,d1,d2,d3,d4,Y,false,false,false]):(i=0/\K=false)\/(i=1/\d1=false)\/(i=2/\d2=false)\/(i=3/\d3=false/\d2=true)\/(i=4/\d4=false)\/(i=5/\Y=false)\/(i=6/\d1=true/\d3=true/\d4=true/\Y=true):=by
 have h:=cw.1 (kM (kM (kM (kM (kM (kM aiO K) d1) d2) d3) d4) Y) i H;simpa[or_assoc]using h
theorem aiP:(ab.all fun Y=>ab.all fun d1=>ab.all fun d2=>ab.all fun d3=>ab.all fun d4=>ab.all fun K=>(d3&&!d2)||!(aD .any lM #[Y,d1,d2,d3,d4,K,false,false,false]).isEmpty)=true:=by decide+kernel
theorem agO(Y d1 d2 d3 d4 K:Bool)(H:d3=true->d2=true):aD .any lM #[Y,d1,d2,d3,d4,K,false,false,false]≠ []:=by
 have h:=kM (kM (kM (kM (kM (kM aiP Y) d1) d2) d3) d4) K;intro e;rw[e]at h;simp at h;rw[H h.1]at h;simp at h
theorem aiQ:aD .any lM #[false,true,true,true,true,true,true,false,false]=[0]:=by decide+kernel
theorem aiR:aD .any lM #[true,true,true,true,true,true,true,false,false]=[7]:=by decide+kernel
theorem aiS:aD .any lM #[true,true,true,true,true,true,true,true,false]=[8]:=by decide+kernel
theorem RE(t:Nat):aQ .any lM 2 t #[true,true,true,true,true,true,true,false,false] []=[7,8]:=by
 rw[Dh aiR];show 7::aQ _ _ 1 _ #[true,true,true,true,true,true,true,true,false] []=_
 rw[Dh aiS];rfl
theorem agP(t:Nat):aQ .any lM 3 t #[false,true,true,true,true,true,true,false,false] []=[0,7,8]:=by
 rw[Dh aiQ];show 0::aQ _ _ 2 _ #[true,true,true,true,true,true,true,false,false] []=_
 rw[RE]
abbrev Vn(rn P rm:ByteArray):Value:=oM rn (iA P 0) (str (jP rm))
def pk(b:Bool)(x:ah):Value:=if b then x else ay
def qL(X P rn rm:ByteArray)(k:Nat):List Value:=if iZ P X k=[]/\iZ (iA P 0) X k=[]then [yR rn P rm]else mT X P rn rm false k++mT X (iA P 0) rn (str (jP rm)) true k
theorem tZ{P:ByteArray}{k:Nat}:(mT X P rn rm fl k).length=(iZ P X k).length:=by unfold mT;simp
theorem Zt{P:ByteArray}{k:Nat}:∀u∈mT X P rn rm fl k,u.oneCell'=true:=by
 intro u Y;obtain⟨e,_,rfl⟩:=bj.1 Y;rfl
def zC(XN X rn P rm:ByteArray)(k q st n b4 b5 b6:Nat)(y z:ah)(Y d1 d2 d3 d4 K:Bool):Array Value:=
 #[pq XN X,oM rn P rm,jx k q st,iv n,ptr b4,ptr b5,ptr b6,ay,.slice none 0 0,y,pq XN X,oM rn P rm,jx k q st,iv n,y,pk Y y,pk d1 (pq XN X),pk d2 (oM rn P rm),pk d3 (Vn rn P rm),pk d4 (jx k q st),pk K (iv n),z,ay,ay,ay,ay,ay,ay,ay,ay,ay]
theorem DR{v:ae}{b:Nat}{fz:Nat×Nat}(h:v.heap[b]?=some (.cells #[x,y] e fz)):(bm 68 (ptr b)).run PR v=.ok (.agg #[x,y]) v:=by
 have c0:v.cell? ⟨b,0,none⟩=some x:=by simp[aO,h]
 have c1:v.cell? ⟨b,1,none⟩=some y:=by simp[aO,h]
 simp[ptr,go_sem,c0,c1]
theorem IF{v:ae}{b:Nat}{fz:Nat×Nat}(h:v.heap[b]?=some (.cells #[x,y,z] e fz)):(bm 131 (ptr b)).run PR v=.ok (.agg #[x,y,z]) v:=by
 have c0:v.cell? ⟨b,0,none⟩=some x:=by simp[aO,h]
 have c1:v.cell? ⟨b,1,none⟩=some y:=by simp[aO,h]
 have c2:v.cell? ⟨b,2,none⟩=some z:=by simp[aO,h]
 simp[ptr,go_sem,c0,c1,c2]
theorem AH{v:ae}{B:Nat}{z:Nat}(h:v.ownsRow B e z x n xs)(k:Kw v v'):v'.ownsRow B e z x n xs:=by
 refine⟨h.1,?_⟩;rcases h.2 with h'|⟨K,cap,Y,rfl,H,D,R⟩
 ·simp_all
 ·exact .inr ⟨K,cap,Y,rfl,H,k.at D,R⟩
theorem H8:([7,8].all fun i=>match lM[i]? with|some o=>AT K0 PR false o|none=>true)=true:=by decide+kernel
section
variable{Q:QT}{XN X rn P rm:ByteArray}{k q st n:Nat}{v:ae}
theorem Ya{R:ah->ae->Prop}(hX:X.size<=200)(N:b4<=v.heap.size)(O:v.heap[b5]?=some (.cells #[.string rn,.string P,.string rm] 131))(D:v.ownsRow b4 136 1 y (iZ P X k).length (mT X P rn rm false k))(C:iZ P X k=[]->y=.slice none 0 0)(F:v.ownsRow b4 136 1 z (iZ (iA P 0) X k).length (mT X (iA P 0) rn (str (jP rm)) true k))(M:iZ (iA P 0) X k=[]->z=.slice none 0 0)
  (K:∀x v',v'.ownsRow b4 136 1 x (qL X P rn rm k).length (qL X P rn rm k)->(∀a,a<b4->v'.heap[a]?=v.heap[a]?)->R x v'):GW false Q R 92 [.inRegion lM [7,8],.code oU] (zC XN X rn P rm k q st n b4 b5 b6 y z true true true true true true) v:=by
 refine GW.to (xP (pq XN X) (oM rn P rm) (jx k q st) (iv n) y z b4 b5 b6 fun i=>(zC XN X rn P rm k q st n b4 b5 b6 y z true true true true true true).getD i ay) ?_;generalize(fun i=>(zC XN X rn P rm k q st n b4 b5 b6 y z _ _ _ _ _ _).getD i _)=B;have L:=z6 P X k;have S:=z6 (iA P 0) X k;by_cases H:iZ (iA P 0) X k=[]
 ·obtain rfl:=M H;by_cases I:iZ P X k=[]
  ·obtain rfl:=C I;have Y:qL X P rn rm k=[yR rn P rm]:=by unfold qL;rw[if_pos ⟨I,H⟩]
   rw[Y]at K;exact GW.mono (R1:=fun x v'=>v'.ownsRow b4 136 1 x 1 _/\∀a,a<b4->v'.heap[a]?=v.heap[a]?) (fun x v' h=>K x v' h.1 h.2) (GW.IE bW H7 H8 fun T=>aaZ rn P rm _ _ _ _ b4 b5 b6 b4 B _ N O)
  ·have Y:qL X P rn rm k=mT X P rn rm false k:=by
    unfold qL;rw[if_neg (fun h=>I h.1)];simp[mT,H]
   rw[Y]at K;rw[<-tZ (rn:=rn) (rm:=rm) (fl:=false)]at D;have A:0<(mT X P rn rm false k).length:=by rw[tZ];exact bS.2 I
   have U:(mT X P rn rm false k).length<=1000:=by rw[tZ];omega
   obtain⟨g,cap,rfl⟩:∃g cap,y=.slice _ _ cap:=by
    rcases D.2 with⟨_,h⟩|⟨g,cap,_,h,_⟩
    ·omega
    ·exact⟨g,cap,h⟩
   exact GW.mono (R1:=fun x v'=>v'.ownsRow b4 136 1 x _ _/\∀a,a<b4->v'.heap[a]?=v.heap[a]?) (fun x v' h=>K x v' h.1 h.2) (GW.IE bW H7 H8 fun T=>Zs _ rn P rm _ _ _ _ g cap b4 b5 b6 b4 B _ U A D)
 ·have Y:qL X P rn rm k=mT X P rn rm false k++mT X (iA P 0) rn (str (jP rm)) true k:=by unfold qL;rw[if_neg (fun h=>H h.2)]
  rw[Y]at K;rw[<-tZ (rn:=rn) (rm:=rm) (fl:=false)]at D;rw[<-tZ (rn:=rn) (rm:=str (jP rm)) (fl:=true)]at F;have A:0<(mT X (iA P 0) rn (str (jP rm)) true k).length:=by rw[tZ];exact bS.2 H
  have U:(mT X P rn rm false k).length<=1000:=by rw[tZ];omega
  have J:(mT X (iA P 0) rn (str (jP rm)) true k).length<=1000:=by rw[tZ];omega
  obtain⟨g,cap,rfl⟩:∃g cap,z=.slice _ _ cap:=by
   rcases F.2 with⟨_,h⟩|⟨g,cap,_,h,_⟩
   ·omega
   ·exact⟨g,cap,h⟩
  exact GW.mono (R1:=fun x v'=>v'.ownsRow b4 136 1 x _ _/\∀a,a<b4->v'.heap[a]?=v.heap[a]?) (fun x v' h=>K x v' h.1 h.2) (GW.IE bW H7 H8 fun T=>aaY _ _ rn P rm _ _ _ _ y g cap b4 b5 b6 b4 B _ U J A Zt D F N)
theorem aa6(hX:X.size<=200)(hP:P.size<=30)(hm:rm.size<=1000)(hk:k<=6)(W:k<P.size)(N:k<(iA P 0).size)(hq:1<=q)(S:q<=8)(hs:1<=st)(V:st<=200)(m:1<=n)(O:n<=8)(U:ln v)(g:iS v):
  iF Q 92 #[pq XN X,oM rn P rm,jx k q st,iv n] v fun x v'=>v'.ownsRow v.heap.size 136 1 x (qL X P rn rm k).length (qL X P rn rm k)/\Kw v v':=by
 have Y:∃F,PR.funcs[92]?=some F:=⟨_,bW⟩;refine iF.of (n:=31) bW aiN (by simp) ?_;refine GW.run 2 (k':=[.inRegion Tq [0,1,2,3],.code (.seq (.region 1 Jy false) (.seq (.region 2 lM true) oU))]) ?_;refine GW.bx Y (t:=68) (y:=pq XN X) fun v1 k1 l1 c4=>?_;refine GW.bx Y (t:=131) (y:=oM rn P rm) fun v2 l l2 B=>?_;refine GW.bx Y (t:=75) (y:=jx k q st) fun v3 f l3 c6=>?_;refine GW.h_ Y [3] ?_;refine GW.run 3 (k':=[.inRegion Jy [0,1,2,3,4,5],.code (.seq (.region 2 lM true) oU)]) ?_;have K3:=(k1.trans l).trans f;have c4:=f.at (l.at c4);have B:=f.at B;refine GW.ld Y (DR c4) ?_;refine GW.ld Y (IF B) ?_;refine GW.ld Y (AY c6) ?_;refine GW.h_ Y [3] ?_;refine GW.call Y (PZ (XN:=XN) (rn:=rn) (rm:=rm) (fl:=false) hX hP hk W hq S hs V m O (K3.nR U) (K3.r7 U g)) ?_;rintro y v4 ⟨Z,c,L⟩;have L:Kw v3 v4:=L;refine GW.h_ Y [5] ?_;refine GW.run 2 (k':=[.code (.region 2 lM true),.code oU]) ?_;refine GW.to (zC XN X rn P rm k q st n v.heap.size v1.heap.size v2.heap.size y ay false false false false false false) ?_;have c4:=L.at c4;have B:=L.at B;have c6:=L.at c6;have K4:=K3.trans L;have Z:=yj Z K3.size;have J:=K4.size;generalize s:v.heap.size=b4 at Z J c4⊢;generalize v1.heap.size=b5 at B⊢;generalize v2.heap.size=b6 at c6⊢;refine GW.draw fun t=>?_;refine GW.Sw (fun D=>zC XN X rn P rm k q st n b4 b5 b6 y _ (D.getD 0 false) (D.getD 1 false) (D.getD 2 false) (D.getD 3 false) (D.getD 4 false) (D.getD 5 false)) (fun fuel D u=>∃I d1 d2 d3 d4 A:Bool,D=#[I,d1,d2,d3,d4,A,false,false,false]/\(d3=true->d2=true)/\fuel+(I.toNat+d1.toNat+d2.toNat+d3.toNat+d4.toNat+A.toNat)=9/\Kw v4 u) ?_ ?_ 9 t _ v4 ⟨false,false,false,false,false,false,rfl,(by simp),rfl,.refl _⟩
 ·rintro D i fuel t u ⟨I,d1,d2,d3,d4,A,rfl,H,C,K⟩ b M;rcases FI I d1 d2 d3 d4 A i b with⟨rfl,rfl⟩|⟨rfl,rfl⟩|⟨rfl,rfl⟩|⟨rfl,rfl,rfl⟩|⟨rfl,rfl⟩|⟨rfl,rfl⟩|⟨rfl,rfl,rfl,rfl,rfl⟩
  ·exact GW.h_ Y [0] (GW.to _ (M u ⟨true,d1,d2,d3,d4,A,rfl,H,by simp at C⊢;omega,K⟩))
  ·exact GW.ld Y (DR (K.at c4)) (GW.to _ (M u ⟨I,true,d2,d3,d4,A,rfl,H,by simp at C⊢;omega,K⟩))
  ·exact GW.ld Y (IF (K.at B)) (GW.to _ (M u ⟨I,d1,true,d3,d4,A,rfl,fun _=>rfl,by simp at C⊢;omega,K⟩))
  ·refine GW.call Y (iF.il (R:=fun x v'=>x=Vn rn P rm/\Kw u v') (by decide) fun T=>(Za rn P rm _ (by omega) hm).mono fun e w' h=>⟨_,h.1,rfl,fun a G=>h.2.block a G⟩) ?_;rintro x u' ⟨rfl,o⟩;exact GW.to _ (M u' ⟨I,d1,true,true,d4,A,rfl,fun _=>rfl,by simp at C⊢;omega,K.trans o⟩)
  ·exact GW.ld Y (AY (K.at c6)) (GW.to _ (M u ⟨I,d1,d2,d3,true,A,rfl,H,by simp at C⊢;omega,K⟩))
  ·exact GW.h_ Y [5] (GW.to _ (M u ⟨I,d1,d2,d3,d4,true,rfl,H,by simp at C⊢;omega,K⟩))
  ·obtain rfl:=H rfl;refine GW.call Y (PZ (XN:=XN) (rn:=rn) (rm:=str (jP rm)) (fl:=true) hX (by have:=B8 P 0;omega) hk N hq S hs V m O ((K4.trans K).nR U) ((K4.trans K).r7 U g)) ?_;rintro z u2 ⟨w,d,E⟩;have fin:GW _ Q (fun x v'=>v'.ownsRow b4 136 1 x _ _/\Kw v v') 92 _ (zC XN X rn P rm k q st n b4 b5 b6 y z true _ _ _ _ _) u2:=
    Ya hX (aK J (K.trans E).size) ((K.trans E).at B) (AH Z (K.trans E)) c (yj w (aK J K.size)) d fun x v' p r=>⟨p,fun a G=>(r a (by omega)).trans (((K4.trans K).trans E) a G)⟩
   cases I with
   |true=>
    obtain rfl:fuel=2:=by simp_all
    rw[show(#[true,true,true,true,true,true,false,false,false]).setIfInBounds 6 _=#[true,true,true,true,true,true,true,false,false]from rfl,RE];exact GW.to _ fin
   |false=>
    obtain rfl:fuel=3:=by simp at C;omega
    rw[show(#[false,true,true,true,true,true,false,false,false]).setIfInBounds 6 true=#[false,true,true,true,true,true,true,false,false]from rfl,agP];exact GW.h_ Y [0] (GW.to _ fin)
 ·rintro fuel D u ⟨I,d1,d2,d3,d4,A,rfl,H,C,K⟩ j;exfalso;rcases j with rfl|j
  ·have:=bG I;have:=bG d1;have:=bG d2;have:=bG d3;have:=bG d4;have:=bG A;omega
  ·exact agO I d1 d2 d3 d4 A H j
end
end Ph
section
inductive Rc where
 |hit (p:Pl)
 |no (rn rb rm:ByteArray)
def Rc.val:Rc->ah
 |.hit p=>qK p
 |.no rn rb rm=>yR rn rb rm
def Rc.text(Y:ByteArray):Rc->Bool->List UInt8
 |.hit p,first=>na [p.rn,str (gJ (uN p.fl first)),Y,str (gJ (p.st+1)),p.lt,str (gJ p.er),p.df,p.rb,p.rm]++[10]
 |.no rn rb rm,_=>na [rn,str (gJ 4),str [42],str [48],str [42],str [45],str [45],rb,rm]++[10]
def A6:Rc:=.no ⟨#[]⟩ ⟨#[]⟩ ⟨#[]⟩
def oC(X P rn rm:ByteArray)(fl:Bool)(k:Nat):List Rc:=(iZ P X k).map fun e=>.hit (po X P rn rm fl (fun e=>(ib P X k e).2) (fun e=>(ib P X k e).1) e)
def pV(X P rn rm:ByteArray)(k:Nat):=if iZ P X k=[]/\iZ (iA P 0) X k=[]then [.no rn P rm]else oC X P rn rm false k++oC X (iA P 0) rn (str (jP rm)) true k
def jH(Y:ByteArray)(n:Nat)(L:List Rc)
 |0=>[]
 |i+1=>jH Y n L i++(L.getD i A6).text Y (decide (n+i=0))
theorem P0(K:ByteArray)(n:Nat)(Y H:List Rc):∀i,i<=Y.length->jH K n (Y++H) i=jH K n Y i
 |0,_=>rfl
 |i+1,h=>by
  rw[jH,jH,P0 K n Y H i (by omega)];rw[ax,ax,dO (by omega)]
theorem QM(K:ByteArray)(n:Nat)(Y H:List Rc):∀i,jH K n (Y++H) (Y.length+i)=jH K n Y Y.length++jH K (n+Y.length) H i
 |0=>by rw[Nat.add_zero,P0 K n Y H _ (aj _)];simp[jH]
 |i+1=>by
  rw[<-cE,jH,jH,QM K n Y H i,bR];congr 3
  ·rw[ax,ax,dP (by omega)];simp_all
  ·congr 1;simp only[eq_iff_iff];omega
theorem NS(p t:ByteArray)(k:Nat):∀n,lA p t k n=(pU p t k n).map fun e=>((ib p t k e).2,e,(ib p t k e).1)
 |0=>by simp[lA,pU]
 |n+1=>by
  have Y:=NS p t k n;unfold pU at *;rw[lA];split
  ·rw[aN,aN,<-Y];rfl
  ·omega
theorem Gr(p t:ByteArray)(k:Nat):iE p t k=(iZ p t k).map fun e=>((ib p t k e).2,e,(ib p t k e).1):=NS p t k _
theorem Ts(a b c d e f g h i:List _):aY [a,b,c,d,e,f,g,h,i] [9]=a++[9]++b++[9]++c++[9]++d++[9]++e++[9]++f++[9]++g++[9]++h++[9]++i:=by
 unfold aY;simp
theorem Jz(l:List _):(str l).data.toList=l:=by unfold str;simp
theorem ac3(Y X P rn rm:ByteArray)(fl first:Bool)(k e n:Nat)(K:uN fl first=n):
  Rc.text Y (.hit (po X P rn rm fl (fun e=>(ib P X k e).2) (fun e=>(ib P X k e).1) e)) first=vX Y X rn P rm n ((ib P X k e).2,e,(ib P X k e).1):=by
 subst K;unfold Rc.text po vX y8 na;simp;rw[Ts];simp[Jz]
theorem aeZ(Y rn rb rm:ByteArray)(first:Bool):Rc.text Y (.no rn rb rm) first=w_ (rn,rb,rm):=by
 unfold Rc.text w_ na;simp;rw[Ts];simp[Jz];have:gJ 4=[52]:=by decide+kernel
 simp_all
theorem F1(Y X P rn rm:ByteArray)(fl:Bool)(k n:Nat):∀i,i<=(iZ P X k).length->jH Y n (oC X P rn rm fl k) i=p_ Y X rn P rm (if fl then 16 else 0) (decide (0<n)) (iE P X k) i
 |0,_=>rfl
 |i+1,h=>by
  rw[jH,p_,F1 Y X P rn rm fl k n i (by omega)];congr 1;rw[Gr];unfold oC;rw[ax,ax,bp,bp,aA (by omega)];simp only[Option.map_some,ei];refine ac3 Y X P rn rm fl _ k _ _ ?_;unfold uN pS;by_cases H:n+i=0
  ·have K:¬(decide (0<n)=true\/0<i):=by simp;omega
   rw[if_neg K,decide_eq_true H];cases fl<;>rfl
  ·have K:decide (0<n)=true\/0<i:=by simp;omega
   rw[if_pos K,decide_eq_false H];cases fl<;>rfl
theorem QN(K Y rn p mk:ByteArray)(add:Nat)(more:Bool)(L:List _)(i:Nat)(h:0<i):p_ K Y rn p mk add more L i≠ []:=by
 cases i with
 |zero=>omega
 |succ i=>
  rw[p_];intro e;have:=congrArg List.length e;unfold vX y8 at this;simp_all
theorem aa7(Y X P rn rm:ByteArray)(k:Nat):jH Y 0 (pV X P rn rm k) (pV X P rn rm k).length=pK Y X k (rn,P,rm):=by
 have l1:(iE P X k).length=(iZ P X k).length:=by rw[Gr];simp
 have l2:(iE (iA P 0) X k).length=(iZ (iA P 0) X k).length:=by rw[Gr];simp
 have I:pT Y X k (rn,P,rm)=jH Y 0 (oC X P rn rm false k) (iZ P X k).length:=by
  rw[F1 Y X P rn rm _ k 0 _ (aj _)];unfold pT rZ;simp_all
 have D:pT Y X k (rn,P,rm)=[]↔iZ P X k=[]:=by
  constructor
  ·intro h;apply cO;intro H;unfold pT rZ at h;rw[l1]at h;exact QN _ _ _ _ _ _ _ _ _ (bS.2 H) h
  ·intro h;rw[I,h];rfl
 have R:rp Y X k (rn,P,rm)=jH Y (iZ P X k).length (oC X (iA P 0) rn (str (jP rm)) true k) (iZ (iA P 0) X k).length:=by
  rw[F1 Y X _ rn _ _ k _ _ (aj _)];unfold rp rZ;rw[l2];have:decide (pT Y X k (rn,P,rm)≠ [])=decide (0<(iZ P X k).length):=by
   rw[decide_eq_decide,bS];simp_all
  simp_all
 have K:rp Y X k (rn,P,rm)=[]↔iZ (iA P 0) X k=[]:=by
  constructor
  ·intro h;apply cO;intro H;unfold rp rZ at h;rw[l2]at h;exact QN _ _ _ _ _ _ _ _ _ (bS.2 H) h
  ·intro h;rw[R,h];rfl
 unfold pK;by_cases h:iZ P X k=[]/\iZ (iA P 0) X k=[]
 ·rw[if_pos ⟨D.2 h.1,K.2 h.2⟩,K.2 h.2,cx];have:pV X P rn rm k=[.no rn P rm]:=by unfold pV;simp_all
  rw[this];show jH Y 0 _ 1=_
  rw[jH,jH,dW];exact aeZ Y rn P rm _
 ·rw[if_neg (fun e=>h ⟨D.1 e.1,K.1 e.2⟩)];have:pV X P rn rm k=oC X P rn rm false k++oC X (iA P 0) rn (str (jP rm)) true k:=by unfold pV;simp_all
  rw[this,ao,QM,I,R,bI];have A:(oC X P rn rm false k).length=(iZ P X k).length:=by unfold oC;simp
  have U:(oC X (iA P 0) rn (str (jP rm)) true k).length=(iZ (iA P 0) X k).length:=by unfold oC;simp
  rw[A,U]
theorem OQ(Y X:ByteArray):na [⟨#[64]⟩++Y,str (gJ X.size)]++[10]=q_ Y X:=by
 unfold na q_ aY;simp[Jz]
end
namespace Ph
open Conc Ren RowKit
def cp:List Nat->Code->Code
 |1::p,.seq a _|1::p,.block _ a|1::p,.loop a|1::p,.cond _ a _|2::p,.seq _ a|2::p,.cond _ _ a=>cp p a
 |_,c=>c
def opsOf:Code->Array Oper
 |.region _ o _=>o
 |_=>#[]
section
variable{tb:Bool}{Q:QT}{R:ah->ae->Prop}{v:ae}{fn:a_}{k:List Item}{a:Array ah}
theorem GW.any(f:(Nat->ah)->Array ah)(h:a=f fun i=>a.getD i ay)(g:∀u,GW tb Q R fn k (f u) v):GW tb Q R fn k a v:=by
 rw[h];exact g _
end
theorem agQ{B:Nat}{acc:List UInt8}{v:ae}(h:ia B acc v)(k:Kw v v'):ia B acc v':=by
 have K:af _ v {v' with os:=v.os,tape:=v.tape,output:=v.output}:=⟨rfl,rfl,rfl,k.size,k⟩;have Y:=h.below K;exact Y
noncomputable def rI:Code:=Tryz.f60.body.getD .skip
def tB:Code:=cp [2,2,2,1,2,1,1] rI
def tI:Code:=cp [2,2,1,1,2,2,1,1] tB
def tE:Code:=cp [2,2,2,2] rI
def kB:List Item:=[.inLoop tB,.inBlock 0,.code tE]
def kI:List Item:=.inBlock 1:: .code (cp [2,2,2] tB)::kB
def Rc.ok:Rc->Prop
 |.hit p=>p.rn.size<=1000/\p.rb.size<=1000/\p.rm.size<=1000/\p.lt.size<=10000/\p.df.size<=10000/\p.st<=1000/\p.er<=1000
 |.no rn rb rm=>rn.size<=1000/\rb.size<=1000/\rm.size<=1000
theorem aa8(B:Nat)(acc:List UInt8)(XN:ByteArray)(x:Rc)(first:Bool)(v:ae)(M:Rc.ok x)(D:XN.size<=1000)(U:ia B acc v)(C:acc.length<=500000000)(F:iS v):
  ak PR 93 #[ptr B,.string XN,x.val,.bool first] v fun e v'=>∃y,e=.returned y/\ia B (acc++x.text XN first) v'/\(∀g,g<B->v'.heap[g]?=v.heap[g]?)/\Go.Proofs.YtdcjnhipenbcfaaGreatDoor.Kp B v v':=by
 cases x with
 |hit p=>
  obtain⟨Y,K,H,I,A,J,L⟩:=M;refine(VX B acc XN p _ v U D Y K H I A J L C F).mono fun e v' h=>⟨_,h.1,?_,fun g R=>h.2.2.1.block g R,h.2.2.2⟩;have:=h.2.1;rw[bR]at this;exact this
 |no rn rb rm=>
  obtain⟨Y,K,H⟩:=M;refine(VV B acc XN rn rb rm _ v U Y K H C F).mono fun e v' h=>⟨_,h.1,?_,fun g R=>h.2.2.1.block g R,h.2.2.2⟩;have:=h.2.1;rw[bR]at this;exact this
theorem agR:j7 PR (isAgg 136)=some false:=by kernel_rfl
theorem agS:PR.underlying 133=some (.slice (PR.elem 133)):=by kernel_rfl
theorem ae0:(PR.info? (PR.elem 133)).map (·.size)=some 1:=by kernel_rfl
def sJ(XN X:ByteArray)(k q st n b4 b6 b9:Nat)(sl:ah)(len:Nat)(i y z j:ah)(u:Nat->ah):Array Value:=
 #[pq XN X,sl,jx k q st,iv n,ptr b4,u 5,ptr b6,u 7,.string ⟨#[]⟩,ptr b9,u 10,u 11,u 12,u 13,u 14,u 15,u 16,u 17,u 18,u 19,u 20,u 21,u 22,sl,iv len,i,u 26,u 27,u 28,u 29,u 30,u 31,u 32,y,z,j,u 36,u 37,u 38,u 39,u 40,u 41,u 42,u 43,u 44,u 45,u 46,u 47,u 48]
structure TV(v0:ae)(XN X:ByteArray)(k q st b4 b6 b9:Nat)(acc:List UInt8)(v:ae):Prop where
 c4:v.heap[b4]?=some (.cells #[.string XN,.string X] 68)
 c6:v.heap[b6]?=some (.cells #[iv k,iv q,iv st] 75)
 BQ:ia b9 acc v
 old:Kw v0 v
 l4:b4<b9
 l6:b6<b9
 l0:v0.heap.size<=b9
theorem TV.on{v:ae}{k st b9:Nat}{acc:List UInt8}(h:TV v0 XN X k q st b4 b6 b9 acc v)(Y:Kw v v'):TV v0 XN X k q st b4 b6 b9 acc v':=⟨Y.at h.c4,Y.at h.c6,agQ h.BQ Y,h.old.trans Y,h.l4,h.l6,h.l0⟩
theorem TV.wrote{v:ae}{k st b9:Nat}{acc:List UInt8}(h:TV v0 XN X k q st b4 b6 b9 acc v)(H:ia b9 Tn v')(Y:∀g,g<b9->v'.heap[g]?=v.heap[g]?):TV v0 XN X k q st b4 b6 b9 Tn v':=
 ⟨(Y _ h.l4).trans h.c4,(Y _ h.l6).trans h.c6,H,fun a K=>(Y a (aZ K h.l0)).trans (h.old a K),h.l4,h.l6,h.l0⟩
section
variable{Q:QT}{R:ah->ae->Prop}{v0:ae}{XN X:ByteArray}{k q st n b4 b6 b9 len:Nat}{sl i:ah}{acc:List UInt8}{L:List Rc}{b:Option Addr}{cq:Nat}
theorem ae1(E:XN.size<=1000)(V:ln v0)(hT:iS v0)(hL:∀x∈L,Rc.ok x)(hn:L.length<=100000)(M:∀j,j<=L.length->(acc++jH XN 0 L j).length<=500000000)
  (kk:∀j u v,TV v0 XN X k q st b4 b6 b9 (acc++jH XN 0 L L.length) v->GW false Q R 60 kI (sJ XN X k q st n b4 b6 b9 sl len i (.slice b L.length cq) (iv L.length) j u) v):
  ∀m j,j+m=L.length->∀u v,TV v0 XN X k q st b4 b6 b9 (acc++jH XN 0 L j) v->v.ownsRow b9 136 1 (.slice b L.length cq) L.length (L.map Rc.val)->(∀g,(Value.slice b L.length cq).ownBlock=some g->b9<g)->
   GW false Q R 60 (.code tI:: .inLoop tI:: .inBlock 2::kI) (sJ XN X k q st n b4 b6 b9 sl len i (.slice b L.length cq) (iv L.length) (iv j) u) v:=by
 have Y:∃F,PR.funcs[60]?=some F:=⟨_,Tryz.func60⟩;intro m;induction m with
 |zero=>
  intro j hj u v A H G;obtain rfl:j=L.length:=by omega
  refine GW.run 2 (k':=.inRegion (opsOf (cp [1] tI)) [0]:: .code (cp [2] tI):: .inLoop tI:: .inBlock 2::kI) ?_;refine GW.h_ Y [0] ?_;refine GW.run 2 (k':=.code (.cond (.tmp 36) .skip (.exit 2)):: .code (cp [2,2] tI):: .inLoop tI:: .inBlock 2::kI) ?_;refine GW.cond Y (t:=decide ((L.length:Int)<(L.length:Int))) trivial (by kernel_rfl) ?_;rw[show decide ((L.length:Int)<(L.length:Int))=false from decide_eq_false (by omega)];refine GW.run 1 (k':=kI) ?_;exact GW.any (fun u=>sJ XN X k q st n b4 b6 b9 sl len i (.slice b L.length cq) (iv L.length) (iv L.length) u) (by kernel_rfl) fun o=>kk _ o v A
 |succ m ih=>
  intro j hj u v A H G;have I:j<L.length:=by omega
  obtain⟨g,K,hb,D,Fg,d⟩:∃g K,b=some ⟨g,0,none⟩/\v.heap[g]?=some (.cells K 136 (0,0))/\K.size=cq *1/\K.toList.take (L.length *1)=L.map Rc.val:=by
   rcases H.2 with⟨_,h⟩|⟨g,cap,K,A,_,y,h4,h5,a,w⟩
   ·omega
   ·cases A;exact⟨g,K,rfl,y,a,w⟩
  subst hb;have hgb:b9<g:=G g rfl;have Z:K[0+j *1]?=some (L.getD j A6).val:=by
   have s:(K.toList.take (L.length *1))[j]?=K.toList[j]?:=by rw[cz,if_pos (by omega)]
   rw[d,bp,aA I]at s;rw[show 0+j *1=j by omega,<-bF,<-s,ax,aA I];rfl
  have J:L.getD j A6∈L:=by rw[ax,aA I];exact cA _
  have f:acc++jH XN 0 L (j+1)=(acc++jH XN 0 L j)++(L.getD j A6).text XN (decide ((j:Int)=0)):=by
   rw[jH,<-bR];congr 2;rw[decide_eq_decide];omega
  have z:=M j (by omega);generalize L.getD j A6=e at *;refine GW.run 2 (k':=.inRegion (opsOf (cp [1] tI)) [0]:: .code (cp [2] tI):: .inLoop tI:: .inBlock 2::kI) ?_;refine GW.h_ Y [0] ?_;refine GW.run 2 (k':=.code (.cond (.tmp 36) .skip (.exit 2)):: .code (cp [2,2] tI):: .inLoop tI:: .inBlock 2::kI) ?_;refine GW.cond Y (t:=decide ((j:Int)<(L.length:Int))) trivial (by kernel_rfl) ?_;rw[show decide ((j:Int)<(L.length:Int))=true from decide_eq_true (by omega)];refine GW.run 5 (k':=.inRegion (opsOf (cp [2,2,1,1,1] tI)) [0,1,2,3,4]:: .code (cp [2,2,1,1,2] tI):: .inBlock 3:: .code (cp [2,2,2] tI):: .inLoop tI:: .inBlock 2::kI) ?_;refine GW.h_ Y [0] ?_;refine GW.ix Y (B:=g) (off:=0) (cap:=cq) I agS ae0 ?_;refine GW.ld Y (mq (0+j *1) agR D Z) ?_;refine GW.h_ Y [3,4] ?_;refine GW.run 2 (k':=.inRegion (opsOf (cp [2,2,1,1,2] tI)) [0,1,2,3,4,5]:: .inBlock 3:: .code (cp [2,2,2] tI):: .inLoop tI:: .inBlock 2::kI) ?_;refine GW.h_ Y [0] ?_;refine GW.ld Y (mq 0 xu A.c4 rfl) ?_;refine GW.h_ Y [2,3,4] ?_;refine GW.call Y (iF.il (R:=fun _ v'=>ia b9 (acc++jH XN 0 L j++e.text XN (decide ((j:Int)=0))) v'/\(∀g,g<b9->v'.heap[g]?=v.heap[g]?)/\Go.Proofs.YtdcjnhipenbcfaaGreatDoor.Kp b9 v v') (by decide) fun T=>aa8 b9 (acc++jH XN 0 L j) XN e (decide ((j:Int)=0)) (tp v T) (hL _ J) E A.BQ z (A.old.r7 V hT)) ?_;rintro x v' ⟨C,W,c⟩;rw[<-f]at C;refine GW.run 3 (k':=.inRegion (opsOf (cp [2,2,2] tI)) [0,1]:: .inLoop tI:: .inBlock 2::kI) ?_;refine GW.h_ Y [0,1] ?_;refine GW.run 2 (k':=.code tI:: .inLoop tI:: .inBlock 2::kI) ?_;refine GW.any (fun u=>sJ XN X k q st n b4 b6 b9 sl len i (.slice (some ⟨g,0,none⟩) L.length cq) (iv L.length) (.int .i64 (aI.wrap ((j:Int)+1))) u) (by kernel_rfl) fun o=>?_;rw[Aa (by omega)];refine ih (j+1) (by omega) o v' (A.wrote C W) ⟨H.1,.inr ⟨g,cq,K,rfl,by omega,c g K 136 (0,0) (by omega) (by decide) D,?_⟩⟩ G;rcases H.2 with⟨h,_⟩|⟨g',p,r,l,_,U,N,O,P,S⟩
  ·cases h
  ·cases l;rw[D]at U;cases U;exact⟨N,O,P,S⟩
end
section
variable{tb:Bool}{Q:QT}{R:ah->ae->Prop}{v:ae}{fn:a_}{k:List Item}{a:Array ah}{ops:Array Oper}{i:Nat}{is:List Nat}
theorem ae2:(PR.info? 131).map (·.size)=some 3:=by kernel_rfl
theorem GW.sk(Y:∃F,PR.funcs[fn]?=some F){s:Sem Unit}(h:mD ops i a=some (A5 s))(hr:s.run PR v=.ok () v1)(hd:v1.drawn=v.drawn)(g:GW tb Q R fn (.inRegion ops is::k) (kD (jR ops i) ay a) v1):GW tb Q R fn (.inRegion ops (i::is)::k) a v:=
 GW.ex Y h (by simp[A5,hr]) (.inr ⟨rfl,rfl⟩) hd g
theorem GW.Vo(H:∃F,PR.funcs[fn]?=some F)(O:(PR.info? t).map (·.size)=some 3){B:Nat}{z0 z1 z2:ah}(Y:v.heap[B]?=some (.cells #[z0,z1,z2] t'))
  (g:∀v1,v1.heap[B]?=some (.cells #[x,y,z] t')->(∀b,b≠B->v1.heap[b]?=v.heap[b]?)->v1.heap.size=v.heap.size->GW tb Q R fn (.inRegion ops is::k) (kD (jR ops i) ay a) v1)(h:mD ops i a=some (A5 (Instr.storeAt t (ptr B) (.agg #[x,y,z]))):=by kernel_rfl)(U:x.oneCell'=true:=by rfl)(C:y.oneCell'=true:=by rfl)(M:z.oneCell'=true:=by rfl):GW tb Q R fn (.inRegion ops (i::is)::k) a v:=by
 obtain⟨P,D,I⟩:=wy O;have r0:=qX (i:=0) (v:=x) Y;have r1:=qX (i:=1) (v:=y) r0;have A:v.cell? ⟨B,0,none⟩=some z0:=by simp[aO,Y]
 have f0:v.frozen? ⟨B,0,none⟩=false:=by simp[dk,Y]
 have J:(v.setCell ⟨B,0,none⟩ x).cell? ⟨B,1,none⟩=some z1:=by simp[aO,r0]
 have f1:(v.setCell ⟨B,0,none⟩ x).frozen? ⟨B,1,none⟩=false:=by simp[dk,r0]
 have L:((v.setCell ⟨B,0,none⟩ x).setCell ⟨B,1,none⟩ y).cell? ⟨B,2,none⟩=some z2:=by simp[aO,r1]
 have f2:((v.setCell ⟨B,0,none⟩ x).setCell ⟨B,1,none⟩ y).frozen? ⟨B,2,none⟩=false:=by simp[dk,r1]
 have K:=aka (a:=x) (b:=y) (c:=z) v Y;refine GW.sk (v1:=Eg B x y z v) H h ?_ rfl (g _ K.2 (fun b N=>K.1.heap b N) K.1.size);simp[go_sem,cK,b_,D,I,dx PR _ _ x _ U,dx PR _ _ y _ C,dx PR _ _ z _ M,A,f0,J,f1,L,f2,ptr,Eg]
end
theorem ae3:(PR.info? 131).map (·.zero)=some (some (.agg #[.string ⟨#[]⟩,.string ⟨#[]⟩,.string ⟨#[]⟩])):=by kernel_rfl
theorem aiT:PR.underlying 90=some (.slice (PR.elem 90)):=by kernel_rfl
theorem agT:(PR.info? (PR.elem 90)).map (·.size)=some 3:=by kernel_rfl
theorem ae4{v:ae}{b o:Nat}(c0:v.cell? ⟨b,o,none⟩=some x)(c1:v.cell? ⟨b,o+1,none⟩=some y)(c2:v.cell? ⟨b,o+2,none⟩=some z):(bm 131 (qT b o)).run PR v=.ok (.agg #[x,y,z]) v:=by
 simp[qT,go_sem,c0,c1,c2]
theorem ac4(X P rn rm:ByteArray)(k:Nat):qL X P rn rm k=(pV X P rn rm k).map Rc.val:=by
 unfold qL pV;split
 ·rfl
 ·rw[aN];unfold mT oC;rw[cW,cW];rfl
theorem OR(X P rn rm:ByteArray)(fl:Bool)(k:Nat)(hX:X.size<=200)(hP:P.size<=30)(hk:k<=6)(Y:rn.size<=1000)(K:rm.size<=1000):∀x∈oC X P rn rm fl k,Rc.ok x:=by
 intro x U;obtain⟨e,D,rfl⟩:=bj.1 U;obtain⟨a1,a2,a3,a4,a5⟩:=Nf P X k e D;have B:(X.extract (ib P X k e).2 e).size<=200:=by rw[bk];omega
 have R:=yg P (X.extract (ib P X k e).2 e);have A:(str _).size=(gO P (X.extract (ib P X k e).2 e)).length:=gR _;have I:=GO (str (gO P (X.extract (ib P X k e).2 e))) (by omega);have H:=Hh P (X.extract (ib P X k e).2 e) (str (gO P (X.extract (ib P X k e).2 e))) (by omega);refine⟨Y,(show P.size<=1000 by omega),K,?_,?_,(show(ib P X k e).2<=1000 by omega),(show(ib P X k e).1<=1000 by omega)⟩
 ·show(str (nO (str (gO P (X.extract (ib P X k e).2 e))))).size<=10000
  rw[gR];omega
 ·show(str (jL P (X.extract (ib P X k e).2 e) (str (gO P (X.extract (ib P X k e).2 e))))).size<=10000
  rw[gR];omega
theorem ae5(X P rn rm:ByteArray)(k:Nat)(hX:X.size<=200)(hP:P.size<=30)(hk:k<=6)(K:rn.size<=1000)(H:rm.size<=1000):∀x∈pV X P rn rm k,Rc.ok x:=by
 intro x Y;unfold pV at Y;split at Y
 ·simp at Y;subst Y;exact⟨K,(show P.size<=1000 by omega),H⟩
 ·rcases bc.1 Y with Y|Y
  ·exact OR X P rn rm _ k hX hP hk K H x Y
  ·exact OR X _ rn _ _ k hX (by have:=B8 P 0;omega) hk K (by rw[Oy];exact H) x Y
theorem ac5(X P rn rm:ByteArray)(k:Nat)(hX:X.size<=200):(pV X P rn rm k).length<=402:=by
 have Y:=z6 P X k;have K:=z6 (iA P 0) X k;unfold pV oC;split
 ·simp
 ·simp;omega
theorem P1(Y:ByteArray)(n:Nat)(L:List Rc):∀j d,(jH Y n L j).length<=(jH Y n L (j+d)).length
 |j,0=>aj _
 |j,d+1=>by
  have:=P1 Y n L j d;rw[<-cE,jH,ao];omega
theorem Zu(s:ByteArray):(iA s 0).size=s.size:=by
 unfold iA;rw[gR];simp
section
variable{Q:QT}{R:ah->ae->Prop}{v0:ae}{XN X:ByteArray}{k q st n b4 b6 b9 cap:Nat}{a:Option Addr}{RL:List mn}
theorem ac6(hX:X.size<=200)(C:XN.size<=1000)(hk:k<=6)(hq:1<=q)(G:q<=8)(hs:1<=st)(W:st<=200)(hn:1<=n)(E:n<=8)(hR:∀r∈RL,(r.1.size<=10/\r.2.1.size<=30/\r.2.2.size<=30)/\k<r.2.1.size)(hRL:RL.length<=5)(U:ln v0)(hT:iS v0)
  (rows:v0.ownsRow 0 131 3 (.slice a RL.length cap) RL.length (lD RL))
  (kk:∀y z j u v,TV v0 XN X k q st b4 b6 b9 (nP XN X k RL RL.length) v->GW false Q R 60 [.code tE] (sJ XN X k q st n b4 b6 b9 (.slice a RL.length cap) RL.length (iv RL.length) y z j u) v):
  ∀m i,i+m=RL.length->∀y z j u v,TV v0 XN X k q st b4 b6 b9 (nP XN X k RL i) v->GW false Q R 60 (.code tB::kB) (sJ XN X k q st n b4 b6 b9 (.slice a RL.length cap) RL.length (iv i) y z j u) v:=by
 have Y:∃F,PR.funcs[60]?=some F:=⟨_,Tryz.func60⟩;intro m;induction m with
 |zero=>
  intro i hi y z j u v I;obtain rfl:i=RL.length:=by omega
  refine GW.run 2 (k':=.inRegion (opsOf (cp [1] tB)) [0]:: .code (cp [2] tB)::kB) ?_;refine GW.h_ Y [0] ?_;refine GW.run 2 (k':=.code (.cond (.tmp 26) .skip (.exit 0)):: .code (cp [2,2] tB)::kB) ?_;refine GW.cond Y (t:=decide ((RL.length:Int)<(RL.length:Int))) trivial (by kernel_rfl) ?_;rw[decide_eq_false (by omega)];refine GW.run 1 (k':=[.code tE]) ?_;exact GW.any (fun u=>sJ XN X k q st n b4 b6 b9 _ RL.length (iv RL.length) y z j u) (by kernel_rfl) fun f=>kk _ _ _ f v I
 |succ m ih=>
  intro i hi y z j u v I;have M:i<RL.length:=by omega
  obtain⟨g,rfl⟩:∃g,a=some ⟨g,0,none⟩:=by
   rcases rows.2 with⟨_,h⟩|⟨g,cap,T,I,_⟩
   ·omega
   ·cases I;exact⟨g,rfl⟩
  obtain⟨rn,P,rm,J⟩:∃rn P rm,RL[i]?=some (rn,P,rm):=⟨RL[i].1,RL[i].2.1,RL[i].2.2,aA M⟩;have A:RL.getD i (⟨#[]⟩,⟨#[]⟩,⟨#[]⟩)=(rn,P,rm):=by simp_all
  obtain⟨⟨s1,S,s⟩,d⟩:=hR _ (dU J);simp only at s1 S s d;obtain⟨f1,f2,w⟩:=PM RL i _ J;have lg:=(rows.lt g rfl).2;have cells:∀j x,(lD RL)[j]?=some x->v.cell? ⟨g,j,none⟩=some x:=fun j x p=>by
   have:=rows.cells (g:=g) rfl j x p;rw[yf]at this;rw[<-this];simp only[aO,I.old g lg]
  refine GW.run 2 (k':=.inRegion (opsOf (cp [1] tB)) [0]:: .code (cp [2] tB)::kB) ?_;refine GW.h_ Y [0] ?_;refine GW.run 2 (k':=.code (.cond (.tmp 26) .skip (.exit 0)):: .code (cp [2,2] tB)::kB) ?_;refine GW.cond Y (t:=decide ((i:Int)<(RL.length:Int))) trivial (by kernel_rfl) ?_;rw[decide_eq_true (by omega)];refine GW.run 5 (k':=.inRegion (opsOf (cp [2,2,1,1,1] tB)) [0,1,2,3]:: .code (cp [2,2,1,1,2] tB)::kI) ?_;refine GW.ix Y (B:=g) (off:=0) (cap:=cap) M aiT agT ?_;refine GW.ld Y (y:=qT g (0+i *3)) (ae4 (by rw[bI];exact cells _ _ f1) (by rw[bI];exact cells _ _ f2) (by rw[bI];exact cells _ _ w)) ?_;refine GW.al Y ae3 fun v1 _ k1 l1 c1=>?_;refine GW.Vo Y ae2 (x:=.string rn) (y:=.string P) (z:=.string rm) c1 fun v2 c2 k2 l2=>?_;have K2:Kw v v2:=fun b hb=>(k2 b (by omega)).trans (k1 b hb);have D:=I.on K2;refine GW.run 3 (k':=.inRegion (opsOf (cp [2,2,1,1,2,1] tB)) [0,1,2,3,4,5,6]:: .code (cp [2,2,1,1,2,2] tB)::kI) ?_;refine GW.ld Y (DR D.c4) ?_;refine GW.ld Y (IF c2) ?_;refine GW.ld Y (AY D.c6) ?_;refine GW.h_ Y [3] ?_;refine GW.call Y (aa6 (XN:=XN) (rn:=rn) (rm:=rm) hX S (by omega) hk d (by rw[Zu];exact d) hq G hs W hn E (D.old.nR U) (D.old.r7 U hT)) ?_;rintro x v3 ⟨K,k3⟩;have Z:=D.on k3;rw[ac4,cU]at K;obtain⟨L,O⟩:∃L,L=pV X P rn rm k:=⟨_,rfl⟩;rw[<-O]at K;obtain⟨b,N,rfl⟩:∃b N,x=.slice b L.length N:=by
   rcases K.2 with⟨hy,h0⟩|⟨o,l,T,I,_⟩
   ·simp_all
   ·exact⟨_,_,I⟩
  have hLn:L.length<=402:=by rw[O];exact ac5 X P rn rm k hX
  have H:jH XN 0 L L.length=pK XN X k (rn,P,rm):=by rw[O];exact aa7 XN X P rn rm k
  have V:=fun r hr=>(hR r hr).1;have l9:=I.BQ.lt;refine GW.h_ Y [5,6] ?_;refine GW.run 3 (k':=.code tI:: .inLoop tI:: .inBlock 2::kI) ?_;refine GW.any (fun u=>sJ XN X k q st n b4 b6 b9 (.slice (some ⟨g,0,none⟩) RL.length cap) RL.length (iv i) (.slice b L.length N) (iv L.length) (iv 0) u) (by kernel_rfl) fun f=>?_;refine ae1 (L:=L) C U hT (by rw[O];exact ae5 X P rn rm k hX S hk (by omega) (by omega)) (by omega) (fun j p=>?_) (fun j' u2 v4 c=>?_) L.length 0 (by omega) f v3 (by rw[jH,cx];exact Z) (yj K (by omega)) (fun o e=>by have:=(K.lt o e).1;omega)
  ·have m1:=P1 XN 0 L j (L.length-j);rw[show j+(L.length-j)=L.length by omega,H]at m1;have m2:=F0 XN X k (rn,P,rm) C (by omega) ⟨s1,S,s⟩ (by omega);have m3:=GQ XN X k RL C (by omega) V (by omega) i (by omega);rw[ao];omega
  ·refine GW.run 2 (k':=.inRegion (opsOf (cp [2,2,2] tB)) [0,1]::kB) ?_;refine GW.h_ Y [0,1] ?_;refine GW.run 2 (k':=.code tB::kB) ?_;refine GW.any (fun u=>sJ XN X k q st n b4 b6 b9 (.slice (some ⟨g,0,none⟩) RL.length cap) RL.length (.int .i64 (aI.wrap (i+1))) (.slice b L.length N) (iv L.length) j' u) (by kernel_rfl) fun u3=>?_;rw[Aa (by omega)];refine ih (i+1) (by omega) _ _ _ u3 v4 ?_;have:nP XN X k RL (i+1)=nP XN X k RL i++jH XN 0 L L.length:=by rw[nP,A,H]
   rw[this];exact c
end
end Ph
end
end Go.Proofs.YtdcjnhipenbcfaaGreatDoor
