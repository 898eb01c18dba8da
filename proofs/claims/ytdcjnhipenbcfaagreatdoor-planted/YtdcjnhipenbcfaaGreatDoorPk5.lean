/-
  Own text. Part 5 of what the claim rests on.
-/
import Derived.Test.YtdcjnhipenbcfaaGreatDoorPk4
import Derived.Lib.AppendIntMem
import Derived.Deep.AppendLies
import Derived.Deep.RegionLaw
import Derived.Deep.RegionHeld3
import Derived.Conc.HoldsTime
import Derived.StillGives
import Derived.LaidLaws
import Derived.SevenTiedAt
import Derived.Maps.Range
import Derived.Conc.CompanyDraw
set_option linter.unusedVariables false
set_option linter.unusedSectionVars false
set_option linter.unusedSimpArgs false
set_option maxRecDepth 100000
set_option maxHeartbeats 16000000
open Array renaming getElem?_eq_getElem->aY,getElem?_eq_some_iff->aZ,getElem?_toList->bU,getElem?_eq_none->cu,replicate->cv,toList_extract->cw,all_eq_true->dt
open Bool renaming not_eq_true->bI,toNat_le->bK,and_eq_true->cK,or_true->cL,not_eq_false->du,true_or->dx
open ByteArray renaming size_extract->bC,data_extract->cx
open Go renaming World->ae,Value->ah,Calls->aj,cell_of_row->ao,Frame->au,maxLen->ax,undef->aH,block_lt_of_cell->aU,bodyPost->aV,wpList_append_own->aX,heap_alloc_old->bk,info_parts->bm,execOp->bq,FuncId->br,Program->bN,bodyPost_ret->bP,stepG->bT,TypeId->cj,intKeys->cm,wpOps->cn,frozen_of_row->cI,results_tmp->cJ,plainElem->dq,callsIn_wide->ey,heap_alloc2_new->ez,linearise_go_acc->eG,results_cell_row->eH
open Go.Act renaming eval->aM
open Go.Claim7 renaming isSixth->dy
open Go.Exit renaming normal->cM
open Go.Frame renaming eval_at'->bV,eval_at->cO
open Go.Instr renaming loadAt->bD,typeAssert->cP,indexAt->dz,lookup->dA
open Go.IntKind renaming i64->aN
open Go.IntWalk renaming i64_in->aO
open Go.Lib renaming byteCells->aW,join->bt,BuilderAt->bW,IsBuilder->bX,cell_of_heap->cy,decDigits->cR,frozen_of_heap->dD,strCells->dE
open Go.Lib.BuilderAt renaming put->dC
open Go.Proofs.Tryz renaming prog->ai,f92->aJ,f111->bA,underlying79->bG,underlying65->bO,func147->b_,func92->cf,ntmps147->cg,func111->db,func26->dc,func28->de,func42->dh,ntmps26->di,ntmps28->dj,ntmps42->dk,ntmps41->ei,ntmps93->ej,results41->ek,underlying131->eo,underlying133->ep,underlying25->et,underlying9->eu
open Go.Proofs.YtdcjnhipenbcfaaGreatDoor.Ph.gL renaming gN->aP,alloc->bB,pure->bQ,xO->bR
open Go.Proofs.YtdcjnhipenbcfaaGreatDoor.Ren.gL renaming tree->bH
open Go.Region renaming ready->aI,schedule->da,wanted->eh
open Go.Region.linearise renaming go->aT
open Go.RowKit renaming Below->af
open Go.RowKit.Below renaming refl->ay
open Go.Value renaming int->ck
open Go.World renaming cell?_alloc_past->bc,cell?->bg,drewN_drewN->cH,news_of_block->dp,ownsRow_nil->ew
open Int renaming eq_ofNat_of_zero_le->cQ,natCast_nonneg->dB
open List renaming length_append->ar,getD_eq_getElem?_getD->az,getElem?_eq_getElem->aK,map_append->a_,mem_append->bh,mem_map->bu,getElem?_take_of_lt->bE,range->bF,length_singleton->bL,mem_singleton->bM,getElem?_map->bY,pairwise_map->bZ,all_eq_true->cz,getElem?_eq_none->cA,getElem_mem->cB,length_cons->cC,reverse_append->cD,take_of_length_le->cE,getElem?_drop->cS,getElem?_take->cT,length_nil->cU,range_succ->cV,append_assoc->dG,append_nil->dH,countP_append->dI,drop_take->dJ,ext_getElem?->dK,extract_eq_take_drop->dL,getElem?_append_left->dM,getElem?_reverse->dO,length_map->dP,length_pos_iff->dQ,mem_flatMap->dR,mem_range->dU,pairwise_append->dV,reverse_singleton->dW,singleton_append->dX,take_length->dY
open Nat renaming le_refl->ak,le_trans->aL,zero_le->aQ,lt_of_lt_of_le->bj,lt_or_ge->bp,le_total->cG,div_le_self->cW,div_mul_le_self->cX,min_eq_left->cY,min_eq_right->cZ,mod_lt->c7,mul_add->c9,mul_comm->c_,add_assoc->dZ,div_add_mod->d_,le_antisymm->ec,mul_le_mul->ed,zero_add->ef
open Option renaming isNone_iff_eq_none->eg
namespace Go.Proofs.YtdcjnhipenbcfaaGreatDoor
noncomputable section
variable {listed:Array Bool}{a':Array ah}{fl:Bool}{X p rm rn s:ByteArray}{f1:au}{L:List ByteArray}{cs l:List au}{gP:List Nat}{xs:List ah}{Z Z' Z1:Loc->Prop}{By Fd Fp Mp Rf Sg b b' b5 b6 cap d i j n q:Nat}{X':Nat->Prop}{PP:bN}{e t:cj}{x x' y z:ah}{v' v1 w w' w0:ae}
section
open RowKit Maps
def jE(P X:ByteArray)(k q st:Nat)(t:Int)
 |0=>[]
 |b+1=>if looked P X k q st t b=true then jE P X k q st t b++[b]else jE P X k q st t b
theorem Az(P X:ByteArray)(k q st:Nat)(t:Int):∀n,(jE P X k q st t n).length<=n
 |0=>ak _
 |n+1=>by
  have:=Az P X k q st t n;simp[jE];split
  ·simp_all
  ·omega
theorem GM{P:ByteArray}{k st:Nat}{t:Int}(h:looked P X k q st t b=true):jE P X k q st t (b+1)=jE P X k q st t b++[b]:=by
 rw[jE,if_pos h]
theorem OD{P:ByteArray}{k st:Nat}{t:Int}(h:looked P X k q st t b=false):jE P X k q st t (b+1)=jE P X k q st t b:=by
 rw[jE,if_neg (by simp[h])]
def nV(z:Nat):Value:=.int .i64 (z:Int)
def ST(w:ae)(p:Nat)(k q st:Nat):Prop:=w.heap[p]?=some (.cells #[.int .i64 (k:Int),.int .i64 (q:Int),.int .i64 (st:Int)] 75 (0,0))
theorem ST.c0{p k st:Nat}(h:ST w p k q st):w.cell? ⟨p,0,none⟩=some (.int .i64 k):=by rw[ao w p 0 _ _ _ h];rfl
theorem ST.c1{p k st:Nat}(h:ST w p k q st):w.cell? ⟨p,1,none⟩=some (.int .i64 q):=by rw[ao w p 1 _ _ _ h];rfl
theorem ST.c2{p k st:Nat}(h:ST w p k q st):w.cell? ⟨p,2,none⟩=some (.int .i64 st):=by rw[ao w p 2 _ _ _ h];rfl
theorem ST.lt{p k st:Nat}(h:ST w p k q st):p<w.heap.size:=by
 have:=aU h.c0;omega
theorem ST.below{p k st B:Nat}(h:ST w p k q st)(K:af B w w')(Y:p<B):ST w' p k q st:=by unfold ST at *;rw[K.block p Y];exact h
theorem ST.new(w:ae)(k q st:Nat):ST (w.alloc (.cells #[.int .i64 k,.int .i64 q,.int .i64 st] 75)) w.heap.size k q st:=heap_alloc_new w _
theorem afu:(ai.info? 3).map (fun i=>(i.zero,i.size,i.bytes))=some (some (.int .i64 0),1,8):=by kernel_rfl
theorem C9{B:Nat}{v:ah}{xs:List _}(h:w.ownsRow B e 1 v n xs)(Y:af w.heap.size w w'):w'.ownsRow B e 1 v n xs:=
 h.kept (rZ Y none) (by cases v.ownBlock<;>simp)
theorem Yq{B:Nat}{D:DataW _}(h:tY w b n D)(K:af B w w')(Y:b<B):tY w' b n D:=by
 obtain⟨es,clock,H,r⟩:=h;exact⟨es,clock,by rw[K.block b Y];exact H,r⟩
theorem yK{B B':Nat}{v:ah}{xs:List _}(h:w.ownsRow B e 1 v n xs)(U:B'<=B):w.ownsRow B' e 1 v n xs:=by
 refine⟨h.1,?_⟩;rcases h.2 with h'|⟨g,cap,Y,K,D,H⟩
 ·simp_all
 ·exact .inr ⟨g,cap,Y,K,by omega,H⟩
theorem Np(X P:ByteArray)(k q st:Nat)(w:ae)(hX:X.size<=200)(hP:P.size<=30)(hk:k<=6)(hq:1<=q)(sW:q<=8)(hs:1<=st)(Ac:st<=200):
  aj ai 48 #[.string X,.string P,.agg #[.int .i64 (k:Int),.int .i64 (q:Int),.int .i64 (st:Int)]] w fun e w'=>
   ∃v,e=.returned v/\w'.ownsRow w.heap.size 3 1 v (jE P X k q st (ma P.size k q) (stretches X.size st)).length ((jE P X k q st (ma P.size k q) (stretches X.size st)).map nV)/\af w.heap.size w w':=by
 obtain⟨i0,hi,sZ,qX,s_⟩:=bm afu;have htl: -1000<=ma P.size k q/\ma P.size k q<=1000:=by
  unfold ma;have:=ed hk sW;omega
 have s:=laid (fun b=>Aw X.size st b hs);have hsl:stretches X.size st<=400:=by
  unfold stretches;have:=cW (X.size+st-1) st;omega
 generalize hT:ma P.size k q=t at *;have HT:=laid hT;clear hT
 go_enter Tryz.func48,Tryz.ntmps48
 go_wp2_with fail
 refine(ZM k q st P.size _ hk sW (by omega)).mono ?_;rintro e w1 ⟨rfl,d⟩;have F:=(ST.new w k q st).below d (by simp);have O:af w.heap.size w w1:=((ay _ _).alloc (ak _) _).trans (d.mono (by simp));clear d;rw[HT.out];clear HT;have c1:=F.c1;go_wp2_with fail
 refine(M_ P q _ (by omega) hq (by omega)).mono ?_;rintro e w2 ⟨rfl,⟨n1,D1,Mc,Q,G⟩,f⟩;have Z:=F.below f F.lt;have i:af w.heap.size w w2:=O.trans (f.mono O.size);have Vh:=Z.lt;have n:=Q.lt;clear f O F c1;have HCN:=laid G;clear G;generalize w1.heap.size=b1 at *;go_wp2
 go_loopw [9,10] (fun v num wr=>∃b:Nat,num=.int .i64 (b:Int)/\b<=stretches X.size st/\wr.ownsRow w2.heap.size 3 1 v (jE P X k q st t b).length ((jE P X k q st t b).map nV)/\af w2.heap.size w2 wr) (fun _ num _=>stretches X.size st-(intOf num).toNat)
 case atStart=>exact⟨0,rfl,aQ _,⟨rfl,.inl ⟨rfl,rfl⟩⟩,ay _ _⟩
 case round=>
  obtain⟨b,rfl,hb,c,C⟩:=hrel;have gF:=Z.below C Vh;have c0:=gF.c0;have c1:=gF.c1;have c2:=gF.c2;have hll:=Az P X k q st t b;have L:Hid (looked P X k q st t b=(decide (t<=0)||decide (t<=(sy P (X.extract (b *st) (py P.size X.size k st b)) q:Int)))):=laid rfl;by_cases xZ:b<stretches X.size st
  ·have N:=(s.out b).2 xZ;have y:=laid (fun W=>Yp X k q st P.size b W (by omega) hk Ac (by omega) (by omega) (by omega));obtain⟨m,M,hm⟩:∃m:Nat,b *st=m/\(b:Int) *(st:Int)=(m:Int):=⟨b *st,rfl,by simp⟩;rw[M]at N;have hS:(X.extract (b *st) (py P.size X.size k st b)).size<=1000:=by rw[bC];omega
   generalize X.extract (b *st) (py P.size X.size k st b)=S at *;clear M;go_wp2_with fail
   refine(y.out _).mono ?_;rintro e w3 ⟨rfl,l⟩;have U:=C9 c l;have Y:=C.trans (l.mono C.size);clear l y;by_cases ht0:t<=0
   ·have x:Hid (looked P X k q st t b=true):=laid (by rw[L.out,decide_eq_true ht0];rfl);clear L;go_wp2_with(first
     |(at_builtin;refine aX _ rfl _ _ 25 rfl w2.heap.size 3 i0 (.int .i64 0) 1 8 et hi sZ qX s_ rfl (by decide) _ _ _ rfl (U.alloc _) ⟨w3.heap.size,0,none⟩ 1 1 [nV b] rfl rfl ?c1 ?c2 ?c3 ?c4 ?c5 ?_)
     |go_in)
    case c1=>
     intro j u J
     match j,J with
     |0,J=>simp at J;subst J;simp[Addr.add,nV]
    case c2=>intro u hu;simp at hu;subst hu;rfl
    case c3=>unfold ax;omega
    case c4=>omega
    case c5=>have:=Y.size;simp;omega
    intro v' wz K D _;have A:af w2.heap.size w2 wz:=(Y.alloc Y.size _).grown D (by have:=Y.size;simp;omega) (fun j J=>(U.lt j J).1);have R:wz.ownsRow w2.heap.size 3 1 v' (jE P X k q st t (b+1)).length ((jE P X k q st t (b+1)).map nV):=by
     rw[GM x.out,ar,a_];exact K
    obtain⟨g,cap,n',rfl⟩:∃g cap n',v'=.slice (some ⟨g,0,none⟩) n' cap:=by
     rcases K.2 with⟨_,h0⟩|⟨g,cap,cur,hv,_⟩
     ·omega
     ·exact⟨g,cap,_,hv⟩
    clear K D;go_wp2
    go_roundw
    case rel=>go_light;exact⟨b+1,by go_num,by omega,R,A⟩
    case measure=>go_light;simp[intOf];omega
   ·have akI:=Z.below Y Vh;have d1:=akI.c1;clear c0 c1 c2;go_wp2_with fail
    refine(M_ S q _ hS hq (by omega)).mono ?_;rintro e w4 ⟨rfl,⟨n2,D2,hn2,T,z⟩,o⟩;have I:=Y.trans (o.mono Y.size);have r:=C9 U o;have V:=Yq Q I n;have E:=laid z;clear z o;go_wp2_with fail
    refine(ZK P S q b1 n1 _ n2 D1 D2 _ hq hS Mc V T HCN.out E.out).mono ?_;rintro e w5 ⟨rfl,p⟩;have H:=I.trans (p.mono I.size);have B:=C9 r p;clear p V T E;by_cases hge:t<=(sy P S q:Int)
    ·have x:Hid (looked P X k q st t b=true):=laid (by rw[L.out,decide_eq_true hge,cL]);clear L;go_wp2_with(first
      |(at_builtin;refine aX _ rfl _ _ 25 rfl w2.heap.size 3 i0 (.int .i64 0) 1 8 et hi sZ qX s_ rfl (by decide) _ _ _ rfl (B.alloc _) ⟨w5.heap.size,0,none⟩ 1 1 [nV b] rfl rfl ?c1 ?c2 ?c3 ?c4 ?c5 ?_)
      |go_in)
     case c1=>
      intro j u J
      match j,J with
      |0,J=>simp at J;subst J;simp[Addr.add,nV]
     case c2=>intro u hu;simp at hu;subst hu;rfl
     case c3=>unfold ax;omega
     case c4=>omega
     case c5=>have:=H.size;simp;omega
     intro v' wz K D _;have A:af w2.heap.size w2 wz:=(H.alloc H.size _).grown D (by have:=H.size;simp;omega) (fun j J=>(B.lt j J).1);have R:wz.ownsRow w2.heap.size 3 1 v' (jE P X k q st t (b+1)).length ((jE P X k q st t (b+1)).map nV):=by
      rw[GM x.out,ar,a_];exact K
     obtain⟨g,cap,n',rfl⟩:∃g cap n',v'=.slice (some ⟨g,0,none⟩) n' cap:=by
      rcases K.2 with⟨_,h0⟩|⟨g,cap,cur,hv,_⟩
      ·omega
      ·exact⟨g,cap,_,hv⟩
     clear K D;go_wp2
     go_roundw
     case rel=>go_light;exact⟨b+1,by go_num,by omega,R,A⟩
     case measure=>go_light;simp[intOf];omega
    ·have x:Hid (looked P X k q st t b=false):=laid (by rw[L.out,decide_eq_false (by omega),decide_eq_false (by omega)];rfl);clear L;have R:w5.ownsRow w2.heap.size 3 1 u9 (jE P X k q st t (b+1)).length ((jE P X k q st t (b+1)).map nV):=by
      rw[OD x.out];exact B
     go_wp2
     go_roundw
     case rel=>go_light;exact⟨b+1,by go_num,by omega,R,H⟩
     case measure=>go_light;simp[intOf];omega
  ·have a:b=stretches X.size st:=by omega
   have N:=fun h=>xZ ((s.out b).1 h);obtain⟨m,M,hm⟩:∃m:Nat,b *st=m/\(b:Int) *(st:Int)=(m:Int):=⟨b *st,rfl,by simp⟩;rw[M]at N;have hmb:m<=100000:=by rw[<-M];exact aL (ed (show b<=400 by omega) Ac) (by omega)
   clear M;have hms:X.size<=m:=Nat.le_of_not_lt N;have HBE:=laid a;clear N a;go_wp2
   go_ret
   exact⟨u9,rfl,by rw[<-HBE.out];exact yK c (by omega),i.trans (C.mono (by omega))⟩
end
section
open RowKit
theorem ZN(n:Nat):cR n=gV n:=by
 induction n using Nat.strongRecOn with
 |_ n Y=>
  by_cases h:n<10
  ·rw[cR,dif_pos h,tj n (by omega)];rfl
  ·rw[cR,dif_neg h,uL n (by omega),Y _ (by omega)];rfl
theorem C_(z:Nat)(w:ae)(K:z<=9999)(Y:iN w):
  aj ai 74 #[.int .i64 z] w fun e w'=>e=.returned (.string (str (gV z)))/\af w.heap.size w w':=by
 refine(Tryz.strconv_Itoa _ (by omega) (by omega) w Y).mono ?_;rintro e w' ⟨rfl,k,os,rfl⟩;rw[Lib.itoa_nonneg,ZN];exact⟨rfl,Lib.below_grow _ w (ak _) k os⟩
def j0(zs:List Nat)
 |0=>[]
 |i+1=>j0 zs i++((if i=0 then []else [44])++gV (zs.getD i 0))
theorem Ik(zs:List Nat)(Y:∀z∈zs,z<=9999):∀i,i<=zs.length->(j0 zs i).length<=5 *i
 |0,_=>by simp[j0]
 |i+1,h=>by
  have K:=Ik zs Y i (by omega);have H:=mF (zs.getD i 0) (by rw[az,aK (by omega)];simp_all);simp only[j0];rw[ar,ar];have D:(if i=0 then([]:List UInt8)else [44]).length<=1:=by split<;>decide
  omega
theorem NR{p:ah}{B:Nat}{bs:List _}(h:bW 102 5 B B p bs w)(U:af w.heap.size w w'):bW 102 5 B B p bs w':=by
 obtain⟨D,v,R,Y,K⟩:=h;have H:=Lib.BuilderAt.lt ⟨D,v,R,Y,K⟩;exact⟨D,v,by rw[U.block B H];exact R,C9 Y U,K⟩
theorem ij.below{B:Nat}{acc:List _}(h:ij B acc w)(Y:af w.heap.size w w'):ij B acc w':=
 h.imp (fun h=>NR h Y) (fun h=>NR h Y)
theorem afv(B:Nat)(acc:List _)(w:ae)(h:ij B acc w)(U:acc.length+1<=1000000):
  aj ai 73 #[.pointer (some ⟨B,0,none⟩),.int .u8 44] w fun e w'=>e=.returned .nilIface/\ij B (acc++[44]) w'/\af B w w':=by
 refine(M5 B B _ 44 w h (by simp[aW];omega) (by have:=h.lt;omega)).mono ?_;rintro e w' ⟨D,K,H⟩;have Y:aW acc++[ck .u8 44]=aW (acc++[44]):=by simp[aW]
 simp_all
theorem abv(zs:List Nat)(i:Nat)(z:Nat)(Y:zs.getD i 0=z)(K:0<i):j0 zs i++[44]++(str (gV z)).data.toList=j0 zs (i+1):=by
 rw[j0,if_neg (by omega),Y,dG];rfl
theorem ZO(zs:List Nat)(z:Nat)(Y:zs.getD 0 0=z):j0 zs 0++(str (gV z)).data.toList=j0 zs (0+1):=by
 show []++_=[]++(([])++gV _)
 rw[Y];rfl
theorem WA(zs:List Nat)(g cap:Nat)(w:ae)(E:∀z∈zs,z<=9999)(u:zs.length<=400)(M:iN w)
  (C:∀i,i<zs.length->w.cell? ⟨g,i,none⟩=some (.int .i64 ((zs.getD i 0:Nat):Int)))(W:g<w.heap.size):
  aj ai 47 #[.slice (some ⟨g,0,none⟩) zs.length cap] w fun e w'=>e=.returned (.string (str (j0 zs zs.length)))/\af w.heap.size w w':=by
 have Z:=laid C;have X:=laid E;have HT:=laid M;clear C E M
 go_enter Tryz.func47,Tryz.ntmps47
 go_wp2
 go_loopw [8] (fun iv wr=>∃i:Nat,iv=.int .i64 (i:Int)/\i<=zs.length/\ij w.heap.size (j0 zs i) wr/\af w.heap.size w wr) (fun iv _=>zs.length-(intOf iv).toNat)
 case atStart=>exact⟨0,rfl,aQ _,ij.new w,(ay _ _).alloc (ak _) _⟩
 case round=>
  obtain⟨i,rfl,q,L,K⟩:=hrel;have j:=Ik zs X.out i q;by_cases P:i<zs.length
  ·have Q:wr.cell? ⟨g,i,none⟩=some (.int .i64 ((zs.getD i 0:Nat):Int)):=by rw[K.cell (p:=⟨g,i,none⟩) W];exact Z.out i P
   have F:zs.getD i 0<=9999:=by rw[az,aK P];exact X.out _ (cB _)
   have S:=mF _ F;obtain⟨z,N⟩:∃z,zs.getD i 0=z:=⟨_,rfl⟩;rw[N]at Q F S;have O:=laid N;clear N;by_cases G:0<i
   ·go_wp2_with fail
    refine(afv _ _ _ L (by omega)).mono ?_;rintro e w1 ⟨rfl,J,B⟩;have Y:=K.trans B;clear B;go_wp2_with fail
    refine(C_ z _ F (HT.out.on Y)).mono ?_;rintro e w2 ⟨rfl,R⟩;have H:=J.below R;have I:=Y.trans (R.mono Y.size);clear R J;go_wp2_with fail
    refine(yI _ _ (str (gV z)) _ H (by rw[ar,ia];simp;omega)).mono ?_;rintro e w3 ⟨rfl,D,U⟩;have A:=I.trans U;rw[abv zs i z O.out G]at D;clear U H;go_wp2
    go_roundw
    case rel=>go_light;exact⟨i+1,by go_num,by omega,D,A⟩
    case measure=>go_light;simp[intOf];omega
   ·have T:i=0:=by omega
    subst T;go_wp2_with fail
    refine(C_ z _ F (HT.out.on K)).mono ?_;rintro e w2 ⟨rfl,R⟩;have H:=L.below R;have I:=K.trans (R.mono K.size);clear R;go_wp2_with fail
    refine(yI _ _ (str (gV z)) _ H (by rw[ia];omega)).mono ?_;rintro e w3 ⟨rfl,D,U⟩;have A:=I.trans U;rw[ZO zs z O.out]at D;clear U H;go_wp2
    go_roundw
    case rel=>go_light;exact⟨0+1,by go_num,by omega,D,A⟩
    case measure=>go_light;simp[intOf];omega
  ·have V:i=zs.length:=by omega
   subst V;go_wp2_with fail
   refine(yA _ _ _ L).mono ?_;rintro e w1 ⟨rfl,B⟩;have Y:=K.trans B;go_wp2
   go_ret
   exact⟨rfl,Y⟩
theorem WB(w:ae):
  aj ai 47 #[.slice none 0 0] w fun e w'=>e=.returned (.string (str []))/\af w.heap.size w w':=by
 go_wp2
 go_loopw [8] (fun iv wr=>iv=.int _ 0/\ij _ [] wr/\af _ w wr) (fun iv _=>0)
 case atStart=>exact⟨rfl,ij.new w,(ay _ _).alloc (ak _) _⟩
 case round=>
  obtain⟨rfl,D,K⟩:=hrel;go_wp2_with fail
  refine(yA _ _ _ D).mono ?_;rintro e w1 ⟨rfl,H⟩;have Y:=K.trans H;go_wp2
  go_ret
  exact⟨rfl,Y⟩
theorem WQ(zs:List Nat)(v:ah)(B:Nat)(w:ae)(Y:w.ownsRow B 3 1 v zs.length (zs.map nV))(F:∀z∈zs,z<=9999)(C:zs.length<=400)(K:iN w):
  aj ai 47 #[v] w fun e w'=>e=.returned (.string (str (j0 zs zs.length)))/\af w.heap.size w w':=by
 rcases Y.2 with⟨rfl,H⟩|⟨g,cap,D,rfl,J,L,R,I,A,U⟩
 ·rw[H];exact WB w
 ·refine WA zs g cap w F C K (fun i M=>?_) ?_
  ·have h:=(Y.cells (g:=g) rfl) i (nV (zs.getD i 0)) (by simp_all);have e:(⟨g,0,none⟩:Addr).add i=⟨g,i,none⟩:=by
    by_cases H:i=0
    ·simp[Addr.add]
    ·simp[Addr.add,H]
   rw[e]at h;exact h
  ·rcases bp g w.heap.size with h'|h'
   ·exact h'
   ·simp_all
theorem Qu(B:Nat)(acc:List _)(c:UInt8)(w:ae)(h:ij B acc w)(U:acc.length+1<=1000000):
  aj ai 73 #[.pointer (some ⟨B,0,none⟩),.int .u8 c.toNat] w fun e w'=>e=.returned .nilIface/\ij B (acc++[c]) w'/\af B w w':=by
 refine(M5 B B _ _ w h (by simp[aW];omega) (by have:=h.lt;omega)).mono ?_;rintro e w' ⟨D,K,H⟩;have Y:aW acc++[ck .u8 c.toNat]=aW (acc++[c]):=by simp[aW]
 simp_all
theorem yR(x:Int)(z:Nat)(K:x=z)(w:ae)(H:z<=9999)(Y:iN w):
  aj ai 74 #[.int .i64 x] w fun e w'=>e=.returned (.string (str (gV z)))/\af w.heap.size w w':=by subst K;exact C_ z w H Y
theorem ZP(s:ByteArray)(w:ae)(hs:s.size<=1000)(S:iN w):
  aj ai 127 #[.string s] w fun e w'=>e=.returned (.string (str (nG s)))/\af w.heap.size w w':=by
 have HT:=laid S;clear S
 go_enter Tryz.func127,Tryz.ntmps127
 go_wp2
 go_loopw [4,8] (fun k iv wr=>∃i:Nat,k=.int .i64 ((iS s i).2:Int)/\iv=.int .i64 (i:Int)/\i<=s.size/\ij w.heap.size (iS s i).1 wr/\af w.heap.size w wr) (fun _ iv _=>s.size-(intOf iv).toNat)
 case atStart=>exact⟨0,rfl,rfl,aQ _,ij.new w,(ay _ _).alloc (ak _) _⟩
 case round=>
  obtain⟨i,rfl,rfl,b,J,H⟩:=hrel;have Z:=IG s i (by omega);by_cases o:i<s.size
  ·have m:(i:Int)<(s.size:Int):=by omega
   have y:(0:Int)<=(i:Int):=by omega
   have v:=mn s i o;have d:=laid (@adh s i);have c:=laid (@afp s i);have x:=mF ((iS s i).2+1) (by omega);have x1:aN.wrap ((i:Int)+1)=(i:Int)+1:=aO _ (by omega);have x2:aN.wrap (((iS s i).2:Int)+1)=((iS s i).2:Int)+1:=aO _ (by omega);have E:Hid (∀W:ae,af w.heap.size w W->aj ai 74 #[.int .i64 (((iS s i).2:Int)+1)] W fun e w'=>e=.returned (.string (str (gV ((iS s i).2+1))))/\af W.heap.size W w'):=laid (fun W u=>yR _ ((iS s i).2+1) (by omega) W (by omega) (HT.out.on u));have t:(iS s i).2<=1000:=by omega
   have hO:(iS s i).1.length<=5000:=by omega
   generalize(iS s i).1=O at *;generalize(iS s i).2=n at *;by_cases K:i+1=s.size\/at8 s (i+1)≠at8 s i
   ·have T:=laid (d.out K);clear d c Z;have X:((i:Int)+1==(s.size:Int))=true\/(((i:Int)+1==(s.size:Int))=false/\i+1<s.size/\(((at8 s (i+1)).toNat:Int) != ((at8 s i).toNat:Int))=true):=by
     by_cases N:i+1=s.size
     ·left;simp;omega
     ·right;refine⟨by simp;omega,by omega,?_⟩;rcases K with h|h
      ·exact absurd h N
      ·exact toNat_ne h
    clear K;rcases X with q|⟨q,P,a⟩
    ·go_wp2_with fail
     go_quiet(fail)
     have D:=J.drewN nq;have Y:=Go.below_drewN H nq;go_wp2_with fail
     refine(E.out _ Y).mono ?_;rintro e w2 ⟨rfl,U⟩;have R:=D.below U;have B:=Y.trans (U.mono Y.size);clear U J H D Y E;go_wp2_with fail
     refine(yI _ _ (str (gV (n+1))) _ R (by rw[ia];omega)).mono ?_;rintro e w3 ⟨rfl,I,L⟩;have C:=B.trans L;clear L R;go_wp2_with fail
     refine(Qu _ _ (at8 s i) _ I (by rw[ar];show _+(gV (n+1)).length+1<=_;omega)).mono ?_;rintro e w4 ⟨rfl,A,M⟩;have F:=C.trans M;have Q:=laid A;clear M I A;go_wp2
     go_roundw
     case rel=>go_light;exact⟨i+1,jb (by rw[T.out];rfl),by go_num,by omega,by rw[T.out];exact Q.out,F⟩
     case measure=>go_light;simp[intOf];omega
    ·have g:(i:Int)+1<(s.size:Int):=by omega
     have l:(0:Int)<=(i:Int)+1:=by omega
     have G:=mn s (i+1) P;go_wp2_with fail
     go_quiet(fail)
     have D:=J.drewN nq;have Y:=Go.below_drewN H nq;go_wp2_with fail
     refine(E.out _ Y).mono ?_;rintro e w2 ⟨rfl,U⟩;have R:=D.below U;have B:=Y.trans (U.mono Y.size);clear U J H D Y E;go_wp2_with fail
     refine(yI _ _ (str (gV (n+1))) _ R (by rw[ia];omega)).mono ?_;rintro e w3 ⟨rfl,I,L⟩;have C:=B.trans L;clear L R;go_wp2_with fail
     refine(Qu _ _ (at8 s i) _ I (by rw[ar];show _+(gV (n+1)).length+1<=_;omega)).mono ?_;rintro e w4 ⟨rfl,A,M⟩;have F:=C.trans M;have Q:=laid A;clear M I A;go_wp2
     go_roundw
     case rel=>go_light;exact⟨i+1,jb (by rw[T.out];rfl),by go_num,by omega,by rw[T.out];exact Q.out,F⟩
     case measure=>go_light;simp[intOf];omega
   ·have T:=laid (c.out K);have N:i+1≠s.size:=fun h=>K (.inl h);have z:at8 s (i+1)=at8 s i:=Classical.byContradiction fun h=>K (.inr h);have q:((i:Int)+1==(s.size:Int))=false:=by simp;omega
    have P:i+1<s.size:=by omega
    have g:(i:Int)+1<(s.size:Int):=by omega
    have l:(0:Int)<=(i:Int)+1:=by omega
    have G:=mn s (i+1) P;have a:=toNat_eq z;have p:=laid J;clear d c N z K Z E;go_wp2_with fail
    go_quiet(fail)
    have Y:=Go.below_drewN H nq;go_wp2
    go_roundw
    case rel=>go_light;exact⟨i+1,jb (by rw[T.out];simp),by go_num,by omega,by rw[T.out];exact p.out.drewN _,Y⟩
    case measure=>go_light;simp[intOf];omega
  ·have j:i=s.size:=by omega
   have r:Hid (str (iS s i).1=str (nG s)):=laid (by unfold nG;rw[j]);clear j Z;generalize(iS s i).1=O at *;generalize(iS s i).2=n at *;go_wp2_with fail
   refine(yA _ _ _ J).mono ?_;rintro e w1 ⟨rfl,f⟩;have V:=H.trans f;go_wp2
   go_ret
   exact⟨QQ r.out,V⟩
def Kp(b:Nat)(w w':ae):Prop:=∀(x:Nat) (c:Array ah) (T:cj) (fz:Nat×Nat),x≠b->T≠5->w.heap[x]?=some (.cells c T fz)->w'.heap[x]?=some (.cells c T fz)
theorem Kp.refl(b:Nat)(w:ae):Kp b w w:=fun _ _ _ _ _ _ h=>h
theorem Kp.trans{b:Nat}{w w' zM:ae}(h:Kp b w w')(k:Kp b w' zM):Kp b w zM:=fun x c T fz Y K H=>k x c T fz Y K (h x c T fz Y K H)
theorem Kp.uP(h:af w.heap.size w w'):Kp b w w':=fun x c T fz H D Y=>by
 have K:=(aZ.1 Y).1;rw[h.block x K];exact Y
theorem Kp.put(b k:Nat)(v:ah)(w:ae):Kp b w (w.setCell ⟨b,k,none⟩ v):=fun x c T fz Y D K=>by
 have H:=(aZ.1 K).1;have:=(oZ w b k v).block x H (fun e=>Y (by simp_all));simp_all
theorem Kp.alloc(b:Nat)(w:ae)(o:Obj):Kp b w (w.alloc o):=fun x c T fz H D Y=>by
 have K:=(aZ.1 Y).1;rw[bk w _ K];exact Y
theorem Kp.row{B:Nat}{v:ah}{xs:List _}(D:w.ownsRow B 5 1 v n xs)(h:w.grownBy w' v.ownBlock):Kp b w w':=fun x c T fz R K Y=>by
 have H:=(aZ.1 Y).1;rw[h.block x H (fun e=>yv D Y K e.symm)];exact Y
theorem NS(B b:Nat)(bs:List _)(w:ae)(h:bX 102 5 B b bs w):
  aj ai 96 #[.pointer (some ⟨b,0,none⟩)] w fun e w'=>e=.returned (.tuple #[])/\bW 102 5 B b (.pointer (some ⟨b,0,none⟩)) bs w'/\af B w w'/\Kp b w w':=by
 rcases h with h|h
 ·refine(MN b w h.cell0 h.shape h.frozen0).mono ?_;rintro e w' ⟨rfl,rfl⟩;exact⟨rfl,h.used _,(ay B w).setCell h.1 _,Kp.put b 0 _ w⟩
 ·refine(MR b w h.cell0).mono ?_;rintro e w' ⟨rfl,rfl⟩;exact⟨rfl,h,ay B _,Kp.refl b _⟩
theorem Xe(B b:Nat)(bs:List ah)(s:ByteArray)(w:ae)(h:bX 102 5 B b bs w)(S:bs.length+s.size<=1000000000)(V:B<=w.heap.size):
  aj ai 63 #[.pointer (some ⟨b,0,none⟩),.string s] w fun e w'=>e=.returned (.tuple #[.int .i64 (s.size:Int),.nilIface])/\bX 102 5 B b (bs++dE s) w'/\af B w w'/\Kp b w w':=by
 obtain⟨i0,X,J,L,M⟩:=bm Em
 go_enter Tryz.func63,Tryz.ntmps63
 go_wp2_with(go_at_call 96;refine(NS B b bs _ h).mono ?_)
 rintro e w1 ⟨rfl,⟨O,v,I,K,C⟩,D,A⟩;have c1:w1.cell? ⟨b,1,none⟩=some v:=by rw[cy I];rfl
 go_wp2_with(at_builtin;refine Lib.wpList_append_own_string _ rfl _ _ 79 9 rfl B 5 i0 bG eu X J L M _ _ _ rfl K s rfl ?c3 ?c4 ?c5 ?_)
 case c3=>unfold ax;omega
 case c4=>omega
 case c5=>have:=D.size;omega
 intro v' w2 H Y _;have U:b<w1.heap.size:=by
  rcases bp b w1.heap.size with h'|h'
  ·exact h'
  ·simp[cu h']at I
 have R:w2.heap[b]?=some (.cells #[.pointer (some ⟨b,0,none⟩),v] 102 (0,0)):=by
  rw[Y.block b U (fun e=>C e.symm)];exact I
 have d1:w2.cell? ⟨b,1,none⟩=some v:=by rw[cy R];rfl
 have f1:w2.frozen? ⟨b,1,none⟩=false:=dD R 1;obtain⟨N,P,cap,rfl⟩:∃N P cap,v'=.slice N P cap:=by
  rcases H.2 with⟨F,_⟩|⟨g,cap,Q,F,_⟩
  ·exact⟨_,_,_,F⟩
  ·exact⟨_,_,_,F⟩
 go_wp2
 go_ret2
 refine⟨rfl,.inr ?_,?_,?_⟩
 ·exact dC (T:=102) (e:=5) O R (bs':=bs++dE s) (by simpa[Lib.strCells_length]using H) FZ
 ·exact(D.grown Y (by have:=D.size;omega) (fun k hk=>(K.lt k hk).1)).setCell (p:=⟨b,1,none⟩) O _
 ·exact(A.trans (Kp.row K Y)).trans (Kp.put b 1 _ w2)
theorem Yr(B b:Nat)(bs:List ah)(c:Int)(w:ae)(h:bX 102 5 B b bs w)(O:bs.length+1<=1000000000)(S:B<=w.heap.size):
  aj ai 73 #[.pointer (some ⟨b,0,none⟩),.int .u8 c] w fun e w'=>e=.returned .nilIface/\bX 102 5 B b (bs++[.int .u8 c]) w'/\af B w w'/\Kp b w w':=by
 obtain⟨i0,V,J,L,M⟩:=bm Em
 go_enter Tryz.func73,Tryz.ntmps73
 go_wp2_with(go_at_call 96;refine(NS B b bs _ h).mono ?_)
 rintro e w1 ⟨rfl,⟨N,v,I,K,F⟩,D,U⟩;have c1:w1.cell? ⟨b,1,none⟩=some v:=by rw[cy I];rfl
 go_wp2_with(at_builtin;refine aX _ rfl _ _ 79 rfl B 5 i0 (.int .u8 0) 1 1 bG V J L M rfl (by decide) _ _ _ rfl (K.alloc _) ⟨w1.heap.size,0,none⟩ 1 1 [.int .u8 c] rfl rfl ?c1 ?c2 ?c3 ?c4 ?c5 ?_)
 case c1=>
  intro j u A
  match j,A with
  |0,A=>simp at A;subst A;simp[Addr.add]
 case c2=>intro u P;simp at P;subst P;rfl
 case c3=>unfold ax;omega
 case c4=>omega
 case c5=>have:=D.size;simp;omega
 intro v' w2 H Y _;have C:b<w1.heap.size:=by
  rcases bp b w1.heap.size with h'|h'
  ·exact h'
  ·simp[cu h']at I
 have R:w2.heap[b]?=some (.cells #[.pointer (some ⟨b,0,none⟩),v] 102 (0,0)):=by
  rw[Y.block b (by simp;omega) (fun e=>F e.symm),Lib.alloc_old w1 _ b C];exact I
 have d1:w2.cell? ⟨b,1,none⟩=some v:=by rw[cy R];rfl
 have f1:w2.frozen? ⟨b,1,none⟩=false:=dD R 1;obtain⟨g,cap,rfl⟩:∃g cap,v'=.slice (some ⟨g,0,none⟩) (bs.length+1) cap:=by
  rcases H.2 with⟨_,Z⟩|⟨g,cap,Q,X,_⟩
  ·omega
  ·exact⟨g,cap,X⟩
 go_wp2
 go_ret
 refine⟨rfl,.inr ?_,?_,?_⟩
 ·exact dC (T:=102) (e:=5) N R (bs':=bs++[.int .u8 c]) (by simpa using H) FZ
 ·exact((D.alloc (by have:=D.size;omega) _).grown Y (by have:=D.size;simp;omega) (fun k hk=>(K.lt k hk).1)).setCell (p:=⟨b,1,none⟩) N _
 ·exact((U.trans (Kp.alloc b w1 _)).trans (Kp.row (K.alloc _) Y)).trans (Kp.put b 1 _ w2)
theorem Pm(B:Nat)(acc:List _)(x:ByteArray)(w:ae)(h:ij B acc w)(U:acc.length+x.size<=1000000000):
  aj ai 63 #[.pointer (some ⟨B,0,none⟩),.string x] w fun e w'=>e=.returned (.tuple #[.int .i64 x.size,.nilIface])/\ij B (acc++x.data.toList) w'/\af B w w'/\Kp B w w':=by
 refine(Xe B B _ x w h (by simp[aW];omega) (by have:=h.lt;omega)).mono ?_;rintro e w' ⟨D,Y,K,H⟩;rw[Pb]at Y;simp_all
theorem xa(B:Nat)(acc:List _)(c:UInt8)(w:ae)(h:ij B acc w)(U:acc.length+1<=1000000000):
  aj ai 73 #[.pointer (some ⟨B,0,none⟩),.int .u8 c.toNat] w fun e w'=>e=.returned .nilIface/\ij B (acc++[c]) w'/\af B w w'/\Kp B w w':=by
 refine(Yr B B _ _ w h (by simp[aW];omega) (by have:=h.lt;omega)).mono ?_;rintro e w' ⟨R,K,H,D⟩;have Y:aW acc++[ck .u8 c.toNat]=aW (acc++[c]):=by simp[aW]
 simp_all
def nk(xs:List ByteArray):=bt (xs.map (·.data.toList)) [9]
def Vi(x:ByteArray):Value:=.string x
theorem Gp(B V:Nat)(acc:List UInt8)(xs:List ByteArray)(v:ah)(w:ae)(H:ij B acc w)(Y:w.ownsRow V 9 1 v xs.length (xs.map Vi))(m:1<=xs.length)(hn:xs.length<=100)(u:acc.length+(nk xs).length+1<=1000000000):
  aj ai 91 #[.pointer (some ⟨B,0,none⟩),v] w fun e w'=>e=.returned (.tuple #[])/\ij B (acc++nk xs++[10]) w'/\af B w w'/\Kp B w w':=by
 rcases Y.2 with⟨_,z⟩|⟨g,cap,Z,rfl,G,C,L,W,M,N⟩
 ·omega
 have T:Hid (aj ai 110 _ w fun e w'=>e=.returned (.string (str (nk xs)))/\af w.heap.size w w'):=laid (by
  refine(Tryz.strings_Join g 0 cap xs ⟨#[9]⟩ w (fun j x q=>?_) (aZ.1 C).1 (by omega) L (by unfold nk at u;show(bt _ [9]).length<=_;omega)).mono ?_
  ·have h:=(Y.cells (g:=g) rfl) j (Vi x) (by rw[bY,q];rfl);rw[yG]at h;rw[ef];exact h
  ·rintro e w' ⟨rfl,E⟩;exact⟨rfl,E⟩)
 clear Y C M N
 go_enter Tryz.func91,Tryz.ntmps91
 go_wp2_with fail
 refine T.out.mono ?_;rintro e w1 ⟨rfl,K⟩;have I:=H.below K;have O:Kp B w w1:=Kp.uP K;have D:af B w w1:=K.mono (by have:=H.lt;omega);clear K T H;go_wp2_with fail
 refine(Pm _ _ (str (nk xs)) _ I (by rw[ia];omega)).mono ?_;rintro e w2 ⟨rfl,A,F,P⟩;have Q:=O.trans P;have R:=D.trans F;go_wp2_with fail
 refine(xa _ _ 10 _ A (by rw[ar];show _+(nk xs).length+1<=_;omega)).mono ?_;rintro e w3 ⟨rfl,U,J,S⟩;have X:Hid (ij B (acc++nk xs++[10]) w3/\af B w w3/\Kp B w w3):=laid ⟨U,R.trans J,Q.trans S⟩;go_wp2
 go_end0
 exact⟨rfl,X.out⟩
theorem Rr:(ai.info? 9).map (fun i=>(i.zero,i.size,i.bytes))=some (some (.string ⟨#[]⟩),1,16):=by kernel_rfl
theorem Qv:∀l m,(∀x∈l,x.length<=m)->(bt l [9]).length<=l.length *(m+1)
 |[],m,_=>by simp[bt]
 |[a],m,h=>by have:=h a (by simp);simp[bt];omega
 |a::b::l,m,h=>by
  have K:=h a (by simp);have H:=Qv (b::l) m (fun x Y=>h x (by simp[Y]));have e:bt (a::b::l) [9]=a++([9]++bt (b::l) [9]):=by simp[bt]
  rw[e,ar,ar];simp at *;rw[Nat.add_mul _ 1 _];omega
theorem Rs(xs:List _)(m:Nat)(h:∀x∈xs,x.size<=m):(nk xs).length<=xs.length *(m+1):=by
 have:=Qv _ m (fun x Y=>by
  rw[bu]at Y;obtain⟨y,K,rfl⟩:=Y;exact h y K)
 rw[dP]at this;exact this
def sj(rn rb rm:ByteArray):Value:=.agg #[.string rn,.string rb,.string rm]
structure Pl where
 rn:ByteArray
 rb:ByteArray
 rm:ByteArray
 fl:Bool
 st:Nat
 er:Nat
 lt:ByteArray
 df:ByteArray
def Pl.val(p:Pl):Value:=.agg #[.string p.rn,.string p.rb,.string p.rm,.bool p.fl,.int .i64 (p.st:Int),.int .i64 (p.er:Int),.string p.lt,.string p.df]
def vj(fl first:Bool):=(if fl then 16 else 0)+(if first then 0 else 256)
theorem abw(p:Pl)(w:ae):
  aj ai 241 #[p.val] w fun e w'=>e=.returned (sj p.rn p.rb p.rm)/\af w.heap.size w w':=by
 unfold Pl.val sj;obtain⟨rn,rb,rm,fl,st,er,lt,df⟩:=p;simp only;go_wp2
 refine bP (eH rfl _ _ _ _ _ _ _ rfl (ez _ _ _) eo rfl Jh) rfl ?_;exact⟨rfl,((ay _ _).alloc (ak _) _).alloc (by simp) _⟩
theorem abx(p:Pl)(first:Bool)(w:ae):
  aj ai 240 #[p.val,.bool first] w fun e w'=>e=.returned (.int .i64 (vj p.fl first:Int))/\af w.heap.size w w':=by
 unfold Pl.val;obtain⟨rn,rb,rm,fl,st,er,lt,df⟩:=p;simp only;cases fl<;>cases first
 all_goals
  go_wp2
  go_ret
  exact⟨rfl,(ay _ _).alloc (ak _) _⟩
theorem aby(rn rb rm:ByteArray)(w:ae):
  aj ai 239 #[sj rn rb rm] w fun e w'=>e=.returned (sj rn rb rm)/\af w.heap.size w w':=by
 unfold sj;go_wp2
 refine bP (eH rfl _ _ _ _ _ _ _ rfl (ez _ _ _) eo rfl Jh) rfl ?_;exact⟨rfl,((ay _ _).alloc (ak _) _).alloc (by simp) _⟩
theorem abz(rn rb rm:ByteArray)(first:Bool)(w:ae):
  aj ai 238 #[sj rn rb rm,.bool first] w fun e w'=>e=.returned (.int .i64 4)/\af w.heap.size w w':=by
 go_wp2
 go_ret
 exact⟨rfl,(ay _ _).alloc (ak _) _⟩
theorem abA(a b c:ByteArray)(w:ae):(cP (.iface 155 (.agg #[.string a,.string b,.string c])) 136 158 true).run ai w=.ok (.tuple #[.agg #[.string ⟨#[]⟩,.string ⟨#[]⟩,.string ⟨#[]⟩,.bool false,.int .i64 0,.int .i64 0,.string ⟨#[]⟩,.string ⟨#[]⟩],.bool false]) w:=by kernel_rfl
theorem abB(a b c:ByteArray)(w:ae):(cP (.iface 155 (.agg #[.string a,.string b,.string c])) 136 155 true).run ai w=.ok (.tuple #[.agg #[.string a,.string b,.string c],.bool true]) w:=by kernel_rfl
theorem abC(p:Pl)(w:ae):(cP (.iface 158 p.val) 136 158 true).run ai w=.ok (.tuple #[p.val,.bool true]) w:=by kernel_rfl
theorem Wq(B:Nat)(acc:List UInt8)(XN rn rb rm:ByteArray)(first:Bool)(w:ae)(m:ij B acc w)(h1:rn.size<=1000)(h2:rb.size<=1000)(h3:rm.size<=1000)(hl:acc.length<=500000000)(E:iN w):
  aj ai 93 #[.pointer (some ⟨B,0,none⟩),.string XN,.iface 155 (sj rn rb rm),.bool first] w fun e w'=>e=.returned (.tuple #[])/\ij B (acc++nk [rn,str (gV 4),str [42],str [48],str [42],str [45],str [45],rb,rm]++[10]) w'/\af B w w'/\Kp B w w':=by
 have HT:=laid E;have o:=laid (fun W:ae=>abz rn rb rm first W);have s:=laid (aby rn rb rm w);clear E;unfold sj at *
 go_enter Tryz.func93,ej
 go_wp2_with fail
 refine s.out.mono ?_;rintro e w1 ⟨rfl,L⟩;have M:=m.below L;have a:Kp B w w1:=Kp.uP L;have N:af B w w1:=L.mono (by have:=m.lt;omega);have v:=laid (HT.out.on L);clear L s m HT;go_wp2_with fail
 obtain⟨i0,hi,sZ,qX,s_⟩:=bm Rr;obtain⟨w2,Q,rS,t,T,V,O,k,y⟩:∃(w2:ae) (Q:Nat),w1.alloc (.cells #[.string rn,.string rb,.string rm] 131)=w2/\w1.heap.size=Q/\w2.heap[Q]?=some (.cells #[.string rn,.string rb,.string rm] 131 (0,0))/\ij B acc w2/\af B w w2/\Kp B w w2/\iN w2:=by
  have hb:af w1.heap.size w1 (w1.alloc (.cells #[.string rn,.string rb,.string rm] 131)):=(ay _ _).alloc (ak _) _;exact⟨_,_,rfl,rfl,heap_alloc_new w1 _,M.below hb,N.trans (hb.mono (by have:=M.lt;omega)),a.trans (Kp.uP hb),v.out.on hb⟩
 rw[rS,t];clear rS t M N a v;have a0:w2.cell? ⟨Q,0,none⟩=some (.string rn):=by rw[ao w2 _ 0 _ _ _ T];rfl
 have Me:Q<w2.heap.size:=(aZ.1 T).1;have r:=laid T;have q:=laid V;have c:Hid (∀W:ae,af w2.drew.heap.size w2.drew W->aj ai 74 #[.int .i64 4] W fun e w'=>e=.returned (.string (str (gV 4)))/\af W.heap.size W w'):=laid fun W n=>yR 4 4 rfl W (by omega) (y.on (w':=W) ⟨n.os,n.tape,n.output,n.size,n.block⟩);obtain⟨G,d⟩:∃D,D=str (gV 4):=⟨_,rfl⟩;rw[<-d]at c;have z:=laid d;clear d T V y
 go_region_held3 (fun w'=>w'.cell? ⟨Q,0,none⟩=some (.string rn))
  (first
   |go_keep
   |(rw[S.cell (by have:=K.size;simp at this⊢;omega),K.cell (by first|omega|(simp;omega))];assumption)
   |(rw[K.cell (by first|omega|(simp;omega))];assumption))
  (first
   |(go_at_call 238;refine(o.out _).mono ?_;rintro e w' ⟨rfl,K⟩)
   |(go_at_call 74;refine(c.out _ K).mono ?_;rintro e F ⟨rfl,S⟩))
 have A:af w2.heap.size w2 (F.alloc (.cells #[.string rn,.string G] 9)):=by
  have h1:af w2.heap.size w2 w':=⟨K.os,K.tape,K.output,K.size,K.block⟩;have h2:=h1.trans (S.mono h1.size);exact h2.alloc h2.size _
 have R:(F.alloc (.cells #[.string rn,.string G] 9)).ownsRow w2.heap.size 9 1 (.slice (some ⟨F.heap.size,0,none⟩) 2 2) 2 [.string rn,.string G]:=
  ⟨rfl,.inr ⟨F.heap.size,2,_,rfl,by have h1:=K.size;have h2:=S.size;simp at h1;omega,heap_alloc_new F _,ak _,by unfold ax;omega,rfl,rfl⟩⟩
 obtain⟨w4,uu⟩:∃w4:ae,F.alloc (.cells #[.string rn,.string G] 9)=w4:=⟨_,rfl⟩;rw[uu]at A R⊢;generalize F.heap.size=g4 at *;clear uu K S c o;have f:w2.heap.size<=w4.heap.size:=A.size;have q1:=abA rn rb rm;have q2:=abB rn rb rm;clear a0;go_wp2_with(first
  |(at_builtin;refine aX _ rfl _ _ 65 rfl w2.heap.size 9 i0 (.string ⟨#[]⟩) 1 16 bO hi sZ qX s_ rfl (by decide) _ _ _ rfl ((R.alloc _).alloc _) ⟨w4.heap.size+1,0,none⟩ 5 5 [.string ⟨#[42]⟩,.string ⟨#[48]⟩,.string ⟨#[42]⟩,.string ⟨#[45]⟩,.string ⟨#[45]⟩] rfl rfl ?c1 ?c2 ?c3 ?c4 ?c5 ?_)
  |go_in)
 case c1=>
  intro j u Y
  match j,Y with
  |0,Y=>simp at Y;subst Y;simp[Addr.add,go_sem]
  |1,Y=>simp at Y;subst Y;simp[Addr.add,go_sem]
  |2,Y=>simp at Y;subst Y;simp[Addr.add,go_sem]
  |3,Y=>simp at Y;subst Y;simp[Addr.add,go_sem]
  |4,Y=>simp at Y;subst Y;simp[Addr.add,go_sem]
 case c2=>intro u hu;simp at hu;rcases hu with rfl|rfl|rfl|rfl|rfl<;>rfl
 case c3=>unfold ax;omega
 case c4=>omega
 case c5=>simp;omega
 intro v5 Z I H _;have U:af w2.heap.size w2 Z:=((A.alloc A.size _).alloc (by simp;omega) _).grown H (by simp;omega) (fun j Y=>(R.lt j Y).1);obtain⟨g5,EM,rfl⟩:∃g cap,v5=.slice (some ⟨g,0,none⟩) 7 cap:=by
  rcases I.2 with⟨_,h0⟩|⟨gg,cap,cur,hv,_⟩
  ·omega
  ·exact⟨gg,cap,hv⟩
 clear H R A q1 q2 f;have P:Z.heap[Q]?=some (.cells #[.string rn,.string rb,.string rm] 131 (0,0)):=by rw[U.block Q Me];exact r.out
 have a1:Z.cell? ⟨Q,1,none⟩=some (.string rb):=by rw[ao Z _ 1 _ _ _ P];rfl
 have a2:Z.cell? ⟨Q,2,none⟩=some (.string rm):=by rw[ao Z _ 2 _ _ _ P];rfl
 have f:w2.heap.size<=Z.heap.size:=U.size;clear P r;go_wp2_with(first
  |(at_builtin;refine aX _ rfl _ _ 65 rfl w2.heap.size 9 i0 (.string ⟨#[]⟩) 1 16 bO hi sZ qX s_ rfl (by decide) _ _ _ rfl (I.alloc _) ⟨Z.heap.size,0,none⟩ 2 2 [.string rb,.string rm] rfl rfl ?c1 ?c2 ?c3 ?c4 ?c5 ?_)
  |go_in)
 case c1=>
  intro j u Y
  match j,Y with
  |0,Y=>simp at Y;subst Y;simp[Addr.add,go_sem]
  |1,Y=>simp at Y;subst Y;simp[Addr.add,go_sem]
 case c2=>intro u hu;simp at hu;rcases hu with rfl|rfl<;>rfl
 case c3=>unfold ax;omega
 case c4=>omega
 case c5=>simp;omega
 intro v6 w6 C H _;have J:af w2.heap.size w2 w6:=(U.alloc U.size _).grown H (by simp;omega) (fun j Y=>(I.lt j Y).1);obtain⟨g6,aps,rfl⟩:∃g cap,v6=.slice (some ⟨g,0,none⟩) 9 cap:=by
  rcases C.2 with⟨_,h0⟩|⟨gg,cap,cur,hv,_⟩
  ·omega
  ·exact⟨gg,cap,hv⟩
 have HW:=laid (Gp B w2.heap.size acc [rn,G,str [42],str [48],str [42],str [45],str [45],rb,rm] _ w6 (q.out.below J) C (by simp) (by simp) (by
  have h:=Rs [rn,G,str [42],str [48],str [42],str [45],str [45],rb,rm] 1000 (fun x hx=>by
   have hd:=mF 4 (by omega);have hd4:G.size<=1000:=by rw[z.out,ia];omega
   simp at hx;rcases hx with rfl|rfl|rfl|rfl|rfl|rfl|rfl|rfl|rfl<;>first|assumption|(rw[ia];simp))
  simp at h;omega))
 have l:=laid (O.trans (J.mono (by have:=q.out.lt;omega)));have p:=laid (k.trans (Kp.uP J));clear H I U f a1 a2 C J q O k;go_wp2_with fail
 refine HW.out.mono ?_;rintro e w7 ⟨rfl,X,b,i⟩;have HF:Hid (ij B (acc++nk [rn,str (gV 4),str [42],str [48],str [42],str [45],str [45],rb,rm]++[10]) w7/\af B w w7/\Kp B w w7):=laid ⟨by rw[<-z.out];exact X,l.out.trans b,p.out.trans i⟩;clear X b i l p HW z;go_wp2
 go_end0
 exact⟨rfl,HF.out⟩
theorem Ws(B:Nat)(acc:List UInt8)(XN:ByteArray)(p:Pl)(first:Bool)(w:ae)(Mf:ij B acc w)(h0:XN.size<=1000)(m:p.rn.size<=1000)(h2:p.rb.size<=1000)(h3:p.rm.size<=1000)(h4:p.lt.size<=10000)(h5:p.df.size<=10000)(h6:p.st<=1000)(h7:p.er<=1000)(hl:acc.length<=500000000)(vw:iN w):
  aj ai 93 #[.pointer (some ⟨B,0,none⟩),.string XN,.iface 158 p.val,.bool first] w fun e w'=>e=.returned (.tuple #[])/\ij B (acc++nk [p.rn,str (gV (vj p.fl first)),XN,str (gV (p.st+1)),p.lt,str (gV p.er),p.df,p.rb,p.rm]++[10]) w'/\af B w w'/\Kp B w w':=by
 have HT:=laid vw;have Vj:=laid (fun W:ae=>abx p first W);have Vk:=laid (abw p w);have q1:=abC p;clear vw;unfold sj Pl.val at *;have hF:vj p.fl first<=272:=by unfold vj;cases p.fl<;>cases first<;>decide
 generalize hFF:vj p.fl first=F at *
 obtain⟨rn,rb,rm,fl,st,er,lt,df⟩:=p;simp only at *;clear hFF
 go_enter Tryz.func93,ej
 go_wp2_with fail
 refine Vk.out.mono ?_;rintro e w1 ⟨rfl,X⟩;have Z:=Mf.below X;have Vl:Kp B w w1:=Kp.uP X;have E:af B w w1:=X.mono (by have:=Mf.lt;omega);have Vm:=laid (HT.out.on X);clear X Vk Mf HT;go_wp2_with fail
 obtain⟨i0,hi,sZ,qX,s_⟩:=bm Rr;obtain⟨w2,f,rS,F1,l,v,G,Vn,Mg⟩:∃(w2:ae) (f:Nat),w1.alloc (.cells #[.string rn,.string rb,.string rm] 131)=w2/\w1.heap.size=f/\w2.heap[f]?=some (.cells #[.string rn,.string rb,.string rm] 131 (0,0))/\ij B acc w2/\af B w w2/\Kp B w w2/\iN w2:=by
  have hb:af w1.heap.size w1 (w1.alloc (.cells #[.string rn,.string rb,.string rm] 131)):=(ay _ _).alloc (ak _) _;exact⟨_,_,rfl,rfl,heap_alloc_new w1 _,Z.below hb,E.trans (hb.mono (by have:=Z.lt;omega)),Vl.trans (Kp.uP hb),Vm.out.on hb⟩
 rw[rS,F1];clear rS F1 Z E Vl Vm;have a0:w2.cell? ⟨f,0,none⟩=some (.string rn):=by rw[ao w2 _ 0 _ _ _ l];rfl
 have Me:f<w2.heap.size:=(aZ.1 l).1;have Vo:=laid l;have b:=laid v;have i:Hid (∀W:ae,af w2.drew.heap.size w2.drew W->aj ai 74 #[.int .i64 (F:Int)] W fun e w'=>e=.returned (.string (str (gV F)))/\af W.heap.size W w'):=laid fun W I=>yR (F:Int) F rfl W (by omega) (Mg.on (w':=W) ⟨I.os,I.tape,I.output,I.size,I.block⟩);have Mh:=laid Mg;obtain⟨d,Mi⟩:∃D,D=str (gV F):=⟨_,rfl⟩;rw[<-Mi]at i;have k:=laid Mi;clear Mi l v Mg
 go_region_held3 (fun w'=>w'.cell? ⟨f,0,none⟩=some (.string rn))
  (first
   |go_keep
   |(rw[C.cell (by have:=Y.size;simp at this⊢;omega),Y.cell (by first|omega|(simp;omega))];assumption)
   |(rw[Y.cell (by first|omega|(simp;omega))];assumption))
  (first
   |(go_at_call 240;refine(Vj.out _).mono ?_;rintro e w' ⟨rfl,Y⟩)
   |(go_at_call 74;refine(i.out _ Y).mono ?_;rintro e U ⟨rfl,C⟩))
 have M:af w2.heap.size w2 (U.alloc (.cells #[.string rn,.string d] 9)):=by
  have m:af w2.heap.size w2 w':=⟨Y.os,Y.tape,Y.output,Y.size,Y.block⟩;have h2:=m.trans (C.mono m.size);exact h2.alloc h2.size _
 have J:(U.alloc (.cells #[.string rn,.string d] 9)).ownsRow w2.heap.size 9 1 (.slice (some ⟨U.heap.size,0,none⟩) 2 2) 2 [.string rn,.string d]:=
  ⟨rfl,.inr ⟨U.heap.size,2,_,rfl,by have m:=Y.size;have h2:=C.size;simp at m;omega,heap_alloc_new U _,ak _,by unfold ax;omega,rfl,rfl⟩⟩
 obtain⟨w4,uu⟩:∃w4:ae,U.alloc (.cells #[.string rn,.string d] 9)=w4:=⟨_,rfl⟩;rw[uu]at M J⊢;generalize U.heap.size=g4 at *;clear uu Y C i Vj;have Mj:w2.heap.size<=w4.heap.size:=M.size;clear a0;go_wp2_with fail
 obtain⟨R,K,z_,s,P,L,H⟩:∃(R:ae) (K:Nat),w4.alloc (.cells #[.string rn,.string rb,.string rm,.bool fl,.int .i64 (st:Int),.int .i64 (er:Int),.string lt,.string df] 158)=R/\w4.heap.size=K/\R.heap[K]?=some (.cells #[.string rn,.string rb,.string rm,.bool fl,.int .i64 (st:Int),.int .i64 (er:Int),.string lt,.string df] 158 (0,0))/\R.ownsRow w2.heap.size 9 1 (.slice (some ⟨g4,0,none⟩) 2 2) 2 [.string rn,.string d]/\af w2.heap.size w2 R:=
  ⟨_,_,rfl,rfl,heap_alloc_new w4 _,J.alloc _,M.alloc M.size _⟩
 rw[z_,s];have akJ:w2.heap.size<=g4:=by
  rcases J.2 with⟨h,_⟩|⟨g,cap,cur,h,h',_⟩
  ·cases h
  ·cases h;exact h'
 clear z_ s J M Mj q1;have O:K<R.heap.size:=(aZ.1 P).1;have p4:R.cell? ⟨K,4,none⟩=some (.int .i64 (st:Int)):=by rw[ao R _ 4 _ _ _ P];rfl
 have p5:R.cell? ⟨K,5,none⟩=some (.int .i64 (er:Int)):=by rw[ao R _ 5 _ _ _ P];rfl
 have p6:R.cell? ⟨K,6,none⟩=some (.string lt):=by rw[ao R _ 6 _ _ _ P];rfl
 have p7:R.cell? ⟨K,7,none⟩=some (.string df):=by rw[ao R _ 7 _ _ _ P];rfl
 have x1:aN.wrap ((st:Int)+1)=(st:Int)+1:=aO _ (by omega);have un:∀{W:ae},af R.drew.heap.size R.drew W->af R.heap.size R W:=fun I=>⟨I.os,I.tape,I.output,I.size,I.block⟩;have HP:Hid (∀W:ae,af R.drew.heap.size R.drew W->W.cell? ⟨K,4,none⟩=some (.int .i64 (st:Int))/\W.cell? ⟨K,5,none⟩=some (.int .i64 (er:Int))/\W.cell? ⟨K,6,none⟩=some (.string lt)/\W.cell? ⟨K,7,none⟩=some (.string df)):=laid fun W I=>⟨by rw[(un I).cell (p:=⟨K,4,none⟩) O];exact p4,by rw[(un I).cell (p:=⟨K,5,none⟩) O];exact p5,by rw[(un I).cell (p:=⟨K,6,none⟩) O];exact p6,by rw[(un I).cell (p:=⟨K,7,none⟩) O];exact p7⟩;obtain⟨D1,Mk⟩:∃D,D=str (gV (st+1)):=⟨_,rfl⟩;obtain⟨D2,Ml⟩:∃D,D=str (gV er):=⟨_,rfl⟩;have t:=laid Mk;have a:=laid Ml;have Vp:Hid (∀W:ae,W=R.drew\/af R.drew.heap.size R.drew W->aj ai 74 #[.int .i64 ((st:Int)+1)] W fun e w'=>e=.returned (.string D1)/\af W.heap.size W w'):=laid fun W I=>by
  rw[Mk];refine yR _ (st+1) (by omega) W (by omega) (Mh.out.on ?_);rcases I with rfl|I
  ·exact Go.below_drewN H 1
  ·exact H.trans ((un I).mono H.size)
 have Vq:Hid (∀W:ae,af R.drew.heap.size R.drew W->aj ai 74 #[.int .i64 (er:Int)] W fun e w'=>e=.returned (.string D2)/\af W.heap.size W w'):=laid fun W I=>by
  rw[Ml];exact yR _ er rfl W (by omega) (Mh.out.on (H.trans ((un I).mono H.size)))
 have Ca:Hid (∀(W:ae),af R.drew.heap.size R.drew W->∀o:Obj,(W.alloc o).ownsRow w2.heap.size 9 1 (.slice (some ⟨g4,0,none⟩) 2 2) 2 [.string rn,.string d]):=laid fun W I o=>(uQ L (un I)).alloc _;have Cb:Hid (∀(W:ae),af R.drew.heap.size R.drew W->∀o:Obj,w2.heap.size<=(W.alloc o).heap.size):=laid fun W I o=>by have m:=H.size;have h2:=(un I).size;simp;omega
 have n:=laid H;have Cc:Hid (∀(W1 V:ae) (o:Obj),af R.drew.heap.size R.drew W1->(W1.alloc o).grownBy V (some g4)->V.cell? ⟨K,4,none⟩=some (.int .i64 (st:Int))/\V.cell? ⟨K,5,none⟩=some (.int .i64 (er:Int))/\V.cell? ⟨K,6,none⟩=some (.string lt)/\V.cell? ⟨K,7,none⟩=some (.string df)):=laid fun W1 V o I hg=>by
  have e1:V.heap[K]?=some (.cells #[.string rn,.string rb,.string rm,.bool fl,.int .i64 (st:Int),.int .i64 (er:Int),.string lt,.string df] 158 (0,0)):=by
   have hs:=(un I).size;rw[hg.block K (by simp;omega) (fun e=>yv L P (by decide) e.symm),bk W1 _ (by omega),(un I).block K O];exact P
  exact⟨by rw[ao V _ 4 _ _ _ e1];rfl,by rw[ao V _ 5 _ _ _ e1];rfl,by rw[ao V _ 6 _ _ _ e1];rfl,by rw[ao V _ 7 _ _ _ e1];rfl⟩
 clear Mk Ml L H P un
 go_region_held3 (fun w'=>w'.cell? ⟨K,4,none⟩=some (.int .i64 (st:Int))/\w'.cell? ⟨K,5,none⟩=some (.int .i64 (er:Int))/\w'.cell? ⟨K,6,none⟩=some (.string lt)/\w'.cell? ⟨K,7,none⟩=some (.string df))
  (first
   |go_keep
   |exact Cc.out _ _ _ (Y.trans (C.mono Y.size)) A
   |exact HP.out _ (Y.trans (C.mono Y.size))
   |exact HP.out _ Y)
  (first
   |(go_at_call 74;refine(Vp.out _ (.inl rfl)).mono ?_;rintro e w' ⟨rfl,Y⟩)
   |(go_at_call 74;refine(Vq.out _ Y).mono ?_;rintro e U ⟨rfl,C⟩)
   |(refine step_append_lies _ rfl _ _ 65 rfl w2.heap.size 9 i0 (.string ⟨#[]⟩) 1 16 bO hi sZ qX s_ rfl (by decide) _ 2 _ rfl (Ca.out U (Y.trans (C.mono Y.size)) _) ⟨U.heap.size,0,none⟩ 5 5 [.string XN,.string D1,.string lt,.string D2,.string df] rfl rfl (dp (heap_alloc_new U _)) (fun u hu=>by simp at hu;rcases hu with rfl|rfl|rfl|rfl|rfl<;>rfl) (by omega) (by unfold ax;omega) (by omega) (Cb.out U (Y.trans (C.mono Y.size)) _) _ rfl ?_;intro g5 EM r c A F5 Ki))
 rename_i JP;clear JP;have N:af w2.heap.size w2 r:=by
  have m:af R.heap.size R w':=⟨Y.os,Y.tape,Y.output,Y.size,Y.block⟩;have h2:=n.out.trans (m.mono n.out.size);have h3:=h2.trans (C.mono h2.size);exact(h3.alloc h3.size _).grown A (by have:=h3.size;simp;omega) (fun j q=>by cases q;exact akJ)
 have Q:r.ownsRow w2.heap.size 9 1 (.slice (some ⟨g5,0,none⟩) 7 EM) 7 [.string rn,.string d,.string XN,.string D1,.string lt,.string D2,.string df]:=c;simp only[Nat.reduceAdd];clear c;clear A F5 Ki Y C Vp Vq Ca Cb Cc HP p4 p5 p6 p7 n Mh;have z:r.heap[f]?=some (.cells #[.string rn,.string rb,.string rm] 131 (0,0)):=by rw[N.block f Me];exact Vo.out
 have a1:r.cell? ⟨f,1,none⟩=some (.string rb):=by rw[ao r _ 1 _ _ _ z];rfl
 have a2:r.cell? ⟨f,2,none⟩=some (.string rm):=by rw[ao r _ 2 _ _ _ z];rfl
 have Mj:w2.heap.size<=r.heap.size:=N.size;clear z Vo;go_wp2_with(first
  |(at_builtin;refine aX _ rfl _ _ 65 rfl w2.heap.size 9 i0 (.string ⟨#[]⟩) 1 16 bO hi sZ qX s_ rfl (by decide) _ _ _ rfl (Q.alloc _) ⟨r.heap.size,0,none⟩ 2 2 [.string rb,.string rm] rfl rfl ?c1 ?c2 ?c3 ?c4 ?c5 ?_)
  |go_in)
 case c1=>
  intro j u q
  match j,q with
  |0,q=>simp at q;subst q;simp[Addr.add,go_sem]
  |1,q=>simp at q;subst q;simp[Addr.add,go_sem]
 case c2=>intro u hu;simp at hu;rcases hu with rfl|rfl<;>rfl
 case c3=>unfold ax;omega
 case c4=>omega
 case c5=>simp;omega
 intro v8 w8 S A _;have T:af w2.heap.size w2 w8:=(N.alloc N.size _).grown A (by simp;omega) (fun j q=>(Q.lt j q).1);obtain⟨g8,apt,rfl⟩:∃g cap,v8=.slice (some ⟨g,0,none⟩) 9 cap:=by
  rcases S.2 with⟨_,h0⟩|⟨gg,cap,cur,hv,_⟩
  ·omega
  ·exact⟨gg,cap,hv⟩
 have HW:=laid (Gp B w2.heap.size acc [rn,d,XN,D1,lt,D2,df,rb,rm] _ w8 (b.out.below T) S (by simp) (by simp) (by
  have h:=Rs [rn,d,XN,D1,lt,D2,df,rb,rm] 10000 (fun x hx=>by
   have hd:=mF F (by omega);have hd4:d.size<=10000:=by rw[k.out,ia];omega
   have he:=mF (st+1) (by omega);have hd1:D1.size<=10000:=by rw[t.out,ia];omega
   have hf:=mF er (by omega);have hd2:D2.size<=10000:=by rw[a.out,ia];omega
   simp at hx;rcases hx with rfl|rfl|rfl|rfl|rfl|rfl|rfl|rfl|rfl<;>omega)
  simp at h;omega))
 have Vr:=laid (G.trans (T.mono (by have:=b.out.lt;omega)));have Cd:=laid (Vn.trans (Kp.uP T));clear A Q N Mj a1 a2 S T b G Vn;go_wp2_with fail
 refine HW.out.mono ?_;rintro e w9 ⟨rfl,y,Vs,Vt⟩;have HF:Hid (ij B (acc++nk [rn,str (gV F),XN,str (gV (st+1)),lt,str (gV er),df,rb,rm]++[10]) w9/\af B w w9/\Kp B w w9):=laid ⟨by rw[<-k.out,<-t.out,<-a.out];exact y,Vr.out.trans Vs,Cd.out.trans Vt⟩;clear y Vs Vt Vr Cd HW k t a;go_wp2
 go_end0
 exact⟨rfl,HF.out⟩
def AG(w:ae)(A n:Nat):Prop:=w.heap[A]?=some (.cells #[.int .i64 (n:Int)] 3 (0,0))
theorem AG.c0{A:Nat}(h:AG w A n):w.cell? ⟨A,0,none⟩=some (.int .i64 (n:Int)):=by rw[ao w A 0 _ _ _ h];rfl
theorem AG.fz{A:Nat}(h:AG w A n):w.frozen? ⟨A,0,none⟩=false:=yB h (by simp)
theorem AG.kp{A B:Nat}(h:AG w A n)(k:Kp B w w')(Y:A≠B):AG w' A n:=k A _ _ _ Y (by simp) h
theorem AG.put{A:Nat}(h:AG w A n)(m:Nat):AG (w.setCell ⟨A,0,none⟩ (.int .i64 (m:Int))) A m:=by
 exact yr _ h
theorem Pn{p:ah}{B A:Nat}{bs:List ah}{v:ah}(h:bW 102 5 B B p bs w)(C:AG w A n)(H:A≠B):bW 102 5 B B p bs (w.setCell ⟨A,0,none⟩ v):=by
 obtain⟨D,u,I,Y,U⟩:=h;have K:=Lib.BuilderAt.lt ⟨D,u,I,Y,U⟩;have R:=oZ w A 0 v;refine⟨D,u,?_,Y.kept R (.inr (yv Y C (by simp))),U⟩;rw[R.block B K (fun e=>H (by simp_all))];exact I
theorem ij.put{B A:Nat}{acc:List UInt8}{v:ah}(h:ij B acc w)(K:AG w A n)(Y:A≠B):ij B acc (w.setCell ⟨A,0,none⟩ v):=
 h.imp (fun h=>Pn h K Y) (fun h=>Pn h K Y)
theorem Po{B A:Nat}{v:ah}(h:B<=A):af B w (w.setCell ⟨A,0,none⟩ v):=(ay B w).setCell h v
theorem Qw(B A n:Nat)(acc:List UInt8)(W:ae)(C:ij B acc W)(U:AG W A n)(S:B<A)(O:n<=9999)(V:acc.length+10<=1000000)(M:iN W):
  aj ai 149 #[.pointer (some ⟨B,0,none⟩),.pointer (some ⟨A,0,none⟩)] W fun e w'=>e=.returned (.tuple #[])/\ij B (acc++gV n) w'/\AG w' A 0/\af B W w':=by
 have c0:=U.c0;have P:=mF n O
 go_enter Tryz.func149,Tryz.ntmps149
 go_wp2_with fail
 refine(C_ n _ O M).mono ?_;rintro e w2 ⟨rfl,K⟩;have I:=C.below K;have R:AG w2 A n:=U.kp (B:=B) (Kp.uP K) (by omega);have H:af B W w2:=K.mono (by have:=C.lt;omega);clear K c0;go_wp2_with fail
 refine(Pm _ _ (str (gV n)) _ I (by rw[ia];omega)).mono ?_;rintro e w3 ⟨rfl,F,L,N⟩;have Y:=R.kp N (by omega);have D:=H.trans L;have T:=Y.fz;have Q:=Y.c0;have J:Hid (ij B (acc++gV n) (w3.setCell _ (.int .i64 0))/\AG _ A 0/\af B W (w3.setCell ⟨A,0,none⟩ (.int .i64 0))):=laid ⟨F.put Y (by omega),Y.put 0,D.trans (Po (by omega))⟩;go_wp2
 go_end0
 exact⟨rfl,J.out.1,J.out.2.1,J.out.2.2⟩
theorem WC(p t s:ByteArray)(w:ae)(hp:p.size<=1000)(ht:t.size<=1000)(hs:s.size<=1000)(m:Fits p t s)(Ua:∀x,x<s.size->at8 s x=77\/at8 s x=73\/at8 s x=68)(vw:iN w):
  aj ai 128 #[.string s,.string p,.string t] w fun e w'=>e=.returned (.string (str (pz p t s)))/\af w.heap.size w w':=by
 have akK:=laid m;have akL:=laid Ua;have HT:=laid vw;clear m Ua vw
 go_enter Tryz.func128,Tryz.ntmps128
 go_wp2
 have h0:Hid (ij w.heap.size [] ((w.alloc (.cells #[.pointer none,.slice none 0 0] 102)).alloc (.cells #[.int .i64 0] 3))/\AG ((w.alloc (.cells #[.pointer none,.slice none 0 0] 102)).alloc (.cells #[.int .i64 0] 3)) (w.heap.size+1) 0/\af w.heap.size w ((w.alloc (.cells #[.pointer none,.slice none 0 0] 102)).alloc (.cells #[.int .i64 0] 3))):=laid (by
  refine⟨(ij.new w).below ((ay _ _).alloc (ak _) _),?_,((ay _ _).alloc (ak _) _).alloc (by simp) _⟩;unfold AG;have:=heap_alloc_new (w.alloc (.cells #[.pointer none,.slice none 0 0] 102)) (.cells #[.int .i64 0] 3);simpa using this)
 go_loopw [8,9,16] (fun iv jv xv wr=>∃x:Nat,iv=.int .i64 ((jq p t s x).i:Int)/\jv=.int .i64 ((jq p t s x).j:Int)/\xv=.int .i64 (x:Int)/\x<=s.size/\ij w.heap.size (jq p t s x).o wr/\AG wr (w.heap.size+1) (jq p t s x).n/\af w.heap.size w wr) (fun _ _ xv _=>s.size-(intOf xv).toNat)
 case atStart=>exact⟨0,rfl,rfl,rfl,aQ _,h0.out.1,h0.out.2.1,h0.out.2.2⟩
 case round=>
  obtain⟨x,rfl,rfl,rfl,ET,S,F,K⟩:=hrel;clear h0;have hle:=IH p t s x (by omega);by_cases b:x<s.size
  ·have UE:(x:Int)<(s.size:Int):=by omega
   have hx0:(0:Int)<=(x:Int):=by omega
   have F5:=mn s x b;have r:=akK.out x b;have hlx:=akL.out x b;have x1:aN.wrap ((x:Int)+1)=(x:Int)+1:=aO _ (by omega);have z:Hid (jq p t s (x+1)=uX p t s x (jq p t s x)):=laid rfl;generalize jq p t s x=st at *;obtain⟨O,I,J,N⟩:=st;simp only at *;have hdl:=mF N (by omega);have x2:aN.wrap ((I:Int)+1)=(I:Int)+1:=aO _ (by omega);have x3:aN.wrap ((J:Int)+1)=(J:Int)+1:=aO _ (by omega);have x4:aN.wrap ((N:Int)+1)=(N:Int)+1:=aO _ (by omega);have c:Hid (∀W:ae,ij w.heap.size O W->AG W (w.heap.size+1) N->af w.heap.size w W->aj ai 149 #[.pointer (some ⟨w.heap.size,0,none⟩),.pointer (some ⟨w.heap.size+1,0,none⟩)] W fun e w'=>e=.returned (.tuple #[])/\ij w.heap.size (O++gV N) w'/\AG w' (w.heap.size+1) 0/\af w.heap.size W w'):=laid (fun W h1 h2 h3=>Qw _ _ N O W h1 h2 (by omega) (by omega) (by omega) (HT.out.on h3));rcases hlx with u|l|d
   ·have e1:(((at8 s x).toNat:Int)==77)=true:=by rw[u];rfl
    have Vu:=r.1 u;have hi1:(I:Int)<(p.size:Int):=by omega
    have EZ:(0:Int)<=(I:Int):=by omega
    have F6:(J:Int)<(t.size:Int):=by omega
    have hj0:(0:Int)<=(J:Int):=by omega
    have hpI:=mn p I Vu.1;have htJ:=mn t J Vu.2;have T:Hid (jq p t s (x+1)=if ag (at8 p I) (at8 t J)=true then⟨O,I+1,J+1,N+1⟩else⟨O++gV N++[at8 t J],I+1,J+1,0⟩):=laid (by rw[z.out,uX,if_pos u]);clear u r z;have Vv:=laid S;have f:=laid F;clear S F;go_wp2_with fail
    go_quiet((go_at_call 150;refine(Iq _ _ _).mono ?_;rintro e zM ⟨rfl,rfl⟩;exact⟨rfl,_,rfl⟩))
    have V:=Go.below_drewN K nq;have q:=Vv.out.drewN nq;have L:AG (wr.drewN nq) (w.heap.size+1) N:=f.out;clear Vv f;generalize wr.drewN nq=w1 at *;clear K;by_cases M:ag (at8 p I) (at8 t J)=true
    ·have A:Hid (jq p t s (x+1)=⟨O,I+1,J+1,N+1⟩):=laid (by rw[T.out,if_pos M]);rw[M];have c0:=L.c0;have f0:=L.fz;have C:Hid (ij w.heap.size O (w1.setCell ⟨w.heap.size+1,0,none⟩ (.int .i64 ((N:Int)+1)))/\AG (w1.setCell ⟨w.heap.size+1,0,none⟩ (.int .i64 ((N:Int)+1))) (w.heap.size+1) (N+1)/\af w.heap.size w (w1.setCell ⟨w.heap.size+1,0,none⟩ (.int .i64 ((N:Int)+1)))):=laid ⟨q.put L (by omega),L.put (N+1),V.trans (Po (by omega))⟩;clear T M q L c;go_wp2
     go_roundw
     case rel=>go_light;exact⟨x+1,jb (by rw[A.out];simp),jb (by rw[A.out];simp),by go_num,by omega,by rw[A.out];exact C.out.1,by rw[A.out];exact C.out.2.1,C.out.2.2⟩
     case measure=>go_light;simp[intOf];omega
    ·have A:Hid (jq p t s (x+1)=⟨O++gV N++[at8 t J],I+1,J+1,0⟩):=laid (by rw[T.out,if_neg M]);rw[bI]at M;rw[M];have g:=laid (c.out w1 q L V);clear T M c q L;go_wp2_with fail
     refine g.out.mono ?_;rintro e w2 ⟨rfl,H,D,P⟩;have Y:=V.trans P;clear P g;go_wp2_with fail
     refine(xa _ _ (at8 t J) _ H (by rw[ar];omega)).mono ?_;rintro e w3 ⟨rfl,U,Q,E⟩;have C:Hid (ij w.heap.size (O++gV N++[at8 t J]) w3/\AG w3 (w.heap.size+1) 0/\af w.heap.size w w3):=laid ⟨U,D.kp E (by omega),Y.trans Q⟩;clear Q E U D H Y V;go_wp2
     go_roundw
     case rel=>go_light;exact⟨x+1,jb (by rw[A.out];simp),jb (by rw[A.out];simp),by go_num,by omega,by rw[A.out];exact C.out.1,by rw[A.out];exact C.out.2.1,C.out.2.2⟩
     case measure=>go_light;simp[intOf];omega
   ·have e1:(((at8 s x).toNat:Int)==77)=false:=by rw[l];rfl
    have e2:(((at8 s x).toNat:Int)==73)=true:=by rw[l];rfl
    have A:Hid (jq p t s (x+1)=⟨O,I+1,J,N⟩):=laid (by rw[z.out,uX,if_neg (by rw[l];decide),if_pos l]);have C:=laid (And.intro S F);clear l r z c S F;go_wp2
    go_roundw
    case rel=>go_light;exact⟨x+1,jb (by rw[A.out];simp),jb (by rw[A.out]),by go_num,by omega,by rw[A.out];exact C.out.1,by rw[A.out];exact C.out.2,K⟩
    case measure=>go_light;simp[intOf];omega
   ·have e1:(((at8 s x).toNat:Int)==77)=false:=by rw[d];rfl
    have e2:(((at8 s x).toNat:Int)==73)=false:=by rw[d];rfl
    have e3:(((at8 s x).toNat:Int)==68)=true:=by rw[d];rfl
    have k:at8 s x≠77:=by rw[d];decide
    have a:at8 s x≠73:=by rw[d];decide
    have hJ:=r.2 k a;have F6:(J:Int)<(t.size:Int):=by omega
    have hj0:(0:Int)<=(J:Int):=by omega
    have htJ:=mn t J hJ;have T:Hid (jq p t s (x+1)=if x=0\/at8 s (x-1)≠68 then⟨O++gV N++[94]++[at8 t J],I,J+1,0⟩else⟨O++[at8 t J],I,J+1,N⟩):=laid (by rw[z.out,uX,if_neg k,if_neg a]);have g:=laid (c.out wr S F K);clear d r z c k a;have v:(((x:Int)==0)=true/\Hid (jq p t s (x+1)=⟨O++gV N++[94]++[at8 t J],I,J+1,0⟩))\/∃y:Nat,((x:Int)==0)=false/\y<s.size/\aN.wrap ((x:Int)-1)=(y:Int)/\(((((at8 s y).toNat:Int) != 68)=true/\Hid (jq p t s (x+1)=⟨O++gV N++[94]++[at8 t J],I,J+1,0⟩))\/((((at8 s y).toNat:Int) != 68)=false/\Hid (jq p t s (x+1)=⟨O++[at8 t J],I,J+1,N⟩))):=by
     by_cases Vw:x=0
     ·exact .inl ⟨by simp;omega,laid (by rw[T.out,if_pos (.inl Vw)])⟩
     ·refine .inr ⟨x-1,by simp;omega,by omega,by rw[show(x:Int)-1=((x-1:Nat):Int) by omega];exact aO _ (by omega),?_⟩;by_cases h:at8 s (x-1)=68
      ·exact .inr ⟨by rw[h];rfl,laid (by rw[T.out,if_neg (by rintro(h'|h');exact Vw h';exact h' h)])⟩
      ·exact .inl ⟨toNat_ne h,laid (by rw[T.out,if_pos (.inr h)])⟩
    clear T;rcases v with⟨hd,A⟩|⟨y,hd,Vx,Vy,⟨hq,A⟩|⟨hq,A⟩⟩
    ·skip
     clear S F;go_wp2_with fail
     refine g.out.mono ?_;rintro e w2 ⟨rfl,H,D,P⟩;have Y:=K.trans P;clear P g K;go_wp2_with fail
     refine(xa _ _ 94 _ H (by rw[ar];omega)).mono ?_;rintro e w3 ⟨rfl,U,Q,E⟩;have X:=D.kp E (by omega);have R:=Y.trans Q;clear Q E D H Y;go_wp2_with fail
     refine(xa _ _ (at8 t J) _ U (by rw[ar,ar];simp;omega)).mono ?_;rintro e w4 ⟨rfl,B,Z,G⟩;have C:Hid (ij w.heap.size (O++gV N++[94]++[at8 t J]) w4/\AG w4 (w.heap.size+1) 0/\af w.heap.size w w4):=laid ⟨B,X.kp G (by omega),R.trans Z⟩;clear Z G B X U R;go_wp2
     go_roundw
     case rel=>go_light;exact⟨x+1,jb (by rw[A.out]),jb (by rw[A.out];simp),by go_num,by omega,by rw[A.out];exact C.out.1,by rw[A.out];exact C.out.2.1,C.out.2.2⟩
     case measure=>go_light;simp[intOf];omega
    ·obtain⟨akM,hy1,hy0⟩:s[y]=at8 s y/\(y:Int)<(s.size:Int)/\(0:Int)<=(y:Int):=⟨mn s y Vx,by omega,by omega⟩;clear S F;go_wp2_with fail
     refine g.out.mono ?_;rintro e w2 ⟨rfl,H,D,P⟩;have Y:=K.trans P;clear P g K;go_wp2_with fail
     refine(xa _ _ 94 _ H (by rw[ar];omega)).mono ?_;rintro e w3 ⟨rfl,U,Q,E⟩;have X:=D.kp E (by omega);have R:=Y.trans Q;clear Q E D H Y;go_wp2_with fail
     refine(xa _ _ (at8 t J) _ U (by rw[ar,ar];simp;omega)).mono ?_;rintro e w4 ⟨rfl,B,Z,G⟩;have C:Hid (ij w.heap.size (O++gV N++[94]++[at8 t J]) w4/\AG w4 (w.heap.size+1) 0/\af w.heap.size w w4):=laid ⟨B,X.kp G (by omega),R.trans Z⟩;clear Z G B X U R;go_wp2
     go_roundw
     case rel=>go_light;exact⟨x+1,jb (by rw[A.out]),jb (by rw[A.out];simp),by go_num,by omega,by rw[A.out];exact C.out.1,by rw[A.out];exact C.out.2.1,C.out.2.2⟩
     case measure=>go_light;simp[intOf];omega
    ·have akM:=mn s y Vx;have hy1:(y:Int)<(s.size:Int):=by omega
     have hy0:(0:Int)<=(y:Int):=by omega
     have f:=laid F;clear F g;go_wp2_with fail
     refine(xa _ _ (at8 t J) _ S (by omega)).mono ?_;rintro e w4 ⟨rfl,B,Z,G⟩;have C:Hid (ij w.heap.size (O++[at8 t J]) w4/\AG w4 (w.heap.size+1) N/\af w.heap.size w w4):=laid ⟨B,f.out.kp G (by omega),K.trans Z⟩;clear Z G B f S K;go_wp2
     go_roundw
     case rel=>go_light;exact⟨x+1,jb (by rw[A.out]),jb (by rw[A.out];simp),by go_num,by omega,by rw[A.out];exact C.out.1,by rw[A.out];exact C.out.2.1,C.out.2.2⟩
     case measure=>go_light;simp[intOf];omega
  ·have Vz:x=s.size:=by omega
   have C:Hid (str ((jq p t s x).o++gV (jq p t s x).n)=str (pz p t s)):=laid (by unfold pz;rw[Vz]);have g:=laid (Qw _ _ (jq p t s x).n (jq p t s x).o wr S F (by omega) (by omega) (by omega) (HT.out.on K));clear Vz hle;generalize jq p t s x=st at *;obtain⟨O,I,J,N⟩:=st;simp only at *;clear S F;go_wp2_with fail
   refine g.out.mono ?_;rintro e w2 ⟨rfl,H,D,P⟩;have Y:=K.trans P;clear P g D;go_wp2_with fail
   refine(yA _ _ _ H).mono ?_;rintro e w3 ⟨rfl,Q⟩;have R:=Y.trans Q;clear Q H;go_wp2
   go_ret
   exact⟨QQ C.out,R⟩
def cutAt(s:ByteArray)(c:UInt8)(i:Nat):Bool:=decide (i=s.size)||decide (at8 s i=c)
def mN(s:ByteArray)(c:UInt8):Nat->Nat
 |0=>0
 |i+1=>if cutAt s c i=true then i+1 else mN s c i
def iZ(s:ByteArray)(c:UInt8):Nat->List ByteArray
 |0=>[]
 |i+1=>if cutAt s c i=true then iZ s c i++[s.extract (mN s c i) i]else iZ s c i
theorem Rt(s:ByteArray)(c:UInt8):∀i,mN s c i<=i
 |0=>ak _
 |i+1=>by
  have:=Rt s c i;unfold mN;split<;>omega
theorem Il(s:ByteArray)(c:UInt8):∀i,(iZ s c i).length<=i
 |0=>ak _
 |i+1=>by
  have:=Il s c i;unfold iZ;split
  ·rw[ar];simp;omega
  ·omega
def sV(s:ByteArray):Value:=.string s
theorem adu:(ai.info? 9).map (fun i=>(i.zero,i.size,i.bytes))=some (some (.string ⟨#[]⟩),1,16):=by kernel_rfl
theorem Pp(s:ByteArray)(c:UInt8)(w:ae)(hs:s.size<=100000000):
  aj ai 40 #[.string s,.int .u8 (c.toNat:Int)] w fun e w'=>∃v,e=.returned v/\w'.ownsRow w.heap.size 9 1 v (iZ s c (s.size+1)).length ((iZ s c (s.size+1)).map sV)/\af w.heap.size w w':=by
 obtain⟨i0,d,Q,S,T⟩:=bm adu
 go_enter Tryz.func40,Tryz.ntmps40
 go_wp2
 go_loopw [5,6,7] (fun v f i wr=>∃n:Nat,i=.int .i64 (n:Int)/\n<=s.size+1/\f=.int .i64 (mN s c n:Int)/\wr.ownsRow w.heap.size 9 1 v (iZ s c n).length ((iZ s c n).map sV)/\af w.heap.size w wr) (fun _ _ i _=>s.size+1-(intOf i).toNat)
 case atStart=>exact⟨0,rfl,aQ _,rfl,⟨rfl,.inl ⟨rfl,rfl⟩⟩,ay _ _⟩
 case round=>
  obtain⟨n,rfl,b,rfl,R,Y⟩:=hrel;have y:=Rt s c n;have m:=Il s c n;have U:cutAt s c n=true->mN s c (n+1)=n+1/\iZ s c (n+1)=iZ s c n++[s.extract (mN s c n) n]:=fun h=>⟨by rw[mN,if_pos h],by rw[iZ,if_pos h]⟩;have C:cutAt s c n=false->mN s c (n+1)=mN s c n/\iZ s c (n+1)=iZ s c n:=fun h=>⟨by rw[mN,if_neg (by rw[h];simp)],by rw[iZ,if_neg (by rw[h];simp)]⟩;have J:cutAt s c n=(decide (n=s.size)||decide (at8 s n=c)):=rfl;have M:=laid (show n=s.size+1->iZ s c n=iZ s c (s.size+1)from fun h=>by rw[h]);generalize mN s c n=F at *;by_cases x:n<=s.size
  ·by_cases I:n=s.size
   ·have N:=laid (U (by rw[J,decide_eq_true I];rfl));clear U C J M;have E:((n:Int)==(s.size:Int))=true:=by simp;omega
    have b1:(F:Int)<=(n:Int):=by omega
    have b2:(n:Int)<=(s.size:Int):=by omega
    clear I;go_wp2_with(first
     |(at_builtin;refine aX _ rfl _ _ 65 rfl w.heap.size 9 i0 (.string ⟨#[]⟩) 1 16 bO d Q S T rfl (by decide) _ _ _ rfl (R.alloc _) ⟨wr.heap.size,0,none⟩ 1 1 [sV (s.extract F n)] rfl rfl ?c1 ?c2 ?c3 ?c4 ?c5 ?_)
     |go_in)
    case c1=>
     intro j u B
     match j,B with
     |0,B=>simp at B;subst B;simp[Addr.add,sV]
    case c2=>intro u P;simp at P;subst P;rfl
    case c3=>unfold ax;omega
    case c4=>omega
    case c5=>have:=Y.size;simp;omega
    intro v' X K H _;have A:af w.heap.size w X:=(Y.alloc Y.size _).grown H (by have:=Y.size;simp;omega) (fun j B=>(R.lt j B).1);have D:X.ownsRow w.heap.size 9 1 v' (iZ s c (n+1)).length ((iZ s c (n+1)).map sV):=by
     rw[N.out.2,ar,a_];exact K
    obtain⟨g,cap,V,rfl⟩:∃g cap V,v'=.slice (some ⟨g,0,none⟩) V cap:=by
     rcases K.2 with⟨_,o⟩|⟨g,cap,Z,W,_⟩
     ·omega
     ·exact⟨g,cap,_,W⟩
    clear K H;go_wp2
    go_roundw
    case rel=>go_light;exact⟨n+1,by go_num,by omega,jb (by rw[N.out.1];omega),D,A⟩
    case measure=>go_light;simp[intOf];omega
   ·have O:n<s.size:=by omega
    have E:((n:Int)==(s.size:Int))=false:=by simp;omega
    have r:(n:Int)<(s.size:Int):=by omega
    have p:=mn s n O;by_cases L:at8 s n=c
    ·have N:=laid (U (by rw[J,decide_eq_true L,cL]));have G:=toNat_eq L;clear U C J M I L;go_wp2_with(first
      |(at_builtin;refine aX _ rfl _ _ 65 rfl w.heap.size 9 i0 (.string ⟨#[]⟩) 1 16 bO d Q S T rfl (by decide) _ _ _ rfl (R.alloc _) ⟨wr.heap.size,0,none⟩ 1 1 [sV (s.extract F n)] rfl rfl ?c1 ?c2 ?c3 ?c4 ?c5 ?_)
      |go_in)
     case c1=>
      intro j u B
      match j,B with
      |0,B=>simp at B;subst B;simp[Addr.add,sV]
     case c2=>intro u P;simp at P;subst P;rfl
     case c3=>unfold ax;omega
     case c4=>omega
     case c5=>have:=Y.size;simp;omega
     intro v' X K H _;have A:af w.heap.size w X:=(Y.alloc Y.size _).grown H (by have:=Y.size;simp;omega) (fun j B=>(R.lt j B).1);have D:X.ownsRow w.heap.size 9 1 v' (iZ s c (n+1)).length ((iZ s c (n+1)).map sV):=by
      rw[N.out.2,ar,a_];exact K
     obtain⟨g,cap,V,rfl⟩:∃g cap V,v'=.slice (some ⟨g,0,none⟩) V cap:=by
      rcases K.2 with⟨_,o⟩|⟨g,cap,Z,W,_⟩
      ·omega
      ·exact⟨g,cap,_,W⟩
     clear K H;go_wp2
     go_roundw
     case rel=>go_light;exact⟨n+1,by go_num,by omega,jb (by rw[N.out.1];omega),D,A⟩
     case measure=>go_light;simp[intOf];omega
    ·have q:=laid (C (by rw[J,decide_eq_false I,decide_eq_false L];rfl));have G:=toNat_ne L;clear U C J M I L;have D:wr.ownsRow w.heap.size 9 1 u5 (iZ s c (n+1)).length ((iZ s c (n+1)).map sV):=by
      rw[q.out.2];exact R
     go_wp2
     go_roundw
     case rel=>go_light;exact⟨n+1,by go_num,by omega,jb (by rw[q.out.1]),D,Y⟩
     case measure=>go_light;simp[intOf];omega
  ·have z:n=s.size+1:=by omega
   have l:=laid (M.out z);clear U C J M z;go_wp2
   go_ret
   exact⟨u5,rfl,by rw[<-l.out];exact R,Y⟩
def ta(c:UInt8):Bool:=decide (48<=c.toNat/\c.toNat<=57)
def oa(s:ByteArray):Nat->Nat
 |0=>0
 |i+1=>10 *oa s i+((at8 s i).toNat-48)
def mz(s:ByteArray):Nat->Bool
 |0=>true
 |i+1=>mz s i&&ta (at8 s i)
def kS(s:ByteArray):Int:=if 1<=s.size/\s.size<=6/\mz s s.size=true then(oa s s.size:Int)else-1
theorem Su(s:ByteArray):∀i,mz s i=true->oa s i<10 ^ i
 |0,_=>by simp[oa]
 |i+1,h=>by
  simp only[mz,ta,cK,decide_eq_true_eq]at h;have:=Su s i h.1;rw[oa,Nat.pow_succ];omega
theorem Pq(s:ByteArray):∀{i j:Nat},i<=j->mz s j=true->mz s i=true
 |i,0,h,_=>by rw[Nat.le_zero.1 h];rfl
 |i,j+1,h,k=>by
  simp only[mz,cK]at k;by_cases e:i=j+1
  ·rw[e,mz,k.1,k.2];rfl
  ·exact Pq s (by omega) k.1
theorem G6(s:ByteArray)(w:ae)(E:s.size<=100000000):
  aj ai 26 #[.string s] w fun e w'=>e=.returned (.int .i64 (kS s))/\w'=w:=by
 by_cases V:s.size<1
 ·have g1:(s.size:Int)<1:=by omega
  have R:Hid (kS s= -1):=laid (by rw[kS,if_neg (by omega)])
  go_enter dc,di
  go_wp2
  go_ret
  exact⟨by rw[R.out];rfl,rfl⟩
 by_cases X:6<s.size
 ·have g1:¬(s.size:Int)<1:=by omega
  have O:(6:Int)<(s.size:Int):=by omega
  have R:Hid (kS s= -1):=laid (by rw[kS,if_neg (by omega)])
  go_enter dc,di
  go_wp2
  go_ret
  exact⟨by rw[R.out];rfl,rfl⟩
 have g1:¬(s.size:Int)<1:=by omega
 have O:¬(6:Int)<(s.size:Int):=by omega
 go_enter dc,di
 go_wp2
 go_loop [3,4] (fun n i=>∃k:Nat,k<=s.size/\i=.int .i64 (k:Int)/\n=.int .i64 (oa s k:Int)/\mz s k=true) (fun _ i=>s.size-(intOf i).toNat)
 case atStart=>exact⟨0,aQ _,rfl,rfl,rfl⟩
 case round=>
  obtain⟨k,hk,rfl,rfl,Y⟩:=hrel;have G:oa s k<1000000:=bj (Su s k Y) (Nat.pow_le_pow_right (by decide) (show k<=6 by omega));have L:Hid (oa s (k+1)=10 *oa s k+((at8 s k).toNat-48)):=laid rfl;have J:Hid (mz s (k+1)=(mz s k&&ta (at8 s k))):=laid rfl;have F:Hid (mz s k=true):=laid Y;have A:Hid (k=s.size->kS s=(oa s k:Int)):=laid fun e=>by rw[kS,if_pos ⟨by omega,by omega,e▸Y⟩,e]
  have I:Hid (k<s.size->ta (at8 s k)=false->kS s= -1):=laid fun e h=>by
   rw[kS,if_neg];rintro⟨_,_,P⟩;have:=Pq s (show k+1<=s.size by omega) P;rw[mz,h,Bool.and_false]at this;cases this
  clear Y;generalize oa s k=N at *;by_cases H:k<s.size
  ·have S:(k:Int)<(s.size:Int):=by omega
   have Q:=mn s k H;have D:=I.out H;clear I A;generalize at8 s k=C at *;have Z:=C.toNat_lt;by_cases d1:C.toNat<48
   ·have K:=laid (D (by simp[ta];omega));clear D;have U:(C.toNat:Int)<48:=by omega
    go_wp2
    go_ret
    exact⟨by rw[K.out];rfl,rfl⟩
   ·by_cases d2:57<C.toNat
    ·have K:=laid (D (by simp[ta];omega));clear D;have U:¬(C.toNat:Int)<48:=by omega
     have M:(57:Int)<(C.toNat:Int):=by omega
     go_wp2
     go_ret
     exact⟨by rw[K.out];rfl,rfl⟩
    ·clear D;have U:¬(C.toNat:Int)<48:=by omega
     have M:¬(57:Int)<(C.toNat:Int):=by omega
     have T:(48:Int)<=(C.toNat:Int):=by omega
     go_wp2
     go_round
     case rel=>go_light;exact⟨k+1,by omega,by go_num,jb (by rw[L.out];omega),by rw[J.out,F.out];simp[ta];omega⟩
     case measure=>go_light;simp[intOf];omega
  ·have B:k=s.size:=by omega
   have K:=laid (A.out B);clear A I B;go_wp2
   go_ret
   exact⟨by rw[K.out];rfl,rfl⟩
theorem CR(s:ByteArray)(c:UInt8):∀i,∀x∈iZ s c i,x.size<=s.size
 |0,x,h=>by simp[iZ]at h
 |i+1,x,h=>by
  unfold iZ at h;split at h
  ·rw[bh,bM]at h;rcases h with h|rfl
   ·exact CR s c i x h
   ·rw[bC];omega
  ·exact CR s c i x h
abbrev nS:ByteArray:=⟨#[]⟩
def ot(s:ByteArray):List ByteArray:=iZ s 9 (s.size+1)
def qL(P:List ByteArray):List Value:=[.string (P.getD 0 nS),.int .i64 (kS (P.getD 1 nS)),.string (P.getD 2 nS),.int .i64 (kS (P.getD 3 nS)),.string (P.getD 4 nS),.string (P.getD 5 nS),.string (P.getD 6 nS),.string (P.getD 7 nS),.string (P.getD 8 nS)]
def xq(L:List ByteArray):Nat->List ah
 |0=>[]
 |i+1=>xq L i++qL (ot (L.getD (i+1) nS))
theorem Pr{B:Nat}{v:ah}(h:w.ownsRow B e 1 v L.length (L.map sV))(F:1<=L.length):∃g cap Y,v=.slice (some ⟨g,0,none⟩) L.length cap/\B<=g/\w.heap[g]?=some (.cells Y e)/\∀i,i<L.length->Y[i]?=some (.string (L.getD i nS)):=by
 rcases h.2 with⟨_,I⟩|⟨g,cap,Y,rfl,H,D,A,U,C,R⟩
 ·omega
 ·refine⟨g,cap,Y,rfl,H,D,fun i K=>?_⟩;have:=congrArg (·[i]?) R;simp only[Nat.mul_one,bE K,bU,bY]at this;rw[this,aK K,az,aK K];rfl
theorem afw:(ai.info? 42).map (fun i=>(i.zero,i.size,i.bytes))=some (some (.agg #[.string nS,.int .i64 0,.string nS,.int .i64 0,.string nS,.string nS,.string nS,.string nS,.string nS]),9,128):=by kernel_rfl
theorem tN(l:List UInt8)(a b:Nat):(str l).extract a b=str ((l.take b).drop a):=by
 apply ByteArray.ext;apply Array.ext';simp[str,dJ]
section
variable{c:UInt8}{A B:List UInt8}(I:c∉A)
include I
theorem ahq(i:Nat)(Y:i<A.length):cutAt (str (A++B)) c i=false:=by
 have K:¬i=(str (A++B)).size:=by rw[ia,ar];omega
 have H:¬at8 (str (A++B)) i=c:=by
  rw[pX,az,dM Y,aK Y];intro e;exact I (e▸cB Y)
 simp only[cutAt,decide_eq_false K,decide_eq_false H,Bool.or_self]
theorem Jj(B:List UInt8):∀i,i<=A.length->iZ (str (A++B)) c i=[]/\mN (str (A++B)) c i=0
 |0,_=>⟨rfl,rfl⟩
 |i+1,h=>by
  have:=Jj B i (by omega);have Y:=ahq (B:=B) I i (by omega);exact⟨by rw[iZ,Y];exact this.1,by rw[mN,Y];exact this.2⟩
theorem afx:iZ (str A) c (A.length+1)=[str A]:=by
 have:=Jj I [] A.length (ak _);rw[dH]at this;have Y:cutAt (str A) c A.length=true:=by
  have:A.length=(str A).size:=(ia A).symm;simp only[cutAt,decide_eq_true this,dx]
 rw[iZ,if_pos Y,this.1,this.2,tN];simp
theorem Ru:∀i,i<=B.length+1->iZ (str (A++c::B)) c (A.length+1+i)=str A::iZ (str B) c i/\mN (str (A++c::B)) c (A.length+1+i)=A.length+1+mN (str B) c i
 |0,_=>by
  have:=Jj I (c::B) A.length (ak _);have Y:cutAt (str (A++c::B)) c A.length=true:=by
   have:at8 (str (A++c::B)) A.length=c:=by rw[pX,az];simp
   simp only[cutAt,decide_eq_true this,cL]
  refine⟨?_,?_⟩
  ·show(if cutAt _ c A.length=true then _ else _)=_
   rw[if_pos Y,this.1,this.2,tN];simp[iZ]
  ·show(if cutAt _ c A.length=true then _ else _)=_
   rw[if_pos Y];rfl
 |i+1,h=>by
  obtain⟨U,H⟩:=Ru i (by omega);have Y:cutAt (str (A++c::B)) c (A.length+1+i)=cutAt (str B) c i:=by
   have K:(A.length+1+i=(str (A++c::B)).size)=(i=(str B).size):=by
    rw[ia,ia,ar,cC];exact propext (by omega)
   have R:i<B.length->at8 (str (A++c::B)) (A.length+1+i)=at8 (str B) i:=fun D=>by
    rw[pX,pX,az,az,List.getElem?_append_right (by omega),show A.length+1+i-A.length=i+1 by omega,List.getElem?_cons_succ]
   by_cases D:i<B.length
   ·simp only[cutAt,K,R D]
   ·have:i=(str B).size:=by rw[ia];omega
    simp only[cutAt,K,decide_eq_true this,dx]
  have C:(str (A++c::B)).extract (A.length+1+mN (str B) c i) (A.length+1+i)=(str B).extract (mN (str B) c i) i:=by
   rw[tN,tN,show A++c::B=(A++[c])++B by simp,show A.length+1=(A++[c]).length by simp,List.take_length_add_append,List.drop_length_add_append]
  refine⟨?_,?_⟩
  ·rw[<-dZ,iZ,Y,U,H,iZ];split
   ·rw[C];rfl
   ·rfl
  ·rw[<-dZ,mN,Y,H,mN];split<;>omega
theorem adv:iZ (str (A++c::B)) c ((str (A++c::B)).size+1)=str A::iZ (str B) c ((str B).size+1):=by
 have:=(Ru (B:=B) I (B.length+1) (ak _)).1;rw[ia,ia,ar,cC,show A.length+(B.length+1)+1=A.length+1+(B.length+1) by omega];exact this
end
def jP(c:UInt8):List (List UInt8)->List UInt8
 |[]=>[]
 |x::xs=>x++c::jP c xs
theorem Da(c:UInt8)(T:List UInt8)(K:c∉T):∀Y:List (List UInt8),(∀x∈Y,c∉x)->iZ (str (jP c Y++T)) c ((str (jP c Y++T)).size+1)=Y.map str++[str T]
 |[],_=>by
  rw[jP,List.nil_append,ia];exact afx K
 |x::xs,h=>by
  rw[jP,dG,List.cons_append,adv (h x (by simp)),Da c T K xs (fun y H=>h y (by simp[H]))];rfl
def sK(ref Y:ByteArray):Int:=if(jV ref).2=true then 2 else if Y.size<1\/30<Y.size\/Y.data.toList.all iM=false then 5 else 0
theorem ZQ(ref K:ByteArray)(x y u z:Nat)(a b:ByteArray)(v':ah)(w:ae)(h1:ref.size<=400)(hr:(jV ref).2=false)(Uv:1<=K.size)(F7:K.size<=30)(M:K.data.toList.all iM=true)
  (hx:w.cell? ⟨x,0,none⟩=some (.string ref))(g:w.cell? ⟨u,0,none⟩=some (.string K))(m:RB w y a b)(hz:w.cell? ⟨z,0,none⟩=some v')
  (N:w.frozen? ⟨z,0,none⟩=false)(huy:u≠y)(V:z≠y):
  aj ai 42 #[.pointer (some ⟨x,0,none⟩),.pointer (some ⟨y,0,none⟩),.pointer (some ⟨u,0,none⟩),.pointer (some ⟨z,0,none⟩)] w fun e w'=>
   e=.returned (.tuple #[])/\RB w' y (nN ref) (str (kY ref).2)/\w'.cell? ⟨z,0,none⟩=some (.string (str (K.data.toList.map gb)))/\ko w w' y z:=by
 have d:=laid hr;have j:=laid M;have P:=m.lt;have O:=by have:=aU g;simpa using this
 have C:=by have:=aU hz;simpa using this
 generalize hX:str _=X;generalize l:nN ref=F;have c:=laid l;generalize o:str _=Y;have f:=laid hX;have r:=laid o
 go_enter dh,dk
 go_wp2_with fail
 refine(yg ref _ (by omega)).mono ?_;rintro e w1 ⟨q,s,H⟩;rw[f.out,c.out]at q;obtain rfl:=q d.out;have I:=m.at (H.block y P);have p:w1.cell? ⟨u,0,none⟩=some (.string K):=by rw[(vd H).1 u 0 O];exact g
 have Q:w1.cell? ⟨z,0,none⟩=some v':=by rw[(vd H).1 z 0 C];exact hz
 have E:w1.frozen? ⟨z,0,none⟩=false:=by rw[(vd H).2 z 0 C];exact N
 have c0:=I.c0;have c1:=I.c1;have f0:=I.fz 0;have f1:=I.fz 1;have Z:=I.put F X;obtain⟨_,_,R⟩:=rk _ _ c0 c1;have J:=jA (rZ H _) R;have W:=H.size;have S:((w1.setCell ⟨y,0,none⟩ (.string F)).setCell ⟨y,1,none⟩ (.string X)).cell? ⟨z,0,none⟩=some v':=by rw[ON R (by omega) (by simp_all)];exact Q
 have U:((w1.setCell ⟨y,0,none⟩ (.string F)).setCell ⟨y,1,none⟩ (.string X)).frozen? ⟨z,0,none⟩=false:=by simp_all
 have A:z<((w1.setCell ⟨y,0,none⟩ (.string F)).setCell ⟨y,1,none⟩ (.string X)).heap.size:=by have:=R.size;omega
 go_wp2_with fail
 generalize(w1.setCell _ _).setCell _ _=w2 at *;refine(Xn _ 1 30 _ (by omega) (by omega) (by omega) (by omega) j.out).mono ?_;rintro e w3 ⟨rfl,D⟩;have T:w3.cell? ⟨z,0,none⟩=some v':=by rw[(vd D).1 z 0 A];exact S
 have G:w3.frozen? ⟨z,0,none⟩=false:=by rw[(vd D).2 z 0 A];exact U
 have B:=Z.at (D.block y Z.lt);have L:w2.grownBy (w3.setCell _ (.string Y)) _:=jA (rZ D _) (oZ w3 z 0 _);have R:=oZ w3 z 0 (.string Y);have f1:=B.at (R.block y B.lt (by simpa using fun h=>V h.symm));have f2:(w3.setCell _ (.string Y)).cell? _=some _:=World.cell?_setCell_same _ _ _ T;go_wp2
 go_end0
 exact⟨rfl,f1,f2,ko.of J L⟩
theorem Ys(ref Y:ByteArray)(x y u z:Nat)(a b:ByteArray)(v':ah)(w:ae)(g:ref.size<=400)(E:Y.size<=ax)(U:(jV ref).2=true\/Y.size<1\/30<Y.size\/Y.data.toList.all iM=false)
  (m:w.cell? ⟨x,0,none⟩=some (.string ref))(S:w.cell? ⟨u,0,none⟩=some (.string Y))(T:RB w y a b)(hz:w.cell? ⟨z,0,none⟩=some v')
  (G:u≠y):
  aj ai 42 #[.pointer (some ⟨x,0,none⟩),.pointer (some ⟨y,0,none⟩),.pointer (some ⟨u,0,none⟩),.pointer (some ⟨z,0,none⟩)] w fun e w'=>
   (∃p,e=.panicked (nQ (sK ref Y) p))/\ko w w' y z:=by
 have O:=T.lt;have N:=by have:=aU S;simpa using this
 by_cases hr:(jV ref).2=true
 ·have F:sK ref Y=2:=if_pos hr;rw[F];have C:=laid hr
  go_enter dh,dk
  go_wp2_with fail
  refine(yg ref _ (by omega)).mono ?_;rintro e w1 ⟨P,Q,K⟩;obtain rfl:=Q C.out;exact⟨rfl,⟨_,rfl⟩,MS K _ _⟩
 ·have I:=U.resolve_left hr;have F:sK ref Y=5:=by unfold sK;rw[if_neg hr,if_pos I]
  rw[F];rw[bI]at hr;have C:=laid hr;have B:=laid I;have R:∀W,aj ai 44 #[.string Y,.int .i64 1,.int .i64 30] W fun e w'=>(∃p,e=.panicked (nQ 5 p))/\af W.heap.size W w':=by
   intro W;by_cases M:(Y.size:Int)<1\/30<(Y.size:Int)
   ·exact WI _ 1 30 W E M
   ·refine WX _ 1 30 W (by omega) (by omega) (by omega) (by omega) ?_;rcases B.out with h|h|h
    ·omega
    ·omega
    ·exact h
  have D:=laid R
  go_enter dh,dk
  go_wp2_with fail
  refine(yg ref _ (by omega)).mono ?_;rintro e w1 ⟨P,Q,K⟩;obtain rfl:=P C.out;generalize str _=X at *;generalize nN ref=V at *;have H:=T.at (K.block y O);have Z:w1.cell? ⟨u,0,none⟩=some (.string Y):=by rw[(vd K).1 u 0 N];exact S
  have c0:=H.c0;have c1:=H.c1;have f0:=H.fz 0;have f1:=H.fz 1;obtain⟨_,_,L⟩:=rk (.string V) (.string X) c0 c1;have J:=jA (rZ K _) L;go_wp2_with fail
  refine(D.out _).mono ?_;rintro e w3 ⟨⟨p,rfl⟩,A⟩;exact⟨rfl,⟨p,rfl⟩,ko.of J (rZ A _)⟩
theorem MU(ref Y:ByteArray)(x y u z:Nat)(a b:ByteArray)(v':ah)(w:ae)(g:ref.size<=400)(hr:(jV ref).2=false)(C:1<=Y.size)(F:Y.size<=30)(U:Y.data.toList.all iM=true)
  (E:w.cell? ⟨x,0,none⟩=some (.string ref))(V:w.cell? ⟨u,0,none⟩=some (.string Y))(G:RB w y a b)(W:w.cell? ⟨z,0,none⟩=some v')
  (M:w.frozen? ⟨z,0,none⟩=false)(O:u≠y)(T:z≠y):
  aj ai 41 #[.func (.func 42) #[] #[.pointer (some ⟨x,0,none⟩),.pointer (some ⟨y,0,none⟩),.pointer (some ⟨u,0,none⟩),.pointer (some ⟨z,0,none⟩)]] w fun e w'=>
   e=.returned (.agg #[.int .i64 0,.int .i64 0])/\RB w' y (nN ref) (str (kY ref).2)/\w'.cell? ⟨z,0,none⟩=some (.string (str (Y.data.toList.map gb)))/\ko w w' y z:=by
 have Z:=laid hr;have X:=laid U;clear hr U;have P:x<w.heap.size:=by have:=aU E;simpa using this
 have Q:=G.lt;have N:u<w.heap.size:=by have:=aU V;simpa using this
 have B:z<w.heap.size:=by have:=aU W;simpa using this
 go_enter_defers Tryz.func41,ei
 go_wp2_with fail
 refine(ZQ ref Y x y u z a b v' _ g Z.out C F X.out ?_ ?_ (G.at (bk _ _ Q)) ?_ ?_ O T).mono ?_
 ·rw[bc _ _ _ P];exact E
 ·rw[bc _ _ _ N];exact V
 ·rw[bc _ _ _ B];exact W
 ·rw[World.frozen?_alloc_past _ _ _ B];exact M
 rintro e w1 ⟨rfl,D,R,J⟩;have I:=J.block w.heap.size (by simp) (by omega) (by omega);rw[heap_alloc_new]at I;have n0:w1.cell? ⟨w.heap.size,0,none⟩=some (.int .i64 0):=by rw[ao _ _ _ _ _ _ I];rfl
 have n1:w1.cell? ⟨w.heap.size,1,none⟩=some (.int .i64 0):=by rw[ao _ _ _ _ _ _ I];rfl
 have z0:w1.frozen? ⟨w.heap.size,0,none⟩=false:=cI _ _ _ _ _ I;have d:w1.frozen? ⟨w.heap.size,1,none⟩=false:=cI _ _ _ _ _ I;go_wp2
 obtain⟨m0,q,K⟩:=rk (.int .i64 0) (.int .i64 0) n0 n1;have S:z<w1.heap.size:=by have:=aU R;simpa using this
 have A:=D.at (K.block y D.lt (by simp;omega));have H:=R;rw[<-ON (j:=0) K S (by simp;omega)]at H;have L:=ko.new J K;clear D R I n0 n1 z0 d J K;refine leaves_cons (f:=61) (args:=#[.pointer (some ⟨w.heap.size,0,none⟩)]) (by simp) (by simp[go_sem]) ?_;refine(Oa _ _).mono ?_;rintro e l c ⟨rfl,rfl,rfl⟩;refine⟨.agg #[.int .i64 0,.int .i64 0],?_,rfl,A,H,L⟩;simp[results,ek,go_sem,m0,q]
theorem WE(ref Y:ByteArray)(x y u z:Nat)(a b:ByteArray)(v':ah)(w:ae)(T:ref.size<=400)(V:Y.size<=ax)(K:(jV ref).2=true\/Y.size<1\/30<Y.size\/Y.data.toList.all iM=false)
  (N:w.cell? ⟨x,0,none⟩=some (.string ref))(M:w.cell? ⟨u,0,none⟩=some (.string Y))(O:RB w y a b)(S:w.cell? ⟨z,0,none⟩=some v')
  (U:u≠y):
  aj ai 41 #[.func (.func 42) #[] #[.pointer (some ⟨x,0,none⟩),.pointer (some ⟨y,0,none⟩),.pointer (some ⟨u,0,none⟩),.pointer (some ⟨z,0,none⟩)]] w fun e w'=>
   (∃p,e=.returned (.agg #[.int .i64 (sK ref Y),.int .i64 p]))/\ko w w' y z:=by
 have J:=laid K;clear K;have A:x<w.heap.size:=by have:=aU N;simpa using this
 have B:=O.lt;have I:u<w.heap.size:=by have:=aU M;simpa using this
 have C:z<w.heap.size:=by have:=aU S;simpa using this
 go_enter_defers Tryz.func41,ei
 go_wp2_with fail
 refine(Ys ref Y x y u z a b v' _ T V J.out ?_ ?_ (O.at (bk _ _ B)) ?_ U).mono ?_
 ·rw[bc _ _ _ A];exact N
 ·rw[bc _ _ _ I];exact M
 ·rw[bc _ _ _ C];exact S
 rintro e w1 ⟨⟨p,rfl⟩,F⟩;have H:=F.block w.heap.size (by simp) (by omega) (by omega);rw[heap_alloc_new]at H;have n0:w1.cell? ⟨w.heap.size,0,none⟩=some (.int .i64 0):=by rw[ao _ _ _ _ _ _ H];rfl
 have n1:w1.cell? ⟨w.heap.size,1,none⟩=some (.int .i64 0):=by rw[ao _ _ _ _ _ _ H];rfl
 have z0:w1.frozen? ⟨w.heap.size,0,none⟩=false:=cI _ _ _ _ _ H;have X:w1.frozen? ⟨w.heap.size,1,none⟩=false:=cI _ _ _ _ _ H;refine leaves_cons (f:=61) (args:=#[.pointer (some ⟨w.heap.size,0,none⟩)]) (by simp) (by simp[go_sem]) ?_;refine(N_ _ _ _ (sK ref Y) p [] _ n0 n1 z0 X).mono ?_;rintro e E Q ⟨rfl,rfl,rfl⟩;have L:w.heap.size<w1.heap.size:=by have:=aU n0;simpa using this
 obtain⟨m0,P,D⟩:=rk (.int .i64 (sK ref Y)) (.int .i64 p) n0 n1;generalize Z:(w1.setCell ⟨w.heap.size,0,none⟩ (.int .i64 (sK ref Y))).setCell ⟨w.heap.size,1,none⟩ (.int .i64 p)=w2 at *;have R:w.heap.size<w2.heap.size:=by have:=D.size;omega
 refine⟨.agg _,?_,⟨p,rfl⟩,?_⟩
 ·simp[results,ek,go_sem,m0,P,R]
 ·exact(ko.new F D).alloc _
theorem Ps(zs ys:List Nat):∀i,i<=zs.length->j0 (zs++ys) i=j0 zs i
 |0,_=>rfl
 |i+1,h=>by
  rw[j0,j0,Ps zs ys i (by omega)];have:(zs++ys).getD i 0=zs.getD i 0:=by
   rw[az,az,dM (by omega)]
  rw[this]
theorem afy(n:Nat):gV n≠ []:=by
 by_cases h:n<=9
 ·rw[tj n h];simp
 ·rw[uL n h];simp
theorem Im(zs:List Nat)(i:Nat):j0 zs i=[]↔i=0:=by
 cases i with
 |zero=>simp[j0]
 |succ i=>simp[j0,afy]
theorem HD(P X:ByteArray)(k q st:Nat)(t:Int):∀n,uW P X k q st t n=j0 (jE P X k q st t n) (jE P X k q st t n).length
 |0=>rfl
 |n+1=>by
  have K:=HD P X k q st t n;by_cases h:looked P X k q st t n=true
  ·rw[GM h,uW,if_pos h];generalize jE P X k q st t n=zs at *;rw[ar,show [n].length=1 from rfl,j0,Ps zs [n] _ (ak _),K];have H:(zs++[n]).getD zs.length 0=n:=by simp
   rw[H];by_cases Y:zs.length=0
   ·rw[if_pos ((Im zs _).2 Y),if_pos Y,(Im zs _).2 Y];rfl
   ·rw[if_neg (fun e=>Y ((Im zs _).1 e)),if_neg Y];rfl
  ·rw[bI]at h;rw[OD h,uW,if_neg (by simp[h]),K]
theorem G7(P X:ByteArray)(k q st:Nat)(t:Int):∀n,∀z∈jE P X k q st t n,z<n
 |0,z,h=>by simp[jE]at h
 |n+1,z,h=>by
  have Y:=G7 P X k q st t n;simp only[jE]at h;split at h
  ·rw[bh,bM]at h;rcases h with h|h
   ·have:=Y z h;omega
   ·omega
  ·have:=Y z h;omega
theorem Jk{w1:ae}{o1 o2 o3 o4:Obj}(h:ko ((((w.alloc o1).alloc o2).alloc o3).alloc o4) w1 (w.heap.size+1+1) (w.heap.size+1+1+1)):af w.heap.size w w1:=by
 have Y:af _ w _:=((((ay _ _).alloc (ak _) o1).alloc (by simp) o2).alloc (by simp;omega) o3).alloc (by simp;omega) o4;exact Y.trans (h.below (by simp;omega) (by omega) (by omega))
theorem HH(w:ae)(Y o1:Obj)(o3:Obj):RB ((((w.alloc Y).alloc o1).alloc (.cells #[.string ⟨#[]⟩,.string ⟨#[]⟩] 68)).alloc o3) (w.heap.size+1+1) ⟨#[]⟩ ⟨#[]⟩:=by
 unfold RB;rw[bk _ _ (by simp)];have e:w.heap.size+1+1=((w.alloc Y).alloc o1).heap.size:=by simp
 rw[e,heap_alloc_new]
theorem abD(ref Y:ByteArray)(k q step:Int)(w:ae)(K:ref.size<=ax)(H:400<ref.size):
  aj ai 28 #[.string ref,.string Y,.int .i64 k,.int .i64 q,.int .i64 step] w fun e w'=>e=.returned (.tuple #[.string ⟨#[]⟩,.int .i64 1])/\af w.heap.size w w':=by
 go_wp2
 go_ret2
 exact⟨rfl,((ay _ _).alloc (ak _) _).alloc (by simp) _⟩
theorem Qx(ref Y:ByteArray)(k q step:Int)(w:ae)(c:Int)(C:sK ref Y=c)(F:c=2\/c=5)(U:Y.size<=ax)(M:¬400<ref.size)(H:(jV ref).2=true\/Y.size<1\/30<Y.size\/Y.data.toList.all iM=false):
  aj ai 28 #[.string ref,.string Y,.int .i64 k,.int .i64 q,.int .i64 step] w fun e w'=>e=.returned (.tuple #[.string ⟨#[]⟩,.int .i64 c])/\af w.heap.size w w':=by
 have R:=laid H;have I:=laid C
 go_enter de,dj
 go_wp2_with fail
 refine(WE ref _ _ _ _ _ _ _ (.string ⟨#[]⟩) _ (by omega) U R.out (by simp[go_sem]) (by simp[go_sem]) (HH w _ _ _) (by simp[go_sem]) (by omega)).mono ?_;rintro e w1 ⟨⟨p,rfl⟩,D⟩;have K:=Jk D;go_wp2
 go_quiet(fail)
 go_wp2
 go_ret2
 exact⟨rfl,Go.below_drewN (K.alloc K.size _) _⟩
theorem adw(ref K:ByteArray)(k q step:Int)(w:ae)(g:¬400<ref.size)(hr:(jV ref).2=false)(M:1<=K.size)(N:K.size<=30)(F:K.data.toList.all iM=true)(S:pZ k K.size q step=false):
  aj ai 28 #[.string ref,.string K,.int .i64 k,.int .i64 q,.int .i64 step] w fun e w'=>e=.returned (.tuple #[.string ⟨#[]⟩,.int .i64 4])/\af w.heap.size w w':=by
 have X:=laid hr;have Q:=laid F;have T:=laid S;have V:=laid (show(str (K.data.toList.map gb)).size=K.size by rw[ia];simp);clear hr F S
 go_enter de,dj
 go_wp2_with fail
 refine(MU ref K w.heap.size (w.heap.size+1+1) (w.heap.size+1) (w.heap.size+1+1+1) ⟨#[]⟩ ⟨#[]⟩ (.string ⟨#[]⟩) _ (by omega) X.out M N Q.out (by simp[go_sem]) (by simp[go_sem]) (HH w _ _ _) (by simp[go_sem]) (by simp[go_sem]) (by omega) (by omega)).mono ?_;rintro e w1 ⟨rfl,E,L,B⟩;have I:=Jk B;have O:=by have:=B.size;simp at this;omega
 clear B;generalize str (K.data.toList.map gb)=Y at *;have W:=V.out;have A:∀o o',((w1.alloc o).alloc o').cell? ⟨w.heap.size+1+1+1,0,none⟩=some (.string Y):=fun o o'=>by
  rw[bc _ _ _ (by simp;omega),bc _ _ _ O];exact L
 go_wp2_with fail
 refine(HA k q step _).mono ?_;rintro e w2 ⟨rfl,H⟩;have D:af w.heap.size w w2:=((I.alloc I.size _).alloc (by simp;omega) _).trans (H.mono (by simp;omega));by_cases J:nJ k q step=false
 ·rw[J];clear H;go_wp2
  go_ret2
  exact⟨rfl,D⟩
 ·rw[du]at J;rw[J];have G:¬k<(Y.size:Int):=by
   have h:=T.out;rw[Hz,J,Bool.true_and]at h;have:=of_decide_eq_false h;omega
  have gF:w2.heap[w1.heap.size+1]?=some (.cells #[.int .i64 k,.int .i64 q,.int .i64 step] 75 (0,0)):=by
   rw[H.block _ (by simp)];have Z:(w1.alloc (.cells #[.int .i64 0,.int .i64 0] 70)).heap.size=w1.heap.size+1:=by simp
   rw[<-Z,heap_alloc_new]
  have c0:w2.cell? ⟨w1.heap.size+1,0,none⟩=some (.int .i64 k):=by rw[ao w2 _ 0 _ _ _ gF];rfl
  have c1:w2.cell? ⟨w1.heap.size+1,1,none⟩=some (.int .i64 q):=by rw[ao w2 _ 1 _ _ _ gF];rfl
  have c2:w2.cell? ⟨w1.heap.size+1,2,none⟩=some (.int .i64 step):=by rw[ao w2 _ 2 _ _ _ gF];rfl
  have P:w2.cell? ⟨w.heap.size+1+1+1,0,none⟩=some (.string Y):=by rw[H.cell (by simp;omega)];exact A _ _
  have C:Y.size<=1000:=by omega
  clear H A gF J;go_wp2_with fail
  refine(Gz k q step Y _ C).mono ?_;rintro e w3 ⟨rfl,R⟩;rw[decide_eq_false (show¬k<(Y.size:Int) by omega)];have U:af w.heap.size w w3:=D.trans (R.mono D.size);clear R;go_wp2
  go_ret2
  exact⟨rfl,U⟩
theorem abE(ref K:ByteArray)(k q st:Nat)(w:ae)(M:iN w)(ha:¬400<ref.size)(hr:(jV ref).2=false)(g:1<=K.size)(u:K.size<=30)(E:K.data.toList.all iM=true)
  (hk:k<=6)(hkm:k<K.size)(m:1<=q)(hq2:q<=8)(Mm:1<=st)(hs2:st<=200):
  aj ai 28 #[.string ref,.string K,.int .i64 (k:Int),.int .i64 (q:Int),.int .i64 (st:Int)] w fun e w'=>
   e=.returned (.tuple #[.string (str (uW (str (K.data.toList.map gb)) (str (kY ref).2) k q st (ma K.size k q) (stretches (kY ref).2.length st))),.int .i64 0])/\af w.heap.size w w':=by
 have HR:=laid hr;have a:=laid E;have i:=laid (show nJ k q st=true by unfold nJ;rw[decide_eq_true (by omega)]);have HL:=laid (show(str (K.data.toList.map gb)).size=K.size by rw[ia];simp);have HT:=laid M;have W:=Ox ref;generalize b:str (K.data.toList.map gb)=Y at *;generalize hX:str (kY ref).2=X at *;have j:X.size=(kY ref).2.length:=by rw[<-hX,ia]
 rw[<-j]at W⊢;have r:=HL.out;rw[<-r];generalize n:str _=O;have x:=laid n;have HX:=laid hX;have HY:=laid b;clear hr E M hX b j n
 go_enter de,dj
 go_wp2_with fail
 refine(MU ref K w.heap.size (w.heap.size+1+1) (w.heap.size+1) (w.heap.size+1+1+1) ⟨#[]⟩ ⟨#[]⟩ (.string ⟨#[]⟩) _ (by omega) HR.out g u a.out (by simp[go_sem]) (by simp[go_sem]) (HH w _ _ _) (by simp[go_sem]) (by simp[go_sem]) (by omega) (by omega)).mono ?_;rintro e w1 ⟨rfl,P,Q,S⟩;rw[HX.out]at P;rw[HY.out]at Q;generalize nN ref=QN at *;have B:=Jk S;have p:w.heap.size+1+1+1<w1.heap.size:=by have:=S.size;simp at this;omega
 clear S;have J:∀o o',((w1.alloc o).alloc o').cell? ⟨w.heap.size+1+1+1,0,none⟩=some (.string Y):=fun o o'=>by
  rw[bc _ _ _ (by simp;omega),bc _ _ _ p];exact Q
 have C:∀o o',((w1.alloc o).alloc o').cell? ⟨w.heap.size+1+1,1,none⟩=some (.string X):=fun o o'=>by
  rw[bc _ _ _ (by simp;omega),bc _ _ _ (by omega)];exact P.c1
 go_wp2_with fail
 refine(HA k q st _).mono ?_;rintro e w2 ⟨rfl,D⟩;rw[i.out];have gF:ST w2 (w1.heap.size+1) k q st:=by
  have y:=ST.new (w1.alloc (.cells #[.int .i64 0,.int .i64 0] 70)) k q st;have e0:(w1.alloc (.cells #[.int .i64 0,.int .i64 0] 70)).heap.size=w1.heap.size+1:=by simp
  rw[e0]at y;exact y.below D (by simp)
 have L:w2.cell? ⟨w.heap.size+1+1+1,0,none⟩=some (.string Y):=by rw[D.cell (by simp;omega)];exact J _ _
 have F:w2.cell? ⟨w.heap.size+1+1,1,none⟩=some (.string X):=by rw[D.cell (by simp;omega)];exact C _ _
 have H:af w.heap.size w w2:=((B.alloc B.size _).alloc (by simp;omega) _).trans (D.mono (by simp;omega));clear D J C Q P;have c0:=gF.c0;have c1:=gF.c1;have c2:=gF.c2;have V:Y.size<=30:=by omega
 have l:(k:Int)<(Y.size:Int):=by omega
 go_wp2_with fail
 refine(Gz k q st Y _ (by omega)).mono ?_;rintro e T ⟨rfl,R⟩;rw[decide_eq_true l];clear c0 c1 c2;have A:=gF.below R gF.lt;have f:T.cell? ⟨w.heap.size+1+1+1,0,none⟩=some (.string Y):=by rw[R.cell (by have:=gF.lt;simp;omega)];exact L
 have d:T.cell? ⟨w.heap.size+1+1,1,none⟩=some (.string X):=by rw[R.cell (by have:=gF.lt;simp;omega)];exact F
 replace H:af w.heap.size w T:=H.trans (R.mono H.size);clear R gF L F;have c0:=A.c0;have c1:=A.c1;have c2:=A.c2;clear A;go_wp2_with fail
 refine(Np X Y k q st _ W V hk m hq2 Mm hs2).mono ?_;rintro e w3 ⟨v,rfl,G,U⟩;have I:af w.heap.size w w3:=H.trans (U.mono H.size);clear U;have t:=Az Y X k q st (ma Y.size k q) (stretches X.size st);have hsl:stretches X.size st<=400:=by
  unfold stretches;have:=cW (X.size+st-1) st;omega
 have s:=laid (HD Y X k q st (ma Y.size k q) (stretches X.size st));have HZ:=laid (fun z h=>aL (Nat.le_of_lt (G7 Y X k q st (ma Y.size k q) (stretches X.size st) z h)) (by omega:stretches X.size st<=9999));have c:=laid (show str (j0 _ _)=O by rw[<-s.out];exact x.out);clear s x;generalize jE Y X k q st (ma Y.size k q) (stretches X.size st)=zs at *;go_wp2_with fail
 refine(WQ zs v _ _ G HZ.out (by omega) (HT.out.on I)).mono ?_;rintro e w4 ⟨rfl,Z⟩;rw[c.out];have N:af w.heap.size w w4:=I.trans (Z.mono I.size);clear Z;go_wp2
 go_ret2
 exact⟨rfl,N⟩
theorem adx(ref Y:ByteArray)(k q step:Int)(w:ae)(C:iN w)(M:ref.size<=ax)(F:Y.size<=ax):
  aj ai 28 #[.string ref,.string Y,.int .i64 k,.int .i64 q,.int .i64 step] w fun e w'=>
   e=.returned (.tuple #[.string (tX ref Y k q step),.int .i64 (qb ref Y k q step)])/\af w.heap.size w w':=by
 by_cases K:400<ref.size
 ·have H:tX ref Y k q step=⟨#[]⟩:=if_pos (.inl K);have D:qb ref Y k q step=1:=if_pos K;rw[H,D];exact abD ref _ k q _ w M K
 by_cases hr:(jV ref).2=true
 ·have H:tX ref Y k q step=⟨#[]⟩:=if_pos (.inr (.inl hr));have D:qb ref Y k q step=2:=by unfold qb;rw[if_neg K,if_pos hr]
  rw[H,D];exact Qx ref _ k q _ w 2 (if_pos hr) (.inl rfl) F K (.inl hr)
 have U:=by simpa using hr
 by_cases R:Y.size<1\/30<Y.size\/Y.data.toList.all iM=false
 ·have H:tX ref Y k q step=⟨#[]⟩:=if_pos (.inr (.inr (by rcases R with h|h|h;exact .inl h;exact .inr (.inl h);exact .inr (.inr (.inl h)))));have D:qb ref Y k q step=5:=by unfold qb;rw[if_neg K,if_neg hr,if_pos R]
  rw[H,D];exact Qx ref _ k q _ w 5 (by unfold sK;rw[if_neg hr,if_pos R]) (.inr rfl) F K (.inr R)
 have A:Y.data.toList.all iM=true:=by simp_all
 by_cases I:pZ k Y.size q step=false
 ·have H:tX ref Y k q step=⟨#[]⟩:=if_pos (.inr (.inr (.inr (.inr (.inr I)))));have D:qb ref Y k q step=4:=by unfold qb;rw[if_neg K,if_neg hr,if_neg R,if_pos I]
  rw[H,D];exact adw ref _ k q _ w K U (by omega) (by omega) A I
 have H:tX ref Y k q step=str _:=if_neg (by simp_all);have D:qb ref Y k q step=0:=by unfold qb;rw[if_neg K,if_neg hr,if_neg R,if_neg I]
 have B:=by
  rw[du]at I;exact of_decide_eq_true I
 obtain⟨J,rfl⟩:=cQ B.1;obtain⟨L,rfl⟩:=cQ (show 0<=q by omega);obtain⟨N,rfl⟩:=cQ (show 0<=step by omega);rw[H,D];exact abE ref _ J L N w C K U (by omega) (by omega) A (by omega) (by omega) (by omega) (by omega) (by omega) (by omega)
end
section
open RowKit Maps Go.Sort Shelf
theorem ady(m:Nat):AnyZI.SortsIn ai Tryz.NK Fence.wide m:=
 ⟨fun blk off cap D W H Y K=>callsIn_wide.2 (AnyM.slices_Sort_int Tryz.S_ blk off cap D W H Y K),
  fun p cap W=>callsIn_wide.2 (AnyM.slices_Sort_int_none Tryz.S_ p cap W)⟩
theorem Yt(Y:Option Nat)(W:ae):
  aj ai 124 #[.map Y] W fun e w'=>e=.returned (.func (.func 143) #[] #[.pointer (some ⟨W.heap.size,0,none⟩)])/\w'=W.alloc (.cells #[.map Y] 166):=by
 refine(ey (n:=5)).1 ?_;exact AnyZI.keys_in Tryz.S9 _ 5 trivial rfl Y W
theorem Xf{H:Type}(b C:Nat)(D0:DataW H)(R:ah->Option _)(w:ae)(Y:w.ownsMap ai 3 R b C D0)(O:Maps.size D0<=10000):
  aj ai 123 #[.func (.func 143) #[] #[.pointer (some ⟨w.heap.size,0,none⟩)]] (w.alloc (.cells #[.map (some b)] 166)) fun e w'=>∃(v:ah) (U:List Int),e=.returned v/\U.Perm (cm D0)/\
   w'.ownsRow w.heap.size 3 1 v U.length ((U.mergeSort (fun x y=>decide (x<=y))).map encZ)/\af w.heap.size w w':=by
 refine(ey (n:=5)).1 ?_;have A:=Y.lt;have D:SeqGives Fence.wide 2 _ 143 _ _ _ _ (w.alloc (.cells #[.map (some b)] 166)):=
  AnyZI.keys_gives {Tryz.S9 with} _ _ trivial rfl (by omega) w.heap.size b C D0 _ (by simp) (by simp) (by
   obtain⟨es,clock,I,F,N,L⟩:=Y;exact⟨es,clock,(Below.heap_alloc _ _ b A).trans I,F,N,L⟩)
 have J:=AnyZI.sorted_in Tryz.afk _ 5 trivial trivial trivial trivial rfl (by omega) (ady _) (enters_of Tryz.func142 (by kernel_rfl) rfl) 143 _ trivial (enters_of Tryz.func143 (by kernel_rfl) rfl) _ _ (by unfold ax;omega) (by omega) _ D;refine J.mono ?_;rintro e w' ⟨v,U,rfl,M,K,B,I⟩;exact⟨v,U,rfl,M,ownsRow_base_a K (by simp),((ay _ w).alloc (ak _) _).trans (I.mono (by simp))⟩
end
section
structure Good(q:Nat)(p t:ByteArray)(i j:Nat)(l:List (Nat×Nat)):Prop where
 F8:∀w∈l,w.1+q<=i/\w.2+q<=j/\∀u,u<q->ag (at8 p (w.1+u)) (at8 t (w.2+u))=true
 up:l.Pairwise fun a b=>a.1<b.1/\a.2<b.2
theorem Good.nil(q:Nat)(p t:ByteArray)(i j:Nat):Good q p t i j []:=⟨fun _ h=>by simp at h,List.Pairwise.nil⟩
theorem Good.mono{t:ByteArray}{i' j':Nat}{l:List _}(h:Good q p t i j l)(Y:i<=i')(K:j<=j'):Good q p t i' j' l:=
 ⟨fun w hw=>by have:=h.F8 w hw;exact⟨by omega,by omega,this.2.2⟩,h.up⟩
structure rW(p t:ByteArray)(i j r:Nat):Prop where
 li:r<=i
 lj:r<=j
 all:∀u,u<r->ag (at8 p (i-1-u)) (at8 t (j-1-u))=true
theorem rW.zero(p t:ByteArray)(i j:Nat):rW p t i j 0:=⟨aQ _,aQ _,fun u h=>by omega⟩
theorem rW.succ{t:ByteArray}{r:Nat}(h:rW p t i j r)(Y:ag (at8 p i) (at8 t j)=true):rW p t (i+1) (j+1) (r+1):=
 ⟨by have:=h.li;omega,by have:=h.lj;omega,fun u K=>by
  cases u with
  |zero=>simpa using Y
  |succ u=>
   have:=h.all u (by omega);rw[show i+1-1-(u+1)=i-1-u by omega,show j+1-1-(u+1)=j-1-u by omega];omega⟩
theorem CH(q:Nat)(U:1<=q)(p t:ByteArray):∀i j,∃l r,Good q p t i j l/\rW p t i j r/\i+(q-1-min r (q-1))<=l.length+q *dT p t i j+(q-1)
 |0,j=>⟨[],0,Good.nil _ _ _ _ _,rW.zero _ _ _ _,by
   have:0<=q *dT p t 0 j:=aQ _;simp only[cU];omega⟩
 |i+1,0=>⟨[],0,Good.nil _ _ _ _ _,rW.zero _ _ _ _,by
   rw[dT];have:i+1<=q *(i+1):=Nat.le_mul_of_pos_left _ U;simp only[cU];omega⟩
 |i+1,j+1=>by
  have D:dT p t (i+1) (j+1)=dT p t i j+cost p t i j\/dT p t (i+1) (j+1)=dT p t i (j+1)+1\/dT p t (i+1) (j+1)=dT p t (i+1) j+1:=by rw[dT];omega
  rcases D with h|h|h
  ·obtain⟨l,r,K,hr,H⟩:=CH q U p t i j;by_cases R:ag (at8 p i) (at8 t j)=true
   ·have A:cost p t i j=0:=if_pos R;have h:dT p t (i+1) (j+1)=dT p t i j:=by rw[h,A];rfl
    rw[h];have Y:=hr.succ R;by_cases C:q<=r+1
    ·refine⟨l++[(i+1-q,j+1-q)],r+1,⟨fun w hw=>?_,?_⟩,Y,?_⟩
     ·rw[bh,bM]at hw;rcases hw with hw|hw
      ·have:=K.F8 w hw;exact⟨by omega,by omega,this.2.2⟩
      ·subst hw;have F:=Y.li;have J:=Y.lj;refine⟨by simp only;omega,by simp only;omega,fun u L=>?_⟩;have:=Y.all (q-1-u) (by omega);simp only;rw[show i+1-q+u=i+1-1-(q-1-u) by omega,show j+1-q+u=j+1-1-(q-1-u) by omega];exact this
     ·refine dV.2 ⟨K.up,List.pairwise_singleton _ _,fun a I b B=>?_⟩;rw[bM]at B;subst B;have:=K.F8 a I;simp only;omega
     ·rw[ar];simp only[cC,cU];omega
    ·exact⟨l,r+1,K.mono (by omega) (by omega),Y,by omega⟩
   ·have A:cost p t i j=1:=if_neg R;rw[A]at h;rw[h,c9];exact⟨l,0,K.mono (by omega) (by omega),rW.zero _ _ _ _,by omega⟩
  ·obtain⟨l,r,K,hr,H⟩:=CH q U p t i (j+1);rw[h,c9];exact⟨l,0,K.mono (by omega) (by omega),rW.zero _ _ _ _,by omega⟩
  ·obtain⟨l,r,K,hr,H⟩:=CH q U p t (i+1) j;rw[h,c9];exact⟨l,0,K.mono (by omega) (by omega),rW.zero _ _ _ _,by omega⟩
theorem CS(P:Nat->Bool):∀k (xs:List Nat),xs.Nodup->(∀x∈xs,x<k/\P x=true)->xs.length<=((bF k).countP P)
 |0,xs,_,h=>by
  cases xs with
  |nil=>simp
  |cons a l=>have:=(h a (by simp)).1;omega
 |k+1,xs,K,h=>by
  rw[cV,dI];by_cases hk:k∈xs
  ·have R:=(h k hk).2;have D:=CS P k _ (K.erase k) (fun x Y=>by
    have H:=(K.mem_erase_iff).1 Y;have:=h x H.2;exact⟨by omega,this.2⟩)
   simp_all
  ·have D:=CS P k xs K (fun x Y=>by
    have:x≠k:=fun e=>hk (e▸Y);have:=h x Y;exact⟨by omega,this.2⟩)
   omega
theorem CU(s:ByteArray)(q:Nat)(z:List _)(Y:lP z=true):∀k,jk s q z k=(bF k).countP (fun x=>decide (iG s q x=z))
 |0=>rfl
 |k+1=>by
  rw[jk,CU s q z Y k,cV,dI];simp_all
theorem Pt(f:Nat×Nat->List _)(Y:List _):∀(l:List _),(∀w∈l,f w∈Y)->l.length<=jZ (fun z=>l.countP (fun w=>decide (f w=z))) Y
 |[],_=>aQ _
 |w::l,h=>by
  have I:=Pt f Y l (fun w' U=>h w' (by simp_all));have H:1<=jZ (fun z=>if f w=z then 1 else 0) Y:=by
   have A:=h w (by simp);clear I h;induction Y with
   |nil=>simp at A
   |cons a Y D=>
    have e:jZ (fun z=>if f w=z then 1 else 0) (a::Y)=(if f w=a then 1 else 0)+jZ (fun z=>if f w=z then 1 else 0) Y:=by simp[jZ]
    rw[e];by_cases B:f w=a
    ·simp_all
    ·simp_all
  have K:jZ (fun z=>(w::l).countP (fun w=>decide (f w=z))) Y=jZ (fun z=>l.countP (fun w=>decide (f w=z))) Y+jZ (fun z=>if f w=z then 1 else 0) Y:=by
   clear I H h;induction Y with
   |nil=>rfl
   |cons a Y D=>
    have R:∀g,jZ g (a::Y)=g a+jZ g Y:=fun g=>by simp[jZ]
    rw[R,R,R,D];have:(w::l).countP (fun w=>decide (f w=a))=l.countP (fun w=>decide (f w=a))+(if f w=a then 1 else 0):=by
     rw[List.countP_cons];simp
    omega
  rw[K,cC];omega
theorem adz(f g:List _->Nat)(Y:List _)(h:∀z∈Y,f z<=g z):jZ f Y<=jZ g Y:=by
 induction Y with
 |nil=>exact ak _
 |cons a Y D=>
  have K:∀g,jZ g (a::Y)=g a+jZ g Y:=fun g=>by simp[jZ]
  rw[K,K];have:=D (fun z H=>h z (by simp[H]));have:=h a (by simp);omega
theorem Yu(p S:ByteArray)(q:Nat)(F:1<=q)(l:List (Nat×Nat))(C:l.Pairwise fun a b=>a.1<b.1/\a.2<b.2)
  (H:∀w∈l,w.1+q<=p.size/\w.2+q<=S.size/\iG p q w.1=iG S q w.2/\lP (iG p q w.1)=true):l.length<=sy p S q:=by
 have U:=Cn p q (p.size+1-q);have Y:=fun z=>CG p q z (p.size+1-q);rw[<-OC p S q F _ U Y];refine aL (Pt (fun w=>iG p q w.1) _ l (fun w hw=>?_)) (adz _ _ _ (fun z J=>?_))
 ·have h:=H w hw;rw[Y,CU p q _ h.2.2.2];refine List.countP_pos_iff.2 ⟨w.1,by rw[dU];omega,by simp⟩
 ·have L:=(Y z).1 J;have R:lP z=true:=by
   cases A:lP z with
   |true=>rfl
   |false=>
    have:∀k,jk p q z k=0:=fun k=>by
     induction k with
     |zero=>rfl
     |succ k M=>rw[jk,M,if_neg (fun e=>by simp_all)]
    simp_all
  have I:l.countP _=(l.filter (fun w=>decide (iG p q w.1=z))).length:=List.countP_eq_length_filter;have B:(l.filter (fun w=>decide (iG p q w.1=z))).Pairwise _:=C.filter _;have K:∀w∈l.filter (fun w=>decide (iG p q w.1=z)),w.1+q<=p.size/\w.2+q<=S.size/\iG p q w.1=z/\iG S q w.2=z:=fun w hw=>by
   rw[List.mem_filter]at hw;have h:=H w hw.1;simp_all
  generalize l.filter (fun w=>decide (iG p q w.1=z))=m at *;have N:m.length<=mr p q z:=by
   unfold mr;rw[CU p q z R];have A:(m.map (·.1)).Nodup:=bZ.2 (B.imp fun h=>by omega);have:=CS (fun x=>decide (iG p q x=z)) (p.size+1-q) _ A (fun x D=>by
    rw[bu]at D;obtain⟨w,hw,rfl⟩:=D;have:=K w hw;exact⟨by omega,decide_eq_true this.2.2.1⟩)
   simpa using this
  have O:m.length<=mr S q z:=by
   unfold mr;rw[CU S q z R];have A:(m.map (·.2)).Nodup:=bZ.2 (B.imp fun h=>by omega);have:=CS (fun x=>decide (iG S q x=z)) (S.size+1-q) (m.map (·.2)) A (fun x D=>by
    rw[bu]at D;obtain⟨w,hw,rfl⟩:=D;have:=K w hw;exact⟨by omega,decide_eq_true this.2.2.2⟩)
   simpa using this
  unfold om;omega
theorem ym(X:ByteArray)(a c i:Nat)(Y:c<=X.size)(K:a+i<c):at8 (X.extract a c) i=at8 X (a+i):=by
 unfold at8;rw[cx,cw];simp only[az];rw[cT,if_pos (by omega),cS]
theorem Td{a b:UInt8}(h:ag a b=true):a=b/\a≠78:=by
 unfold ag at h;simp at h;exact h
theorem IJ(s:ByteArray)(q x:Nat)(h:x+q<=s.size):(iG s q x).length=q:=by
 show(s.extract x _).size=q;simp_all
theorem IK(s:ByteArray)(q x u:Nat)(h:x+q<=s.size)(H:u<q):(iG s q x)[u]?=some (at8 s (x+u)):=by
 have Y:=ym s x _ u h (by omega);unfold at8 at Y;unfold iG;have K:u<(s.extract x (x+q)).data.toList.length:=by
  show u<(s.extract x _).size;simp_all
 rw[az,aK K]at Y;rw[aK K];simp only[Option.getD_some]at Y;rw[Y];rfl
theorem afz{S:ByteArray}{x y:Nat}(K:x+q<=p.size)(H:y+q<=S.size)(h:∀u,u<q->at8 p (x+u)=at8 S (y+u)):iG p q x=iG S q y:=by
 apply dK;intro u;by_cases Y:u<q
 ·rw[IK p q x u K Y,IK S q y u H Y,h u Y]
 ·rw[cA (by rw[IJ p q x K];omega),cA (by rw[IJ S q y H];omega)]
theorem ahr{x:Nat}(Y:x+q<=p.size)(h:∀u,u<q->at8 p (x+u)≠78):lP (iG p q x)=true:=by
 unfold lP;rw[Bool.not_eq_true',<-bI,List.contains_iff_mem];intro H;obtain⟨u,D,e⟩:=List.getElem_of_mem H;have R:=IJ p q x Y;have K:=IK p q x u Y (by omega);rw[aK D,e]at K;exact h u (by omega) (by simp_all)
theorem WR(p X:ByteArray)(k q a c s e:Nat)(U:1<=q)(has:a<=s)(M:s<=e)(C:e<=c)(K:c<=X.size)(hd:jd p (X.extract s e)<=k):
  ma p.size k q<=(sy p (X.extract a c) q:Int):=by
 obtain⟨l,r,I,hr,F⟩:=CH q U p (X.extract s e) p.size (X.extract s e).size;have Y:(X.extract s e).size=e-s:=by rw[bC];omega
 have R:(X.extract a c).size=c-a:=by simp_all
 have A:l.length<=sy p (X.extract a c) q:=by
  have B:(l.map fun w=>(w.1,w.2+(s-a))).length=l.length:=dP ..;rw[<-B];refine Yu p (X.extract a c) q U _ (bZ.2 (I.up.imp fun h=>by simp only;omega)) (fun w hw=>?_);rw[bu]at hw;obtain⟨v,J,rfl⟩:=hw;have h:=I.F8 v J;rw[Y]at h;refine⟨h.1,by rw[R];simp only;omega,afz h.1 (by rw[R];simp only;omega) (fun u H=>?_),ahr h.1 (fun u H=>(Td (h.2.2 u H)).2)⟩;have D:=(Td (h.2.2 u H)).1;rw[ym X s e _ (by omega) (by omega)]at D;simp only;rw[ym X a c _ K (by omega),D];congr 1;omega
 unfold jd at hd;have L:=Nat.mul_le_mul_left q hd;unfold ma;rw[c_ k q];omega
theorem Ep(p t:ByteArray):∀i j,j<=i+dT p t i j/\i<=j+dT p t i j
 |0,j=>by simp[dT]
 |i+1,0=>by simp[dT]
 |i+1,j+1=>by
  have Y:=Ep p t i j;have K:=Ep p t i (j+1);have H:=Ep p t (i+1) j;rw[dT];omega
theorem Db(p X:ByteArray)(k s e:Nat)(H:s<=e)(K:e<=X.size)(hd:jd p (X.extract s e)<=k):e<=s+p.size+k:=by
 have h:=(Ep p (X.extract s e) p.size (X.extract s e).size).1;have Y:(X.extract s e).size=e-s:=by simp_all
 unfold jd at hd;omega
theorem OE(p X:ByteArray)(k q st s e:Nat)(U:1<=q)(gF:1<=st)(Y:s<=e)(K:e<=X.size)(hd:jd p (X.extract s e)<=k):
  looked p X k q st (ma p.size k q) ((e-(p.size+k))/st)=true:=by
 have H:=Db p X k s e Y K hd;have R:(e-(p.size+k))/st *st<=e-(p.size+k):=cX _ _;have D:e-(p.size+k)<(e-(p.size+k))/st *st+st:=by
  have:=d_ (e-(p.size+k)) st;have I:=c7 (e-(p.size+k)) (show 0<st by omega);rw[c_]at this;omega
 unfold looked;rw[Bool.or_eq_true];right;refine decide_eq_true ?_;refine WR p X k q _ _ s e U (by omega) Y ?_ ?_ hd
 ·unfold py;omega
 ·unfold py;omega
theorem AR{t p' t':ByteArray}:∀i j,(∀x,x<i->at8 p x=at8 p' x)->(∀y,y<j->at8 t y=at8 t' y)->dT p t i j=dT p' t' i j
 |0,j,_,_=>by simp[dT]
 |i+1,0,_,_=>by simp[dT]
 |i+1,j+1,Y,K=>by
  rw[dT,dT,AR i j (fun x h=>Y x (by omega)) (fun y h=>K y (by omega)),AR i _ (fun x h=>Y x (by omega)) K,AR _ j Y (fun y h=>K y (by omega))];unfold cost;simp_all
def dF(p t:ByteArray)(s i j:Nat):=dT p (t.extract s t.size) i (j-s)
theorem ajs(p t:ByteArray)(s e i:Nat)(K:s<=e)(Y:e<=t.size):dT p (t.extract s e) i (e-s)=dF p t s i e:=by
 refine AR i _ (fun _ _=>rfl) (fun y H=>?_);rw[ym t s e y Y (by omega),ym t s _ y (ak _) (by omega)]
theorem Qy(p t:ByteArray)(s e:Nat)(K:s<=e)(Y:e<=t.size):jd p (t.extract s e)=dF p t s p.size e:=by
 have h:(t.extract s e).size=e-s:=by simp_all
 unfold jd;rw[h];exact ajs p t s e _ K Y
theorem yL(p t:ByteArray)(s i:Nat):dF p t s i s=i:=by
 unfold dF;cases i<;>simp[dT]
theorem Dv(p t:ByteArray)(s i j:Nat)(K:s<=j)(Y:j<t.size):dF p t s (i+1) (j+1)=min (min (dF p t s i j+cost p t i j) (dF p t s i (j+1)+1)) (dF p t s (i+1) j+1):=by
 unfold dF;rw[show j+1-s=(j-s)+1 by omega,dT];have:cost p (t.extract s t.size) i (j-s)=cost p t i j:=by
  unfold cost;rw[ym t s _ _ (ak _) (by omega),show s+(j-s)=j by omega]
 omega
def sT(p t:ByteArray)
 |0,_=>0
 |i+1,0=>i+1
 |i+1,j+1=>min (min (sT p t i j+cost p t i j) (sT p t i (j+1)+1)) (sT p t (i+1) j+1)
theorem IM(p t:ByteArray):∀i j,sT p t i j<=i
 |0,j=>by simp[sT]
 |i+1,0=>by simp[sT]
 |i+1,j+1=>by have:=IM p t i (j+1);rw[sT];omega
theorem Bl(p t:ByteArray):∀i j,j<=t.size->∀s,s<=j->sT p t i j<=dF p t s i j
 |0,j,_,s,_=>by simp[sT]
 |i+1,0,_,s,Y=>by
  have:s=0:=by omega
  subst this;rw[yL];exact IM p t _ _
 |i+1,j+1,K,s,Y=>by
  rcases bp j s with h|h
  ·have:s=j+1:=by omega
   subst this;rw[yL];exact IM p t _ _
  ·have H:=Bl p t i j (by omega) s h;have D:=Bl p t i (j+1) K s Y;have R:=Bl p t (i+1) j (by omega) s h;rw[sT,Dv p t s i j h (by omega)];omega
theorem Er(p t:ByteArray):∀i j,j<=t.size->∃s,s<=j/\dF p t s i j=sT p t i j
 |0,j,_=>⟨j,ak _,by rw[yL,sT]⟩
 |i+1,0,_=>⟨0,ak _,by rw[yL,sT]⟩
 |i+1,j+1,D=>by
  have key:∃s,s<=j+1/\dF p t s (i+1) (j+1)<=sT p t (i+1) (j+1):=by
   have K:sT p t (i+1) (j+1)=sT p t i j+cost p t i j\/sT p t (i+1) (j+1)=sT p t i (j+1)+1\/sT p t (i+1) (j+1)=sT p t (i+1) j+1:=by rw[sT];omega
   rcases K with h|h|h
   ·obtain⟨s,Y,e⟩:=Er p t i j (by omega);exact⟨s,by omega,by rw[Dv p t s i j Y (by omega),h];omega⟩
   ·obtain⟨s,Y,e⟩:=Er p t i (j+1) D;rcases bp j s with h'|h'
    ·have:s=j+1:=by omega
     subst this;rw[yL]at e;exact⟨j+1,ak _,by rw[yL,h];omega⟩
    ·exact⟨s,Y,by rw[Dv p t s i j h' (by omega),h];omega⟩
   ·obtain⟨s,Y,e⟩:=Er p t (i+1) j (by omega);exact⟨s,by omega,by rw[Dv p t s i j Y (by omega),h];omega⟩
  obtain⟨s,Y,H⟩:=key;exact⟨s,Y,ec H (Bl p t (i+1) (j+1) D s Y)⟩
theorem NU(p t:ByteArray)(k e:Nat):∀c,c<=e+1->
  (∀x,x<c->(nF p t k e c).1<=jd p (t.extract (e-x) e))/\
  ((nF p t k e c).1<=k->∃x,x<c/\(nF p t k e c).2=e-x/\jd p (t.extract (e-x) e)=(nF p t k e c).1/\∀y,y<x->(nF p t k e c).1<jd p (t.extract (e-y) e))
 |0,_=>⟨fun x h=>by omega,fun h=>by simp[nF]at h;omega⟩
 |c+1,I=>by
  obtain⟨K,D⟩:=NU p t k e c (by omega);by_cases h:jd p (t.extract (e-c) e)<(nF p t k e c).1
  ·rw[nF,if_pos h];refine⟨fun x H=>?_,fun hk=>⟨c,by omega,rfl,rfl,fun y R=>?_⟩⟩
   ·rcases bp x c with Y|Y
    ·have:=K x Y;omega
    ·have:x=c:=by omega
     simp_all
   ·have:=K y R;omega
  ·rw[nF,if_neg h];refine⟨fun x H=>?_,fun hk=>?_⟩
   ·rcases bp x c with Y|Y
    ·simp_all
    ·have:x=c:=by omega
     subst this;omega
   ·obtain⟨x,H,a,b,d⟩:=D hk;exact⟨x,by omega,a,b,d⟩
theorem yC(p t:ByteArray)(k e:Nat)(K:e<=t.size):
  (∀s,s<=e->jd p (t.extract s e)<=k->(iy p t k e).1<=jd p (t.extract s e))/\
  ((iy p t k e).1<=k->(iy p t k e).2<=e/\jd p (t.extract (iy p t k e).2 e)=(iy p t k e).1/\(∀s,s<=e->(iy p t k e).1<=jd p (t.extract s e))/\∀s,(iy p t k e).2<s->s<=e->(iy p t k e).1<jd p (t.extract s e)):=by
 have U:tries p k e=min e _+1:=rfl;obtain⟨H,D⟩:=NU p t k e (tries p k e) (by omega);have I:=fun s Y hd=>by
  have B:=Db p t k s e Y K hd;have:=H (e-s) (by omega);rw[show e-(e-s)=s by omega]at this;exact this
 refine⟨I,fun hk=>?_⟩;obtain⟨x,C,a,b,d⟩:=D hk;refine⟨Gw p t k e _,by unfold iy;rw[a];exact b,fun s Y=>?_,fun s Y A=>?_⟩
 ·rcases bp k (jd p (t.extract s e))with h|h
  ·omega
  ·exact I s Y h
 ·have R:(iy p t k e).2=e-x:=a;have:=d (e-s) (by omega);rw[show e-(e-s)=s by omega]at this;exact this
theorem MV(X:ByteArray)(a c s e:Nat)(has:a<=s)(H:s<=e)(K:e<=c)(Y:c<=X.size):(X.extract a c).extract (s-a) (e-a)=X.extract s e:=by
 rw[<-AJ];simp only[cx,cw,dL];rw[dJ,List.drop_drop,List.take_take,show a+(s-a)=s by omega];congr 1;omega
theorem ZR(p X:ByteArray)(a c s e:Nat)(has:a<=s)(H:s<=e)(K:e<=c)(Y:c<=X.size):sT p (X.extract a c) p.size (e-a)<=jd p (X.extract s e):=by
 have D:(X.extract a c).size=c-a:=by simp_all
 have:=Bl p (X.extract a c) p.size (e-a) (by omega) (s-a) (by omega);rw[<-Qy p _ _ _ (by omega) (by omega),MV X a c s e has H K Y]at this;omega
theorem ZS(p X:ByteArray)(a c e:Nat)(H:a<=e)(K:e<=c)(Y:c<=X.size):∃s,a<=s/\s<=e/\jd p (X.extract s e)=sT p (X.extract a c) p.size (e-a):=by
 have R:(X.extract a c).size=c-a:=by simp_all
 obtain⟨s,D,h⟩:=Er p (X.extract a c) _ (e-a) (by omega);rw[<-Qy p _ s _ D (by omega)]at h;have:=MV X a c (a+s) e (by omega) (by omega) K Y;rw[show a+s-a=s by omega]at this;rw[this]at h;exact⟨a+s,by omega,by omega,h⟩
theorem MO(p X:ByteArray)(k a c e:Nat)(Y:a<=e)(H:e<=c)(K:c<=X.size)(hk:sT p (X.extract a c) p.size (e-a)<=k):(iy p X k e).1<=sT p (X.extract a c) p.size (e-a):=by
 obtain⟨s,has,D,h⟩:=ZS p X a c e Y H K;rw[<-h]at hk⊢;exact(yC p X k e (by omega)).1 s D hk
theorem XD(p X:ByteArray)(k st e:Nat)(gF:1<=st)(H:e<=X.size)(hk:(iy p X k e).1<=k):
  (e-(p.size+k))/st *st<=e/\e<=py p.size X.size k st ((e-(p.size+k))/st)/\sT p (X.extract ((e-(p.size+k))/st *st) (py p.size X.size k st ((e-(p.size+k))/st))) p.size (e-(e-(p.size+k))/st *st)=(iy p X k e).1:=by
 obtain⟨R,A,B,C⟩:=(yC p X k e H).2 hk;have I:=Db p X k _ e R H (by omega);have F:(e-(p.size+k))/st *st<=e-(p.size+k):=cX _ _;have U:e-(p.size+k)<(e-(p.size+k))/st *st+st:=by
  have:=d_ (e-(p.size+k)) st;have J:=c7 (e-(p.size+k)) (show 0<st by omega);rw[c_]at this;omega
 have Y:e<=py p.size X.size k st ((e-(p.size+k))/st):=by unfold py;omega
 have K:py p.size X.size k st ((e-(p.size+k))/st)<=X.size:=by unfold py;omega
 refine⟨by omega,Y,?_⟩;have D:=ZR p X _ _ _ e (show(e-(p.size+k))/st *st<=(iy p X k e).2 by omega) R Y K;rw[A]at D;exact ec D (MO p X k _ _ e (by omega) Y K (by omega))
inductive Ed:List UInt8->List UInt8->Nat->Prop
 |nil:Ed [] [] 0
 |sub {x y:List UInt8} {n:Nat} (a b:UInt8):Ed x y n->Ed (x++[a]) (y++[b]) (n+co a b)
 |del {x y:List UInt8} {n:Nat} (a:UInt8):Ed x y n->Ed (x++[a]) y (n+1)
 |ins {x y:List UInt8} {n:Nat} (b:UInt8):Ed x y n->Ed x (y++[b]) (n+1)
theorem Ed.akN{x y:List _}(a b:UInt8)(h:Ed x y n):Ed (a::x) (b::y) (n+co a b):=by
 induction h with
 |nil=>simpa using Ed.sub a b Ed.nil
 |@sub x y n c d _ Y=>have:=Ed.sub c d Y;rw[show n+co c d+co a b=n+co a b+co c d by omega];exact this
 |@del x y n c _ Y=>have:=Ed.del c Y;rw[show n+1+co a b=n+co a b+1 by omega];exact this
 |@ins x y n d _ Y=>have:=Ed.ins d Y;rw[show n+1+co a b=n+co a b+1 by omega];exact this
theorem Ed.akO{x y:List _}(a:UInt8)(h:Ed x y n):Ed (a::x) y (n+1):=by
 induction h with
 |nil=>simpa using Ed.del a Ed.nil
 |@sub x y n c d _ Y=>have:=Ed.sub c d Y;rw[show n+co c d+1=n+1+co c d by omega];exact this
 |@del x y n c _ Y=>exact Ed.del c Y
 |@ins x y n d _ Y=>exact Ed.ins d Y
theorem Ed.akP{x y:List _}(b:UInt8)(h:Ed x y n):Ed x (b::y) (n+1):=by
 induction h with
 |nil=>simpa using Ed.ins b Ed.nil
 |@sub x y n c d _ Y=>have:=Ed.sub c d Y;rw[show n+co c d+1=n+1+co c d by omega];exact this
 |@del x y n c _ Y=>exact Ed.del c Y
 |@ins x y n d _ Y=>exact Ed.ins d Y
theorem Ed.rev{x y:List _}(h:Ed x y n):Ed x.reverse y.reverse n:=by
 induction h with
 |nil=>exact .nil
 |sub a b _ Y=>rw[cD,cD];exact Y.akN a b
 |del a _ Y=>rw[cD];exact Y.akO a
 |ins b _ Y=>rw[cD];exact Y.akP b
theorem v_(s:ByteArray)(i:Nat)(h:i<s.size):s.data.toList.take (i+1)=s.data.toList.take i++[at8 s i]:=by
 rw[List.take_succ_eq_append_getElem _];unfold at8;rw[az,aK (by simp_all)];rfl
theorem Jl(p t:ByteArray)(i:Nat):dT p t i 0=i:=by
 cases i with
 |zero=>rw[dT]
 |succ i=>rw[dT]
theorem Ed.zr(p t:ByteArray):∀i j,i<=p.size->j<=t.size->Ed (p.data.toList.take i) (t.data.toList.take j) (dT p t i j)
 |0,0,_,_=>by simpa[dT]using Ed.nil
 |0,j+1,Y,K=>by
  have:=Ed.ins (at8 t j) (Ed.zr p t 0 j Y (by omega));rw[<-v_ t j (by omega)]at this;simpa[dT]using this
 |i+1,0,Y,K=>by
  have I:dT p t i 0=i:=Jl p t i;have:=Ed.del (at8 p i) (Ed.zr p t i 0 (by omega) K);rw[<-v_ p i (by omega),I]at this;simpa[dT]using this
 |i+1,j+1,Y,K=>by
  have H:=Ed.sub (at8 p i) (at8 t j) (Ed.zr p t i j (by omega) (by omega));have R:=Ed.del (at8 p i) (Ed.zr p t i (j+1) (by omega) K);have D:=Ed.ins (at8 t j) (Ed.zr p t (i+1) j Y (by omega));rw[<-v_ p i (by omega),<-v_ t j (by omega)]at H;rw[<-v_ p i (by omega)]at R;rw[<-v_ t j (by omega)]at D;have A:co (at8 p i) (at8 t j)=cost p t i j:=rfl;rw[A]at H;rw[dT];rcases cG (dT p t i j+cost p t i j) (dT p t i (j+1)+1)with a|a
  ·rw[cY a];rcases cG (dT p t i j+cost p t i j) (dT p t (i+1) j+1)with b|b
   ·rw[cY b];exact H
   ·rw[cZ b];exact D
  ·rw[cZ a];rcases cG (dT p t i (j+1)+1) (dT p t (i+1) j+1)with b|b
   ·rw[cY b];exact R
   ·rw[cZ b];exact D
theorem Dc{x:List _}{a:UInt8}(H:(x++[a]).length<=s.size)(h:x++[a]=s.data.toList.take (x++[a]).length):x.length<s.size/\x=s.data.toList.take x.length/\a=at8 s x.length:=by
 have Y:=by simp at H;omega
 rw[ar,bL,v_ s _ Y]at h;have:=List.append_inj h (by simp;omega);refine⟨Y,this.1,?_⟩;have K:=this.2;simpa using K
theorem Ed.le{x y:List UInt8}(h:Ed x y n)(p t:ByteArray):x.length<=p.size->y.length<=t.size->x=p.data.toList.take x.length->y=t.data.toList.take y.length->dT p t x.length y.length<=n:=by
 induction h with
 |nil=>simp[dT]
 |@sub x y n a b _ R=>
  intro Y K H D;obtain⟨a1,a2,a3⟩:=Dc Y H;obtain⟨b1,b2,I⟩:=Dc K D;have:=R (by omega) (by omega) a2 b2;rw[ar,ar,bL,bL,dT,a3,I];have C:co _ _=cost p t x.length y.length:=rfl;omega
 |@del x y n a _ R=>
  intro Y K H D;obtain⟨a1,a2,a3⟩:=Dc Y H;have:=R (by omega) K a2 D;rw[ar,bL];cases U:y.length with
  |zero=>
   rw[U]at this;have B:dT p t _ 0=x.length:=Jl p t _;rw[dT];omega
  |succ j=>rw[U]at this;rw[dT];omega
 |@ins x y n b _ R=>
  intro Y K H D;obtain⟨b1,b2,I⟩:=Dc K D;have:=R Y (by omega) H b2;rw[ar,bL];cases A:x.length with
  |zero=>rw[A]at this;simp[dT]at this⊢;omega
  |succ i=>rw[A]at this;rw[dT];omega
def rev8(s:ByteArray):=str s.data.toList.reverse
theorem wu(s:ByteArray):(rev8 s).size=s.size:=by unfold rev8;rw[ia];simp
theorem CV(s:ByteArray):(rev8 s).data.toList=s.data.toList.reverse:=by simp[rev8,str]
theorem NV(p t:ByteArray):jd (rev8 p) (rev8 t)<=jd p t:=by
 have h:=(Ed.zr p t _ _ (ak _) (ak _)).rev;have Y:p.data.toList.take p.size=p.data.toList:=cE (by simp);have K:t.data.toList.take t.size=t.data.toList:=cE (by simp);rw[Y,K]at h;have:=h.le (rev8 p) (rev8 t) (by rw[wu];simp) (by rw[wu];simp) (by rw[CV,cE (by simp)]) (by rw[CV,cE (by simp)]);unfold jd;rw[wu,wu];simp_all
theorem Pu(s:ByteArray):rev8 (rev8 s)=s:=by
 simp[rev8,str]
theorem adA(p t:ByteArray):jd (rev8 p) (rev8 t)=jd p t:=by
 have K:=NV p t;have Y:=NV (rev8 p) (rev8 t);rw[Pu,Pu]at Y;omega
def nO(X o:ByteArray)(e:Nat)
 |0=>id
 |c+1=>mP (nO X o e c) (c+1) (at8 X (e-(c+1))) o
theorem afA(a b:UInt8):co a b=co b a:=by
 unfold co ag;by_cases h:a=b
 ·simp_all
 ·have Y:(a==b)=false:=by simp_all
  have K:(b==a)=false:=by simpa using fun e=>h e.symm
  simp_all
theorem Rv(X:ByteArray)(e c:Nat)(H:e<=X.size)(K:c<e):at8 (rev8 (X.extract 0 e)) c=at8 X (e-(c+1)):=by
 unfold at8;rw[CV];have Y:(X.extract 0 e).data.toList.length=e:=by simp;omega
 rw[az,dO (by omega),az,Y];congr 1;simp only[cx,cw];rw[bE (by omega),cS];congr 1;omega
theorem D3(X o:ByteArray)(e:Nat)(Y:e<=X.size):∀c,c<=e->∀j,nO X o e c j=dT o (rev8 (X.extract 0 e)) j c
 |0,_,j=>by rw[Jl];rfl
 |c+1,K,0=>by rw[dT];rfl
 |c+1,K,j+1=>by
  have H:=D3 X o e Y c (by omega) j;have i2:=D3 X o e Y c (by omega) (j+1);have i3:=D3 X o e Y (c+1) K j;rw[dT];show min _ (nO X o e (c+1) j+1)=_
  rw[H,i2,i3,afA,<-Rv X e c Y (by omega)];have K:co _ _=cost o (rev8 (X.extract 0 e)) j c:=rfl;omega
theorem Qz(X P:ByteArray)(e c:Nat)(Y:e<=X.size)(K:c<=e):nO X (rev8 P) e c P.size=jd P (X.extract (e-c) e):=by
 rw[D3 X (rev8 P) e Y c K,<-adA P (X.extract (e-c) e)];unfold jd;have D:(rev8 (X.extract (e-c) e)).size=c:=by rw[wu,bC];omega
 rw[wu,D];refine AR _ _ (fun _ _=>rfl) fun y R=>?_;rw[Rv X e y Y (by omega)];unfold at8;rw[CV];have H:(X.extract (e-c) e).data.toList.length=c:=by simp;omega
 rw[az,az,dO (by omega),H];congr 1;simp only[cx,cw];rw[dL];rw[bE (by omega),cS];congr 1;omega
def qe(p t:ByteArray)(k n:Nat):=(lQ p t k n).map (·.2.1)
def jx(p t:ByteArray)(k:Nat):=(iL p t k).map (·.2.1)
theorem HI(p t:ByteArray)(k e:Nat):∀n,e∈qe p t k n↔e<n/\(iy p t k e).1<=k
 |0=>by simp[qe,lQ]
 |n+1=>by
  have Y:=HI p t k e n;unfold qe at *;rw[lQ];split
  ·rw[a_,bh,Y];simp;constructor
   ·rintro(⟨a,b⟩|rfl)
    ·omega
    ·omega
   ·omega
  ·rename_i h;rw[Y];constructor
   ·omega
   ·rintro⟨a,b⟩;by_cases K:e<n
    ·omega
    ·have:e=n:=by omega
     subst this;omega
theorem OG(p t:ByteArray)(k:Nat):∀n,(qe p t k n).Pairwise (· < ·)
 |0=>by simp[qe,lQ]
 |n+1=>by
  have K:=OG p t k n;have Y:=fun e=>HI p t k e n;unfold qe at *;rw[lQ];split
  ·rw[a_,dV];simp_all
  ·omega
theorem CW(p t:ByteArray)(k e:Nat):e∈jx p t k↔e<=t.size/\(iy p t k e).1<=k:=by
 have:=HI p t k e (t.size+1);unfold qe at this;unfold jx iL;rw[this];omega
theorem ZT(p t:ByteArray)(k:Nat):(jx p t k).Pairwise (· < ·):=OG p t k _
theorem Pv(p t:ByteArray)(k:Nat):∀n,(qe p t k n).length<=n
 |0=>by simp[qe,lQ]
 |n+1=>by
  have Y:=Pv p t k n;unfold qe at *;rw[lQ];split
  ·simp_all
  ·omega
theorem AK(p t:ByteArray)(k:Nat):(jx p t k).length<=t.size+1:=Pv p t k _
theorem NY(p t:ByteArray)(k e:Nat)(h:e∈jx p t k):e<=t.size/\(iy p t k e).1<=k/\(iy p t k e).2<=e/\jd p (t.extract (iy p t k e).2 e)<=(iy p t k e).1/\∀c,c<e-(iy p t k e).2->(iy p t k e).1<jd p (t.extract (e-c) e):=by
 obtain⟨Y,K⟩:=(CW p t k e).1 h;obtain⟨b1,b2,H,b4⟩:=(yC p t k e Y).2 K;exact⟨Y,K,b1,by omega,fun c D=>b4 _ (by omega) (by omega)⟩
theorem XE{H:Type}{enc:cj×ah->H}{C:Checked}{os:Os}{f:br}{fn:Func}{s:ChangeSpec}{Y:List _}{apart:Bool}{X:ae->Array _->Prop}(w0:ae)(args:Array _)(fuel:Nat)(U:w0.os=os)
  (F:(w0.forCall (fun _ _=>0) ⟨#[],args,[]⟩).Shaped C.prog)
  (D:Input.okWideB C.prog (w0.forCall (fun _ _=>0) ⟨#[],args,[]⟩) f ⟨#[],args,[]⟩=true)
  (K:s.preB enc C.prog fn Y apart (w0.forCall (fun _ _=>0) ⟨#[],args,[]⟩).memory args fuel=true)
  (M:s.sizedB enc C.prog fn apart (w0.forCall (fun _ _=>0) ⟨#[],args,[]⟩).memory args fuel=true)
  (N:X (w0.forCall (fun _ _=>0) ⟨#[],args,[]⟩).memory args):
  ∃(w:ae) (tape:Tape) (i:Input),w.os=os/\(w.forCall tape i).Shaped C.prog/\i.vars=[]/\Input.okWide C.prog (w.forCall tape i) .any w.heap.size f i/\
   ((s.pre enc C.prog fn Y apart (w.forCall tape i).memory i.args/\X (w.forCall tape i).memory i.args)/\sizedMet enc C.prog fn (OpenSpec.ofChange s) apart (w.forCall tape i).memory i.args)/\
   ({calm:=true}:Assume).holds C.prog (lone (Frame.enter C.prog f i.args .normal) [] (w.forCall tape i)):=by
 have h:=Input.okWide_of_okWideB (base:=w0.heap.size) D;refine⟨w0,fun _ _=>0,⟨#[],args,[]⟩,U,F,h.1,h.2,⟨⟨ChangeSpec.pre_of_preB K,N⟩,sizedMet_of_sizedB M⟩,?_⟩;exact⟨by simp,fun _ _ _ _=>rfl,by simp,by simp,by simp⟩
theorem abF{p:Pinned}{s:OpenSpec}{c:OpenClaim}(kinds:List _)(K:Bool)(Y:Bool×String)(lk:Bool)
  (U:c.holds p s)(hw:c.wfByText s=true)(H:c.laidByTextAt .later p kinds K)
  (gF:c.start=.entering)(D:c.noBlocks=false/\c.again=false)(M:p.checked.prog.mainIs=some (Y.1,Y.2.toList))(N:(!Y.1&&Y.2.isEmpty&&!lk)=false)
  (F:∀f fn,p.checked.prog.funcNamed c.func=some f->p.checked.prog.funcs[f]?=some fn->lk=p.checked.prog.looks []/\∀(j:Nat) t,fn.params[j]?=some t->p.checked.prog.wantsStandIn t=false)
  (C:true=c.goesBy p.checked.prog):
  Claim7.holds p (.plain s) {stood:={row:=c,standIns:=[],harness:=Y,looks:=lk},kinds:=[],alts:=[],goes:=true,laidByText:=true,laidKinds:=kinds,laidTests:=K,laidLooks:=.later}:=by
 have R:dy {stood:={row:=c,standIns:=[],harness:=Y,looks:=lk},kinds:=[]}=false:=by simpa[dy]using N
 exact⟨Claim7.tied_new_at .later kinds K (Claim7.new_of_sixth U Y lk gF D M R F) hw,(fun _ h=>by cases h),H,(fun h=>by cases h),C⟩
end
section
open RowKit
def oW(w:ae)(p:Nat)(e d:Nat):Prop:=w.heap[p]?=some (.cells #[.int .i64 (e:Int),.int .i64 (d:Int)] 173 (0,0))
theorem oW.c0{p e:Nat}(h:oW w p e d):w.cell? ⟨p,0,none⟩=some (.int .i64 e):=by rw[ao w p 0 _ _ _ h];rfl
theorem oW.c1{p e:Nat}(h:oW w p e d):w.cell? ⟨p,1,none⟩=some (.int .i64 d):=by rw[ao w p 1 _ _ _ h];rfl
theorem oW.below{p e B:Nat}(h:oW w p e d)(K:af B w w')(Y:p<B):oW w' p e d:=by unfold oW at *;rw[K.block p Y];exact h
theorem oW.drewN{p e:Nat}(h:oW w p e d)(k:Nat):oW (w.drewN k) p e d:=h
theorem mo.drewN{G:Nat}{g:Nat->Nat}(h:mo w G g n)(k:Nat):mo (w.drewN k) G g n:=h
theorem Sv(X o:ByteArray)(e:Nat):∀c j,nO X o e c j<=c+j
 |0,j=>by simp[nO]
 |c+1,j=>Dx _ _ _ _ j
theorem abG(s:ByteArray):str (ky s)=rev8 s:=by unfold rev8;rw[C8]
theorem Yv(X P:ByteArray)(e d c0:Nat)(w:ae)(hX:X.size<=200)(hP:P.size<=100)(he:e<=X.size)(hd:d<=1000)(hc:c0<=e)(h1:jd P (X.extract (e-c0) e)<=d)(h2:∀c,c<c0->d<jd P (X.extract (e-c) e)):
  aj ai 125 #[.string X,.string P,.agg #[.int .i64 (e:Int),.int .i64 (d:Int)]] w fun r w'=>r=.returned (.int .i64 ((e-c0:Nat):Int))/\af w.heap.size w w':=by
 have i:Hid (nO X (rev8 P) e c0 P.size<=d):=laid (by rw[Qz X P e c0 he hc];exact h1);have h:Hid (∀c,c<c0->d<nO X (rev8 P) e c P.size):=laid fun c E=>by rw[Qz X P e c he (by omega)];exact h2 c E
 clear h1 h2;have Z:(rev8 P).size=P.size:=wu P;have V:Hid (∀W:ae,aj ai 129 #[.string P] W fun e w'=>e=.returned (.string (rev8 P))/\af W.heap.size W w'):=laid fun W=>by
  have:=M8 P W (by omega);rw[abG]at this;exact this
 generalize rev8 P=R at *;have g:oW (w.alloc (.cells #[.int .i64 (e:Int),.int .i64 (d:Int)] 173)) w.heap.size e d:=heap_alloc_new w _;have A:∀o,af w.heap.size w (w.alloc o):=fun o=>(ay _ _).alloc (ak _) o;have N:=laid (fun W:ae=>Gl R.size W (by omega));rw[<-Z]at i h hP;clear Z;have T:=laid g;clear g
 go_enter Tryz.func125,Tryz.ntmps125
 go_wp2_with fail
 refine(V.out _).mono ?_;rintro e1 w1 ⟨rfl,B⟩;have J:=T.out.below B (by simp);have D:af w.heap.size w w1:=(A _).trans (B.mono (by simp));clear B T V;go_wp2_with fail
 refine(N.out _).mono ?_;rintro e2 w2 ⟨rfl,z,C⟩;have a:w.heap.size<w1.heap.size:=by have:=J.c0;exact aU this
 have L:=J.below C a;have U:af w.heap.size w w2:=D.trans (C.mono D.size);clear C N J D A;have d0:=L.c0;have M:=laid L;have Q:=laid z;clear L z;generalize w1.heap.size=H1 at *;go_wp2
 go_loopw [8,9] (fun lv sv wr=>∃c G:Nat,sv=.int .i64 ((e:Int)-(c:Int))/\lv=.slice (some ⟨G,0,none⟩) (R.size+1) (R.size+1)/\c<=c0/\mo wr G (nO X R e c) (R.size+1)/\oW wr w.heap.size e d/\af w.heap.size w wr) (fun _ sv _=>(intOf sv).toNat)
 case atStart=>exact⟨0,H1,by simp,rfl,aQ _,Q.out,M.out,U⟩
 case round=>
  obtain⟨c,G,rfl,rfl,E,Y,K,H⟩:=hrel;clear Q M U d0;have l:=K.c0;have c1':=K.c1;have x:=Y.cell R.size (by omega);have v:=Sv X R e c R.size;by_cases y:c<c0
  ·have u:(d:Int)<(nO X R e c R.size:Int):=by have:=h.out c y;omega
   obtain⟨m,b⟩:∃m:Nat,m=e-(c+1):=⟨_,rfl⟩;have apu:aN.wrap ((e:Int)-(c:Int)-1)=(m:Int):=by rw[show(e:Int)-(c:Int)-1=(m:Int) by omega];exact aO _ (by omega)
   have k:aN.wrap ((e:Int)-(m:Int))=(c:Int)+1:=by rw[show(e:Int)-(m:Int)=(c:Int)+1 by omega];exact aO _ (by omega)
   have t:m<X.size:=by omega
   have p:=mn X m t;have b1:(m:Int)<(X.size:Int):=by omega
   have b2:(0:Int)<=(m:Int):=dB _;have S:Hid (∀W:ae,mo W G (nO X R e c) (R.size+1)->aj ai 145 #[.slice (some ⟨G,0,none⟩) (R.size+1) (R.size+1),.int .i64 ((c:Int)+1),.int .u8 ((at8 X m).toNat:Int),.string R] W fun e' w'=>e'=.returned (.slice (some ⟨W.heap.size,0,none⟩) (R.size+1) (R.size+1))/\mo w' W.heap.size (nO X R e (c+1)) (R.size+1)/\af W.heap.size W w'):=laid fun W hW=>by
    have:=Gq (nO X R e c) (c+1) (at8 X m) R G W (by omega) (by omega) (fun j hj=>by have:=Sv X R e c j;omega) hW;have e1:nO X R e (c+1)=mP (nO X R e c) (c+1) (at8 X m) R:=by rw[b];rfl
    rw[e1];rw[show((c+1:Nat):Int)=(c:Int)+1 by omega]at this;exact this
   have HL:=laid Y;have O:=laid K;have HM:=laid b;clear Y K b;generalize nO X R e c R.size=LV at *;have f:w.heap.size<wr.heap.size:=aU l;go_wp2_with fail
   go_quiet(fail)
   go_wp2_with fail
   go_region_held3 (fun w'=>w'.cell? ⟨w.heap.size,0,none⟩=some (.int .i64 (e:Int)))
    (first|go_keep|(rw[I.cell (by first|exact f|(simp;omega))];assumption))
    (first|(go_at_call 145;refine(S.out _ (HL.out.drewN _)).mono ?_;rintro e' w' ⟨rfl,n,I⟩))
   have F:af w.heap.size w w':=(Go.below_drewN H _).trans (I.mono H.size);have s:=oW.below (w:=wr.drewN _) (O.out.drewN _) I f;clear I S HL O x u v p;go_wp2
   go_roundw
   case rel=>go_light;exact⟨c+1,_,by have:=HM.out;congr 1;omega,rfl,by omega,n,s,F⟩
   case measure=>go_light;have:=HM.out;simp[intOf];omega
  ·have q:c=c0:=by omega
   have hle:¬((d:Int)<(nO X R e c R.size:Int)):=by have:=i.out;rw[q];omega
   have HC:Hid ((e:Int)-(c:Int)=((e-c0:Nat):Int)):=laid (by omega);generalize nO X R e c R.size=LV at *;clear q;go_wp2_with fail
   go_quiet(fail)
   go_wp2
   go_ret
   exact⟨yM HC.out,Go.below_drewN H _⟩
theorem afB(p t:ByteArray)(i:Nat):mP (dT p t i) (i+1) (at8 p i) t=dT p t (i+1):=by
 funext j;induction j with
 |zero=>rw[mP,dT]
 |succ j Y=>rw[mP,Y,dT];rfl
theorem adB(p t:ByteArray):(id:Nat->Nat)=dT p t 0:=by
 funext j;rw[dT];rfl
theorem adC{wr wz:ae}{B G g' EI:Nat}{t:ByteArray}{g:Nat->Nat}{o:Obj}(U:qG wr B p t (.slice (some ⟨G,0,none⟩) (i+1) cap) (i+1) g)(N:B<=wr.heap.size)(C:af wr.drew.heap.size wr.drew w')(F:mo w' wr.heap.size (dT p t (i+1)) (t.size+1))
  (H:(w'.alloc o).grownBy wz (some G))(D:wz.ownsRow B 25 1 (.slice (some ⟨g',0,none⟩) (i+1+1) EI) (i+1+1) ((bF (i+1)).map (sv t g)++[.slice (some ⟨wr.heap.size,0,none⟩) (t.size+1) (t.size+1)])):
  qG wz B p t (.slice (some ⟨g',0,none⟩) (i+1+1) EI) (i+1+1) (fun x=>if x<i+1 then g x else wr.heap.size):=by
 have L:wr.drew.ownsRow B 25 1 _ (i+1) _:=U.own;have M:=uQ L C;have K:∀(k:Nat) (c:Array ah),w'.heap[k]?=some (.cells c 3 (0,0))->wz.heap[k]?=some (.cells c 3 (0,0)):=fun k c hk=>by
  have I:k<w'.heap.size:=by
   rcases bp k w'.heap.size with h'|h'
   ·exact h'
   ·simp_all
  rw[H.block k (by simp;omega) (fun e=>Lib.ownBlock_ne M hk (by decide) e.symm),bk w' _ I];exact hk
 refine⟨?_,fun x R=>?_,fun x R=>?_⟩
 ·have J:(bF (i+1+1)).map (sv t fun x=>if x<i+1 then g x else wr.heap.size)=(bF (i+1)).map (sv t g)++[.slice (some ⟨wr.heap.size,0,none⟩) (t.size+1) (t.size+1)]:=by
   rw[cV,a_];congr 1
   ·apply List.map_congr_left;intro x R;rw[dU]at R;simp[sv,R]
   ·simp[sv]
  rw[J];exact D
 ·by_cases Y:x<i+1
  ·simp only[Y,if_true];have hr:=U.rows x Y;have I:=hr.lt;refine K _ _ ?_;rw[C.block (g x) I];exact hr
  ·have A:x=i+1:=by omega
   subst A;simp only[Y,if_false];exact K _ _ F
 ·by_cases Y:x<i+1
  ·simp only[Y,if_true];exact U.base x Y
  ·simp only[Y,if_false];exact N
theorem Xg(p t:ByteArray)(w:ae)(hp:p.size<=100)(h:t.size<=300):
  aj ai 146 #[.string p,.string t] w fun e w'=>∃v g,e=.returned v/\qG w' w.heap.size p t v (p.size+1) g/\af w.heap.size w w':=by
 obtain⟨i0,hi,d,f,l⟩:=bm aek;have J:=laid (fun W:ae=>Gl t.size W h)
 go_enter Tryz.func146,Tryz.ntmps146
 go_wp2_with fail
 refine(J.out _).mono ?_;rintro e1 w1 ⟨rfl,C,I⟩;have U:Hid (qG (w1.alloc (.cells #[.slice (some ⟨w.heap.size,0,none⟩) (t.size+1) (t.size+1)] 25)) w.heap.size p t (.slice (some ⟨w1.heap.size,0,none⟩) 1 1) 1 (fun _=>w.heap.size)):=laid (by
  have hl:=C.lt;refine⟨⟨rfl,.inr ⟨w1.heap.size,1,_,rfl,I.size,heap_alloc_new w1 _,ak _,by unfold ax;omega,rfl,rfl⟩⟩,fun x hx=>?_,fun x hx=>ak _⟩;have:x=0:=by omega
  subst this;unfold u_;rw[bk w1 _ hl];have:=C;rw[adB p t]at this;exact this)
 have A:af w.heap.size w (w1.alloc (.cells #[.slice (some ⟨w.heap.size,0,none⟩) (t.size+1) (t.size+1)] 25)):=I.alloc I.size _;clear C I J;go_wp2
 go_loopw [5,13] (fun v iv wr=>∃(i:Nat) (g:Nat->Nat),iv=.int .i64 (i:Int)/\i<=p.size/\qG wr w.heap.size p t v (i+1) g/\af w.heap.size w wr) (fun _ iv _=>p.size-(intOf iv).toNat)
 case atStart=>exact⟨0,_,rfl,aQ _,U.out,A⟩
 case round=>
  obtain⟨i,g,rfl,VB,K,Y⟩:=hrel;clear U A;by_cases q:i<p.size
  ·obtain⟨G,cap,rfl,hGl,n⟩:=K.get (by omega);have Z:=n i (by omega);have z:=mn p i q;have b1:(i:Int)<(p.size:Int):=by omega
   have b2:(0:Int)<=(i:Int):=dB _;have b3:(i:Int)<(i:Int)+1:=by omega
   have x1:aN.wrap ((i:Int)+1)=(i:Int)+1:=aO _ (by omega);have S:=K.rows i (by omega);have X:w.heap.size<=G:=by
    rcases K.own.2 with⟨V,_⟩|⟨g1,y,m,V,T,_⟩
    ·cases V
    ·cases V;exact T
   have L:=laid fun W O=>by
    have:=Gq (dT p t i) (i+1) (at8 p i) t (g i) W h (by omega) (fun j hj=>by have:=Bc p t i j;omega) O;rw[afB]at this;rw[show((i+1:Nat):Int)=(i:Int)+1 by omega]at this;exact this
   have r:Hid (mo wr (g i) (dT p t i) (t.size+1)):=laid S;have N:=laid K;have M:Hid (∀(W:ae),af wr.drew.heap.size wr.drew W->∀o:Obj,(W.alloc o).ownsRow w.heap.size 25 1 (.slice (some ⟨G,0,none⟩) (i+1) cap) (i+1) ((bF (i+1)).map (sv t g))):=laid fun W O o=>by
    have T:wr.drew.ownsRow w.heap.size 25 1 (.slice (some ⟨G,0,none⟩) (i+1) cap) (i+1) ((bF (i+1)).map (sv t g)):=K.own;exact(uQ T O).alloc _
   have F:Hid (∀(W:ae),af wr.drew.heap.size wr.drew W->∀o:Obj,w.heap.size<=(W.alloc o).heap.size):=laid fun W O o=>by have T:=Y.size;have h2:=O.size;simp at h2⊢;omega
   clear K S n;go_wp2_with fail
   go_region_law
    (first
     |(go_simp;go_at_call 145;refine(L.out wr.drew r.out).mono ?_;rintro e' w' ⟨rfl,Q,H⟩)
     |(refine step_append_lies _ rfl _ _ 162 rfl w.heap.size 25 i0 (.slice none 0 0) 1 24 Tryz.underlying162 hi d f l rfl (by decide) _ (i+1) _ rfl (M.out w' H _) ⟨w'.heap.size,0,none⟩ 1 1 [.slice (some ⟨wr.heap.size,0,none⟩) (t.size+1) (t.size+1)] rfl rfl (dp (heap_alloc_new w' _)) (fun u a=>by simp at a;subst a;rfl) (by omega) (by unfold ax;omega) (by omega) (F.out w' H _) _ rfl ?_;intro g' s wz R D E b))
   all_goals
    have c:=adC N.out Y.size H Q D R;have B:af w.heap.size w wz:=((Go.below_drewN Y 1).trans (H.mono Y.size)).trans (Below.grown (ay _ _|>.alloc (by have:=H.size;have:=Y.size;simp at *;omega) _) D (by have:=H.size;have:=Y.size;simp at *;omega) (fun k e=>by cases e;exact X));clear L r N M F Q H R D E Z z;go_wp2
    go_roundw
    case rel=>go_light;exact⟨i+1,_,by go_num,by omega,c,B⟩
    case measure=>go_light;simp[intOf];omega
  ·have P:i=p.size:=by omega
   have HE:Hid (qG wr w.heap.size p t u5 (p.size+1) g):=laid (by rw[<-P];exact K);clear P K;go_wp2
   go_ret
   exact⟨u5,g,rfl,HE.out,Y⟩
def letter(p t:ByteArray)(i j:Nat):UInt8:=if pD p t i j=true then 77 else if oz p t i j=true then 73 else 68
theorem XG(p t:ByteArray)(B:Nat)(v:ah)(g:Nat->Nat)(i j:Nat)(w:ae)(hp:p.size<=100)(ht:t.size<=300)(u:i<=p.size)(m:j<=t.size)(F:qG w B p t v (p.size+1) g):
  aj ai 147 #[v,.string p,.string t,.int .i64 (i:Int),.int .i64 (j:Int)] w fun e w'=>e=.returned (.int .u8 ((letter p t i j).toNat:Int))/\∃d,w'=w.drewN d:=by
 obtain⟨G,cap,rfl,y,r⟩:=F.get (by omega);have Q:=laid r;have O:=laid (fun i u j m=>(F.rows i u).cell j m);clear F r;by_cases U:i=0
 ·have D:Hid (letter p t i j=68):=laid (by unfold letter pD oz;rw[U];rfl);have hd1:decide ((0:Int)<(i:Int))=false:=by simp;omega
  have Mc:¬(0:Int)<(i:Int):=by omega
  clear Q O
  go_enter b_,cg
  go_wp2_with fail
  go_quiet(fail)
  go_wp2_with fail
  go_quiet(fail)
  rw[cH];go_wp2
  go_ret
  exact⟨by rw[D.out];rfl,_,rfl⟩
 ·obtain⟨a,R⟩:∃a,i=a+1:=⟨i-1,by omega⟩;have E:(0:Int)<(i:Int):=by omega
  have q:0<i:=by omega
  have hi3:decide (0<i)=true:=decide_eq_true q;have hi4:decide ((0:Int)<(i:Int))=true:=decide_eq_true E;have x:=Q.out i (by omega);have s:=Q.out a (by omega);have r1:=O.out i (by omega) j (by omega);have r3:=O.out a (by omega) j (by omega);have b1:(0:Int)<=(i:Int):=by omega
  have b2:(i:Int)<(p.size:Int)+1:=by omega
  have b3:(0:Int)<=(a:Int):=by omega
  have b4:(a:Int)<(p.size:Int)+1:=by omega
  have b5:(0:Int)<=(j:Int):=by omega
  have b6:(j:Int)<(t.size:Int)+1:=by omega
  have Vy:aN.wrap ((i:Int)-1)=(a:Int):=by rw[show(i:Int)-1=(a:Int) by omega];exact aO _ (by omega)
  have hX:dT p t i j<=1000:=by have:=Bc p t i j;omega
  have hZ:dT p t a j<=1000:=by have:=Bc p t a j;omega
  have z1:aN.wrap ((dT p t a j:Int)+1)=(dT p t a j:Int)+1:=aO _ (by omega);have K:Hid (oz p t i j=decide (dT p t i j=dT p t a j+1)):=laid (by unfold oz;rw[R];simp);by_cases I:j=0
  ·have hd2:decide ((0:Int)<(j:Int))=false:=by simp;omega
   have S:Hid (oz p t i j=true):=laid (by rw[I];exact QU p t i (by omega));have D:Hid (letter p t i j=73):=laid (by unfold letter;rw[S.out];unfold pD;rw[I];simp);have M:((dT p t i j:Int)==(dT p t a j:Int)+1)=true:=by
    have o:=S.out;rw[K.out]at o;have:=of_decide_eq_true o;simp;omega
   have hj9:¬(0:Int)<(j:Int):=by omega
   have f:¬0<j:=by omega
   have hj7:decide (0<j)=false:=decide_eq_false f;clear S K R I U;generalize dT p t i j=X at *;generalize dT p t a j=Z at *
   go_enter b_,cg
   go_wp2_with fail
   go_quiet(fail)
   go_wp2_with fail
   go_quiet(fail)
   rw[cH];go_wp2
   go_ret
   exact⟨by rw[D.out];rfl,_,rfl⟩
  ·obtain⟨b,L⟩:∃b,j=b+1:=⟨j-1,by omega⟩;have z:(0:Int)<(j:Int):=by omega
   have c:0<j:=by omega
   have hj3:decide (0<j)=true:=decide_eq_true c;have hj4:decide ((0:Int)<(j:Int))=true:=decide_eq_true z;have r2:=O.out a (by omega) b (by omega);have b7:(0:Int)<=(b:Int):=by omega
   have b8:(b:Int)<(t.size:Int)+1:=by omega
   have n:(a:Int)<(p.size:Int):=by omega
   have k:(b:Int)<(t.size:Int):=by omega
   have T:a<p.size:=by omega
   have V:b<t.size:=by omega
   have hpa:=mn p a T;have htb:=mn t b V;have rS:aN.wrap ((j:Int)-1)=(b:Int):=by rw[show(j:Int)-1=(b:Int) by omega];exact aO _ (by omega)
   have hY:dT p t a b<=1000:=by have:=Bc p t a b;omega
   have h:=SH (at8 p a) (at8 t b)
   have H:Hid (pD p t i j=decide (dT p t i j=dT p t a b+co (at8 p a) (at8 t b))):=laid (by unfold pD;rw[R,L];simp[cost,co];rfl);have A:=laid (fun W:ae=>PK (at8 p a) (at8 t b) W);have y1:aN.wrap ((dT p t a b:Int)+(co (at8 p a) (at8 t b):Int))=(dT p t a b:Int)+(co (at8 p a) (at8 t b):Int):=aO _ (by omega);clear R L U I;generalize dT p t i j=X at *;generalize dT p t a j=Z at *;generalize dT p t a b=Y at *;generalize co (at8 p a) (at8 t b)=C at *;by_cases J:X=Y+C
   ·have D:Hid (letter p t i j=77):=laid (by unfold letter;rw[H.out,decide_eq_true J];rfl);have l:((X:Int)==(Y:Int)+(C:Int))=true:=by simp;omega
    clear H K J
    go_enter b_,cg
    go_wp2_with fail
    go_quiet((go_at_call 165;refine(A.out _).mono ?_;rintro e N ⟨rfl,rfl⟩;exact⟨rfl,_,rfl⟩))
    go_wp2
    go_ret
    exact⟨by rw[D.out];rfl,_,rfl⟩
   ·have l:((X:Int)==(Y:Int)+(C:Int))=false:=by simp;omega
    by_cases P:X=Z+1
    ·have D:Hid (letter p t i j=73):=laid (by unfold letter;rw[H.out,decide_eq_false J,K.out,decide_eq_true P];rfl);have M:((X:Int)==(Z:Int)+1)=true:=by simp;omega
     clear H K J P
     go_enter b_,cg
     go_wp2_with fail
     go_quiet((go_at_call 165;refine(A.out _).mono ?_;rintro e N ⟨rfl,rfl⟩;exact⟨rfl,_,rfl⟩))
     go_wp2_with fail
     go_quiet(fail)
     rw[cH];go_wp2
     go_ret
     exact⟨by rw[D.out];rfl,_,rfl⟩
    ·have D:Hid (letter p t i j=68):=laid (by unfold letter;rw[H.out,decide_eq_false J,K.out,decide_eq_false P];rfl);have M:((X:Int)==(Z:Int)+1)=false:=by simp;omega
     clear H K J P
     go_enter b_,cg
     go_wp2_with fail
     go_quiet((go_at_call 165;refine(A.out _).mono ?_;rintro e N ⟨rfl,rfl⟩;exact⟨rfl,_,rfl⟩))
     go_wp2_with fail
     go_quiet(fail)
     rw[cH];go_wp2
     go_ret
     exact⟨by rw[D.out];rfl,_,rfl⟩
theorem qG.below{B:Nat}{t:ByteArray}{v:ah}{g:Nat->Nat}(h:qG w B p t v n g)(Y:af w.heap.size w w'):qG w' B p t v n g:=by
 refine⟨uQ h.own Y,fun x H=>?_,h.base⟩;have hr:=h.rows x H;have K:=hr.lt;unfold u_ at *;rw[Y.block _ K];exact hr
theorem ahs:(ai.info? 5).map (fun i=>(i.zero,i.size,i.bytes))=some (some (.int .u8 0),1,1):=by kernel_rfl
theorem Yw{t:ByteArray}{L:List _}(H:¬(i=0/\j=0))(h:iR p t (i+j) i j++L.reverse=iu p t):
  (letter p t i j=77/\0<i/\0<j/\iR p t (i-1+(j-1)) (i-1) (j-1)++(L++[77]).reverse=iu p t)\/
  (letter p t i j=73/\0<i/\iR p t (i-1+j) (i-1) j++(L++[73]).reverse=iu p t)\/
  (letter p t i j=68/\0<j/\iR p t (i+(j-1)) i (j-1)++(L++[68]).reverse=iu p t):=by
 simp;unfold letter;by_cases Y:pD p t i j=true
 ·have:=Dm Y;exact .inl ⟨if_pos Y,this.1,this.2.1,agx Y h⟩
 ·rw[bI]at Y;by_cases K:oz p t i j=true
  ·exact .inr (.inl ⟨by simp_all,(Dn K).1,agy Y K h⟩)
  ·rw[bI]at K;exact .inr (.inr ⟨by simp_all,C0 K H,agz H Y K h⟩)
theorem abH{C:Array _}{L:List _}{g:Nat}(H:L.length<=cap)(M:C.size=cap *1)(F:C.toList.take (L.length *1)=L.map bv)(U:w.heap[g]?=some (.cells (pL C L.length L.length) 5 (0,0))):
  ∀j D,w.cell? ((⟨g,0,none⟩:Addr).add j)=some (.int .u8 (L.reverse[j].toNat)):=by
 intro j D;have Y:=by simpa using D
 rw[yG,ao w g j _ _ _ U,tP C _ _ j (by omega),if_pos ⟨Y,.inl Y⟩];have A:L.length-1-j<C.size:=by omega
 have K:C.toList[L.length-1-j]?=(L.map bv)[L.length-1-j]?:=by
  rw[<-F,cT,if_pos (by omega)]
 rw[bY,aK (by omega:L.length-1-j<L.length),aK (by omega)]at K;have R:=Option.some.inj K;rw[Array.getD,dif_pos A];have I:=by simpa using R
 show some (C[L.length-1-j])=_
 rw[I,List.getElem_reverse];rfl
theorem abI(p t:ByteArray)(w:ae)(hp:p.size<=100)(hp1:1<=p.size)(ht:t.size<=300):
  aj ai 126 #[.string p,.string t] w fun e w'=>e=.returned (.string (str (iu p t)))/\af w.heap.size w w':=by
 obtain⟨i0,hi,W,q,z⟩:=bm ahs
 go_enter Tryz.func126,Tryz.ntmps126
 go_wp2_with fail
 refine(Xg p t _ hp ht).mono ?_;rintro e w1 ⟨v,g,rfl,T,E⟩;have f:=laid T;clear T;go_wp2
 go_loopw [6,7,8] (fun sv iv jv wr=>∃(i j:Nat) (L:List UInt8),iv=.int .i64 (i:Int)/\jv=.int .i64 (j:Int)/\i<=p.size/\j<=t.size/\L.length+i+j<=p.size+t.size/\p.size<=i+L.length/\Hid (iR p t (i+j) i j++L.reverse=iu p t)/\wr.ownsRow w1.heap.size 5 1 sv L.length (L.map bv)/\af w1.heap.size w1 wr) (fun _ iv jv _=>(intOf iv).toNat+(intOf jv).toNat)
 case atStart=>exact⟨p.size,t.size,[],rfl,rfl,ak _,ak _,by simp,by simp,laid (by simp[iu]),ew _ _ _ _,ay _ _⟩
 case round=>
  obtain⟨i,j,L,rfl,rfl,VB,hjt,hlen,F0,HL,I,R⟩:=hrel;by_cases l:i=0/\j=0
  ·obtain⟨rfl,rfl⟩:=l;have HF:Hid (L.reverse=iu p t):=laid (by rw[<-HL.out];rfl);rcases I.2 with⟨_,h1⟩|⟨G,cap,M,rfl,hG1,n,b,hG4,a,o⟩
   ·omega
   ·have HC:=laid (⟨b,a,o⟩:L.length<=cap/\M.size=cap *1/\M.toList.take (L.length *1)=L.map bv);have m:=laid (NQ M G L.length cap (0,0) wr (by omega) (by omega) (fun k hk=>by simp) (fun x hx=>by
     refine⟨((L.getD x 0).toNat:Int),?_⟩;have BW:x<M.size:=by omega
     have e1:M.toList[x]?=(L.map bv)[x]?:=by rw[<-o,cT,if_pos (by omega)]
     rw[bY,aK hx,aK (by simpa using BW)]at e1;have e2:=Option.some.inj e1;rw[Array.getD,dif_pos BW];show M[x]=_
     have e3:M[x]=bv (L[x]):=by simpa using e2
     rw[e3,az,aK hx];rfl) n)
    have HB:=laid (E.trans (R.mono E.size));have HW:=laid E.size;clear HL f I n b a o E;go_wp2_with fail
    refine m.out.mono ?_;rintro e w2 ⟨⟨v2,rfl⟩,h2,VC⟩;have r:(convert 79 9 (.slice (some ⟨G,0,none⟩) L.length cap)).run ai w2=.ok (.string (str L.reverse)) w2:=by
     have:=run_convert_bytes_back (P:=ai) w2 79 9 5 ⟨G,0,none⟩ cap L.reverse bG Tryz.underlying5 eu (abH HC.out.1 HC.out.2.1 HC.out.2.2 h2);rw[List.length_reverse]at this;exact this
    rw[HF.out]at r;have HB2:Hid (af w.heap.size w w2):=laid (HB.out.grown VC HB.out.size (fun k e=>by cases e;have:=HW.out;omega));clear m VC h2 HC HF HB;go_wp2
    go_ret
    exact⟨rfl,HB2.out⟩
  ·have T:=f.out.below R;have Q:=laid (XG p t w.heap.size v g i j wr hp ht VB hjt T);have hxi:aN.wrap ((i:Int)-1)=(i:Int)-1:=aO _ (by omega);have hxj:aN.wrap ((j:Int)-1)=(j:Int)-1:=aO _ (by omega);have key:=Yw l HL.out;have akQ:(letter p t i j=77/\0<i/\0<j/\Hid (iR p t (i-1+(j-1)) (i-1) (j-1)++(L++[77]).reverse=iu p t))\/(letter p t i j=73/\0<i/\Hid (iR p t (i-1+j) (i-1) j++(L++[73]).reverse=iu p t))\/(letter p t i j=68/\0<i/\0<j/\Hid (iR p t (i+(j-1)) i (j-1)++(L++[68]).reverse=iu p t))\/(letter p t i j=68/\i=0/\0<j/\Hid (iR p t (i+(j-1)) i (j-1)++(L++[68]).reverse=iu p t)):=by
    rcases key with h|h|h
    ·exact .inl h
    ·exact .inr (.inl h)
    ·by_cases hi9:0<i
     ·exact .inr (.inr (.inl ⟨h.1,hi9,h.2.1,h.2.2⟩))
     ·exact .inr (.inr (.inr ⟨h.1,by omega,h.2.1,h.2.2⟩))
   clear HL key f T l;rcases akQ with⟨S,N,F6,c⟩|⟨S,N,c⟩|⟨S,N,F6,c⟩|⟨S,N,F6,c⟩
   ·have q1:(0:Int)<(i:Int):=by omega
    have J:Hid (aj ai 147 #[v,.string p,.string t,.int .i64 (i:Int),.int .i64 (j:Int)] wr fun e w'=>e=.returned (.int .u8 77)/\∃d,w'=wr.drewN d):=laid (by have:=Q.out;rw[S]at this;exact this);have y:decide ((0:Int)<(i:Int))=decide ((0:Int)<(i:Int)):=rfl;have F:=laid N;clear Q S y N;go_wp2_with fail
    refine J.out.mono ?_;rintro e w2 ⟨rfl,B⟩;have H:w2.ownsRow w1.heap.size 5 1 u6 L.length (L.map bv):=by obtain⟨d,rfl⟩:=B;exact I
    have Y:af w1.heap.size w1 w2:=by obtain⟨d,rfl⟩:=B;exact Go.below_drewN R d
    clear J I B R;go_wp2_with(first
     |(at_builtin;refine aX _ rfl _ _ 79 rfl w1.heap.size 5 i0 (.int .u8 0) 1 1 bG hi W q z rfl (by decide) _ _ _ rfl (H.alloc _) ⟨w2.heap.size,0,none⟩ 1 1 [.int .u8 77] rfl rfl ?c1 ?c2 ?c3 ?c4 ?c5 ?_)
     |go_in)
    case c1=>
     intro j u C
     match j,C with
     |0,C=>simp at C;subst C;simp[Addr.add]
    case c2=>intro u V;simp at V;subst V;rfl
    case c3=>unfold ax;omega
    case c4=>omega
    case c5=>have:=Y.size;simp;omega
    intro v' Z K D _;have A:af w1.heap.size w1 Z:=(Y.alloc Y.size _).grown D (by have:=Y.size;simp;omega) (fun j C=>(H.lt j C).1);have U:Z.ownsRow w1.heap.size 5 1 v' (L++[77]).length ((L++[77]).map bv):=by
     rw[ar,a_];exact K
    obtain⟨O,cap,X,rfl⟩:∃O cap X,v'=.slice (some ⟨O,0,none⟩) X cap:=by
     rcases K.2 with⟨_,l⟩|⟨O,cap,M,s,_⟩
     ·omega
     ·exact⟨O,cap,_,s⟩
    clear K D H Y;go_wp2
    go_roundw
    case rel=>go_light;have:=F.out;exact⟨i-1,j-1,L++[77],jb (by omega),jb (by omega),by omega,by omega,by rw[ar];simp;omega,by rw[ar];simp;omega,c,U,A⟩
    case measure=>go_light;have:=F.out;simp[intOf];omega
   ·have q1:(0:Int)<(i:Int):=by omega
    have J:Hid (aj ai 147 #[v,.string p,.string t,.int .i64 (i:Int),.int .i64 (j:Int)] wr fun e w'=>e=.returned (.int .u8 73)/\∃d,w'=wr.drewN d):=laid (by have:=Q.out;rw[S]at this;exact this);have y:decide ((0:Int)<(i:Int))=decide ((0:Int)<(i:Int)):=rfl;have F:=laid N;clear Q S y N;go_wp2_with fail
    refine J.out.mono ?_;rintro e w2 ⟨rfl,B⟩;have H:w2.ownsRow w1.heap.size 5 1 u6 L.length (L.map bv):=by obtain⟨d,rfl⟩:=B;exact I
    have Y:af w1.heap.size w1 w2:=by obtain⟨d,rfl⟩:=B;exact Go.below_drewN R d
    clear J I B R;go_wp2_with(first
     |(at_builtin;refine aX _ rfl _ _ 79 rfl w1.heap.size 5 i0 (.int .u8 0) 1 1 bG hi W q z rfl (by decide) _ _ _ rfl (H.alloc _) ⟨w2.heap.size,0,none⟩ 1 1 [.int .u8 73] rfl rfl ?c1 ?c2 ?c3 ?c4 ?c5 ?_)
     |go_in)
    case c1=>
     intro j u C
     match j,C with
     |0,C=>simp at C;subst C;simp[Addr.add]
    case c2=>intro u V;simp at V;subst V;rfl
    case c3=>unfold ax;omega
    case c4=>omega
    case c5=>have:=Y.size;simp;omega
    intro v' Z K D _;have A:af w1.heap.size w1 Z:=(Y.alloc Y.size _).grown D (by have:=Y.size;simp;omega) (fun j C=>(H.lt j C).1);have U:Z.ownsRow w1.heap.size 5 1 v' (L++[73]).length ((L++[73]).map bv):=by
     rw[ar,a_];exact K
    obtain⟨O,cap,X,rfl⟩:∃O cap X,v'=.slice (some ⟨O,0,none⟩) X cap:=by
     rcases K.2 with⟨_,l⟩|⟨O,cap,M,s,_⟩
     ·omega
     ·exact⟨O,cap,_,s⟩
    clear K D H Y;go_wp2
    go_roundw
    case rel=>go_light;have:=F.out;exact⟨i-1,j,L++[73],jb (by omega),jb (by omega),by omega,by omega,by rw[ar];simp;omega,by rw[ar];simp;omega,c,U,A⟩
    case measure=>go_light;have:=F.out;simp[intOf];omega
   ·have q1:(0:Int)<(i:Int):=by omega
    have J:Hid (aj ai 147 #[v,.string p,.string t,.int .i64 (i:Int),.int .i64 (j:Int)] wr fun e w'=>e=.returned (.int .u8 68)/\∃d,w'=wr.drewN d):=laid (by have:=Q.out;rw[S]at this;exact this);have y:decide ((0:Int)<(i:Int))=decide ((0:Int)<(i:Int)):=rfl;have F:=laid N;clear Q S y N;go_wp2_with fail
    refine J.out.mono ?_;rintro e w2 ⟨rfl,B⟩;have H:w2.ownsRow w1.heap.size 5 1 u6 L.length (L.map bv):=by obtain⟨d,rfl⟩:=B;exact I
    have Y:af w1.heap.size w1 w2:=by obtain⟨d,rfl⟩:=B;exact Go.below_drewN R d
    clear J I B R;go_wp2_with(first
     |(at_builtin;refine aX _ rfl _ _ 79 rfl w1.heap.size 5 i0 (.int .u8 0) 1 1 bG hi W q z rfl (by decide) _ _ _ rfl (H.alloc _) ⟨w2.heap.size,0,none⟩ 1 1 [.int .u8 68] rfl rfl ?c1 ?c2 ?c3 ?c4 ?c5 ?_)
     |go_in)
    case c1=>
     intro j u C
     match j,C with
     |0,C=>simp at C;subst C;simp[Addr.add]
    case c2=>intro u V;simp at V;subst V;rfl
    case c3=>unfold ax;omega
    case c4=>omega
    case c5=>have:=Y.size;simp;omega
    intro v' Z K D _;have A:af w1.heap.size w1 Z:=(Y.alloc Y.size _).grown D (by have:=Y.size;simp;omega) (fun j C=>(H.lt j C).1);have U:Z.ownsRow w1.heap.size 5 1 v' (L++[68]).length ((L++[68]).map bv):=by
     rw[ar,a_];exact K
    obtain⟨O,cap,X,rfl⟩:∃O cap X,v'=.slice (some ⟨O,0,none⟩) X cap:=by
     rcases K.2 with⟨_,l⟩|⟨O,cap,M,s,_⟩
     ·omega
     ·exact⟨O,cap,_,s⟩
    clear K D H Y;go_wp2
    go_roundw
    case rel=>go_light;have:=F.out;exact⟨i,j-1,L++[68],jb (by omega),jb (by omega),by omega,by omega,by rw[ar];simp;omega,by rw[ar];simp;omega,c,U,A⟩
    case measure=>go_light;have:=F.out;simp[intOf];omega
   ·obtain⟨q3,q1,q4⟩:(0:Int)<(j:Int)/\¬(0:Int)<(i:Int)/\¬0<i:=⟨by omega,by omega,by omega⟩;have J:Hid (aj ai 147 #[v,.string p,.string t,.int .i64 (i:Int),.int .i64 (j:Int)] wr fun e w'=>e=.returned (.int .u8 68)/\∃d,w'=wr.drewN d):=laid (by have:=Q.out;rw[S]at this;exact this);have y:decide ((0:Int)<(i:Int))=decide ((0:Int)<(i:Int)):=rfl;have F:=laid N;clear Q S y N;go_wp2_with fail
    refine J.out.mono ?_;rintro e w2 ⟨rfl,B⟩;have H:w2.ownsRow w1.heap.size 5 1 u6 L.length (L.map bv):=by obtain⟨d,rfl⟩:=B;exact I
    have Y:af w1.heap.size w1 w2:=by obtain⟨d,rfl⟩:=B;exact Go.below_drewN R d
    clear J I B R;go_wp2_with(first
     |(at_builtin;refine aX _ rfl _ _ 79 rfl w1.heap.size 5 i0 (.int .u8 0) 1 1 bG hi W q z rfl (by decide) _ _ _ rfl (H.alloc _) ⟨w2.heap.size,0,none⟩ 1 1 [.int .u8 68] rfl rfl ?c1 ?c2 ?c3 ?c4 ?c5 ?_)
     |go_in)
    case c1=>
     intro j u C
     match j,C with
     |0,C=>simp at C;subst C;simp[Addr.add]
    case c2=>intro u V;simp at V;subst V;rfl
    case c3=>unfold ax;omega
    case c4=>omega
    case c5=>have:=Y.size;simp;omega
    intro v' Z K D _;have A:af w1.heap.size w1 Z:=(Y.alloc Y.size _).grown D (by have:=Y.size;simp;omega) (fun j C=>(H.lt j C).1);have U:Z.ownsRow w1.heap.size 5 1 v' (L++[68]).length ((L++[68]).map bv):=by
     rw[ar,a_];exact K
    obtain⟨O,cap,X,rfl⟩:∃O cap X,v'=.slice (some ⟨O,0,none⟩) X cap:=by
     rcases K.2 with⟨_,l⟩|⟨O,cap,M,s,_⟩
     ·omega
     ·exact⟨O,cap,_,s⟩
    clear K D H Y;go_wp2
    go_roundw
    case rel=>go_light;have:=F.out;exact⟨i,j-1,L++[68],jb (by omega),jb (by omega),by omega,by omega,by rw[ar];simp;omega,by rw[ar];simp;omega,c,U,A⟩
    case measure=>go_light;have:=F.out;simp[intOf];omega
theorem afC(a b:UInt8):ag a b=ag b a:=by
 unfold ag;by_cases h:a=b
 ·rw[h]
 ·have Y:(a==b)=false:=by simp_all
  have K:(b==a)=false:=by simpa using fun e=>h e.symm
  rw[Y,K];rfl
theorem Ba(t p:ByteArray):∀i j,mA t p i j=sT p t j i
 |0,0=>by simp[mA,sT]
 |0,j+1=>by simp[mA,sT]
 |i+1,0=>by simp[mA,mP,sT]
 |i+1,j+1=>by
  have Y:=Ba t p i j;have K:=Ba t p i (j+1);have H:=Ba t p (i+1) j;rw[sT,<-Y,<-K,<-H];simp only[mA];rw[mP];have e:co (at8 t i) (at8 p j)=cost p t j i:=by unfold co cost;rw[afC]
  omega
theorem G8(t p:ByteArray)(k e d:Nat):∀n,(e,d)∈lr t p k n↔1<=e/\e<=n/\d=mA t p e p.size/\d<=k
 |0=>by simp[lr];omega
 |n+1=>by
  have Y:=G8 t p k e d n;rw[lr];split
  ·rename_i h;rw[bh,Y];simp only[bM,Prod.mk.injEq];constructor
   ·rintro(⟨a,b,c,x⟩|⟨rfl,rfl⟩)
    ·omega
    ·omega
   ·rintro⟨a,b,c,x⟩;by_cases K:e<=n
    ·omega
    ·have:e=n+1:=by omega
     subst this;exact .inr ⟨rfl,c⟩
  ·rw[Y];constructor
   ·omega
   ·rintro⟨a,b,c,x⟩;by_cases K:e<=n
    ·omega
    ·have:e=n+1:=by omega
     subst this;omega
theorem Rw(X P:ByteArray)(k st x e d:Nat):(e,d)∈kN (x *st) (lE (jI X P k st x) P k) (lE (jI X P k st x) P k).length↔∃i,1<=i/\i<=(jI X P k st x).size/\e=i+x *st/\d=sT P (jI X P k st x) P.size i/\d<=k:=by
 unfold kN;rw[dY,List.drop_length,dH,bu];constructor
 ·rintro⟨⟨i,d'⟩,K,Y⟩;obtain⟨rfl,rfl⟩:=Y;obtain⟨a,b,c,h⟩:=(G8 _ _ _ _ _ _).1 K;exact⟨i,a,b,rfl,by rw[<-Ba];exact c,h⟩
 ·rintro⟨i,a,b,rfl,c,h⟩;exact⟨(i,d),(G8 _ _ _ _ _ _).2 ⟨a,b,by rw[Ba];exact c,h⟩,rfl⟩
theorem Cx{P:ByteArray}{k st:Nat}{t:Int}{x:Nat}:∀n,x∈jE P X k q st t n↔x<n/\looked P X k q st t x=true
 |0=>by simp[jE]
 |n+1=>by
  have K:x∈jE P X k q st t n↔x<n/\looked P X k q st t x=true:=Cx n;rw[jE];split
  ·rename_i h;rw[bh,K];simp only[bM];constructor
   ·rintro(⟨a,b⟩|rfl)
    ·exact⟨by omega,b⟩
    ·exact⟨by omega,h⟩
   ·rintro⟨a,b⟩;by_cases Y:x<n
    ·exact .inl ⟨Y,b⟩
    ·exact .inr (by omega)
  ·rename_i h;rw[K];constructor
   ·rintro⟨a,b⟩;exact⟨by omega,b⟩
   ·rintro⟨a,b⟩;by_cases Y:x<n
    ·exact⟨Y,b⟩
    ·have:x=n:=by omega
     subst this;exact absurd b h
theorem adD(X P:ByteArray)(k q st x e d:Nat)(U:x *st<=X.size)(h:(e,d)∈kN (x *st) (lE (jI X P k st x) P k) (lE (jI X P k st x) P k).length):e<=X.size/\d<=k/\(iy P X k e).1<=d:=by
 obtain⟨i,R,I,rfl,Y,K⟩:=(Rw X P k st x e d).1 h;have D:(jI X P k st x).size=min (x *st+st+P.size+k) X.size-x *st:=by unfold jI;simp_all
 have H:i+x *st<=min (x *st+st+P.size+k) X.size:=by omega
 refine⟨by omega,K,?_⟩;have:=MO P X k (x *st) _ _ (by omega) H (by omega) (by rw[show i+x *st-x *st=i by omega];show sT P (jI X P k st x) _ i<=k;omega);rw[show i+x *st-x *st=i by omega]at this;rw[Y];exact this
theorem ZU(X P:ByteArray)(k q st e:Nat)(F:1<=q)(gF:1<=st)(Y:e<=X.size)(hk:(iy P X k e).1<=k)(U:k<P.size):∃x∈jE P X k q st (ma P.size k q) (stretches X.size st),(e,(iy P X k e).1)∈kN (x *st) (lE (jI X P k st x) P k) (lE (jI X P k st x) P k).length:=by
 obtain⟨O,D,I⟩:=XD P X k st e gF Y hk;obtain⟨b1,b2,M,b4⟩:=(yC P X k e Y).2 hk;have B:=OE P X k q st (iy P X k e).2 e F gF b1 Y (by omega);generalize L:(e-(P.size+k))/st=x at *;have A:0<e:=by
  rcases Nat.eq_zero_or_pos e with K|K
  ·exfalso;subst K;have H:(iy P X k 0).2=0:=by omega
   rw[H]at b2;have N:jd P (X.extract 0 0)=P.size:=by
    unfold jd;rw[show(X.extract 0 0).size=0 by rw[bC];omega];cases P.size<;>simp[dT]
   omega
  ·exact K
 have C:x *st<e:=by
  have Q:x *st<=e-(P.size+k):=by rw[<-L];exact cX _ _
  omega
 refine⟨x,(Cx _).2 ⟨(Aw X.size st x gF).1 (by omega),B⟩,?_⟩;rw[Rw];have J:(jI X P k st x).size=min (x *st+st+P.size+k) X.size-x *st:=by unfold jI;rw[bC];omega
 have R:e<=min (x *st+st+P.size+k) X.size:=D;exact⟨e-x *st,by omega,by omega,by omega,I.symm,hk⟩
end
section
open RowKit Maps
noncomputable def vX:=match bA.body with
 |some (.seq _ (.seq _ c))=>c
 |_=>.skip
def F_(a0 a1 a3 a4:ah)(fl:Bool)(b5 b6 Y b:Nat)(u:Nat->ah):=#[a0,a1,.bool fl,a3,a4,pt b5,pt b6,u 7,pt Y,u 9,.slice none 0 0,.map (some b),u 12,u 13,u 14,u 15,u 16,u 17,u 18,u 19,u 20,u 21,u 22,u 23,u 24,u 25,u 26,u 27,u 28,u 29,u 30,u 31,u 32,u 33,u 34,u 35,u 36,u 37,u 38,u 39,u 40,u 41,u 42,u 43,u 44,u 45,u 46,u 47,u 48,u 49,u 50,u 51,u 52,u 53,u 54,u 55,u 56,u 57,u 58,u 59,u 60,u 61,u 62,u 63,u 64,u 65,u 66,u 67,u 68,u 69,u 70,u 71,u 72]
def pA(X P rn rm:ByteArray)(fl:Bool)(st dd:Nat->Nat)(e:Nat):Pl:=
 ⟨rn,P,rm,fl,st e,dd e,str (nG (str (iu P (X.extract (st e) e)))),str (pz P (X.extract (st e) e) (str (iu P (X.extract (st e) e))))⟩
def qR(p:Pl):Value:=.iface 158 p.val
theorem Co(p t:ByteArray):∀f i j,∀c∈iR p t f i j,c=77\/c=73\/c=68
 |0,i,j=>by simp[iR]
 |f+1,i,j=>by
  intro c Y;rw[iR]at Y;split at Y
  ·simp at Y
  ·split at Y
   ·rw[bh]at Y;rcases Y with Y|Y
    ·exact Co p t f _ _ c Y
    ·simp_all
   ·split at Y
    ·rw[bh]at Y;rcases Y with Y|Y
     ·exact Co p t f _ _ c Y
     ·simp_all
    ·rw[bh]at Y;rcases Y with Y|Y
     ·exact Co p t f _ _ c Y
     ·simp_all
theorem Yx(p t:ByteArray):∀x,x<(str (iu p t)).size->at8 (str (iu p t)) x=77\/at8 (str (iu p t)) x=73\/at8 (str (iu p t)) x=68:=by
 intro x Y;rw[pX,az,aK Y];exact Co p t _ _ _ _ (cB Y)
theorem Rx:(ai.info? 136).map (fun i=>(i.zero,i.size,i.bytes))=some (some .nilIface,1,16):=by kernel_rfl
theorem abJ(X P rn rm XN:ByteArray)(fl:Bool)(es:List Nat)(st dd:Nat->Nat)(a0 a1 a3 a4:ah)(b5 b6 b8 b:Nat)(u:Nat->ah)(w:ae)
  (hX:X.size<=200)(hP:P.size<=30)(hP1:1<=P.size)(hes:es.length<=1000)
  (h5:w.heap[b5]?=some (.cells #[.string XN,.string X] 68 (0,0)))(h6:w.heap[b6]?=some (.cells #[.string rn,.string P,.string rm] 131 (0,0)))
  (HS:aj ai 123 #[.func (.func 143) #[] #[.pointer (some ⟨w.heap.size,0,none⟩)]] (w.alloc (.cells #[.map (some b)] 166)) fun e w'=>∃v,e=.returned v/\w'.ownsRow w.heap.size 3 1 v es.length (es.map nV)/\af w.heap.size w w')
  (VD:∀W:ae,W.heap[b]?=w.heap[b]?->∀e∈es,(dA 166 (.map (some b)) (.int .i64 (e:Int)) false).run ai W=.ok (.int .i64 (dd e:Int)) W)(hbl:b<w.heap.size)
  (HE:∀e∈es,e<=X.size/\dd e<=1000/\st e<=e/\jd P (X.extract (st e) e)<=dd e/\∀c,c<e-st e->dd e<jd P (X.extract (e-c) e))(vw:iN w):
  vX.wp ai (aV ai bA fun e w'=>∃v,e=.returned v/\w'.ownsRow w.heap.size 136 1 v es.length (es.map fun e=>qR (pA X P rn rm fl st dd e))/\af w.heap.size w w'/\(es=[]->v=.slice none 0 0)) ⟨F_ a0 a1 a3 a4 fl b5 b6 b8 b u,[]⟩ w:=by
 obtain⟨i0,hi,sZ,qX,s_⟩:=bm Rx;have VE:=laid HS;have VF:=laid VD;have VG:=laid HE;have HT:=laid vw;have H5:=laid h5;have H6:=laid h6;have EU:b5<w.heap.size:=(aZ.1 h5).1;have EV:b6<w.heap.size:=(aZ.1 h6).1;clear HS VD HE vw h5 h6;obtain⟨Q,hQ⟩:∃Q,Q=(aV ai bA fun e w'=>∃v,e=.returned v/\w'.ownsRow w.heap.size 136 1 v es.length (es.map fun e=>qR (pA X P rn rm fl st dd e))/\af w.heap.size w w'/\(es=[]->v=.slice none 0 0)):=⟨_,rfl⟩;rw[<-hQ];have HQ:=laid hQ;clear hQ;unfold vX bA F_;dsimp only;simp only[pt];go_wp2_with fail
 refine(Yt _ _).mono ?_;rintro e w1 ⟨rfl,rfl⟩;go_wp2_with fail
 refine VE.out.mono ?_;rintro e w2 ⟨v,rfl,O,F7⟩;clear VE;have akR:=laid O;obtain⟨Mn,VH,hv,ajt⟩:∃(Mn:Option Addr) (VH:Nat),v=.slice Mn es.length VH/\Hid (∀i,i<es.length->∃g,Mn=some ⟨g,0,none⟩/\g<w2.heap.size/\w2.cell? ⟨g,i,none⟩=some (.int .i64 ((es.getD i 0:Nat):Int))):=by
  rcases O.2 with⟨rfl,h0⟩|⟨g,cap,cur,rfl,hB,hg,UY,hc2,hc3,hc4⟩
  ·exact⟨none,0,by rw[h0],laid fun i hi=>by omega⟩
  ·refine⟨some ⟨g,0,none⟩,cap,rfl,laid fun i hi=>⟨g,rfl,(aZ.1 hg).1,?_⟩⟩;have h:=(O.cells (g:=g) rfl) i (nV (es.getD i 0)) (by rw[bY,az,aK hi];rfl);rw[yG]at h;exact h
 subst hv;clear O akR;have Z:w.heap.size<=w2.heap.size:=F7.size;go_wp2
 go_loopw [12,30] (fun rv iv wr=>∃i:Nat,iv=.int .i64 (i:Int)/\i<=es.length/\Hid (i=0->rv=.slice none 0 0)/\wr.ownsRow w2.heap.size 136 1 rv i ((es.take i).map fun e=>qR (pA X P rn rm fl st dd e))/\af w2.heap.size w2 wr) (fun _ iv _=>es.length-(intOf iv).toNat)
 case atStart=>exact⟨0,rfl,aQ _,laid fun _=>rfl,by simpa using ew _ _ _ _,ay _ _⟩
 case round=>
  obtain⟨i,rfl,hil,VI,N,U⟩:=hrel;have J:af w.heap.size w wr:=F7.trans (U.mono Z);by_cases l:i<es.length
  ·obtain⟨VJ,rfl,akS,t⟩:=ajt.out i l;have hci:wr.cell? ⟨VJ,i,none⟩=some (.int .i64 ((es.getD i 0:Nat):Int)):=by rw[U.cell (p:=⟨VJ,i,none⟩) akS];exact t
   have G:es.getD i 0∈es:=by rw[az,aK l];exact cB _
   have zY:Hid ((es.take (i+1)).map (fun e=>qR (pA X P rn rm fl st dd e))=(es.take i).map (fun e=>qR (pA X P rn rm fl st dd e))++[qR (pA X P rn rm fl st dd (es.getD i 0))]):=laid (by
    rw[List.take_add_one,aK l,a_,az,aK l];rfl)
   obtain⟨Gb,he2,he3,VK,VM⟩:=VG.out _ G;have L3:=VF.out wr (by rw[J.block b hbl]) _ G;generalize es.getD i 0=E at *;have B:=laid (And.intro VK VM);clear VK VM t G;have b1:(i:Int)<(es.length:Int):=by omega
   have b2:(0:Int)<=(i:Int):=by omega
   have akT:b5<wr.heap.size:=bj EU J.size;have akU:b6<wr.heap.size:=bj EV J.size;have k5:wr.heap[b5]?=some (.cells #[.string XN,.string X] 68 (0,0)):=by rw[J.block b5 EU];exact H5.out
   have S:wr.heap[b6]?=some (.cells #[.string rn,.string P,.string rm] 131 (0,0)):=by rw[J.block b6 EV];exact H6.out
   have c5:wr.cell? ⟨b5,1,none⟩=some (.string X):=by rw[ao wr _ 1 _ _ _ k5];rfl
   have c6:wr.cell? ⟨b6,1,none⟩=some (.string P):=by rw[ao wr _ 1 _ _ _ S];rfl
   have VN:Hid (∀W:ae,aj ai 125 #[.string X,.string P,.agg #[.int .i64 (E:Int),.int .i64 (dd E:Int)]] W fun r w'=>r=.returned (.int .i64 (st E:Int))/\af W.heap.size W w'):=laid fun W=>by
    have:=Yv X P E (dd E) (E-st E) W hX (by omega) Gb he2 (by omega) (by rw[show E-(E-st E)=st E by omega];exact B.out.1) B.out.2;rw[show E-(E-st E)=st E by omega]at this;exact this
   have VP:oW (wr.alloc (.cells #[.int .i64 (E:Int),.int .i64 (dd E:Int)] 173)) wr.heap.size E (dd E):=heap_alloc_new wr _;have VQ:=laid VP;have VS:=laid k5;have Cd:=laid S;clear VP k5 S B;go_wp2_with fail
   refine(VN.out _).mono ?_;rintro e w3 ⟨rfl,f⟩;have R:af wr.heap.size wr w3:=((ay _ _).alloc (ak _) _).trans (f.mono (by simp));have BX:=VQ.out.below f (by simp);have q:=uQ N R;have F:=U.trans (R.mono U.size);have k5:w3.heap[b5]?=some (.cells #[.string XN,.string X] 68 (0,0)):=by rw[R.block b5 akT];exact VS.out
   have S:w3.heap[b6]?=some (.cells #[.string rn,.string P,.string rm] 131 (0,0)):=by rw[R.block b6 akU];exact Cd.out
   have d5:w3.cell? ⟨b5,1,none⟩=some (.string X):=by rw[ao w3 _ 1 _ _ _ k5];rfl
   have d6:w3.cell? ⟨b6,1,none⟩=some (.string P):=by rw[ao w3 _ 1 _ _ _ S];rfl
   have VT:wr.heap.size<w3.heap.size:=by have:=f.size;simp at this;omega
   have a:b6<w3.heap.size:=by omega
   have x:=laid S;have VU:=laid BX;generalize wr.heap.size=y at *;clear f R N U VQ VS Cd k5 S BX c5 c6 VN L3 hci;have s1:(st E:Int)<=(E:Int):=by omega
   have s2:(E:Int)<=(X.size:Int):=by omega
   have s3:(0:Int)<=(st E:Int):=by omega
   have s4:E<=X.size:=Gb;have hAs:(X.extract (st E) E).size<=300:=by rw[bC];omega
   have VV:=laid (fun W:ae=>abI P (X.extract (st E) E) W (by omega) hP1 hAs);have VX:Hid (qR (pA X P rn rm fl st dd E)=.iface 158 (.agg #[.string rn,.string P,.string rm,.bool fl,.int .i64 (st E:Int),.int .i64 (dd E:Int),.string (str (nG (str (iu P (X.extract (st E) E))))),.string (str (pz P (X.extract (st E) E) (str (iu P (X.extract (st E) E)))))])):=laid rfl;have VY:(str (iu P (X.extract (st E) E))).size<=1000:=by rw[ia];have:=AM P (X.extract (st E) E);omega
   have VZ:Hid (∀W:ae,iN W->aj ai 127 #[.string (str (iu P (X.extract (st E) E)))] W fun e w'=>e=.returned (.string (str (nG (str (iu P (X.extract (st E) E))))))/\af W.heap.size W w'):=laid fun W K=>ZP _ W VY K;have V0:Hid (∀W:ae,iN W->aj ai 128 #[.string (str (iu P (X.extract (st E) E))),.string P,.string (X.extract (st E) E)] W fun e w'=>e=.returned (.string (str (pz P (X.extract (st E) E) (str (iu P (X.extract (st E) E))))))/\af W.heap.size W w'):=laid fun W K=>WC P (X.extract (st E) E) _ W (by omega) (by omega) VY (abk P _) (Yx P _) K;generalize str (pz P (X.extract (st E) E) (str (iu P (X.extract (st E) E))))=DF at *;generalize str (nG (str (iu P (X.extract (st E) E))))=RN at *;generalize str (iu P (X.extract (st E) E))=LL at *;generalize I:X.extract (st E) E=A at *;go_wp2_with fail
   refine(VV.out _).mono ?_;rintro e w4 ⟨rfl,C⟩;have d:=VU.out.below C VT;have H:=uQ q C;have D:=F.trans (C.mono F.size);have S:w4.heap[b6]?=some (.cells #[.string rn,.string P,.string rm] 131 (0,0)):=by rw[C.block b6 a];exact x.out
   have c0:w4.cell? ⟨b6,0,none⟩=some (.string rn):=by rw[ao w4 _ 0 _ _ _ S];rfl
   have c1:w4.cell? ⟨b6,1,none⟩=some (.string P):=by rw[ao w4 _ 1 _ _ _ S];rfl
   have c2:w4.cell? ⟨b6,2,none⟩=some (.string rm):=by rw[ao w4 _ 2 _ _ _ S];rfl
   have cF:=d.c1;have m:y<w4.heap.size:=bj VT C.size;have M:b6<w4.heap.size:=bj a C.size;have n:af w.heap.size w w4:=F7.trans (D.mono Z);have Mo:iN w4:=HT.out.on n;have un:∀{W:ae},af w4.drew.heap.size w4.drew W->af w4.heap.size w4 W:=fun K=>⟨K.os,K.tape,K.output,K.size,K.block⟩;have Mq:Hid (∀W:ae,W=w4.drew\/af w4.drew.heap.size w4.drew W->iN W):=laid fun W K=>by
    rcases K with rfl|K
    ·exact Mo
    ·exact Mo.on (un K)
   have Mr:Hid (∀W:ae,af w4.drew.heap.size w4.drew W->W.cell? ⟨b6,0,none⟩=some (.string rn)/\W.cell? ⟨b6,1,none⟩=some (.string P)/\W.cell? ⟨b6,2,none⟩=some (.string rm)/\W.cell? ⟨y,1,none⟩=some (.int .i64 (dd E:Int))):=laid fun W K=>⟨by rw[(un K).cell (p:=⟨b6,0,none⟩) M];exact c0,by rw[(un K).cell (p:=⟨b6,1,none⟩) M];exact c1,by rw[(un K).cell (p:=⟨b6,2,none⟩) M];exact c2,by rw[(un K).cell (p:=⟨y,1,none⟩) m];exact cF⟩;have Cc:Hid (∀(W1 V:ae) (o:Obj),af w4.drew.heap.size w4.drew W1->(W1.alloc o).grownBy V u12.ownBlock->V.cell? ⟨b6,0,none⟩=some (.string rn)/\V.cell? ⟨b6,1,none⟩=some (.string P)/\V.cell? ⟨b6,2,none⟩=some (.string rm)/\V.cell? ⟨y,1,none⟩=some (.int .i64 (dd E:Int))):=laid fun W1 V o K hg=>by
    have hs:=(un K).size;have e1:V.heap[b6]?=some (.cells #[.string rn,.string P,.string rm] 131 (0,0)):=by
     rw[hg.block b6 (by simp;omega) (fun e=>yv H S (by decide) e.symm),bk W1 _ (by omega),(un K).block b6 M];exact S
    have e2:V.heap[y]?=some (.cells #[.int .i64 (E:Int),.int .i64 (dd E:Int)] 173 (0,0)):=by
     rw[hg.block y (by simp;omega) (fun e=>yv H d (by decide) e.symm),bk W1 _ (by omega),(un K).block y m];exact d
    exact⟨by rw[ao V _ 0 _ _ _ e1];rfl,by rw[ao V _ 1 _ _ _ e1];rfl,by rw[ao V _ 2 _ _ _ e1];rfl,by rw[ao V _ 1 _ _ _ e2];rfl⟩
   have Ca:Hid (∀(W:ae),af w4.drew.heap.size w4.drew W->∀o:Obj,(W.alloc o).ownsRow w2.heap.size 136 1 u12 i ((es.take i).map fun e=>qR (pA X P rn rm fl st dd e))):=laid fun W K o=>(uQ H (un K)).alloc _;have Cb:Hid (∀(W:ae),af w4.drew.heap.size w4.drew W->∀o:Obj,w2.heap.size<=(W.alloc o).heap.size):=laid fun W K o=>by have h1:=D.size;have h2:=(un K).size;simp;omega
   have k:=laid D;have V1:=laid H;clear C d H q D F S un Mo n VU x d5 d6 VV J;go_wp2_with fail
   go_region_held3 (fun w'=>w'.cell? ⟨b6,0,none⟩=some (.string rn)/\w'.cell? ⟨b6,1,none⟩=some (.string P)/\w'.cell? ⟨b6,2,none⟩=some (.string rm)/\w'.cell? ⟨y,1,none⟩=some (.int .i64 (dd E:Int)))
    (first
     |go_keep
     |exact Cc.out _ _ _ (Y.trans (T.mono Y.size)) L
     |exact Mr.out _ (Y.trans (T.mono Y.size))
     |exact Mr.out _ Y)
    (first
     |(go_at_call 127;refine(VZ.out _ (Mq.out _ (.inl rfl))).mono ?_;rintro e w' ⟨rfl,Y⟩)
     |(go_at_call 128;refine(V0.out _ (Mq.out _ (.inr Y))).mono ?_;rintro e s ⟨rfl,T⟩)
     |(refine step_append_lies _ rfl _ _ 133 rfl w2.heap.size 136 i0 .nilIface 1 16 ep hi sZ qX s_ rfl (by decide) _ i _ rfl (Ca.out s (Y.trans (T.mono Y.size)) _) ⟨s.heap.size,0,none⟩ 1 1 [.iface 158 (.agg #[.string rn,.string P,.string rm,.bool fl,.int .i64 (st E:Int),.int .i64 (dd E:Int),.string RN,.string DF])] rfl rfl (dp (heap_alloc_new s _)) (fun u hu=>by simp at hu;subst hu;rfl) (by omega) (by unfold ax;omega) (by omega) (Cb.out s (Y.trans (T.mono Y.size)) _) _ rfl ?_;intro g5 EM w6 z L F5 Ki))
   rename_i JP;clear JP;have akV:af w2.heap.size w2 w6:=by
    have h1:af w4.heap.size w4 w':=⟨Y.os,Y.tape,Y.output,Y.size,Y.block⟩;have h2:=k.out.trans (h1.mono k.out.size);have h3:=h2.trans (T.mono h2.size);exact(h3.alloc h3.size _).grown L (by have:=h3.size;simp;omega) (fun j hj=>(V1.out.lt j hj).1)
   have HR6:Hid (w6.ownsRow w2.heap.size 136 1 (.slice (some ⟨g5,0,none⟩) (i+1) EM) (i+1) ((es.take (i+1)).map fun e=>qR (pA X P rn rm fl st dd e))):=laid (by
    rw[zY.out,VX.out];exact z)
   clear z L F5 Ki Y T VZ V0 Mq Mr Cc Ca Cb k V1 VX zY c0 c1 c2 cF I;go_wp2
   go_roundw
   case rel=>go_light;exact⟨i+1,by go_num,by omega,laid (fun h=>by omega),HR6.out,akV⟩
   case measure=>go_light;simp[intOf];omega
  ·have Ms:i=es.length:=by omega
   have HF:Hid (wr.ownsRow w.heap.size 136 1 u12 es.length (es.map fun e=>qR (pA X P rn rm fl st dd e))):=laid (by
    have h:=yK N Z;rw[Ms,dY]at h;exact h)
   have HNN:Hid (es=[]->u12=.slice none 0 0):=laid fun h=>VI.out (by rw[Ms,h];rfl);clear Ms N VF VG VI;go_wp2
   (try simp only[Exit.inBlock,Exit.then])
   rw[HQ.out];refine bP (cJ rfl _ _ _) rfl ?_;exact⟨_,rfl,HF.out,J,HNN.out⟩
end
namespace Ph
open Conc Ren
section
variable{P:bN}{Q:QT}{Z:Loc->Prop}{f:au}{l:List au}{w:ae}
theorem gL.xR(m:Nat)(r:au)(hr:iw P m f l=(r,l))(k:∀w',ie Z w w'->(∀b,b<w.heap.size->w'.heap[b]?=w.heap[b]?)->gL P Q Z r l w'):gL P Q Z f l w:=by
 refine gL.lz m fun w' Y K=>?_;simp_all
end
abbrev pB(XN X:ByteArray):Value:=.agg #[.string XN,.string X]
abbrev oQ(rn P rm:ByteArray):Value:=.agg #[.string rn,.string P,.string rm]
def qY(b i:Nat):Value:=.pointer (some ⟨b,i,none⟩)
theorem ie.at{B:Nat}{o:Obj}(h:ie Z w w')(Y:w.heap[B]?=some o)(K:jf Z B):w'.heap[B]?=some o:=(h.old B (j8 Y) K).trans Y
section
variable{P:bN}{Q:QT}{Z:Loc->Prop}{f:au}{l:List au}{w:ae}
theorem gL.reads{B:Nat}{o:Obj}{es:Array _}(H:w.heap[B]?=some o)(gF:∀w2,w2.heap[B]?=some o->bT P true (G f l) w2=.go (G f1 l) w2 es)(K:∀e∈es,∃a:Addr,e=⟨.cell a,false,false⟩/\a.block=B)(C:jf Z B)(k:∀w',ie Z w w'->gL P Q Z f1 l w'):gL P Q Z f l w:=by
 have R:=j8 H;refine bH (U:=fun _ _=>False) (S:=fun b=>b=B) (X:=fun _=>False) (Done:=fun S X f' l' w'=>X=(fun _=>False)/\f'=f1/\l'=l) (Tr.one fun w2 hr=>?_) (fun b h=>by simp_all) fun S' X' f' l' w' hd hk=>?_
 ·have Y:=((hr.kept B rfl).eq (fun i y=>y)).trans H;refine⟨_,_,_,_,_,_,gF w2 Y,kz.toDid (U:=fun _ _=>False) (tO fun e D=>?_),.stop ⟨rfl,rfl,rfl⟩⟩;obtain⟨a,rfl,I⟩:=K e D;simp_all
 ·obtain⟨rfl,rfl,rfl⟩:=hd;exact k w' (ie.of hk)
theorem gL.write{B:Nat}{v:ah}{c:Array _}(H:w.heap[B]?=some (.cells c t))(gF:∀w2,w2.heap[B]?=some (.cells c t)->bT P true (G f l) w2=.go (G f1 l) (w2.setCell ⟨B,i,none⟩ v) #[⟨.cell ⟨B,i,none⟩,true,false⟩])(C:jf Z B)
  (k:∀w',w'.heap[B]?=some (.cells (c.setIfInBounds i v) t)->(∀b,b<w.heap.size->b≠B->w'.heap[b]?=w.heap[b]?)->w.heap.size<=w'.heap.size->w'.tape=w.tape->nH w'.os w.os->w'.output=w.output->gL P Q Z f1 l w'):gL P Q Z f l w:=by
 have I:=j8 H;refine bH (U:=fun _ _=>False) (S:=fun b=>b=B) (X:=fun b=>b=B) (Done:=fun S X f' l' w'=>w'.heap[B]?=some (.cells (c.setIfInBounds i v) t)/\f'=f1/\l'=l) (Tr.one fun w2 hr=>?_) (fun b h=>by simp_all) fun S' X' f' l' w' hd hk=>?_
 ·have Y:=((hr.kept B rfl).eq (fun i y=>y)).trans H;refine⟨_,_,_,_,_,_,gF w2 Y,kz.toDid (U:=fun _ _=>False) (Ht rfl rfl (fun _=>id) (sb v) fun e A=>?_),.stop ⟨ra Y,rfl,rfl⟩⟩;simp_all
 ·obtain⟨D,rfl,rfl⟩:=hd;exact k w' D (fun b R K=>hk.kept b R K) hk.grow hk.tape hk.env hk.output
end
section
variable[gK]{r:Rn}{v w:ae}
theorem OB.plain{o o':Obj}(h:OB r b o o')(Y:∀b,¬gK.ro b):O r o o':=by
 cases h with
 |same _ x=>exact x
 |ro _ y=>exact absurd y (Y _)
theorem adE{base Te:Nat}{size:Nat}{sv V2:ah}{xs:List _}(h:v.ownsRow base e size sv n xs)(u:∀x∈xs,∀y,V r x y->y=x)(O:V r sv V2)(E:W r 0 v w)(C:∀b,¬gK.ro b)(G:∀b b',r b=some b'->base<=b->Te<=b'):w.ownsRow Te e size V2 n xs:=by
 refine⟨h.1,?_⟩;rcases h.2 with⟨rfl,Z⟩|⟨g,cap,R,rfl,Q,S,J,T,L,M⟩
 ·cases O;simp_all
 ·cases O with
  |@slice a a' _ _ U=>
   obtain⟨b',o',s'⟩:=a';obtain⟨N,X,A⟩:=U;subst X A;obtain⟨o,o',F,P,I⟩:=E.obj _ _ N;rw[S]at F;cases F;have I:=OB.plain I C
   ·cases I with
    |@cells _ K _ _ B=>
     refine .inr ⟨b',cap,K,rfl,G _ _ N Q,P,J,T,B.size.symm.trans L,?_⟩;rw[<-M];apply dK;intro i;by_cases D:i<n *size
     ·rw[bE D,bE D,bU,bU];have Y:i<R.size:=by
       rw[L];exact bj D (Nat.mul_le_mul_right _ J)
      have H:=B.size▸Y;rw[aY Y,aY H];congr 1;refine u _ ?_ _ (B.at_ i _ _ (aY Y) (aY _));rw[<-M];refine List.mem_iff_getElem?.2 ⟨i,?_⟩;rw[bE D,bU,aY Y]
     ·rw[cA (by simp;omega),cA (by simp;omega)]
theorem Pw{k:IntKind}{n:Int}(h:V r (.int k n) y):y=.int k n:=by cases h;rfl
theorem adF{r0:Rn}(K:∀b,¬gK.ro b)(Y:Le r0 r)(hk:Kept (Wr r0) (Wr r) w0 w){B:Nat}(hd:∀b,B<=b->r0 b=none)(h:r b=some b')(D:B<=b):w0.heap.size<=b':=by
 rcases hk.may b' ⟨b,h,K b⟩with⟨c,H,_⟩|y
 ·have:=r.inj c b b' (Y _ _ H) h;simp_all
 omega
end
def K4:oV:={iz:=fun f=>[48,75,76,77,78,99,115,134].contains f,rQ:=fun _=>false,tV:=fun _=>false,qQ:=true}
theorem ZV:y9 K4 ai=true:=by decide+kernel
theorem ZW:([48,75,76,77,78,99,115,134].all fun f=>rD K4 ai sI f)=true:=by decide+kernel
theorem adG(f:Nat)(h:K4.iz f=true):rD K4 ai sI f=true:=by
 have:f∈[48,75,76,77,78,99,115,134]:=by
  have:[48,75,76,77,78,99,115,134].contains f=true:=h;simp_all
 exact cz.1 ZW f this
def uY:List Item->Prop:=fun _=>False
def sr:List Deferred->Prop:=fun _=>False
theorem aju:@lF (K4.jo ai Bh uV uY sr) ai:=DX (fun _ _ h=>h) _ CO ZV adG (Dt K4 _ _ _ _)
def km(X P:ByteArray)(k q st:Nat):=jE P X k q st (ma P.size k q) (stretches X.size st)
theorem Yy{Q:QT}{c:au}{P:ByteArray}{k st:Nat}(hX:X.size<=200)(hP:P.size<=30)(hk:k<=6)(E:1<=q)(C:q<=8)(G:1<=st)(F:st<=200)(D:PR.globals.size<=w.heap.size)
  (m:∀v w',w'.ownsRow w.heap.size 3 1 v (km X P k q st).length ((km X P k q st).map nV)->ie Z w w'->gL PR Q Z (c.finish v) cs w'):
  gL PR Q Z (Frame.enter PR 48 #[.string X,.string P,jS k q st] .normal) (c::cs) w:=by
 letI:gK:=K4.jo ai Bh uV uY sr
 have Y:∀b,¬gK.ro b:=fun b h=>h;have H:∀b,mq (fun _=>False) b=none:=fun b=>by
  cases e:mq (fun _=>False) b with
  |none=>rfl
  |some c=>exact((wW.1 e).1).elim
 refine gL.call (r0:=mq (fun _=>False)) (v0:=w) aju (fun _ h=>by cases h) (fun _ h=>h) (fun g h=>by cases h) (args:=#[.string X,.string P,jS k q st]) (R:=fun e w'=>∃v,e=.returned v/\w'.ownsRow w.heap.size 3 1 v (km X P k q st).length ((km X P k q st).map nV)) (fun T=>(Np X P k q st (tp w T) hX hP hk E C G F).mono fun e w' ⟨v,A,L,_⟩=>⟨v,A,L⟩) (fun e u ⟨v,h,_⟩=>⟨v,h⟩) (show K4.iz 48=true by decide) ⟨rfl,fun i x x' e e'=>?_⟩ (IZ Y D fun b h=>h.elim) (fun a h=>(xf.1 h).elim) ?_
 ·obtain rfl:=Option.some.inj (e.symm.trans e');have j:i<3:=by
   have:=(aZ.1 e).1;simpa using this
  have:i=0\/i=1\/i=2:=by omega
  rcases this with rfl|rfl|rfl<;>(simp at e;subst e)
  ·exact .string _
  ·exact .string _
  ·exact yo (n:=2) (by simp[jS,iv,mh])
 ·intro r v x x' w' U O S N K;obtain⟨y,J,I⟩:=N;cases J;refine m x' w' (adE I (fun z W y J=>?_) O S Y fun b b' A L=>adF Y U K (B:=0) (fun b _=>H b) A (aQ _)) ?_
  ·obtain⟨n,_,rfl⟩:=bu.1 W;exact Pw J
  ·exact⟨fun a V _=>K.kept a V (fun⟨b,M,_⟩=>by rw[H b]at M;cases M),K.grow,K.tape,K.env,K.output⟩
section
variable{P:bN}{Q:QT}{Z:Loc->Prop}{f:au}{l:List au}{w:ae}
theorem gL.still(gF:∀w2,bT P true (G f l) w2=.go (G f1 l) w2 #[])(k:∀w',ie Z w w'->(∀a,a<w.heap.size->w'.heap[a]?=w.heap[a]?)->gL P Q Z f1 l w'):gL P Q Z f l w:=by
 refine bH (U:=fun _ _=>False) (S:=fun _=>False) (Done:=fun S X f' l' w'=>X=(fun _=>False)/\f'=f1/\l'=l) (Tr.one fun w2 hr=>⟨_,_,_,_,_,_,gF w2,(js (U:=fun _ _=>False) _ _ w2).toDid,.stop ⟨rfl,rfl,rfl⟩⟩) (fun b h=>h.elim) fun S' X' f' l' w' hd hk=>?_;obtain⟨rfl,rfl,rfl⟩:=hd;exact k w' (ie.of hk) fun a Y=>hk.kept a Y id
end
section
variable{main:Bool}{f:au}{cs:List au}
def EN(B:Nat)(a b c:ah)(w:ae):World:=((w.setCell ⟨B,0,none⟩ a).setCell ⟨B,1,none⟩ b).setCell ⟨B,2,none⟩ c
theorem akW{B:Nat}{a b c:ah}(w:ae)(h:w.heap[B]?=some (.cells #[x,y,z] t)):Env.Eff B w (EN B a b c w)/\(EN B a b c w).heap[B]?=some (.cells #[a,b,c] t):=by
 refine⟨CP (CP (sb _) (sb _)) (sb _),?_⟩;have Y:=ra (i:=0) (v:=a) h;have K:=ra (i:=1) (v:=b) Y;exact ra K
end
section
variable{main:Bool}{f:au}{cs:List au}
def EO(B:Nat)(a b:ah)(w:ae):World:=(w.setCell ⟨B,0,none⟩ a).setCell ⟨B,1,none⟩ b
theorem akX{B:Nat}{a b:ah}(w:ae)(h:w.heap[B]?=some (.cells #[x,y] t)):Env.Eff B w (EO B a b w)/\(EO B a b w).heap[B]?=some (.cells #[a,b] t):=by
 refine⟨CP (sb _) (sb _),?_⟩;have Y:=ra (i:=0) (v:=a) h;exact ra Y
end
end Ph
namespace Ph
open Conc Ren
open Lock (Word PC)
theorem xS:kE PR (isAgg 9)=some false:=by kernel_rfl
theorem aht:kE PR (isAgg 166)=some false:=by kernel_rfl
theorem yt:(PR.funcs[122]?).any (·.norace)=false:=by kernel_rfl
theorem afD:(PR.info? 182).map (·.zero)=some (some (.pointer none)):=by kernel_rfl
theorem afE:(PR.info? 182).map (·.size)=some 1:=by kernel_rfl
theorem afF:(PR.info? 212).map (·.zero)=some (some (.agg #[.int .u64 0,.int .u32 0])):=by kernel_rfl
section
variable{X P:ByteArray}{k q st n Rf Sg By Mp Fd Fp:Nat}{J:Nat->ah}{c:au}{cs:List au}
theorem ahu:gS PR 4 ((eF L8 (jT (aE X P k q st n) Rf Sg By Fp) J).finish (.map (some Mp))) (c::cs)=(c.finish (.map (some Mp)),cs):=by kernel_rfl
end
theorem NZ{P:ByteArray}{k st:Nat}{t:Int}{x:Nat}:∀n,x∈jE P X k q st t n->x<n
 |0,h=>by cases h
 |n+1,h=>by
  have Y:x∈jE P X k q st t n->x<n:=NZ n;rw[jE]at h;split at h
  ·rcases bh.1 h with y|y
   ·have:=Y y;omega
   ·simp at y;omega
  ·have:=Y h;omega
structure Lay(Z:Loc->Prop)(w0:ae)(X P:ByteArray)(k q st Rf Sg By Mp Fd Fp:Nat)(w:ae):Prop where
 rf:w.heap[Rf]?=some (.cells #[.string X] 9)
 sg:w.heap[Sg]?=some (.cells #[.string P] 9)
 by_:w.heap[By]?=some (.cells #[iv k,iv q,iv st] 75)
 mp:w.heap[Mp]?=some (.map #[] 0)
 fd:w.heap[Fd]?=some (.cells #[.int .i32 0,.int .u32 0,.map (some Mp)] 191)
 fp:w.heap[Fp]?=some (.cells #[ptr Fd] 182)
 V3:jf Z Rf
 V4:jf Z Sg
 V5:jf Z By
 Mt:jf Z Mp
 Mu:jf Z Fd
 Gc:jf Z Fp
 o1:w0.heap.size<=Rf
 o2:Rf<Sg
 o3:Sg<By
 o4:By<Mp
 o5:Mp<Fd
 o6:Fd<Fp
 o7:Fp<w.heap.size
 oO:ie Z w0 w
theorem Lay.on{P:ByteArray}{k st:Nat}(h:Lay Z w0 X P k q st Rf Sg By Mp Fd Fp w)(g:ie Z w w'):Lay Z w0 X P k q st Rf Sg By Mp Fd Fp w':=
 ⟨g.at h.rf h.V3,g.at h.sg h.V4,g.at h.by_ h.V5,g.at h.mp h.Mt,g.at h.fd h.Mu,g.at h.fp h.Gc,h.V3,h.V4,h.V5,h.Mt,h.Mu,h.Gc,h.o1,h.o2,h.o3,h.o4,h.o5,h.o6,bj h.o7 g.grow,h.oO.trans g⟩
section
variable{Qq:QT}{Z:Loc->Prop}{w:ae}{c:au}{cs:List au}{X P:ByteArray}{k q st n:Nat}
theorem ahv(kk:∀Rf Sg By Mp Fd Fp J w',Lay Z w X P k q st Rf Sg By Mp Fd Fp w'->gL PR Qq Z ((eF Aa (jT (aE X P k q st n) Rf Sg By Fp++[(12,ptr Fd)]) J).finish aH) (c::cs) w'):
  gL PR Qq Z (Frame.enter PR 122 #[.string X,.string P,jS k q st,iv n] .normal) (c::cs) w:=by
 refine aP 60 (U0 X P k q st n (c::cs)) rfl eb0 rfl fun J1 w1 g1 _ _ _ _=>?_;refine bB (F:=fun B=>(eF B3 (aE X P k q st n) J1).finish (ptr B)) (o:=.cells #[.string X] 9) (fun w2=>AQ aji rfl rfl w2) fun Rf w2 l1 u1 f N g2=>?_;refine aP 60 (U4 X P k q st n Rf J1 (c::cs)) rfl eb1 rfl fun J2 w3 g3 _ _ _ _=>?_;refine bB (F:=fun B=>(eF B4 (B1 (aE X P k q st n) Rf) J2).finish (ptr B)) (o:=.cells #[.string P] 9) (fun w2=>AQ ajj rfl rfl w2) fun Sg w4 l2 u2 g O g4=>?_;refine aP 60 _ rfl eb2 rfl fun J3 w5 V _ _ _ _=>?_;refine bB (F:=fun B=>(eF B5 (B2 (aE X P k q st n) Rf Sg) J3).finish (ptr B)) (o:=.cells #[iv k,iv q,iv st] 75) (fun w2=>AQ ajk rfl rfl w2) fun By w6 l3 u3 W C g6=>?_;refine aP 60 _ rfl emm rfl fun J4 w7 S _ _ _ _=>?_;refine bB (F:=fun B=>(eF B6 _ J4).finish (.map (some B))) (o:=.map #[] 0) (fun w2=>aff ajl w2) fun Mp w8 l4 u4 d M E=>?_;refine aP 60 (U5 X P k q st n Rf Sg By Mp J4 (c::cs)) rfl eb3 rfl fun J5 w9 I _ _ _ _=>?_;refine bB (F:=fun B=>(eF B7 _ J5).finish (ptr B)) (fun w2=>AQ ajm rfl rfl w2) fun Fd wA l5 u5 j L gA=>?_;refine aP 60 _ rfl eal rfl fun J6 wB R _ _ _ _=>?_;refine bB (F:=fun B=>(eF B8 (pK (aE X P k q st n) Rf Sg By++[(12,ptr Fd)]) J6).finish (ptr B)) (o:=.cells #[.pointer none] 182) (fun w2=>Ql ajn afD rfl w2) fun Fp wC l6 u6 z D A=>?_;refine aP 60 _ rfl efs rfl fun J7 wD H _ _ _ _=>?_;have Q:=((((((((((g3.trans g4).trans V).trans g6).trans S).trans E).trans I).trans gA).trans R).trans A).trans H);have e:=((((((((V.trans g6).trans S).trans E).trans I).trans gA).trans R).trans A).trans H);have b:=((((((S.trans E).trans I).trans gA).trans R).trans A).trans H);have h:=((((I.trans gA).trans R).trans A).trans H);have t:=((R.trans A).trans H);have s0:=g1.grow;have s2:=g3.grow;have s4:=V.grow;have s6:=S.grow;have s8:=I.grow;have s10:=R.grow;have s12:=H.grow;refine gL.write (v:=ptr Fd) (i:=0) (H.at z D) (fun w2 l=>afh ajo rfl rfl l (by simp) yt afE) D fun wE U K G m T p=>?_;have x:=(K Rf (by omega) (by omega)).trans (Q.at f N);have y:=(K Sg (by omega) (by omega)).trans (e.at g O);have r:=(K By (by omega) (by omega)).trans (b.at W C);have u:=(K Mp (by omega) (by omega)).trans (h.at d M);have s:=(K Fd (by omega) (by omega)).trans (t.at j L);have Y:=(g1.trans g2).trans Q;exact kk Rf Sg By Mp Fd Fp J7 wE ⟨x,y,r,u,s,U,N,O,C,M,L,D,by omega,by omega,by omega,by omega,by omega,by omega,by omega,⟨fun a ha ho=>(K a (by have:=Y.grow;omega) (by omega)).trans (Y.old a ha ho),aL Y.grow G,m.trans Y.tape,T.trans Y.env,p.trans Y.output⟩⟩
def zd(Z:Loc->Prop)(B:Nat)(gP:List Nat)(b:Option Addr)(w:ae):Prop:=∀i x:Nat,gP[i]?=some x->∃Nb Y,b=some ⟨Nb,0,none⟩/\B<=Nb/\Nb<w.heap.size/\w.heap[Nb]?=some (.cells Y 3)/\Y[i]?=some (.int .i64 (x:Int))/\jf Z Nb
theorem zd.on{B:Nat}{b:Option _}(h:zd Z B gP b w)(g:ie Z w w'):zd Z B gP b w':=fun i x U=>by
 obtain⟨Nb,Y,H,D,R,I,A,K⟩:=h i x U;exact⟨Nb,Y,H,D,bj R g.grow,g.at I K,A,K⟩
theorem ahw(hX:X.size<=200)(hP:P.size<=30)(hk:k<=6)(h:1<=q)(S:q<=8)(hs:1<=st)(T:st<=200)(D:PR.globals.size<=w.heap.size)(u:Lay Z w0 X P k q st Rf Sg By Mp Fd Fp w)(m:Nat->ah)
  (kk:∀b cap J w',Lay Z w0 X P k q st Rf Sg By Mp Fd Fp w'->zd Z w.heap.size (km X P k q st) b w'->gL PR Qq Z ((eF yc (jT (aE X P k q st n) Rf Sg By Fp++[(13,.string X),(14,.string P),(15,jS k q st)]) J).finish (gY b (km X P k q st).length cap)) (c::cs) w'):
  gL PR Qq Z ((eF Aa (jT (aE X P k q st n) Rf Sg By Fp++[(12,ptr Fd)]) m).finish aH) (c::cs) w:=by
 obtain⟨V,E,Q,rMp,rFd,rFp,U,B,A,oMp,oFd,oFp,o1,o2,o3,o4,o5,o6,o7,gw⟩:=id u;refine aP 60 _ rfl ee1 rfl fun J8 wF L _ _ ld _=>?_;refine gL.read (fun w2 H=>tw ld xS H yt) (by rw[ao _ Rf 0 _ _ _ (L.at V U)];rfl) U fun wG gG=>?_;refine aP 60 _ rfl ee2 rfl fun J9 wH gH _ _ ld _=>?_;refine gL.read (fun w2 H=>tw ld xS H yt) (by rw[ao _ Sg 0 _ _ _ (((L.trans gG).trans gH).at E B)];rfl) B fun wI l=>?_;refine aP 60 _ rfl ee3 rfl fun JA wJ o _ _ ld _=>?_;have K:=(((L.trans gG).trans gH).trans l).trans o;have gF:∀w2:ae,w2.heap[By]?=some (.cells #[iv k,iv q,iv st] 75)->bT PR true (G _ (c::cs)) w2=.go _ w2 _:=fun w2 H=>afi ld H yt;have N:∀e∈(#[⟨.cell ⟨By,0,none⟩,false,false⟩,⟨.cell ⟨By,1,none⟩,false,false⟩,⟨.cell ⟨By,2,none⟩,false,false⟩]:Array Event),∃a:Addr,e=⟨.cell a,false,false⟩/\a.block=By:=by simp
 refine gL.reads (K.at Q A) gF N A fun wK p=>?_;refine aP 60 _ rfl ee4 rfl fun f wL r _ ca _ _=>?_;refine bQ 1 fun wM t=>?_;rw[ajg];have s:ie Z wL wM:=ie.of t;have Y:=((K.trans p).trans r).trans s;refine bR fun O=>?_;refine Yy hX hP hk h S hs T (aL D Y.grow) fun nv d I v=>?_;obtain⟨b,cap,rfl,R⟩:∃(b:Option Addr) (cap:Nat),nv=gY b (km X P k q st).length cap/\zd Z w.heap.size (km X P k q st) b d:=by
  rcases I.2 with⟨M,C⟩|⟨g,cap,F,M,C,j,h4,h5,h6,y⟩
  ·refine⟨none,0,by rw[M,C];rfl,fun i x z=>?_⟩;simp_all
  ·refine⟨some _,cap,M,fun i x z=>⟨g,F,rfl,aL Y.grow C,j8 j,j,?_,O.off C⟩⟩;have W:((km X P k q st).map nV)[i]?=some (nV x):=by simp_all
   rw[<-y,bE (by have:=(List.getElem?_eq_some_iff.1 z).1;omega),bU]at W;exact W
 exact kk b cap f d (u.on (Y.trans v)) R
theorem ahx(hX:X.size<=200)(hP:P.size<=30)(hk:k<=6)(hs:1<=st)(E:st<=200)(hn:1<=n)(N:n<=8)(M:PR.globals.size<=w.heap.size){w1:ae}(hL:Lay Z w0 X P k q st Rf Sg By Mp Fd Fp w){b:Option Addr}(apv:Fp<w1.heap.size)(hN:zd Z w1.heap.size (km X P k q st) b w)(JB:Nat->ah)
  (kk:∀Wg J w',gU (i_ Fd Mp Wg X P k st).U (fun a=>a<w.heap.size/\a≠Mp/\jf Z a) w w'->w.heap.size<=Wg->Wg<w'.heap.size->ni (qE X P k st (km X P k q st)) (w'.heap[Mp]?)->w'.heap[Fd]?=some (.cells #[.int .i32 0,.int .u32 0,.map (some Mp)] 191)->w'.tape=w.tape->w'.output=w.output->Mp<w'.heap.size->gL PR Qq (fun l=>Z l\/rN (i_ Fd Mp Wg X P k st) l) ((eF Ab (jT (aE X P k q st n) Rf Sg By Fp++[(16,gY b (km X P k q st).length cap),(17,iv n),(18,kv By Rf Sg Fp)]) J).finish unit) (c::cs) w'):
  gL PR Qq Z ((eF yc (jT (aE X P k q st n) Rf Sg By Fp++[(13,.string X),(14,.string P),(15,jS k q st)]) JB).finish (gY b (km X P k q st).length cap)) (c::cs) w:=by
 refine aP 60 _ rfl ee5 rfl fun JC wO y _ _ _ _=>?_;refine bQ 1 fun wP kP=>?_;rw[ajh];have m:ie Z wO wP:=ie.of kP;refine aP 60 (U7 (gY b (km X P k q st).length cap) n (kv By Rf Sg Fp) _) rfl ra0 rfl fun s wQ gQ _ _ _ _=>?_;refine bB (F:=fun B=>(dF B9 (B_ (gY b (km X P k q st).length cap) n (kv By Rf Sg Fp)) s).finish (ptr B)) (o:=.cells #[.int .u64 0,.int .u32 0] 212) (fun w2=>Ql ajp afF rfl w2) fun Wg wR l7 u7 I j t=>?_;refine aP 60 (U8 (gY b (km X P k q st).length cap) n Wg (kv By Rf Sg Fp) s _) rfl ra1 rfl fun u wS O _ _ _ _=>?_;refine bB (F:=fun B=>(dF FX (FY (gY b (km X P k q st).length cap) n (kv By Rf Sg Fp) Wg) u).finish (qV B n)) (o:=.cells (oN [] n) 214) (fun w2=>afg ajq N rfl rfl w2) fun Gv wT l8 u8 D W Q=>?_;refine aP 60 (T5 b (km X P k q st).length cap n Wg Gv (kv By Rf Sg Fp) u _) rfl akA rfl fun JF wU H _ _ _ C=>?_;have gA:=y.trans (m.trans gQ);have K:=(gA.trans t).trans (O.trans (Q.trans H));have A:=((O.trans Q).trans H).at I j;have R:=H.at D W;have s5:=gA.grow;have s7:=O.grow;have s9:=H.grow;have S:=hL.on K;have hNU:=hN.on K;have sB:=K.grow;have a1:=hL.o7;clear y m gQ t O Q H gA kP I D;obtain⟨p,r,z,g,d,f,oRf,oSg,oBy,oMp,oFd,oFp,o1,o2,o3,o4,o5,o6,o7,gw⟩:=id S;have hG:lJ Z Fd Mp Wg Gv By Rf Sg Fp k q st n X P b (km X P k q st) wU:={
  cin:=⟨z,p,r,f,aL M K.grow⟩
  fd:=d
  mp:=g
  wg:=A
  gv:=R
  num:=fun i x G=>by
   obtain⟨Nb,cur,h,e,h3,h4,h5,h6⟩:=hN i x G;refine⟨Nb,0,h,?_,by omega,by omega,by omega,by omega,h6⟩;rw[ao _ Nb (0+i) _ _ _ (K.at h4 h6),ef];exact h5
  off:=fun a Y=>by
   rcases Y with rfl|rfl|rfl|rfl|(rfl|rfl|rfl|rfl)<;>assumption
  fm:=by omega
  fw:=by omega
  fg:=by omega
  mw:=by omega
  mg:=by omega
  FV:=by omega
  kp:=fun a Y=>by
   rcases Y with rfl|rfl|rfl|rfl<;>(refine⟨?_,?_,?_,?_⟩<;>omega)
  n0:=hn
  n8:=N
  len:=by
   have:=Az P X k q st (ma P.size k q) (stretches X.size st);have e:stretches X.size st<=400:=by
    unfold stretches;have:=cW (X.size+st-1) st;omega
   unfold km;omega
  hX:=hX
  hP:=hP
  hk:=hk
  gF:=E
  ok:=fun x G=>by
   have h:=(Aw X.size st x hs).2 (NZ _ G);have e:x<=x *st:=Nat.le_mul_of_pos_right x hs;omega}
 refine hG.phase (cap:=cap) (C.less fun i v hv=>y_ (b:=[(18,.bool (decide ((0:Int)<(n:Int))))]) hv) ((C.slot 18 _ rfl).trans (by congr 1;simp)) fun w' hr hm V ht ho T=>?_;have L:∀a,a<w.heap.size/\a≠Mp/\jf Z a->kR Z Mp Gv wU.heap.size a:=fun a Y=>⟨by omega,Y.2.1,by omega,Y.2.2⟩;refine kk Wg JC w' ⟨fun a Y=>?_,aL sB hr.grow,hr.env.trans K.env⟩ (by omega) (by have:=hr.grow;omega) hm V (ht.trans K.tape) (ho.trans K.output) T;have:=hr.kept a (L a Y);rw[K.old a Y.1 Y.2.2]at this;exact this
theorem gL.ajv{f:au}{l:List _}{a:Addr}{v:ah}(gF:∀w2,w2.cell? a=some v->bT PP true (G f l) w2=.go (G f1 l) w2 #[⟨.cell a,false,false⟩])(Y:w.cell? a=some v)(C:jf Z a.block)(k:∀w',ie Z w w'->(∀b,b<w.heap.size->w'.heap[b]?=w.heap[b]?)->gL PP Qq Z f1 l w'):gL PP Qq Z f l w:=by
 have D:a.block<w.heap.size:=Nat.lt_of_not_le fun y=>by simp[bg,cu y]at Y
 refine bH (U:=fun _ _=>False) (S:=fun b=>b=a.block) (X:=fun _=>False) (Done:=fun S X f' l' w'=>X=(fun _=>False)/\f'=f1/\l'=l) (Tr.one fun w2 hr=>?_) (fun b h=>by simp_all) fun S' X' f' l' w' hd hk=>?_
 ·have K:w2.cell? a=some v:=by
   simp[bg]at Y⊢;rw[(hr.kept _ rfl).eq (fun i y=>y)];exact Y
  exact⟨_,_,_,_,_,_,gF w2 K,(uO (U:=fun _ _=>False) (S:=fun b=>b=a.block) rfl id).toDid,.stop ⟨rfl,rfl,rfl⟩⟩
 ·obtain⟨rfl,rfl,rfl⟩:=hd;exact k w' (ie.of hk) fun b H=>hk.kept b H id
theorem QA{Wg:Nat}{a:Nat}(h:jf Z a)(K:a≠Fd)(H:a≠Wg):jf (fun l=>Z l\/rN (i_ Fd Mp Wg X P k st) l) a:=by
 intro l Y y;rcases y with y|y
 ·exact h l Y y
 ·cases l with
  |cell ad=>
   have:=Y;rcases y.1 with e|e
   ·exact K (this.symm.trans e)
   ·exact H (this.symm.trans e)
  |_=>exact y.elim
theorem WT(hX:X.size<=200)(hP:P.size<=30)(hk:k<=6)(hq:1<=q)(u:q<=8)(h:1<=st)(M:st<=200)(hn:1<=n)(g:n<=8)(C:PR.globals.size<=w.heap.size)
  (kk:∀Z' Mp w',(∀l,Z l->Z' l)->(∀l,Z' l->Z l\/∃a:Addr,l=.cell a/\w.heap.size<=a.block)->ie Z w w'->w.heap.size<=Mp->jf Z' Mp->ni (qE X P k st (km X P k q st)) (w'.heap[Mp]?)->Mp<w'.heap.size->gL PR Qq Z' (c.finish (.map (some Mp))) cs w'):
  gL PR Qq Z (Frame.enter PR 122 #[.string X,.string P,jS k q st,iv n] .normal) (c::cs) w:=by
 refine ahv fun Rf Sg By Mp Fd Fp t w1 O=>?_;refine ahw hX hP hk hq u h M (aL C O.oO.grow) O t fun b cap i w2 Y hN=>?_;refine ahx hX hP hk h M hn g (aL C Y.oO.grow) Y O.o7 hN i fun Wg J3 w3 W hW1 hW2 hM hF ht ho xZ=>?_;have o1:=Y.o1;have o2:=Y.o2;have o3:=Y.o3;have o4:=Y.o4;have o5:=Y.o5;have o6:=Y.o6;have o7:=Y.o7;have s3:=W.grow;have key:=fun a x m h3 B=>(W.kept a ⟨x,m,h3⟩).eq (xA B (by omega));have p:w3.heap[Fp]?=some (.cells #[ptr Fd] 182):=(key Fp o7 (by omega) Y.Gc (by omega)).trans Y.fp;have H:ie Z w w3:=⟨fun a A I=>(key a (by omega) (by omega) I (by omega)).trans (Y.oO.old a A I),aL Y.oO.grow s3,ht.trans Y.oO.tape,W.env.trans Y.oO.env,ho.trans Y.oO.output⟩;have L:jf (fun l=>Z l\/rN (i_ Fd Mp Wg X P k st) l) Fp:=QA Y.Gc (by omega) (by omega);have o:jf (fun l=>Z l\/rN (i_ Fd Mp Wg X P k st) l) Mp:=QA Y.Mt (by omega) (by omega);clear key;refine aP 60 _ rfl ee6 rfl fun J4 w4 R B _ ld _=>?_;refine gL.ajv (a:=⟨Fp,0,none⟩) (fun w2 j=>tw ld Sl j yt) (by rw[ao _ Fp 0 _ _ _ (R.at p L)];rfl) L fun w5 N Q=>?_;refine aP 60 (U6 X P k q st n Rf Sg By Fd Fp J4 (c::cs)) rfl ee7 rfl fun J5 w6 g6 T _ f _=>?_;have F:=(T Fd (by have:=R.grow;have:=N.grow;omega)).trans ((Q Fd (by have:=R.grow;omega)).trans ((B Fd (by omega)).trans hF));have V:w6.heap[Mp]?=w3.heap[Mp]?:=(T Mp (by have:=R.grow;have:=N.grow;omega)).trans ((Q Mp (by have:=R.grow;omega)).trans (B Mp (by omega)));have D:=(R.trans N).trans g6;have s36:=D.grow;refine gL.tz (U:=(i_ Fd Mp Wg X P k st).U) (S:=fun a=>a=Fd) (X:=fun _=>False) (Done:=fun S' X' v w'=>X'=(fun _=>False)/\v=G ((eF L8 (jT (aE X P k q st n) Rf Sg By Fp) J5).finish (.map (some Mp))) (c::cs)) (Tz.one rfl fun r z=>?_) (fun hlo a A=>?_) fun S' X' v r hd hk=>?_
 ·have j:r.cell? ⟨Fd,2,none⟩=some (.map (some Mp)):=qz (U:=(i_ Fd Mp Wg X P k st).U) (S:=fun a=>a=Fd) rfl (fun y=>by have:=y.2;omega) (by rw[ao _ Fd 2 _ _ _ F];rfl) z;exact⟨_,r,_,_,_,tw f aht j yt,uO rfl (fun y=>by have m:(2:Nat)<2:=y.2;omega),.stop ⟨rfl,rfl⟩⟩
 ·subst A;refine⟨j8 F,fun l J I=>?_⟩;rcases I with y|y
  ·exact absurd y (Y.Mu l J)
  ·cases l with
   |cell ad=>exact⟨ad,rfl,y⟩
   |_=>exact y.elim
 ·obtain⟨rfl,rfl⟩:=hd;refine⟨_,_,rfl,bQ 4 fun s K=>?_⟩;rw[ahu];have E:s.heap[Mp]?=w3.heap[Mp]?:=(K.kept Mp (by have:=hk.grow;omega) id).trans ((hk.kept Mp (by omega) id).trans V);have s8:=K.grow;have s7:=hk.grow;refine kk _ Mp s (fun l J=>.inl J) (fun l J=>?_) ?_ (by omega) o (by rw[E];exact hM) (by omega)
  ·rcases J with y|y
   ·exact .inl y
   ·cases l with
    |cell ad=>
     refine .inr ⟨ad,rfl,?_⟩;have:=Y.oO.grow;rcases y.1 with e|e
     ·rw[e];exact aL (by omega) (ak Fd)
     ·rw[e];exact aL (by omega) (ak Wg)
    |_=>exact y.elim
  ·have d:∀a,a<w.heap.size->jf Z a->s.heap[a]?=w3.heap[a]?:=fun a A I=>by
    have x:=Y.oO.grow;exact(K.kept a (by omega) id).trans ((hk.kept a (by omega) id).trans ((T a (by have:=R.grow;have:=N.grow;omega)).trans ((Q a (by have:=R.grow;omega)).trans (B a (by omega)))))
   exact⟨fun a A I=>(d a A I).trans (H.old a A I),by have:=H.grow;omega,K.tape.trans (hk.tape.trans (D.tape.trans H.tape)),K.env.trans (hk.env.trans (D.env.trans H.env)),K.output.trans (hk.output.trans (D.output.trans H.output))⟩
end
end Ph
namespace Ph
open Conc Ren
theorem uR{a:Nat}(K:∀l,Z' l->Z l\/∃a:Addr,l=.cell a/\w.heap.size<=a.block)(h:jf Z a)(H:a<w.heap.size):jf Z' a:=by
 intro l Y y;rcases K l y with y|⟨ad,rfl,D⟩
 ·exact h l Y y
 ·have:ad.block=a:=Y;omega
end Ph
namespace Ph
open Conc Ren
open Maps (Keyed IsMap Tidy has)
theorem adH{g:mC}(h:ni g (w.heap[b]?)):∃U l,w.ownsMap PR 3 (dq PR 3) b U (.map l)/\vu l g/\l.Pairwise (fun p q=>p.1≠q.1):=by
 obtain⟨es,clock,l,K,F,H,D⟩:=h;have Y:w.ownsMap PR 3 _ b _ (.map l):=⟨es,clock,K,F,ak _,by rw[H]⟩;refine⟨es.size,l,Y,D,?_⟩;obtain⟨l',R,I,_⟩:=Y.entries B0;simp_all
theorem adI{g:mC}{nn:Nat}{l:List _}(D:w.ownsMap PR 3 (dq PR 3) b nn (.map l))(K:vu l g){e:Nat}(U:g e=some d)(H:e<1000000):(dA 166 (.map (some b)) (.int .i64 e) false).run PR w=.ok (.int .i64 d) w:=by
 have Y:keyOf PR 3 (.int .i64 e)=some (.int .i64 e):=by
  unfold keyOf;simp[mapKey,A8 H]
 obtain⟨c,R,I,A⟩:=D.lookup_int B0 u166 u3 (S8 w) Y;have:=K.at_ e;simp_all
theorem Yz{g:mC}{l:List _}(H:vu l g)(M:l.Pairwise (fun p q=>p.1≠q.1))(L:List Nat)(C:L.Pairwise (· < ·))(F:∀e,e∈L↔(g e).isSome=true):
  (∀U:List Int,U.Perm (cm (.map l))->U.mergeSort (fun x y=>decide (x<=y))=L.map (fun e=>((e:Nat):Int)))/\l.length=L.length:=by
 have Y:(L.map (fun e=>((e:Nat):Int))).Perm (cm (.map l)):=by
  refine perm_intKeys M (fun p K=>by obtain⟨e,_,h⟩:=H.keys p K;simp_all) ?_ fun x=>?_
  ·show List.Pairwise _ _
   rw[bZ];exact C.imp fun h e=>by omega
  ·rw[bu];constructor
   ·rintro⟨e,B,rfl⟩;rw[H.has e];simp_all
   ·intro h;have h':=h;rw[Go.Maps.has_eq,List.any_eq_true]at h';obtain⟨p,K,D⟩:=h';obtain⟨e,_,I⟩:=H.keys p K;rw[I]at D;have A:=by simpa[Lit.sameKey]using D
    subst A;rw[H.has e]at h;exact⟨e,(F e).2 h,rfl⟩
 refine⟨fun U D=>?_,?_⟩
 ·have R:=mergeSort_of_perm_i (D.trans Y.symm);rw[R];refine List.mergeSort_of_pairwise ?_;rw[bZ];exact C.imp fun h=>by simp;omega
 ·have:=Y.length_eq;simp[cm]at this;omega
end Ph
namespace Ph
theorem N0(e:Nat):∀(L:List (Nat×Nat)) (g:mC),(∀d,L.foldl better g e=some d->g e=some d\/(e,d)∈L)/\(∀d',(e,d')∈L->∃d,L.foldl better g e=some d/\d<=d')/\(∀d',g e=some d'->∃d,L.foldl better g e=some d/\d<=d')
 |[],g=>⟨fun d h=>.inl h,(fun d' h=>by cases h),fun d' h=>⟨d',h,ak _⟩⟩
 |(x,y)::L,g=>by
  obtain⟨U,B,I⟩:=N0 e L (better g (x,y));by_cases A:e=x
  ·subst A;have H:g e=none->better g (e,y) e=some y:=fun h=>by simp[better,h]
   have Y:∀z,g e=some z->better g (e,y) e=some (min z y):=fun z h=>by simp[better,h]
   refine⟨fun d hd=>?_,fun d' K=>?_,fun d' K=>?_⟩
   ·rcases U d hd with h|h
    ·cases D:g e with
     |none=>rw[H D]at h;simp_all
     |some z=>
      rw[Y z D]at h;simp only[Option.some.injEq]at h;rcases cG z y with C|C
      ·simp_all
      ·simp_all
    ·simp_all
   ·rcases List.mem_cons.1 K with h|h
    ·cases h;have:∃z,better g (e,y) e=some z/\z<=y:=by
      cases D:g e with
      |none=>exact⟨y,H D,ak _⟩
      |some z=>exact⟨min z y,Y z D,Nat.min_le_right _ _⟩
     obtain⟨z,F,J⟩:=this;obtain⟨d,hd,R⟩:=I z F;exact⟨d,hd,by omega⟩
    ·exact B d' h
   ·have:=Y d' K;obtain⟨d,hd,R⟩:=I _ this;exact⟨d,hd,by omega⟩
  ·have M:better g (x,y) e=g e:=by simp[better,A]
   simp_all
theorem N1(X P:ByteArray)(k st:Nat):∀(gP:List Nat) g,gP.foldl (fun g x=>(lC X P k st x).foldl better g) g=(gP.flatMap (lC X P k st)).foldl better g
 |[],g=>rfl
 |x::l,g=>by simp;exact N1 X P k st l _
theorem YA(X P:ByteArray)(k q st:Nat)(C:1<=q)(gF:1<=st)(K:k<P.size)(e:Nat):qE X P k st (km X P k q st) e=if e<=X.size/\(iy P X k e).1<=k then some (iy P X k e).1 else none:=by
 unfold qE;rw[N1];obtain⟨I,A,_⟩:=N0 e ((km X P k q st).flatMap (lC X P k st)) _;have ge:∀d,(e,d)∈(km X P k q st).flatMap (lC X P k st)->e<=X.size/\d<=k/\(iy P X k e).1<=d:=by
  intro d hd;obtain⟨x,D,H⟩:=dR.1 hd;have R:=(Cx _).1 D;have:=(Aw _ st x gF).2 R.1;exact adD X P k q st x e d (by omega) H
 by_cases Y:e<=X.size/\(iy P X k e).1<=k
 ·rw[if_pos Y];obtain⟨x,D,H⟩:=ZU X P k q st e C gF Y.1 Y.2 K;obtain⟨d,hd,U⟩:=A _ (dR.2 ⟨x,D,H⟩);rw[hd];rcases I d hd with h|h
  ·cases h
  ·have:=ge d h;congr 1;omega
 ·rw[if_neg Y];cases hr:((km X P k q st).flatMap _).foldl better _ e with
  |none=>rfl
  |some d=>
   rcases I d hr with h|h
   ·cases h
   ·have:=ge d h;omega
end Ph
namespace Ph
open Conc Ren
def lb(w:ae):Prop:=∀g,g=0\/g=2\/g=3->∃(c:Array ah) (t:cj) (fz:Nat×Nat),w.heap[g]?=some (.cells c t fz)/\∀x∈c,∃k n,x=ck k n
theorem lb.same(h:lb w)(e:∀g,g=0\/g=2\/g=3->w'.heap[g]?=w.heap[g]?):lb w':=fun g Y=>by rw[e g Y];exact h g Y
theorem yu(h:iN w)(e:w'.heap[0]?=w.heap[0]?):iN w':=by
 have Y:Program.globalNamed ai "internal/strconv.uint64pow10"=some 0:=by kernel_rfl
 unfold iN Lib.TabIs World.var? at *;simp_all
theorem Px{v:ah}:∀{al:List _},al.lookup i=some v->∃p∈al,p.2=v
 |[],h=>by cases h
 |(a,b)::al,h=>by
  rw[List.lookup_cons]at h;split at h
  ·simp_all
  ·obtain⟨p,Y,e⟩:=Px h;exact⟨p,by simp[Y],e⟩
theorem ahy:lV K0 PR false vX=true:=by decide+kernel
def nb(X P rn rm:ByteArray)(fl:Bool)(k:Nat):=(jx P X k).map fun e=>qR (pA X P rn rm fl (fun e=>(iy P X k e).2) (fun e=>(iy P X k e).1) e)
def uM (X P:ByteArray) (k q st n b5 b6 Mp:Nat) (i:Nat):Value:=(([(19,qY b5 1),(20,.string X),(21,qY b6 1),(22,.string P),(23,jS k q st),(24,iv n),(25,.map (some Mp))]:List (Nat×ah)).lookup i).getD aH
section
variable{Qq:QT}{Z:Loc->Prop}{w:ae}{c:au}{cs:List au}{XN X rn P rm:ByteArray}{fl:Bool}{k q st n:Nat}
theorem afG(hX:X.size<=200)(hP:P.size<=30)(hk:k<=6)(N:k<P.size)(m:1<=q)(h:1<=st){w1:ae}{b8:Nat}(U:w1.heap[b5]?=some (.cells #[.string XN,.string X] 68))(C:w1.heap[b6]?=some (.cells #[.string rn,.string P,.string rm] 131))(g:ni (qE X P k st (km X P k q st)) (w1.heap[Mp]?))(O:Mp<w1.heap.size)(u:iN w1)(T:Nat->Question->Nat):
  vX.wp PR (aV PR bA fun e v=>∃y,e=.returned y/\v.ownsRow w1.heap.size 136 1 y (jx P X k).length (nb X P rn rm fl k)/\(jx P X k=[]->y=.slice none 0 0)/\∀a,a<w1.heap.size->v.heap[a]?=w1.heap[a]?) ⟨F_ (pB XN X) (oQ rn P rm) (jS k q st) (iv n) fl b5 b6 b8 Mp (uM X P k q st n b5 b6 Mp),[]⟩ (tp w1 T):=by
 obtain⟨E,l,I,S,Q⟩:=adH g;have d:=YA X P k q st m h N;have f:∀e,e∈jx P X k↔(qE X P k st (km X P k q st) e).isSome=true:=by
  intro e;rw[CW,d e];simp_all
 obtain⟨R,Z⟩:=Yz S Q _ (ZT P X k) f;have c:=AK P X k;have Y:∀W:ae,W.heap[Mp]?=w1.heap[Mp]?->W.ownsMap PR 3 (dq PR 3) Mp E (.map l):=by
  intro W J;obtain⟨es,clock,H,r⟩:=I;exact⟨es,clock,J.trans H,r⟩
 refine wp_mono (abJ X P rn rm XN fl (jx P X k) (fun e=>(iy P X k e).2) (fun e=>(iy P X k e).1) _ _ _ _ b5 b6 b8 Mp _ _ hX hP (by omega) (by omega) U C ?_ ?_ O ?_ (yu u rfl)) ?_
 ·refine(Xf Mp E _ _ (tp w1 T) (Y _ rfl) (by show l.length<=_;omega)).mono ?_;rintro e w' ⟨v,G,rfl,V,K,H⟩;refine⟨v,rfl,?_,H⟩;have j:=R G V;rw[j]at K;have z:G.length=(jx P X k).length:=by
   have:=V.length_eq;simp[cm]at this;omega
  rw[z,List.map_map]at K;exact K
 ·intro W J e M;have hd:qE X P k st (km X P k q st) e=some (iy P X k e).1:=by simp_all
  exact adI (Y W J) S hd (by have:=((CW P X k e).1 M).1;omega)
 ·intro e M;obtain⟨a1,a2,a3,a4,a5⟩:=NY P X k e M;exact⟨a1,by omega,a3,a4,a5⟩
 ·intro e a v H;cases e with
  |normal=>obtain⟨A,y,B,v',D,F,U,C⟩:=H;exact⟨A,y,B,v',D,F,C,fun a L=>U.block a L⟩
  |ret=>obtain⟨A,y,B,v',D,F,U,C⟩:=H;exact⟨A,y,B,v',D,F,C,fun a L=>U.block a L⟩
  |panic ch=>obtain⟨A,v',D,_⟩:=H;cases D
  |outgrown=>obtain⟨v',D,_⟩:=H;cases D
  |exit id=>exact H
  |goto l=>exact H
end
end Ph
namespace Ph
open Conc Ren
open WideElems (Fit rd rg rd_val)
theorem ZX{g:mC}{es:Array _}{clock:Nat}(h:ni g (some (.map es clock))):∀x∈es,∃a b,x.key=.int .i64 a/\x.val=.int .i64 b:=by
 obtain⟨iK,K,l,H,F,_⟩:=h;cases H;intro x U;have Y:x∈es.toList:=by simp_all
 obtain⟨a,I⟩:=Ia F x Y;obtain⟨y,D⟩:=F.reads x Y;obtain⟨z,R,_⟩:=rd_val D;obtain⟨b,A,_⟩:=plainElem_int_inv u3 R;simp_all
theorem abK[gK]{r:Rn}{c c':Array _}(h:VA r c c')(D:∀x∈c,∃k n,x=ck k n):c'=c:=by
 apply Array.ext
 ·exact h.size.symm
 ·intro i H Y;have K:=h.at_ i _ _ (aY Y) (aY H);obtain⟨k,n,e⟩:=D _ (Array.getElem_mem Y);rw[e]at K⊢;exact Pw K
end Ph
namespace Ph
open Conc Ren
@[reducible] def gv:gK:=K0.jo PR Bh uV uY sr
@[reducible] def gr(k:List Item):gK:=K0.jo PR Bh uV (fun x=>x=k) sr
theorem ahz(k:List Item):Bz gv (gr k):=⟨rfl,fun _ h=>h,fun _ h=>h,fun _ h=>h,fun _=>Iff.rfl,fun _ _ h=>h,rfl⟩
theorem ahA(k:List Item):Bz (gr k) gv:=⟨rfl,fun _ h=>h,fun _ h=>h,fun _ h=>h,fun _=>Iff.rfl,fun _ _ h=>h,rfl⟩
abbrev RN:=@Rn gv
structure Al(Z:Loc->Prop)(r:RN)(v w:ae):Prop where
 w:@Ren.W gv r 0 v w
 gi:@GI gv r
 off:∀a,@Rd gv r a->jf Z a
structure Ke(w w':ae):Prop where
 tape:w'.tape=w.tape
 env:nH w'.os w.os
 output:w'.output=w.output
 grow:w.heap.size<=w'.heap.size
theorem Ke.trans{w w1 w2:ae}(h:Ke w w1)(k:Ke w1 w2):Ke w w2:=⟨k.tape.trans h.tape,k.env.trans h.env,k.output.trans h.output,aL h.grow k.grow⟩
theorem Ke.of{X:Nat->Prop}(h:Kept X X' w w'):Ke w w':=⟨h.tape,h.env,h.output,h.grow⟩
section
variable{tb:Bool}{Q:QT}{R:ah->ae->Prop}{Z:Loc->Prop}{r:RN}{v w w':ae}{fn:br}{k k':List Item}{a:Array ah}
theorem Al.low(h:Al Z r v w)(Y:@Rd gv r b):b<w.heap.size:=by
 letI:=gv
 obtain⟨c,K⟩:=Y;exact(h.w.lt K).2
theorem Al.on(h:Al Z r v w)(hk:∀b,@Rd gv r b->w'.heap[b]?=w.heap[b]?)(Y:Ke w w'):Al Z r v w':=
 ⟨@W.rely gv (fun _ _=>False) r 0 v w w' h.w (fun _ _ _ _ y=>y.elim) ⟨fun b K=>.inl (hk b K),Y.grow,Y.env⟩,h.gi,h.off⟩
theorem Al.quiet(h:Al Z r v w)(hk:Kept (fun _=>False) X' w w'):Al Z r v w':=h.on (fun b Y=>hk.kept b (h.low Y) id) (.of hk)
structure Kz(Z:Loc->Prop)(r:RN)(w:ae)(Z':Loc->Prop)(r':RN)(w':ae):Prop where
 ke:Ke w w'
 kept:∀b,b<w.heap.size->¬ @Rd gv r b->jf Z b->w'.heap[b]?=w.heap[b]?
 may:∀b,b<w.heap.size-> @Rd gv r' b-> @Rd gv r b
 more:∀l,Z l->Z' l
 only:∀l,Z' l->Z l\/∃a:Addr,l=.cell a/\w.heap.size<=a.block
theorem Kz.trans{Z1 Z2:Loc->Prop}{r1 r2:RN}{w1 w2:ae}(h:Kz Z r w Z1 r1 w1)(k:Kz Z1 r1 w1 Z2 r2 w2):Kz Z r w Z2 r2 w2:=
 have g:=h.ke.grow
 ⟨h.ke.trans k.ke,fun b Y K H=>(k.kept b (by omega) (fun y=>K (h.may b Y y)) (uR h.only H Y)).trans (h.kept b Y K H),fun b Y y=>h.may b Y (k.may b (by omega) y),fun l y=>k.more l (h.more l y),fun l y=>(k.only l y).elim (h.only l) fun⟨a,e,q⟩=>.inr ⟨a,e,by omega⟩⟩
theorem Kz.of{X:Nat->Prop}{r':RN}(h:Kept X X' w w')(K:∀a,X a-> @Rd gv r a)(D:∀a,@Rd gv r' a->X' a):Kz Z r w Z r' w':=
 ⟨.of h,fun b Y H _=>h.kept b Y fun y=>H (K b y),fun b Y y=>(h.may b (D b y)).elim (K b) fun q=>by omega,fun _ y=>y,fun _ y=>.inl y⟩
theorem Kz.qt(h:Kept (fun _=>False) X' w w'):Kz Z r w Z r w':=⟨.of h,fun b Y _ _=>h.kept b Y id,fun _ _ y=>y,fun _ y=>y,fun _ y=>.inl y⟩
theorem Al.fin{r':RN}(I:Al Z r v w)(U:qh Z w.heap.size)(K:@Le gv r r')(H:@Ren.W gv r' 0 v' w')(Y:Kept (@Wr gv r) (@Wr gv r') w w'):Al Z r' v' w'/\Kz Z r w Z r' w':=by
 letI:=gv
 exact⟨⟨H,I.gi.mono K,fun b ⟨b0,D⟩=>(Y.may b ⟨b0,D,id⟩).elim (fun⟨b1,h,_⟩=>I.off b ⟨b1,h⟩) U.off⟩,.of Y (fun _ ⟨b,e,_⟩=>⟨b,e⟩) fun _ ⟨b,e⟩=>⟨b,e,id⟩⟩
def akY(Q:QT)(Z:Loc->Prop)(x:ah)(l:List au)(w:ae):Prop:=match l with
 |c::cs=>gL PR Q Z (c.finish x) cs w
 |[]=>∀f,(∀u,bT PR true (G f []) u=.ended (.done x) u #[])->gL PR Q Z f [] w
theorem Dw(h:l.isEmpty=false):∃c cs,l=c::cs:=by
 cases l with
 |nil=>cases h
 |cons c cs=>exact⟨c,cs,rfl⟩
def Kt(Q:QT)(R:ah->ae->Prop)(r:RN)(Z:Loc->Prop)(w:ae)(l:List au):Prop:=
 ∀(r':RN) (Z':Loc->Prop) (x x':ah) (v' w':ae),@Le gv r r'-> @V gv r' x x'->Al Z' r' v' w'->Kz Z r w Z' r' w'->R x v'->akY Q Z' x' l w'
theorem Kt.on{r':RN}(h:Kt Q R r Z w l)(hr:@Le gv r r')(hw:Kz Z r w Z1 r' w'):Kt Q R r' Z1 w' l:=
 fun r2 Z' x x' v' w2 Y K H D I=>h r2 Z' x x' v' w2 (@Le.trans gv r r' r2 hr Y) K H (hw.trans D) I
def iW(Q:QT)(g:br)(args:Array ah)(v:ae)(R:ah->ae->Prop):Prop:=
 ∀(r:RN) (Z:Loc->Prop) (w:ae) (Y:Array ah) (c:au) (cs:List au),@VA gv r args Y->Al Z r v w->Kt Q R r Z w (c::cs)->gL PR Q Z (Frame.enter PR g Y .normal) (c::cs) w
abbrev bf(fn:br):Frame:=⟨fn,#[],[],[],.run,.normal,none⟩
def GW(tb:Bool)(Q:QT)(R:ah->ae->Prop)(fn:br)(k:List Item)(a:Array ah)(v:ae):Prop:=
 ∀(r:RN) (Z:Loc->Prop) (w:ae) (t:Array ah) (l:List au),l.isEmpty=tb-> @VA gv r a t->Al Z r v w->Kt Q R r Z w l->gL PR Q Z ((bf fn).at ⟨t,[]⟩ k) l w
theorem GW.run(n:Nat)(g:GW tb Q R fn k' a v)(h:∀t l,gS PR n ((bf fn).at ⟨t,[]⟩ k) l=((bf fn).at ⟨t,[]⟩ k',l):=by intro t l;kernel_rfl):GW tb Q R fn k a v:=by
 intro r Z w t l Y K I H;refine bQ n fun w' hk=>?_;rw[h];exact g r Z w' t l Y K (I.quiet hk) (H.on (fun _ _ e=>e) (.qt hk))
theorem ajw(Y:∃F,PR.funcs[fn]?=some F){t:Array ah}(K:@VA gv r a t):@FR gv PR r true ((bf fn).at ⟨a,[]⟩ []) ((bf fn).at ⟨t,[]⟩ []):=by
 letI:=gv
 exact⟨rfl,K,.nil,.nil,.run,rfl,.inl rfl,.none,fun _=>Y⟩
theorem yS(Y:∃F,PR.funcs[fn]?=some F){t:Array ah}(H:@VA gv r a t)(K:@GI gv r){x:Operand}(D:@jF gv x):@V gv r (aM ⟨a,[]⟩ x) (aM ⟨t,[]⟩ x):=by
 letI:=gv
 have:=(ajw Y H).eval K x D
 rwa [cO,cO]at this
theorem GW.cond(Y:∃F,PR.funcs[fn]?=some F){x:Operand}{p q:Code}{t:Bool}(C:@jF gv x)(U:aM ⟨a,[]⟩ x=.bool t)(g:GW tb Q R fn (.code (if t then p else q)::k) a v):GW tb Q R fn (.code (.cond x p q)::k) a v:=by
 intro r Z w u l A K I B;have D:aM ⟨u,[]⟩ x=.bool t:=by
  have:=yS Y K I.gi C;rw[U]at this;generalize aM ⟨u,[]⟩ x=y at this;cases this;rfl
 refine bQ 1 fun w' hk=>?_;have e:gS PR 1 ((bf fn).at ⟨u,[]⟩ (.code (.cond x p q)::k)) l=((bf fn).at ⟨u,[]⟩ (.code (if t then p else q)::k),l):=by
  have H:Frame.eval ⟨fn,u,.code (.cond x p q)::k,[],.run,.normal,none⟩ x=.bool t:=(cO (bf fn) ⟨u,[]⟩ _ x).trans D;simp only[gS,oB,Frame.at,prun,H]
 rw[e];exact g r Z w' u l A K (I.quiet hk) (B.on (fun _ _ e=>e) (.qt hk))
theorem GW.piece(S:∃F,PR.funcs[fn]?=some F){p:Code}(m:lV K0 PR false p=true){R1:Array ah->ae->Prop}(hk:A4 k=true)(u:∀T,p.wp PR (fun e a' v'=>e=.normal/\a'.defers=[]/\R1 a'.tmps v') ⟨a,[]⟩ (tp v T))
  (g:∀a' v',R1 a' v'->GW tb Q R fn k a' v'):GW tb Q R fn (.code p::k) a v:=by
 intro r Z w t l s i I kk;refine bR fun Y=>?_;have A:=ahz k;have D:=ahA k
 letI:=gr k
 have K:mb PR false p:=yq (fun _ _ h=>h) m;have o:FR PR (oK A r) true ((bf fn).at ⟨a,[]⟩ (.code p::tS)) ((bf fn).at ⟨t,[]⟩ (.code p::k)):=by
  refine⟨rfl,uT A i,?_,.nil,.run,rfl,.inl rfl,.none,fun _=>S⟩;show IL PR _ false true (.code p::tS) (.code p::k)
  exact .cons (.code K) (.rest rfl rfl rfl hk)
 have n:=Oi (main:=true) (U:=fun _ _=>False) (Bi (fun x=>x=k) sr) (fun ops h=>by cases h) (r0:=oK A r) (fun g V=>I.gi g V) u rfl K o (gW:=l) (Jv A I.w) (fun _ _ _ _ h=>h.elim) (fun _ _ h=>h.elim);refine bH (U:=fun _ _=>False) n (fun b B=>⟨I.off b B,I.low B⟩) fun S' X' f' l' w' hd W=>?_;obtain⟨rfl,r',a',v',G,z,q,j,⟨O,f⟩,_,_,H,f1,f2,X,E,f5,f6⟩:=O0 (kr:=k) (fun k h=>h) hd;subst q j;obtain⟨L,tmps,todo,defers,mode,kind,ro⟩:=f';simp only at f1 f2 X E f5 f6 H;rw[O]at f6;have P:defers=[]:=by
  generalize defers=d at f6;cases f6 with
  |nil=>rfl
  |rest _ h=>exact h.elim
 subst P X E f5;have C:L=fn:=f1;have J:kind=.normal:=f2;subst C J;have M:Al Z (oK D r') v' w':=⟨Jv D z,fun g V=>G _ _ (I.gi g V),fun b B=>?_⟩
 ·exact g a'.tmps v' f (oK D r') Z w' tmps _ s (uT D H) M (kk.on (fun b c e=>G b c e) (.of W (fun _ ⟨b,e,_⟩=>⟨b,e⟩) fun _ ⟨b,e⟩=>⟨b,e,id⟩))
 ·rcases W.may b ⟨_,B.choose_spec,fun h=>h⟩with y|y
  ·obtain⟨b0,N,_⟩:=y;exact I.off b ⟨b0,N⟩
  ·exact Y.off y
theorem GW.rest{F:Func}(Y:PR.funcs[fn]?=some F){p:Code}(N:lV K0 PR false p=true)(M:∀T,p.wp PR (aV PR F fun e v'=>∃x,e=.returned x/\R x v') ⟨a,[]⟩ (tp v T)):GW false Q R fn [.code p] a v:=by
 intro r Z w t l L O I P;obtain⟨c,cs,rfl⟩:=Dw L;refine bR fun K=>?_
 letI:=gv
 have H:mb PR false p:=yq (fun _ _ h=>h) N;refine gL.rest (Bi uY sr) (fun _ h=>by cases h) (fun _ h=>h) I.gi (b:=bf fn) Y rfl M (fun e u h=>h.imp fun x y=>y.1) (f':=(bf fn).at ⟨t,[]⟩ [.code p]) ⟨rfl,O,.cons (.code H) .nil,.nil,.run,rfl,.inl rfl,.none,fun _=>⟨_,Y⟩⟩ I.w I.off fun r' v' x x' w' D A U B C=>?_;obtain⟨y,e,J⟩:=B;cases e;have z:=I.fin K D U C;exact P r' Z x x' v' w' D A z.1 z.2 J
end
theorem adJ{U:Nat->Nat->Prop}(S X:Nat->Prop)(w:ae):kz U S X w {w with drawn:=w.drawn+1} #[] S X:=⟨⟨fun _ _ _=>rfl,ak _,fun a=>⟨.inl,fun h=>h.resolve_right fun y=>by have:=y.2;simp at this;omega⟩,fun a=>⟨.inl,fun h=>h.resolve_right fun y=>by have:=y.2;simp at this;omega⟩,fun e Y=>by simp_all,rfl,.refl _,rfl⟩,fun e Y=>by simp_all⟩
section
variable{P:bN}{Q:QT}{Z:Loc->Prop}{w:ae}{cs:List au}
theorem gL.pick{b:au}{a:Act}{k:List Item}{id:Nat}{ops:Array Oper}(h:∀t w',ie Z w w'->(∀b,b<w.heap.size->w'.heap[b]?=w.heap[b]?)->gL P Q Z (b.at a (.inRegion ops (da (P.follows .mixedOrders) ops t)::k)) cs w'):gL P Q Z (b.at a (.code (.region id ops true)::k)) cs w:=by
 refine bH (U:=fun _ _=>False) (S:=fun _=>False) (Done:=fun S X f' l' w'=>X=(fun _=>False)/\l'=cs/\∃t,f'=b.at a (.inRegion ops (da _ ops t)::k)) (Tr.one fun w2 hr=>⟨_,_,_,_,_,_,stepG_region_draw,(adJ (U:=fun _ _=>False) _ _ w2).toDid,.stop ⟨rfl,rfl,_,rfl⟩⟩) (fun b h=>h.elim) fun S' X' f' l' w' hd hk=>?_;obtain⟨rfl,rfl,t,rfl⟩:=hd;exact h t w' (ie.of hk) fun b Y=>hk.kept b Y (fun y=>y)
end
theorem mixed:PR.follows .mixedOrders=true:=by kernel_rfl
theorem sched{ops:Array Oper}(t:Nat):da (PR.follows .mixedOrders) ops t=aT .any ops ops.size t (cv ops.size false) []:=by
 rfl
theorem D4{md:Region.Mode}{ops:Array Oper}(h:aI md ops listed=[i])(fuel t:Nat):aT md ops (fuel+1) t listed []=i::aT md ops fuel (t/1) (listed.setIfInBounds i true) []:=by
 change(match(aI md ops _)[t%(aI md ops _).length]? with
   |some i=>aT md ops _ (t/(aI md ops _).length) _ [i]
   |none=>[].reverse)=_
 rw[h];simp only[bL,Nat.mod_one,List.getElem?_cons_zero];rw[eG,dW,dX]
def ab:List Bool:=[false,true]
theorem ly{f:Bool->Bool}(h:ab.all f=true)(d:Bool):f d=true:=cz.1 h d (by cases d<;>simp[ab])
def vk:Nat->ah->Bool
 |_,.bool _|_,.int .. |_,.string _|_,.pointer none|_,.slice none _ _|_,.nilFunc|_,.nilIface=>true
 |n+1,.agg c=>c.all (vk n)
 |n+1,.iface _ v=>vk n v
 |_,_=>false
theorem De[gK]{r:Rn}:∀{n:Nat} {v y:ah},vk n v=true->V r v y->y=v:=by
 intro n;induction n with
 |zero=>
  intro v y h K;cases K<;>first|rfl|(simp[vk]at h)
 |succ n D=>
  intro v y h K;cases K with
  |agg I R=>
   congr 1;apply Array.ext
   ·omega
   ·intro i Y H;exact D (dt.1 h i H) (R i _ _ (aY H) (aY Y))
  |iface t Y=>exact congrArg _ (D h Y)
  |_=>first|rfl|(simp[vk]at h)
def lh(d:Option Nat)(x:ah)(a:Array ah):Array Value:=match d with
 |some i=>a.setIfInBounds i x
 |none=>a
theorem adK(d:Option Nat)(x:ah)(a:Array ah):Act.put ⟨a,[]⟩ d x=⟨lh d x a,[]⟩:=by cases d<;>rfl
section
variable{tb:Bool}{Q:QT}{R R1:ah->ae->Prop}{Z:Loc->Prop}{r:RN}{v v1 w w':ae}{fn f:br}{k:List Item}{a args:Array ah}{ops:Array Oper}{i:Nat}{is:List Nat}{o:Oper}{x:ah}
theorem Sw{r':RN}{t:Array ah}(h:@VA gv r a t)(hr:@Le gv r r')(Y:@V gv r' x x')(d:Option Nat):@VA gv r' (lh d x a) (lh d x' t):=by
 letI:=gv
 cases d with
 |none=>exact h.mono hr
 |some i=>exact(h.mono hr).set i Y
theorem Tf(K:ops[i]?=some o)(Y:o.guard=none)(t:Array ah):opAt ((bf fn).at ⟨t,[]⟩ (.inRegion ops (i::is)::k))=some o:=by
 simp[opAt,Frame.at,K,eh,Y]
theorem fin_at(Y:ops[i]?=some o)(t:Array ah)(y:ah):((bf fn).at ⟨t,[]⟩ (.inRegion ops (i::is)::k)).finish y=(bf fn).at ⟨lh o.dst y t,[]⟩ (.inRegion ops is::k):=by
 rw[Frame.finish_at,Y];simp only[Option.bind_some];rw[adK]
theorem GW.op(T:∃F,PR.funcs[fn]?=some F)(N:ops[i]?=some o)(u:o.guard=none)(M:mS K0 PR o.op=true)(E:∀c,o.op=.call c->c.callee≠.builtin .recover)(hd:v1.drawn=v.drawn){n:Next}(hr:(bq (aM ⟨a,[]⟩) o).run PR v=.ok n v1)(hn:n=.value x\/n=.skip/\x=aH)
  (g:GW tb Q R fn (.inRegion ops is::k) (lh o.dst x a) v1):GW tb Q R fn (.inRegion ops (i::is)::k) a v:=by
 intro r Z w t l hl j I kk;refine bR fun B=>?_
 letI:=gv
 have F:=Bi uY sr;have G:Ez PR o.op:=Qj (fun _ _ h=>h) M;have q:SR PR (NX true) r (bq (aM ⟨a,[]⟩) o) (bq (aM ⟨t,[]⟩) o):=OY F.toFit (fun y hy=>yS T j I.gi hy) (fun y=>⟨rfl,rfl⟩) o G (fun c e d=>absurd d (E c e));refine bH (U:=fun _ _=>False) (S:=Rd r) (X:=Wr r) (Done:=fun S X f' l' w'=>∃(r':Rn) (x':ah),Le r r'/\V r' x x'/\Ren.W r' 0 v1 w'/\S=Rd r'/\X=Wr r'/\f'=(bf fn).at ⟨lh o.dst x' t,[]⟩ (.inRegion ops is::k)/\l'=l) (Tr.one fun w2 hrel=>?_) (fun b M=>⟨I.off b M,I.low M⟩) fun S' X' f' l' w' hd hK=>?_
 ·have H:Ren.W r 0 v w2:=I.w.rely (U:=fun _ _=>False) (fun _ _ _ _ y=>y.elim) hrel;have h:=SR.run F.sC q #[] H;rw[hr]at h;generalize D:(bq (aM ⟨t,[]⟩) o).runT PR w2 #[]=y at h;cases h with
  |@ok _ a' _ w1 fs r1 c1 out C O=>
   have L:c1=0:=by have:=out.drew;omega
   subst L;rw[Sem.runT_eq]at D;have K:(bq (aM ⟨t,[]⟩) o).run PR w2=.ok a' w1:=congrArg Prod.fst D;have Y:(bq (aM ⟨t,[]⟩) o).events PR w2 #[]=fs:=congrArg Prod.snd D;have A:∀p e,e∈seen PR p fs->mj r w2 w1.heap.size e:=fun p e he=>(O e (mem_seen _ _ e he)).elim (fun z=>by simp at z) id;rcases hn with rfl|⟨rfl,rfl⟩
   ·cases C with
    |@value _ x' hV=>
     have gF:=pN (P:=PR) (main:=true) (f:=(bf fn).at ⟨t,[]⟩ (.inRegion ops (i::is)::k)) (cs:=l) (w:=w2) (w':=w1) (Tf N u t) (v:=x') (by rw[bV];exact K);rw[bV,Y,fin_at N]at gF;exact⟨_,_,_,_,_,_,gF,out.did H (A _),.stop ⟨r1,x',out.le,hV,out.wl,rfl,rfl,rfl,rfl⟩⟩
   ·cases C with
    |skip=>
     have gF:=step_skip (P:=PR) (main:=true) (f:=(bf fn).at ⟨t,[]⟩ (.inRegion ops (i::is)::k)) (cs:=l) (w:=w2) (w':=w1) (Tf N u t) (by rw[bV];exact K);rw[bV,Y,fin_at N]at gF;exact⟨_,_,_,_,_,_,gF,out.did H (A _),.stop ⟨r1,aH,out.le,.tuple rfl (fun i x x' e=>by simp at e),out.wl,rfl,rfl,rfl,rfl⟩⟩
  |lM hf _=>have:(Result.ok n v1).world.drawn=v1.drawn:=rfl;omega
 ·obtain⟨r',x',J,s,m,rfl,rfl,rfl,rfl⟩:=hd;have z:=I.fin B J m hK;exact g r' Z w' _ _ hl (Sw j J s o.dst) z.1 (kk.on J z.2)
def ki(ops:Array Oper)(i:Nat):Option Nat:=ops[i]?.bind (·.dst)
def tc(ops:Array Oper)(i:Nat):Array Operand:=match ops[i]?.map (fun o=>o.op)with
 |some (Op.call c)=>c.args
 |_=>#[]
def sO (ops:Array Oper) (i:Nat) (t:Array ah):Option (br×Array ah):=match ops[i]? with
 |some o=>if o.guard.isNone then match kE PR (bq (aM ⟨t,[]⟩) o)with
  |some (.enter f zs)=>some (f,zs)
  |_=>none else none
 |none=>none
theorem adM{t zs:Array ah}(h:sO ops i t=some (f,zs)):∃o,ops[i]?=some o/\o.guard=none/\kE PR (bq (aM ⟨t,[]⟩) o)=some (.enter f zs):=by
 unfold sO at h;split at h
 ·rename_i o H;split at h
  ·rename_i Y;split at h
   ·rename_i g D K;cases h;exact⟨o,H,eg.1 Y,K⟩
   ·cases h
  ·cases h
 ·cases h
theorem GW.call(H:∃F,PR.funcs[fn]?=some F)(M:iW Q f args v R1)(g:∀x v',R1 x v'->GW tb Q R fn (.inRegion ops is::k) (lh (ki ops i) x a) v')(Y:(tc ops i).map (aM ⟨a,[]⟩)=args:=by kernel_rfl)(h:∀t,sO ops i t=some (f,(tc ops i).map (aM ⟨t,[]⟩)):=by intro t;kernel_rfl)(U:(tc ops i).all (kt K0)=true:=by kernel_rfl):GW tb Q R fn (.inRegion ops (i::is)::k) a v:=by
 intro r Z w t l O A I S
 letI:=gv
 refine bQ 1 fun w1 hk=>?_;obtain⟨o,D,N,gN⟩:=adM (h t);have e:gS PR 1 ((bf fn).at ⟨t,[]⟩ (.inRegion ops (i::is)::k)) l=(Frame.enter PR f ((tc ops i).map (aM ⟨t,[]⟩)) .normal,(bf fn).at ⟨t,[]⟩ (.inRegion ops (i::is)::k)::l):=by
  have K:Frame.eval ⟨fn,t,.inRegion ops (i::is)::k,[],.run,.normal,none⟩=aM ⟨t,[]⟩:=bV (bf fn) ⟨t,[]⟩ _;simp only[gS,oB,Frame.at,prun,D,eh,N,pop,K,gN];simp
 rw[e];refine M r Z w1 _ _ _ ?_ (I.quiet hk) fun r' Z' x x' v' w' K B C J L=>?_
 ·rw[<-Y];exact VA.mapOf fun y P=>yS H A I.gi (uI (Array.all_eq_true_iff_forall_mem.1 U y P))
 ·have e:ki ops i=o.dst:=by simp[ki,D]
  rw[e]at g;change gL PR Q Z' (((bf fn).at ⟨t,[]⟩ (.inRegion ops (i::is)::k)).finish x') l w';rw[fin_at D];exact g x v' L r' Z' w' _ l O (Sw A K B o.dst) C (S.on K ((Kz.qt hk).trans J))
theorem iW.iz(H:K0.iz f=true)(M:∀T,aj PR f args (tp v T) fun e v'=>∃x,e=.returned x/\R x v'):iW Q f args v R:=by
 intro r Z w K c cs J I L;refine bR fun Y=>?_
 letI:=gv
 refine gL.call (Bi uY sr) (fun _ h=>by cases h) (fun _ h=>h) I.gi M (fun e u h=>h.imp fun x y=>y.1) H J I.w I.off fun r' v' x x' w' D A U B C=>?_;obtain⟨y,e,F⟩:=B;cases e;have z:=I.fin Y D U C;exact L r' Z x x' v' w' D A z.1 z.2 F
theorem iW.of{F:Func}(K:PR.funcs[fn]?=some F){p:Code}(U:F.body=some p)(D:F.ntmps=n)(h:GW false Q R fn [.code p] (args++cv (n-args.size) aH) v):iW Q fn args v R:=by
 intro r Z w Y c cs H I A
 letI:=gv
 have e:Frame.enter PR fn Y .normal=(bf fn).at ⟨Y++cv (n-args.size) aH,[]⟩ [.code p]:=by
  simp[Frame.enter,K,U,D,Frame.at,H.size]
 rw[e];exact h r Z w _ (c::cs) rfl (H.append (.rep _ (.tuple rfl (fun i x x' e=>by simp at e)))) I A
theorem GW.draw{id:Nat}(h:∀t,GW tb Q R fn (.inRegion ops (aT .any ops ops.size t (cv ops.size false) [])::k) a v):GW tb Q R fn (.code (.region id ops true)::k) a v:=by
 intro r Z w t l A U I B;refine gL.pick fun u w' Y D=>?_;rw[sched];have H:Ke w w':=⟨Y.tape,Y.env,Y.output,Y.grow⟩;exact h u r Z w' t l A U (I.on (fun b K=>D b (I.low K)) H) (B.on (fun _ _ e=>e) ⟨H,fun b K _ _=>D b K,fun _ _ y=>y,fun _ y=>y,fun _ y=>.inl y⟩)
theorem GW.Ti{md:Region.Mode}(mk:Array Bool->Array ah)(Inv:Nat->Array Bool->ae->Prop)
  (K:∀listed i fuel t v,Inv (fuel+1) listed v->i∈aI md ops listed->(∀v',Inv fuel (listed.setIfInBounds i true) v'->GW tb Q R fn (.inRegion ops (aT md ops fuel t (listed.setIfInBounds i true) [])::k) (mk (listed.setIfInBounds i true)) v')->GW tb Q R fn (.inRegion ops (i::aT md ops fuel t (listed.setIfInBounds i true) [])::k) (mk listed) v)
  (Y:∀fuel listed v,Inv fuel listed v->fuel=0\/aI md ops listed=[]->GW tb Q R fn (.inRegion ops []::k) (mk listed) v):
  ∀fuel t listed v,Inv fuel listed v->GW tb Q R fn (.inRegion ops (aT md ops fuel t listed [])::k) (mk listed) v:=by
 intro fuel;induction fuel with
 |zero=>intro t listed v h;exact Y 0 listed v h (.inl rfl)
 |succ fuel A=>
  intro t listed v h;simp only[aT];change GW tb Q R fn (.inRegion ops (match(aI md ops listed)[t%(aI md ops listed).length]? with
   |some i=>aT md ops fuel (t/(aI md ops listed).length) (listed.setIfInBounds i true) [i]
   |none=>[].reverse)::k) (mk listed) v
  cases D:(aI md ops listed)[t%(aI md ops listed).length]? with
  |none=>
   have H:aI md ops listed=[]:=by
    cases hr:aI md ops listed with
    |nil=>rfl
    |cons x xs=>
     rw[hr]at D;have I:t%(x::xs).length<(x::xs).length:=c7 _ (by simp);simp at D;simp at I;omega
   exact Y (fuel+1) listed v h (.inr H)
  |some i=>
   simp only[];rw[eG,dW,dX];exact K listed i fuel _ v h (List.mem_of_getElem? D) fun v' h'=>A _ _ v' h'
end
end Ph
namespace Ph
open Conc Ren RowKit
section
variable{Q:QT}{Z Z':Loc->Prop}{r:RN}{v w w':ae}
theorem Ke.oO(h:ie Z w w'):Ke w w':=⟨h.tape,h.env,h.output,h.grow⟩
theorem Al.oO(h:Al Z r v w)(H:∀l,Z' l->Z l\/∃a:Addr,l=.cell a/\w.heap.size<=a.block)(K:ie Z w w'):Al Z' r v w':=
 have k:=h.on (fun b Y=>K.old b (h.low Y) (h.off b Y)) (.oO K)
 ⟨k.w,k.gi,fun b Y=>uR H (h.off b Y) (h.low Y)⟩
theorem ahB(h:Al Z r v w){B:Nat}{H:∀x,r x≠some B}{Y:gv.size<=v.heap.size}{K:gv.size<=B}:@Le gv r (@ext gv r v.heap.size B H Y K):=fun b a e=>by
 letI:=gv
 have:=(h.w.lt e).1;show(if b=v.heap.size then some B else r b)=some a
 rw[if_neg (by omega)];exact e
theorem IP{B:Nat}{H:∀x,r x≠some B}{Y:gv.size<=n}{K:gv.size<=B}(e:@ext gv r n B H Y K b=some b'):(b=n/\b'=B)\/r b=some b':=by
 have e:(if b=n then some B else r b)=some b':=e;split at e
 ·simp_all
 ·simp_all
theorem Al.new(h:Al Z r v w)(T:∀l,Z' l->Z l\/∃a:Addr,l=.cell a/\w.heap.size<=a.block)(N:ie Z w w'){B:Nat}(U:w.heap.size<=B)(C:jf Z' B){o o':Obj}(S:w'.heap[B]?=some o')(M:∀r':RN,@Le gv r r'-> @O gv r' o o'):
  ∃r':RN,@Le gv r r'/\r' v.heap.size=some B/\Al Z' r' (v.alloc o) w'/\∀b,@Rd gv r' b->b=B\/ @Rd gv r b:=by
 letI:=gv
 have D:=h.oO T N;have A:∀x,r x≠some B:=fun x e=>by have:=h.low ⟨x,e⟩;omega
 have Y:Le r (ext r _ B A h.w.gv (aL h.w.gw U)):=ahB h;have R:ext r _ B A h.w.gv (aL h.w.gw U) _=some B:=if_pos rfl;refine⟨_,Y,R,⟨⟨fun b b' e=>?_,aL h.w.gv (by simp),D.w.gw,fun b H=>absurd H id,fun i q P=>by omega,D.w.env⟩,h.gi.mono Y,fun b H=>?_⟩,fun b H=>?_⟩
 ·rcases IP e with⟨rfl,rfl⟩|e
  ·exact⟨o,o',heap_alloc_new v o,S,.same id (M _ Y)⟩
  ·obtain⟨q,L,I,F,J⟩:=D.w.obj b b' e;refine⟨q,L,?_,F,J.mono Y⟩;rw[<-I];exact((ay _ v).alloc (ak _) o).block b (j8 I)
 ·obtain⟨b0,K⟩:=H;rcases IP K with⟨_,rfl⟩|e
  ·omega
  ·exact D.off b ⟨b0,e⟩
 ·obtain⟨b0,K⟩:=H;rcases IP K with⟨_,rfl⟩|e
  ·simp
  ·exact .inr ⟨b0,e⟩
theorem afH{a b:Array ah}(h:@VA gv r a b)(H:a.all (vk 3)=true):b=a:=by
 letI:=gv
 apply Array.ext
 ·exact h.size.symm
 ·intro i K Y;exact De (dt.1 H i Y) (h.at_ i _ _ (aY Y) (aY K))
theorem Al.ns(h:Al Z r v w)(U:lb v)(g:Nat)(H:g=0\/g=2\/g=3):w.heap[g]?=v.heap[g]?:=by
 letI:=gv
 obtain⟨A,t,fz,e,I⟩:=U g H;obtain⟨o,o',K,D,Y⟩:=h.w.obj g g (h.gi g (by rcases H with rfl|rfl|rfl<;>first|exact rfl|exact rfl|exact rfl));rw[e]at K;cases K;have Y:=OB.plain Y (fun _ h=>h);cases Y with
 |cells _ _ R=>rw[D,abK R I,<-e]
theorem afI{P:ByteArray}{k st:Nat}(hX:X.size<=200)(hP:P.size<=30)(hk:k<=6)(g:1<=q)(C:q<=8)(u:1<=st)(F:st<=200)(G:1<=n)(U:n<=8):
  iW Q 122 #[.string X,.string P,jS k q st,iv n] v fun x v'=>x=.map (some v.heap.size)/\∃o,v'=v.alloc o/\ni (qE X P k st (km X P k q st)) (some o):=by
 intro r Z w D c cs j I z;obtain rfl:=afH j (by simp[vk])
 letI:=gv
 refine WT hX hP hk g C u F G U I.w.gw fun Z' Mp w' B K A R Y H E=>?_;obtain⟨es,clock,l,L,hF⟩:=id H;rw[L]at H;obtain⟨r',M,N,O,S⟩:=I.new K A R Y L fun r' _=>.map _ rfl fun i x x' e e'=>by
  obtain rfl:=Option.some.inj (e.symm.trans e');obtain⟨a,b,T,V⟩:=ZX H x (Array.mem_of_getElem? e);exact⟨by rw[T];exact .int _ _,by rw[V];exact .int _ _,rfl⟩
 exact z r' Z' _ _ _ w' M (.map N) O ⟨.oO A,fun b J _ W=>A.old b J W,fun b J y=>(S b y).resolve_left (by omega),B,K⟩ ⟨rfl,_,rfl,H⟩
end
section
variable{tb:Bool}{Q:QT}{R:ah->ae->Prop}{v v1:ae}{fn:br}{k:List Item}{a:Array ah}{ops:Array Oper}{i:Nat}{is:List Nat}{x:ah}
def Kw(v v1:ae):Prop:=∀a,a<v.heap.size->v1.heap[a]?=v.heap[a]?
theorem Kw.size{v:ae}(h:Kw v v1):v.heap.size<=v1.heap.size:=by
 cases e:v.heap.size with
 |zero=>exact aQ _
 |succ n=>
  have:=h n (by omega);rw[aY (by omega:n<v.heap.size)]at this;exact j8 this
theorem Kw.refl(v:ae):Kw v v:=fun _ _=>rfl
theorem Kw.trans{v v1 v2:ae}(h:Kw v v1)(k:Kw v1 v2):Kw v v2:=fun a Y=>(k a (bj Y h.size)).trans (h a Y)
theorem Kw.at{v:ae}(h:Kw v v1){a:Nat}{o:Obj}(Y:v.heap[a]?=some o):v1.heap[a]?=some o:=(h a (j8 Y)).trans Y
theorem Kw.alloc(v:ae)(o:Obj):Kw v (v.alloc o):=fun a Y=>((ay _ v).alloc (ak _) o).block a Y
theorem Kw.rF{v:ae}(h:Kw v v1)(Y:lb v)(k:iN v):iN v1:=by
 obtain⟨_,_,_,e,_⟩:=Y 0 (.inl rfl);exact yu k (h 0 (j8 e))
theorem Kw.ns{v:ae}(h:Kw v v1)(Y:lb v):lb v1:=Y.same fun g K=>by
 obtain⟨_,_,_,e,_⟩:=Y g K;exact h g (j8 e)
def Sx:Op->Bool
 |.call c=>match c.callee with
  |.builtin .recover=>false
  |_=>true
 |_=>true
def mU (ops:Array Oper) (i:Nat) (a:Array ah):Option (Sem Next):=match ops[i]? with
 |some o=>if o.guard.isNone&&mS K0 PR o.op&&Sx o.op then some (bq (aM ⟨a,[]⟩) o)else none
 |none=>none
theorem GW.ex(K:∃F,PR.funcs[fn]?=some F){s:Sem Next}{n:Next}(h:mU ops i a=some s)(hr:s.run PR v=.ok n v1)(U:n=.value x\/n=.skip/\x=aH)(hd:v1.drawn=v.drawn)(g:GW tb Q R fn (.inRegion ops is::k) (lh (ki ops i) x a) v1):GW tb Q R fn (.inRegion ops (i::is)::k) a v:=by
 unfold mU at h;split at h
 ·rename_i o H;split at h
  ·rename_i Y;simp only[cK,eg]at Y;cases h;have e:ki ops i=o.dst:=by simp[ki,H]
   rw[e]at g;exact GW.op K H Y.1.1 Y.1.2 (fun c e D=>by rw[e]at Y;simp[Sx,D]at Y) hd hr U g
  ·cases h
 ·cases h
def sL(s:Sem ah):Sem Next:=do pure (.value (<-s))
def Bu(s:Sem Unit):Sem Next:=do s;pure .skip
theorem GW.vl(Y:∃F,PR.funcs[fn]?=some F){s:Sem ah}(h:mU ops i a=some (sL s))(hr:s.run PR v=.ok x v1)(hd:v1.drawn=v.drawn)(g:GW tb Q R fn (.inRegion ops is::k) (lh (ki ops i) x a) v1):GW tb Q R fn (.inRegion ops (i::is)::k) a v:=
 GW.ex Y h (by simp[sL,hr]) (.inl rfl) hd g
def vY (ops:Array Oper) (i:Nat) (a:Array ah):Option (Array ah):=match mU ops i a with
 |some s=>match kE PR s with
  |some (.value x)=>some (lh (ki ops i) x a)
  |_=>none
 |none=>none
theorem GW.pu(Y:∃F,PR.funcs[fn]?=some F)(h:vY ops i a=some a')(g:GW tb Q R fn (.inRegion ops is::k) a' v):GW tb Q R fn (.inRegion ops (i::is)::k) a v:=by
 unfold vY at h;split at h
 ·rename_i s H;split at h
  ·rename_i x K;cases h;exact GW.ex Y H (oe K v) (.inl rfl) rfl g
  ·cases h
 ·cases h
def Ae (ops:Array Oper):List Nat->Array ah->Option (Array ah)
 |[],a=>some a
 |i::l,a=>(vY ops i a).bind (Ae ops l)
theorem GW.Ub(Y:∃F,PR.funcs[fn]?=some F):∀(l:List Nat) {a:Array ah},(Ae ops l a).isSome=true->GW tb Q R fn (.inRegion ops is::k) ((Ae ops l a).getD #[]) v->GW tb Q R fn (.inRegion ops (l++is)::k) a v
 |[],a,_,g=>g
 |i::l,a,h,g=>by
  simp only[Ae]at h g;cases e:vY ops i a with
  |none=>rw[e]at h;cases h
  |some a'=>
   rw[e]at h g;exact GW.pu Y e (GW.Ub Y l h g)
theorem GW.im(Y:∃F,PR.funcs[fn]?=some F)(l:List Nat)(g:GW tb Q R fn (.inRegion ops is::k) ((Ae ops l a).getD #[]) v)(h:(Ae ops l a).isSome=true:=by kernel_rfl):GW tb Q R fn (.inRegion ops (l++is)::k) a v:=GW.Ub Y l h g
theorem GW.bx(Y:∃F,PR.funcs[fn]?=some F)(g:∀v1,Kw v v1->v.heap.size<v1.heap.size->v1.heap[v.heap.size]?=some (.cells y.cells t)->GW tb Q R fn (.inRegion ops is::k) (lh (ki ops i) (ptr v.heap.size) a) v1)(h:mU ops i a=some (sL (Instr.box t y)):=by kernel_rfl):GW tb Q R fn (.inRegion ops (i::is)::k) a v:=
 GW.vl (v1:=v.alloc (.cells y.cells t)) Y h (by simp[go_sem];rfl) rfl (g _ (.alloc v _) (by simp) (heap_alloc_new v _))
theorem GW.ld(Y:∃F,PR.funcs[fn]?=some F)(K:(bD t y).run PR v=.ok x v)(g:GW tb Q R fn (.inRegion ops is::k) (lh (ki ops i) x a) v)(h:mU ops i a=some (sL (bD t y)):=by kernel_rfl):GW tb Q R fn (.inRegion ops (i::is)::k) a v:=
 GW.vl Y h K rfl g
theorem xr{α:Type}{f:TypeInfo->α}{z:α}(K:(PR.info? t).map f=some z):∃Y,PR.info? t=some Y/\f Y=z:=Option.map_eq_some_iff.1 K
theorem GW.al(Y:∃F,PR.funcs[fn]?=some F)(D:(PR.info? t).map (·.zero)=some (some z))(g:∀v1,v1=v.alloc (.cells z.cells t)->Kw v v1->v.heap.size<v1.heap.size->v1.heap[v.heap.size]?=some (.cells z.cells t)->GW tb Q R fn (.inRegion ops is::k) (lh (ki ops i) (ptr v.heap.size) a) v1)(h:mU ops i a=some (sL (Instr.alloc t true (.tuple #[]))):=by kernel_rfl):GW tb Q R fn (.inRegion ops (i::is)::k) a v:=by
 obtain⟨I,K,H⟩:=xr D;exact GW.vl (v1:=v.alloc (.cells z.cells t)) Y h (by simp[go_sem,Instr.alloc,zeroValue,typeInfo,K,H];rfl) rfl (g _ rfl (.alloc v _) (by simp) (heap_alloc_new v _))
theorem GW.ix(H:∃F,PR.funcs[fn]?=some F){B off z:Nat}(M:j<n)(U:PR.underlying t=some (.slice (PR.elem t)))(C:(PR.info? (PR.elem t)).map (·.size)=some z)
  (g:GW tb Q R fn (.inRegion ops is::k) (lh (ki ops i) (.pointer (some ⟨B,off+j *z,none⟩)) a) v)(h:mU ops i a=some (sL (dz t (.slice (some ⟨B,off,none⟩) n cap) (.int .i64 (j:Int)))):=by kernel_rfl):GW tb Q R fn (.inRegion ops (i::is)::k) a v:=by
 obtain⟨Y,D,rfl⟩:=xr C;have A:(0:Int)<=(j:Int)/\(j:Int)<(n:Int):=by omega
 have K:(⟨B,off,none⟩:Addr).add (j *Y.size)=⟨B,off+j *Y.size,none⟩:=by
  by_cases I:j *Y.size=0
  ·rw[I];simp[Addr.add]
  ·simp only[Addr.add,I];simp
 refine GW.vl H h ?_ rfl g;simp[dz,run_underlying U,asIntOf,A,sizeOf,typeInfo,D,K];intro J;omega
theorem GW.to(a':Array ah)(g:GW tb Q R fn k a' v)(h:a=a':=by kernel_rfl):GW tb Q R fn k a v:=h▸g
theorem GW.mono{R1:ah->ae->Prop}(h:∀x v',R1 x v'->R x v')(g:GW tb Q R1 fn k a v):GW tb Q R fn k a v:=
 fun r Z w t l U B I C=>g r Z w t l U B I fun r' Z' x x' v' w' Y K H D A=>C r' Z' x x' v' w' Y K H D (h _ _ A)
theorem GW.Jm{F:Func}(Y:PR.funcs[fn]?=some F){p:Code}(S:lV K0 PR false p=true)(O:(is.all fun i=>match ops[i]? with|some o=>Bg K0 PR false o|none=>true)=true)
  (M:∀T,cn PR ops (fun e a' w'=>e=.normal/\p.wp PR (aV PR F fun e v'=>∃x,e=.returned x/\R x v') a' w') is ⟨a,[]⟩ (tp v T)):GW false Q R fn [.inRegion ops is,.code p] a v:=by
 intro r Z w t l H V I X;obtain⟨c,cs,rfl⟩:=Dw H;refine bR fun K=>?_
 letI:=gv
 have D:mb PR false p:=yq (fun _ _ h=>h) S;refine gL.lone (Bi uY sr) (fun _ h=>by cases h) (fun _ h=>h) I.gi (R:=fun e v'=>∃x,e=.returned x/\R x v') (b:=bf fn) (a:=⟨a,[]⟩) (E0:=[.inRegion ops is,.code p]) Y rfl (fun T=>X5 Y rfl (by rintro u ⟨x,e,_⟩;cases e) (M T) [jL]) (fun e u h=>h.imp fun x y=>y.1) (f':=(bf fn).at ⟨t,[]⟩ [.inRegion ops is,.code p]) ⟨rfl,V,.cons (.inRegion _ fun i N o P=>?_) (.cons (.code D) .nil),.nil,.run,rfl,.inl rfl,.none,fun _=>⟨_,Y⟩⟩ I.w I.off fun r' v' x x' w' A U B C J=>?_
 ·have:=cz.1 O i N;rw[P]at this;exact Oq (fun _ _ h=>h) this
 ·obtain⟨y,e,L⟩:=C;cases e;have z:=I.fin K A B J;exact X r' Z x x' v' w' A U z.1 z.2 L
theorem mO(j:Nat){c:Array ah}{fz:Nat×Nat}(H:kE PR (isAgg t)=some false)(h:v.heap[b]?=some (.cells c e fz))(K:c[j]?=some x):(bD t (qY b j)).run PR v=.ok x v:=by
 have Y:v.cell? ⟨b,j,none⟩=some x:=by simp[bg,h,K]
 have:=oe H v;simp[bD,qY,this,Y,go_sem]
end
section
variable{v:ae}{b:Nat}{x y z:ah}{e:cj}{fz:Nat×Nat}
theorem Bm(h:v.heap[b]?=some (.cells #[x,y,z] e fz)):(bD 75 (ptr b)).run PR v=.ok (.agg #[x,y,z]) v:=by
 have c0:v.cell? ⟨b,0,none⟩=some x:=by simp[bg,h]
 have c1:v.cell? ⟨b,1,none⟩=some y:=by simp[bg,h]
 have c2:v.cell? ⟨b,2,none⟩=some z:=by simp[bg,h]
 simp[ptr,go_sem,c0,c1,c2]
end
noncomputable def V6:Array Oper:=match bA.body with
 |some (.seq (.region _ o _) _)=>o
 |_=>#[]
noncomputable def Mw:Array Oper:=match bA.body with
 |some (.seq _ (.seq (.region _ o _) _))=>o
 |_=>#[]
theorem ajx:bA.body=some (.seq (.region 0 V6 false) (.seq (.region 1 Mw false) vX)):=by kernel_rfl
section
variable{Q:QT}{XN X rn P rm:ByteArray}{fl:Bool}{k q st n:Nat}{v:ae}
theorem QB(hX:X.size<=200)(hP:P.size<=30)(hk:k<=6)(U:k<P.size)(O:1<=q)(M:q<=8)(S:1<=st)(N:st<=200)(E:1<=n)(C:n<=8)(D:lb v)(V:iN v):
  iW Q 111 #[pB XN X,oQ rn P rm,.bool fl,jS k q st,iv n] v fun x v'=>v'.ownsRow v.heap.size 136 1 x (jx P X k).length (nb X P rn rm fl k)/\(jx P X k=[]->x=.slice none 0 0)/\∀a,a<v.heap.size->v'.heap[a]?=v.heap[a]?:=by
 have Y:∃F,PR.funcs[111]?=some F:=⟨_,db⟩;refine iW.of (n:=73) db ajx (by kernel_rfl) ?_;refine GW.run 2 (k':=[.inRegion V6 [0,1,2,3],.code (.seq (.region 1 Mw false) vX)]) ?_;refine GW.bx Y (t:=68) (y:=pB XN X) fun v1 Z l1 A=>?_;refine GW.bx Y (t:=131) (y:=oQ rn P rm) fun v2 R l2 c6=>?_;refine GW.bx Y (t:=75) (y:=jS k q st) fun v3 K G J=>?_;refine GW.im Y [3] ?_;refine GW.run 3 (k':=[.inRegion Mw [0,1,2,3,4,5,6,7],.code vX]) ?_;refine GW.im Y [0] ?_;refine GW.ld Y (mO 1 xS (K.at (R.at A)) rfl) ?_;refine GW.im Y [2] ?_;refine GW.ld Y (mO 1 xS (K.at c6) rfl) ?_;refine GW.ld Y (Bm J) ?_;refine GW.im Y [5] ?_;refine GW.call Y (afI hX hP hk O M S N E C) ?_;rintro x v4 ⟨rfl,o,rfl,L⟩;refine GW.im Y [7] ?_;refine GW.run 1 (k':=[.code vX]) ?_;have I:=Kw.alloc v3 o;have K3:Kw v v3:=(Z.trans R).trans K;have K4:=K3.trans I;have H:ni (qE X P k st (km X P k q st)) ((v3.alloc o).heap[v3.heap.size]?):=by rw[heap_alloc_new];exact L
 have hr:=fun T=>afG (rn:=rn) (rm:=rm) (XN:=XN) (fl:=fl) (n:=n) (b8:=v2.heap.size) hX hP hk U O S (I.at (K.at (R.at A))) (I.at (K.at c6)) H (by simp) (K4.rF D V) T;refine GW.to (F_ (pB XN X) (oQ rn P rm) (jS k q st) (iv n) fl v.heap.size v1.heap.size v2.heap.size v3.heap.size (uM X P k q st n v.heap.size v1.heap.size v3.heap.size)) ?_;exact GW.mono (fun x v' h=>⟨yK h.1 K4.size,h.2.1,fun a B=>(h.2.2 a (bj B K4.size)).trans (K4 a B)⟩) (GW.rest db ahy hr)
end
end Ph
section
open RowKit
noncomputable def mi:=match aJ.body with
 |some (.seq _ (.seq _ (.seq (.region _ ops _) _)))=>ops
 |_=>#[]
noncomputable def oX:=match aJ.body with
 |some (.seq _ (.seq _ (.seq _ c)))=>c
 |_=>.skip
def ye(a0 a1 a2 a3 v1 v2:ah)(b4 b5 b6:Nat)(u:Nat->ah):=#[a0,a1,a2,a3,pt b4,pt b5,pt b6,u 7,.slice none 0 0,v1,u 10,u 11,u 12,u 13,u 14,v1,u 16,u 17,u 18,u 19,u 20,v2,u 22,u 23,u 24,u 25,u 26,u 27,u 28,u 29,u 30]
def zt(rn rb rm:ByteArray):Value:=.iface 155 (sj rn rb rm)
theorem GN{P:bN}{K o1 o2 o3 o4 o5 o6 o7 Y:Oper}{Q:Exit->Act->ae->Prop}:cn P #[K,o1,o2,o3,o4,o5,o6,o7,Y] Q [7,8]=wpList P #[K,o1,o2,o3,o4,o5,o6,o7,Y] Q [o7,Y]:=by
 have:=wpOps_eq_wpList (P:=P) (ops:=#[K,o1,o2,o3,o4,o5,o6,o7,Y]) (Q:=Q) [o7,Y] 7 (fun j=>by
  match j with
  |0=>rfl
  |1=>rfl
  |j+2=>rw[cu (by simp;omega)];rfl)
 exact this
theorem abL(K Y:List ah)(rn rb rm:ByteArray)(a0 a1 a2 a3 v1:ah)(U c2 b4 b5 b6 B:Nat)(u:Nat->ah)(w:ae)(m:K.length<=1000)(h2:Y.length<=1000)(W:0<Y.length)(E:∀x∈Y,x.oneCell'=true)
  (r1:w.ownsRow B 136 1 v1 K.length K)(r2:w.ownsRow B 136 1 (.slice (some ⟨U,0,none⟩) Y.length c2) Y.length Y)(T:B<=w.heap.size):
  cn ai mi (fun e a' w'=>e=.normal/\oX.wp ai (aV ai aJ fun e w'=>∃v,e=.returned v/\w'.ownsRow B 136 1 v (K++Y).length (K++Y)/\∀a,a<B->w'.heap[a]?=w.heap[a]?) a' w') [7,8] ⟨ye a0 a1 a2 a3 v1 (.slice (some ⟨U,0,none⟩) Y.length c2) b4 b5 b6 u,[]⟩ w:=by
 obtain⟨i0,X,F,J,L⟩:=bm Rx;have V:=fun j u Z=>(r2.cells (g:=U) rfl) j u Z;obtain⟨Q,C⟩:∃Q,Q=(fun e a' w'=>e=cM/\oX.wp ai (aV ai aJ fun e w'=>∃v,e=.returned v/\w'.ownsRow B 136 1 v (K++Y).length (K++Y)/\∀a,a<B->w'.heap[a]?=w.heap[a]?) a' w'):=⟨_,rfl⟩;rw[<-C];have M:=laid C;clear C;unfold mi aJ ye;rw[GN];refine aX _ rfl _ _ 133 rfl B 136 i0 .nilIface 1 16 ep X F J L rfl (by decide) _ _ _ rfl r1 _ Y.length c2 Y rfl (by omega) V E (by unfold ax;omega) (by omega) T ?_;intro v' O H R _;obtain⟨A,cap,rfl⟩:∃A cap,v'=.slice _ _ cap:=by
  rcases H.2 with⟨_,h⟩|⟨A,cap,S,G,_⟩
  ·omega
  ·exact⟨A,cap,G⟩
 have P:Hid (O.ownsRow B 136 1 _ (K++Y).length (K++Y)/\∀a,a<B->O.heap[a]?=w.heap[a]?):=laid ⟨by rw[ar];exact H,fun a q=>R.block a (by omega) (fun e=>by have:=(r1.lt a e.symm).1;omega)⟩;go_wp2
 rw[M.out];obtain⟨N,D⟩:∃N,N=(aV ai aJ fun e w'=>∃v,e=.returned v/\w'.ownsRow B 136 1 v (K++Y).length (K++Y)/\∀a,a<B->w'.heap[a]?=w.heap[a]?):=⟨_,rfl⟩;rw[<-D];have I:=laid D;clear D M;unfold oX aJ;go_wp2
 rw[I.out];refine bP (cJ rfl _ _ _) rfl ?_;exact⟨_,rfl,P.out⟩
theorem ZY(Y:List ah)(rn rb rm:ByteArray)(a0 a1 a2 a3:ah)(g1 c1 b4 b5 b6 B:Nat)(u:Nat->ah)(w:ae)(N:Y.length<=1000)(M:0<Y.length)
  (r1:w.ownsRow B 136 1 (.slice (some ⟨g1,0,none⟩) Y.length c1) Y.length Y):
  cn ai mi (fun e a' w'=>e=.normal/\oX.wp ai (aV ai aJ fun e w'=>∃v,e=.returned v/\w'.ownsRow B 136 1 v Y.length Y/\∀a,a<B->w'.heap[a]?=w.heap[a]?) a' w') [7,8] ⟨ye a0 a1 a2 a3 (.slice (some ⟨g1,0,none⟩) Y.length c1) (.slice none 0 0) b4 b5 b6 u,[]⟩ w:=by
 obtain⟨Q,D⟩:∃Q,Q=(fun e a' w'=>e=cM/\oX.wp ai (aV ai aJ fun e w'=>∃v,e=.returned v/\w'.ownsRow B 136 1 v Y.length Y/\∀a,a<B->w'.heap[a]?=w.heap[a]?) a' w'):=⟨_,rfl⟩;rw[<-D];have R:=laid D;clear D;unfold mi aJ ye;dsimp only;simp only[pt];rw[GN];have A:Y.length<=c1:=by
  rcases r1.2 with⟨h,_⟩|⟨g,cap,C,h,_,_,F,_⟩
  ·cases h
  ·cases h;exact F
 have U:=laid r1;clear r1;go_wp2
 rw[R.out];refine⟨rfl,?_⟩;obtain⟨I,K⟩:∃I,I=(aV ai aJ fun e w'=>∃v,e=.returned v/\w'.ownsRow B 136 1 v Y.length Y/\∀a,a<B->w'.heap[a]?=w.heap[a]?):=⟨_,rfl⟩;rw[<-K];have H:=laid K;clear K R;unfold oX aJ;dsimp only;go_wp2
 rw[H.out];refine bP (cJ rfl _ _ _) rfl ?_;exact⟨_,rfl,U.out,fun _ _=>rfl⟩
theorem abM(rn rb rm:ByteArray)(a0 a1 a2 a3:ah)(b4 b5 b6 B:Nat)(u:Nat->ah)(w:ae)(U:B<=w.heap.size)(K:w.heap[b5]?=some (.cells #[.string rn,.string rb,.string rm] 131 (0,0))):
  cn ai mi (fun e a' w'=>e=.normal/\oX.wp ai (aV ai aJ fun e w'=>∃v,e=.returned v/\w'.ownsRow B 136 1 v 1 [zt rn rb rm]/\∀a,a<B->w'.heap[a]?=w.heap[a]?) a' w') [7,8] ⟨ye a0 a1 a2 a3 (.slice none 0 0) (.slice none 0 0) b4 b5 b6 u,[]⟩ w:=by
 obtain⟨Q,D⟩:∃Q,Q=(fun e a' w'=>e=cM/\oX.wp ai (aV ai aJ fun e w'=>∃v,e=.returned v/\w'.ownsRow B 136 1 v 1 [zt rn rb rm]/\∀a,a<B->w'.heap[a]?=w.heap[a]?) a' w'):=⟨_,rfl⟩;rw[<-D];have R:=laid D;clear D;have c0:w.cell? ⟨b5,0,none⟩=some (.string rn):=by rw[ao w _ 0 _ _ _ K];rfl
 have c1:w.cell? ⟨b5,1,none⟩=some (.string rb):=by rw[ao w _ 1 _ _ _ K];rfl
 have c2:w.cell? ⟨b5,2,none⟩=some (.string rm):=by rw[ao w _ 2 _ _ _ K];rfl
 clear K;unfold mi aJ ye;dsimp only;simp only[pt];rw[GN];go_wp2
 rw[R.out];refine⟨rfl,?_⟩;obtain⟨I,Y⟩:∃I,I=(aV ai aJ fun e w'=>∃v,e=.returned v/\w'.ownsRow B 136 1 v 1 [zt rn rb rm]/\∀a,a<B->w'.heap[a]?=w.heap[a]?):=⟨_,rfl⟩;rw[<-Y];have H:=laid Y;clear Y R;unfold oX aJ;dsimp only;go_wp2
 rw[H.out];refine bP (cJ rfl _ _ _) rfl ?_;refine⟨_,rfl,⟨rfl,.inr ⟨w.heap.size,1,_,rfl,U,heap_alloc_new w _,ak _,by unfold ax;omega,rfl,rfl⟩⟩,fun a A=>bk w _ (by omega)⟩
end
namespace Ph
open Conc Ren RowKit
noncomputable def Uc:Array Oper:=match aJ.body with
 |some (.seq (.region _ o _) _)=>o
 |_=>#[]
noncomputable def Kj:Array Oper:=match aJ.body with
 |some (.seq _ (.seq (.region _ o _) _))=>o
 |_=>#[]
theorem ajy:aJ.body=some (.seq (.region 0 Uc false) (.seq (.region 1 Kj false) (.seq (.region 2 mi true) oX))):=by kernel_rfl
theorem IQ:lV K0 PR false oX=true:=by decide+kernel
theorem aph:mi.size=9:=by kernel_rfl
theorem ajz:(ab.all fun K=>ab.all fun d1=>ab.all fun d2=>ab.all fun d3=>ab.all fun d4=>ab.all fun Y=>(aI .any mi #[K,d1,d2,d3,d4,Y,false,false,false]).all fun i=>(i==0&&!K)||(i==1&&!d1)||(i==2&&!d2)||(i==3&&(!d3&&d2))||(i==4&&!d4)||(i==5&&!Y)||(i==6&&(d1&&(d3&&(d4&&Y)))))=true:=by decide+kernel
theorem Gd(K d1 d2 d3 d4 Y:Bool)(i:Nat)(H:i∈aI .any mi #[K,d1,d2,d3,d4,Y,false,false,false]):(i=0/\K=false)\/(i=1/\d1=false)\/(i=2/\d2=false)\/(i=3/\d3=false/\d2=true)\/(i=4/\d4=false)\/(i=5/\Y=false)\/(i=6/\d1=true/\d3=true/\d4=true/\Y=true):=by
 have h:=cz.1 (ly (ly (ly (ly (ly (ly ajz K) d1) d2) d3) d4) Y) i H;simpa[or_assoc]using h
theorem ajA:(ab.all fun Y=>ab.all fun d1=>ab.all fun d2=>ab.all fun d3=>ab.all fun d4=>ab.all fun K=>(d3&&!d2)||!(aI .any mi #[Y,d1,d2,d3,d4,K,false,false,false]).isEmpty)=true:=by decide+kernel
theorem ahC(Y d1 d2 d3 d4 K:Bool)(H:d3=true->d2=true):aI .any mi #[Y,d1,d2,d3,d4,K,false,false,false]≠ []:=by
 have h:=ly (ly (ly (ly (ly (ly ajA Y) d1) d2) d3) d4) K;intro e;rw[e]at h;simp at h;rw[H h.1]at h;simp at h
theorem ajB:aI .any mi #[false,true,true,true,true,true,true,false,false]=[0]:=by decide+kernel
theorem ajC:aI .any mi #[true,true,true,true,true,true,true,false,false]=[7]:=by decide+kernel
theorem ajD:aI .any mi #[true,true,true,true,true,true,true,true,false]=[8]:=by decide+kernel
theorem Sy(t:Nat):aT .any mi 2 t #[true,true,true,true,true,true,true,false,false] []=[7,8]:=by
 rw[D4 ajC];show 7::aT _ _ 1 _ #[true,true,true,true,true,true,true,true,false] []=_
 rw[D4 ajD];rfl
theorem ahD(t:Nat):aT .any mi 3 t #[false,true,true,true,true,true,true,false,false] []=[0,7,8]:=by
 rw[D4 ajB];show 0::aT _ _ 2 _ #[true,true,true,true,true,true,true,false,false] []=_
 rw[Sy]
abbrev V7(rn P rm:ByteArray):Value:=oQ rn (iP P 0) (str (ky rm))
def pk(b:Bool)(x:ah):Value:=if b then x else aH
def qS(X P rn rm:ByteArray)(k:Nat):List Value:=if jx P X k=[]/\jx (iP P 0) X k=[]then [zt rn P rm]else nb X P rn rm false k++nb X (iP P 0) rn (str (ky rm)) true k
theorem uE{P:ByteArray}{k:Nat}:(nb X P rn rm fl k).length=(jx P X k).length:=by unfold nb;simp
theorem ZZ{P:ByteArray}{k:Nat}:∀u∈nb X P rn rm fl k,u.oneCell'=true:=by
 intro u Y;obtain⟨e,_,rfl⟩:=bu.1 Y;rfl
def Af(XN X rn P rm:ByteArray)(k q st n b4 b5 b6:Nat)(y z:ah)(Y d1 d2 d3 d4 K:Bool):Array Value:=
 #[pB XN X,oQ rn P rm,jS k q st,iv n,ptr b4,ptr b5,ptr b6,aH,.slice none 0 0,y,pB XN X,oQ rn P rm,jS k q st,iv n,y,pk Y y,pk d1 (pB XN X),pk d2 (oQ rn P rm),pk d3 (V7 rn P rm),pk d4 (jS k q st),pk K (iv n),z,aH,aH,aH,aH,aH,aH,aH,aH,aH]
theorem Es{v:ae}{fz:Nat×Nat}(h:v.heap[b]?=some (.cells #[x,y] e fz)):(bD 68 (ptr b)).run PR v=.ok (.agg #[x,y]) v:=by
 have c0:v.cell? ⟨b,0,none⟩=some x:=by simp[bg,h]
 have c1:v.cell? ⟨b,1,none⟩=some y:=by simp[bg,h]
 simp[ptr,go_sem,c0,c1]
theorem Jn{v:ae}{fz:Nat×Nat}(h:v.heap[b]?=some (.cells #[x,y,z] e fz)):(bD 131 (ptr b)).run PR v=.ok (.agg #[x,y,z]) v:=by
 have c0:v.cell? ⟨b,0,none⟩=some x:=by simp[bg,h]
 have c1:v.cell? ⟨b,1,none⟩=some y:=by simp[bg,h]
 have c2:v.cell? ⟨b,2,none⟩=some z:=by simp[bg,h]
 simp[ptr,go_sem,c0,c1,c2]
theorem Bb{v:ae}{B:Nat}{z:Nat}(h:v.ownsRow B e z x n xs)(k:Kw v v'):v'.ownsRow B e z x n xs:=by
 refine⟨h.1,?_⟩;rcases h.2 with h'|⟨K,cap,Y,rfl,H,D,R⟩
 ·simp_all
 ·exact .inr ⟨K,cap,Y,rfl,H,k.at D,R⟩
theorem IU:([7,8].all fun i=>match mi[i]? with|some o=>Bg K0 PR false o|none=>true)=true:=by decide+kernel
section
variable{Q:QT}{XN X rn P rm:ByteArray}{k q st n:Nat}{v:ae}
theorem YB{b4:Nat}{R:ah->ae->Prop}(hX:X.size<=200)(N:b4<=v.heap.size)(O:v.heap[b5]?=some (.cells #[.string rn,.string P,.string rm] 131))(D:v.ownsRow b4 136 1 y (jx P X k).length (nb X P rn rm false k))(C:jx P X k=[]->y=.slice none 0 0)(F:v.ownsRow b4 136 1 z (jx (iP P 0) X k).length (nb X (iP P 0) rn (str (ky rm)) true k))(M:jx (iP P 0) X k=[]->z=.slice none 0 0)
  (K:∀x v',v'.ownsRow b4 136 1 x (qS X P rn rm k).length (qS X P rn rm k)->(∀a,a<b4->v'.heap[a]?=v.heap[a]?)->R x v'):GW false Q R 92 [.inRegion mi [7,8],.code oX] (Af XN X rn P rm k q st n b4 b5 b6 y z true true true true true true) v:=by
 refine GW.to (ye (pB XN X) (oQ rn P rm) (jS k q st) (iv n) y z b4 b5 b6 fun i=>(Af XN X rn P rm k q st n b4 b5 b6 y z true true true true true true).getD i aH) ?_;generalize(fun i=>(Af XN X rn P rm k q st n b4 b5 b6 y z _ _ _ _ _ _).getD i _)=B;have L:=AK P X k;have S:=AK (iP P 0) X k;by_cases H:jx (iP P 0) X k=[]
 ·obtain rfl:=M H;by_cases I:jx P X k=[]
  ·obtain rfl:=C I;have Y:qS X P rn rm k=[zt rn P rm]:=by unfold qS;rw[if_pos ⟨I,H⟩]
   rw[Y]at K;exact GW.mono (R1:=fun x v'=>v'.ownsRow b4 136 1 x 1 _/\∀a,a<b4->v'.heap[a]?=v.heap[a]?) (fun x v' h=>K x v' h.1 h.2) (GW.Jm cf IQ IU fun T=>abM rn P rm _ _ _ _ b4 b5 b6 b4 B _ N O)
  ·have Y:qS X P rn rm k=nb X P rn rm false k:=by
    unfold qS;rw[if_neg (fun h=>I h.1)];simp[nb,H]
   rw[Y]at K;rw[<-uE (rn:=rn) (rm:=rm) (fl:=false)]at D;have A:0<(nb X P rn rm false k).length:=by rw[uE];exact dQ.2 I
   have U:(nb X P rn rm false k).length<=1000:=by rw[uE];omega
   obtain⟨g,cap,rfl⟩:∃g cap,y=.slice _ _ cap:=by
    rcases D.2 with⟨_,h⟩|⟨g,cap,_,h,_⟩
    ·omega
    ·exact⟨g,cap,h⟩
   exact GW.mono (R1:=fun x v'=>v'.ownsRow b4 136 1 x _ _/\∀a,a<b4->v'.heap[a]?=v.heap[a]?) (fun x v' h=>K x v' h.1 h.2) (GW.Jm cf IQ IU fun T=>ZY _ rn P rm _ _ _ _ g cap b4 b5 b6 b4 B _ U A D)
 ·have Y:qS X P rn rm k=nb X P rn rm false k++nb X (iP P 0) rn (str (ky rm)) true k:=by unfold qS;rw[if_neg (fun h=>H h.2)]
  rw[Y]at K;rw[<-uE (rn:=rn) (rm:=rm) (fl:=false)]at D;rw[<-uE (rn:=rn) (rm:=str (ky rm)) (fl:=true)]at F;have A:0<(nb X (iP P 0) rn (str (ky rm)) true k).length:=by rw[uE];exact dQ.2 H
  have U:(nb X P rn rm false k).length<=1000:=by rw[uE];omega
  have J:(nb X (iP P 0) rn (str (ky rm)) true k).length<=1000:=by rw[uE];omega
  obtain⟨g,cap,rfl⟩:∃g cap,z=.slice _ _ cap:=by
   rcases F.2 with⟨_,h⟩|⟨g,cap,_,h,_⟩
   ·omega
   ·exact⟨g,cap,h⟩
  exact GW.mono (R1:=fun x v'=>v'.ownsRow b4 136 1 x _ _/\∀a,a<b4->v'.heap[a]?=v.heap[a]?) (fun x v' h=>K x v' h.1 h.2) (GW.Jm cf IQ IU fun T=>abL _ _ rn P rm _ _ _ _ y g cap b4 b5 b6 b4 B _ U J A ZZ D F N)
theorem abN(hX:X.size<=200)(hP:P.size<=30)(hm:rm.size<=1000)(hk:k<=6)(W:k<P.size)(N:k<(iP P 0).size)(hq:1<=q)(S:q<=8)(hs:1<=st)(V:st<=200)(m:1<=n)(O:n<=8)(U:lb v)(g:iN v):
  iW Q 92 #[pB XN X,oQ rn P rm,jS k q st,iv n] v fun x v'=>v'.ownsRow v.heap.size 136 1 x (qS X P rn rm k).length (qS X P rn rm k)/\Kw v v':=by
 have Y:∃F,PR.funcs[92]?=some F:=⟨_,cf⟩;refine iW.of (n:=31) cf ajy (by simp) ?_;refine GW.run 2 (k':=[.inRegion Uc [0,1,2,3],.code (.seq (.region 1 Kj false) (.seq (.region 2 mi true) oX))]) ?_;refine GW.bx Y (t:=68) (y:=pB XN X) fun v1 k1 l1 c4=>?_;refine GW.bx Y (t:=131) (y:=oQ rn P rm) fun v2 l l2 B=>?_;refine GW.bx Y (t:=75) (y:=jS k q st) fun v3 f l3 c6=>?_;refine GW.im Y [3] ?_;refine GW.run 3 (k':=[.inRegion Kj [0,1,2,3,4,5],.code (.seq (.region 2 mi true) oX)]) ?_;have K3:=(k1.trans l).trans f;have c4:=f.at (l.at c4);have B:=f.at B;refine GW.ld Y (Es c4) ?_;refine GW.ld Y (Jn B) ?_;refine GW.ld Y (Bm c6) ?_;refine GW.im Y [3] ?_;refine GW.call Y (QB (XN:=XN) (rn:=rn) (rm:=rm) (fl:=false) hX hP hk W hq S hs V m O (K3.ns U) (K3.rF U g)) ?_;rintro y v4 ⟨Z,c,L⟩;have L:Kw v3 v4:=L;refine GW.im Y [5] ?_;refine GW.run 2 (k':=[.code (.region 2 mi true),.code oX]) ?_;refine GW.to (Af XN X rn P rm k q st n v.heap.size v1.heap.size v2.heap.size y aH false false false false false false) ?_;have c4:=L.at c4;have B:=L.at B;have c6:=L.at c6;have K4:=K3.trans L;have Z:=yK Z K3.size;have J:=K4.size;generalize s:v.heap.size=b4 at Z J c4⊢;generalize v1.heap.size=b5 at B⊢;generalize v2.heap.size=b6 at c6⊢;refine GW.draw fun t=>?_;refine GW.Ti (fun D=>Af XN X rn P rm k q st n b4 b5 b6 y _ (D.getD 0 false) (D.getD 1 false) (D.getD 2 false) (D.getD 3 false) (D.getD 4 false) (D.getD 5 false)) (fun fuel D u=>∃I d1 d2 d3 d4 A:Bool,D=#[I,d1,d2,d3,d4,A,false,false,false]/\(d3=true->d2=true)/\fuel+(I.toNat+d1.toNat+d2.toNat+d3.toNat+d4.toNat+A.toNat)=9/\Kw v4 u) ?_ ?_ 9 t _ v4 ⟨false,false,false,false,false,false,rfl,(by simp),rfl,.refl _⟩
 ·rintro D i fuel t u ⟨I,d1,d2,d3,d4,A,rfl,H,C,K⟩ b M;rcases Gd I d1 d2 d3 d4 A i b with⟨rfl,rfl⟩|⟨rfl,rfl⟩|⟨rfl,rfl⟩|⟨rfl,rfl,rfl⟩|⟨rfl,rfl⟩|⟨rfl,rfl⟩|⟨rfl,rfl,rfl,rfl,rfl⟩
  ·exact GW.im Y [0] (GW.to _ (M u ⟨true,d1,d2,d3,d4,A,rfl,H,by simp at C⊢;omega,K⟩))
  ·exact GW.ld Y (Es (K.at c4)) (GW.to _ (M u ⟨I,true,d2,d3,d4,A,rfl,H,by simp at C⊢;omega,K⟩))
  ·exact GW.ld Y (Jn (K.at B)) (GW.to _ (M u ⟨I,d1,true,d3,d4,A,rfl,fun _=>rfl,by simp at C⊢;omega,K⟩))
  ·refine GW.call Y (iW.iz (R:=fun x v'=>x=V7 rn P rm/\Kw u v') (by decide) fun T=>(ZC rn P rm _ (by omega) hm).mono fun e w' h=>⟨_,h.1,rfl,fun a G=>h.2.block a G⟩) ?_;rintro x u' ⟨rfl,o⟩;exact GW.to _ (M u' ⟨I,d1,true,true,d4,A,rfl,fun _=>rfl,by simp at C⊢;omega,K.trans o⟩)
  ·exact GW.ld Y (Bm (K.at c6)) (GW.to _ (M u ⟨I,d1,d2,d3,true,A,rfl,H,by simp at C⊢;omega,K⟩))
  ·exact GW.im Y [5] (GW.to _ (M u ⟨I,d1,d2,d3,d4,true,rfl,H,by simp at C⊢;omega,K⟩))
  ·obtain rfl:=H rfl;refine GW.call Y (QB (XN:=XN) (rn:=rn) (rm:=str (ky rm)) (fl:=true) hX (by have:=Cy P 0;omega) hk N hq S hs V m O ((K4.trans K).ns U) ((K4.trans K).rF U g)) ?_;rintro z u2 ⟨w,d,E⟩;have fin:GW _ Q (fun x v'=>v'.ownsRow b4 136 1 x _ _/\Kw v v') 92 _ (Af XN X rn P rm k q st n b4 b5 b6 y z true _ _ _ _ _) u2:=
    YB hX (aL J (K.trans E).size) ((K.trans E).at B) (Bb Z (K.trans E)) c (yK w (aL J K.size)) d fun x v' p r=>⟨p,fun a G=>(r a (by omega)).trans (((K4.trans K).trans E) a G)⟩
   cases I with
   |true=>
    obtain rfl:fuel=2:=by simp_all
    rw[show(#[true,true,true,true,true,true,false,false,false]).setIfInBounds 6 _=#[true,true,true,true,true,true,true,false,false]from rfl,Sy];exact GW.to _ fin
   |false=>
    obtain rfl:fuel=3:=by simp at C;omega
    rw[show(#[false,true,true,true,true,true,false,false,false]).setIfInBounds 6 true=#[false,true,true,true,true,true,true,false,false]from rfl,ahD];exact GW.im Y [0] (GW.to _ fin)
 ·rintro fuel D u ⟨I,d1,d2,d3,d4,A,rfl,H,C,K⟩ j;exfalso;rcases j with rfl|j
  ·have:=bK I;have:=bK d1;have:=bK d2;have:=bK d3;have:=bK d4;have:=bK A;omega
  ·exact ahC I d1 d2 d3 d4 A H j
end
end Ph
end
end Go.Proofs.YtdcjnhipenbcfaaGreatDoor
