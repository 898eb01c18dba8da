/-
  Own text. Part 9 of what the claim rests on.
-/
import Derived.Test.YtdcjnhipenbcfaaGreatDoorPk8
import Derived.Maps.Range
import Derived.Conc.CompanyDraw
set_option linter.unusedVariables false
set_option linter.unusedSectionVars false
set_option linter.unusedSimpArgs false
set_option maxRecDepth 100000
set_option maxHeartbeats 16000000
open Array renaming getElem?_eq_getElem->ax,getElem?_toList->aM,replicate->aN,getElem?_eq_some_iff->aY,all_eq_true->bC,getElem?_eq_none->bD
open Bool renaming toNat_le->ar,not_eq_true->bE
open ByteArray renaming size_extract->aZ
open Classical renaming byContradiction->bF
open Go.Exit renaming normal->bj
open Go.Frame renaming eval_at'->aP,eval_at->bk
open Go.Instr renaming loadAt->az,indexAt->a_,lookup->bG
open Go.IntKind renaming i64->bc
open Go.IntWalk renaming i64_in->bH
open Go.Proofs.Tryz renaming f92->ae,f111->aB,func60->aK,func92->aW,underlying79->aX,func111->bA,underlying133->bV
open Go.Proofs.YtdcjnhipenbcfaaGreatDoor.Ph.gu renaming gC->ah,alloc->aD,xN->aL
open Go.Proofs.YtdcjnhipenbcfaaGreatDoor.Ren.gu renaming tree->aI
open Go.Region renaming schedule->bu,wanted->bU
open Go.RowKit.Below renaming refl->aO
open Go.World renaming cell?->ao,frozen?->bB,ownsRow_nil->bW
open List renaming length_append->ai,getElem?_eq_getElem->ak,getD_eq_getElem?_getD->au,map_append->aA,mem_append->aH,getElem?_map->aJ,all_eq_true->aQ,length_pos_iff->aT,mem_map->aU,append_assoc->bg,getElem?_take_of_lt->bh,append_nil->bm,getElem?_take->bp,getElem_mem->bq,map_map->br,getElem?_eq_none->bI,mem_flatMap->bJ,mem_of_getElem?->bK,mem_singleton->bL,nil_append->bM,pairwise_map->bN,reverse_singleton->bO,singleton_append->bP,take_length->bQ
open Nat renaming le_refl->af,le_trans->aj,lt_of_lt_of_le->ay,zero_add->aV,zero_le->bt,add_assoc->bR
open Option renaming isNone_iff_eq_none->bS
open Prod.mk renaming injEq->bT
namespace Go.Proofs.YtdcjnhipenbcfaaGreatDoor
noncomputable section
variable {listed:Array Bool}{a':Array Value}{fl:Bool}{X XN p rm rn:ByteArray}{f1:Frame}{cs l:List Frame}{gE:List Nat}{I:List UInt8}{xs:List Value}{Z Z' Z1:Loc->Prop}{By Fd Fp Mp Rf Sg b' b4 b5 b6 cap j n q:Nat}{X':Nat->Prop}{PP:Program}{e t t':TypeId}{x x' y z:Value}{v v' v0 v1 w w' w0:World}
section
open RowKit
theorem qP.below{B:Nat}{t:ByteArray}{v:Value}{g:Nat->Nat}(h:qP w B p t v n g)(Y:Below w.heap.size w w'):qP w' B p t v n g:=by
 refine⟨uR h.own Y,fun x H=>?_,h.base⟩;have hr:=h.rows x H;have K:=hr.lt;unfold uX at *;rw[Y.block _ K];exact hr
theorem ahG:(Tryz.prog.info? 5).map (fun i=>(i.zero,i.size,i.bytes))=some (some (.int .u8 0),1,1):=by kernel_rfl
theorem YV{t:ByteArray}{i:Nat}{L:List _}(H:¬(i=0/\j=0))(h:iO p t (i+j) i j++L.reverse=iA p t):
  (letter p t i j=77/\0<i/\0<j/\iO p t (i-1+(j-1)) (i-1) (j-1)++(L++[77]).reverse=iA p t)\/
  (letter p t i j=73/\0<i/\iO p t (i-1+j) (i-1) j++(L++[73]).reverse=iA p t)\/
  (letter p t i j=68/\0<j/\iO p t (i+(j-1)) i (j-1)++(L++[68]).reverse=iA p t):=by
 simp;unfold letter;by_cases Y:pJ p t i j=true
 ·have:=Di Y;exact .inl ⟨if_pos Y,this.1,this.2.1,agL Y h⟩
 ·rw[bE]at Y;by_cases K:oD p t i j=true
  ·exact .inr (.inl ⟨by simp_all,(Dj K).1,agM Y K h⟩)
  ·rw[bE]at K;exact .inr (.inr ⟨by simp_all,CX K H,agN H Y K h⟩)
theorem abV{C:Array _}{L:List _}{g:Nat}(H:L.length<=cap)(F:C.size=cap *1)(U:C.toList.take (L.length *1)=L.map bv)(A:w.heap[g]?=some (.cells (pT C L.length L.length) 5 (0,0))):
  ∀j D,w.cell? ((⟨g,0,none⟩:Addr).add j)=some (.int .u8 (L.reverse[j].toNat)):=by
 intro j D;have Y:=by simpa using D
 rw[yE,cell_of_row w g j _ _ _ A,tQ C _ _ j (by omega),if_pos ⟨Y,.inl Y⟩];have B:L.length-1-j<C.size:=by omega
 have K:C.toList[L.length-1-j]?=(L.map bv)[L.length-1-j]?:=by
  rw[<-U,bp,if_pos (by omega)]
 rw[aJ,ak (by omega:L.length-1-j<L.length),ak (by omega)]at K;have R:=Option.some.inj K;rw[Array.getD,dif_pos B];have I:=by simpa using R
 show some (C[L.length-1-j])=_
 rw[I,List.getElem_reverse];rfl
theorem abW(p t:ByteArray)(w:World)(hp:p.size<=100)(hp1:1<=p.size)(ht:t.size<=300):
  Calls Tryz.prog 126 #[.string p,.string t] w fun e w'=>e=.returned (.string (str (iA p t)))/\Below w.heap.size w w':=by
 obtain⟨i0,hi,W,q,z⟩:=info_parts ahG
 go_enter Tryz.func126,Tryz.ntmps126
 go_wp2_with fail
 refine(XH p t _ hp ht).mono ?_;rintro e w1 ⟨v,g,rfl,T,E⟩;have f:=laid T;clear T;go_wp2
 go_loopw [6,7,8] (fun sv iv jv wr=>∃(i j:Nat) (L:List UInt8),iv=.int .i64 (i:Int)/\jv=.int .i64 (j:Int)/\i<=p.size/\j<=t.size/\L.length+i+j<=p.size+t.size/\p.size<=i+L.length/\Hid (iO p t (i+j) i j++L.reverse=iA p t)/\wr.ownsRow w1.heap.size 5 1 sv L.length (L.map bv)/\Below w1.heap.size w1 wr) (fun _ iv jv _=>(intOf iv).toNat+(intOf jv).toNat)
 case atStart=>exact⟨p.size,t.size,[],rfl,rfl,af _,af _,by simp,by simp,laid (by simp[iA]),bW _ _ _ _,aO _ _⟩
 case round=>
  obtain⟨i,j,L,rfl,rfl,V0,hjt,hlen,F7,HL,I,R⟩:=hrel;by_cases l:i=0/\j=0
  ·obtain⟨rfl,rfl⟩:=l;have HF:Hid (L.reverse=iA p t):=laid (by rw[<-HL.out];rfl);rcases I.2 with⟨_,h1⟩|⟨G,cap,M,rfl,V1,n,b,hG4,a,o⟩
   ·omega
   ·have HC:=laid (⟨b,a,o⟩:L.length<=cap/\M.size=cap *1/\M.toList.take (L.length *1)=L.map bv);have m:=laid (Oa M G L.length cap (0,0) wr (by omega) (by omega) (fun k hk=>by simp) (fun x hx=>by
     refine⟨((L.getD x 0).toNat:Int),?_⟩;have BS:x<M.size:=by omega
     have e1:M.toList[x]?=(L.map bv)[x]?:=by rw[<-o,bp,if_pos (by omega)]
     rw[aJ,ak hx,ak (by simpa using BS)]at e1;have e2:=Option.some.inj e1;rw[Array.getD,dif_pos BS];show M[x]=_
     have e3:M[x]=bv (L[x]):=by simpa using e2
     rw[e3,au,ak hx];rfl) n)
    have HB:=laid (E.trans (R.mono E.size));have HW:=laid E.size;clear HL f I n b a o E;go_wp2_with fail
    refine m.out.mono ?_;rintro e w2 ⟨⟨v2,rfl⟩,h2,V2⟩;have r:(convert 79 9 (.slice (some ⟨G,0,none⟩) L.length cap)).run Tryz.prog w2=.ok (.string (str L.reverse)) w2:=by
     have:=run_convert_bytes_back (P:=Tryz.prog) w2 79 9 5 ⟨G,0,none⟩ cap L.reverse aX Tryz.underlying5 Tryz.underlying9 (abV HC.out.1 HC.out.2.1 HC.out.2.2 h2);rw[List.length_reverse]at this;exact this
    rw[HF.out]at r;have HB2:Hid (Below w.heap.size w w2):=laid (HB.out.grown V2 HB.out.size (fun k e=>by cases e;have:=HW.out;omega));clear m V2 h2 HC HF HB;go_wp2
    go_ret
    exact⟨rfl,HB2.out⟩
  ·have T:=f.out.below R;have Q:=laid (X_ p t w.heap.size v g i j wr hp ht V0 hjt T);have hxi:bc.wrap ((i:Int)-1)=(i:Int)-1:=bH _ (by omega);have hxj:bc.wrap ((j:Int)-1)=(j:Int)-1:=bH _ (by omega);have key:=YV l HL.out;have akR:(letter p t i j=77/\0<i/\0<j/\Hid (iO p t (i-1+(j-1)) (i-1) (j-1)++(L++[77]).reverse=iA p t))\/(letter p t i j=73/\0<i/\Hid (iO p t (i-1+j) (i-1) j++(L++[73]).reverse=iA p t))\/(letter p t i j=68/\0<i/\0<j/\Hid (iO p t (i+(j-1)) i (j-1)++(L++[68]).reverse=iA p t))\/(letter p t i j=68/\i=0/\0<j/\Hid (iO p t (i+(j-1)) i (j-1)++(L++[68]).reverse=iA p t)):=by
    rcases key with h|h|h
    ·exact .inl h
    ·exact .inr (.inl h)
    ·by_cases hi9:0<i
     ·exact .inr (.inr (.inl ⟨h.1,hi9,h.2.1,h.2.2⟩))
     ·exact .inr (.inr (.inr ⟨h.1,by omega,h.2.1,h.2.2⟩))
   clear HL key f T l;rcases akR with⟨S,N,Ge,c⟩|⟨S,N,c⟩|⟨S,N,Ge,c⟩|⟨S,N,Ge,c⟩
   ·have q1:(0:Int)<(i:Int):=by omega
    have J:Hid (Calls Tryz.prog 147 #[v,.string p,.string t,.int .i64 (i:Int),.int .i64 (j:Int)] wr fun e w'=>e=.returned (.int .u8 77)/\∃d,w'=wr.drewN d):=laid (by have:=Q.out;rw[S]at this;exact this);have y:decide ((0:Int)<(i:Int))=decide ((0:Int)<(i:Int)):=rfl;have F:=laid N;clear Q S y N;go_wp2_with fail
    refine J.out.mono ?_;rintro e w2 ⟨rfl,B⟩;have H:w2.ownsRow w1.heap.size 5 1 u6 L.length (L.map bv):=by obtain⟨d,rfl⟩:=B;exact I
    have Y:Below w1.heap.size w1 w2:=by obtain⟨d,rfl⟩:=B;exact Go.below_drewN R d
    clear J I B R;go_wp2_with(first
     |(at_builtin;refine wpList_append_own _ rfl _ _ 79 rfl w1.heap.size 5 i0 (.int .u8 0) 1 1 aX hi W q z rfl (by decide) _ _ _ rfl (H.alloc _) ⟨w2.heap.size,0,none⟩ 1 1 [.int .u8 77] rfl rfl ?c1 ?c2 ?c3 ?c4 ?c5 ?_)
     |go_in)
    case c1=>
     intro j u C
     match j,C with
     |0,C=>simp at C;subst C;simp[Addr.add]
    case c2=>intro u V;simp at V;subst V;rfl
    case c3=>unfold maxLen;omega
    case c4=>omega
    case c5=>have:=Y.size;simp;omega
    intro v' Z K D _;have A:Below w1.heap.size w1 Z:=(Y.alloc Y.size _).grown D (by have:=Y.size;simp;omega) (fun j C=>(H.lt j C).1);have U:Z.ownsRow w1.heap.size 5 1 v' (L++[77]).length ((L++[77]).map bv):=by
     rw[ai,aA];exact K
    obtain⟨O,cap,X,rfl⟩:∃O cap X,v'=.slice (some ⟨O,0,none⟩) X cap:=by
     rcases K.2 with⟨_,l⟩|⟨O,cap,M,s,_⟩
     ·omega
     ·exact⟨O,cap,_,s⟩
    clear K D H Y;go_wp2
    go_roundw
    case rel=>go_light;have:=F.out;exact⟨i-1,j-1,L++[77],iY (by omega),iY (by omega),by omega,by omega,by rw[ai];simp;omega,by rw[ai];simp;omega,c,U,A⟩
    case measure=>go_light;have:=F.out;simp[intOf];omega
   ·have q1:(0:Int)<(i:Int):=by omega
    have J:Hid (Calls Tryz.prog 147 #[v,.string p,.string t,.int .i64 (i:Int),.int .i64 (j:Int)] wr fun e w'=>e=.returned (.int .u8 73)/\∃d,w'=wr.drewN d):=laid (by have:=Q.out;rw[S]at this;exact this);have y:decide ((0:Int)<(i:Int))=decide ((0:Int)<(i:Int)):=rfl;have F:=laid N;clear Q S y N;go_wp2_with fail
    refine J.out.mono ?_;rintro e w2 ⟨rfl,B⟩;have H:w2.ownsRow w1.heap.size 5 1 u6 L.length (L.map bv):=by obtain⟨d,rfl⟩:=B;exact I
    have Y:Below w1.heap.size w1 w2:=by obtain⟨d,rfl⟩:=B;exact Go.below_drewN R d
    clear J I B R;go_wp2_with(first
     |(at_builtin;refine wpList_append_own _ rfl _ _ 79 rfl w1.heap.size 5 i0 (.int .u8 0) 1 1 aX hi W q z rfl (by decide) _ _ _ rfl (H.alloc _) ⟨w2.heap.size,0,none⟩ 1 1 [.int .u8 73] rfl rfl ?c1 ?c2 ?c3 ?c4 ?c5 ?_)
     |go_in)
    case c1=>
     intro j u C
     match j,C with
     |0,C=>simp at C;subst C;simp[Addr.add]
    case c2=>intro u V;simp at V;subst V;rfl
    case c3=>unfold maxLen;omega
    case c4=>omega
    case c5=>have:=Y.size;simp;omega
    intro v' Z K D _;have A:Below w1.heap.size w1 Z:=(Y.alloc Y.size _).grown D (by have:=Y.size;simp;omega) (fun j C=>(H.lt j C).1);have U:Z.ownsRow w1.heap.size 5 1 v' (L++[73]).length ((L++[73]).map bv):=by
     rw[ai,aA];exact K
    obtain⟨O,cap,X,rfl⟩:∃O cap X,v'=.slice (some ⟨O,0,none⟩) X cap:=by
     rcases K.2 with⟨_,l⟩|⟨O,cap,M,s,_⟩
     ·omega
     ·exact⟨O,cap,_,s⟩
    clear K D H Y;go_wp2
    go_roundw
    case rel=>go_light;have:=F.out;exact⟨i-1,j,L++[73],iY (by omega),iY (by omega),by omega,by omega,by rw[ai];simp;omega,by rw[ai];simp;omega,c,U,A⟩
    case measure=>go_light;have:=F.out;simp[intOf];omega
   ·have q1:(0:Int)<(i:Int):=by omega
    have J:Hid (Calls Tryz.prog 147 #[v,.string p,.string t,.int .i64 (i:Int),.int .i64 (j:Int)] wr fun e w'=>e=.returned (.int .u8 68)/\∃d,w'=wr.drewN d):=laid (by have:=Q.out;rw[S]at this;exact this);have y:decide ((0:Int)<(i:Int))=decide ((0:Int)<(i:Int)):=rfl;have F:=laid N;clear Q S y N;go_wp2_with fail
    refine J.out.mono ?_;rintro e w2 ⟨rfl,B⟩;have H:w2.ownsRow w1.heap.size 5 1 u6 L.length (L.map bv):=by obtain⟨d,rfl⟩:=B;exact I
    have Y:Below w1.heap.size w1 w2:=by obtain⟨d,rfl⟩:=B;exact Go.below_drewN R d
    clear J I B R;go_wp2_with(first
     |(at_builtin;refine wpList_append_own _ rfl _ _ 79 rfl w1.heap.size 5 i0 (.int .u8 0) 1 1 aX hi W q z rfl (by decide) _ _ _ rfl (H.alloc _) ⟨w2.heap.size,0,none⟩ 1 1 [.int .u8 68] rfl rfl ?c1 ?c2 ?c3 ?c4 ?c5 ?_)
     |go_in)
    case c1=>
     intro j u C
     match j,C with
     |0,C=>simp at C;subst C;simp[Addr.add]
    case c2=>intro u V;simp at V;subst V;rfl
    case c3=>unfold maxLen;omega
    case c4=>omega
    case c5=>have:=Y.size;simp;omega
    intro v' Z K D _;have A:Below w1.heap.size w1 Z:=(Y.alloc Y.size _).grown D (by have:=Y.size;simp;omega) (fun j C=>(H.lt j C).1);have U:Z.ownsRow w1.heap.size 5 1 v' (L++[68]).length ((L++[68]).map bv):=by
     rw[ai,aA];exact K
    obtain⟨O,cap,X,rfl⟩:∃O cap X,v'=.slice (some ⟨O,0,none⟩) X cap:=by
     rcases K.2 with⟨_,l⟩|⟨O,cap,M,s,_⟩
     ·omega
     ·exact⟨O,cap,_,s⟩
    clear K D H Y;go_wp2
    go_roundw
    case rel=>go_light;have:=F.out;exact⟨i,j-1,L++[68],iY (by omega),iY (by omega),by omega,by omega,by rw[ai];simp;omega,by rw[ai];simp;omega,c,U,A⟩
    case measure=>go_light;have:=F.out;simp[intOf];omega
   ·obtain⟨q3,q1,q4⟩:(0:Int)<(j:Int)/\¬(0:Int)<(i:Int)/\¬0<i:=⟨by omega,by omega,by omega⟩;have J:Hid (Calls Tryz.prog 147 #[v,.string p,.string t,.int .i64 (i:Int),.int .i64 (j:Int)] wr fun e w'=>e=.returned (.int .u8 68)/\∃d,w'=wr.drewN d):=laid (by have:=Q.out;rw[S]at this;exact this);have y:decide ((0:Int)<(i:Int))=decide ((0:Int)<(i:Int)):=rfl;have F:=laid N;clear Q S y N;go_wp2_with fail
    refine J.out.mono ?_;rintro e w2 ⟨rfl,B⟩;have H:w2.ownsRow w1.heap.size 5 1 u6 L.length (L.map bv):=by obtain⟨d,rfl⟩:=B;exact I
    have Y:Below w1.heap.size w1 w2:=by obtain⟨d,rfl⟩:=B;exact Go.below_drewN R d
    clear J I B R;go_wp2_with(first
     |(at_builtin;refine wpList_append_own _ rfl _ _ 79 rfl w1.heap.size 5 i0 (.int .u8 0) 1 1 aX hi W q z rfl (by decide) _ _ _ rfl (H.alloc _) ⟨w2.heap.size,0,none⟩ 1 1 [.int .u8 68] rfl rfl ?c1 ?c2 ?c3 ?c4 ?c5 ?_)
     |go_in)
    case c1=>
     intro j u C
     match j,C with
     |0,C=>simp at C;subst C;simp[Addr.add]
    case c2=>intro u V;simp at V;subst V;rfl
    case c3=>unfold maxLen;omega
    case c4=>omega
    case c5=>have:=Y.size;simp;omega
    intro v' Z K D _;have A:Below w1.heap.size w1 Z:=(Y.alloc Y.size _).grown D (by have:=Y.size;simp;omega) (fun j C=>(H.lt j C).1);have U:Z.ownsRow w1.heap.size 5 1 v' (L++[68]).length ((L++[68]).map bv):=by
     rw[ai,aA];exact K
    obtain⟨O,cap,X,rfl⟩:∃O cap X,v'=.slice (some ⟨O,0,none⟩) X cap:=by
     rcases K.2 with⟨_,l⟩|⟨O,cap,M,s,_⟩
     ·omega
     ·exact⟨O,cap,_,s⟩
    clear K D H Y;go_wp2
    go_roundw
    case rel=>go_light;have:=F.out;exact⟨i,j-1,L++[68],iY (by omega),iY (by omega),by omega,by omega,by rw[ai];simp;omega,by rw[ai];simp;omega,c,U,A⟩
    case measure=>go_light;have:=F.out;simp[intOf];omega
theorem R4(a b:UInt8):ag a b=ag b a:=by
 unfold ag;by_cases h:a=b
 ·rw[h]
 ·have Y:(a==b)=false:=by simp_all
  have K:(b==a)=false:=by simpa using fun e=>h e.symm
  rw[Y,K];rfl
theorem A1(t p:ByteArray):∀i j,lZ t p i j=sT p t j i
 |0,0=>by simp[lZ,sT]
 |0,j+1=>by simp[lZ,sT]
 |i+1,0=>by simp[lZ,mQ,sT]
 |i+1,j+1=>by
  have Y:=A1 t p i j;have K:=A1 t p i (j+1);have H:=A1 t p (i+1) j;rw[sT,<-Y,<-K,<-H];simp only[lZ];rw[mQ];have e:co (at8 t i) (at8 p j)=cost p t j i:=by unfold co cost;rw[R4]
  omega
theorem Hh(t p:ByteArray)(k e d:Nat):∀n,(e,d)∈kX t p k n↔1<=e/\e<=n/\d=lZ t p e p.size/\d<=k
 |0=>by simp[kX];omega
 |n+1=>by
  have Y:=Hh t p k e d n;rw[kX];split
  ·rename_i h;rw[aH,Y];simp only[bL,bT];constructor
   ·rintro(⟨a,b,c,x⟩|⟨rfl,rfl⟩)
    ·omega
    ·omega
   ·rintro⟨a,b,c,x⟩;by_cases K:e<=n
    ·omega
    ·have:e=n+1:=by omega
     subst this;exact .inr ⟨rfl,c⟩
  ·rw[Y];constructor
   ·omega
   ·rintro⟨a,b,c,x⟩;by_cases K:e<=n
    ·omega
    ·have:e=n+1:=by omega
     subst this;omega
theorem R5(X P:ByteArray)(k st x e d:Nat):(e,d)∈kz (x *st) (ln (jl X P k st x) P k) (ln (jl X P k st x) P k).length↔∃i,1<=i/\i<=(jl X P k st x).size/\e=i+x *st/\d=sT P (jl X P k st x) P.size i/\d<=k:=by
 unfold kz;rw[bQ,List.drop_length,bm,aU];constructor
 ·rintro⟨⟨i,d'⟩,K,Y⟩;obtain⟨rfl,rfl⟩:=Y;obtain⟨a,b,c,h⟩:=(Hh _ _ _ _ _ _).1 K;exact⟨i,a,b,rfl,by rw[<-A1];exact c,h⟩
 ·rintro⟨i,a,b,rfl,c,h⟩;exact⟨(i,d),(Hh _ _ _ _ _ _).2 ⟨a,b,by rw[A1];exact c,h⟩,rfl⟩
theorem G0{P:ByteArray}{k st:Nat}{t:Int}{x:Nat}:∀n,x∈j9 P X k q st t n↔x<n/\looked P X k q st t x=true
 |0=>by simp[j9]
 |n+1=>by
  have K:x∈j9 P X k q st t n↔x<n/\looked P X k q st t x=true:=G0 n;rw[j9];split
  ·rename_i h;rw[aH,K];simp only[bL];constructor
   ·rintro(⟨a,b⟩|rfl)
    ·exact⟨by omega,b⟩
    ·exact⟨by omega,h⟩
   ·rintro⟨a,b⟩;by_cases Y:x<n
    ·exact .inl ⟨Y,b⟩
    ·exact .inr (by omega)
  ·rename_i h;rw[K];constructor
   ·rintro⟨a,b⟩;exact⟨by omega,b⟩
   ·rintro⟨a,b⟩;by_cases Y:x<n
    ·exact⟨Y,b⟩
    ·have:x=n:=by omega
     subst this;exact absurd b h
theorem adK(X P:ByteArray)(k q st x e d:Nat)(A:x *st<=X.size)(h:(e,d)∈kz (x *st) (ln (jl X P k st x) P k) (ln (jl X P k st x) P k).length):e<=X.size/\d<=k/\(gX P X k e).1<=d:=by
 obtain⟨i,R,I,rfl,Y,K⟩:=(R5 X P k st x e d).1 h;have D:(jl X P k st x).size=min (x *st+st+P.size+k) X.size-x *st:=by unfold jl;simp_all
 have H:i+x *st<=min (x *st+st+P.size+k) X.size:=by omega
 refine⟨by omega,K,?_⟩;have:=M_ P X k (x *st) _ _ (by omega) H (by omega) (by rw[show i+x *st-x *st=i by omega];show sT P (jl X P k st x) _ i<=k;omega);rw[show i+x *st-x *st=i by omega]at this;rw[Y];exact this
theorem aan(X P:ByteArray)(k q st e:Nat)(M:1<=q)(gq:1<=st)(Y:e<=X.size)(hk:(gX P X k e).1<=k)(C:k<P.size):∃x∈j9 P X k q st (o_ P.size k q) (stretches X.size st),(e,(gX P X k e).1)∈kz (x *st) (ln (jl X P k st x) P k) (ln (jl X P k st x) P k).length:=by
 obtain⟨S,I,U⟩:=X9 P X k st e gq Y hk;obtain⟨D,R,O,b4⟩:=(vY P X k e Y).2 hk;have F:=aaj P X k q st (gX P X k e).2 e M gq D Y (by omega);generalize N:(e-(P.size+k))/st=x at *;have B:0<e:=by
  rcases Nat.eq_zero_or_pos e with K|K
  ·exfalso;subst K;have H:(gX P X k 0).2=0:=by omega
   rw[H]at R;have Q:jf P (X.extract 0 0)=P.size:=by
    unfold jf;rw[show(X.extract 0 0).size=0 by rw[aZ];omega];cases P.size<;>simp[dT]
   omega
  ·exact K
 have J:x *st<e:=by
  have T:x *st<=e-(P.size+k):=by rw[<-N];exact Nat.div_mul_le_self _ _
  omega
 refine⟨x,(G0 _).2 ⟨(Ci X.size st x gq).1 (by omega),F⟩,?_⟩;rw[R5];have L:(jl X P k st x).size=min (x *st+st+P.size+k) X.size-x *st:=by unfold jl;rw[aZ];omega
 have A:e<=min (x *st+st+P.size+k) X.size:=I;exact⟨e-x *st,by omega,by omega,by omega,U.symm,hk⟩
end
section
open RowKit Maps
noncomputable def vN:=match aB.body with
 |some (.seq _ (.seq _ c))=>c
 |_=>.skip
def Gg(a0 a1 a3 a4:Value)(fl:Bool)(b5 b6 Y b:Nat)(u:Nat->Value):=#[a0,a1,.bool fl,a3,a4,pt b5,pt b6,u 7,pt Y,u 9,.slice none 0 0,.map (some b),u 12,u 13,u 14,u 15,u 16,u 17,u 18,u 19,u 20,u 21,u 22,u 23,u 24,u 25,u 26,u 27,u 28,u 29,u 30,u 31,u 32,u 33,u 34,u 35,u 36,u 37,u 38,u 39,u 40,u 41,u 42,u 43,u 44,u 45,u 46,u 47,u 48,u 49,u 50,u 51,u 52,u 53,u 54,u 55,u 56,u 57,u 58,u 59,u 60,u 61,u 62,u 63,u 64,u 65,u 66,u 67,u 68,u 69,u 70,u 71,u 72]
def pF(X P rn rm:ByteArray)(fl:Bool)(st dd:Nat->Nat)(e:Nat):Pl:=
 ⟨rn,P,rm,fl,st e,dd e,str (py (str (iA P (X.extract (st e) e)))),str (oS P (X.extract (st e) e) (str (iA P (X.extract (st e) e))))⟩
def qY(p:Pl):Value:=.iface 158 p.val
theorem Ck(p t:ByteArray):∀f i j,∀c∈iO p t f i j,c=77\/c=73\/c=68
 |0,i,j=>by simp[iO]
 |f+1,i,j=>by
  intro c Y;rw[iO]at Y;split at Y
  ·simp at Y
  ·split at Y
   ·rw[aH]at Y;rcases Y with Y|Y
    ·exact Ck p t f _ _ c Y
    ·simp_all
   ·split at Y
    ·rw[aH]at Y;rcases Y with Y|Y
     ·exact Ck p t f _ _ c Y
     ·simp_all
    ·rw[aH]at Y;rcases Y with Y|Y
     ·exact Ck p t f _ _ c Y
     ·simp_all
theorem YW(p t:ByteArray):∀x,x<(str (iA p t)).size->at8 (str (iA p t)) x=77\/at8 (str (iA p t)) x=73\/at8 (str (iA p t)) x=68:=by
 intro x Y;rw[ss,au,ak Y];exact Ck p t _ _ _ _ (bq Y)
theorem R6:(Tryz.prog.info? 136).map (fun i=>(i.zero,i.size,i.bytes))=some (some .nilIface,1,16):=by kernel_rfl
theorem abX(X P rn rm XN:ByteArray)(fl:Bool)(es:List Nat)(st dd:Nat->Nat)(a0 a1 a3 a4:Value)(b5 b6 b8 b:Nat)(u:Nat->Value)(w:World)
  (hX:X.size<=200)(hP:P.size<=30)(hP1:1<=P.size)(hes:es.length<=1000)
  (h5:w.heap[b5]?=some (.cells #[.string XN,.string X] 68 (0,0)))(h6:w.heap[b6]?=some (.cells #[.string rn,.string P,.string rm] 131 (0,0)))
  (HS:Calls Tryz.prog 123 #[.func (.func 143) #[] #[.pointer (some ⟨w.heap.size,0,none⟩)]] (w.alloc (.cells #[.map (some b)] 166)) fun e w'=>∃v,e=.returned v/\w'.ownsRow w.heap.size 3 1 v es.length (es.map oU)/\Below w.heap.size w w')
  (V3:∀W:World,W.heap[b]?=w.heap[b]?->∀e∈es,(bG 166 (.map (some b)) (.int .i64 (e:Int)) false).run Tryz.prog W=.ok (.int .i64 (dd e:Int)) W)(hbl:b<w.heap.size)
  (HE:∀e∈es,e<=X.size/\dd e<=1000/\st e<=e/\jf P (X.extract (st e) e)<=dd e/\∀c,c<e-st e->dd e<jf P (X.extract (e-c) e))(vt:iU w):
  vN.wp Tryz.prog (bodyPost Tryz.prog aB fun e w'=>∃v,e=.returned v/\w'.ownsRow w.heap.size 136 1 v es.length (es.map fun e=>qY (pF X P rn rm fl st dd e))/\Below w.heap.size w w'/\(es=[]->v=.slice none 0 0)) ⟨Gg a0 a1 a3 a4 fl b5 b6 b8 b u,[]⟩ w:=by
 obtain⟨i0,hi,sZ,rj,s_⟩:=info_parts R6;have V4:=laid HS;have V5:=laid V3;have V6:=laid HE;have HT:=laid vt;have H5:=laid h5;have H6:=laid h6;have EY:b5<w.heap.size:=(aY.1 h5).1;have EZ:b6<w.heap.size:=(aY.1 h6).1;clear HS V3 HE vt h5 h6;obtain⟨Q,hQ⟩:∃Q,Q=(bodyPost Tryz.prog aB fun e w'=>∃v,e=.returned v/\w'.ownsRow w.heap.size 136 1 v es.length (es.map fun e=>qY (pF X P rn rm fl st dd e))/\Below w.heap.size w w'/\(es=[]->v=.slice none 0 0)):=⟨_,rfl⟩;rw[<-hQ];have HQ:=laid hQ;clear hQ;unfold vN aB Gg;dsimp only;simp only[pt];go_wp2_with fail
 refine(YS _ _).mono ?_;rintro e w1 ⟨rfl,rfl⟩;go_wp2_with fail
 refine V4.out.mono ?_;rintro e w2 ⟨v,rfl,N,MH⟩;clear V4;have akS:=laid N;obtain⟨MJ,V7,hv,ajA⟩:∃(MJ:Option Addr) (V7:Nat),v=.slice MJ es.length V7/\Hid (∀i,i<es.length->∃g,MJ=some ⟨g,0,none⟩/\g<w2.heap.size/\w2.cell? ⟨g,i,none⟩=some (.int .i64 ((es.getD i 0:Nat):Int))):=by
  rcases N.2 with⟨rfl,h0⟩|⟨g,cap,cur,rfl,hB,hg,Vi,hc2,hc3,hc4⟩
  ·exact⟨none,0,by rw[h0],laid fun i hi=>by omega⟩
  ·refine⟨some ⟨g,0,none⟩,cap,rfl,laid fun i hi=>⟨g,rfl,(aY.1 hg).1,?_⟩⟩;have h:=(N.cells (g:=g) rfl) i (oU (es.getD i 0)) (by rw[aJ,au,ak hi];rfl);rw[yE]at h;exact h
 subst hv;clear N akS;have V:w.heap.size<=w2.heap.size:=MH.size;go_wp2
 go_loopw [12,30] (fun rv iv wr=>∃i:Nat,iv=.int .i64 (i:Int)/\i<=es.length/\Hid (i=0->rv=.slice none 0 0)/\wr.ownsRow w2.heap.size 136 1 rv i ((es.take i).map fun e=>qY (pF X P rn rm fl st dd e))/\Below w2.heap.size w2 wr) (fun _ iv _=>es.length-(intOf iv).toNat)
 case atStart=>exact⟨0,rfl,bt _,laid fun _=>rfl,by simpa using bW _ _ _ _,aO _ _⟩
 case round=>
  obtain⟨i,rfl,hil,V8,M,I⟩:=hrel;have F:Below w.heap.size w wr:=MH.trans (I.mono V);by_cases f:i<es.length
  ·obtain⟨V9,rfl,akT,n⟩:=ajA.out i f;have hci:wr.cell? ⟨V9,i,none⟩=some (.int .i64 ((es.getD i 0:Nat):Int)):=by rw[I.cell (p:=⟨V9,i,none⟩) akT];exact n
   have Z:es.getD i 0∈es:=by rw[au,ak f];exact bq _
   have zR:Hid ((es.take (i+1)).map (fun e=>qY (pF X P rn rm fl st dd e))=(es.take i).map (fun e=>qY (pF X P rn rm fl st dd e))++[qY (pF X P rn rm fl st dd (es.getD i 0))]):=laid (by
    rw[List.take_add_one,ak f,aA,au,ak f];rfl)
   obtain⟨V_,he2,he3,Wa,Wb⟩:=V6.out _ Z;have Mj:=V5.out wr (by rw[F.block b hbl]) _ Z;generalize es.getD i 0=E at *;have U:=laid (And.intro Wa Wb);clear Wa Wb n Z;have b1:(i:Int)<(es.length:Int):=by omega
   have b2:(0:Int)<=(i:Int):=by omega
   have akU:b5<wr.heap.size:=ay EY F.size;have akV:b6<wr.heap.size:=ay EZ F.size;have k5:wr.heap[b5]?=some (.cells #[.string XN,.string X] 68 (0,0)):=by rw[F.block b5 EY];exact H5.out
   have O:wr.heap[b6]?=some (.cells #[.string rn,.string P,.string rm] 131 (0,0)):=by rw[F.block b6 EZ];exact H6.out
   have c5:wr.cell? ⟨b5,1,none⟩=some (.string X):=by rw[cell_of_row wr _ 1 _ _ _ k5];rfl
   have c6:wr.cell? ⟨b6,1,none⟩=some (.string P):=by rw[cell_of_row wr _ 1 _ _ _ O];rfl
   have Wc:Hid (∀W:World,Calls Tryz.prog 125 #[.string X,.string P,.agg #[.int .i64 (E:Int),.int .i64 (dd E:Int)]] W fun r w'=>r=.returned (.int .i64 (st E:Int))/\Below W.heap.size W w'):=laid fun W=>by
    have:=YU X P E (dd E) (E-st E) W hX (by omega) V_ he2 (by omega) (by rw[show E-(E-st E)=st E by omega];exact U.out.1) U.out.2;rw[show E-(E-st E)=st E by omega]at this;exact this
   have We:pa (wr.alloc (.cells #[.int .i64 (E:Int),.int .i64 (dd E:Int)] 173)) wr.heap.size E (dd E):=heap_alloc_new wr _;have Wh:=laid We;have Wi:=laid k5;have B_:=laid O;clear We k5 O U;go_wp2_with fail
   refine(Wc.out _).mono ?_;rintro e w3 ⟨rfl,d⟩;have R:Below wr.heap.size wr w3:=((aO _ _).alloc (af _) _).trans (d.mono (by simp));have BT:=Wh.out.below d (by simp);have G:=uR M R;have C:=I.trans (R.mono I.size);have k5:w3.heap[b5]?=some (.cells #[.string XN,.string X] 68 (0,0)):=by rw[R.block b5 akU];exact Wi.out
   have O:w3.heap[b6]?=some (.cells #[.string rn,.string P,.string rm] 131 (0,0)):=by rw[R.block b6 akV];exact B_.out
   have d5:w3.cell? ⟨b5,1,none⟩=some (.string X):=by rw[cell_of_row w3 _ 1 _ _ _ k5];rfl
   have d6:w3.cell? ⟨b6,1,none⟩=some (.string P):=by rw[cell_of_row w3 _ 1 _ _ _ O];rfl
   have Wj:wr.heap.size<w3.heap.size:=by have:=d.size;simp at this;omega
   have t:b6<w3.heap.size:=by omega
   have s:=laid O;have Wk:=laid BT;generalize wr.heap.size=x at *;clear d R M I Wh Wi B_ k5 O BT c5 c6 Wc Mj hci;have s1:(st E:Int)<=(E:Int):=by omega
   have s2:(E:Int)<=(X.size:Int):=by omega
   have s3:(0:Int)<=(st E:Int):=by omega
   have s4:E<=X.size:=V_;have hAs:(X.extract (st E) E).size<=300:=by rw[aZ];omega
   have Wm:=laid (fun W:World=>abW P (X.extract (st E) E) W (by omega) hP1 hAs);have Wn:Hid (qY (pF X P rn rm fl st dd E)=.iface 158 (.agg #[.string rn,.string P,.string rm,.bool fl,.int .i64 (st E:Int),.int .i64 (dd E:Int),.string (str (py (str (iA P (X.extract (st E) E))))),.string (str (oS P (X.extract (st E) E) (str (iA P (X.extract (st E) E)))))])):=laid rfl;have Wo:(str (iA P (X.extract (st E) E))).size<=1000:=by rw[gV];have:=Ib P (X.extract (st E) E);omega
   have Wp:Hid (∀W:World,iU W->Calls Tryz.prog 127 #[.string (str (iA P (X.extract (st E) E)))] W fun e w'=>e=.returned (.string (str (py (str (iA P (X.extract (st E) E))))))/\Below W.heap.size W w'):=laid fun W K=>aah _ W Wo K;have Wq:Hid (∀W:World,iU W->Calls Tryz.prog 128 #[.string (str (iA P (X.extract (st E) E))),.string P,.string (X.extract (st E) E)] W fun e w'=>e=.returned (.string (str (oS P (X.extract (st E) E) (str (iA P (X.extract (st E) E))))))/\Below W.heap.size W w'):=laid fun W K=>W9 P (X.extract (st E) E) _ W (by omega) (by omega) Wo (abB P _) (YW P _) K;generalize str (oS P (X.extract (st E) E) (str (iA P (X.extract (st E) E))))=DF at *;generalize str (py (str (iA P (X.extract (st E) E))))=RN at *;generalize str (iA P (X.extract (st E) E))=LL at *;generalize hA:X.extract (st E) E=A at *;go_wp2_with fail
   refine(Wm.out _).mono ?_;rintro e w4 ⟨rfl,B⟩;have z:=Wk.out.below B Wj;have H:=uR G B;have D:=C.trans (B.mono C.size);have O:w4.heap[b6]?=some (.cells #[.string rn,.string P,.string rm] 131 (0,0)):=by rw[B.block b6 t];exact s.out
   have c0:w4.cell? ⟨b6,0,none⟩=some (.string rn):=by rw[cell_of_row w4 _ 0 _ _ _ O];rfl
   have c1:w4.cell? ⟨b6,1,none⟩=some (.string P):=by rw[cell_of_row w4 _ 1 _ _ _ O];rfl
   have c2:w4.cell? ⟨b6,2,none⟩=some (.string rm):=by rw[cell_of_row w4 _ 2 _ _ _ O];rfl
   have cF:=z.c1;have y:x<w4.heap.size:=ay Wj B.size;have L:b6<w4.heap.size:=ay t B.size;have m:Below w.heap.size w w4:=MH.trans (D.mono V);have MK:iU w4:=HT.out.on m;have un:∀{W:World},Below w4.drew.heap.size w4.drew W->Below w4.heap.size w4 W:=fun K=>⟨K.os,K.tape,K.output,K.size,K.block⟩;have ML:Hid (∀W:World,W=w4.drew\/Below w4.drew.heap.size w4.drew W->iU W):=laid fun W K=>by
    rcases K with rfl|K
    ·exact MK
    ·exact MK.on (un K)
   have k:Hid (∀W:World,Below w4.drew.heap.size w4.drew W->W.cell? ⟨b6,0,none⟩=some (.string rn)/\W.cell? ⟨b6,1,none⟩=some (.string P)/\W.cell? ⟨b6,2,none⟩=some (.string rm)/\W.cell? ⟨x,1,none⟩=some (.int .i64 (dd E:Int))):=laid fun W K=>⟨by rw[(un K).cell (p:=⟨b6,0,none⟩) L];exact c0,by rw[(un K).cell (p:=⟨b6,1,none⟩) L];exact c1,by rw[(un K).cell (p:=⟨b6,2,none⟩) L];exact c2,by rw[(un K).cell (p:=⟨x,1,none⟩) y];exact cF⟩;have B9:Hid (∀(W1 T:World) (o:Obj),Below w4.drew.heap.size w4.drew W1->(W1.alloc o).grownBy T u12.ownBlock->T.cell? ⟨b6,0,none⟩=some (.string rn)/\T.cell? ⟨b6,1,none⟩=some (.string P)/\T.cell? ⟨b6,2,none⟩=some (.string rm)/\T.cell? ⟨x,1,none⟩=some (.int .i64 (dd E:Int))):=laid fun W1 T o K hg=>by
    have hs:=(un K).size;have e1:T.heap[b6]?=some (.cells #[.string rn,.string P,.string rm] 131 (0,0)):=by
     rw[hg.block b6 (by simp;omega) (fun e=>yv H O (by decide) e.symm),heap_alloc_old W1 _ (by omega),(un K).block b6 L];exact O
    have e2:T.heap[x]?=some (.cells #[.int .i64 (E:Int),.int .i64 (dd E:Int)] 173 (0,0)):=by
     rw[hg.block x (by simp;omega) (fun e=>yv H z (by decide) e.symm),heap_alloc_old W1 _ (by omega),(un K).block x y];exact z
    exact⟨by rw[cell_of_row T _ 0 _ _ _ e1];rfl,by rw[cell_of_row T _ 1 _ _ _ e1];rfl,by rw[cell_of_row T _ 2 _ _ _ e1];rfl,by rw[cell_of_row T _ 1 _ _ _ e2];rfl⟩
   have B7:Hid (∀(W:World),Below w4.drew.heap.size w4.drew W->∀o:Obj,(W.alloc o).ownsRow w2.heap.size 136 1 u12 i ((es.take i).map fun e=>qY (pF X P rn rm fl st dd e))):=laid fun W K o=>(uR H (un K)).alloc _;have B8:Hid (∀(W:World),Below w4.drew.heap.size w4.drew W->∀o:Obj,w2.heap.size<=(W.alloc o).heap.size):=laid fun W K o=>by have h1:=D.size;have h2:=(un K).size;simp;omega
   have a:=laid D;have Ws:=laid H;clear B z H G D C O un MK m Wk s d5 d6 Wm F;go_wp2_with fail
   go_region_held3 (fun w'=>w'.cell? ⟨b6,0,none⟩=some (.string rn)/\w'.cell? ⟨b6,1,none⟩=some (.string P)/\w'.cell? ⟨b6,2,none⟩=some (.string rm)/\w'.cell? ⟨x,1,none⟩=some (.int .i64 (dd E:Int)))
    (first
     |go_keep
     |exact B9.out _ _ _ (Y.trans (S.mono Y.size)) J
     |exact k.out _ (Y.trans (S.mono Y.size))
     |exact k.out _ Y)
    (first
     |(go_at_call 127;refine(Wp.out _ (ML.out _ (.inl rfl))).mono ?_;rintro e w' ⟨rfl,Y⟩)
     |(go_at_call 128;refine(Wq.out _ (ML.out _ (.inr Y))).mono ?_;rintro e l ⟨rfl,S⟩)
     |(refine step_append_lies _ rfl _ _ 133 rfl w2.heap.size 136 i0 .nilIface 1 16 bV hi sZ rj s_ rfl (by decide) _ i _ rfl (B7.out l (Y.trans (S.mono Y.size)) _) ⟨l.heap.size,0,none⟩ 1 1 [.iface 158 (.agg #[.string rn,.string P,.string rm,.bool fl,.int .i64 (st E:Int),.int .i64 (dd E:Int),.string RN,.string DF])] rfl rfl (World.news_of_block (heap_alloc_new l _)) (fun u hu=>by simp at hu;subst hu;rfl) (by omega) (by unfold maxLen;omega) (by omega) (B8.out l (Y.trans (S.mono Y.size)) _) _ rfl ?_;intro g5 ER w6 q J Gd KM))
   rename_i Kh;clear Kh;have akW:Below w2.heap.size w2 w6:=by
    have h1:Below w4.heap.size w4 w':=⟨Y.os,Y.tape,Y.output,Y.size,Y.block⟩;have h2:=a.out.trans (h1.mono a.out.size);have h3:=h2.trans (S.mono h2.size);exact(h3.alloc h3.size _).grown J (by have:=h3.size;simp;omega) (fun j hj=>(Ws.out.lt j hj).1)
   have HR6:Hid (w6.ownsRow w2.heap.size 136 1 (.slice (some ⟨g5,0,none⟩) (i+1) ER) (i+1) ((es.take (i+1)).map fun e=>qY (pF X P rn rm fl st dd e))):=laid (by
    rw[zR.out,Wn.out];exact q)
   clear q J Gd KM Y S Wp Wq ML k B9 B7 B8 a Ws Wn zR c0 c1 c2 cF hA;go_wp2
   go_roundw
   case rel=>go_light;exact⟨i+1,by go_num,by omega,laid (fun h=>by omega),HR6.out,akW⟩
   case measure=>go_light;simp[intOf];omega
  ·have MN:i=es.length:=by omega
   have HF:Hid (wr.ownsRow w.heap.size 136 1 u12 es.length (es.map fun e=>qY (pF X P rn rm fl st dd e))):=laid (by
    have h:=yH M V;rw[MN,bQ]at h;exact h)
   have HNN:Hid (es=[]->u12=.slice none 0 0):=laid fun h=>V8.out (by rw[MN,h];rfl);clear MN M V5 V6 V8;go_wp2
   (try simp only[Exit.inBlock,Exit.then])
   rw[HQ.out];refine bodyPost_ret (results_tmp rfl _ _ _) rfl ?_;exact⟨_,rfl,HF.out,F,HNN.out⟩
end
namespace Ph
open Conc Ren
section
variable{P:Program}{Q:QT}{Z:Loc->Prop}{f:Frame}{l:List Frame}{w:World}
theorem gu.qZ(m:Nat)(r:Frame)(hr:gY P m f l=(r,l))(k:∀w',gU Z w w'->(∀b,b<w.heap.size->w'.heap[b]?=w.heap[b]?)->gu P Q Z r l w'):gu P Q Z f l w:=by
 refine gu.k4 m fun w' Y K=>?_;simp_all
end
abbrev pG(XN X:ByteArray):Value:=.agg #[.string XN,.string X]
abbrev oX(rn P rm:ByteArray):Value:=.agg #[.string rn,.string P,.string rm]
def rk(b i:Nat):Value:=.pointer (some ⟨b,i,none⟩)
theorem gU.at{B:Nat}{o:Obj}(h:gU Z w w')(Y:w.heap[B]?=some o)(H:iV Z B):w'.heap[B]?=some o:=(h.old B (jQ Y) H).trans Y
section
variable{P:Program}{Q:QT}{Z:Loc->Prop}{f:Frame}{l:List Frame}{w:World}
theorem gu.reads{B:Nat}{o:Obj}{es:Array _}(D:w.heap[B]?=some o)(gq:∀w2,w2.heap[B]?=some o->stepG P true (G f l) w2=.go (G f1 l) w2 es)(H:∀e∈es,∃a:Addr,e=⟨.cell a,false,false⟩/\a.block=B)(A:iV Z B)(k:∀w',gU Z w w'->gu P Q Z f1 l w'):gu P Q Z f l w:=by
 have R:=jQ D;refine aI (U:=fun _ _=>False) (S:=fun b=>b=B) (X:=fun _=>False) (Done:=fun S X f' l' w'=>X=(fun _=>False)/\f'=f1/\l'=l) (Tr.one fun w2 hr=>?_) (fun b h=>by simp_all) fun S' X' f' l' w' hd hk=>?_
 ·have Y:=((hr.kept B rfl).eq (fun i y=>y)).trans D;refine⟨_,_,_,_,_,_,gq w2 Y,kh.toDid (U:=fun _ _=>False) (tP fun e K=>?_),.stop ⟨rfl,rfl,rfl⟩⟩;obtain⟨a,rfl,I⟩:=H e K;simp_all
 ·obtain⟨rfl,rfl,rfl⟩:=hd;exact k w' (gU.of hk)
theorem gu.write{B i:Nat}{v:Value}{c:Array _}(H:w.heap[B]?=some (.cells c t))(gq:∀w2,w2.heap[B]?=some (.cells c t)->stepG P true (G f l) w2=.go (G f1 l) (w2.setCell ⟨B,i,none⟩ v) #[⟨.cell ⟨B,i,none⟩,true,false⟩])(C:iV Z B)
  (k:∀w',w'.heap[B]?=some (.cells (c.setIfInBounds i v) t)->(∀b,b<w.heap.size->b≠B->w'.heap[b]?=w.heap[b]?)->w.heap.size<=w'.heap.size->w'.tape=w.tape->mD w'.os w.os->w'.output=w.output->gu P Q Z f1 l w'):gu P Q Z f l w:=by
 have I:=jQ H;refine aI (U:=fun _ _=>False) (S:=fun b=>b=B) (X:=fun b=>b=B) (Done:=fun S X f' l' w'=>w'.heap[B]?=some (.cells (c.setIfInBounds i v) t)/\f'=f1/\l'=l) (Tr.one fun w2 hr=>?_) (fun b h=>by simp_all) fun S' X' f' l' w' hd hk=>?_
 ·have Y:=((hr.kept B rfl).eq (fun i y=>y)).trans H;refine⟨_,_,_,_,_,_,gq w2 Y,kh.toDid (U:=fun _ _=>False) (HX rfl rfl (fun _=>id) (sr v) fun e A=>?_),.stop ⟨ry Y,rfl,rfl⟩⟩;simp_all
 ·obtain⟨D,rfl,rfl⟩:=hd;exact k w' D (fun b R K=>hk.kept b R K) hk.grow hk.tape hk.env hk.output
end
section
variable[gB]{r:Rn}{v w:World}
theorem OB.plain{b:Nat}{o o':Obj}(h:OB r b o o')(Y:∀b,¬gB.ro b):O r o o':=by
 cases h with
 |same _ x=>exact x
 |ro _ y=>exact absurd y (Y _)
theorem adM{base TE:Nat}{size:Nat}{sv Wt:Value}{xs:List _}(h:v.ownsRow base e size sv n xs)(d:∀x∈xs,∀y,V r x y->y=x)(N:V r sv Wt)(E:W r 0 v w)(B:∀b,¬gB.ro b)(G:∀b b',r b=some b'->base<=b->TE<=b'):w.ownsRow TE e size Wt n xs:=by
 refine⟨h.1,?_⟩;rcases h.2 with⟨rfl,X⟩|⟨g,cap,R,rfl,P,Q,F,S,J,L⟩
 ·cases N;simp_all
 ·cases N with
  |@slice a a' _ _ had=>
   obtain⟨b',o',s'⟩:=a';obtain⟨M,T,A⟩:=had;subst T A;obtain⟨o,o',C,O,I⟩:=E.obj _ _ M;rw[Q]at C;cases C;have I:=OB.plain I B
   ·cases I with
    |@cells _ K _ _ U=>
     refine .inr ⟨b',cap,K,rfl,G _ _ M P,O,F,S,U.size.symm.trans J,?_⟩;rw[<-L];apply List.ext_getElem?;intro i;by_cases D:i<n *size
     ·rw[bh D,bh D,aM,aM];have Y:i<R.size:=by
       rw[J];exact ay D (Nat.mul_le_mul_right _ F)
      have H:=U.size▸Y;rw[ax Y,ax H];congr 1;refine d _ ?_ _ (U.at_ i _ _ (ax Y) (ax _));rw[<-L];refine List.mem_iff_getElem?.2 ⟨i,?_⟩;rw[bh D,aM,ax Y]
     ·rw[bI (by simp;omega),bI (by simp;omega)]
theorem PS{k:IntKind}{n:Int}(h:V r (.int k n) y):y=.int k n:=by cases h;rfl
theorem adN{r0:Rn}(H:∀b,¬gB.ro b)(Y:Le r0 r)(hk:Kept (Wr r0) (Wr r) w0 w){B:Nat}(hd:∀b,B<=b->r0 b=none){b:Nat}(h:r b=some b')(D:B<=b):w0.heap.size<=b':=by
 rcases hk.may b' ⟨b,h,H b⟩with⟨c,K,_⟩|y
 ·have:=r.inj c b b' (Y _ _ K) h;simp_all
 omega
end
def K4:pR:={ij:=fun f=>[48,75,76,77,78,99,115,134].contains f,sW:=fun _=>false,vb:=fun _=>false,rT:=true}
theorem aao:AW K4 Tryz.prog=true:=by decide+kernel
theorem aap:([48,75,76,77,78,99,115,134].all fun f=>tX K4 Tryz.prog vp f)=true:=by decide+kernel
theorem adO(f:Nat)(h:K4.ij f=true):tX K4 Tryz.prog vp f=true:=by
 have:f∈[48,75,76,77,78,99,115,134]:=by
  have:[48,75,76,77,78,99,115,134].contains f=true:=h;simp_all
 exact aQ.1 aap f this
def xl:List Item->Prop:=fun _=>False
def tZ:List Deferred->Prop:=fun _=>False
theorem ajB:@ly (K4.ju Tryz.prog A9 xi xl tZ) Tryz.prog:=Jz (fun _ _ h=>h) _ HN aao adO (IZ K4 _ _ _ _)
def jY(X P:ByteArray)(k q st:Nat):=j9 P X k q st (o_ P.size k q) (stretches X.size st)
theorem YX{Q:QT}{c:Frame}{P:ByteArray}{k st:Nat}(hX:X.size<=200)(hP:P.size<=30)(hk:k<=6)(E:1<=q)(C:q<=8)(G:1<=st)(F:st<=200)(D:PR.globals.size<=w.heap.size)
  (d:∀v w',w'.ownsRow w.heap.size 3 1 v (jY X P k q st).length ((jY X P k q st).map oU)->gU Z w w'->gu PR Q Z (c.finish v) cs w'):
  gu PR Q Z (Frame.enter PR 48 #[.string X,.string P,jE k q st] .normal) (c::cs) w:=by
 letI:gB:=K4.ju Tryz.prog A9 xi xl tZ
 have Y:∀b,¬gB.ro b:=fun b h=>h;have H:∀b,mG (fun _=>False) b=none:=fun b=>by
  cases e:mG (fun _=>False) b with
  |none=>rfl
  |some c=>exact((yG.1 e).1).elim
 refine gu.call (r0:=mG (fun _=>False)) (v0:=w) ajB (fun _ h=>by cases h) (fun _ h=>h) (fun g h=>by cases h) (args:=#[.string X,.string P,jE k q st]) (R:=fun e w'=>∃v,e=.returned v/\w'.ownsRow w.heap.size 3 1 v (jY X P k q st).length ((jY X P k q st).map oU)) (fun T=>(X8 X P k q st (tp w T) hX hP hk E C G F).mono fun e w' ⟨v,A,L,_⟩=>⟨v,A,L⟩) (fun e u ⟨v,h,_⟩=>⟨v,h⟩) (show K4.ij 48=true by decide) ⟨rfl,fun i x x' e e'=>?_⟩ (Ji Y D fun b h=>h.elim) (fun a h=>(yL.1 h).elim) ?_
 ·obtain rfl:=Option.some.inj (e.symm.trans e');have j:i<3:=by
   have:=(aY.1 e).1;simpa using this
  have:i=0\/i=1\/i=2:=by omega
  rcases this with rfl|rfl|rfl<;>(simp at e;subst e)
  ·exact .string _
  ·exact .string _
  ·exact Ao (n:=2) (by simp[jE,iv,ng])
 ·intro r v x x' w' U O S N K;obtain⟨y,J,I⟩:=N;cases J;refine d x' w' (adM I (fun z W y J=>?_) O S Y fun b b' A L=>adN Y U K (B:=0) (fun b _=>H b) A (bt _)) ?_
  ·obtain⟨n,_,rfl⟩:=aU.1 W;exact PS J
  ·exact⟨fun a V _=>K.kept a V (fun⟨b,M,_⟩=>by rw[H b]at M;cases M),K.grow,K.tape,K.env,K.output⟩
section
variable{P:Program}{Q:QT}{Z:Loc->Prop}{f:Frame}{l:List Frame}{w:World}
theorem gu.still(gq:∀w2,stepG P true (G f l) w2=.go (G f1 l) w2 #[])(k:∀w',gU Z w w'->(∀a,a<w.heap.size->w'.heap[a]?=w.heap[a]?)->gu P Q Z f1 l w'):gu P Q Z f l w:=by
 refine aI (U:=fun _ _=>False) (S:=fun _=>False) (Done:=fun S X f' l' w'=>X=(fun _=>False)/\f'=f1/\l'=l) (Tr.one fun w2 hr=>⟨_,_,_,_,_,_,gq w2,(jc (U:=fun _ _=>False) _ _ w2).toDid,.stop ⟨rfl,rfl,rfl⟩⟩) (fun b h=>h.elim) fun S' X' f' l' w' hd hk=>?_;obtain⟨rfl,rfl,rfl⟩:=hd;exact k w' (gU.of hk) fun a Y=>hk.kept a Y id
end
section
variable{main:Bool}{f:Frame}{cs:List Frame}
def ES(B:Nat)(a b c:Value)(w:World):World:=((w.setCell ⟨B,0,none⟩ a).setCell ⟨B,1,none⟩ b).setCell ⟨B,2,none⟩ c
theorem akX{B:Nat}{a b c:Value}(w:World)(h:w.heap[B]?=some (.cells #[x,y,z] t)):Env.Eff B w (ES B a b c w)/\(ES B a b c w).heap[B]?=some (.cells #[a,b,c] t):=by
 refine⟨CJ (CJ (sr _) (sr _)) (sr _),?_⟩;have Y:=ry (i:=0) (v:=a) h;have K:=ry (i:=1) (v:=b) Y;exact ry K
end
section
variable{main:Bool}{f:Frame}{cs:List Frame}
def ET(B:Nat)(a b:Value)(w:World):World:=(w.setCell ⟨B,0,none⟩ a).setCell ⟨B,1,none⟩ b
theorem akY{B:Nat}{a b:Value}(w:World)(h:w.heap[B]?=some (.cells #[x,y] t)):Env.Eff B w (ET B a b w)/\(ET B a b w).heap[B]?=some (.cells #[a,b] t):=by
 refine⟨CJ (sr _) (sr _),?_⟩;have Y:=ry (i:=0) (v:=a) h;exact ry Y
end
end Ph
namespace Ph
open Conc Ren
open Lock (Word PC)
theorem xQ:ko PR (isAgg 9)=some false:=by kernel_rfl
theorem ahH:ko PR (isAgg 166)=some false:=by kernel_rfl
theorem yu:(PR.funcs[122]?).any (·.norace)=false:=by kernel_rfl
theorem afP:(PR.info? 182).map (·.zero)=some (some (.pointer none)):=by kernel_rfl
theorem afQ:(PR.info? 182).map (·.size)=some 1:=by kernel_rfl
theorem afR:(PR.info? 212).map (·.zero)=some (some (.agg #[.int .u64 0,.int .u32 0])):=by kernel_rfl
section
variable{X P:ByteArray}{k q st n Rf Sg By Mp Fd Fp:Nat}{J:Nat->Value}{c:Frame}{cs:List Frame}
theorem ahI:gF PR 4 ((eF Mo (jI (aE X P k q st n) Rf Sg By Fp) J).finish (.map (some Mp))) (c::cs)=(c.finish (.map (some Mp)),cs):=by kernel_rfl
end
theorem Oh{P:ByteArray}{k st:Nat}{t:Int}{x:Nat}:∀n,x∈j9 P X k q st t n->x<n
 |0,h=>by cases h
 |n+1,h=>by
  have Y:x∈j9 P X k q st t n->x<n:=Oh n;rw[j9]at h;split at h
  ·rcases aH.1 h with y|y
   ·have:=Y y;omega
   ·simp at y;omega
  ·have:=Y h;omega
structure Lay(Z:Loc->Prop)(w0:World)(X P:ByteArray)(k q st Rf Sg By Mp Fd Fp:Nat)(w:World):Prop where
 rf:w.heap[Rf]?=some (.cells #[.string X] 9)
 sg:w.heap[Sg]?=some (.cells #[.string P] 9)
 by_:w.heap[By]?=some (.cells #[iv k,iv q,iv st] 75)
 mp:w.heap[Mp]?=some (.map #[] 0)
 fd:w.heap[Fd]?=some (.cells #[.int .i32 0,.int .u32 0,.map (some Mp)] 191)
 fp:w.heap[Fp]?=some (.cells #[ptr Fd] 182)
 Wu:iV Z Rf
 Wv:iV Z Sg
 Ww:iV Z By
 MO:iV Z Mp
 MP:iV Z Fd
 Gh:iV Z Fp
 o1:w0.heap.size<=Rf
 o2:Rf<Sg
 o3:Sg<By
 o4:By<Mp
 o5:Mp<Fd
 o6:Fd<Fp
 o7:Fp<w.heap.size
 oV:gU Z w0 w
theorem Lay.on{P:ByteArray}{k st:Nat}(h:Lay Z w0 X P k q st Rf Sg By Mp Fd Fp w)(g:gU Z w w'):Lay Z w0 X P k q st Rf Sg By Mp Fd Fp w':=
 ⟨g.at h.rf h.Wu,g.at h.sg h.Wv,g.at h.by_ h.Ww,g.at h.mp h.MO,g.at h.fd h.MP,g.at h.fp h.Gh,h.Wu,h.Wv,h.Ww,h.MO,h.MP,h.Gh,h.o1,h.o2,h.o3,h.o4,h.o5,h.o6,ay h.o7 g.grow,h.oV.trans g⟩
section
variable{I:QT}{Z:Loc->Prop}{w:World}{c:Frame}{cs:List Frame}{X P:ByteArray}{k q st n:Nat}
theorem ahJ(kk:∀Rf Sg By Mp Fd Fp J w',Lay Z w X P k q st Rf Sg By Mp Fd Fp w'->gu PR I Z ((eF zX (jI (aE X P k q st n) Rf Sg By Fp++[(12,ptr Fd)]) J).finish undef) (c::cs) w'):
  gu PR I Z (Frame.enter PR 122 #[.string X,.string P,jE k q st,iv n] .normal) (c::cs) w:=by
 refine ah 60 (Vl X P k q st n (c::cs)) rfl eb0 rfl fun J1 w1 g1 _ _ _ _=>?_;refine aD (F:=fun B=>(eF BZ (aE X P k q st n) J1).finish (ptr B)) (o:=.cells #[.string X] 9) (fun w2=>wv ajp rfl rfl w2) fun Rf w2 l1 u1 g O g2=>?_;refine ah 60 (Vm X P k q st n Rf J1 (c::cs)) rfl eb1 rfl fun J2 w3 g3 _ _ _ _=>?_;refine aD (F:=fun B=>(eF B0 (BW (aE X P k q st n) Rf) J2).finish (ptr B)) (o:=.cells #[.string P] 9) (fun w2=>wv ajq rfl rfl w2) fun Sg w4 l2 u2 l Q g4=>?_;refine ah 60 _ rfl eb2 rfl fun J3 w5 E _ _ _ _=>?_;refine aD (F:=fun B=>(eF B1 (BX (aE X P k q st n) Rf Sg) J3).finish (ptr B)) (o:=.cells #[iv k,iv q,iv st] 75) (fun w2=>wv ajr rfl rfl w2) fun By w6 l3 u3 j L g6=>?_;refine ah 60 _ rfl emm rfl fun J4 w7 T _ _ _ _=>?_;refine aD (F:=fun B=>(eF B2 _ J4).finish (.map (some B))) (o:=.map #[] 0) (fun w2=>afu ajs w2) fun Mp w8 l4 u4 f N G=>?_;refine ah 60 (Vn X P k q st n Rf Sg By Mp J4 (c::cs)) rfl eb3 rfl fun J5 w9 A _ _ _ _=>?_;refine aD (F:=fun B=>(eF B3 _ J5).finish (ptr B)) (fun w2=>wv ajt rfl rfl w2) fun Fd wA l5 u5 z M gA=>?_;refine ah 60 _ rfl eal rfl fun J6 wB R _ _ _ _=>?_;refine aD (F:=fun B=>(eF B4 (pS (aE X P k q st n) Rf Sg By++[(12,ptr Fd)]) J6).finish (ptr B)) (o:=.cells #[.pointer none] 182) (fun w2=>QF aju afP rfl w2) fun Fp wC l6 u6 d D U=>?_;refine ah 60 _ rfl efs rfl fun J7 wD H _ _ _ _=>?_;have S:=((((((((((g3.trans g4).trans E).trans g6).trans T).trans G).trans A).trans gA).trans R).trans U).trans H);have zSg:=((((((((E.trans g6).trans T).trans G).trans A).trans gA).trans R).trans U).trans H);have t:=((((((T.trans G).trans A).trans gA).trans R).trans U).trans H);have e:=((((A.trans gA).trans R).trans U).trans H);have h:=((R.trans U).trans H);have s0:=g1.grow;have s2:=g3.grow;have s4:=E.grow;have s6:=T.grow;have s8:=A.grow;have s10:=R.grow;have s12:=H.grow;refine gu.write (v:=ptr Fd) (i:=0) (H.at d D) (fun w2 p=>afw ajv rfl rfl p (by simp) yu afQ) D fun wE C K W b V r=>?_;have y:=(K Rf (by omega) (by omega)).trans (S.at g O);have m:=(K Sg (by omega) (by omega)).trans (zSg.at l Q);have s:=(K By (by omega) (by omega)).trans (t.at j L);have x:=(K Mp (by omega) (by omega)).trans (e.at f N);have u:=(K Fd (by omega) (by omega)).trans (h.at z M);have Y:=(g1.trans g2).trans S;exact kk Rf Sg By Mp Fd Fp J7 wE ⟨y,m,s,x,u,C,O,Q,L,N,M,D,by omega,by omega,by omega,by omega,by omega,by omega,by omega,⟨fun a ha ho=>(K a (by have:=Y.grow;omega) (by omega)).trans (Y.old a ha ho),aj Y.grow W,b.trans Y.tape,V.trans Y.env,r.trans Y.output⟩⟩
def y9(Z:Loc->Prop)(B:Nat)(gE:List Nat)(b:Option Addr)(w:World):Prop:=∀i x:Nat,gE[i]?=some x->∃Nb Y,b=some ⟨Nb,0,none⟩/\B<=Nb/\Nb<w.heap.size/\w.heap[Nb]?=some (.cells Y 3)/\Y[i]?=some (.int .i64 (x:Int))/\iV Z Nb
theorem y9.on{B:Nat}{b:Option _}(h:y9 Z B gE b w)(g:gU Z w w'):y9 Z B gE b w':=fun i x U=>by
 obtain⟨Nb,Y,H,D,R,I,A,K⟩:=h i x U;exact⟨Nb,Y,H,D,ay R g.grow,g.at I K,A,K⟩
theorem ahK(hX:X.size<=200)(hP:P.size<=30)(hk:k<=6)(h:1<=q)(S:q<=8)(hs:1<=st)(T:st<=200)(D:PR.globals.size<=w.heap.size)(d:Lay Z w0 X P k q st Rf Sg By Mp Fd Fp w)(s:Nat->Value)
  (kk:∀b cap J w',Lay Z w0 X P k q st Rf Sg By Mp Fd Fp w'->y9 Z w.heap.size (jY X P k q st) b w'->gu PR I Z ((eF ye (jI (aE X P k q st n) Rf Sg By Fp++[(13,.string X),(14,.string P),(15,jE k q st)]) J).finish (gN b (jY X P k q st).length cap)) (c::cs) w'):
  gu PR I Z ((eF zX (jI (aE X P k q st n) Rf Sg By Fp++[(12,ptr Fd)]) s).finish undef) (c::cs) w:=by
 obtain⟨E,W,V,rMp,rFd,rFp,B,C,U,oMp,oFd,oFp,o1,o2,o3,o4,o5,o6,o7,gw⟩:=id d;refine ah 60 _ rfl ee1 rfl fun J8 wF M _ _ ld _=>?_;refine gu.read (fun w2 H=>sa ld xQ H yu) (by rw[cell_of_row _ Rf 0 _ _ _ (M.at E B)];rfl) B fun wG gG=>?_;refine ah 60 _ rfl ee2 rfl fun J9 wH gH _ _ ld _=>?_;refine gu.read (fun w2 H=>sa ld xQ H yu) (by rw[cell_of_row _ Sg 0 _ _ _ (((M.trans gG).trans gH).at W C)];rfl) C fun wI p=>?_;refine ah 60 _ rfl ee3 rfl fun JA wJ r _ _ ld _=>?_;have K:=(((M.trans gG).trans gH).trans p).trans r;have gq:∀w2:World,w2.heap[By]?=some (.cells #[iv k,iv q,iv st] 75)->stepG PR true (G _ (c::cs)) w2=.go _ w2 _:=fun w2 H=>afx ld H yu;have O:∀e∈(#[⟨.cell ⟨By,0,none⟩,false,false⟩,⟨.cell ⟨By,1,none⟩,false,false⟩,⟨.cell ⟨By,2,none⟩,false,false⟩]:Array Event),∃a:Addr,e=⟨.cell a,false,false⟩/\a.block=By:=by simp
 refine gu.reads (K.at V U) gq O U fun wK u=>?_;refine ah 60 _ rfl ee4 rfl fun o wL v _ ca _ _=>?_;refine gu.pure 1 fun wM kM=>?_;rw[ajn];have y:gU Z wL wM:=gU.of kM;have Y:=((K.trans u).trans v).trans y;refine aL fun Q=>?_;refine YX hX hP hk h S hs T (aj D Y.grow) fun nv l A m=>?_;obtain⟨b,cap,rfl,R⟩:∃(b:Option Addr) (cap:Nat),nv=gN b (jY X P k q st).length cap/\y9 Z w.heap.size (jY X P k q st) b l:=by
  rcases A.2 with⟨N,F⟩|⟨g,cap,L,N,F,z,h4,h5,h6,t⟩
  ·refine⟨none,0,by rw[N,F];rfl,fun i x f=>?_⟩;simp_all
  ·refine⟨some _,cap,N,fun i x f=>⟨g,L,rfl,aj Y.grow F,jQ z,z,?_,Q.off F⟩⟩;have j:((jY X P k q st).map oU)[i]?=some (oU x):=by simp_all
   rw[<-t,bh (by have:=(List.getElem?_eq_some_iff.1 f).1;omega),aM]at j;exact j
 exact kk b cap o l (d.on (Y.trans m)) R
theorem ahL(hX:X.size<=200)(hP:P.size<=30)(hk:k<=6)(hs:1<=st)(G:st<=200)(hn:1<=n)(N:n<=8)(M:PR.globals.size<=w.heap.size){w1:World}(hL:Lay Z w0 X P k q st Rf Sg By Mp Fd Fp w){b:Option Addr}(apy:Fp<w1.heap.size)(hN:y9 Z w1.heap.size (jY X P k q st) b w)(JB:Nat->Value)
  (kk:∀Wg J w',gK (iQ Fd Mp Wg X P k st).U (fun a=>a<w.heap.size/\a≠Mp/\iV Z a) w w'->w.heap.size<=Wg->Wg<w'.heap.size->nj (qN X P k st (jY X P k q st)) (w'.heap[Mp]?)->w'.heap[Fd]?=some (.cells #[.int .i32 0,.int .u32 0,.map (some Mp)] 191)->w'.tape=w.tape->w'.output=w.output->Mp<w'.heap.size->gu PR I (fun l=>Z l\/rS (iQ Fd Mp Wg X P k st) l) ((eF zY (jI (aE X P k q st n) Rf Sg By Fp++[(16,gN b (jY X P k q st).length cap),(17,iv n),(18,j_ By Rf Sg Fp)]) J).finish unit) (c::cs) w'):
  gu PR I Z ((eF ye (jI (aE X P k q st n) Rf Sg By Fp++[(13,.string X),(14,.string P),(15,jE k q st)]) JB).finish (gN b (jY X P k q st).length cap)) (c::cs) w:=by
 refine ah 60 _ rfl ee5 rfl fun JC wO m _ _ _ _=>?_;refine gu.pure 1 fun wP kP=>?_;rw[ajo];have t:gU Z wO wP:=gU.of kP;refine ah 60 (Vp (gN b (jY X P k q st).length cap) n (j_ By Rf Sg Fp) _) rfl ra0 rfl fun u wQ gQ _ _ _ _=>?_;refine aD (F:=fun B=>(dF B5 (B6 (gN b (jY X P k q st).length cap) n (j_ By Rf Sg Fp)) u).finish (ptr B)) (o:=.cells #[.int .u64 0,.int .u32 0] 212) (fun w2=>QF ajw afR rfl w2) fun Wg wR l7 u7 A z h=>?_;refine ah 60 (Vq (gN b (jY X P k q st).length cap) n Wg (j_ By Rf Sg Fp) u _) rfl ra1 rfl fun y wS Q _ _ _ _=>?_;refine aD (F:=fun B=>(dF F4 (F5 (gN b (jY X P k q st).length cap) n (j_ By Rf Sg Fp) Wg) y).finish (rh B n)) (o:=.cells (oR [] n) 214) (fun w2=>afv ajx N rfl rfl w2) fun Gv wT l8 u8 D j S=>?_;refine ah 60 (Up b (jY X P k q st).length cap n Wg Gv (j_ By Rf Sg Fp) y _) rfl akD rfl fun JF wU H _ _ _ L=>?_;have gA:=m.trans (t.trans gQ);have K:=(gA.trans h).trans (Q.trans (S.trans H));have C:=((Q.trans S).trans H).at A z;have R:=H.at D j;have s5:=gA.grow;have s7:=Q.grow;have s9:=H.grow;have T:=hL.on K;have hNU:=hN.on K;have sB:=K.grow;have a1:=hL.o7;clear m t gQ h Q S H gA kP A D;obtain⟨r,s,d,p,f,g,oRf,oSg,oBy,oMp,oFd,oFp,o1,o2,o3,o4,o5,o6,o7,gw⟩:=id T;have hG:lu Z Fd Mp Wg Gv By Rf Sg Fp k q st n X P b (jY X P k q st) wU:={
  cin:=⟨d,r,s,g,aj M K.grow⟩
  fd:=f
  mp:=p
  wg:=C
  gv:=R
  num:=fun i x W=>by
   obtain⟨Nb,cur,e,h2,h3,h4,h5,h6⟩:=hN i x W;refine⟨Nb,0,e,?_,by omega,by omega,by omega,by omega,h6⟩;rw[cell_of_row _ Nb (0+i) _ _ _ (K.at h4 h6),aV];exact h5
  off:=fun a Y=>by
   rcases Y with rfl|rfl|rfl|rfl|(rfl|rfl|rfl|rfl)<;>assumption
  fm:=by omega
  fw:=by omega
  fg:=by omega
  mw:=by omega
  mg:=by omega
  F2:=by omega
  kp:=fun a Y=>by
   rcases Y with rfl|rfl|rfl|rfl<;>(refine⟨?_,?_,?_,?_⟩<;>omega)
  n0:=hn
  n8:=N
  len:=by
   have:=GZ P X k q st (o_ P.size k q) (stretches X.size st);have h2:stretches X.size st<=400:=by
    unfold stretches;have:=Nat.div_le_self (X.size+st-1) st;omega
   unfold jY;omega
  hX:=hX
  hP:=hP
  hk:=hk
  gq:=G
  ok:=fun x W=>by
   have e:=(Ci X.size st x hs).2 (Oh _ W);have h2:x<=x *st:=Nat.le_mul_of_pos_right x hs;omega}
 refine hG.phase (cap:=cap) (L.less fun i v hv=>xj (b:=[(18,.bool (decide ((0:Int)<(n:Int))))]) hv) ((L.slot 18 _ rfl).trans (by congr 1;simp)) fun w' hr hm E ht ho V=>?_;have O:∀a,a<w.heap.size/\a≠Mp/\iV Z a->kF Z Mp Gv wU.heap.size a:=fun a Y=>⟨by omega,Y.2.1,by omega,Y.2.2⟩;refine kk Wg JC w' ⟨fun a Y=>?_,aj sB hr.grow,hr.env.trans K.env⟩ (by omega) (by have:=hr.grow;omega) hm E (ht.trans K.tape) (ho.trans K.output) V;have:=hr.kept a (O a Y);rw[K.old a Y.1 Y.2.2]at this;exact this
theorem gu.ajC{f:Frame}{l:List _}{a:Addr}{v:Value}(gq:∀w2,w2.cell? a=some v->stepG PP true (G f l) w2=.go (G f1 l) w2 #[⟨.cell a,false,false⟩])(Y:w.cell? a=some v)(A:iV Z a.block)(k:∀w',gU Z w w'->(∀b,b<w.heap.size->w'.heap[b]?=w.heap[b]?)->gu PP I Z f1 l w'):gu PP I Z f l w:=by
 have D:a.block<w.heap.size:=Nat.lt_of_not_le fun y=>by simp[ao,bD y]at Y
 refine aI (U:=fun _ _=>False) (S:=fun b=>b=a.block) (X:=fun _=>False) (Done:=fun S X f' l' w'=>X=(fun _=>False)/\f'=f1/\l'=l) (Tr.one fun w2 hr=>?_) (fun b h=>by simp_all) fun S' X' f' l' w' hd hk=>?_
 ·have K:w2.cell? a=some v:=by
   simp[ao]at Y⊢;rw[(hr.kept _ rfl).eq (fun i y=>y)];exact Y
  exact⟨_,_,_,_,_,_,gq w2 K,(uP (U:=fun _ _=>False) (S:=fun b=>b=a.block) rfl id).toDid,.stop ⟨rfl,rfl,rfl⟩⟩
 ·obtain⟨rfl,rfl,rfl⟩:=hd;exact k w' (gU.of hk) fun b H=>hk.kept b H id
theorem QW{Wg:Nat}{a:Nat}(h:iV Z a)(H:a≠Fd)(D:a≠Wg):iV (fun l=>Z l\/rS (iQ Fd Mp Wg X P k st) l) a:=by
 intro l Y y;rcases y with y|y
 ·exact h l Y y
 ·cases l with
  |cell ad=>
   have:=Y;rcases y.1 with e|e
   ·exact H (this.symm.trans e)
   ·exact D (this.symm.trans e)
  |_=>exact y.elim
theorem Xk(hX:X.size<=200)(hP:P.size<=30)(hk:k<=6)(hq:1<=q)(g:q<=8)(h:1<=st)(M:st<=200)(hn:1<=n)(d:n<=8)(A:PR.globals.size<=w.heap.size)
  (kk:∀Z' Mp w',(∀l,Z l->Z' l)->(∀l,Z' l->Z l\/∃a:Addr,l=.cell a/\w.heap.size<=a.block)->gU Z w w'->w.heap.size<=Mp->iV Z' Mp->nj (qN X P k st (jY X P k q st)) (w'.heap[Mp]?)->Mp<w'.heap.size->gu PR I Z' (c.finish (.map (some Mp))) cs w'):
  gu PR I Z (Frame.enter PR 122 #[.string X,.string P,jE k q st,iv n] .normal) (c::cs) w:=by
 refine ahJ fun Rf Sg By Mp Fd Fp i w1 Q=>?_;refine ahK hX hP hk hq g h M (aj A Q.oV.grow) Q i fun b cap J2 w2 Y hN=>?_;refine ahL hX hP hk h M hn d (aj A Y.oV.grow) Y Q.o7 hN J2 fun Wg J3 w3 j hW1 hW2 hM hF ht ho vy=>?_;have o1:=Y.o1;have o2:=Y.o2;have o3:=Y.o3;have o4:=Y.o4;have o5:=Y.o5;have o6:=Y.o6;have o7:=Y.o7;have s3:=j.grow;have key:=fun a m t h3 F=>(j.kept a ⟨m,t,h3⟩).eq (xw F (by omega));have s:w3.heap[Fp]?=some (.cells #[ptr Fd] 182):=(key Fp o7 (by omega) Y.Gh (by omega)).trans Y.fp;have H:gU Z w w3:=⟨fun a C B=>(key a (by omega) (by omega) B (by omega)).trans (Y.oV.old a C B),aj Y.oV.grow s3,ht.trans Y.oV.tape,j.env.trans Y.oV.env,ho.trans Y.oV.output⟩;have N:iV (fun l=>Z l\/rS (iQ Fd Mp Wg X P k st) l) Fp:=QW Y.Gh (by omega) (by omega);have r:iV (fun l=>Z l\/rS (iQ Fd Mp Wg X P k st) l) Mp:=QW Y.MO (by omega) (by omega);clear key;refine ah 60 _ rfl ee6 rfl fun J4 w4 R F _ ld _=>?_;refine gu.ajC (a:=⟨Fp,0,none⟩) (fun w2 z=>sa ld SB z yu) (by rw[cell_of_row _ Fp 0 _ _ _ (R.at s N)];rfl) N fun w5 O T=>?_;refine ah 60 (Vo X P k q st n Rf Sg By Fd Fp J4 (c::cs)) rfl ee7 rfl fun J5 w6 g6 V _ p _=>?_;have J:=(V Fd (by have:=R.grow;have:=O.grow;omega)).trans ((T Fd (by have:=R.grow;omega)).trans ((F Fd (by omega)).trans hF));have E:w6.heap[Mp]?=w3.heap[Mp]?:=(V Mp (by have:=R.grow;have:=O.grow;omega)).trans ((T Mp (by have:=R.grow;omega)).trans (F Mp (by omega)));have D:=(R.trans O).trans g6;have s36:=D.grow;refine gu.tz (U:=(iQ Fd Mp Wg X P k st).U) (S:=fun a=>a=Fd) (X:=fun _=>False) (Done:=fun S' X' x w'=>X'=(fun _=>False)/\x=G ((eF Mo (jI (aE X P k q st n) Rf Sg By Fp) J5).finish (.map (some Mp))) (c::cs)) (Tz.one rfl fun u f=>?_) (fun hlo a C=>?_) fun S' X' x u hd hk=>?_
 ·have z:u.cell? ⟨Fd,2,none⟩=some (.map (some Mp)):=qH (U:=(iQ Fd Mp Wg X P k st).U) (S:=fun a=>a=Fd) rfl (fun y=>by have:=y.2;omega) (by rw[cell_of_row _ Fd 2 _ _ _ J];rfl) f;exact⟨_,u,_,_,_,sa p ahH z yu,uP rfl (fun y=>by have t:(2:Nat)<2:=y.2;omega),.stop ⟨rfl,rfl⟩⟩
 ·subst C;refine⟨jQ J,fun l L B=>?_⟩;rcases B with y|y
  ·exact absurd y (Y.MP l L)
  ·cases l with
   |cell ad=>exact⟨ad,rfl,y⟩
   |_=>exact y.elim
 ·obtain⟨rfl,rfl⟩:=hd;refine⟨_,_,rfl,gu.pure 4 fun v K=>?_⟩;rw[ahI];have W:v.heap[Mp]?=w3.heap[Mp]?:=(K.kept Mp (by have:=hk.grow;omega) id).trans ((hk.kept Mp (by omega) id).trans E);have s8:=K.grow;have s7:=hk.grow;refine kk _ Mp v (fun l L=>.inl L) (fun l L=>?_) ?_ (by omega) r (by rw[W];exact hM) (by omega)
  ·rcases L with y|y
   ·exact .inl y
   ·cases l with
    |cell ad=>
     refine .inr ⟨ad,rfl,?_⟩;have:=Y.oV.grow;rcases y.1 with e|e
     ·rw[e];exact aj (by omega) (af Fd)
     ·rw[e];exact aj (by omega) (af Wg)
    |_=>exact y.elim
  ·have o:∀a,a<w.heap.size->iV Z a->v.heap[a]?=w3.heap[a]?:=fun a C B=>by
    have m:=Y.oV.grow;exact(K.kept a (by omega) id).trans ((hk.kept a (by omega) id).trans ((V a (by have:=R.grow;have:=O.grow;omega)).trans ((T a (by have:=R.grow;omega)).trans (F a (by omega)))))
   exact⟨fun a C B=>(o a C B).trans (H.old a C B),by have:=H.grow;omega,K.tape.trans (hk.tape.trans (D.tape.trans H.tape)),K.env.trans (hk.env.trans (D.env.trans H.env)),K.output.trans (hk.output.trans (D.output.trans H.output))⟩
end
end Ph
namespace Ph
open Conc Ren
theorem su{a:Nat}(H:∀l,Z' l->Z l\/∃a:Addr,l=.cell a/\w.heap.size<=a.block)(h:iV Z a)(D:a<w.heap.size):iV Z' a:=by
 intro l Y y;rcases H l y with y|⟨ad,rfl,K⟩
 ·exact h l Y y
 ·have:ad.block=a:=Y;omega
end Ph
namespace Ph
open Conc Ren
open Maps (Keyed IsMap Tidy has)
theorem adP{g:ma}{b:Nat}(h:nj g (w.heap[b]?)):∃A l,w.ownsMap PR 3 (plainElem PR 3) b A (.map l)/\vr l g/\l.Pairwise (fun p q=>p.1≠q.1):=by
 obtain⟨es,clock,l,K,F,H,D⟩:=h;have Y:w.ownsMap PR 3 _ b _ (.map l):=⟨es,clock,K,F,af _,by rw[H]⟩;refine⟨es.size,l,Y,D,?_⟩;obtain⟨l',R,I,_⟩:=Y.entries BV;simp_all
theorem adQ{g:ma}{b nn:Nat}{l:List _}(A:w.ownsMap PR 3 (plainElem PR 3) b nn (.map l))(H:vr l g){e d:Nat}(U:g e=some d)(D:e<1000000):(bG 166 (.map (some b)) (.int .i64 e) false).run PR w=.ok (.int .i64 d) w:=by
 have Y:keyOf PR 3 (.int .i64 e)=some (.int .i64 e):=by
  unfold keyOf;simp[mapKey,AY D]
 obtain⟨c,K,R,I⟩:=A.lookup_int BV u166 u3 (Tu w) Y;have:=H.at_ e;simp_all
theorem YY{g:ma}{l:List _}(H:vr l g)(C:l.Pairwise (fun p q=>p.1≠q.1))(L:List Nat)(U:L.Pairwise (· < ·))(B:∀e,e∈L↔(g e).isSome=true):
  (∀A:List Int,A.Perm (intKeys (.map l))->A.mergeSort (fun x y=>decide (x<=y))=L.map (fun e=>((e:Nat):Int)))/\l.length=L.length:=by
 have Y:(L.map (fun e=>((e:Nat):Int))).Perm (intKeys (.map l)):=by
  refine perm_intKeys C (fun p K=>by obtain⟨e,_,h⟩:=H.keys p K;simp_all) ?_ fun x=>?_
  ·show List.Pairwise _ _
   rw[bN];exact U.imp fun h e=>by omega
  ·rw[aU];constructor
   ·rintro⟨e,J,rfl⟩;rw[H.has e];simp_all
   ·intro h;have h':=h;rw[Go.Maps.has_eq,List.any_eq_true]at h';obtain⟨p,K,D⟩:=h';obtain⟨e,_,I⟩:=H.keys p K;rw[I]at D;have F:=by simpa[Lit.sameKey]using D
    subst F;rw[H.has e]at h;exact⟨e,(B e).2 h,rfl⟩
 refine⟨fun A D=>?_,?_⟩
 ·have R:=mergeSort_of_perm_i (D.trans Y.symm);rw[R];refine List.mergeSort_of_pairwise ?_;rw[bN];exact U.imp fun h=>by simp;omega
 ·have:=Y.length_eq;simp[intKeys]at this;omega
end Ph
namespace Ph
theorem Oi(e:Nat):∀(L:List (Nat×Nat)) (g:ma),(∀d,L.foldl better g e=some d->g e=some d\/(e,d)∈L)/\(∀d',(e,d')∈L->∃d,L.foldl better g e=some d/\d<=d')/\(∀d',g e=some d'->∃d,L.foldl better g e=some d/\d<=d')
 |[],g=>⟨fun d h=>.inl h,(fun d' h=>by cases h),fun d' h=>⟨d',h,af _⟩⟩
 |(x,y)::L,g=>by
  obtain⟨U,B,I⟩:=Oi e L (better g (x,y));by_cases A:e=x
  ·subst A;have H:g e=none->better g (e,y) e=some y:=fun h=>by simp[better,h]
   have Y:∀z,g e=some z->better g (e,y) e=some (min z y):=fun z h=>by simp[better,h]
   refine⟨fun d hd=>?_,fun d' K=>?_,fun d' K=>?_⟩
   ·rcases U d hd with h|h
    ·cases D:g e with
     |none=>rw[H D]at h;simp_all
     |some z=>
      rw[Y z D]at h;simp only[Option.some.injEq]at h;rcases Nat.le_total z y with C|C
      ·simp_all
      ·simp_all
    ·simp_all
   ·rcases List.mem_cons.1 K with h|h
    ·cases h;have:∃z,better g (e,y) e=some z/\z<=y:=by
      cases D:g e with
      |none=>exact⟨y,H D,af _⟩
      |some z=>exact⟨min z y,Y z D,Nat.min_le_right _ _⟩
     obtain⟨z,F,J⟩:=this;obtain⟨d,hd,R⟩:=I z F;exact⟨d,hd,by omega⟩
    ·exact B d' h
   ·have:=Y d' K;obtain⟨d,hd,R⟩:=I _ this;exact⟨d,hd,by omega⟩
  ·have M:better g (x,y) e=g e:=by simp[better,A]
   simp_all
theorem Oj(X P:ByteArray)(k st:Nat):∀(gE:List Nat) g,gE.foldl (fun g x=>(ll X P k st x).foldl better g) g=(gE.flatMap (ll X P k st)).foldl better g
 |[],g=>rfl
 |x::l,g=>by simp;exact Oj X P k st l _
theorem YZ(X P:ByteArray)(k q st:Nat)(B:1<=q)(gq:1<=st)(H:k<P.size)(e:Nat):qN X P k st (jY X P k q st) e=if e<=X.size/\(gX P X k e).1<=k then some (gX P X k e).1 else none:=by
 unfold qN;rw[Oj];obtain⟨I,A,_⟩:=Oi e ((jY X P k q st).flatMap (ll X P k st)) _;have ge:∀d,(e,d)∈(jY X P k q st).flatMap (ll X P k st)->e<=X.size/\d<=k/\(gX P X k e).1<=d:=by
  intro d hd;obtain⟨x,D,K⟩:=bJ.1 hd;have R:=(G0 _).1 D;have:=(Ci _ st x gq).2 R.1;exact adK X P k q st x e d (by omega) K
 by_cases Y:e<=X.size/\(gX P X k e).1<=k
 ·rw[if_pos Y];obtain⟨x,D,K⟩:=aan X P k q st e B gq Y.1 Y.2 H;obtain⟨d,hd,U⟩:=A _ (bJ.2 ⟨x,D,K⟩);rw[hd];rcases I d hd with h|h
  ·cases h
  ·have:=ge d h;congr 1;omega
 ·rw[if_neg Y];cases hr:((jY X P k q st).flatMap _).foldl better _ e with
  |none=>rfl
  |some d=>
   rcases I d hr with h|h
   ·cases h
   ·have:=ge d h;omega
end Ph
namespace Ph
open Conc Ren
def lq(w:World):Prop:=∀g,g=0\/g=2\/g=3->∃(c:Array Value) (t:TypeId) (fz:Nat×Nat),w.heap[g]?=some (.cells c t fz)/\∀x∈c,∃k n,x=Value.int k n
theorem lq.same(h:lq w)(e:∀g,g=0\/g=2\/g=3->w'.heap[g]?=w.heap[g]?):lq w':=fun g Y=>by rw[e g Y];exact h g Y
theorem Aq(h:iU w)(e:w'.heap[0]?=w.heap[0]?):iU w':=by
 have Y:Program.globalNamed Tryz.prog "internal/strconv.uint64pow10"=some 0:=by kernel_rfl
 unfold iU Lib.TabIs World.var? at *;simp_all
theorem PU{i:Nat}{v:Value}:∀{al:List _},al.lookup i=some v->∃p∈al,p.2=v
 |[],h=>by cases h
 |(a,b)::al,h=>by
  rw[List.lookup_cons]at h;split at h
  ·simp_all
  ·obtain⟨p,Y,e⟩:=PU h;exact⟨p,by simp[Y],e⟩
theorem ahM:lH K0 PR false vN=true:=by decide+kernel
def nb(X P rn rm:ByteArray)(fl:Bool)(k:Nat):=(jg P X k).map fun e=>qY (pF X P rn rm fl (fun e=>(gX P X k e).2) (fun e=>(gX P X k e).1) e)
def uM (X P:ByteArray) (k q st n b5 b6 Mp:Nat) (i:Nat):Value:=(([(19,rk b5 1),(20,.string X),(21,rk b6 1),(22,.string P),(23,jE k q st),(24,iv n),(25,.map (some Mp))]:List (Nat×Value)).lookup i).getD undef
section
variable{I:QT}{Z:Loc->Prop}{w:World}{c:Frame}{cs:List Frame}{XN X rn P rm:ByteArray}{fl:Bool}{k q st n:Nat}
theorem afS(hX:X.size<=200)(hP:P.size<=30)(hk:k<=6)(N:k<P.size)(s:1<=q)(u:1<=st){w1:World}{b8:Nat}(A:w1.heap[b5]?=some (.cells #[.string XN,.string X] 68))(U:w1.heap[b6]?=some (.cells #[.string rn,.string P,.string rm] 131))(d:nj (qN X P k st (jY X P k q st)) (w1.heap[Mp]?))(O:Mp<w1.heap.size)(g:iU w1)(T:Nat->Question->Nat):
  vN.wp PR (bodyPost PR aB fun e v=>∃y,e=.returned y/\v.ownsRow w1.heap.size 136 1 y (jg P X k).length (nb X P rn rm fl k)/\(jg P X k=[]->y=.slice none 0 0)/\∀a,a<w1.heap.size->v.heap[a]?=w1.heap[a]?) ⟨Gg (pG XN X) (oX rn P rm) (jE k q st) (iv n) fl b5 b6 b8 Mp (uM X P k q st n b5 b6 Mp),[]⟩ (tp w1 T):=by
 obtain⟨E,l,I,S,Q⟩:=adP d;have f:=YZ X P k q st s u N;have o:∀e,e∈jg P X k↔(qN X P k st (jY X P k q st) e).isSome=true:=by
  intro e;rw[H4,f e];simp_all
 obtain⟨R,Z⟩:=YY S Q _ (aam P X k) o;have c:=Av P X k;have Y:∀W:World,W.heap[Mp]?=w1.heap[Mp]?->W.ownsMap PR 3 (plainElem PR 3) Mp E (.map l):=by
  intro W J;obtain⟨es,clock,H,r⟩:=I;exact⟨es,clock,J.trans H,r⟩
 refine wp_mono (abX X P rn rm XN fl (jg P X k) (fun e=>(gX P X k e).2) (fun e=>(gX P X k e).1) _ _ _ _ b5 b6 b8 Mp _ _ hX hP (by omega) (by omega) A U ?_ ?_ O ?_ (Aq g rfl)) ?_
 ·refine(XG Mp E _ _ (tp w1 T) (Y _ rfl) (by show l.length<=_;omega)).mono ?_;rintro e w' ⟨v,G,rfl,V,K,H⟩;refine⟨v,rfl,?_,H⟩;have j:=R G V;rw[j]at K;have z:G.length=(jg P X k).length:=by
   have:=V.length_eq;simp[intKeys]at this;omega
  rw[z,br]at K;exact K
 ·intro W J e M;have hd:qN X P k st (jY X P k q st) e=some (gX P X k e).1:=by simp_all
  exact adQ (Y W J) S hd (by have:=((H4 P X k e).1 M).1;omega)
 ·intro e M;obtain⟨a1,a2,a3,a4,a5⟩:=Og P X k e M;exact⟨a1,by omega,a3,a4,a5⟩
 ·intro e a v H;cases e with
  |normal=>obtain⟨B,y,C,v',D,F,A,U⟩:=H;exact⟨B,y,C,v',D,F,U,fun a L=>A.block a L⟩
  |ret=>obtain⟨B,y,C,v',D,F,A,U⟩:=H;exact⟨B,y,C,v',D,F,U,fun a L=>A.block a L⟩
  |panic ch=>obtain⟨B,v',D,_⟩:=H;cases D
  |outgrown=>obtain⟨v',D,_⟩:=H;cases D
  |exit id=>exact H
  |goto l=>exact H
end
end Ph
namespace Ph
open Conc Ren
open WideElems (Fit rd rg rd_val)
theorem aaq{g:ma}{es:Array _}{clock:Nat}(h:nj g (some (.map es clock))):∀x∈es,∃a b,x.key=.int .i64 a/\x.val=.int .i64 b:=by
 obtain⟨iD,K,l,H,F,_⟩:=h;cases H;intro x U;have Y:x∈es.toList:=by simp_all
 obtain⟨a,I⟩:=Iq F x Y;obtain⟨y,D⟩:=F.reads x Y;obtain⟨z,R,_⟩:=rd_val D;obtain⟨b,A,_⟩:=plainElem_int_inv u3 R;simp_all
theorem abY[gB]{r:Rn}{c c':Array _}(h:VA r c c')(D:∀x∈c,∃k n,x=Value.int k n):c'=c:=by
 apply Array.ext
 ·exact h.size.symm
 ·intro i H Y;have K:=h.at_ i _ _ (ax Y) (ax H);obtain⟨k,n,e⟩:=D _ (Array.getElem_mem Y);rw[e]at K⊢;exact PS K
end Ph
namespace Ph
open Conc Ren
@[reducible] def gv:gB:=K0.ju PR A9 xi xl tZ
@[reducible] def gr(k:List Item):gB:=K0.ju PR A9 xi (fun x=>x=k) tZ
theorem ahN(k:List Item):Bu gv (gr k):=⟨rfl,fun _ h=>h,fun _ h=>h,fun _ h=>h,fun _=>Iff.rfl,fun _ _ h=>h⟩
theorem ahO(k:List Item):Bu (gr k) gv:=⟨rfl,fun _ h=>h,fun _ h=>h,fun _ h=>h,fun _=>Iff.rfl,fun _ _ h=>h⟩
abbrev RN:=@Rn gv
structure Al(Z:Loc->Prop)(r:RN)(v w:World):Prop where
 w:@Ren.W gv r 0 v w
 gi:@GI gv r
 off:∀a,@Rd gv r a->iV Z a
structure Ke(w w':World):Prop where
 tape:w'.tape=w.tape
 env:mD w'.os w.os
 output:w'.output=w.output
 grow:w.heap.size<=w'.heap.size
theorem Ke.trans{w w1 w2:World}(h:Ke w w1)(k:Ke w1 w2):Ke w w2:=⟨k.tape.trans h.tape,k.env.trans h.env,k.output.trans h.output,aj h.grow k.grow⟩
theorem Ke.of{X:Nat->Prop}(h:Kept X X' w w'):Ke w w':=⟨h.tape,h.env,h.output,h.grow⟩
section
variable{I:Bool}{Q:QT}{R:Value->World->Prop}{Z:Loc->Prop}{r:RN}{v w w':World}{fn:FuncId}{k k':List Item}{a:Array Value}
theorem Al.low(h:Al Z r v w){b:Nat}(Y:@Rd gv r b):b<w.heap.size:=by
 letI:=gv
 obtain⟨c,K⟩:=Y;exact(h.w.lt K).2
theorem Al.on(h:Al Z r v w)(hk:∀b,@Rd gv r b->w'.heap[b]?=w.heap[b]?)(Y:Ke w w'):Al Z r v w':=
 ⟨@W.rely gv (fun _ _=>False) r 0 v w w' h.w (fun _ _ _ _ y=>y.elim) ⟨fun b K=>.inl (hk b K),Y.grow,Y.env⟩,h.gi,h.off⟩
theorem Al.quiet(h:Al Z r v w)(hk:Kept (fun _=>False) X' w w'):Al Z r v w':=h.on (fun b Y=>hk.kept b (h.low Y) id) (.of hk)
structure Kz(Z:Loc->Prop)(r:RN)(w:World)(Z':Loc->Prop)(r':RN)(w':World):Prop where
 ke:Ke w w'
 kept:∀b,b<w.heap.size->¬ @Rd gv r b->iV Z b->w'.heap[b]?=w.heap[b]?
 may:∀b,b<w.heap.size-> @Rd gv r' b-> @Rd gv r b
 more:∀l,Z l->Z' l
 only:∀l,Z' l->Z l\/∃a:Addr,l=.cell a/\w.heap.size<=a.block
theorem Kz.trans{Z1 Z2:Loc->Prop}{r1 r2:RN}{w1 w2:World}(h:Kz Z r w Z1 r1 w1)(k:Kz Z1 r1 w1 Z2 r2 w2):Kz Z r w Z2 r2 w2:=
 have g:=h.ke.grow
 ⟨h.ke.trans k.ke,fun b Y K H=>(k.kept b (by omega) (fun y=>K (h.may b Y y)) (su h.only H Y)).trans (h.kept b Y K H),fun b Y y=>h.may b Y (k.may b (by omega) y),fun l y=>k.more l (h.more l y),fun l y=>(k.only l y).elim (h.only l) fun⟨a,e,q⟩=>.inr ⟨a,e,by omega⟩⟩
theorem Kz.of{X:Nat->Prop}{r':RN}(h:Kept X X' w w')(H:∀a,X a-> @Rd gv r a)(D:∀a,@Rd gv r' a->X' a):Kz Z r w Z r' w':=
 ⟨.of h,fun b Y K _=>h.kept b Y fun y=>K (H b y),fun b Y y=>(h.may b (D b y)).elim (H b) fun q=>by omega,fun _ y=>y,fun _ y=>.inl y⟩
theorem Kz.qt(h:Kept (fun _=>False) X' w w'):Kz Z r w Z r w':=⟨.of h,fun b Y _ _=>h.kept b Y id,fun _ _ y=>y,fun _ y=>y,fun _ y=>.inl y⟩
theorem Al.fin{r':RN}(Y:Al Z r v w)(U:qo Z w.heap.size)(D:@Le gv r r')(A:@Ren.W gv r' 0 v' w')(H:Kept (@Wr gv r) (@Wr gv r') w w'):Al Z r' v' w'/\Kz Z r w Z r' w':=by
 letI:=gv
 exact⟨⟨A,Y.gi.mono D,fun b ⟨b0,R⟩=>(H.may b ⟨b0,R,id⟩).elim (fun⟨K,h,_⟩=>Y.off b ⟨K,h⟩) U.off⟩,.of H (fun _ ⟨b,e,_⟩=>⟨b,e⟩) fun _ ⟨b,e⟩=>⟨b,e,id⟩⟩
def akZ(Q:QT)(Z:Loc->Prop)(x:Value)(l:List Frame)(w:World):Prop:=match l with
 |c::cs=>gu PR Q Z (c.finish x) cs w
 |[]=>∀f,(∀u,stepG PR true (G f []) u=.ended (.done x) u #[])->gu PR Q Z f [] w
theorem Dt(h:l.isEmpty=false):∃c cs,l=c::cs:=by
 cases l with
 |nil=>cases h
 |cons c cs=>exact⟨c,cs,rfl⟩
def Kt(Q:QT)(R:Value->World->Prop)(r:RN)(Z:Loc->Prop)(w:World)(l:List Frame):Prop:=
 ∀(r':RN) (Z':Loc->Prop) (x x':Value) (v' w':World),@Le gv r r'-> @V gv r' x x'->Al Z' r' v' w'->Kz Z r w Z' r' w'->R x v'->akZ Q Z' x' l w'
theorem Kt.on{r':RN}(h:Kt Q R r Z w l)(hr:@Le gv r r')(hw:Kz Z r w Z1 r' w'):Kt Q R r' Z1 w' l:=
 fun r2 Z' x x' v' w2 Y K H D I=>h r2 Z' x x' v' w2 (@Le.trans gv r r' r2 hr Y) K H (hw.trans D) I
def gW(Q:QT)(g:FuncId)(args:Array Value)(v:World)(R:Value->World->Prop):Prop:=
 ∀(r:RN) (Z:Loc->Prop) (w:World) (Y:Array Value) (c:Frame) (cs:List Frame),@VA gv r args Y->Al Z r v w->Kt Q R r Z w (c::cs)->gu PR Q Z (Frame.enter PR g Y .normal) (c::cs) w
abbrev bf(fn:FuncId):Frame:=⟨fn,#[],[],[],.run,.normal,none⟩
def GW(I:Bool)(Q:QT)(R:Value->World->Prop)(fn:FuncId)(k:List Item)(a:Array Value)(v:World):Prop:=
 ∀(r:RN) (Z:Loc->Prop) (w:World) (t:Array Value) (l:List Frame),l.isEmpty=I-> @VA gv r a t->Al Z r v w->Kt Q R r Z w l->gu PR Q Z ((bf fn).at ⟨t,[]⟩ k) l w
theorem GW.run(n:Nat)(g:GW I Q R fn k' a v)(h:∀t l,gF PR n ((bf fn).at ⟨t,[]⟩ k) l=((bf fn).at ⟨t,[]⟩ k',l):=by intro t l;kernel_rfl):GW I Q R fn k a v:=by
 intro r Z w t l K H Y D;refine gu.pure n fun w' hk=>?_;rw[h];exact g r Z w' t l K H (Y.quiet hk) (D.on (fun _ _ e=>e) (.qt hk))
theorem ajD(Y:∃F,PR.funcs[fn]?=some F){t:Array Value}(H:@VA gv r a t):@FR gv PR r true ((bf fn).at ⟨a,[]⟩ []) ((bf fn).at ⟨t,[]⟩ []):=by
 letI:=gv
 exact⟨rfl,H,.nil,.nil,.run,rfl,.inl rfl,.none,fun _=>Y⟩
theorem yP(Y:∃F,PR.funcs[fn]?=some F){t:Array Value}(D:@VA gv r a t)(H:@GI gv r){x:Operand}(A:@jr gv x):@V gv r (Act.eval ⟨a,[]⟩ x) (Act.eval ⟨t,[]⟩ x):=by
 letI:=gv
 have:=(ajD Y D).eval H x A
 rwa [bk,bk]at this
theorem GW.cond(Y:∃F,PR.funcs[fn]?=some F){x:Operand}{p q:Code}{t:Bool}(C:@jr gv x)(U:Act.eval ⟨a,[]⟩ x=.bool t)(g:GW I Q R fn (.code (if t then p else q)::k) a v):GW I Q R fn (.code (.cond x p q)::k) a v:=by
 intro r Z w u l B H K J;have A:Act.eval ⟨u,[]⟩ x=.bool t:=by
  have:=yP Y H K.gi C;rw[U]at this;generalize Act.eval ⟨u,[]⟩ x=y at this;cases this;rfl
 refine gu.pure 1 fun w' hk=>?_;have e:gF PR 1 ((bf fn).at ⟨u,[]⟩ (.code (.cond x p q)::k)) l=((bf fn).at ⟨u,[]⟩ (.code (if t then p else q)::k),l):=by
  have D:Frame.eval ⟨fn,u,.code (.cond x p q)::k,[],.run,.normal,none⟩ x=.bool t:=(bk (bf fn) ⟨u,[]⟩ _ x).trans A;simp only[gF,oF,Frame.at,prun,D]
 rw[e];exact g r Z w' u l B H (K.quiet hk) (J.on (fun _ _ e=>e) (.qt hk))
theorem GW.piece(V:∃F,PR.funcs[fn]?=some F){p:Code}(hp:lH K0 PR false p=true){R1:Array Value->World->Prop}(hk:AR k=true)(s:∀T,p.wp PR (fun e a' v'=>e=.normal/\a'.defers=[]/\R1 a'.tmps v') ⟨a,[]⟩ (tp v T))
  (g:∀a' v',R1 a' v'->GW I Q R fn k a' v'):GW I Q R fn (.code p::k) a v:=by
 intro r Z w t l m i Y kk;refine aL fun K=>?_;have B:=ahN k;have A:=ahO k
 letI:=gr k
 have H:lO PR false p:=yr (fun _ _ h=>h) hp;have u:FR PR (oO B r) true ((bf fn).at ⟨a,[]⟩ (.code p::tU)) ((bf fn).at ⟨t,[]⟩ (.code p::k)):=by
  refine⟨rfl,uT B i,?_,.nil,.run,rfl,.inl rfl,.none,fun _=>V⟩;show IL PR _ false true (.code p::tU) (.code p::k)
  exact .cons (.code H) (.rest rfl rfl rfl hk)
 have n:=OG (main:=true) (U:=fun _ _=>False) (A_ (fun x=>x=k) tZ) (fun ops h=>by cases h) (r0:=oO B r) (fun g X=>Y.gi g X) s rfl H u (gM:=l) (JS B Y.w) (fun _ _ _ _ h=>h.elim) (fun _ _ h=>h.elim);refine aI (U:=fun _ _=>False) n (fun b C=>⟨Y.off b C,Y.low C⟩) fun S' X' f' l' w' hd q=>?_;obtain⟨rfl,r',a',v',W,f,j,z,⟨P,o⟩,_,_,D,f1,f2,E,G,f5,f6⟩:=Pj (kr:=k) (fun k h=>h) hd;subst j z;obtain⟨M,tmps,todo,defers,mode,kind,ro⟩:=f';simp only at f1 f2 E G f5 f6 D;rw[P]at f6;have S:defers=[]:=by
  generalize defers=d at f6;cases f6 with
  |nil=>rfl
  |rest _ h=>exact h.elim
 subst S E G f5;have J:M=fn:=f1;have L:kind=.normal:=f2;subst J L;have N:Al Z (oO A r') v' w':=⟨JS A f,fun g X=>W _ _ (Y.gi g X),fun b C=>?_⟩
 ·exact g a'.tmps v' o (oO A r') Z w' tmps _ m (uT A D) N (kk.on (fun b c e=>W b c e) (.of q (fun _ ⟨b,e,_⟩=>⟨b,e⟩) fun _ ⟨b,e⟩=>⟨b,e,id⟩))
 ·rcases q.may b ⟨_,C.choose_spec,fun h=>h⟩with y|y
  ·obtain⟨b0,O,_⟩:=y;exact Y.off b ⟨b0,O⟩
  ·exact K.off y
theorem GW.rest{F:Func}(Y:PR.funcs[fn]?=some F){p:Code}(N:lH K0 PR false p=true)(M:∀T,p.wp PR (bodyPost PR F fun e v'=>∃x,e=.returned x/\R x v') ⟨a,[]⟩ (tp v T)):GW false Q R fn [.code p] a v:=by
 intro r Z w t l L O H P;obtain⟨c,cs,rfl⟩:=Dt L;refine aL fun K=>?_
 letI:=gv
 have D:lO PR false p:=yr (fun _ _ h=>h) N;refine gu.rest (A_ xl tZ) (fun _ h=>by cases h) (fun _ h=>h) H.gi (b:=bf fn) Y rfl M (fun e u h=>h.imp fun x y=>y.1) (f':=(bf fn).at ⟨t,[]⟩ [.code p]) ⟨rfl,O,.cons (.code D) .nil,.nil,.run,rfl,.inl rfl,.none,fun _=>⟨_,Y⟩⟩ H.w H.off fun r' v' x x' w' I A U B C=>?_;obtain⟨y,e,J⟩:=B;cases e;have z:=H.fin K I U C;exact P r' Z x x' v' w' I A z.1 z.2 J
end
theorem adR{U:Nat->Nat->Prop}(S X:Nat->Prop)(w:World):kh U S X w {w with drawn:=w.drawn+1} #[] S X:=⟨⟨fun _ _ _=>rfl,af _,fun a=>⟨.inl,fun h=>h.resolve_right fun y=>by have:=y.2;simp at this;omega⟩,fun a=>⟨.inl,fun h=>h.resolve_right fun y=>by have:=y.2;simp at this;omega⟩,fun e Y=>by simp_all,rfl,.refl _,rfl⟩,fun e Y=>by simp_all⟩
section
variable{P:Program}{Q:QT}{Z:Loc->Prop}{w:World}{cs:List Frame}
theorem gu.pick{b:Frame}{a:Act}{k:List Item}{id:Nat}{ops:Array Oper}(h:∀t w',gU Z w w'->(∀b,b<w.heap.size->w'.heap[b]?=w.heap[b]?)->gu P Q Z (b.at a (.inRegion ops (bu (P.follows .mixedOrders) ops t)::k)) cs w'):gu P Q Z (b.at a (.code (.region id ops true)::k)) cs w:=by
 refine aI (U:=fun _ _=>False) (S:=fun _=>False) (Done:=fun S X f' l' w'=>X=(fun _=>False)/\l'=cs/\∃t,f'=b.at a (.inRegion ops (bu _ ops t)::k)) (Tr.one fun w2 hr=>⟨_,_,_,_,_,_,stepG_region_draw,(adR (U:=fun _ _=>False) _ _ w2).toDid,.stop ⟨rfl,rfl,_,rfl⟩⟩) (fun b h=>h.elim) fun S' X' f' l' w' hd hk=>?_;obtain⟨rfl,rfl,t,rfl⟩:=hd;exact h t w' (gU.of hk) fun b Y=>hk.kept b Y (fun y=>y)
end
theorem mixed:PR.follows .mixedOrders=true:=by kernel_rfl
theorem sched{ops:Array Oper}(t:Nat):bu (PR.follows .mixedOrders) ops t=Region.linearise.go .any ops ops.size t (aN ops.size false) []:=by
 rfl
theorem D5{md:Region.Mode}{ops:Array Oper}{i:Nat}(h:Region.ready md ops listed=[i])(fuel t:Nat):Region.linearise.go md ops (fuel+1) t listed []=i::Region.linearise.go md ops fuel (t/1) (listed.setIfInBounds i true) []:=by
 change(match(Region.ready md ops _)[t%(Region.ready md ops _).length]? with
   |some i=>Region.linearise.go md ops _ (t/(Region.ready md ops _).length) _ [i]
   |none=>[].reverse)=_
 rw[h];simp only[List.length_singleton,Nat.mod_one,List.getElem?_cons_zero];rw[linearise_go_acc,bO,bP]
def ab:List Bool:=[false,true]
theorem kZ{f:Bool->Bool}(h:ab.all f=true)(d:Bool):f d=true:=aQ.1 h d (by cases d<;>simp[ab])
def vg:Nat->Value->Bool
 |_,.bool _|_,.int .. |_,.string _|_,.pointer none|_,.slice none _ _|_,.nilFunc|_,.nilIface=>true
 |n+1,.agg c=>c.all (vg n)
 |n+1,.iface _ v=>vg n v
 |_,_=>false
theorem QX[gB]{r:Rn}:∀{n:Nat} {v y:Value},vg n v=true->V r v y->y=v:=by
 intro n;induction n with
 |zero=>
  intro v y h K;cases K<;>first|rfl|(simp[vg]at h)
 |succ n D=>
  intro v y h K;cases K with
  |agg I R=>
   congr 1;apply Array.ext
   ·omega
   ·intro i Y H;exact D (bC.1 h i H) (R i _ _ (ax H) (ax Y))
  |iface t Y=>exact congrArg _ (D h Y)
  |_=>first|rfl|(simp[vg]at h)
def kQ(d:Option Nat)(x:Value)(a:Array Value):Array Value:=match d with
 |some i=>a.setIfInBounds i x
 |none=>a
theorem adS(d:Option Nat)(x:Value)(a:Array Value):Act.put ⟨a,[]⟩ d x=⟨kQ d x a,[]⟩:=by cases d<;>rfl
section
variable{I:Bool}{Q:QT}{R R1:Value->World->Prop}{Z:Loc->Prop}{r:RN}{v v1 w w':World}{fn f:FuncId}{k:List Item}{a args:Array Value}{ops:Array Oper}{i:Nat}{is:List Nat}{o:Oper}{x:Value}
theorem SN{r':RN}{t:Array Value}(h:@VA gv r a t)(hr:@Le gv r r')(Y:@V gv r' x x')(d:Option Nat):@VA gv r' (kQ d x a) (kQ d x' t):=by
 letI:=gv
 cases d with
 |none=>exact h.mono hr
 |some i=>exact(h.mono hr).set i Y
theorem TF(H:ops[i]?=some o)(Y:o.guard=none)(t:Array Value):opAt ((bf fn).at ⟨t,[]⟩ (.inRegion ops (i::is)::k))=some o:=by
 simp[opAt,Frame.at,H,bU,Y]
theorem fin_at(Y:ops[i]?=some o)(t:Array Value)(y:Value):((bf fn).at ⟨t,[]⟩ (.inRegion ops (i::is)::k)).finish y=(bf fn).at ⟨kQ o.dst y t,[]⟩ (.inRegion ops is::k):=by
 rw[Frame.finish_at,Y];simp only[Option.bind_some];rw[adS]
theorem GW.op(E:∃F,PR.funcs[fn]?=some F)(N:ops[i]?=some o)(d:o.guard=none)(M:nE K0 PR o.op=true)(G:∀c,o.op=.call c->c.callee≠.builtin .recover)(hd:v1.drawn=v.drawn){n:Next}(hr:(execOp (Act.eval ⟨a,[]⟩) o).run PR v=.ok n v1)(hn:n=.value x\/n=.skip/\x=undef)
  (g:GW I Q R fn (.inRegion ops is::k) (kQ o.dst x a) v1):GW I Q R fn (.inRegion ops (i::is)::k) a v:=by
 intro r Z w t l hl s B kk;refine aL fun C=>?_
 letI:=gv
 have F:=A_ xl tZ;have q:EF PR o.op:=QD (fun _ _ h=>h) M;have j:SR PR (NX true) r (execOp (Act.eval ⟨a,[]⟩) o) (execOp (Act.eval ⟨t,[]⟩) o):=Pf F.toFit (fun y hy=>yP E s B.gi hy) (fun y=>⟨rfl,rfl⟩) o q (fun c e u=>absurd u (G c e));refine aI (U:=fun _ _=>False) (S:=Rd r) (X:=Wr r) (Done:=fun S X f' l' w'=>∃(r':Rn) (x':Value),Le r r'/\V r' x x'/\Ren.W r' 0 v1 w'/\S=Rd r'/\X=Wr r'/\f'=(bf fn).at ⟨kQ o.dst x' t,[]⟩ (.inRegion ops is::k)/\l'=l) (Tr.one fun w2 hrel=>?_) (fun b M=>⟨B.off b M,B.low M⟩) fun S' X' f' l' w' hd hK=>?_
 ·have H:Ren.W r 0 v w2:=B.w.rely (U:=fun _ _=>False) (fun _ _ _ _ y=>y.elim) hrel;have h:=SR.run F.sK j #[] H;rw[hr]at h;generalize D:(execOp (Act.eval ⟨t,[]⟩) o).runT PR w2 #[]=y at h;cases h with
  |@ok _ a' _ w1 fs r1 c1 out J T=>
   have O:c1=0:=by have:=out.drew;omega
   subst O;rw[Sem.runT_eq]at D;have K:(execOp (Act.eval ⟨t,[]⟩) o).run PR w2=.ok a' w1:=congrArg Prod.fst D;have Y:(execOp (Act.eval ⟨t,[]⟩) o).events PR w2 #[]=fs:=congrArg Prod.snd D;have A:∀p e,e∈seen PR p fs->lT r w2 w1.heap.size e:=fun p e he=>(T e (mem_seen _ _ e he)).elim (fun z=>by simp at z) id;rcases hn with rfl|⟨rfl,rfl⟩
   ·cases J with
    |@value _ x' hV=>
     have gq:=pj (P:=PR) (main:=true) (f:=(bf fn).at ⟨t,[]⟩ (.inRegion ops (i::is)::k)) (cs:=l) (w:=w2) (w':=w1) (TF N d t) (v:=x') (by rw[aP];exact K);rw[aP,Y,fin_at N]at gq;exact⟨_,_,_,_,_,_,gq,out.did H (A _),.stop ⟨r1,x',out.le,hV,out.wl,rfl,rfl,rfl,rfl⟩⟩
   ·cases J with
    |skip=>
     have gq:=step_skip (P:=PR) (main:=true) (f:=(bf fn).at ⟨t,[]⟩ (.inRegion ops (i::is)::k)) (cs:=l) (w:=w2) (w':=w1) (TF N d t) (by rw[aP];exact K);rw[aP,Y,fin_at N]at gq;exact⟨_,_,_,_,_,_,gq,out.did H (A _),.stop ⟨r1,undef,out.le,.tuple rfl (fun i x x' e=>by simp at e),out.wl,rfl,rfl,rfl,rfl⟩⟩
  |lC hf _=>have:(Result.ok n v1).world.drawn=v1.drawn:=rfl;omega
 ·obtain⟨r',x',L,m,h3,rfl,rfl,rfl,rfl⟩:=hd;have z:=B.fin C L h3 hK;exact g r' Z w' _ _ hl (SN s L m o.dst) z.1 (kk.on L z.2)
def jX(ops:Array Oper)(i:Nat):Option Nat:=ops[i]?.bind (·.dst)
def ta(ops:Array Oper)(i:Nat):Array Operand:=match ops[i]?.map (fun o=>o.op)with
 |some (Op.call c)=>c.args
 |_=>#[]
def sP (ops:Array Oper) (i:Nat) (t:Array Value):Option (FuncId×Array Value):=match ops[i]? with
 |some o=>if o.guard.isNone then match ko PR (execOp (Act.eval ⟨t,[]⟩) o)with
  |some (.enter f zs)=>some (f,zs)
  |_=>none else none
 |none=>none
theorem adT{t zs:Array Value}(h:sP ops i t=some (f,zs)):∃o,ops[i]?=some o/\o.guard=none/\ko PR (execOp (Act.eval ⟨t,[]⟩) o)=some (.enter f zs):=by
 unfold sP at h;split at h
 ·rename_i o H;split at h
  ·rename_i Y;split at h
   ·rename_i g D K;cases h;exact⟨o,H,bS.1 Y,K⟩
   ·cases h
  ·cases h
 ·cases h
theorem GW.call(H:∃F,PR.funcs[fn]?=some F)(N:gW Q f args v R1)(g:∀x v',R1 x v'->GW I Q R fn (.inRegion ops is::k) (kQ (jX ops i) x a) v')(Y:(ta ops i).map (Act.eval ⟨a,[]⟩)=args:=by kernel_rfl)(h:∀t,sP ops i t=some (f,(ta ops i).map (Act.eval ⟨t,[]⟩)):=by intro t;kernel_rfl)(A:(ta ops i).all (km K0)=true:=by kernel_rfl):GW I Q R fn (.inRegion ops (i::is)::k) a v:=by
 intro r Z w t l P B U T
 letI:=gv
 refine gu.pure 1 fun w1 hk=>?_;obtain⟨o,D,O,gC⟩:=adT (h t);have e:gF PR 1 ((bf fn).at ⟨t,[]⟩ (.inRegion ops (i::is)::k)) l=(Frame.enter PR f ((ta ops i).map (Act.eval ⟨t,[]⟩)) .normal,(bf fn).at ⟨t,[]⟩ (.inRegion ops (i::is)::k)::l):=by
  have K:Frame.eval ⟨fn,t,.inRegion ops (i::is)::k,[],.run,.normal,none⟩=Act.eval ⟨t,[]⟩:=aP (bf fn) ⟨t,[]⟩ _;simp only[gF,oF,Frame.at,prun,D,bU,O,pop,K,gC];simp
 rw[e];refine N r Z w1 _ _ _ ?_ (U.quiet hk) fun r' Z' x x' v' w' K C J L M=>?_
 ·rw[<-Y];exact VA.mapOf fun y S=>yP H B U.gi (uK (Array.all_eq_true_iff_forall_mem.1 A y S))
 ·have e:jX ops i=o.dst:=by simp[jX,D]
  rw[e]at g;change gu PR Q Z' (((bf fn).at ⟨t,[]⟩ (.inRegion ops (i::is)::k)).finish x') l w';rw[fin_at D];exact g x v' M r' Z' w' _ l P (SN B K C o.dst) J (T.on K ((Kz.qt hk).trans L))
theorem gW.ij(D:K0.ij f=true)(M:∀T,Calls PR f args (tp v T) fun e v'=>∃x,e=.returned x/\R x v'):gW Q f args v R:=by
 intro r Z w H c cs J K L;refine aL fun Y=>?_
 letI:=gv
 refine gu.call (A_ xl tZ) (fun _ h=>by cases h) (fun _ h=>h) K.gi M (fun e u h=>h.imp fun x y=>y.1) D J K.w K.off fun r' v' x x' w' I A U B C=>?_;obtain⟨y,e,F⟩:=B;cases e;have z:=K.fin Y I U C;exact L r' Z x x' v' w' I A z.1 z.2 F
theorem gW.of{F:Func}(H:PR.funcs[fn]?=some F){p:Code}(U:F.body=some p)(A:F.ntmps=n)(h:GW false Q R fn [.code p] (args++aN (n-args.size) undef) v):gW Q fn args v R:=by
 intro r Z w Y c cs K D I
 letI:=gv
 have e:Frame.enter PR fn Y .normal=(bf fn).at ⟨Y++aN (n-args.size) undef,[]⟩ [.code p]:=by
  simp[Frame.enter,H,U,A,Frame.at,K.size]
 rw[e];exact h r Z w _ (c::cs) rfl (K.append (.rep _ (.tuple rfl (fun i x x' e=>by simp at e)))) D I
theorem GW.draw{id:Nat}(h:∀t,GW I Q R fn (.inRegion ops (Region.linearise.go .any ops ops.size t (aN ops.size false) [])::k) a v):GW I Q R fn (.code (.region id ops true)::k) a v:=by
 intro r Z w t l U B H C;refine gu.pick fun u w' Y A=>?_;rw[sched];have D:Ke w w':=⟨Y.tape,Y.env,Y.output,Y.grow⟩;exact h u r Z w' t l U B (H.on (fun b K=>A b (H.low K)) D) (C.on (fun _ _ e=>e) ⟨D,fun b K _ _=>A b K,fun _ _ y=>y,fun _ y=>y,fun _ y=>.inl y⟩)
theorem GW.TG{md:Region.Mode}(mk:Array Bool->Array Value)(Inv:Nat->Array Bool->World->Prop)
  (H:∀listed i fuel t v,Inv (fuel+1) listed v->i∈Region.ready md ops listed->(∀v',Inv fuel (listed.setIfInBounds i true) v'->GW I Q R fn (.inRegion ops (Region.linearise.go md ops fuel t (listed.setIfInBounds i true) [])::k) (mk (listed.setIfInBounds i true)) v')->GW I Q R fn (.inRegion ops (i::Region.linearise.go md ops fuel t (listed.setIfInBounds i true) [])::k) (mk listed) v)
  (Y:∀fuel listed v,Inv fuel listed v->fuel=0\/Region.ready md ops listed=[]->GW I Q R fn (.inRegion ops []::k) (mk listed) v):
  ∀fuel t listed v,Inv fuel listed v->GW I Q R fn (.inRegion ops (Region.linearise.go md ops fuel t listed [])::k) (mk listed) v:=by
 intro fuel;induction fuel with
 |zero=>intro t listed v h;exact Y 0 listed v h (.inl rfl)
 |succ fuel U=>
  intro t listed v h;simp only[Region.linearise.go];change GW I Q R fn (.inRegion ops (match(Region.ready md ops listed)[t%(Region.ready md ops listed).length]? with
   |some i=>Region.linearise.go md ops fuel (t/(Region.ready md ops listed).length) (listed.setIfInBounds i true) [i]
   |none=>[].reverse)::k) (mk listed) v
  cases D:(Region.ready md ops listed)[t%(Region.ready md ops listed).length]? with
  |none=>
   have K:Region.ready md ops listed=[]:=by
    cases hr:Region.ready md ops listed with
    |nil=>rfl
    |cons x xs=>
     rw[hr]at D;have A:t%(x::xs).length<(x::xs).length:=Nat.mod_lt _ (by simp);simp at D;simp at A;omega
   exact Y (fuel+1) listed v h (.inr K)
  |some i=>
   simp only[];rw[linearise_go_acc,bO,bP];exact H listed i fuel _ v h (bK D) fun v' h'=>U _ _ v' h'
end
end Ph
namespace Ph
open Conc Ren RowKit
section
variable{Q:QT}{Z Z':Loc->Prop}{r:RN}{v w w':World}
theorem Ke.oV(h:gU Z w w'):Ke w w':=⟨h.tape,h.env,h.output,h.grow⟩
theorem Al.oV(h:Al Z r v w)(D:∀l,Z' l->Z l\/∃a:Addr,l=.cell a/\w.heap.size<=a.block)(H:gU Z w w'):Al Z' r v w':=
 have k:=h.on (fun b Y=>H.old b (h.low Y) (h.off b Y)) (.oV H)
 ⟨k.w,k.gi,fun b Y=>su D (h.off b Y) (h.low Y)⟩
theorem ahP(h:Al Z r v w){B:Nat}{D:∀x,r x≠some B}{Y:gv.size<=v.heap.size}{H:gv.size<=B}:@Le gv r (@ext gv r v.heap.size B D Y H):=fun b a e=>by
 letI:=gv
 have:=(h.w.lt e).1;show(if b=v.heap.size then some B else r b)=some a
 rw[if_neg (by omega)];exact e
theorem I9{B:Nat}{D:∀x,r x≠some B}{Y:gv.size<=n}{H:gv.size<=B}{b:Nat}(e:@ext gv r n B D Y H b=some b'):(b=n/\b'=B)\/r b=some b':=by
 have e:(if b=n then some B else r b)=some b':=e;split at e
 ·simp_all
 ·simp_all
theorem Al.new(h:Al Z r v w)(T:∀l,Z' l->Z l\/∃a:Addr,l=.cell a/\w.heap.size<=a.block)(N:gU Z w w'){B:Nat}(A:w.heap.size<=B)(C:iV Z' B){o o':Obj}(S:w'.heap[B]?=some o')(M:∀r':RN,@Le gv r r'-> @O gv r' o o'):
  ∃r':RN,@Le gv r r'/\r' v.heap.size=some B/\Al Z' r' (v.alloc o) w'/\∀b,@Rd gv r' b->b=B\/ @Rd gv r b:=by
 letI:=gv
 have D:=h.oV T N;have U:∀x,r x≠some B:=fun x e=>by have:=h.low ⟨x,e⟩;omega
 have Y:Le r (ext r _ B U h.w.gv (aj h.w.gw A)):=ahP h;have R:ext r _ B U h.w.gv (aj h.w.gw A) _=some B:=if_pos rfl;refine⟨_,Y,R,⟨⟨fun b b' e=>?_,aj h.w.gv (by simp),D.w.gw,fun b H=>absurd H id,fun i q P=>by omega,D.w.env⟩,h.gi.mono Y,fun b H=>?_⟩,fun b H=>?_⟩
 ·rcases I9 e with⟨rfl,rfl⟩|e
  ·exact⟨o,o',heap_alloc_new v o,S,.same id (M _ Y)⟩
  ·obtain⟨q,L,I,F,J⟩:=D.w.obj b b' e;refine⟨q,L,?_,F,J.mono Y⟩;rw[<-I];exact((aO _ v).alloc (af _) o).block b (jQ I)
 ·obtain⟨b0,K⟩:=H;rcases I9 K with⟨_,rfl⟩|e
  ·omega
  ·exact D.off b ⟨b0,e⟩
 ·obtain⟨b0,K⟩:=H;rcases I9 K with⟨_,rfl⟩|e
  ·simp
  ·exact .inr ⟨b0,e⟩
theorem afT{a b:Array Value}(h:@VA gv r a b)(H:a.all (vg 3)=true):b=a:=by
 letI:=gv
 apply Array.ext
 ·exact h.size.symm
 ·intro i K Y;exact QX (bC.1 H i Y) (h.at_ i _ _ (ax Y) (ax K))
theorem Al.tabs(h:Al Z r v w)(A:lq v)(g:Nat)(H:g=0\/g=2\/g=3):w.heap[g]?=v.heap[g]?:=by
 letI:=gv
 obtain⟨U,t,fz,e,I⟩:=A g H;obtain⟨o,o',K,D,Y⟩:=h.w.obj g g (h.gi g (by rcases H with rfl|rfl|rfl<;>first|exact rfl|exact rfl|exact rfl));rw[e]at K;cases K;have Y:=OB.plain Y (fun _ h=>h);cases Y with
 |cells _ _ R=>rw[D,abY R I,<-e]
theorem afU{P:ByteArray}{k st:Nat}(hX:X.size<=200)(hP:P.size<=30)(hk:k<=6)(d:1<=q)(U:q<=8)(g:1<=st)(B:st<=200)(G:1<=n)(A:n<=8):
  gW Q 122 #[.string X,.string P,jE k q st,iv n] v fun x v'=>x=.map (some v.heap.size)/\∃o,v'=v.alloc o/\nj (qN X P k st (jY X P k q st)) (some o):=by
 intro r Z w D c cs j F z;obtain rfl:=afT j (by simp[vg])
 letI:=gv
 refine Xk hX hP hk d U g B G A F.w.gw fun Z' Mp w' C K I R Y H E=>?_;obtain⟨es,clock,l,L,hF⟩:=id H;rw[L]at H;obtain⟨r',M,N,O,S⟩:=F.new K I R Y L fun r' _=>.map _ rfl fun i x x' e e'=>by
  obtain rfl:=Option.some.inj (e.symm.trans e');obtain⟨a,b,T,V⟩:=aaq H x (Array.mem_of_getElem? e);exact⟨by rw[T];exact .int _ _,by rw[V];exact .int _ _,rfl⟩
 exact z r' Z' _ _ _ w' M (.map N) O ⟨.oV I,fun b J _ W=>I.old b J W,fun b J y=>(S b y).resolve_left (by omega),C,K⟩ ⟨rfl,_,rfl,H⟩
end
section
variable{I:Bool}{Q:QT}{R:Value->World->Prop}{v v1:World}{fn:FuncId}{k:List Item}{a:Array Value}{ops:Array Oper}{i:Nat}{is:List Nat}{x:Value}
def Kw(v v1:World):Prop:=∀a,a<v.heap.size->v1.heap[a]?=v.heap[a]?
theorem Kw.size(h:Kw v v1):v.heap.size<=v1.heap.size:=by
 cases e:v.heap.size with
 |zero=>exact bt _
 |succ n=>
  have:=h n (by omega);rw[ax (by omega:n<v.heap.size)]at this;exact jQ this
theorem Kw.refl(v:World):Kw v v:=fun _ _=>rfl
theorem Kw.trans{v v1 v2:World}(h:Kw v v1)(k:Kw v1 v2):Kw v v2:=fun a Y=>(k a (ay Y h.size)).trans (h a Y)
theorem Kw.at(h:Kw v v1){a:Nat}{o:Obj}(Y:v.heap[a]?=some o):v1.heap[a]?=some o:=(h a (jQ Y)).trans Y
theorem Kw.alloc(v:World)(o:Obj):Kw v (v.alloc o):=fun a Y=>((aO _ v).alloc (af _) o).block a Y
theorem Kw.qU(h:Kw v v1)(Y:lq v)(k:iU v):iU v1:=by
 obtain⟨_,_,_,e,_⟩:=Y 0 (.inl rfl);exact Aq k (h 0 (jQ e))
theorem Kw.tabs(h:Kw v v1)(Y:lq v):lq v1:=Y.same fun g K=>by
 obtain⟨_,_,_,e,_⟩:=Y g K;exact h g (jQ e)
def SP:Op->Bool
 |.call c=>match c.callee with
  |.builtin .recover=>false
  |_=>true
 |_=>true
def mc (ops:Array Oper) (i:Nat) (a:Array Value):Option (Sem Next):=match ops[i]? with
 |some o=>if o.guard.isNone&&nE K0 PR o.op&&SP o.op then some (execOp (Act.eval ⟨a,[]⟩) o)else none
 |none=>none
theorem GW.ex(H:∃F,PR.funcs[fn]?=some F){s:Sem Next}{n:Next}(h:mc ops i a=some s)(hr:s.run PR v=.ok n v1)(A:n=.value x\/n=.skip/\x=undef)(hd:v1.drawn=v.drawn)(g:GW I Q R fn (.inRegion ops is::k) (kQ (jX ops i) x a) v1):GW I Q R fn (.inRegion ops (i::is)::k) a v:=by
 unfold mc at h;split at h
 ·rename_i o K;split at h
  ·rename_i Y;simp only[Bool.and_eq_true,bS]at Y;cases h;have e:jX ops i=o.dst:=by simp[jX,K]
   rw[e]at g;exact GW.op H K Y.1.1 Y.1.2 (fun c e D=>by rw[e]at Y;simp[SP,D]at Y) hd hr A g
  ·cases h
 ·cases h
def rU(s:Sem Value):Sem Next:=do pure (.value (<-s))
def Bo(s:Sem Unit):Sem Next:=do s;pure .skip
theorem GW.vl(Y:∃F,PR.funcs[fn]?=some F){s:Sem Value}(h:mc ops i a=some (rU s))(hr:s.run PR v=.ok x v1)(hd:v1.drawn=v.drawn)(g:GW I Q R fn (.inRegion ops is::k) (kQ (jX ops i) x a) v1):GW I Q R fn (.inRegion ops (i::is)::k) a v:=
 GW.ex Y h (by simp[rU,hr]) (.inl rfl) hd g
def vO (ops:Array Oper) (i:Nat) (a:Array Value):Option (Array Value):=match mc ops i a with
 |some s=>match ko PR s with
  |some (.value x)=>some (kQ (jX ops i) x a)
  |_=>none
 |none=>none
theorem GW.pu(Y:∃F,PR.funcs[fn]?=some F)(h:vO ops i a=some a')(g:GW I Q R fn (.inRegion ops is::k) a' v):GW I Q R fn (.inRegion ops (i::is)::k) a v:=by
 unfold vO at h;split at h
 ·rename_i s H;split at h
  ·rename_i x K;cases h;exact GW.ex Y H (oo K v) (.inl rfl) rfl g
  ·cases h
 ·cases h
def zZ (ops:Array Oper):List Nat->Array Value->Option (Array Value)
 |[],a=>some a
 |i::l,a=>(vO ops i a).bind (zZ ops l)
theorem GW.Uw(Y:∃F,PR.funcs[fn]?=some F):∀(l:List Nat) {a:Array Value},(zZ ops l a).isSome=true->GW I Q R fn (.inRegion ops is::k) ((zZ ops l a).getD #[]) v->GW I Q R fn (.inRegion ops (l++is)::k) a v
 |[],a,_,g=>g
 |i::l,a,h,g=>by
  simp only[zZ]at h g;cases e:vO ops i a with
  |none=>rw[e]at h;cases h
  |some a'=>
   rw[e]at h g;exact GW.pu Y e (GW.Uw Y l h g)
theorem GW.gS(Y:∃F,PR.funcs[fn]?=some F)(l:List Nat)(g:GW I Q R fn (.inRegion ops is::k) ((zZ ops l a).getD #[]) v)(h:(zZ ops l a).isSome=true:=by kernel_rfl):GW I Q R fn (.inRegion ops (l++is)::k) a v:=GW.Uw Y l h g
theorem GW.bx(Y:∃F,PR.funcs[fn]?=some F)(g:∀v1,Kw v v1->v.heap.size<v1.heap.size->v1.heap[v.heap.size]?=some (.cells y.cells t)->GW I Q R fn (.inRegion ops is::k) (kQ (jX ops i) (ptr v.heap.size) a) v1)(h:mc ops i a=some (rU (Instr.box t y)):=by kernel_rfl):GW I Q R fn (.inRegion ops (i::is)::k) a v:=
 GW.vl (v1:=v.alloc (.cells y.cells t)) Y h (by simp[go_sem];rfl) rfl (g _ (.alloc v _) (by simp) (heap_alloc_new v _))
theorem GW.ld(Y:∃F,PR.funcs[fn]?=some F)(H:(az t y).run PR v=.ok x v)(g:GW I Q R fn (.inRegion ops is::k) (kQ (jX ops i) x a) v)(h:mc ops i a=some (rU (az t y)):=by kernel_rfl):GW I Q R fn (.inRegion ops (i::is)::k) a v:=
 GW.vl Y h H rfl g
theorem xo{α:Type}{f:TypeInfo->α}{z:α}(H:(PR.info? t).map f=some z):∃Y,PR.info? t=some Y/\f Y=z:=Option.map_eq_some_iff.1 H
theorem GW.al(Y:∃F,PR.funcs[fn]?=some F)(D:(PR.info? t).map (·.zero)=some (some z))(g:∀v1,v1=v.alloc (.cells z.cells t)->Kw v v1->v.heap.size<v1.heap.size->v1.heap[v.heap.size]?=some (.cells z.cells t)->GW I Q R fn (.inRegion ops is::k) (kQ (jX ops i) (ptr v.heap.size) a) v1)(h:mc ops i a=some (rU (Instr.alloc t true (.tuple #[]))):=by kernel_rfl):GW I Q R fn (.inRegion ops (i::is)::k) a v:=by
 obtain⟨A,K,H⟩:=xo D;exact GW.vl (v1:=v.alloc (.cells z.cells t)) Y h (by simp[go_sem,Instr.alloc,zeroValue,typeInfo,K,H];rfl) rfl (g _ rfl (.alloc v _) (by simp) (heap_alloc_new v _))
theorem GW.ix(H:∃F,PR.funcs[fn]?=some F){B off z:Nat}(N:j<n)(C:PR.underlying t=some (.slice (PR.elem t)))(M:(PR.info? (PR.elem t)).map (·.size)=some z)
  (g:GW I Q R fn (.inRegion ops is::k) (kQ (jX ops i) (.pointer (some ⟨B,off+j *z,none⟩)) a) v)(h:mc ops i a=some (rU (a_ t (.slice (some ⟨B,off,none⟩) n cap) (.int .i64 (j:Int)))):=by kernel_rfl):GW I Q R fn (.inRegion ops (i::is)::k) a v:=by
 obtain⟨Y,D,rfl⟩:=xo M;have U:(0:Int)<=(j:Int)/\(j:Int)<(n:Int):=by omega
 have K:(⟨B,off,none⟩:Addr).add (j *Y.size)=⟨B,off+j *Y.size,none⟩:=by
  by_cases A:j *Y.size=0
  ·rw[A];simp[Addr.add]
  ·simp only[Addr.add,A];simp
 refine GW.vl H h ?_ rfl g;simp[a_,run_underlying C,asIntOf,U,sizeOf,typeInfo,D,K];intro J;omega
theorem GW.to(a':Array Value)(g:GW I Q R fn k a' v)(h:a=a':=by kernel_rfl):GW I Q R fn k a v:=h▸g
theorem GW.mono{R1:Value->World->Prop}(h:∀x v',R1 x v'->R x v')(g:GW I Q R1 fn k a v):GW I Q R fn k a v:=
 fun r Z w t l B C U F=>g r Z w t l B C U fun r' Z' x x' v' w' Y K H D A=>F r' Z' x x' v' w' Y K H D (h _ _ A)
theorem GW.JK{F:Func}(Y:PR.funcs[fn]?=some F){p:Code}(S:lH K0 PR false p=true)(O:(is.all fun i=>match ops[i]? with|some o=>A8 K0 PR false o|none=>true)=true)
  (M:∀T,wpOps PR ops (fun e a' w'=>e=.normal/\p.wp PR (bodyPost PR F fun e v'=>∃x,e=.returned x/\R x v') a' w') is ⟨a,[]⟩ (tp v T)):GW false Q R fn [.inRegion ops is,.code p] a v:=by
 intro r Z w t l D V H X;obtain⟨c,cs,rfl⟩:=Dt D;refine aL fun K=>?_
 letI:=gv
 have I:lO PR false p:=yr (fun _ _ h=>h) S;refine gu.lone (A_ xl tZ) (fun _ h=>by cases h) (fun _ h=>h) H.gi (R:=fun e v'=>∃x,e=.returned x/\R x v') (b:=bf fn) (a:=⟨a,[]⟩) (its:=[.inRegion ops is,.code p]) Y rfl (fun T=>Yu Y rfl (by rintro u ⟨x,e,_⟩;cases e) (M T) [jw]) (fun e u h=>h.imp fun x y=>y.1) (f':=(bf fn).at ⟨t,[]⟩ [.inRegion ops is,.code p]) ⟨rfl,V,.cons (.inRegion _ fun i N o P=>?_) (.cons (.code I) .nil),.nil,.run,rfl,.inl rfl,.none,fun _=>⟨_,Y⟩⟩ H.w H.off fun r' v' x x' w' A U B C J=>?_
 ·have:=aQ.1 O i N;rw[P]at this;exact OM (fun _ _ h=>h) this
 ·obtain⟨y,e,L⟩:=C;cases e;have z:=H.fin K A B J;exact X r' Z x x' v' w' A U z.1 z.2 L
theorem mO(j:Nat){b:Nat}{c:Array Value}{fz:Nat×Nat}(D:ko PR (isAgg t)=some false)(h:v.heap[b]?=some (.cells c e fz))(H:c[j]?=some x):(az t (rk b j)).run PR v=.ok x v:=by
 have Y:v.cell? ⟨b,j,none⟩=some x:=by simp[ao,h,H]
 have:=oo D v;simp[az,rk,this,Y,go_sem]
end
section
variable{v:World}{b:Nat}{x y z:Value}{e:TypeId}{fz:Nat×Nat}
theorem Bd(h:v.heap[b]?=some (.cells #[x,y,z] e fz)):(az 75 (ptr b)).run PR v=.ok (.agg #[x,y,z]) v:=by
 have c0:v.cell? ⟨b,0,none⟩=some x:=by simp[ao,h]
 have c1:v.cell? ⟨b,1,none⟩=some y:=by simp[ao,h]
 have c2:v.cell? ⟨b,2,none⟩=some z:=by simp[ao,h]
 simp[ptr,go_sem,c0,c1,c2]
end
noncomputable def Wx:Array Oper:=match aB.body with
 |some (.seq (.region _ o _) _)=>o
 |_=>#[]
noncomputable def MQ:Array Oper:=match aB.body with
 |some (.seq _ (.seq (.region _ o _) _))=>o
 |_=>#[]
theorem ajE:aB.body=some (.seq (.region 0 Wx false) (.seq (.region 1 MQ false) vN)):=by kernel_rfl
section
variable{Q:QT}{XN X rn P rm:ByteArray}{fl:Bool}{k q st n:Nat}{v:World}
theorem QY(hX:X.size<=200)(hP:P.size<=30)(hk:k<=6)(A:k<P.size)(M:1<=q)(B:q<=8)(N:1<=st)(C:st<=200)(E:1<=n)(U:n<=8)(D:lq v)(V:iU v):
  gW Q 111 #[pG XN X,oX rn P rm,.bool fl,jE k q st,iv n] v fun x v'=>v'.ownsRow v.heap.size 136 1 x (jg P X k).length (nb X P rn rm fl k)/\(jg P X k=[]->x=.slice none 0 0)/\∀a,a<v.heap.size->v'.heap[a]?=v.heap[a]?:=by
 have Y:∃F,PR.funcs[111]?=some F:=⟨_,bA⟩;refine gW.of (n:=73) bA ajE (by kernel_rfl) ?_;refine GW.run 2 (k':=[.inRegion Wx [0,1,2,3],.code (.seq (.region 1 MQ false) vN)]) ?_;refine GW.bx Y (t:=68) (y:=pG XN X) fun v1 Z l1 J=>?_;refine GW.bx Y (t:=131) (y:=oX rn P rm) fun v2 R l2 c6=>?_;refine GW.bx Y (t:=75) (y:=jE k q st) fun v3 K G O=>?_;refine GW.gS Y [3] ?_;refine GW.run 3 (k':=[.inRegion MQ [0,1,2,3,4,5,6,7],.code vN]) ?_;refine GW.gS Y [0] ?_;refine GW.ld Y (mO 1 xQ (K.at (R.at J)) rfl) ?_;refine GW.gS Y [2] ?_;refine GW.ld Y (mO 1 xQ (K.at c6) rfl) ?_;refine GW.ld Y (Bd O) ?_;refine GW.gS Y [5] ?_;refine GW.call Y (afU hX hP hk M B N C E U) ?_;rintro x v4 ⟨rfl,o,rfl,S⟩;refine GW.gS Y [7] ?_;refine GW.run 1 (k':=[.code vN]) ?_;have I:=Kw.alloc v3 o;have K3:Kw v v3:=(Z.trans R).trans K;have K4:=K3.trans I;have H:nj (qN X P k st (jY X P k q st)) ((v3.alloc o).heap[v3.heap.size]?):=by rw[heap_alloc_new];exact S
 have hr:=fun T=>afS (rn:=rn) (rm:=rm) (XN:=XN) (fl:=fl) (n:=n) (b8:=v2.heap.size) hX hP hk A M N (I.at (K.at (R.at J))) (I.at (K.at c6)) H (by simp) (K4.qU D V) T;refine GW.to (Gg (pG XN X) (oX rn P rm) (jE k q st) (iv n) fl v.heap.size v1.heap.size v2.heap.size v3.heap.size (uM X P k q st n v.heap.size v1.heap.size v3.heap.size)) ?_;exact GW.mono (fun x v' h=>⟨yH h.1 K4.size,h.2.1,fun a L=>(h.2.2 a (ay L K4.size)).trans (K4 a L)⟩) (GW.rest bA ahM hr)
end
section
variable{main:Bool}{f:Frame}{cs:List Frame}
theorem adU{x y:Operand}(h:(opAt f).map (fun o=>o.op)=some (.indexAddr t x y)){B o i z:Nat}(C:f.eval x=.slice (some ⟨B,o,none⟩) n cap)(F:f.eval y=.int .i64 (i:Int))(A:i<n)(U:PR.underlying t=some (.slice (PR.elem t)))(M:(PR.info? (PR.elem t)).map (·.size)=some z)(w:World):
  stepG PR main (G f cs) w=.go (G (f.finish (.pointer (some ⟨B,o+i *z,none⟩))) cs) w #[]:=by
 obtain⟨op,I,gC⟩:=sD h;have J:∃Y,PR.info? (PR.elem t)=some Y/\Y.size=z:=by simp_all
 obtain⟨Y,H,rfl⟩:=J;have K:(⟨B,o,none⟩:Addr).add (i *Y.size)=⟨B,o+i *Y.size,none⟩:=by
  by_cases D:i *Y.size=0
  ·rw[D];simp[Addr.add]
  ·simp only[Addr.add,D];simp
 have hr:(execOp f.eval op).run PR w=.ok (.value (.pointer (some ⟨B,o+i *Y.size,none⟩))) w:=by
  unfold execOp;simp only[gC,C,F];simp[a_,run_underlying U,asIntOf,A,sizeOf,typeInfo,H,K]
 have R:(execOp f.eval op).events PR w #[]=#[]:=by
  unfold execOp;simp only[gC,C,F];simp[a_,run_underlying U,asIntOf,A,sizeOf,typeInfo,H]
 rw[pj I hr,R,seen_none]
end
end Ph
section
open RowKit
noncomputable def lQ:=match ae.body with
 |some (.seq _ (.seq _ (.seq (.region _ ops _) _)))=>ops
 |_=>#[]
noncomputable def pd:=match ae.body with
 |some (.seq _ (.seq _ (.seq _ c)))=>c
 |_=>.skip
def yf(a0 a1 a2 a3 v1 v2:Value)(b4 b5 b6:Nat)(u:Nat->Value):=#[a0,a1,a2,a3,pt b4,pt b5,pt b6,u 7,.slice none 0 0,v1,u 10,u 11,u 12,u 13,u 14,v1,u 16,u 17,u 18,u 19,u 20,v2,u 22,u 23,u 24,u 25,u 26,u 27,u 28,u 29,u 30]
def zn(rn rb rm:ByteArray):Value:=.iface 155 (sE rn rb rm)
theorem G3{P:Program}{H o1 o2 o3 o4 o5 o6 o7 Y:Oper}{Q:Exit->Act->World->Prop}:wpOps P #[H,o1,o2,o3,o4,o5,o6,o7,Y] Q [7,8]=wpList P #[H,o1,o2,o3,o4,o5,o6,o7,Y] Q [o7,Y]:=by
 have:=wpOps_eq_wpList (P:=P) (ops:=#[H,o1,o2,o3,o4,o5,o6,o7,Y]) (Q:=Q) [o7,Y] 7 (fun j=>by
  match j with
  |0=>rfl
  |1=>rfl
  |j+2=>rw[bD (by simp;omega)];rfl)
 exact this
theorem abZ(H Y:List Value)(rn rb rm:ByteArray)(a0 a1 a2 a3 v1:Value)(A c2 b4 b5 b6 B:Nat)(u:Nat->Value)(w:World)(d:H.length<=1000)(s:Y.length<=1000)(W:0<Y.length)(E:∀x∈Y,x.oneCell'=true)
  (r1:w.ownsRow B 136 1 v1 H.length H)(r2:w.ownsRow B 136 1 (.slice (some ⟨A,0,none⟩) Y.length c2) Y.length Y)(T:B<=w.heap.size):
  wpOps Tryz.prog lQ (fun e a' w'=>e=.normal/\pd.wp Tryz.prog (bodyPost Tryz.prog ae fun e w'=>∃v,e=.returned v/\w'.ownsRow B 136 1 v (H++Y).length (H++Y)/\∀a,a<B->w'.heap[a]?=w.heap[a]?) a' w') [7,8] ⟨yf a0 a1 a2 a3 v1 (.slice (some ⟨A,0,none⟩) Y.length c2) b4 b5 b6 u,[]⟩ w:=by
 obtain⟨i0,X,F,J,L⟩:=info_parts R6;have V:=fun j u Z=>(r2.cells (g:=A) rfl) j u Z;obtain⟨Q,C⟩:∃Q,Q=(fun e a' w'=>e=bj/\pd.wp Tryz.prog (bodyPost Tryz.prog ae fun e w'=>∃v,e=.returned v/\w'.ownsRow B 136 1 v (H++Y).length (H++Y)/\∀a,a<B->w'.heap[a]?=w.heap[a]?) a' w'):=⟨_,rfl⟩;rw[<-C];have M:=laid C;clear C;unfold lQ ae yf;rw[G3];refine wpList_append_own _ rfl _ _ 133 rfl B 136 i0 .nilIface 1 16 bV X F J L rfl (by decide) _ _ _ rfl r1 _ Y.length c2 Y rfl (by omega) V E (by unfold maxLen;omega) (by omega) T ?_;intro v' O K R _;obtain⟨U,cap,rfl⟩:∃U cap,v'=.slice _ _ cap:=by
  rcases K.2 with⟨_,h⟩|⟨U,cap,S,G,_⟩
  ·omega
  ·exact⟨U,cap,G⟩
 have P:Hid (O.ownsRow B 136 1 _ (H++Y).length (H++Y)/\∀a,a<B->O.heap[a]?=w.heap[a]?):=laid ⟨by rw[ai];exact K,fun a q=>R.block a (by omega) (fun e=>by have:=(r1.lt a e.symm).1;omega)⟩;go_wp2
 rw[M.out];obtain⟨N,D⟩:∃N,N=(bodyPost Tryz.prog ae fun e w'=>∃v,e=.returned v/\w'.ownsRow B 136 1 v (H++Y).length (H++Y)/\∀a,a<B->w'.heap[a]?=w.heap[a]?):=⟨_,rfl⟩;rw[<-D];have I:=laid D;clear D M;unfold pd ae;go_wp2
 rw[I.out];refine bodyPost_ret (results_tmp rfl _ _ _) rfl ?_;exact⟨_,rfl,P.out⟩
theorem aar(Y:List Value)(rn rb rm:ByteArray)(a0 a1 a2 a3:Value)(g1 c1 b4 b5 b6 B:Nat)(u:Nat->Value)(w:World)(N:Y.length<=1000)(M:0<Y.length)
  (r1:w.ownsRow B 136 1 (.slice (some ⟨g1,0,none⟩) Y.length c1) Y.length Y):
  wpOps Tryz.prog lQ (fun e a' w'=>e=.normal/\pd.wp Tryz.prog (bodyPost Tryz.prog ae fun e w'=>∃v,e=.returned v/\w'.ownsRow B 136 1 v Y.length Y/\∀a,a<B->w'.heap[a]?=w.heap[a]?) a' w') [7,8] ⟨yf a0 a1 a2 a3 (.slice (some ⟨g1,0,none⟩) Y.length c1) (.slice none 0 0) b4 b5 b6 u,[]⟩ w:=by
 obtain⟨Q,D⟩:∃Q,Q=(fun e a' w'=>e=bj/\pd.wp Tryz.prog (bodyPost Tryz.prog ae fun e w'=>∃v,e=.returned v/\w'.ownsRow B 136 1 v Y.length Y/\∀a,a<B->w'.heap[a]?=w.heap[a]?) a' w'):=⟨_,rfl⟩;rw[<-D];have R:=laid D;clear D;unfold lQ ae yf;dsimp only;simp only[pt];rw[G3];have A:Y.length<=c1:=by
  rcases r1.2 with⟨h,_⟩|⟨g,cap,C,h,_,_,F,_⟩
  ·cases h
  ·cases h;exact F
 have U:=laid r1;clear r1;go_wp2
 rw[R.out];refine⟨rfl,?_⟩;obtain⟨I,K⟩:∃I,I=(bodyPost Tryz.prog ae fun e w'=>∃v,e=.returned v/\w'.ownsRow B 136 1 v Y.length Y/\∀a,a<B->w'.heap[a]?=w.heap[a]?):=⟨_,rfl⟩;rw[<-K];have H:=laid K;clear K R;unfold pd ae;dsimp only;go_wp2
 rw[H.out];refine bodyPost_ret (results_tmp rfl _ _ _) rfl ?_;exact⟨_,rfl,U.out,fun _ _=>rfl⟩
theorem ab0(rn rb rm:ByteArray)(a0 a1 a2 a3:Value)(b4 b5 b6 B:Nat)(u:Nat->Value)(w:World)(A:B<=w.heap.size)(H:w.heap[b5]?=some (.cells #[.string rn,.string rb,.string rm] 131 (0,0))):
  wpOps Tryz.prog lQ (fun e a' w'=>e=.normal/\pd.wp Tryz.prog (bodyPost Tryz.prog ae fun e w'=>∃v,e=.returned v/\w'.ownsRow B 136 1 v 1 [zn rn rb rm]/\∀a,a<B->w'.heap[a]?=w.heap[a]?) a' w') [7,8] ⟨yf a0 a1 a2 a3 (.slice none 0 0) (.slice none 0 0) b4 b5 b6 u,[]⟩ w:=by
 obtain⟨Q,D⟩:∃Q,Q=(fun e a' w'=>e=bj/\pd.wp Tryz.prog (bodyPost Tryz.prog ae fun e w'=>∃v,e=.returned v/\w'.ownsRow B 136 1 v 1 [zn rn rb rm]/\∀a,a<B->w'.heap[a]?=w.heap[a]?) a' w'):=⟨_,rfl⟩;rw[<-D];have R:=laid D;clear D;have c0:w.cell? ⟨b5,0,none⟩=some (.string rn):=by rw[cell_of_row w _ 0 _ _ _ H];rfl
 have c1:w.cell? ⟨b5,1,none⟩=some (.string rb):=by rw[cell_of_row w _ 1 _ _ _ H];rfl
 have c2:w.cell? ⟨b5,2,none⟩=some (.string rm):=by rw[cell_of_row w _ 2 _ _ _ H];rfl
 clear H;unfold lQ ae yf;dsimp only;simp only[pt];rw[G3];go_wp2
 rw[R.out];refine⟨rfl,?_⟩;obtain⟨I,Y⟩:∃I,I=(bodyPost Tryz.prog ae fun e w'=>∃v,e=.returned v/\w'.ownsRow B 136 1 v 1 [zn rn rb rm]/\∀a,a<B->w'.heap[a]?=w.heap[a]?):=⟨_,rfl⟩;rw[<-Y];have K:=laid Y;clear Y R;unfold pd ae;dsimp only;go_wp2
 rw[K.out];refine bodyPost_ret (results_tmp rfl _ _ _) rfl ?_;refine⟨_,rfl,⟨rfl,.inr ⟨w.heap.size,1,_,rfl,A,heap_alloc_new w _,af _,by unfold maxLen;omega,rfl,rfl⟩⟩,fun a U=>heap_alloc_old w _ (by omega)⟩
end
namespace Ph
open Conc Ren RowKit
noncomputable def Ux:Array Oper:=match ae.body with
 |some (.seq (.region _ o _) _)=>o
 |_=>#[]
noncomputable def KN:Array Oper:=match ae.body with
 |some (.seq _ (.seq (.region _ o _) _))=>o
 |_=>#[]
theorem ajF:ae.body=some (.seq (.region 0 Ux false) (.seq (.region 1 KN false) (.seq (.region 2 lQ true) pd))):=by kernel_rfl
theorem I_:lH K0 PR false pd=true:=by decide+kernel
theorem apj:lQ.size=9:=by kernel_rfl
theorem ajG:(ab.all fun H=>ab.all fun d1=>ab.all fun d2=>ab.all fun d3=>ab.all fun d4=>ab.all fun Y=>(Region.ready .any lQ #[H,d1,d2,d3,d4,Y,false,false,false]).all fun i=>(i==0&&!H)||(i==1&&!d1)||(i==2&&!d2)||(i==3&&(!d3&&d2))||(i==4&&!d4)||(i==5&&!Y)||(i==6&&(d1&&(d3&&(d4&&Y)))))=true:=by decide+kernel
theorem Gi(H d1 d2 d3 d4 Y:Bool)(i:Nat)(D:i∈Region.ready .any lQ #[H,d1,d2,d3,d4,Y,false,false,false]):(i=0/\H=false)\/(i=1/\d1=false)\/(i=2/\d2=false)\/(i=3/\d3=false/\d2=true)\/(i=4/\d4=false)\/(i=5/\Y=false)\/(i=6/\d1=true/\d3=true/\d4=true/\Y=true):=by
 have h:=aQ.1 (kZ (kZ (kZ (kZ (kZ (kZ ajG H) d1) d2) d3) d4) Y) i D;simpa[or_assoc]using h
theorem ajH:(ab.all fun Y=>ab.all fun d1=>ab.all fun d2=>ab.all fun d3=>ab.all fun d4=>ab.all fun H=>(d3&&!d2)||!(Region.ready .any lQ #[Y,d1,d2,d3,d4,H,false,false,false]).isEmpty)=true:=by decide+kernel
theorem ahQ(Y d1 d2 d3 d4 H:Bool)(D:d3=true->d2=true):Region.ready .any lQ #[Y,d1,d2,d3,d4,H,false,false,false]≠ []:=by
 have h:=kZ (kZ (kZ (kZ (kZ (kZ ajH Y) d1) d2) d3) d4) H;intro e;rw[e]at h;simp at h;rw[D h.1]at h;simp at h
theorem ajI:Region.ready .any lQ #[false,true,true,true,true,true,true,false,false]=[0]:=by decide+kernel
theorem ajJ:Region.ready .any lQ #[true,true,true,true,true,true,true,false,false]=[7]:=by decide+kernel
theorem ajK:Region.ready .any lQ #[true,true,true,true,true,true,true,true,false]=[8]:=by decide+kernel
theorem SQ(t:Nat):Region.linearise.go .any lQ 2 t #[true,true,true,true,true,true,true,false,false] []=[7,8]:=by
 rw[D5 ajJ];show 7::Region.linearise.go _ _ 1 _ #[true,true,true,true,true,true,true,true,false] []=_
 rw[D5 ajK];rfl
theorem ahR(t:Nat):Region.linearise.go .any lQ 3 t #[false,true,true,true,true,true,true,false,false] []=[0,7,8]:=by
 rw[D5 ajI];show 0::Region.linearise.go _ _ 2 _ #[true,true,true,true,true,true,true,false,false] []=_
 rw[SQ]
abbrev Wy(rn P rm:ByteArray):Value:=oX rn (g_ P 0) (str (jW rm))
def pk(b:Bool)(x:Value):Value:=if b then x else undef
def q9(X P rn rm:ByteArray)(k:Nat):List Value:=if jg P X k=[]/\jg (g_ P 0) X k=[]then [zn rn P rm]else nb X P rn rm false k++nb X (g_ P 0) rn (str (jW rm)) true k
theorem uG{P:ByteArray}{k:Nat}:(nb X P rn rm fl k).length=(jg P X k).length:=by unfold nb;simp
theorem aas{P:ByteArray}{k:Nat}:∀u∈nb X P rn rm fl k,u.oneCell'=true:=by
 intro u Y;obtain⟨e,_,rfl⟩:=aU.1 Y;rfl
def z6(XN X rn P rm:ByteArray)(k q st n b4 b5 b6:Nat)(y z:Value)(Y d1 d2 d3 d4 H:Bool):Array Value:=
 #[pG XN X,oX rn P rm,jE k q st,iv n,ptr b4,ptr b5,ptr b6,undef,.slice none 0 0,y,pG XN X,oX rn P rm,jE k q st,iv n,y,pk Y y,pk d1 (pG XN X),pk d2 (oX rn P rm),pk d3 (Wy rn P rm),pk d4 (jE k q st),pk H (iv n),z,undef,undef,undef,undef,undef,undef,undef,undef,undef]
theorem Ex{b:Nat}{fz:Nat×Nat}(h:v.heap[b]?=some (.cells #[x,y] e fz)):(az 68 (ptr b)).run PR v=.ok (.agg #[x,y]) v:=by
 have c0:v.cell? ⟨b,0,none⟩=some x:=by simp[ao,h]
 have c1:v.cell? ⟨b,1,none⟩=some y:=by simp[ao,h]
 simp[ptr,go_sem,c0,c1]
theorem JL{b:Nat}{fz:Nat×Nat}(h:v.heap[b]?=some (.cells #[x,y,z] e fz)):(az 131 (ptr b)).run PR v=.ok (.agg #[x,y,z]) v:=by
 have c0:v.cell? ⟨b,0,none⟩=some x:=by simp[ao,h]
 have c1:v.cell? ⟨b,1,none⟩=some y:=by simp[ao,h]
 have c2:v.cell? ⟨b,2,none⟩=some z:=by simp[ao,h]
 simp[ptr,go_sem,c0,c1,c2]
theorem A2{B:Nat}{z:Nat}(h:v.ownsRow B e z x n xs)(k:Kw v v'):v'.ownsRow B e z x n xs:=by
 refine⟨h.1,?_⟩;rcases h.2 with h'|⟨K,cap,Y,rfl,H,D,R⟩
 ·simp_all
 ·exact .inr ⟨K,cap,Y,rfl,H,k.at D,R⟩
theorem Ja:([7,8].all fun i=>match lQ[i]? with|some o=>A8 K0 PR false o|none=>true)=true:=by decide+kernel
section
variable{Q:QT}{XN X rn P rm:ByteArray}{k q st n:Nat}{v:World}
theorem Y0{R:Value->World->Prop}(hX:X.size<=200)(M:b4<=v.heap.size)(N:v.heap[b5]?=some (.cells #[.string rn,.string P,.string rm] 131))(D:v.ownsRow b4 136 1 y (jg P X k).length (nb X P rn rm false k))(B:jg P X k=[]->y=.slice none 0 0)(C:v.ownsRow b4 136 1 z (jg (g_ P 0) X k).length (nb X (g_ P 0) rn (str (jW rm)) true k))(F:jg (g_ P 0) X k=[]->z=.slice none 0 0)
  (H:∀x v',v'.ownsRow b4 136 1 x (q9 X P rn rm k).length (q9 X P rn rm k)->(∀a,a<b4->v'.heap[a]?=v.heap[a]?)->R x v'):GW false Q R 92 [.inRegion lQ [7,8],.code pd] (z6 XN X rn P rm k q st n b4 b5 b6 y z true true true true true true) v:=by
 refine GW.to (yf (pG XN X) (oX rn P rm) (jE k q st) (iv n) y z b4 b5 b6 fun i=>(z6 XN X rn P rm k q st n b4 b5 b6 y z true true true true true true).getD i undef) ?_;generalize(fun i=>(z6 XN X rn P rm k q st n b4 b5 b6 y z _ _ _ _ _ _).getD i _)=J;have O:=Av P X k;have S:=Av (g_ P 0) X k;by_cases K:jg (g_ P 0) X k=[]
 ·obtain rfl:=F K;by_cases I:jg P X k=[]
  ·obtain rfl:=B I;have Y:q9 X P rn rm k=[zn rn P rm]:=by unfold q9;rw[if_pos ⟨I,K⟩]
   rw[Y]at H;exact GW.mono (R1:=fun x v'=>v'.ownsRow b4 136 1 x 1 _/\∀a,a<b4->v'.heap[a]?=v.heap[a]?) (fun x v' h=>H x v' h.1 h.2) (GW.JK aW I_ Ja fun T=>ab0 rn P rm _ _ _ _ b4 b5 b6 b4 J _ M N)
  ·have Y:q9 X P rn rm k=nb X P rn rm false k:=by
    unfold q9;rw[if_neg (fun h=>I h.1)];simp[nb,K]
   rw[Y]at H;rw[<-uG (rn:=rn) (rm:=rm) (fl:=false)]at D;have A:0<(nb X P rn rm false k).length:=by rw[uG];exact aT.2 I
   have U:(nb X P rn rm false k).length<=1000:=by rw[uG];omega
   obtain⟨g,cap,rfl⟩:∃g cap,y=.slice _ _ cap:=by
    rcases D.2 with⟨_,h⟩|⟨g,cap,_,h,_⟩
    ·omega
    ·exact⟨g,cap,h⟩
   exact GW.mono (R1:=fun x v'=>v'.ownsRow b4 136 1 x _ _/\∀a,a<b4->v'.heap[a]?=v.heap[a]?) (fun x v' h=>H x v' h.1 h.2) (GW.JK aW I_ Ja fun T=>aar _ rn P rm _ _ _ _ g cap b4 b5 b6 b4 J _ U A D)
 ·have Y:q9 X P rn rm k=nb X P rn rm false k++nb X (g_ P 0) rn (str (jW rm)) true k:=by unfold q9;rw[if_neg (fun h=>K h.2)]
  rw[Y]at H;rw[<-uG (rn:=rn) (rm:=rm) (fl:=false)]at D;rw[<-uG (rn:=rn) (rm:=str (jW rm)) (fl:=true)]at C;have A:0<(nb X (g_ P 0) rn (str (jW rm)) true k).length:=by rw[uG];exact aT.2 K
  have U:(nb X P rn rm false k).length<=1000:=by rw[uG];omega
  have L:(nb X (g_ P 0) rn (str (jW rm)) true k).length<=1000:=by rw[uG];omega
  obtain⟨g,cap,rfl⟩:∃g cap,z=.slice _ _ cap:=by
   rcases C.2 with⟨_,h⟩|⟨g,cap,_,h,_⟩
   ·omega
   ·exact⟨g,cap,h⟩
  exact GW.mono (R1:=fun x v'=>v'.ownsRow b4 136 1 x _ _/\∀a,a<b4->v'.heap[a]?=v.heap[a]?) (fun x v' h=>H x v' h.1 h.2) (GW.JK aW I_ Ja fun T=>abZ _ _ rn P rm _ _ _ _ y g cap b4 b5 b6 b4 J _ U L A aas D C M)
theorem ab1(hX:X.size<=200)(hP:P.size<=30)(hm:rm.size<=1000)(hk:k<=6)(W:k<P.size)(N:k<(g_ P 0).size)(m:1<=q)(S:q<=8)(hs:1<=st)(V:st<=200)(s:1<=n)(O:n<=8)(U:lq v)(g:iU v):
  gW Q 92 #[pG XN X,oX rn P rm,jE k q st,iv n] v fun x v'=>v'.ownsRow v.heap.size 136 1 x (q9 X P rn rm k).length (q9 X P rn rm k)/\Kw v v':=by
 have Y:∃F,PR.funcs[92]?=some F:=⟨_,aW⟩;refine gW.of (n:=31) aW ajF (by simp) ?_;refine GW.run 2 (k':=[.inRegion Ux [0,1,2,3],.code (.seq (.region 1 KN false) (.seq (.region 2 lQ true) pd))]) ?_;refine GW.bx Y (t:=68) (y:=pG XN X) fun v1 k1 l1 c4=>?_;refine GW.bx Y (t:=131) (y:=oX rn P rm) fun v2 l l2 B=>?_;refine GW.bx Y (t:=75) (y:=jE k q st) fun v3 f l3 c6=>?_;refine GW.gS Y [3] ?_;refine GW.run 3 (k':=[.inRegion KN [0,1,2,3,4,5],.code (.seq (.region 2 lQ true) pd)]) ?_;have K3:=(k1.trans l).trans f;have c4:=f.at (l.at c4);have B:=f.at B;refine GW.ld Y (Ex c4) ?_;refine GW.ld Y (JL B) ?_;refine GW.ld Y (Bd c6) ?_;refine GW.gS Y [3] ?_;refine GW.call Y (QY (XN:=XN) (rn:=rn) (rm:=rm) (fl:=false) hX hP hk W m S hs V s O (K3.tabs U) (K3.qU U g)) ?_;rintro y v4 ⟨Z,c,L⟩;have L:Kw v3 v4:=L;refine GW.gS Y [5] ?_;refine GW.run 2 (k':=[.code (.region 2 lQ true),.code pd]) ?_;refine GW.to (z6 XN X rn P rm k q st n v.heap.size v1.heap.size v2.heap.size y undef false false false false false false) ?_;have c4:=L.at c4;have B:=L.at B;have c6:=L.at c6;have K4:=K3.trans L;have Z:=yH Z K3.size;have J:=K4.size;generalize b:v.heap.size=b4 at Z J c4⊢;generalize v1.heap.size=b5 at B⊢;generalize v2.heap.size=b6 at c6⊢;refine GW.draw fun t=>?_;refine GW.TG (fun D=>z6 XN X rn P rm k q st n b4 b5 b6 y _ (D.getD 0 false) (D.getD 1 false) (D.getD 2 false) (D.getD 3 false) (D.getD 4 false) (D.getD 5 false)) (fun fuel D u=>∃I d1 d2 d3 d4 A:Bool,D=#[I,d1,d2,d3,d4,A,false,false,false]/\(d3=true->d2=true)/\fuel+(I.toNat+d1.toNat+d2.toNat+d3.toNat+d4.toNat+A.toNat)=9/\Kw v4 u) ?_ ?_ 9 t _ v4 ⟨false,false,false,false,false,false,rfl,(by simp),rfl,.refl _⟩
 ·rintro D i fuel t u ⟨I,d1,d2,d3,d4,A,rfl,H,C,K⟩ w M;rcases Gi I d1 d2 d3 d4 A i w with⟨rfl,rfl⟩|⟨rfl,rfl⟩|⟨rfl,rfl⟩|⟨rfl,rfl,rfl⟩|⟨rfl,rfl⟩|⟨rfl,rfl⟩|⟨rfl,rfl,rfl,rfl,rfl⟩
  ·exact GW.gS Y [0] (GW.to _ (M u ⟨true,d1,d2,d3,d4,A,rfl,H,by simp at C⊢;omega,K⟩))
  ·exact GW.ld Y (Ex (K.at c4)) (GW.to _ (M u ⟨I,true,d2,d3,d4,A,rfl,H,by simp at C⊢;omega,K⟩))
  ·exact GW.ld Y (JL (K.at B)) (GW.to _ (M u ⟨I,d1,true,d3,d4,A,rfl,fun _=>rfl,by simp at C⊢;omega,K⟩))
  ·refine GW.call Y (gW.ij (R:=fun x v'=>x=Wy rn P rm/\Kw u v') (by decide) fun T=>(Z5 rn P rm _ (by omega) hm).mono fun e w' h=>⟨_,h.1,rfl,fun a G=>h.2.block a G⟩) ?_;rintro x u' ⟨rfl,o⟩;exact GW.to _ (M u' ⟨I,d1,true,true,d4,A,rfl,fun _=>rfl,by simp at C⊢;omega,K.trans o⟩)
  ·exact GW.ld Y (Bd (K.at c6)) (GW.to _ (M u ⟨I,d1,d2,d3,true,A,rfl,H,by simp at C⊢;omega,K⟩))
  ·exact GW.gS Y [5] (GW.to _ (M u ⟨I,d1,d2,d3,d4,true,rfl,H,by simp at C⊢;omega,K⟩))
  ·obtain rfl:=H rfl;refine GW.call Y (QY (XN:=XN) (rn:=rn) (rm:=str (jW rm)) (fl:=true) hX (by have:=Ct P 0;omega) hk N m S hs V s O ((K4.trans K).tabs U) ((K4.trans K).qU U g)) ?_;rintro z u2 ⟨hz,d,E⟩;have fin:GW _ Q (fun x v'=>v'.ownsRow b4 136 1 x _ _/\Kw v v') 92 _ (z6 XN X rn P rm k q st n b4 b5 b6 y z true _ _ _ _ _) u2:=
    Y0 hX (aj J (K.trans E).size) ((K.trans E).at B) (A2 Z (K.trans E)) c (yH hz (aj J K.size)) d fun x v' p r=>⟨p,fun a G=>(r a (by omega)).trans (((K4.trans K).trans E) a G)⟩
   cases I with
   |true=>
    obtain rfl:fuel=2:=by simp_all
    rw[show(#[true,true,true,true,true,true,false,false,false]).setIfInBounds 6 _=#[true,true,true,true,true,true,true,false,false]from rfl,SQ];exact GW.to _ fin
   |false=>
    obtain rfl:fuel=3:=by simp at C;omega
    rw[show(#[false,true,true,true,true,true,false,false,false]).setIfInBounds 6 true=#[false,true,true,true,true,true,true,false,false]from rfl,ahR];exact GW.gS Y [0] (GW.to _ fin)
 ·rintro fuel D u ⟨I,d1,d2,d3,d4,A,rfl,H,C,K⟩ j;exfalso;rcases j with rfl|j
  ·have:=ar I;have:=ar d1;have:=ar d2;have:=ar d3;have:=ar d4;have:=ar A;omega
  ·exact ahQ I d1 d2 d3 d4 A H j
end
end Ph
section
inductive Rc where
 |hit (p:Pl)
 |no (rn rb rm:ByteArray)
def Rc.val:Rc->Value
 |.hit p=>qY p
 |.no rn rb rm=>zn rn rb rm
def Rc.text(Y:ByteArray):Rc->Bool->List UInt8
 |.hit p,first=>ns [p.rn,str (gR (vf p.fl first)),Y,str (gR (p.st+1)),p.lt,str (gR p.er),p.df,p.rb,p.rm]++[10]
 |.no rn rb rm,_=>ns [rn,str (gR 4),str [42],str [48],str [42],str [45],str [45],rb,rm]++[10]
def Bp:Rc:=.no ⟨#[]⟩ ⟨#[]⟩ ⟨#[]⟩
def oL(X P rn rm:ByteArray)(fl:Bool)(k:Nat):List Rc:=(jg P X k).map fun e=>.hit (pF X P rn rm fl (fun e=>(gX P X k e).2) (fun e=>(gX P X k e).1) e)
def ql(X P rn rm:ByteArray)(k:Nat):=if jg P X k=[]/\jg (g_ P 0) X k=[]then [.no rn P rm]else oL X P rn rm false k++oL X (g_ P 0) rn (str (jW rm)) true k
def jP(Y:ByteArray)(n:Nat)(L:List Rc)
 |0=>[]
 |i+1=>jP Y n L i++(L.getD i Bp).text Y (decide (n+i=0))
theorem QZ(H:ByteArray)(n:Nat)(Y D:List Rc):∀i,i<=Y.length->jP H n (Y++D) i=jP H n Y i
 |0,_=>rfl
 |i+1,h=>by
  rw[jP,jP,QZ H n Y D i (by omega)];rw[au,au,List.getElem?_append_left (by omega)]
theorem R7(H:ByteArray)(n:Nat)(Y D:List Rc):∀i,jP H n (Y++D) (Y.length+i)=jP H n Y Y.length++jP H (n+Y.length) D i
 |0=>by rw[Nat.add_zero,QZ H n Y D _ (af _)];simp[jP]
 |i+1=>by
  rw[<-bR,jP,jP,R7 H n Y D i,bg];congr 3
  ·rw[au,au,List.getElem?_append_right (by omega)];simp_all
  ·congr 1;simp only[eq_iff_iff];omega
theorem OX(p t:ByteArray)(k:Nat):∀n,jC p t k n=(qj p t k n).map fun e=>((gX p t k e).2,e,(gX p t k e).1)
 |0=>by simp[jC,qj]
 |n+1=>by
  have Y:=OX p t k n;unfold qj at *;rw[jC];split
  ·rw[aA,aA,<-Y];rfl
  ·omega
theorem Hi(p t:ByteArray)(k:Nat):iE p t k=(jg p t k).map fun e=>((gX p t k e).2,e,(gX p t k e).1):=OX p t k _
theorem Uy(a b c d e f g h i:List _):Lib.join [a,b,c,d,e,f,g,h,i] [9]=a++[9]++b++[9]++c++[9]++d++[9]++e++[9]++f++[9]++g++[9]++h++[9]++i:=by
 unfold Lib.join;simp
theorem KO(l:List _):(str l).data.toList=l:=by unfold str;simp
theorem adV(Y X P rn rm:ByteArray)(fl first:Bool)(k e n:Nat)(H:vf fl first=n):
  Rc.text Y (.hit (pF X P rn rm fl (fun e=>(gX P X k e).2) (fun e=>(gX P X k e).1) e)) first=w_ Y X rn P rm n ((gX P X k e).2,e,(gX P X k e).1):=by
 subst H;unfold Rc.text pF w_ zw ns;simp;rw[Uy];simp[KO]
theorem afV(Y rn rb rm:ByteArray)(first:Bool):Rc.text Y (.no rn rb rm) first=xx (rn,rb,rm):=by
 unfold Rc.text xx ns;simp;rw[Uy];simp[KO];have:gR 4=[52]:=by decide+kernel
 simp_all
theorem GN(Y X P rn rm:ByteArray)(fl:Bool)(k n:Nat):∀i,i<=(jg P X k).length->jP Y n (oL X P rn rm fl k) i=qu Y X rn P rm (if fl then 16 else 0) (decide (0<n)) (iE P X k) i
 |0,_=>rfl
 |i+1,h=>by
  rw[jP,qu,GN Y X P rn rm fl k n i (by omega)];congr 1;rw[Hi];unfold oL;rw[au,au,aJ,aJ,ak (by omega)];simp only[Option.map_some,Option.getD_some];refine adV Y X P rn rm fl _ k _ _ ?_;unfold vf nL;by_cases H:n+i=0
  ·have K:¬(decide (0<n)=true\/0<i):=by simp;omega
   rw[if_neg K,decide_eq_true H];cases fl<;>rfl
  ·have K:decide (0<n)=true\/0<i:=by simp;omega
   rw[if_pos K,decide_eq_false H];cases fl<;>rfl
theorem R8(H Y rn p mk:ByteArray)(add:Nat)(more:Bool)(L:List _)(i:Nat)(h:0<i):qu H Y rn p mk add more L i≠ []:=by
 cases i with
 |zero=>omega
 |succ i=>
  rw[qu];intro e;have:=congrArg List.length e;unfold w_ zw at this;simp_all
theorem ab2(Y X P rn rm:ByteArray)(k:Nat):jP Y 0 (ql X P rn rm k) (ql X P rn rm k).length=qb Y X k (rn,P,rm):=by
 have l1:(iE P X k).length=(jg P X k).length:=by rw[Hi];simp
 have l2:(iE (g_ P 0) X k).length=(jg (g_ P 0) X k).length:=by rw[Hi];simp
 have R:qi Y X k (rn,P,rm)=jP Y 0 (oL X P rn rm false k) (jg P X k).length:=by
  rw[GN Y X P rn rm _ k 0 _ (af _)];unfold qi sz;simp_all
 have D:qi Y X k (rn,P,rm)=[]↔jg P X k=[]:=by
  constructor
  ·intro h;apply bF;intro H;unfold qi sz at h;rw[l1]at h;exact R8 _ _ _ _ _ _ _ _ _ (aT.2 H) h
  ·intro h;rw[R,h];rfl
 have I:rN Y X k (rn,P,rm)=jP Y (jg P X k).length (oL X (g_ P 0) rn (str (jW rm)) true k) (jg (g_ P 0) X k).length:=by
  rw[GN Y X _ rn _ _ k _ _ (af _)];unfold rN sz;rw[l2];have:decide (qi Y X k (rn,P,rm)≠ [])=decide (0<(jg P X k).length):=by
   rw[decide_eq_decide,aT];simp_all
  simp_all
 have K:rN Y X k (rn,P,rm)=[]↔jg (g_ P 0) X k=[]:=by
  constructor
  ·intro h;apply bF;intro H;unfold rN sz at h;rw[l2]at h;exact R8 _ _ _ _ _ _ _ _ _ (aT.2 H) h
  ·intro h;rw[I,h];rfl
 unfold qb;by_cases h:jg P X k=[]/\jg (g_ P 0) X k=[]
 ·rw[if_pos ⟨D.2 h.1,K.2 h.2⟩,K.2 h.2,bm];have:ql X P rn rm k=[.no rn P rm]:=by unfold ql;simp_all
  rw[this];show jP Y 0 _ 1=_
  rw[jP,jP,bM];exact afV Y rn P rm _
 ·rw[if_neg (fun e=>h ⟨D.1 e.1,K.1 e.2⟩)];have:ql X P rn rm k=oL X P rn rm false k++oL X (g_ P 0) rn (str (jW rm)) true k:=by unfold ql;simp_all
  rw[this,ai,R7,R,I,aV];have A:(oL X P rn rm false k).length=(jg P X k).length:=by unfold oL;simp
  have U:(oL X (g_ P 0) rn (str (jW rm)) true k).length=(jg (g_ P 0) X k).length:=by unfold oL;simp
  rw[A,U]
theorem PV(Y X:ByteArray):ns [⟨#[64]⟩++Y,str (gR X.size)]++[10]=rE Y X:=by
 unfold ns rE Lib.join;simp[KO]
end
namespace Ph
open Conc Ren RowKit
def cp:List Nat->Code->Code
 |1::p,.seq a _|1::p,.block _ a|1::p,.loop a|1::p,.cond _ a _|2::p,.seq _ a|2::p,.cond _ _ a=>cp p a
 |_,c=>c
def opsOf:Code->Array Oper
 |.region _ o _=>o
 |_=>#[]
section
variable{I:Bool}{Q:QT}{R:Value->World->Prop}{v:World}{fn:FuncId}{k:List Item}{a:Array Value}
theorem GW.any(f:(Nat->Value)->Array Value)(h:a=f fun i=>a.getD i undef)(g:∀u,GW I Q R fn k (f u) v):GW I Q R fn k a v:=by
 rw[h];exact g _
end
theorem ahS{B:Nat}{acc:List UInt8}(h:ic B acc v)(k:Kw v v'):ic B acc v':=by
 have K:Below _ v {v' with os:=v.os,tape:=v.tape,output:=v.output}:=⟨rfl,rfl,rfl,k.size,k⟩;have Y:=h.below K;exact Y
noncomputable def r7:Code:=Tryz.f60.body.getD .skip
def tB:Code:=cp [2,2,2,1,2,1,1] r7
def tI:Code:=cp [2,2,1,1,2,2,1,1] tB
def tE:Code:=cp [2,2,2,2] r7
def kB:List Item:=[.inLoop tB,.inBlock 0,.code tE]
def kI:List Item:=.inBlock 1:: .code (cp [2,2,2] tB)::kB
def Rc.ok:Rc->Prop
 |.hit p=>p.rn.size<=1000/\p.rb.size<=1000/\p.rm.size<=1000/\p.lt.size<=10000/\p.df.size<=10000/\p.st<=1000/\p.er<=1000
 |.no rn rb rm=>rn.size<=1000/\rb.size<=1000/\rm.size<=1000
theorem ab3(B:Nat)(acc:List UInt8)(XN:ByteArray)(x:Rc)(first:Bool)(v:World)(F:Rc.ok x)(D:XN.size<=1000)(A:ic B acc v)(U:acc.length<=500000000)(C:iU v):
  Calls PR 93 #[ptr B,.string XN,x.val,.bool first] v fun e v'=>∃y,e=.returned y/\ic B (acc++x.text XN first) v'/\(∀g,g<B->v'.heap[g]?=v.heap[g]?)/\Go.Proofs.YtdcjnhipenbcfaaGreatDoor.Kp B v v':=by
 cases x with
 |hit p=>
  obtain⟨Y,K,H,I,J,L,M⟩:=F;refine(WY B acc XN p _ v A D Y K H I J L M U C).mono fun e v' h=>⟨_,h.1,?_,fun g R=>h.2.2.1.block g R,h.2.2.2⟩;have:=h.2.1;rw[bg]at this;exact this
 |no rn rb rm=>
  obtain⟨Y,K,H⟩:=F;refine(WX B acc XN rn rb rm _ v A Y K H U C).mono fun e v' h=>⟨_,h.1,?_,fun g R=>h.2.2.1.block g R,h.2.2.2⟩;have:=h.2.1;rw[bg]at this;exact this
theorem ahT:ko PR (isAgg 136)=some false:=by kernel_rfl
theorem ahU:PR.underlying 133=some (.slice (PR.elem 133)):=by kernel_rfl
theorem afW:(PR.info? (PR.elem 133)).map (·.size)=some 1:=by kernel_rfl
def tc(XN X:ByteArray)(k q st n b4 b6 b9:Nat)(sl:Value)(len:Nat)(i y z j:Value)(u:Nat->Value):Array Value:=
 #[pG XN X,sl,jE k q st,iv n,ptr b4,u 5,ptr b6,u 7,.string ⟨#[]⟩,ptr b9,u 10,u 11,u 12,u 13,u 14,u 15,u 16,u 17,u 18,u 19,u 20,u 21,u 22,sl,iv len,i,u 26,u 27,u 28,u 29,u 30,u 31,u 32,y,z,j,u 36,u 37,u 38,u 39,u 40,u 41,u 42,u 43,u 44,u 45,u 46,u 47,u 48]
structure TV(v0:World)(XN X:ByteArray)(k q st b4 b6 b9:Nat)(acc:List UInt8)(v:World):Prop where
 c4:v.heap[b4]?=some (.cells #[.string XN,.string X] 68)
 c6:v.heap[b6]?=some (.cells #[iv k,iv q,iv st] 75)
 Ca:ic b9 acc v
 old:Kw v0 v
 l4:b4<b9
 l6:b6<b9
 l0:v0.heap.size<=b9
theorem TV.on{k st b9:Nat}{acc:List UInt8}(h:TV v0 XN X k q st b4 b6 b9 acc v)(Y:Kw v v'):TV v0 XN X k q st b4 b6 b9 acc v':=⟨Y.at h.c4,Y.at h.c6,ahS h.Ca Y,h.old.trans Y,h.l4,h.l6,h.l0⟩
theorem TV.wrote{k st b9:Nat}{acc:List UInt8}(h:TV v0 XN X k q st b4 b6 b9 acc v)(H:ic b9 I v')(Y:∀g,g<b9->v'.heap[g]?=v.heap[g]?):TV v0 XN X k q st b4 b6 b9 I v':=
 ⟨(Y _ h.l4).trans h.c4,(Y _ h.l6).trans h.c6,H,fun a K=>(Y a (ay K h.l0)).trans (h.old a K),h.l4,h.l6,h.l0⟩
section
variable{Q:QT}{R:Value->World->Prop}{v0:World}{XN X:ByteArray}{k q st n b4 b6 b9 len:Nat}{sl i:Value}{acc:List UInt8}{L:List Rc}{b:Option Addr}{cq:Nat}
theorem afX(E:XN.size<=1000)(V:lq v0)(hT:iU v0)(hL:∀x∈L,Rc.ok x)(hn:L.length<=100000)(M:∀j,j<=L.length->(acc++jP XN 0 L j).length<=500000000)
  (kk:∀j u v,TV v0 XN X k q st b4 b6 b9 (acc++jP XN 0 L L.length) v->GW false Q R 60 kI (tc XN X k q st n b4 b6 b9 sl len i (.slice b L.length cq) (iv L.length) j u) v):
  ∀m j,j+m=L.length->∀u v,TV v0 XN X k q st b4 b6 b9 (acc++jP XN 0 L j) v->v.ownsRow b9 136 1 (.slice b L.length cq) L.length (L.map Rc.val)->(∀g,(Value.slice b L.length cq).ownBlock=some g->b9<g)->
   GW false Q R 60 (.code tI:: .inLoop tI:: .inBlock 2::kI) (tc XN X k q st n b4 b6 b9 sl len i (.slice b L.length cq) (iv L.length) (iv j) u) v:=by
 have Y:∃F,PR.funcs[60]?=some F:=⟨_,aK⟩;intro m;induction m with
 |zero=>
  intro j hj u v A H G;obtain rfl:j=L.length:=by omega
  refine GW.run 2 (k':=.inRegion (opsOf (cp [1] tI)) [0]:: .code (cp [2] tI):: .inLoop tI:: .inBlock 2::kI) ?_;refine GW.gS Y [0] ?_;refine GW.run 2 (k':=.code (.cond (.tmp 36) .skip (.exit 2)):: .code (cp [2,2] tI):: .inLoop tI:: .inBlock 2::kI) ?_;refine GW.cond Y (t:=decide ((L.length:Int)<(L.length:Int))) trivial (by kernel_rfl) ?_;rw[show decide ((L.length:Int)<(L.length:Int))=false from decide_eq_false (by omega)];refine GW.run 1 (k':=kI) ?_;exact GW.any (fun u=>tc XN X k q st n b4 b6 b9 sl len i (.slice b L.length cq) (iv L.length) (iv L.length) u) (by kernel_rfl) fun o=>kk _ o v A
 |succ m ih=>
  intro j hj u v A H G;have I:j<L.length:=by omega
  obtain⟨g,K,hb,D,FW,d⟩:∃g K,b=some ⟨g,0,none⟩/\v.heap[g]?=some (.cells K 136 (0,0))/\K.size=cq *1/\K.toList.take (L.length *1)=L.map Rc.val:=by
   rcases H.2 with⟨_,h⟩|⟨g,cap,K,A,_,y,h4,h5,a,w⟩
   ·omega
   ·cases A;exact⟨g,K,rfl,y,a,w⟩
  subst hb;have hgb:b9<g:=G g rfl;have Z:K[0+j *1]?=some (L.getD j Bp).val:=by
   have s:(K.toList.take (L.length *1))[j]?=K.toList[j]?:=by rw[bp,if_pos (by omega)]
   rw[d,aJ,ak I]at s;rw[show 0+j *1=j by omega,<-aM,<-s,au,ak I];rfl
  have J:L.getD j Bp∈L:=by rw[au,ak I];exact bq _
  have f:acc++jP XN 0 L (j+1)=(acc++jP XN 0 L j)++(L.getD j Bp).text XN (decide ((j:Int)=0)):=by
   rw[jP,<-bg];congr 2;rw[decide_eq_decide];omega
  have z:=M j (by omega);generalize L.getD j Bp=e at *;refine GW.run 2 (k':=.inRegion (opsOf (cp [1] tI)) [0]:: .code (cp [2] tI):: .inLoop tI:: .inBlock 2::kI) ?_;refine GW.gS Y [0] ?_;refine GW.run 2 (k':=.code (.cond (.tmp 36) .skip (.exit 2)):: .code (cp [2,2] tI):: .inLoop tI:: .inBlock 2::kI) ?_;refine GW.cond Y (t:=decide ((j:Int)<(L.length:Int))) trivial (by kernel_rfl) ?_;rw[show decide ((j:Int)<(L.length:Int))=true from decide_eq_true (by omega)];refine GW.run 5 (k':=.inRegion (opsOf (cp [2,2,1,1,1] tI)) [0,1,2,3,4]:: .code (cp [2,2,1,1,2] tI):: .inBlock 3:: .code (cp [2,2,2] tI):: .inLoop tI:: .inBlock 2::kI) ?_;refine GW.gS Y [0] ?_;refine GW.ix Y (B:=g) (off:=0) (cap:=cq) I ahU afW ?_;refine GW.ld Y (mO (0+j *1) ahT D Z) ?_;refine GW.gS Y [3,4] ?_;refine GW.run 2 (k':=.inRegion (opsOf (cp [2,2,1,1,2] tI)) [0,1,2,3,4,5]:: .inBlock 3:: .code (cp [2,2,2] tI):: .inLoop tI:: .inBlock 2::kI) ?_;refine GW.gS Y [0] ?_;refine GW.ld Y (mO 0 xQ A.c4 rfl) ?_;refine GW.gS Y [2,3,4] ?_;refine GW.call Y (gW.ij (R:=fun _ v'=>ic b9 (acc++jP XN 0 L j++e.text XN (decide ((j:Int)=0))) v'/\(∀g,g<b9->v'.heap[g]?=v.heap[g]?)/\Go.Proofs.YtdcjnhipenbcfaaGreatDoor.Kp b9 v v') (by decide) fun T=>ab3 b9 (acc++jP XN 0 L j) XN e (decide ((j:Int)=0)) (tp v T) (hL _ J) E A.Ca z (A.old.qU V hT)) ?_;rintro x v' ⟨C,W,c⟩;rw[<-f]at C;refine GW.run 3 (k':=.inRegion (opsOf (cp [2,2,2] tI)) [0,1]:: .inLoop tI:: .inBlock 2::kI) ?_;refine GW.gS Y [0,1] ?_;refine GW.run 2 (k':=.code tI:: .inLoop tI:: .inBlock 2::kI) ?_;refine GW.any (fun u=>tc XN X k q st n b4 b6 b9 sl len i (.slice (some ⟨g,0,none⟩) L.length cq) (iv L.length) (.int .i64 (bc.wrap ((j:Int)+1))) u) (by kernel_rfl) fun o=>?_;rw[Ay (by omega)];refine ih (j+1) (by omega) o v' (A.wrote C W) ⟨H.1,.inr ⟨g,cq,K,rfl,by omega,c g K 136 (0,0) (by omega) (by decide) D,?_⟩⟩ G;rcases H.2 with⟨h,_⟩|⟨g',p,r,l,_,U,N,O,P,S⟩
  ·cases h
  ·cases l;rw[D]at U;cases U;exact⟨N,O,P,S⟩
end
section
variable{I:Bool}{Q:QT}{R:Value->World->Prop}{v:World}{fn:FuncId}{k:List Item}{a:Array Value}{ops:Array Oper}{i:Nat}{is:List Nat}
theorem afY:(PR.info? 131).map (·.size)=some 3:=by kernel_rfl
theorem GW.sk(Y:∃F,PR.funcs[fn]?=some F){s:Sem Unit}(h:mc ops i a=some (Bo s))(hr:s.run PR v=.ok () v1)(hd:v1.drawn=v.drawn)(g:GW I Q R fn (.inRegion ops is::k) (kQ (jX ops i) undef a) v1):GW I Q R fn (.inRegion ops (i::is)::k) a v:=
 GW.ex Y h (by simp[Bo,hr]) (.inr ⟨rfl,rfl⟩) hd g
theorem GW.Wz(H:∃F,PR.funcs[fn]?=some F)(S:(PR.info? t).map (·.size)=some 3){B:Nat}{z0 z1 z2:Value}(Y:v.heap[B]?=some (.cells #[z0,z1,z2] t'))
  (g:∀v1,v1.heap[B]?=some (.cells #[x,y,z] t')->(∀b,b≠B->v1.heap[b]?=v.heap[b]?)->v1.heap.size=v.heap.size->GW I Q R fn (.inRegion ops is::k) (kQ (jX ops i) undef a) v1)(h:mc ops i a=some (Bo (Instr.storeAt t (ptr B) (.agg #[x,y,z]))):=by kernel_rfl)(U:x.oneCell'=true:=by rfl)(C:y.oneCell'=true:=by rfl)(M:z.oneCell'=true:=by rfl):GW I Q R fn (.inRegion ops (i::is)::k) a v:=by
 obtain⟨P,D,A⟩:=xo S;have r0:=ry (i:=0) (v:=x) Y;have r1:=ry (i:=1) (v:=y) r0;have J:v.cell? ⟨B,0,none⟩=some z0:=by simp[ao,Y]
 have f0:v.frozen? ⟨B,0,none⟩=false:=by simp[bB,Y]
 have L:(v.setCell ⟨B,0,none⟩ x).cell? ⟨B,1,none⟩=some z1:=by simp[ao,r0]
 have f1:(v.setCell ⟨B,0,none⟩ x).frozen? ⟨B,1,none⟩=false:=by simp[bB,r0]
 have N:((v.setCell ⟨B,0,none⟩ x).setCell ⟨B,1,none⟩ y).cell? ⟨B,2,none⟩=some z2:=by simp[ao,r1]
 have f2:((v.setCell ⟨B,0,none⟩ x).setCell ⟨B,1,none⟩ y).frozen? ⟨B,2,none⟩=false:=by simp[bB,r1]
 have K:=akX (a:=x) (b:=y) (c:=z) v Y;refine GW.sk (v1:=ES B x y z v) H h ?_ rfl (g _ K.2 (fun b O=>K.1.heap b O) K.1.size);simp[go_sem,sizeOf,typeInfo,D,A,run_store PR _ _ x _ U,run_store PR _ _ y _ C,run_store PR _ _ z _ M,J,f0,L,f1,N,f2,ptr,ES]
end
theorem afZ:(PR.info? 131).map (·.zero)=some (some (.agg #[.string ⟨#[]⟩,.string ⟨#[]⟩,.string ⟨#[]⟩])):=by kernel_rfl
theorem ajL:PR.underlying 90=some (.slice (PR.elem 90)):=by kernel_rfl
theorem ahV:(PR.info? (PR.elem 90)).map (·.size)=some 3:=by kernel_rfl
theorem af0{b o:Nat}(c0:v.cell? ⟨b,o,none⟩=some x)(c1:v.cell? ⟨b,o+1,none⟩=some y)(c2:v.cell? ⟨b,o+2,none⟩=some z):(az 131 (rk b o)).run PR v=.ok (.agg #[x,y,z]) v:=by
 simp[rk,go_sem,c0,c1,c2]
theorem adW(X P rn rm:ByteArray)(k:Nat):q9 X P rn rm k=(ql X P rn rm k).map Rc.val:=by
 unfold q9 ql;split
 ·rfl
 ·rw[aA];unfold nb oL;rw[br,br];rfl
theorem PW(X P rn rm:ByteArray)(fl:Bool)(k:Nat)(hX:X.size<=200)(hP:P.size<=30)(hk:k<=6)(Y:rn.size<=1000)(H:rm.size<=1000):∀x∈oL X P rn rm fl k,Rc.ok x:=by
 intro x U;obtain⟨e,D,rfl⟩:=aU.1 U;obtain⟨a1,a2,a3,a4,a5⟩:=Og P X k e D;have B:(X.extract (gX P X k e).2 e).size<=200:=by rw[aZ];omega
 have R:=Ib P (X.extract (gX P X k e).2 e);have A:(str _).size=(iA P (X.extract (gX P X k e).2 e)).length:=gV _;have I:=Px (str (iA P (X.extract (gX P X k e).2 e))) (by omega);have K:=QI P (X.extract (gX P X k e).2 e) (str (iA P (X.extract (gX P X k e).2 e))) (by omega);refine⟨Y,(show P.size<=1000 by omega),H,?_,?_,(show(gX P X k e).2<=1000 by omega),(show(gX P X k e).1<=1000 by omega)⟩
 ·show(str (py (str (iA P (X.extract (gX P X k e).2 e))))).size<=10000
  rw[gV];omega
 ·show(str (oS P (X.extract (gX P X k e).2 e) (str (iA P (X.extract (gX P X k e).2 e))))).size<=10000
  rw[gV];omega
theorem af1(X P rn rm:ByteArray)(k:Nat)(hX:X.size<=200)(hP:P.size<=30)(hk:k<=6)(H:rn.size<=1000)(D:rm.size<=1000):∀x∈ql X P rn rm k,Rc.ok x:=by
 intro x Y;unfold ql at Y;split at Y
 ·simp at Y;subst Y;exact⟨H,(show P.size<=1000 by omega),D⟩
 ·rcases aH.1 Y with Y|Y
  ·exact PW X P rn rm _ k hX hP hk H D x Y
  ·exact PW X _ rn _ _ k hX (by have:=Ct P 0;omega) hk H (by rw[Pz];exact D) x Y
theorem adX(X P rn rm:ByteArray)(k:Nat)(hX:X.size<=200):(ql X P rn rm k).length<=402:=by
 have Y:=Av P X k;have K:=Av (g_ P 0) X k;unfold ql oL;split
 ·simp
 ·simp;omega
theorem Q0(Y:ByteArray)(n:Nat)(L:List Rc):∀j d,(jP Y n L j).length<=(jP Y n L (j+d)).length
 |j,0=>af _
 |j,d+1=>by
  have:=Q0 Y n L j d;rw[<-bR,jP,ai];omega
theorem aat(s:ByteArray):(g_ s 0).size=s.size:=by
 unfold g_;rw[gV];simp
section
variable{Q:QT}{R:Value->World->Prop}{v0:World}{XN X:ByteArray}{k q st n b4 b6 b9 cap:Nat}{a:Option Addr}{I:List mM}
theorem adY(hX:X.size<=200)(C:XN.size<=1000)(hk:k<=6)(hq:1<=q)(G:q<=8)(hs:1<=st)(W:st<=200)(hn:1<=n)(E:n<=8)(s:∀r∈I,(r.1.size<=10/\r.2.1.size<=30/\r.2.2.size<=30)/\k<r.2.1.size)(hRL:I.length<=5)(U:lq v0)(hT:iU v0)
  (rows:v0.ownsRow 0 131 3 (.slice a I.length cap) I.length (lG I))
  (kk:∀y z j u v,TV v0 XN X k q st b4 b6 b9 (oa XN X k I I.length) v->GW false Q R 60 [.code tE] (tc XN X k q st n b4 b6 b9 (.slice a I.length cap) I.length (iv I.length) y z j u) v):
  ∀m i,i+m=I.length->∀y z j u v,TV v0 XN X k q st b4 b6 b9 (oa XN X k I i) v->GW false Q R 60 (.code tB::kB) (tc XN X k q st n b4 b6 b9 (.slice a I.length cap) I.length (iv i) y z j u) v:=by
 have Y:∃F,PR.funcs[60]?=some F:=⟨_,aK⟩;intro m;induction m with
 |zero=>
  intro i hi y z j u v A;obtain rfl:i=I.length:=by omega
  refine GW.run 2 (k':=.inRegion (opsOf (cp [1] tB)) [0]:: .code (cp [2] tB)::kB) ?_;refine GW.gS Y [0] ?_;refine GW.run 2 (k':=.code (.cond (.tmp 26) .skip (.exit 0)):: .code (cp [2,2] tB)::kB) ?_;refine GW.cond Y (t:=decide ((I.length:Int)<(I.length:Int))) trivial (by kernel_rfl) ?_;rw[decide_eq_false (by omega)];refine GW.run 1 (k':=[.code tE]) ?_;exact GW.any (fun u=>tc XN X k q st n b4 b6 b9 _ I.length (iv I.length) y z j u) (by kernel_rfl) fun l=>kk _ _ _ l v A
 |succ m ih=>
  intro i hi y z j u v A;have N:i<I.length:=by omega
  obtain⟨g,rfl⟩:∃g,a=some ⟨g,0,none⟩:=by
   rcases rows.2 with⟨_,h⟩|⟨g,cap,V,A,_⟩
   ·omega
   ·cases A;exact⟨g,rfl⟩
  obtain⟨rn,P,rm,M⟩:∃rn P rm,I[i]?=some (rn,P,rm):=⟨I[i].1,I[i].2.1,I[i].2.2,ak N⟩;have J:I.getD i (⟨#[]⟩,⟨#[]⟩,⟨#[]⟩)=(rn,P,rm):=by simp_all
  obtain⟨⟨s1,T,s3⟩,f⟩:=s _ (bK M);simp only at s1 T s3 f;obtain⟨f1,f2,f3⟩:=QN I i _ M;have lg:=(rows.lt g rfl).2;have cells:∀j x,(lG I)[j]?=some x->v.cell? ⟨g,j,none⟩=some x:=fun j x w=>by
   have:=rows.cells (g:=g) rfl j x w;rw[yE]at this;rw[<-this];simp only[ao,A.old g lg]
  refine GW.run 2 (k':=.inRegion (opsOf (cp [1] tB)) [0]:: .code (cp [2] tB)::kB) ?_;refine GW.gS Y [0] ?_;refine GW.run 2 (k':=.code (.cond (.tmp 26) .skip (.exit 0)):: .code (cp [2,2] tB)::kB) ?_;refine GW.cond Y (t:=decide ((i:Int)<(I.length:Int))) trivial (by kernel_rfl) ?_;rw[decide_eq_true (by omega)];refine GW.run 5 (k':=.inRegion (opsOf (cp [2,2,1,1,1] tB)) [0,1,2,3]:: .code (cp [2,2,1,1,2] tB)::kI) ?_;refine GW.ix Y (B:=g) (off:=0) (cap:=cap) N ajL ahV ?_;refine GW.ld Y (y:=rk g (0+i *3)) (af0 (by rw[aV];exact cells _ _ f1) (by rw[aV];exact cells _ _ f2) (by rw[aV];exact cells _ _ f3)) ?_;refine GW.al Y afZ fun v1 _ k1 l1 c1=>?_;refine GW.Wz Y afY (x:=.string rn) (y:=.string P) (z:=.string rm) c1 fun v2 c2 k2 l2=>?_;have K2:Kw v v2:=fun b hb=>(k2 b (by omega)).trans (k1 b hb);have D:=A.on K2;refine GW.run 3 (k':=.inRegion (opsOf (cp [2,2,1,1,2,1] tB)) [0,1,2,3,4,5,6]:: .code (cp [2,2,1,1,2,2] tB)::kI) ?_;refine GW.ld Y (Ex D.c4) ?_;refine GW.ld Y (JL c2) ?_;refine GW.ld Y (Bd D.c6) ?_;refine GW.gS Y [3] ?_;refine GW.call Y (ab1 (XN:=XN) (rn:=rn) (rm:=rm) hX T (by omega) hk f (by rw[aat];exact f) hq G hs W hn E (D.old.tabs U) (D.old.qU U hT)) ?_;rintro x v3 ⟨K,k3⟩;have c:=D.on k3;rw[adW,List.length_map]at K;obtain⟨L,S⟩:∃L,L=ql X P rn rm k:=⟨_,rfl⟩;rw[<-S]at K;obtain⟨b,O,rfl⟩:∃b O,x=.slice b L.length O:=by
   rcases K.2 with⟨hy,h0⟩|⟨p,o,V,A,_⟩
   ·simp_all
   ·exact⟨_,_,A⟩
  have hLn:L.length<=402:=by rw[S];exact adX X P rn rm k hX
  have H:jP XN 0 L L.length=qb XN X k (rn,P,rm):=by rw[S];exact ab2 XN X P rn rm k
  have Z:=fun r hr=>(s r hr).1;have l9:=A.Ca.lt;refine GW.gS Y [5,6] ?_;refine GW.run 3 (k':=.code tI:: .inLoop tI:: .inBlock 2::kI) ?_;refine GW.any (fun u=>tc XN X k q st n b4 b6 b9 (.slice (some ⟨g,0,none⟩) I.length cap) I.length (iv i) (.slice b L.length O) (iv L.length) (iv 0) u) (by kernel_rfl) fun l=>?_;refine afX (L:=L) C U hT (by rw[S];exact af1 X P rn rm k hX T hk (by omega) (by omega)) (by omega) (fun j w=>?_) (fun j' u2 v4 d=>?_) L.length 0 (by omega) l v3 (by rw[jP,bm];exact c) (yH K (by omega)) (fun p e=>by have:=(K.lt p e).1;omega)
  ·have m1:=Q0 XN 0 L j (L.length-j);rw[show j+(L.length-j)=L.length by omega,H]at m1;have m2:=GL XN X k (rn,P,rm) C (by omega) ⟨s1,T,s3⟩ (by omega);have m3:=HY XN X k I C (by omega) Z (by omega) i (by omega);rw[ai];omega
  ·refine GW.run 2 (k':=.inRegion (opsOf (cp [2,2,2] tB)) [0,1]::kB) ?_;refine GW.gS Y [0,1] ?_;refine GW.run 2 (k':=.code tB::kB) ?_;refine GW.any (fun u=>tc XN X k q st n b4 b6 b9 (.slice (some ⟨g,0,none⟩) I.length cap) I.length (.int .i64 (bc.wrap (i+1))) (.slice b L.length O) (iv L.length) j' u) (by kernel_rfl) fun u3=>?_;rw[Ay (by omega)];refine ih (i+1) (by omega) _ _ _ u3 v4 ?_;have:oa XN X k I (i+1)=oa XN X k I i++jP XN 0 L L.length:=by rw[oa,J,H]
   rw[this];exact d
end
def tH:Array Oper:=opsOf (cp [2,2,1] r7)
theorem af2:tH.size=9:=by kernel_rfl
theorem ajM:(ab.all fun Y=>ab.all fun d1=>ab.all fun d2=>ab.all fun d3=>ab.all fun d4=>ab.all fun H=>ab.all fun D=>(Region.ready .any tH #[Y,d1,d2,d3,d4,H,D,false,false]).all fun i=>(i==0&&!Y)||(i==1&&(!d1&&Y))||(i==2&&(!d2&&d1))||(i==3&&!d3)||(i==4&&(!d4&&d3))||(i==5&&(!H&&d4))||(i==6&&(!D&&H))||(i==7&&(d2&&D)))=true:=by decide+kernel
theorem tdy(Y d1 d2 d3 d4 H D:Bool)(i:Nat)(A:i∈Region.ready .any tH #[Y,d1,d2,d3,d4,H,D,false,false]):(i=0/\Y=false)\/(i=1/\d1=false/\Y=true)\/(i=2/\d2=false/\d1=true)\/(i=3/\d3=false)\/(i=4/\d4=false/\d3=true)\/(i=5/\H=false/\d4=true)\/(i=6/\D=false/\H=true)\/(i=7/\d2=true/\D=true):=by
 have h:=aQ.1 (kZ (kZ (kZ (kZ (kZ (kZ (kZ ajM Y) d1) d2) d3) d4) H) D) i A;simpa[or_assoc]using h
theorem ajN:(ab.all fun H=>ab.all fun d1=>ab.all fun d2=>ab.all fun d3=>ab.all fun d4=>ab.all fun Y=>ab.all fun D=>(d1&&!H)||(d2&&!d1)||(d4&&!d3)||(Y&&!d4)||(D&&!Y)||!(Region.ready .any tH #[H,d1,d2,d3,d4,Y,D,false,false]).isEmpty)=true:=by decide+kernel
theorem ajO:Region.ready .any tH #[true,true,true,true,true,true,true,true,false]=[8]:=by decide+kernel
section
variable{I:Bool}{Q:QT}{R:Value->World->Prop}{v:World}{fn:FuncId}{k:List Item}{a:Array Value}{ops:Array Oper}{i:Nat}{is:List Nat}
theorem GW.cat(Y:∃F,PR.funcs[fn]?=some F)(p q:Operand){x y:ByteArray}(H:x.size+y.size<=100000000)(g:GW I Q R fn (.inRegion ops is::k) (kQ (jX ops i) (.string (x++y)) a) v)(h:mc ops i a=some (rU (do eqGuard .add 9 p q (.string x) (.string y);binOp .add 9 (.string x) (.string y))):=by kernel_rfl):GW I Q R fn (.inRegion ops (i::is)::k) a v:=
 GW.vl Y h (by simp[go_sem,run_string_add_sum (w:=v) x y (by omega)]) rfl g
theorem GW.bs(Y:∃F,PR.funcs[fn]?=some F){x y:ByteArray}(g:∀v1,Kw v v1->v1.heap[v.heap.size]?=some (.cells #[.string x,.string y] 9)->GW I Q R fn (.inRegion ops is::k) (kQ (jX ops i) (.slice (some ⟨v.heap.size,0,none⟩) 2 2) a) v1)(h:mc ops i a=some (rU (Instr.buildSlice 65 2 #[(0,.string x),(1,.string y)])):=by kernel_rfl):GW I Q R fn (.inRegion ops (i::is)::k) a v:=by
 obtain⟨H,D,K⟩:=xo (f:=fun i=>(i.zero,i.size)) (z:=(some (.string ⟨#[]⟩),1)) (t:=9) (by kernel_rfl);simp only[bT]at K;exact GW.vl (v1:=v.alloc _) Y h (by simp[go_sem]) rfl (g _ (.alloc v _) (heap_alloc_new v _))
end
def Gj(XN X:ByteArray)(k q st n b4 b6 b9:Nat)(sl:Value)(Y d1 d2 d3 d4 H D:Bool):Array Value:=
 #[pG XN X,sl,jE k q st,iv n,ptr b4,undef,ptr b6,undef,.string ⟨#[]⟩,ptr b9,undef,undef,undef,undef,pk Y (rk b4 0),pk d1 (.string XN),pk d2 (.string (⟨#[64]⟩++XN)),pk d3 (rk b4 1),pk d4 (.string X),pk H (.int .i64 (X.size:Int)),pk D (.string (str (gR X.size))),undef,undef,undef,undef,undef,undef,undef,undef,undef,undef,undef,undef,undef,undef,undef,undef,undef,undef,undef,undef,undef,undef,undef,undef,undef,undef,undef,undef]
section
variable{Q:QT}{R:Value->World->Prop}{v0 v:World}{XN X:ByteArray}{k q st n b4 b6 b9 cap len:Nat}{sl:Value}{K:List Item}
theorem ab4(hX:X.size<=200)(V:XN.size<=1000)(S:lq v0)(d:iU v0)(s:TV v0 XN X k q st b4 b6 b9 [] v)
  (m:∀z x v',TV v0 XN X k q st b4 b6 b9 (rE XN X) v'->GW false Q R 60 (.inRegion tH []::K) (kQ (some 22) x (kQ (some 21) z (Gj XN X k q st n b4 b6 b9 sl true true true true true true true))) v'):
  GW false Q R 60 (.code (.region 2 tH true)::K) (Gj XN X k q st n b4 b6 b9 sl false false false false false false false) v:=by
 have Y:∃F,PR.funcs[60]?=some F:=⟨_,aK⟩;refine GW.draw fun t=>?_;rw[af2];refine GW.TG (md:=.any) (fun D=>Gj XN X k q st n b4 b6 b9 sl (D.getD 0 false) (D.getD 1 false) (D.getD 2 false) (D.getD 3 false) (D.getD 4 false) (D.getD 5 false) (D.getD 6 false)) (fun fuel D u=>∃U d1 d2 d3 d4 I A:Bool,D=#[U,d1,d2,d3,d4,I,A,false,false]/\(d1=true->U=true)/\(d2=true->d1=true)/\(d4=true->d3=true)/\(I=true->d4=true)/\(A=true->I=true)/\fuel+(U.toNat+d1.toNat+d2.toNat+d3.toNat+d4.toNat+I.toNat+A.toNat)=9/\TV v0 XN X k q st b4 b6 b9 [] u) ?_ ?_ 9 t (aN 9 false) v ⟨false,false,false,false,false,false,false,rfl,nofun,nofun,nofun,nofun,nofun,rfl,s⟩
 ·rintro D i fuel t u ⟨U,d1,d2,d3,d4,I,A,rfl,C,J,L,M,N,B,T⟩ c H;rcases tdy U d1 d2 d3 d4 I A i c with⟨rfl,rfl⟩|⟨rfl,rfl,rfl⟩|⟨rfl,rfl,rfl⟩|⟨rfl,rfl⟩|⟨rfl,rfl,rfl⟩|⟨rfl,rfl,rfl⟩|⟨rfl,rfl,rfl⟩|⟨rfl,rfl,rfl⟩
  ·exact GW.gS Y [0] (GW.to _ (H u ⟨true,d1,d2,d3,d4,I,A,rfl,fun _=>rfl,J,L,M,N,by simp at B⊢;omega,T⟩))
  ·exact GW.ld Y (mO 0 xQ T.c4 rfl) (GW.to _ (H u ⟨true,true,d2,d3,d4,I,A,rfl,fun _=>rfl,fun _=>rfl,L,M,N,by simp at B⊢;omega,T⟩))
  ·exact GW.cat Y (.const (.string ⟨#[64]⟩)) (.tmp 15) (x:=⟨#[64]⟩) (y:=XN) (by show 1+XN.size<=_;omega) (GW.to _ (H u ⟨U,true,true,d3,d4,I,A,rfl,C,fun _=>rfl,L,M,N,by simp at B⊢;omega,T⟩))
  ·exact GW.gS Y [3] (GW.to _ (H u ⟨U,d1,d2,true,d4,I,A,rfl,C,J,fun _=>rfl,M,N,by simp at B⊢;omega,T⟩))
  ·exact GW.ld Y (mO 1 xQ T.c4 rfl) (GW.to _ (H u ⟨U,d1,d2,true,true,I,A,rfl,C,J,fun _=>rfl,fun _=>rfl,N,by simp at B⊢;omega,T⟩))
  ·exact GW.gS Y [5] (GW.to _ (H u ⟨U,d1,d2,d3,true,true,A,rfl,C,J,L,fun _=>rfl,fun _=>rfl,by simp at B⊢;omega,T⟩))
  ·refine GW.call Y (gW.ij (R:=fun x v'=>x=.string (str (gR X.size))/\Kw u v') (by decide) fun P=>(yO _ X.size rfl (tp u P) (by omega) (T.old.qU S d)).mono fun e w' h=>⟨_,h.1,rfl,fun a Z=>h.2.block a Z⟩) ?_;rintro x p ⟨rfl,W⟩;exact GW.to _ (H p ⟨U,d1,d2,d3,d4,true,true,rfl,C,J,L,M,fun _=>rfl,by simp at B⊢;omega,T.on W⟩)
  ·clear H;obtain rfl:=J rfl;obtain rfl:=C rfl;obtain rfl:=N rfl;obtain rfl:=M rfl;obtain rfl:=L rfl;obtain rfl:fuel=1:=by simp at B;omega
   refine GW.bs Y (x:=⟨#[64]⟩++XN) (y:=str (gR X.size)) fun u1 l c1=>?_;rw[show(#[true,true,true,true,true,true,true,false,false]:Array Bool).setIfInBounds 7 true=#[true,true,true,true,true,true,true,true,false]from rfl,D5 ajO];have G:=T.on l;have O:u1.ownsRow u.heap.size 9 1 (.slice (some ⟨u.heap.size,0,none⟩) 2 2) 2 [.string (⟨#[64]⟩++XN),.string (str (gR X.size))]:=⟨rfl,.inr ⟨u.heap.size,2,_,rfl,af _,c1,af _,by unfold maxLen;omega,rfl,rfl⟩⟩;have f:(ns [(⟨#[64]⟩:ByteArray)++XN,str (gR X.size)]++[10]).length<=100000:=by
    rw[PV];have:=HY XN X 0 [] V (by omega) (by simp) (by omega) 0 (by simp);simp only[oa]at this;omega
   refine GW.call Y (gW.ij (R:=fun x v'=>ic b9 (rE XN X) v'/\∀g,g<b9->v'.heap[g]?=u1.heap[g]?) (by decide) fun P=>(GA b9 u.heap.size [] [(⟨#[64]⟩:ByteArray)++XN,str (gR X.size)] (.slice (some ⟨u.heap.size,0,none⟩) 2 2) (tp u1 P) G.Ca O (by simp) (by simp) (by simp at f⊢;omega)).mono fun e w' h=>⟨_,h.1,by have:=h.2.1;rw[bM,PV]at this;exact this,fun a Z=>h.2.2.1.block a Z⟩) ?_;rintro x u2 ⟨j,o⟩;exact GW.to _ (m (.slice (some ⟨u.heap.size,0,none⟩) 2 2) x u2 (G.wrote j o))
 ·rintro fuel D u ⟨U,d1,d2,d3,d4,I,A,rfl,C,J,L,M,N,B,T⟩ E;exfalso;rcases E with rfl|E
  ·have:=ar U;have:=ar d1;have:=ar d2;have:=ar d3;have:=ar d4;have:=ar I;have:=ar A;omega
  ·have h:=kZ (kZ (kZ (kZ (kZ (kZ (kZ ajN U) d1) d2) d3) d4) I) A;rw[E]at h;cases U<;>cases d1<;>cases d2<;>cases d3<;>cases d4<;>cases I<;>cases A<;>simp_all
end
section
variable{I:Bool}{Q:QT}{R:Value->World->Prop}{v:World}{fn:FuncId}{a:Array Value}
theorem GW.ak0{F:Func}(Y:PR.funcs[fn]?=some F){d:Nat}(hr:F.results=#[.tmp d])(H:a.getD d undef=x)(h:∀T,R x (tp v T)):GW false Q R fn [.code .ret] a v:=
 GW.rest Y rfl fun T=>wp_ret (bodyPost_ret (results_tmp hr _ _ _) rfl ⟨_,rfl,by have:=h T;rw[<-H]at this;exact this⟩)
end
theorem af3:(PR.info? 102).map (·.zero)=some (some (.agg #[.pointer none,.slice none 0 0])):=by kernel_rfl
theorem ajP:Tryz.f60.body=some r7:=by kernel_rfl
section
variable{Q:QT}{v:World}{XN X:ByteArray}{k q st n cap:Nat}{a:Option Addr}{I:List mM}
theorem ahW(hX:X.size<=200)(D:XN.size<=1000)(hk:k<=6)(W:1<=q)(C:q<=8)(s:1<=st)(M:st<=200)(G:1<=n)(B:n<=8)(V:∀r∈I,(r.1.size<=10/\r.2.1.size<=30/\r.2.2.size<=30)/\k<r.2.1.size)(U:I.length<=5)(H:lq v)(N:iU v)(rows:v.ownsRow 0 131 3 (.slice a I.length cap) I.length (lG I)):
  gW Q 60 #[pG XN X,.slice a I.length cap,jE k q st,iv n] v fun x v'=>x=.string (str (oa XN X k I I.length))/\Kw v v':=by
 have Y:∃F,PR.funcs[60]?=some F:=⟨_,aK⟩;refine gW.of (n:=49) aK ajP (by kernel_rfl) ?_;refine GW.run 2 (k':=[.inRegion (opsOf (cp [1] r7)) [0,1,2],.code (cp [2] r7)]) ?_;refine GW.bx Y (t:=68) (y:=pG XN X) fun v1 c l1 c4=>?_;refine GW.bx Y (t:=75) (y:=jE k q st) fun v2 P l2 c6=>?_;refine GW.gS Y [2] ?_;refine GW.run 3 (k':=[.inRegion (opsOf (cp [2,1] r7)) [0],.code (cp [2,2] r7)]) ?_;refine GW.al Y af3 fun v3 S L l _=>?_;have E:ic v2.heap.size [] v3:=by rw[S];exact ic.new v2
 have A:TV v XN X k q st v.heap.size v1.heap.size v2.heap.size [] v3:=⟨L.at (P.at c4),L.at c6,E,(c.trans P).trans L,by omega,by omega,by omega⟩;refine GW.run 2 (k':=[.code (.region 2 tH true),.code (cp [2,2,2] r7)]) ?_;refine GW.to (Gj XN X k q st n v.heap.size v1.heap.size v2.heap.size (.slice a I.length cap) false false false false false false false) ?_;generalize v.heap.size=b4 at A⊢;generalize v1.heap.size=b6 at A⊢;generalize v2.heap.size=b9 at A⊢;refine ab4 hX D H N A fun z x v4 J=>?_;refine GW.run 4 (k':=[.inRegion (opsOf (cp [2,2,2,1,1] r7)) [0,1,2],.code (cp [2,2,2,1,2] r7),.code tE]) ?_;refine GW.gS Y [0,1,2] ?_;refine GW.run 3 (k':=.code tB::kB) ?_;refine GW.any (fun u=>tc XN X k q st n b4 b6 b9 (.slice a I.length cap) I.length (iv 0) (u 33) (u 34) (u 35) u) (by kernel_rfl) fun u=>?_;refine adY hX D hk W C s M G B V U H N rows (fun y z j u v5 K=>?_) I.length 0 (by omega) _ _ _ u v4 J;refine GW.run 2 (k':=[.inRegion (opsOf (cp [1] tE)) [0,1],.code .ret]) ?_;refine GW.call Y (gW.ij (R:=fun x v'=>x=.string (str (oa XN X k I I.length))/\∀g,g<b9->v'.heap[g]?=v5.heap[g]?) (by decide) fun T=>(CK b9 _ (tp v5 T) K.Ca).mono fun e w' h=>⟨_,h.1,rfl,fun a Z=>h.2.block a Z⟩) ?_;rintro x v6 ⟨rfl,f⟩;refine GW.gS Y [1] ?_;refine GW.run 1 (k':=[.code .ret]) ?_;exact GW.ak0 (d:=8) aK (by kernel_rfl) (x:=.string (str (oa XN X k I I.length))) (by kernel_rfl) fun T=>⟨rfl,fun g O=>(f g (ay O K.l0)).trans (K.old g O)⟩
end
end Ph
end
end Go.Proofs.YtdcjnhipenbcfaaGreatDoor
