/-
  Own text. Part 12 of what the claim rests on.
-/
import Derived.Test.YtdcjnhipenbcfaaGreatDoorPk10
set_option linter.unusedVariables false
set_option linter.unusedSectionVars false
set_option linter.unusedSimpArgs false
set_option maxRecDepth 100000
set_option maxHeartbeats 16000000
open Bool renaming eq_iff_iff->ax
open Go.Proofs.Tryz renaming f13->ah,func13->au
open Go.Proofs.YtdcjnhipenbcfaaGreatDoor.Ph.GW renaming gS->ae,piece->af,cond->ak
open Int renaming tdiv_eq_ediv_of_nonneg->ay
open List renaming mem_append->ai,length_cons->ao,getD_eq_getElem?_getD->az,length_nil->aA,mem_cons->aB,not_mem_nil->aD
open Nat renaming le_trans->ar,lt_of_lt_of_le->aH
open Option renaming getD_some->aj
namespace Go.Proofs.YtdcjnhipenbcfaaGreatDoor
noncomputable section
variable {tb:Bool}{X:ByteArray}{fn:FuncId}{i n:Nat}
namespace Ph
open Conc Ren RowKit
abbrev lM(site:List Item)(al:List (Nat×Value)):Frame:=kR 13 149 site (sA al) fun _=>undef
noncomputable def jB:Code:=ah.body.getD .skip
abbrev j8 (p:List Nat) (l:List Nat):List Item:=[.inRegion (opsOf (cp (p++[1]) jB)) l,.code (cp (p++[2]) jB)]
def zF(t p:Value)(k:Int)(o:Value):List (Nat×Value):=[(0,t),(1,p),(2,ii k),(3,o)]
def xT(t p:Value)(k:Int)(o:Value)(b:Nat):List (Nat×Value):=zF t p k o++[(7,ptr b),(8,.bool false)]
def rV(t p:Value)(k:Int)(o:Value)(b:Nat):List (Nat×Value):=xT t p k o b++[(26,.bool true),(9,.bool true),(27,.bool true),(28,.bool false),(29,t)]
def xU(t p:Value)(k:Int)(o:Value)(b:Nat)(x0 X RF:ByteArray):List (Nat×Value):=rV t p k o b++[(30,.string x0),(31,.string X),(32,.string RF),(10,.string RF),(33,p)]
section
variable{t p o:Value}{k:Int}{b:Nat}{x0 X RF b0:ByteArray}
theorem ak6:gY PR 60 (Frame.enter PR 13 #[t,p,ii k,o] .normal) []=(lM (j8 [] [0,1]) (zF t p k o),[]):=by kernel_rfl
theorem agi:(opAt (lM (j8 [] [0,1]) (zF t p k o))).map (fun o=>o.op)=some (.box 28 (.tmp 3)):=by kernel_rfl
theorem ak7:gY PR 60 ((lM (j8 [] [0,1]) (zF t p k o)).finish (ptr b)) []=(lM (j8 [2] [0,1]) (xT t p k o b),[]):=by kernel_rfl
theorem agj:gF PR 1 (lM (j8 [2] [0,1]) (xT t p k o b)) []=(Frame.enter PR 16 #[] .normal,[lM (j8 [2] [0,1]) (xT t p k o b)]):=by kernel_rfl
theorem ak8:gY PR 60 (gF PR 11 ((lM (j8 [2] [0,1]) (xT t p k o b)).finish (.bool true)) []).1 []=(lM (j8 [2,2,2] [1,2,3,4]) (rV t p k o b),[]):=by kernel_rfl
theorem ail:(gF PR 11 ((lM (j8 [2] [0,1]) (xT t p k o b)).finish (.bool true)) []).2=[]:=by kernel_rfl
theorem agk:gF PR 1 (lM (j8 [2,2,2] [1,2,3,4]) (rV t p k o b)) []=(Frame.enter PR 18 #[t,ii (60:Nat)] .normal,[lM (j8 [2,2,2] [1,2,3,4]) (rV t p k o b)]):=by kernel_rfl
theorem agl:(opAt ((lM (j8 [2,2,2] [1,2,3,4]) (rV t p k o b)).finish (.string x0))).map (fun o=>o.op)=some (.binOp .add 9 (.const (.string ⟨#[65]⟩)) (.tmp 30) 9):=by kernel_rfl
theorem ak9:((lM (j8 [2,2,2] [1,2,3,4]) (rV t p k o b)).finish (.string x0)).finish (.string X)=lM (j8 [2,2,2] [3,4]) (rV t p k o b++[(30,.string x0),(31,.string X)]):=by kernel_rfl
theorem agm:gF PR 1 (lM (j8 [2,2,2] [3,4]) (rV t p k o b++[(30,.string x0),(31,.string X)])) []=(Frame.enter PR 23 #[.string X] .normal,[lM (j8 [2,2,2] [3,4]) (rV t p k o b++[(30,.string x0),(31,.string X)])]):=by kernel_rfl
theorem ak_:gY PR 60 ((lM (j8 [2,2,2] [3,4]) (rV t p k o b++[(30,.string x0),(31,.string X)])).finish (.string RF)) []=(lM (j8 [2,2,2,2] [1,2,3]) (xU t p k o b x0 X RF),[]):=by kernel_rfl
theorem agn:gF PR 1 (lM (j8 [2,2,2,2] [1,2,3]) (xU t p k o b x0 X RF)) []=(Frame.enter PR 18 #[p,ii (12:Nat)] .normal,[lM (j8 [2,2,2,2] [1,2,3]) (xU t p k o b x0 X RF)]):=by kernel_rfl
theorem ala:(lM (j8 [2,2,2,2] [1,2,3]) (xU t p k o b x0 X RF)).finish (.string b0)=lM (j8 [2,2,2,2] [2,3]) (xU t p k o b x0 X RF++[(34,.string b0)]):=by kernel_rfl
end
section
variable{W:World}{a0 a1:Option Addr}{l0 l1 c0 c1:Nat}{z0 z1:Nat->Int}{k q1 t1 w1:Int}{I:Value->World->Prop}
theorem aeh(i0:pq W a0 l0 z0)(s:pq W a1 l1 z1)(H:Here (fun _=>False) W)(r:∀N d,gU (fun _=>False) W N->I (.bool true) (N.at d))
  (g:∀x0 b0 (v:World) b,(∀c∈65::x0,gP c)->(65::x0).length<=61->(∀c∈67::71::b0,gP c)->(67::71::b0).length<=12+[67,71].length->lq v->iU v->v.heap[b]?=some (.cells #[ii q1,ii t1,ii w1] 28)->GW true (Ren.Ends PR I) (fun x v'=>x=.bool true/\Kw v v') 13 (j8 [2,2,2,2] [2,3]) ((TN 149 (sA (xU (.slice a0 l0 c0) (.slice a1 l1 c1) k (.agg #[ii q1,ii t1,ii w1]) b (str x0) (str (65::x0)) (str (iF (65::x0)))++[(34,.string (str b0))])) fun _=>undef).map blk) v):
  gu PR (Ren.Ends PR I) (fun _=>False) (Frame.enter PR 13 #[.slice a0 l0 c0,.slice a1 l1 c1,ii k,.agg #[ii q1,ii t1,ii w1]] .normal) [] W:=by
 refine gu.qZ 60 _ ak6 fun v1 g1 _=>?_;refine gu.alloc (F:=fun B=>(lM (j8 [] [0,1]) (zF (.slice a0 l0 c0) (.slice a1 l1 c1) k (.agg #[ii q1,ii t1,ii w1]))).finish (ptr B)) (o:=.cells #[ii q1,ii t1,ii w1] 28) (fun w'=>wv agi rfl rfl w') fun M v2 n1 u1 V o1 X=>?_;refine gu.qZ 60 _ ak7 fun v5 Z _=>?_;refine gu.pure 1 fun v6 u=>?_;rw[agj];have K:=Z.trans (gU.of u);have D:=(g1.trans X).trans K;have A:=H.on D;have E1:=K.at V o1;have s1:=jQ E1;refine A.call ID (fun _ y=>y) (fun _ y=>.inl y) ⟨fun _ _ _=>rfl,Nat.le_refl _,rfl,mD.refl _,rfl⟩ fun Z7 v7 m7 o7 S=>?_;refine gu.pure 11 fun v8 m=>?_;rw[ail];refine gu.qZ 60 _ ak8 fun v9 E _=>?_;refine gu.pure 1 fun vA t=>?_;rw[agk];refine yQ (yT i0 D) (by omega) A m7 o7 (((S.on o7 (gU.of m)).on o7 E).on o7 (gU.of t)) fun ZB vB mB J T=>?_;have ex:(⟨#[65]⟩:ByteArray)++str (iS z0 (min l0 60))=str (65::iS z0 (min l0 60)):=pX [65] _;have P:∀(d:List UInt8) (z:Nat->Int) (n:Nat),(∀c∈d,gP c)->∀c∈d++iS z n,gP c:=fun d z n hd c Y=>(ai.1 Y).elim (hd c) (C9 _ _ c);have kx:∀c∈65::iS z0 (min l0 60),gP c:=P [65] _ _ fun c Y=>by simp at Y;subst Y;exact⟨by decide,by decide⟩
 have w:∀c∈67::71::iS z1 (min l1 12),gP c:=P [67,71] _ _ fun c Y=>by simp at Y;rcases Y with rfl|rfl<;>exact⟨by decide,by decide⟩
 have lx:(65::iS z0 (min l0 60)).length<=61:=by rw[ao,sb];omega
 have lb:(67::71::iS z1 (min l1 12)).length<=12+[67,71].length:=by simp only[ao,sb,aA];omega
 refine gu.still (fun w'=>Dc agl rfl rfl (by rw[gV,sb];have:(⟨#[65]⟩:ByteArray).size=1:=rfl;omega) w') fun vC G _=>?_;rw[ex,ak9];refine gu.pure 1 fun vD i=>?_;rw[agm];refine A.call (SW (by omega)) mB J ((T.on J G).on J (gU.of i)) fun ZE vE mE L GE=>?_;refine gu.qZ 60 _ ak_ fun vF j _=>?_;refine gu.pure 1 fun vG h=>?_;rw[agn];refine yQ (yT s D) (by omega) A mE L ((GE.on L j).on L (gU.of h)) fun ZF vF mF Q C=>?_;rw[ala];have gr:=g1.grow;refine Jb (Bs:=[M]) r H (fun l y=>(Q l y).elim .inl fun⟨a,e,q⟩=>.inr ⟨a,e,ar D.grow q⟩) (D.trans C) ?_ ?_ fun f R=>?_
 ·intro b O;simp only[aB,aD,or_false]at O;subst O;exact⟨by omega,su Q (fun _ _ y=>y) s1,_,_,_,C.at E1 (fun _ _ y=>y)⟩
 ·intro p U;simp only[xU,rV,xT,zF,ai,aB,aD,or_false]at U
  repeat' rcases U with U|U
  all_goals first|exact .inl ⟨_,_,_,rfl⟩|exact .inr (.inr ⟨M,by simp,rfl⟩)|exact .inr (.inl (by kernel_rfl))
 ·exact g _ _ _ _ kx lx w lb f R (C.at E1 (fun _ _ y=>y))
end
def r8(u:Nat->Value)(L M:Value):Array Value:=#[u 0,u 1,u 2,u 3,u 4,u 5,u 6,u 7,u 8,u 9,u 10,u 11,u 12,u 13,u 14,u 15,u 16,L,.bool true,M,.bool true,u 21,u 22,u 23,u 24,u 25,u 26,u 27,u 28,u 29,u 30,u 31,u 32,u 33,u 34,u 35,u 36,u 37,u 38,u 39,u 40,u 41,u 42,u 43,u 44,u 45,u 46,u 47,u 48,u 49,u 50,u 51,u 52,u 53,u 54,u 55,u 56,u 57,u 58,u 59,u 60,u 61,u 62,u 63,u 64,u 65,u 66,u 67,u 68,u 69,u 70,u 71,u 72,u 73,u 74,u 75,u 76,u 77,u 78,u 79,u 80,u 81,u 82,u 83,u 84,u 85,u 86,u 87,u 88,u 89,u 90,u 91,u 92,u 93,u 94,u 95,u 96,u 97,u 98,u 99,u 100,u 101,u 102,u 103,u 104,u 105,u 106,u 107,u 108,u 109,u 110,u 111,u 112,u 113,u 114,u 115,u 116,u 117,u 118,u 119,u 120,u 121,u 122,u 123,u 124,u 125,u 126,u 127,u 128,u 129,u 130,u 131,u 132,u 133,u 134,u 135,u 136,u 137,u 138,u 139,u 140,u 141,u 142,u 143,u 144,u 145,u 146,u 147,u 148]
def qw(A B:Nat->Nat->ByteArray)(y z y' z':Nat->Nat)(i:Nat):Nat->Bool
 |0=>decide (y i=4)
 |j+1=>qw A B y z y' z' i j||(decide (A i 0=B j 0/\A i 2=B j 2/\z i=z' j/\A i 4=B j 4/\A i 5=B j 5/\A i 6=B j 6/\A i 7=B j 7)&&decide (y i/16%2=y' j/16%2))
section
variable{w:World}{u:Nat->Value}{G1 N1 C1 G2 N2 C2:Nat}{A B:Nat->Nat->ByteArray}{y z y' z':Nat->Nat}
theorem aca(hN1:N1<=1000)(hN2:N2<=1000)(h1:rI w G1 N1 A y z)(h2:rI w G2 N2 B y' z')(m:G1<w.heap.size)(a:G2<w.heap.size)(h:∀i,y i<=1000)(Z:∀i,y' i<=1000)(H:∀i,i<N1->qw A B y z y' z' i N2=true):
  (cp [2,2,2,2,2,2,2,2,2,2,2,2,1] jB).wp PR (fun e a' v'=>e=.normal/\a'.defers=[]/\a'.tmps=r8 (fun i=>a'.tmps.getD i undef) (.slice (some ⟨G1,0,none⟩) N1 C1) (.slice (some ⟨G2,0,none⟩) N2 C2)/\Below w.heap.size w v') ⟨r8 u (.slice (some ⟨G1,0,none⟩) N1 C1) (.slice (some ⟨G2,0,none⟩) N2 C2),[]⟩ w:=by
 obtain⟨Q,n⟩:∃Q:Exit->Act->World->Prop,Q=(fun e a' v'=>e=.normal/\a'.defers=[]/\a'.tmps=r8 (fun i=>a'.tmps.getD i undef) (.slice (some ⟨G1,0,none⟩) N1 C1) (.slice (some ⟨G2,0,none⟩) N2 C2)/\Below w.heap.size w v'):=⟨_,rfl⟩;rw[<-n];have HQ:=laid n;have HH:=laid H;have P:=laid (fun(W:World) (x:Below w.heap.size w W)=>h1.on m x);have S:=laid (fun(W:World) (x:Below w.heap.size w W)=>h2.on a x);clear n H h1 h2;unfold jB ah r8;simp only[aj,cp];go_wp2
 go_loopw [21] (fun i wr=>∃I:Nat,I<=N1/\i=ii I/\Hid (Below w.heap.size w wr)) (fun i _=>N1-(intOf i).toNat)
 case atStart=>exact⟨0,by omega,rfl,laid (Below.refl _ _)⟩
 case round=>
  obtain⟨I,hI,rfl,E⟩:=hrel;by_cases N:I<N1
  ·obtain⟨t,hwo⟩:∃t,t=wr:=⟨_,rfl⟩;obtain⟨c0,c1,c2,q,c4,c,c6,d,g⟩:=P.out _ E.out I N;have k:=laid (HH.out I N);have WO:=h I;have e4:(((y I:Nat):Int)==4)=decide (y I=4):=by rw[ax];simp;omega
   go_wp2
   rename_i K1 hK1 K2 hK2
   go_loopw [22,23] (fun f j wr=>∃J:Nat,J<=N2/\j=ii J/\f=.bool (qw A B y z y' z' I J)/\Hid (Below w.heap.size w wr)) (fun _ j _=>N2-(intOf j).toNat)
   case atStart=>exact⟨0,by omega,rfl,rfl,E⟩
   case round=>
    obtain⟨J,hJ,rfl,rfl,R⟩:=hrel;by_cases L:J<N2
    ·clear c0 c1 c2 q c4 c c6 d g;obtain⟨c0,c1,c2,q,c4,c,c6,d,g⟩:=P.out _ R.out I N;obtain⟨l,d1,d2,d3,d4,o,p,r,s⟩:=S.out _ R.out J L;go_wp2_with fail
     refine(Da _ _ _ _ _ _ _ _ _ _).mono ?_;rintro e w1 ⟨rfl,T⟩;have U:Below w.heap.size w (w1.alloc (.cells #[.string (A I 0),.int .i64 0,.string (A I 2),.int .i64 (z I:Nat),.string (A I 4),.string (A I 5),.string (A I 6),.string (A I 7),.string nS] 42)):=(R.out.trans (T.mono R.out.size)).alloc (ar R.out.size T.size) _;have v:(w1.alloc (.cells #[.string (A I 0),.int .i64 0,.string (A I 2),.int .i64 (z I:Nat),.string (A I 4),.string (A I 5),.string (A I 6),.string (A I 7),.string nS] 42)).heap[w1.heap.size]?=some (.cells #[.string (A I 0),.int .i64 0,.string (A I 2),.int .i64 (z I:Nat),.string (A I 4),.string (A I 5),.string (A I 6),.string (A I 7),.string nS] 42):=heap_alloc_new w1 _;obtain⟨w2,b⟩:∃w2,w2=w1.alloc (.cells #[.string (A I 0),.int .i64 0,.string (A I 2),.int .i64 (z I:Nat),.string (A I 4),.string (A I 5),.string (A I 6),.string (A I 7),.string nS] 42):=⟨_,rfl⟩;clear l d1 d2 d3 d4 o p r s;obtain⟨l,d1,d2,d3,d4,o,p,r,s⟩:=S.out _ U J L;go_wp2_with fail
     refine(Da _ _ _ _ _ _ _ _ _ _).mono ?_;rintro e w3 ⟨rfl,C⟩;have M:Below w.heap.size w (w3.alloc (.cells #[.string (B J 0),.int .i64 0,.string (B J 2),.int .i64 (z' J:Nat),.string (B J 4),.string (B J 5),.string (B J 6),.string (B J 7),.string nS] 42)):=(U.trans (C.mono U.size)).alloc (ar U.size C.size) _;have V:w1.heap.size<(w1.alloc (.cells #[.string (A I 0),.int .i64 0,.string (A I 2),.int .i64 (z I:Nat),.string (A I 4),.string (A I 5),.string (A I 6),.string (A I 7),.string nS] 42)).heap.size:=jQ v;have Y:(w3.alloc (.cells #[.string (B J 0),.int .i64 0,.string (B J 2),.int .i64 (z' J:Nat),.string (B J 4),.string (B J 5),.string (B J 6),.string (B J 7),.string nS] 42)).heap[w1.heap.size]?=some (.cells #[.string (A I 0),.int .i64 0,.string (A I 2),.int .i64 (z I:Nat),.string (A I 4),.string (A I 5),.string (A I 6),.string (A I 7),.string nS] 42):=by rw[heap_alloc_old _ _ (aH V C.size),C.block _ V];exact v
     have K:(w3.alloc (.cells #[.string (B J 0),.int .i64 0,.string (B J 2),.int .i64 (z' J:Nat),.string (B J 4),.string (B J 5),.string (B J 6),.string (B J 7),.string nS] 42)).heap[w3.heap.size]?=some (.cells #[.string (B J 0),.int .i64 0,.string (B J 2),.int .i64 (z' J:Nat),.string (B J 4),.string (B J 5),.string (B J 6),.string (B J 7),.string nS] 42):=heap_alloc_new w3 _;obtain⟨_,c1,_⟩:=P.out _ M I N;obtain⟨_,d1,_⟩:=S.out _ M J L;have e0:(w3.alloc (.cells #[.string (B J 0),.int .i64 0,.string (B J 2),.int .i64 (z' J:Nat),.string (B J 4),.string (B J 5),.string (B J 6),.string (B J 7),.string nS] 42)).cell? ⟨w1.heap.size,0,none⟩=some (.string (A I 0)):=by rw[cell_of_row _ _ 0 _ _ _ Y];rfl
     have e1:(w3.alloc (.cells #[.string (B J 0),.int .i64 0,.string (B J 2),.int .i64 (z' J:Nat),.string (B J 4),.string (B J 5),.string (B J 6),.string (B J 7),.string nS] 42)).cell? ⟨w1.heap.size,1,none⟩=some (.int .i64 0):=by rw[cell_of_row _ _ 1 _ _ _ Y];rfl
     have e2:(w3.alloc (.cells #[.string (B J 0),.int .i64 0,.string (B J 2),.int .i64 (z' J:Nat),.string (B J 4),.string (B J 5),.string (B J 6),.string (B J 7),.string nS] 42)).cell? ⟨w1.heap.size,2,none⟩=some (.string (A I 2)):=by rw[cell_of_row _ _ 2 _ _ _ Y];rfl
     have e3:(w3.alloc (.cells #[.string (B J 0),.int .i64 0,.string (B J 2),.int .i64 (z' J:Nat),.string (B J 4),.string (B J 5),.string (B J 6),.string (B J 7),.string nS] 42)).cell? ⟨w1.heap.size,3,none⟩=some (.int .i64 (z I:Nat)):=by rw[cell_of_row _ _ 3 _ _ _ Y];rfl
     have e4:(w3.alloc (.cells #[.string (B J 0),.int .i64 0,.string (B J 2),.int .i64 (z' J:Nat),.string (B J 4),.string (B J 5),.string (B J 6),.string (B J 7),.string nS] 42)).cell? ⟨w1.heap.size,4,none⟩=some (.string (A I 4)):=by rw[cell_of_row _ _ 4 _ _ _ Y];rfl
     have e5:(w3.alloc (.cells #[.string (B J 0),.int .i64 0,.string (B J 2),.int .i64 (z' J:Nat),.string (B J 4),.string (B J 5),.string (B J 6),.string (B J 7),.string nS] 42)).cell? ⟨w1.heap.size,5,none⟩=some (.string (A I 5)):=by rw[cell_of_row _ _ 5 _ _ _ Y];rfl
     have e6:(w3.alloc (.cells #[.string (B J 0),.int .i64 0,.string (B J 2),.int .i64 (z' J:Nat),.string (B J 4),.string (B J 5),.string (B J 6),.string (B J 7),.string nS] 42)).cell? ⟨w1.heap.size,6,none⟩=some (.string (A I 6)):=by rw[cell_of_row _ _ 6 _ _ _ Y];rfl
     have e7:(w3.alloc (.cells #[.string (B J 0),.int .i64 0,.string (B J 2),.int .i64 (z' J:Nat),.string (B J 4),.string (B J 5),.string (B J 6),.string (B J 7),.string nS] 42)).cell? ⟨w1.heap.size,7,none⟩=some (.string (A I 7)):=by rw[cell_of_row _ _ 7 _ _ _ Y];rfl
     have e8:(w3.alloc (.cells #[.string (B J 0),.int .i64 0,.string (B J 2),.int .i64 (z' J:Nat),.string (B J 4),.string (B J 5),.string (B J 6),.string (B J 7),.string nS] 42)).cell? ⟨w1.heap.size,8,none⟩=some (.string nS):=by rw[cell_of_row _ _ 8 _ _ _ Y];rfl
     have f0:(w3.alloc (.cells #[.string (B J 0),.int .i64 0,.string (B J 2),.int .i64 (z' J:Nat),.string (B J 4),.string (B J 5),.string (B J 6),.string (B J 7),.string nS] 42)).cell? ⟨w3.heap.size,0,none⟩=some (.string (B J 0)):=by rw[cell_of_row _ _ 0 _ _ _ K];rfl
     have f1:(w3.alloc (.cells #[.string (B J 0),.int .i64 0,.string (B J 2),.int .i64 (z' J:Nat),.string (B J 4),.string (B J 5),.string (B J 6),.string (B J 7),.string nS] 42)).cell? ⟨w3.heap.size,1,none⟩=some (.int .i64 0):=by rw[cell_of_row _ _ 1 _ _ _ K];rfl
     have f2:(w3.alloc (.cells #[.string (B J 0),.int .i64 0,.string (B J 2),.int .i64 (z' J:Nat),.string (B J 4),.string (B J 5),.string (B J 6),.string (B J 7),.string nS] 42)).cell? ⟨w3.heap.size,2,none⟩=some (.string (B J 2)):=by rw[cell_of_row _ _ 2 _ _ _ K];rfl
     have f3:(w3.alloc (.cells #[.string (B J 0),.int .i64 0,.string (B J 2),.int .i64 (z' J:Nat),.string (B J 4),.string (B J 5),.string (B J 6),.string (B J 7),.string nS] 42)).cell? ⟨w3.heap.size,3,none⟩=some (.int .i64 (z' J:Nat)):=by rw[cell_of_row _ _ 3 _ _ _ K];rfl
     have f4:(w3.alloc (.cells #[.string (B J 0),.int .i64 0,.string (B J 2),.int .i64 (z' J:Nat),.string (B J 4),.string (B J 5),.string (B J 6),.string (B J 7),.string nS] 42)).cell? ⟨w3.heap.size,4,none⟩=some (.string (B J 4)):=by rw[cell_of_row _ _ 4 _ _ _ K];rfl
     have f5:(w3.alloc (.cells #[.string (B J 0),.int .i64 0,.string (B J 2),.int .i64 (z' J:Nat),.string (B J 4),.string (B J 5),.string (B J 6),.string (B J 7),.string nS] 42)).cell? ⟨w3.heap.size,5,none⟩=some (.string (B J 5)):=by rw[cell_of_row _ _ 5 _ _ _ K];rfl
     have f6:(w3.alloc (.cells #[.string (B J 0),.int .i64 0,.string (B J 2),.int .i64 (z' J:Nat),.string (B J 4),.string (B J 5),.string (B J 6),.string (B J 7),.string nS] 42)).cell? ⟨w3.heap.size,6,none⟩=some (.string (B J 6)):=by rw[cell_of_row _ _ 6 _ _ _ K];rfl
     have f7:(w3.alloc (.cells #[.string (B J 0),.int .i64 0,.string (B J 2),.int .i64 (z' J:Nat),.string (B J 4),.string (B J 5),.string (B J 6),.string (B J 7),.string nS] 42)).cell? ⟨w3.heap.size,7,none⟩=some (.string (B J 7)):=by rw[cell_of_row _ _ 7 _ _ _ K];rfl
     have f8:(w3.alloc (.cells #[.string (B J 0),.int .i64 0,.string (B J 2),.int .i64 (z' J:Nat),.string (B J 4),.string (B J 5),.string (B J 6),.string (B J 7),.string nS] 42)).cell? ⟨w3.heap.size,8,none⟩=some (.string nS):=by rw[cell_of_row _ _ 8 _ _ _ K];rfl
     have O:=laid M;have VY:=h I;have hy2:=Z J;have HP:=laid P1;have X:Hid (∀W:World,(binOp .eql 42 (.agg #[.string (A I 0),.int .i64 0,.string (A I 2),.int .i64 (z I:Nat),.string (A I 4),.string (A I 5),.string (A I 6),.string (A I 7),.string nS]) (.agg #[.string (B J 0),.int .i64 0,.string (B J 2),.int .i64 (z' J:Nat),.string (B J 4),.string (B J 5),.string (B J 6),.string (B J 7),.string nS])).run PR W=.ok (.bool (decide (A I 0=B J 0/\A I 2=B J 2/\z I=z' J/\A I 4=B J 4/\A I 5=B J 5/\A I 6=B J 6/\A I 7=B J 7))) W):=laid fun W=>by
      rw[(QS (A I 0) (A I 2) (A I 4) (A I 5) (A I 6) (A I 7) nS (B J 0) (B J 2) (B J 4) (B J 5) (B J 6) (B J 7) nS 0 (z I:Nat) 0 (z' J:Nat) W).1];congr 3;simp[Int.ofNat_inj]
     have G:Hid (qw A B y z y' z' I (J+1)=(qw A B y z y' z' I J||(decide (A I 0=B J 0/\A I 2=B J 2/\z I=z' J/\A I 4=B J 4/\A I 5=B J 5/\A I 6=B J 6/\A I 7=B J 7)&&decide (y I/16%2=y' J/16%2)))):=laid rfl;clear U M T C v Y K V b h Z c0 c2 q c4 c c6 d g l d2 d3 d4 o p r s;generalize qw A B y z y' z' I J=F at *;generalize decide (A I 0=B J 0/\A I 2=B J 2/\z I=z' J/\A I 4=B J 4/\A I 5=B J 5/\A I 6=B J 6/\A I 7=B J 7)=D at *;cases F with
     |true=>
      go_wp2
      go_quiet(fail)
      go_wp2
      go_roundw
      case rel=>go_light;exact⟨J+1,by omega,by go_num,by rw[G.out];rfl,laid (Go.below_drewN O.out _)⟩
      case measure=>go_light;simp[intOf];omega
     |false=>
      cases D with
      |false=>
       have he:=X.out;go_wp2
       go_quiet(fail)
       go_wp2
       go_roundw
       case rel=>go_light;exact⟨J+1,by omega,by go_num,by rw[G.out];rfl,laid (Go.below_drewN O.out _)⟩
       case measure=>go_light;simp[intOf];omega
      |true=>
       have he:=X.out;have q1:((y I:Nat):Int).tdiv 16=((y I/16:Nat):Int):=by rw[ay (by omega)];omega
       have q2:((y' J:Nat):Int).tdiv 16=((y' J/16:Nat):Int):=by rw[ay (by omega)];omega
       have HV:Hid ((((y I:Nat):Int)/16%2==((y' J:Nat):Int)/16%2)=decide (y I/16%2=y' J/16%2)):=laid (by rw[ax];simp;omega);have g1:y I/16<=1000:=by omega
       have g2:y' J/16<=1000:=by omega
       go_wp2
       go_quiet((go_at_call 19;refine(HP.out _ (by first|exact g1|exact g2) _).mono ?_;rintro e x7 ⟨rfl,rfl⟩;exact⟨rfl,_,rfl⟩))
       go_wp2
       go_roundw
       case rel=>go_light;exact⟨J+1,by omega,by go_num,congrArg Value.bool (by rw[G.out,HV.out];rfl),laid (Go.below_drewN O.out _)⟩
       case measure=>go_light;simp[intOf];omega
    ·have X:Hid (qw A B y z y' z' I J=true):=laid (by rw[show J=N2 by omega];exact k.out);rw[X.out];go_wp2
     go_roundw
     case rel=>go_light;exact⟨I+1,by omega,by go_num,R⟩
     case measure=>go_light;simp[intOf];omega
  ·go_wp2
   rw[HQ.out];exact⟨rfl,rfl,by kernel_rfl,E.out⟩
end
end Ph
section
open RowKit
theorem acb{p:ByteArray}{k e:Nat}(K:e<=X.size)(h:(gX p X k e).1<=k):gX p X (k+1) e=gX p X k e:=by
 obtain⟨a1,a2,a3,a4⟩:=(vY p X k e K).2 h;obtain⟨D,R⟩:=vY p X (k+1) e K;have U:=D _ a1 (by omega);obtain⟨Y,I,A,b4⟩:=R (by omega);have H:(gX p X (k+1) e).1=(gX p X k e).1:=by
  have:=a3 _ Y;omega
 refine Prod.ext H ?_;rcases Nat.lt_trichotomy (gX p X (k+1) e).2 (gX p X k e).2 with l|l|l
 ·have:=b4 _ l a1;omega
 ·exact l
 ·have:=a4 _ l Y;omega
theorem P3{p X:ByteArray}{k:Nat}{h:Nat×Nat×Nat}:∀n,n<=X.size+1->h∈jC p X k n->h∈jC p X (k+1) n
 |0,_,m=>by simp[jC]at m
 |e+1,H,m=>by
  have Y:=P3 (p:=p) (X:=X) (k:=k) (h:=h) e (by omega);rw[jC]at m⊢;split at m
  ·rename_i K;rw[acb (by omega) K,if_pos (by omega),ai];exact(ai.1 m).imp Y id
  ·have:=Y m;split
   ·exact List.mem_append_left _ this
   ·exact this
theorem aei{x b:List UInt8}{q:pH}(h:q∈iw x b n):q∈iw x b (n+1):=by
 obtain⟨Y,K,_⟩:=za h;exact aii Y (P3 _ (Nat.le_refl _) K)
end
namespace Ph
open Conc Ren RowKit
structure Gm where
 (k n E1 E2:Int) (o:Value) (b:Nat) (x0 X RF b0 B RD S1 S2:ByteArray)
def rp(y:Gm)(m:Nat):Array Value:=#[.tuple #[],.tuple #[],ii y.k,y.o,undef,undef,undef,ptr y.b,.bool false,.bool true,.string y.RF,kp 2 m (.string y.B),kp 5 m (ii y.n),kp 6 m (.string y.S1),kp 6 m (ii y.E1),kp 7 m (.string y.S2),kp 7 m (ii y.E2),undef,undef,undef,undef,undef,undef,undef,undef,undef,.bool true,.bool true,.bool false,.tuple #[],.string y.x0,.string y.X,.string y.RF,.tuple #[],.string y.b0,kp 1 m (.string y.B),kp 3 m (ii y.k),kp 4 m (ii y.n),kp 6 m (.tuple #[.string y.S1,ii y.E1]),kp 6 m (.string y.RF),kp 6 m (.string y.B),kp 6 m (.string y.RD),kp 6 m (ii y.n),kp 6 m (y.o),kp 6 m (.tuple #[.string y.S1,ii y.E1]),kp 6 m (.string y.S1),kp 6 m (ii y.E1),kp 7 m (.tuple #[.string y.S2,ii y.E2]),kp 7 m (.string y.RF),kp 7 m (.string y.B),kp 7 m (.string y.RD),kp 7 m (ii y.n),kp 7 m (ii (y.n+1)),kp 7 m (y.o),kp 7 m (.tuple #[.string y.S2,ii y.E2]),kp 7 m (.string y.S2),kp 7 m (ii y.E2),undef,undef,undef,undef,undef,undef,undef,undef,undef,undef,undef,undef,undef,undef,undef,undef,undef,undef,undef,undef,undef,undef,undef,undef,undef,undef,undef,undef,undef,undef,undef,undef,undef,undef,undef,undef,undef,undef,undef,undef,undef,undef,undef,undef,undef,undef,undef,undef,undef,undef,undef,undef,undef,undef,undef,undef,undef,undef,undef,undef,undef,undef,undef,undef,undef,undef,undef,undef,undef,undef,undef,undef,undef,undef,undef,undef,undef,undef,undef,undef,undef,undef,undef,undef,undef,undef,undef,undef,undef,undef,undef,undef]
def tg(u:Nat->Value)(n:Int)(B S1 S2:ByteArray)(E1 E2:Int):Array Value:=#[u 0,u 1,u 2,u 3,u 4,u 5,u 6,u 7,u 8,u 9,u 10,.string B,ii n,.string S1,ii E1,.string S2,ii E2,u 17,u 18,u 19,u 20,u 21,u 22,u 23,u 24,u 25,u 26,u 27,u 28,u 29,u 30,u 31,u 32,u 33,u 34,u 35,u 36,u 37,u 38,u 39,u 40,u 41,u 42,u 43,u 44,u 45,u 46,u 47,u 48,u 49,u 50,u 51,u 52,u 53,u 54,u 55,u 56,u 57,u 58,u 59,u 60,u 61,u 62,u 63,u 64,u 65,u 66,u 67,u 68,u 69,u 70,u 71,u 72,u 73,u 74,u 75,u 76,u 77,u 78,u 79,u 80,u 81,u 82,u 83,u 84,u 85,u 86,u 87,u 88,u 89,u 90,u 91,u 92,u 93,u 94,u 95,u 96,u 97,u 98,u 99,u 100,u 101,u 102,u 103,u 104,u 105,u 106,u 107,u 108,u 109,u 110,u 111,u 112,u 113,u 114,u 115,u 116,u 117,u 118,u 119,u 120,u 121,u 122,u 123,u 124,u 125,u 126,u 127,u 128,u 129,u 130,u 131,u 132,u 133,u 134,u 135,u 136,u 137,u 138,u 139,u 140,u 141,u 142,u 143,u 144,u 145,u 146,u 147,u 148]
def Ce(u:Nat->Value)(S1 S2:ByteArray)(L M:Value)(m:Nat):Array Value:=#[u 0,u 1,u 2,u 3,u 4,u 5,u 6,u 7,u 8,u 9,u 10,u 11,u 12,.string S1,u 14,.string S2,u 16,kq 3 m (L) (u 17),kq 3 m (.bool true) (u 18),kq 6 m (M) (u 19),kq 6 m (.bool true) (u 20),u 21,u 22,u 23,u 24,u 25,u 26,u 27,u 28,u 29,u 30,u 31,u 32,u 33,u 34,u 35,u 36,u 37,u 38,u 39,u 40,u 41,u 42,u 43,u 44,u 45,u 46,u 47,u 48,u 49,u 50,u 51,u 52,u 53,u 54,u 55,u 56,u 57,u 58,u 59,u 60,u 61,u 62,u 63,u 64,u 65,u 66,u 67,u 68,u 69,u 70,u 71,u 72,u 73,u 74,u 75,u 76,u 77,u 78,u 79,kq 3 m (.tuple #[L,.bool true]) (u 80),kq 1 m (.string S1) (u 81),kq 2 m (.tuple #[L,.bool true]) (u 82),kq 3 m (L) (u 83),kq 3 m (.bool true) (u 84),kq 6 m (.tuple #[M,.bool true]) (u 85),kq 4 m (.string S2) (u 86),kq 5 m (.tuple #[M,.bool true]) (u 87),kq 6 m (M) (u 88),kq 6 m (.bool true) (u 89),u 90,u 91,u 92,u 93,u 94,u 95,u 96,u 97,u 98,u 99,u 100,u 101,u 102,u 103,u 104,u 105,u 106,u 107,u 108,u 109,u 110,u 111,u 112,u 113,u 114,u 115,u 116,u 117,u 118,u 119,u 120,u 121,u 122,u 123,u 124,u 125,u 126,u 127,u 128,u 129,u 130,u 131,u 132,u 133,u 134,u 135,u 136,u 137,u 138,u 139,u 140,u 141,u 142,u 143,u 144,u 145,u 146,u 147,u 148]
def Gn (p:List Nat):Array Oper:=opsOf (cp p jB)
theorem Q8:(Gn [2,2,2,2,2,2,1]).size=11/\(Gn [2,2,2,2,2,2,2,1]).size=12:=⟨by kernel_rfl,by kernel_rfl⟩
theorem Stp.vl{Q:QT}{R:Value->World->Prop}{k:List Item}{ops:Array Oper}{A:Array Value}{I J:World->Prop}(Y:∃F,PR.funcs[fn]?=some F){s:Sem Value}{x:Value}(K:∀v,I v->s.run PR v=.ok x v/\J v)(h:mc ops i A=some (rU s):=by kernel_rfl)(U:dv ops A i=x:=by kernel_rfl):Stp tb Q R fn k ops A I J i:=
 fun is a v H D g=>GW.vl Y (D.ex.trans h) (K v H).1 rfl (U▸g v (K v H).2)
theorem aej{n:Int}(Y:0<=n)(K:n<=100)(p q:Operand)(v:World):(do eqGuard .add 3 p q (ii n) (ii 1);binOp .add 3 (ii n) (ii 1)).run PR v=.ok (ii (n+1)) v:=by
 have e:IntKind.i64.wrap (n+1)=n+1:=IntWalk.i64_in _ (by omega);simp[go_sem,e]
section
variable{y:Gm}{Q:QT}{v:World}{q1 t1 w1:Int}
theorem aek(O:y.b0.size<=50)(C:(⟨#[67,71]⟩:ByteArray)++y.b0=y.B)(hk:k_ y.k)(D:y.n=(kN y.k 4:Nat))(U:y.o=.agg #[ii q1,ii t1,ii w1])(c1:v.heap[y.b]?=some (.cells #[ii q1,ii t1,ii w1] 28))
  (f2:∀u,Kw v u->gW Q 24 #[.string y.B] u fun z v'=>z=.string y.RD/\Kw v v')(J:∀u,Kw v u->gW Q 22 #[.string y.RF,.string y.RD,ii y.n,y.o] u fun z v'=>z=.tuple #[.string y.S1,ii y.E1]/\Kw v v')(N:∀u,Kw v u->gW Q 22 #[.string y.RF,.string y.RD,ii (y.n+1),y.o] u fun z v'=>z=.tuple #[.string y.S2,ii y.E2]/\Kw v v')
  (g:∀v',Kw v v'->GW true Q (fun y v'=>y=.bool true/\Kw v v') 13 [.code (cp [2,2,2,2,2,2,2,2] jB)] (rp y 7) v'):GW true Q (fun y v'=>y=.bool true/\Kw v v') 13 (j8 [2,2,2,2] [2,3]) (rp y 0) v:=by
 have Y:∃F,PR.funcs[13]?=some F:=⟨_,au⟩;have P:=wN y.k (show 0<4 by decide);refine GW.cat Y (.const (.string ⟨#[67,71]⟩)) (.tmp 34) (x:=⟨#[67,71]⟩) (y:=y.b0) (by have:(⟨#[67,71]⟩:ByteArray).size=2:=rfl;omega) ?_;rw[C];refine GW.to (rp y 1) ?_;refine ae Y [3] ?_;refine GW.to (rp y 2) ?_;refine GW.run 3 (k':=j8 [2,2,2,2,2] [0,1,2]) ?_;refine ae Y [0] ?_;refine GW.to (rp y 3) ?_;refine GW.call Y (y_ (n:=4) hk (by omega) (by omega) (.refl v)) ?_;rintro z v1 ⟨rfl,I⟩;rw[<-D];refine GW.to (rp y 4) ?_;refine ae Y [2] ?_;refine GW.to (rp y 5) ?_;refine GW.run 2 (k':=[.code (.region 7 (Gn [2,2,2,2,2,2,1]) true),.code (cp [2,2,2,2,2,2,2] jB)]) ?_;refine GW.zy (A:=rp y 6) (Kw v) I [0,1,3,6,7,8,9,10] ?_ ?_ Y
 ·intro i H D;rw[Q8.1]at H;have:i=2\/i=4\/i=5:=by simp at D;omega
  rcases this with rfl|rfl|rfl
  ·exact .call Y f2
  ·exact .ld Y fun u K=>⟨(Bf (K.at c1)).trans (by rw[<-U]),K⟩
  ·exact .call Y J
 intro v2 L;refine GW.run 2 (k':=[.code (.region 8 (Gn [2,2,2,2,2,2,2,1]) true),.code (cp [2,2,2,2,2,2,2,2] jB)]) ?_;refine GW.zy (A:=rp y 7) (Kw v) L [0,1,3,7,8,9,10,11] ?_ ?_ Y
 ·intro i H R;rw[Q8.2]at H;have:i=2\/i=4\/i=5\/i=6:=by simp at R;omega
  rcases this with rfl|rfl|rfl|rfl
  ·exact .call Y f2
  ·exact .vl Y (s:=do eqGuard .add 3 (.tmp 51) (.const (ii 1)) (ii y.n) (ii 1);binOp .add 3 (ii y.n) (ii 1)) fun u K=>⟨aej (by omega) (by omega) _ _ u,K⟩
  ·exact .ld Y fun u K=>⟨(Bf (K.at c1)).trans (by rw[<-U]),K⟩
  ·exact .call Y N
 intro v3 M;refine GW.run 1 (k':=[.code (cp [2,2,2,2,2,2,2,2] jB)]) ?_;exact g v3 M
end
section
variable{w:World}{u:Nat->Value}{n:Nat}{B S1 S2:ByteArray}{E1 E2:Int}{L M:Value}
theorem TS{t:Bool}(h:E1=4/\t=true\/E1=0/\E2=4/\t=true\/E1=0/\E2=0/\t=false):(cp [2,2,2,2,2,2,2,2,1,1] jB).wp PR (fun e a' v'=>e=.normal/\a'.defers=[]/\(a'.tmps=tg (fun i=>a'.tmps.getD i undef) n B S1 S2 E1 E2/\a'.tmps.getD 62 undef=.bool t)/\v'.heap=w.heap) ⟨tg u n B S1 S2 E1 E2,[]⟩ w:=by
 obtain⟨Q,Y⟩:∃Q:Exit->Act->World->Prop,Q=(fun e a' v'=>e=.normal/\a'.defers=[]/\(a'.tmps=tg (fun i=>a'.tmps.getD i undef) n B S1 S2 E1 E2/\a'.tmps.getD 62 undef=.bool t)/\v'.heap=w.heap):=⟨_,rfl⟩;rw[<-Y];have K:=laid Y;clear Y;unfold jB ah tg;simp only[aj,cp];rcases h with⟨rfl,rfl⟩|⟨rfl,rfl,rfl⟩|⟨rfl,rfl,rfl⟩
 all_goals
  go_wp2
  rw[K.out];exact⟨rfl,rfl,⟨by kernel_rfl,rfl⟩,rfl⟩
theorem aim(U:n<=100)(R:B.size<=100)(K:E1=if n<B.size then 0 else 4)(Y:E2=if n+1<B.size then 0 else 4):(cp [2,2,2,2,2,2,2,2,1,2,1,1] jB).wp PR (fun e a' v'=>e=.normal/\a'.defers=[]/\a'.tmps.getD 8 undef=.bool true/\v'.heap=w.heap) ⟨tg u n B S1 S2 E1 E2,[]⟩ w:=by
 obtain⟨Q,D⟩:∃Q:Exit->Act->World->Prop,Q=(fun e a' v'=>e=.normal/\a'.defers=[]/\a'.tmps.getD 8 undef=.bool true/\v'.heap=w.heap):=⟨_,rfl⟩;rw[<-D];have H:=laid D;clear D;unfold jB ah tg;simp only[aj,cp];by_cases c1:n<B.size
 ·rw[if_pos c1]at K;subst K;by_cases c2:n+1<B.size
  ·rw[if_pos c2]at Y;subst Y;have d1:(n:Int)<(B.size:Int):=by omega
   have d2:(n:Int)+1<(B.size:Int):=by omega
   go_wp2
   rw[H.out];exact⟨rfl,rfl,rfl,rfl⟩
  ·rw[if_neg c2]at Y;subst Y;have d1:(n:Int)<(B.size:Int):=by omega
   have d2:¬(n:Int)+1<(B.size:Int):=by omega
   go_wp2
   rw[H.out];exact⟨rfl,rfl,rfl,rfl⟩
 ·rw[if_neg c1]at K;have c2:¬n+1<B.size:=by omega
  rw[if_neg c2]at Y;subst K Y;have d1:¬(n:Int)<(B.size:Int):=by omega
  have d2:¬(n:Int)+1<(B.size:Int):=by omega
  go_wp2
  rw[H.out];exact⟨rfl,rfl,rfl,rfl⟩
theorem ain:(cp [2,2,2,2,2,2,2,2,2,2,2,1,1] jB).wp PR (fun e a' v'=>e=.normal/\a'.defers=[]/\(a'.tmps=r8 (fun i=>a'.tmps.getD i undef) L M/\a'.tmps.getD 95 undef=.bool false)/\v'.heap=w.heap) ⟨r8 u L M,[]⟩ w:=by
 obtain⟨Q,Y⟩:∃Q:Exit->Act->World->Prop,Q=(fun e a' v'=>e=.normal/\a'.defers=[]/\(a'.tmps=r8 (fun i=>a'.tmps.getD i undef) L M/\a'.tmps.getD 95 undef=.bool false)/\v'.heap=w.heap):=⟨_,rfl⟩;rw[<-Y];have K:=laid Y;clear Y;unfold jB ah r8;simp only[aj,cp];go_wp2
 rw[K.out];exact⟨rfl,rfl,⟨by kernel_rfl,rfl⟩,rfl⟩
end
end Ph
section
open RowKit
theorem Y2{x b:List UInt8}(i:Nat)(F:i<nX x b n):Ph.qw (jG x b n) (jG x b (n+1)) (fun i=>iI x b n i 1) (fun i=>iI x b n i 3) (fun i=>iI x b (n+1) i 1) (fun i=>iI x b (n+1) i 3) i (nX x b (n+1))=true:=by
 have up:∀(A B:Nat->Nat->ByteArray) (y z R I:Nat->Nat) j m,j<=m->Ph.qw A B y z R I i j=true->Ph.qw A B y z R I i m=true:=by
  intro A B y z R I j m h Y;induction m with
  |zero=>
   obtain rfl:j=0:=by omega
   exact Y
  |succ m N=>
   rcases Nat.lt_or_ge j (m+1)with L|L
   ·rw[Ph.qw,N (by omega)];rfl
   ·obtain rfl:j=m+1:=by omega
    exact Y
 by_cases D:iw x b n=[]
 ·refine up _ _ _ _ _ _ 0 _ (Nat.zero_le _) ?_;unfold Ph.qw iI ny;rw[if_pos D];rfl
 ·rw[nX,if_neg D]at F;obtain⟨q,J⟩:∃q,(iw x b n)[i]?=some q:=⟨_,List.getElem?_eq_getElem F⟩;have H:=aei (List.mem_of_getElem? J);have K:iw x b (n+1)≠ []:=List.ne_nil_of_mem H;obtain⟨j,Y⟩:=List.getElem?_of_mem H;have M:=(List.getElem?_eq_some_iff.1 Y).1;refine up _ _ _ _ _ _ (j+1) _ (by rw[nX,if_neg K];omega) ?_;have U:ny x b n i=Br x b i q:=by rw[ny,if_neg D,az,J];rfl
  have C:ny x b (n+1) j=Br x b j q:=by rw[ny,if_neg K,az,Y];rfl
  have O:=(za H).1;rw[Ph.qw];have a1:decide (jG x b n i 0=jG x b (n+1) j 0/\jG x b n i 2=jG x b (n+1) j 2/\iI x b n i 3=iI x b (n+1) j 3/\jG x b n i 4=jG x b (n+1) j 4/\jG x b n i 5=jG x b (n+1) j 5/\jG x b n i 6=jG x b (n+1) j 6/\jG x b n i 7=jG x b (n+1) j 7)=true:=by
   rw[decide_eq_true_eq];unfold jG iI;rw[U,C];exact⟨rfl,rfl,rfl,rfl,rfl,rfl,rfl⟩
  have a2:decide (iI x b n i 1/16%2=iI x b (n+1) j 1/16%2)=true:=by
   rw[decide_eq_true_eq];unfold iI;rw[U,C];show((nT q.1 i:Nat):Int).toNat/16%2=((nT q.1 j:Nat):Int).toNat/16%2
   unfold nT;split<;>split<;>omega
  rw[a1,a2];simp
end
namespace Ph
open Conc Ren RowKit
section
variable{y:Gm}{Q:QT}{v v0:World}{n:Nat}
theorem ago(O:y.n=(n:Nat))(U:n<=100)(C:y.B.size<=100)(K:y.E1=if n<y.B.size then 0 else 4)(D:y.E2=if n+1<y.B.size then 0 else 4)(N:¬n+1<y.B.size)(P:Kw v0 v):
  GW true Q (fun y v'=>y=.bool true/\Kw v0 v') 13 [.code (cp [2,2,2,2,2,2,2,2] jB)] (rp y 7) v:=by
 have Y:∃F,PR.funcs[13]?=some F:=⟨_,au⟩;have J:y.E1=4/\true=true\/y.E1=0/\y.E2=4/\true=true\/y.E1=0/\y.E2=0/\true=false:=by
  rw[if_neg N]at D;by_cases c:n<y.B.size
  ·rw[if_pos c]at K;exact .inr (.inl ⟨K,D,rfl⟩)
  ·rw[if_neg c]at K;exact .inl ⟨K,rfl⟩
 refine GW.run 2 (k':=[.code (cp [2,2,2,2,2,2,2,2,1,1] jB),.code (cp [2,2,2,2,2,2,2,2,1,2] jB),.code (cp [2,2,2,2,2,2,2,2,2] jB)]) ?_;refine GW.any (fun u=>tg u y.n y.B y.S1 y.S2 y.E1 y.E2) (by kernel_rfl) fun u=>?_;rw[O];refine af Y (by kernel_rfl) (R1:=fun a' w'=>(a'=tg (fun i=>a'.getD i undef) n y.B y.S1 y.S2 y.E1 y.E2/\a'.getD 62 undef=.bool true)/\w'.heap=v.heap) rfl (fun T=>TS (w:=tp v T) J) ?_;rintro a1 v2 ⟨⟨I,ed⟩,A⟩;refine GW.run 0 (k':=[.code (.cond (.tmp 62) (cp [2,2,2,2,2,2,2,2,1,2,1] jB) .skip),.code (cp [2,2,2,2,2,2,2,2,2] jB)]) ?_;refine ak Y (t:=true) trivial ed ?_;refine GW.run 1 (k':=[.code (cp [2,2,2,2,2,2,2,2,1,2,1,1] jB),.code .ret,.code (cp [2,2,2,2,2,2,2,2,2] jB)]) ?_;rw[I];refine af Y (by kernel_rfl) (R1:=fun a' w'=>a'.getD 8 undef=.bool true/\w'.heap=v2.heap) rfl (fun T=>aim (w:=tp v2 T) U C K D) ?_;rintro a2 v3 ⟨R,H⟩;exact GW.zB Y 8 ⟨R,P.trans fun a L=>by rw[H,A]⟩
theorem agp{x b:List UInt8}(H:x.length<=200)(c:y.E1=0)(d:y.E2=0)(f:y.n=(n:Nat))(f1:∀u,Kw v0 u->gW Q 25 #[.string y.S1] u fun z v'=>∃l,z=.tuple #[l,.bool true]/\v'.ownsRow u.heap.size 42 9 l (js x b n).length (nM (js x b n))/\Kw u v')(f2:∀u,Kw v0 u->gW Q 25 #[.string y.S2] u fun z v'=>∃l,z=.tuple #[l,.bool true]/\v'.ownsRow u.heap.size 42 9 l (js x b (n+1)).length (nM (js x b (n+1)))/\Kw u v')(r:Kw v0 v):
  GW true Q (fun y v'=>y=.bool true/\Kw v0 v') 13 [.code (cp [2,2,2,2,2,2,2,2] jB)] (rp y 7) v:=by
 have Y:∃F,PR.funcs[13]?=some F:=⟨_,au⟩;refine GW.run 2 (k':=[.code (cp [2,2,2,2,2,2,2,2,1,1] jB),.code (cp [2,2,2,2,2,2,2,2,1,2] jB),.code (cp [2,2,2,2,2,2,2,2,2] jB)]) ?_;refine GW.any (fun u=>tg u y.n y.B y.S1 y.S2 y.E1 y.E2) (by kernel_rfl) fun u=>?_;rw[f];refine af Y (by kernel_rfl) (R1:=fun a' w'=>(a'=tg (fun i=>a'.getD i undef) n y.B y.S1 y.S2 y.E1 y.E2/\a'.getD 62 undef=.bool false)/\w'.heap=v.heap) rfl (fun T=>TS (w:=tp v T) (.inr (.inr ⟨c,d,rfl⟩))) ?_;rintro a1 v2 ⟨⟨P,ed⟩,W⟩;have K2:Kw v0 v2:=r.trans fun a U=>by rw[W]
 refine GW.run 0 (k':=[.code (.cond (.tmp 62) (cp [2,2,2,2,2,2,2,2,1,2,1] jB) .skip),.code (cp [2,2,2,2,2,2,2,2,2] jB)]) ?_;refine ak Y (t:=false) trivial ed ?_;rw[P];generalize(fun i=>a1.getD i undef)=u1;clear P ed;refine GW.run 3 (k':=j8 [2,2,2,2,2,2,2,2,2] [0,1,2,3,4,5,6]) ?_;refine ae Y [0] ?_;refine GW.any (fun u=>Ce u y.S1 y.S2 undef undef 1) (by kernel_rfl) fun u2=>?_;refine GW.call Y (f1 _ K2) ?_;rintro z v3 ⟨L,rfl,r1,K3⟩;refine GW.any (fun u=>Ce u y.S1 y.S2 L undef 2) (by kernel_rfl) fun u3=>?_;refine ae Y [2,3,4,5,6] ?_;refine GW.any (fun u=>Ce u y.S1 y.S2 L undef 3) (by kernel_rfl) fun u4=>?_;refine GW.run 3 (k':=j8 [2,2,2,2,2,2,2,2,2,2] [0,1,2,3,4,5,6]) ?_;refine ae Y [0] ?_;refine GW.any (fun u=>Ce u y.S1 y.S2 L undef 4) (by kernel_rfl) fun u5=>?_;refine GW.call Y (f2 _ (K2.trans K3)) ?_;rintro z v4 ⟨M,rfl,r2,K4⟩;refine GW.any (fun u=>Ce u y.S1 y.S2 L M 5) (by kernel_rfl) fun u6=>?_;refine ae Y [2,3,4,5,6] ?_;refine GW.any (fun u=>r8 u L M) (by kernel_rfl) fun u7=>?_;obtain⟨D,J,rfl,g1,S,c1⟩:=D8 H r1;obtain⟨O,N,rfl,g3,q,c2⟩:=D8 H r2;refine GW.run 3 (k':=[.code (cp [2,2,2,2,2,2,2,2,2,2,2,1,1] jB),.code (cp [2,2,2,2,2,2,2,2,2,2,2,1,2] jB),.code (cp [2,2,2,2,2,2,2,2,2,2,2,2] jB)]) ?_;refine af Y (by kernel_rfl) (R1:=fun a' w'=>(a'=r8 (fun i=>a'.getD i undef) (.slice (some ⟨D,0,none⟩) (nX x b n) J) (.slice (some ⟨O,0,none⟩) (nX x b (n+1)) N)/\a'.getD 95 undef=.bool false)/\w'.heap=v4.heap) (by kernel_rfl) (fun T=>ain (w:=tp v4 T)) ?_;rintro a5 v5 ⟨⟨E,Z⟩,I⟩;refine GW.run 0 (k':=[.code (.cond (.tmp 95) (cp [2,2,2,2,2,2,2,2,2,2,2,1,2,1] jB) .skip),.code (cp [2,2,2,2,2,2,2,2,2,2,2,2] jB)]) ?_;refine ak Y (t:=false) trivial Z ?_;refine GW.run 2 (k':=[.code (cp [2,2,2,2,2,2,2,2,2,2,2,2,1] jB),.code (cp [2,2,2,2,2,2,2,2,2,2,2,2,2] jB)]) ?_;rw[E];have X:Kw v4 v5:=fun a U=>by rw[I]
 have ce:∀p T,(tp v5 T).cell? p=v4.cell? p:=fun p T=>by simp only[World.cell?];rw[show(tp v5 T).heap=v5.heap from rfl,I]
 have V:∀T,(tp v5 T).heap.size=v4.heap.size:=fun T=>by rw[show(tp v5 T).heap=v5.heap from rfl,I]
 have R:∀p:Addr,p.block=D->v4.cell? p=v3.cell? p:=fun p g=>by simp only[World.cell?];rw[g,K4 _ S]
 refine af Y (by kernel_rfl) (R1:=fun a' w'=>a'=r8 (fun i=>a'.getD i undef) (.slice (some ⟨D,0,none⟩) (nX x b n) J) (.slice (some ⟨O,0,none⟩) (nX x b (n+1)) N)/\Kw v5 w') (by kernel_rfl) (fun T=>?_) ?_
 ·refine Code.wp_mono ?_ (aca (w:=tp v5 T) (A:=jG x b n) (B:=jG x b (n+1)) (y:=fun i=>iI x b n i 1) (z:=fun i=>iI x b n i 3) (y':=fun i=>iI x b (n+1) i 1) (z':=fun i=>iI x b (n+1) i 3) ?_ ?_ (Du fun i j K C=>by rw[ce,R _ rfl];exact c1 i j K C) (Du fun i j K C=>by rw[ce];exact c2 i j K C) ?_ ?_ (fun i=>Dv x b n i H) (fun i=>Dv x b (n+1) i H) (fun i K=>Y2 i K))
  ·rintro e a' v' ⟨s,m,k,h⟩;exact⟨s,m,k,fun a U=>h.block a U⟩
  ·have:=Bg x b n;omega
  ·have:=Bg x b (n+1);omega
  ·rw[V];exact aH S K4.size
  ·rw[V];exact q
 ·rintro a6 v6 ⟨G,o⟩;rw[G];refine GW.run 2 (k':=j8 [2,2,2,2,2,2,2,2,2,2,2,2,2] [0]) ?_;refine ae Y [0] ?_;refine GW.run 1 (k':=[.code .ret]) ?_;exact GW.zB Y 8 ⟨by kernel_rfl,(K2.trans K3).trans (K4.trans (X.trans o))⟩
end
section
variable{W:World}{a0 a1:Option Addr}{l0 l1 c0 c1:Nat}{z0 z1:Nat->Int}{k q1 t1 w1:Int}{I:Value->World->Prop}
theorem ael(i0:pq W a0 l0 z0)(S:pq W a1 l1 z1)(hk:k_ k)(U:k_ q1/\k_ t1/\k_ w1)(H:Here (fun _=>False) W)(P:∀C d,gU (fun _=>False) W C->I (.bool true) (C.at d)):
  gu PR (Ren.Ends PR I) (fun _=>False) (Frame.enter PR 13 #[.slice a0 l0 c0,.slice a1 l1 c1,ii k,.agg #[ii q1,ii t1,ii w1]] .normal) [] W:=by
 refine aeh i0 S H P fun x0 b0 v b R T D B F Y N=>?_;have O:=wN k (show 0<4 by decide);obtain⟨n,en⟩:∃n,n=kN k 4:=⟨_,rfl⟩;rw[<-en]at O;obtain⟨x,ex⟩:∃x,x=65::x0:=⟨_,rfl⟩;obtain⟨p,A⟩:∃p,p=67::71::b0:=⟨_,rfl⟩;have l1:1<=x.length:=by rw[ex];simp
 have l2:2<=p.length:=by rw[A];simp
 have V:b0.length<=12:=by simp at B;omega
 rw[<-ex]at R T;rw[<-A]at D B;have Q:p.length<=14:=B;have M:(str p).size=p.length:=gV p;have call:∀(m:Nat) u,m<=6->Kw v u->gW (Ren.Ends PR I) 22 #[.string (str (iF x)),.string (str (iH p)),ii (m:Nat),.agg #[ii q1,ii t1,ii w1]] u fun z v'=>z=.tuple #[.string (if m<p.length then str (mo (str (iF x)) (str (iH p)) m)else⟨#[]⟩),ii (if m<p.length then 0 else 4)]/\Kw v v':=fun m u J K=>by
  refine gW.mono (IC (k:=(m:Nat)) ?_ ?_ U.1 U.2.1 U.2.2 (K.tabs F) (K.qU F Y)) fun y v' h=>⟨by rw[h.1,IE R l1 (by omega) D (by omega) (by omega) J,Dg R l1 (by omega) D (by omega) (by omega) J],K.trans h.2⟩;all_goals(rw[gV];simp only[iF,iH,nY,List.length_append,ao,aA,maxLen];omega)
 obtain⟨y,L⟩:∃y:Gm,y=⟨k,(n:Nat),if n<p.length then 0 else 4,if n+1<p.length then 0 else 4,.agg #[ii q1,ii t1,ii w1],b,str x0,str x,str (iF x),str b0,str p,str (iH p),if n<p.length then str (mo (str (iF x)) (str (iH p)) n)else⟨#[]⟩,if n+1<p.length then str (mo (str (iF x)) (str (iH p)) (n+1))else⟨#[]⟩⟩:=⟨_,rfl⟩;have key:GW true (Ren.Ends PR I) (fun x v'=>x=.bool true/\Kw v v') 13 (j8 [2,2,2,2] [2,3]) (rp y 0) v:=by
  refine aek (q1:=q1) (t1:=t1) (w1:=w1) ?_ ?_ ?_ ?_ ?_ ?_ ?_ ?_ ?_ fun v' K=>?_;all_goals rw[L]
  ·show(str b0).size<=50;rw[gV];omega
  ·show _=str p;rw[A];exact pX [67,71] b0
  ·exact hk
  ·show((n:Nat):Int)=_;rw[en]
  ·exact N
  ·exact fun u K=>D7 (by omega) K
  ·exact fun u K=>call n u (by omega) K
  ·exact fun u K=>call (n+1) u (by omega) K
  ·by_cases d2:n+1<p.length
   ·have d1:n<p.length:=by omega
    refine agp (x:=x) (b:=p) (n:=n) (by omega) (if_pos d1) (if_pos d2) rfl (fun u K=>?_) (fun u K=>?_) K
    ·show gW _ 25 #[.string (if n<p.length then _ else _)] u _
     rw[if_pos d1];exact Ar R l1 (by omega) D (by omega) (by omega) (by omega)
    ·show gW _ 25 #[.string (if n+1<p.length then _ else _)] u _
     rw[if_pos d2];exact Ar R l1 (by omega) D (by omega) (by omega) (by omega)
   ·refine ago (n:=n) rfl (by omega) (by show(str p).size<=100;omega) ?_ ?_ (by show¬n+1<(str p).size;omega) K
    ·show(if n<p.length then(0:Int)else 4)=if n<(str p).size then 0 else 4
     rw[M]
    ·show(if n+1<p.length then(0:Int)else 4)=if n+1<(str p).size then 0 else 4
     rw[M]
 rw[L]at key;rw[ex]at key;exact GW.to _ key
end
end Ph
end
end Go.Proofs.YtdcjnhipenbcfaaGreatDoor
