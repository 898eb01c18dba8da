/-
  Own text. Part 13 of what the claim rests on.
-/
import Derived.Test.YtdcjnhipenbcfaaGreatDoorPk10
import Derived.Maps.AppendAt
set_option linter.unusedVariables false
set_option linter.unusedSectionVars false
set_option linter.unusedSimpArgs false
set_option maxRecDepth 100000
set_option maxHeartbeats 16000000
open Go.Proofs.Tryz renaming f12->ah,func12->aA,ntmps35->aY,underlying38->aZ
open Go.Proofs.YtdcjnhipenbcfaaGreatDoor.Ph.GW renaming gS->ae,piece->af,cond->ai
open Go.RowKit.Below renaming refl->ar
open Go.World renaming cell?->ao,ownsRow_nil->a_
open Int renaming tdiv_eq_ediv_of_nonneg->aB
open List renaming append_nil->au,getElem?_eq_getElem->ax,length_cons->ay,filter_cons->aD,flatMap_cons->aH,flatMap_map->aI,getD_eq_getElem?_getD->aJ,length_eq_zero_iff->aK,length_nil->aL,map_cons->aM,mem_append->aN,mem_cons->aO,mem_of_getElem?->aP,not_mem_nil->aQ
open Nat renaming le_refl->ak,le_trans->az,add_assoc->aT,add_zero->aU,mul_le_mul->aV,zero_add->aW,zero_mul->aX
open Option renaming getD_some->aj
namespace Go.Proofs.YtdcjnhipenbcfaaGreatDoor
noncomputable section
variable {x:List UInt8}{x' xa xz:List Value}{H i n na nz:Nat}{vz:Value}{v v1 w:World}
namespace Ph
open Conc Ren RowKit
abbrev lN(site:List Item)(al:List (Nat×Value)):Frame:=kR 12 190 site (sA al) fun _=>undef
noncomputable def ik:Code:=ah.body.getD .skip
abbrev jJ (p:List Nat) (l:List Nat):List Item:=[.inRegion (opsOf (cp (p++[1]) ik)) l,.code (cp (p++[2]) ik)]
def zG(t p:Value)(k:Int)(o:Value):List (Nat×Value):=[(0,t),(1,p),(2,ii k),(3,o)]
def xV(t p:Value)(k:Int)(o:Value)(b:Nat):List (Nat×Value):=zG t p k o++[(7,ptr b),(8,.bool false)]
def rW(t p:Value)(k:Int)(o:Value)(b:Nat):List (Nat×Value):=xV t p k o b++[(30,.bool true),(9,.bool true),(31,.bool true),(32,.bool false),(33,t)]
def xW(t p:Value)(k:Int)(o:Value)(b:Nat)(x0 X RF:ByteArray):List (Nat×Value):=rW t p k o b++[(34,.string x0),(35,.string X),(36,.string RF),(10,.string RF),(37,p)]
section
variable{t p o:Value}{k:Int}{b:Nat}{x0 X RF b0:ByteArray}
theorem alb:gY PR 60 (Frame.enter PR 12 #[t,p,ii k,o] .normal) []=(lN (jJ [] [0,1]) (zG t p k o),[]):=by kernel_rfl
theorem agq:(opAt (lN (jJ [] [0,1]) (zG t p k o))).map (fun o=>o.op)=some (.box 28 (.tmp 3)):=by kernel_rfl
theorem alc:gY PR 60 ((lN (jJ [] [0,1]) (zG t p k o)).finish (ptr b)) []=(lN (jJ [2] [0,1]) (xV t p k o b),[]):=by kernel_rfl
theorem agr:gF PR 1 (lN (jJ [2] [0,1]) (xV t p k o b)) []=(Frame.enter PR 16 #[] .normal,[lN (jJ [2] [0,1]) (xV t p k o b)]):=by kernel_rfl
theorem ald:gY PR 60 (gF PR 11 ((lN (jJ [2] [0,1]) (xV t p k o b)).finish (.bool true)) []).1 []=(lN (jJ [2,2,2] [1,2,3,4]) (rW t p k o b),[]):=by kernel_rfl
theorem aio:(gF PR 11 ((lN (jJ [2] [0,1]) (xV t p k o b)).finish (.bool true)) []).2=[]:=by kernel_rfl
theorem ags:gF PR 1 (lN (jJ [2,2,2] [1,2,3,4]) (rW t p k o b)) []=(Frame.enter PR 18 #[t,ii (60:Nat)] .normal,[lN (jJ [2,2,2] [1,2,3,4]) (rW t p k o b)]):=by kernel_rfl
theorem agt:(opAt ((lN (jJ [2,2,2] [1,2,3,4]) (rW t p k o b)).finish (.string x0))).map (fun o=>o.op)=some (.binOp .add 9 (.const (.string ⟨#[65]⟩)) (.tmp 34) 9):=by kernel_rfl
theorem ale:((lN (jJ [2,2,2] [1,2,3,4]) (rW t p k o b)).finish (.string x0)).finish (.string X)=lN (jJ [2,2,2] [3,4]) (rW t p k o b++[(34,.string x0),(35,.string X)]):=by kernel_rfl
theorem agu:gF PR 1 (lN (jJ [2,2,2] [3,4]) (rW t p k o b++[(34,.string x0),(35,.string X)])) []=(Frame.enter PR 23 #[.string X] .normal,[lN (jJ [2,2,2] [3,4]) (rW t p k o b++[(34,.string x0),(35,.string X)])]):=by kernel_rfl
theorem alf:gY PR 60 ((lN (jJ [2,2,2] [3,4]) (rW t p k o b++[(34,.string x0),(35,.string X)])).finish (.string RF)) []=(lN (jJ [2,2,2,2] [1,2,3]) (xW t p k o b x0 X RF),[]):=by kernel_rfl
theorem agv:gF PR 1 (lN (jJ [2,2,2,2] [1,2,3]) (xW t p k o b x0 X RF)) []=(Frame.enter PR 18 #[p,ii (12:Nat)] .normal,[lN (jJ [2,2,2,2] [1,2,3]) (xW t p k o b x0 X RF)]):=by kernel_rfl
theorem alg:(lN (jJ [2,2,2,2] [1,2,3]) (xW t p k o b x0 X RF)).finish (.string b0)=lN (jJ [2,2,2,2] [2,3]) (xW t p k o b x0 X RF++[(38,.string b0)]):=by kernel_rfl
end
section
variable{W:World}{a0 a1:Option Addr}{l0 l1 c0 c1:Nat}{z0 z1:Nat->Int}{k q1 t1 w1:Int}{I:Value->World->Prop}
theorem aem(i0:pq W a0 l0 z0)(s:pq W a1 l1 z1)(H:Here (fun _=>False) W)(r:∀O d,gU (fun _=>False) W O->I (.bool true) (O.at d))
  (g:∀x0 b0 (v:World) b,(∀c∈65::x0,gP c)->(65::x0).length<=61->(∀c∈67::b0,gP c)->(67::b0).length<=12+[67].length->lq v->iU v->v.heap[b]?=some (.cells #[ii q1,ii t1,ii w1] 28)->GW true (Ren.Ends PR I) (fun x v'=>x=.bool true/\Kw v v') 12 (jJ [2,2,2,2] [2,3]) ((TN 190 (sA (xW (.slice a0 l0 c0) (.slice a1 l1 c1) k (.agg #[ii q1,ii t1,ii w1]) b (str x0) (str (65::x0)) (str (iF (65::x0)))++[(38,.string (str b0))])) fun _=>undef).map blk) v):
  gu PR (Ren.Ends PR I) (fun _=>False) (Frame.enter PR 12 #[.slice a0 l0 c0,.slice a1 l1 c1,ii k,.agg #[ii q1,ii t1,ii w1]] .normal) [] W:=by
 refine gu.qZ 60 _ alb fun v1 g1 _=>?_;refine gu.alloc (F:=fun B=>(lN (jJ [] [0,1]) (zG (.slice a0 l0 c0) (.slice a1 l1 c1) k (.agg #[ii q1,ii t1,ii w1]))).finish (ptr B)) (o:=.cells #[ii q1,ii t1,ii w1] 28) (fun w'=>wv agq rfl rfl w') fun M v2 n1 u1 V o1 X=>?_;refine gu.qZ 60 _ alc fun v5 Z _=>?_;refine gu.pure 1 fun v6 u=>?_;rw[agr];have K:=Z.trans (gU.of u);have D:=(g1.trans X).trans K;have A:=H.on D;have E1:=K.at V o1;have s1:=jQ E1;refine A.call ID (fun _ y=>y) (fun _ y=>.inl y) ⟨fun _ _ _=>rfl,ak _,rfl,mD.refl _,rfl⟩ fun Z7 v7 m7 o7 S=>?_;refine gu.pure 11 fun v8 m=>?_;rw[aio];refine gu.qZ 60 _ ald fun v9 E _=>?_;refine gu.pure 1 fun vA t=>?_;rw[ags];refine yQ (yT i0 D) (by omega) A m7 o7 (((S.on o7 (gU.of m)).on o7 E).on o7 (gU.of t)) fun ZB vB mB J T=>?_;have ex:(⟨#[65]⟩:ByteArray)++str (iS z0 (min l0 60))=str (65::iS z0 (min l0 60)):=pX [65] _;have P:∀(d:List UInt8) (z:Nat->Int) (n:Nat),(∀c∈d,gP c)->∀c∈d++iS z n,gP c:=fun d z n hd c Y=>(aN.1 Y).elim (hd c) (C9 _ _ c);have kx:∀c∈65::iS z0 (min l0 60),gP c:=P [65] _ _ fun c Y=>by simp at Y;subst Y;exact⟨by decide,by decide⟩
 have w:∀c∈67::iS z1 (min l1 12),gP c:=P [67] _ _ fun c Y=>by simp at Y;rcases Y with rfl<;>exact⟨by decide,by decide⟩
 have lx:(65::iS z0 (min l0 60)).length<=61:=by rw[ay,sb];omega
 have lb:(67::iS z1 (min l1 12)).length<=12+[67].length:=by simp only[ay,sb,aL];omega
 refine gu.still (fun w'=>Dc agt rfl rfl (by rw[gV,sb];have:(⟨#[65]⟩:ByteArray).size=1:=rfl;omega) w') fun vC G _=>?_;rw[ex,ale];refine gu.pure 1 fun vD i=>?_;rw[agu];refine A.call (SW (by omega)) mB J ((T.on J G).on J (gU.of i)) fun ZE vE mE L GE=>?_;refine gu.qZ 60 _ alf fun vF j _=>?_;refine gu.pure 1 fun vG h=>?_;rw[agv];refine yQ (yT s D) (by omega) A mE L ((GE.on L j).on L (gU.of h)) fun ZF vF mF Q C=>?_;rw[alg];have gr:=g1.grow;refine Jb (Bs:=[M]) r H (fun l y=>(Q l y).elim .inl fun⟨a,e,q⟩=>.inr ⟨a,e,az D.grow q⟩) (D.trans C) ?_ ?_ fun f R=>?_
 ·intro b N;simp only[aO,aQ,or_false]at N;subst N;exact⟨by omega,su Q (fun _ _ y=>y) s1,_,_,_,C.at E1 (fun _ _ y=>y)⟩
 ·intro p U;simp only[xW,rW,xV,zG,aN,aO,aQ,or_false]at U
  repeat' rcases U with U|U
  all_goals first|exact .inl ⟨_,_,_,rfl⟩|exact .inr (.inr ⟨M,by simp,rfl⟩)|exact .inr (.inl (by kernel_rfl))
 ·exact g _ _ _ _ kx lx w lb f R (C.at E1 (fun _ _ y=>y))
end
def yh(u:Nat->Value)(L M va vz:Value):Array Value:=#[u 0,u 1,u 2,u 3,u 4,u 5,u 6,u 7,u 8,u 9,u 10,u 11,u 12,u 13,u 14,u 15,u 16,u 17,u 18,u 19,u 20,L,u 22,M,u 24,va,vz,u 27,u 28,u 29,u 30,u 31,u 32,u 33,u 34,u 35,u 36,u 37,u 38,u 39,u 40,u 41,u 42,u 43,u 44,u 45,u 46,u 47,u 48,u 49,u 50,u 51,u 52,u 53,u 54,u 55,u 56,u 57,u 58,u 59,u 60,u 61,u 62,u 63,u 64,u 65,u 66,u 67,u 68,u 69,u 70,u 71,u 72,u 73,u 74,u 75,u 76,u 77,u 78,u 79,u 80,u 81,u 82,u 83,u 84,u 85,u 86,u 87,u 88,u 89,u 90,u 91,u 92,u 93,u 94,u 95,u 96,u 97,u 98,u 99,u 100,u 101,u 102,u 103,u 104,u 105,u 106,u 107,u 108,u 109,u 110,u 111,u 112,u 113,u 114,u 115,u 116,u 117,u 118,u 119,u 120,u 121,u 122,u 123,u 124,u 125,u 126,u 127,u 128,u 129,u 130,u 131,u 132,u 133,u 134,u 135,u 136,u 137,u 138,u 139,u 140,u 141,u 142,u 143,u 144,u 145,u 146,u 147,u 148,u 149,u 150,u 151,u 152,u 153,u 154,u 155,u 156,u 157,u 158,u 159,u 160,u 161,u 162,u 163,u 164,u 165,u 166,u 167,u 168,u 169,u 170,u 171,u 172,u 173,u 174,u 175,u 176,u 177,u 178,u 179,u 180,u 181,u 182,u 183,u 184,u 185,u 186,u 187,u 188,u 189]
def Bt(A:Nat->Nat->ByteArray)(z:Nat->Nat)(i:Nat):List Value:=[.string (A i 0),ii 0,.string (A i 2),ii (z i),.string (A i 4),.string (A i 5),.string (A i 6),.string (A i 7),.string nS]
def pI(f:Nat->Bool)(A:Nat->Nat->ByteArray)(z:Nat->Nat):Nat->List Value
 |0=>[]
 |i+1=>pI f A z i++if f i=true then Bt A z i else []
def oC(f:Nat->Bool):Nat->Nat
 |0=>0
 |i+1=>oC f i+if f i=true then 1 else 0
def oc(f:Nat->Nat->Bool)(A:Nat->Nat->ByteArray)(z:Nat->Nat)(N:Nat):Nat->List Value
 |0=>[]
 |S+1=>oc f A z N S++pI (f S) A z N
def nA(f:Nat->Nat->Bool)(N:Nat):Nat->Nat
 |0=>0
 |S+1=>nA f N S+oC (f S) N
theorem Dw(f:Nat->Bool):∀i,oC f i<=i
 |0=>ak _
 |i+1=>by have:=Dw f i;rw[oC];split<;>omega
theorem Je(f:Nat->Nat->Bool)(N:Nat):∀S,nA f N S<=S *N
 |0=>Nat.zero_le _
 |S+1=>by have:=Je f N S;have:=Dw (f S) N;rw[nA,Nat.add_mul];omega
structure nU(H:Nat)(w:World)(va vz:Value)(na nz:Nat)(xa xz:List Value):Prop where
 a:w.ownsRow H 42 9 va na xa
 z:w.ownsRow H 42 9 vz nz xz
 ap:∀g,va.ownBlock=some g->vz.ownBlock≠some g
theorem nU.swap{va:Value}(h:nU H w va vz na nz xa xz):nU H w vz va nz na xz xa:=⟨h.z,h.a,fun g e e'=>h.ap g e' e⟩
theorem nU.grow{w1:World}{va v':Value}{n':Nat}(h:nU H w va vz na nz xa xz)(o:w1.ownsRow H 42 9 v' n' x')(g:w.grownBy w1 va.ownBlock)(b:v'.ownBlock=va.ownBlock\/v'.ownBlock=some w.heap.size):nU H w1 v' vz n' nz x' xz:=by
 refine⟨o,h.z.kept g ?_,fun k e e'=>?_⟩
 ·cases e:vz.ownBlock with
  |none=>exact .inl rfl
  |some k=>exact .inr fun e'=>h.ap k e'.symm e
 ·rcases b with b|b
  ·exact h.ap k (b▸e) e'
  ·have:=(h.z.lt k e').2;rw[b]at e;cases e;omega
theorem nU.below{w1:World}{va:Value}(h:nU H w va vz na nz xa xz)(Y:Below w.heap.size w w1):nU H w1 va vz na nz xa xz:=
 ⟨h.a.kept (th Y none) (by cases va.ownBlock<;>simp),h.z.kept (th Y none) (by cases vz.ownBlock<;>simp),h.ap⟩
section
variable{w:World}{u:Nat->Value}{G1 N1 C1 G2 N2 C2:Nat}{A B:Nat->Nat->ByteArray}{y z y' z':Nat->Nat}
theorem aav(hN1:N1<=1000)(hN2:N2<=1000)(h1:rI w G1 N1 A y z)(h2:rI w G2 N2 B y' z')(V1:G1<w.heap.size)(hG2:G2<w.heap.size)(hy:∀i,y i<=1000)(hy':∀i,y' i<=1000):
  (cp [2,2,2,2,2,2,2,2,2,2,2,2,2,2,2,2,2,2,1] ik).wp PR (fun e a' v'=>e=.normal/\a'.defers=[]/\∃va vz,a'.tmps=yh (fun i=>a'.tmps.getD i undef) (.slice (some ⟨G1,0,none⟩) N1 C1) (.slice (some ⟨G2,0,none⟩) N2 C2) va vz/\nU w.heap.size v' va vz (nA (fun s i=>decide (y i/16%2=s)) N1 2) (nA (fun s i=>!decide (y' i/16%2=s)) N2 2) (oc (fun s i=>decide (y i/16%2=s)) A z N1 2) (oc (fun s i=>!decide (y' i/16%2=s)) B z' N2 2)/\Below w.heap.size w v') ⟨yh u (.slice (some ⟨G1,0,none⟩) N1 C1) (.slice (some ⟨G2,0,none⟩) N2 C2) (.slice none 0 0) (.slice none 0 0),[]⟩ w:=by
 obtain⟨p,hp⟩:∃p:Nat->Nat->Bool,p=(fun s i=>decide (y i/16%2=s)):=⟨_,rfl⟩;obtain⟨q,hq⟩:∃q:Nat->Nat->Bool,q=(fun s i=>!decide (y' i/16%2=s)):=⟨_,rfl⟩;rw[<-hp,<-hq];obtain⟨Q,t⟩:∃Q:Exit->Act->World->Prop,Q=(fun e a' v'=>e=.normal/\a'.defers=[]/\∃va vz,a'.tmps=yh (fun i=>a'.tmps.getD i undef) (.slice (some ⟨G1,0,none⟩) N1 C1) (.slice (some ⟨G2,0,none⟩) N2 C2) va vz/\nU w.heap.size v' va vz (nA p N1 2) (nA q N2 2) (oc p A z N1 2) (oc q B z' N2 2)/\Below w.heap.size w v'):=⟨_,rfl⟩;rw[<-t];have HQ:=laid t;have Hp:=laid hp;have Hq:=laid hq;have l:=laid (fun(W:World) (b:Below w.heap.size w W)=>h1.on V1 b);have o:=laid (fun(W:World) (b:Below w.heap.size w W)=>h2.on hG2 b);have HP:=laid P1;obtain⟨i0,hi,E,G,c⟩:=info_parts I5;clear t h1 h2 hp hq;unfold ik ah yh;simp only[aj,cp];go_wp2
 go_loopw [25,26,27] (fun va vz s wr=>∃S:Nat,S<=2/\s=ii S/\Hid (nU w.heap.size wr va vz (nA p N1 S) (nA q N2 S) (oc p A z N1 S) (oc q B z' N2 S))/\Hid (Below w.heap.size w wr)) (fun _ _ s _=>2-(intOf s).toNat)
 case atStart=>exact⟨0,by omega,rfl,laid ⟨a_ _ _ _ _,a_ _ _ _ _,fun g e=>by cases e⟩,laid (ar _ _)⟩
 case round=>
  obtain⟨S,hS,rfl,HT,HB⟩:=hrel;by_cases vy:S<2
  ·have j1:(S:Int)<2:=by omega
   go_wp2
   go_loopw [25,28] (fun va i wr=>∃I:Nat,I<=N1/\i=ii I/\Hid (nU w.heap.size wr va u26 (nA p N1 S+oC (p S) I) (nA q N2 S) (oc p A z N1 S++pI (p S) A z I) (oc q B z' N2 S))/\Hid (Below w.heap.size w wr)) (fun _ i _=>N1-(intOf i).toNat)
   case atStart=>exact⟨0,by omega,rfl,laid (by rw[pI,oC,au];exact HT.out),HB⟩
   case round=>
    obtain⟨I,hI,rfl,V,F⟩:=hrel;by_cases L:I<N1
    ·obtain⟨c0,c1,c2,c3,c4,c5,c6,v,m⟩:=l.out _ F.out I L;have WO:=hy I;have j2:(I:Int)<(N1:Int):=by omega
     have q1:((y I:Nat):Int).tdiv 16=((y I/16:Nat):Int):=by rw[aB (by omega)];omega
     have g1:y I/16<=1000:=by omega
     have s1:=Dw (p S) I;have s2:=Je p N1 S;have s3:S *N1<=2 *1000:=aV (by omega) (by omega);have N:Hid (pI (p S) A z (I+1)=pI (p S) A z I++if p S I=true then Bt A z I else []):=laid rfl;have M:Hid (oC (p S) (I+1)=oC (p S) I+if p S I=true then 1 else 0):=laid rfl;go_wp2_with fail
     refine(HP.out _ (by first|exact g1|(rw[q1];exact g1)) _).mono ?_;rintro e w1 ⟨rfl,rfl⟩;by_cases h:y I/16%2=S
     ·skip
      have n:(((y I/16%2:Nat):Int)==(S:Int))=true:=by rw[h];simp
      have f1:p S I=true:=by rw[Hp.out];simpa using h
      rw[if_pos f1]at N M;go_wp2_with fail
      refine(Da _ _ _ _ _ _ _ _ _ _).mono ?_;rintro e w2 ⟨rfl,R⟩;have H:=laid ((V.out).below R);have O:Hid (Below w.heap.size w w2):=laid (F.out.trans (R.mono F.out.size));have X:w.heap.size<=w2.heap.size:=az F.out.size R.size;clear c0 c1 c2 c3 c4 c5 c6 v m R;go_wp2_with(first
       |(at_builtin;refine wpList_append_own_at _ rfl _ _ 38 rfl w.heap.size 42 i0 (.agg #[.string nS,.int .i64 0,.string nS,.int .i64 0,.string nS,.string nS,.string nS,.string nS,.string nS]) 9 128 aZ hi E G c rfl (by decide) _ _ _ rfl (H.out.a.alloc _) ⟨w2.heap.size,0,none⟩ 1 1 [.string (A I 0),ii 0,.string (A I 2),ii (z I:Nat),.string (A I 4),.string (A I 5),.string (A I 6),.string (A I 7),.string nS] rfl rfl ?c1 ?c2 ?c3 ?c4 ?c5 ?_)
       |go_in)
      case c1=>
       intro j x K
       match j,K with
       |0,K|1,K|2,K|3,K|4,K|5,K|6,K|7,K|8,K=>simp at K;subst K;simp[Addr.add,go_sem]
      case c2=>intro x Z;simp at Z;rcases Z with rfl|rfl|rfl|rfl|rfl|rfl|rfl|rfl|rfl<;>rfl
      case c3=>unfold maxLen;omega
      case c4=>omega
      case c5=>simp;omega
      intro v' wz C Y _ U;have P:Hid (Below w.heap.size w wz):=laid ((O.out.alloc X (.cells #[.string (A I 0),.int .i64 0,.string (A I 2),.int .i64 (z I:Nat),.string (A I 4),.string (A I 5),.string (A I 6),.string (A I 7),.string nS] 42)).grown Y (by simp;omega) (fun k hk=>(H.out.a.lt k hk).1));have T:=laid ((nU.mk (H.out.a.alloc (.cells #[.string (A I 0),.int .i64 0,.string (A I 2),.int .i64 (z I:Nat),.string (A I 4),.string (A I 5),.string (A I 6),.string (A I 7),.string nS] 42)) (H.out.z.alloc (.cells #[.string (A I 0),.int .i64 0,.string (A I 2),.int .i64 (z I:Nat),.string (A I 4),.string (A I 5),.string (A I 6),.string (A I 7),.string nS] 42)) H.out.ap).grow C Y (by simpa using U));clear C Y U;go_wp2
      go_roundw
      case rel=>go_light;exact⟨I+1,by omega,by go_num,laid (by rw[N.out,M.out,<-aT];exact T.out),P⟩
      case measure=>go_light;simp[intOf];omega
     ·skip
      have n:(((y I/16%2:Nat):Int)==(S:Int))=false:=by rw[beq_eq_false_iff_ne];omega
      have f1:p S I≠true:=by rw[Hp.out];simpa using h
      rw[if_neg f1]at N M;go_wp2
      go_roundw
      case rel=>go_light;exact⟨I+1,by omega,by go_num,laid (by rw[N.out,M.out,au,aU];exact V.out),F⟩
      case measure=>go_light;simp[intOf];omega
    ·have r:Hid (nU w.heap.size wr u25 u26 (nA p N1 (S+1)) (nA q N2 S) (oc p A z N1 (S+1)) (oc q B z' N2 S)):=laid (by have:=V.out;rw[show I=N1 by omega]at this;exact this);have d:=F;go_wp2
     go_loopw [26,29] (fun va i wr=>∃I:Nat,I<=N2/\i=ii I/\Hid (nU w.heap.size wr u25 va (nA p N1 (S+1)) (nA q N2 S+oC (q S) I) (oc p A z N1 (S+1)) (oc q B z' N2 S++pI (q S) B z' I))/\Hid (Below w.heap.size w wr)) (fun _ i _=>N2-(intOf i).toNat)
     case atStart=>exact⟨0,by omega,rfl,laid (by rw[pI,oC,au];exact r.out),d⟩
     case round=>
      obtain⟨I,hI,rfl,J,D⟩:=hrel;by_cases L:I<N2
      ·obtain⟨c0,c1,c2,c3,c4,c5,c6,v,m⟩:=o.out _ D.out I L;have WO:=hy' I;have j2:(I:Int)<(N2:Int):=by omega
       have q1:((y' I:Nat):Int).tdiv 16=((y' I/16:Nat):Int):=by rw[aB (by omega)];omega
       have g1:y' I/16<=1000:=by omega
       have s1:=Dw (q S) I;have s2:=Je q N2 S;have s3:S *N2<=2 *1000:=aV (by omega) (by omega);have N:Hid (pI (q S) B z' (I+1)=pI (q S) B z' I++if q S I=true then Bt B z' I else []):=laid rfl;have M:Hid (oC (q S) (I+1)=oC (q S) I+if q S I=true then 1 else 0):=laid rfl;go_wp2_with fail
       refine(HP.out _ (by first|exact g1|(rw[q1];exact g1)) _).mono ?_;rintro e w1 ⟨rfl,rfl⟩;by_cases h:y' I/16%2=S
       ·skip
        have n:(((y' I/16%2:Nat):Int) != (S:Int))=false:=by rw[h];simp
        have f1:q S I≠true:=by rw[Hq.out];simpa using h
        rw[if_neg f1]at N M;go_wp2
        go_roundw
        case rel=>go_light;exact⟨I+1,by omega,by go_num,laid (by rw[N.out,M.out,au,aU];exact J.out),D⟩
        case measure=>go_light;simp[intOf];omega
       ·skip
        have n:(((y' I/16%2:Nat):Int) != (S:Int))=true:=by rw[bne_iff_ne];omega
        have f1:q S I=true:=by rw[Hq.out];simpa using h
        rw[if_pos f1]at N M;go_wp2_with fail
        refine(Da _ _ _ _ _ _ _ _ _ _).mono ?_;rintro e w2 ⟨rfl,R⟩;have H:=laid ((J.out.swap).below R);have O:Hid (Below w.heap.size w w2):=laid (D.out.trans (R.mono D.out.size));have X:w.heap.size<=w2.heap.size:=az D.out.size R.size;clear c0 c1 c2 c3 c4 c5 c6 v m R;go_wp2_with(first
         |(at_builtin;refine wpList_append_own_at _ rfl _ _ 38 rfl w.heap.size 42 i0 (.agg #[.string nS,.int .i64 0,.string nS,.int .i64 0,.string nS,.string nS,.string nS,.string nS,.string nS]) 9 128 aZ hi E G c rfl (by decide) _ _ _ rfl (H.out.a.alloc _) ⟨w2.heap.size,0,none⟩ 1 1 [.string (B I 0),ii 0,.string (B I 2),ii (z' I:Nat),.string (B I 4),.string (B I 5),.string (B I 6),.string (B I 7),.string nS] rfl rfl ?c1 ?c2 ?c3 ?c4 ?c5 ?_)
         |go_in)
        case c1=>
         intro j x K
         match j,K with
         |0,K|1,K|2,K|3,K|4,K|5,K|6,K|7,K|8,K=>simp at K;subst K;simp[Addr.add,go_sem]
        case c2=>intro x Z;simp at Z;rcases Z with rfl|rfl|rfl|rfl|rfl|rfl|rfl|rfl|rfl<;>rfl
        case c3=>unfold maxLen;omega
        case c4=>omega
        case c5=>simp;omega
        intro v' wz C Y _ U;have P:Hid (Below w.heap.size w wz):=laid ((O.out.alloc X (.cells #[.string (B I 0),.int .i64 0,.string (B I 2),.int .i64 (z' I:Nat),.string (B I 4),.string (B I 5),.string (B I 6),.string (B I 7),.string nS] 42)).grown Y (by simp;omega) (fun k hk=>(H.out.a.lt k hk).1));have T:=laid ((nU.mk (H.out.a.alloc (.cells #[.string (B I 0),.int .i64 0,.string (B I 2),.int .i64 (z' I:Nat),.string (B I 4),.string (B I 5),.string (B I 6),.string (B I 7),.string nS] 42)) (H.out.z.alloc (.cells #[.string (B I 0),.int .i64 0,.string (B I 2),.int .i64 (z' I:Nat),.string (B I 4),.string (B I 5),.string (B I 6),.string (B I 7),.string nS] 42)) H.out.ap).grow C Y (by simpa using U));clear C Y U;go_wp2
        go_roundw
        case rel=>go_light;exact⟨I+1,by omega,by go_num,laid (by rw[N.out,M.out,<-aT];exact T.out.swap),P⟩
        case measure=>go_light;simp[intOf];omega
      ·have f:Hid (I=N2):=laid (by omega);go_wp2
       go_roundw
       case rel=>go_light;exact⟨S+1,by omega,by go_num,laid (by have:=J.out;rw[f.out]at this;exact this),D⟩
       case measure=>go_light;simp[intOf];omega
  ·have f:Hid (S=2):=laid (by omega);go_wp2
   rw[HQ.out];exact⟨rfl,rfl,_,_,by kernel_rfl,by rw[<-f.out];exact HT.out,HB.out⟩
end
section
variable{w:World}{G1 N C1 G2 C2:Nat}{A:Nat->Nat->ByteArray}{y z:Nat->Nat}
theorem aen(hN:N<=3000)(D:rI w G1 N A y z)(R:rI w G2 N A y z):Calls PR 37 #[.slice (some ⟨G1,0,none⟩) N C1,.slice (some ⟨G2,0,none⟩) N C2] w fun e w'=>e=.returned (.bool true)/\w'.heap=w.heap:=by
 have K:=laid D;have H:=laid R;clear D R
 go_enter Tryz.func37,Tryz.ntmps37
 go_wp2
 go_loopw [5] (fun i wr=>∃I d:Nat,I<=N/\i=ii I/\wr=w.drewN d) (fun i _=>N-(intOf i).toNat)
 case atStart=>exact⟨0,0,Nat.zero_le _,rfl,rfl⟩
 case round=>
  obtain⟨I,d,Q,rfl,rfl⟩:=hrel;by_cases Y:I<N
  ·have T:(I:Int)<(N:Int):=by omega
   obtain⟨c0,c1,c2,U,c4,B,c6,C,F⟩:=K.out I Y;obtain⟨J,d1,d2,d3,d4,L,M,O,P⟩:=H.out I Y;have S:∀W:World,(binOp .neq 42 (.agg #[.string (A I 0),ii (y I),.string (A I 2),ii (z I),.string (A I 4),.string (A I 5),.string (A I 6),.string (A I 7),.string (A I 8)]) (.agg #[.string (A I 0),ii (y I),.string (A I 2),ii (z I),.string (A I 4),.string (A I 5),.string (A I 6),.string (A I 7),.string (A I 8)])).run PR W=.ok (.bool false) W:=fun W=>by
    rw[(QS (A I 0) (A I 2) (A I 4) (A I 5) (A I 6) (A I 7) (A I 8) (A I 0) (A I 2) (A I 4) (A I 5) (A I 6) (A I 7) (A I 8) (y I) (z I) (y I) (z I) W).2];simp
   go_wp2
   go_quiet(fail)
   go_wp2
   go_roundw
   case rel=>go_light;exact⟨I+1,_,by omega,by go_num,rfl⟩
   case measure=>go_light;simp[intOf];omega
  ·go_wp2
   go_ret
   exact⟨rfl,rfl⟩
end
end Ph
section
open RowKit
theorem W_{w1:World}{o o':Obj}(h:((w.alloc o).alloc o').grownBy w1 (some (w.heap.size+1))):Below w.heap.size w w1:=
 Below.grown (((ar _ _).alloc (ak _) o).alloc (by simp) o') h (by simp;omega) (by simp)
theorem Y3(s:ByteArray)(w:World)(F:s.size<=maxLen):
  Calls Tryz.prog 35 #[.string s] w fun e w'=>e=.returned (.tuple #[.string (rJ s),.int .i64 (tS s)])/\Below w.heap.size w w':=by
 unfold maxLen at F;by_cases I:200<s.size
 ·have R:rJ s=⟨#[]⟩:=by unfold rJ;rw[if_pos I]
  have H:tS s=1:=by unfold tS;rw[if_pos I]
  rw[R,H];clear R H;go_wp2
  go_ret2
  exact⟨rfl,(ar _ _).alloc (ak _) _⟩
 ·by_cases D:s.data.toList.all iM=true
  ·have H:tS s=0:=by unfold tS;rw[if_neg I,if_pos D]
   rw[H];clear H;have A:=laid D;clear D
   go_enter Tryz.func35,aY
   go_wp2_with fail
   refine(Xb s w.heap.size (w.heap.size+1) (.string ⟨#[]⟩) _ (by omega) A.out (by simp[go_sem]) (by simp[go_sem]) (by simp[go_sem])).mono ?_;rintro e w1 ⟨rfl,U,B⟩;have C:w.heap.size+1<w1.heap.size:=by have:=B.size;simp at this;omega
   have Y:=W_ B;clear B;go_wp2
   go_quiet(fail)
   go_wp2
   go_ret2
   exact⟨rfl,Go.below_drewN (Y.alloc (by omega) _) _⟩
  ·rw[Bool.not_eq_true]at D;have R:rJ s=⟨#[]⟩:=by unfold rJ;rw[if_neg I,D];rfl
   have H:tS s=5:=by unfold tS;rw[if_neg I,D];rfl
   rw[R,H];clear R H;have A:=laid D;clear D
   go_enter Tryz.func35,aY
   go_wp2_with fail
   refine(WZ s w.heap.size (w.heap.size+1) _ (by omega) A.out (by simp[go_sem])).mono ?_;rintro e w1 ⟨⟨p,rfl⟩,K⟩;have C:w.heap.size+1<w1.heap.size:=by have:=K.size;simp at this;omega
   have U:w1.cell? ⟨w.heap.size+1,0,none⟩=some (.string ⟨#[]⟩):=by
    rw[K.cell (by simp)];simp[go_sem]
   have Y:Below w.heap.size w w1:=(((ar _ _).alloc (ak _) _).alloc (by simp) _).trans (K.mono (by simp;omega));clear K;go_wp2
   go_quiet(fail)
   go_wp2
   go_ret2
   exact⟨rfl,Go.below_drewN (Y.alloc (by omega) _) _⟩
def xC(x P:List UInt8)(h:Nat×Nat×Nat):List Value:=[.string (str [97]),.int .i64 (0:Nat),.string (str [114]),.int .i64 (h.1+1:Nat),.string (str (py (str (iA (str P) ((str x).extract h.1 h.2.1))))),.string (str (gR h.2.2)),.string (str (oS (str P) ((str x).extract h.1 h.2.1) (str (iA (str P) ((str x).extract h.1 h.2.1))))),.string (str P),.string nS]
section
variable{x b:List UInt8}{n:Nat}
theorem JO{q:pH}(h:(iw x b n)[i]?=some q):ny x b n i=Br x b i q:=by
 have Y:iw x b n≠ []:=fun e=>by rw[e]at h;simp at h
 rw[ny,if_neg Y,aJ,h];rfl
theorem agw{q:pH}(h:(iw x b n)[i]?=some q):Ph.Bt (jG x b n) (fun i=>iI x b n i 3) i=xC x (mh b q.1) q.2:=by
 unfold Ph.Bt jG iI;dsimp only;rw[JO h];rfl
theorem CS{q:pH}(h:(iw x b n)[i]?=some q):iI x b n i 1/16%2=q.1:=by
 have Y:=(za (aP h)).1;unfold iI;rw[JO h];show((nT q.1 i:Nat):Int).toNat/16%2=q.1
 unfold nT;split<;>omega
theorem Q9(f:Nat->Bool)(g:pH->Bool)(K:∀i q,(iw x b n)[i]?=some q->f i=g q):∀i,i<=(iw x b n).length->Ph.pI f (jG x b n) (fun i=>iI x b n i 3) i=(((iw x b n).take i).filter g).flatMap (fun q=>xC x (mh b q.1) q.2)/\Ph.oC f i=(((iw x b n).take i).filter g).length
 |0,_=>by simp[Ph.pI,Ph.oC]
 |i+1,R=>by
  obtain⟨H,D⟩:=Q9 f g K i (by omega);obtain⟨q,Y⟩:∃q,(iw x b n)[i]?=some q:=⟨_,ax (by omega)⟩;rw[Ph.pI,Ph.oC,H,D,K i q Y,List.take_add_one,Y,agw Y];cases e:g q<;>simp[e]
theorem Dx(f:Nat->Bool)(g:pH->Bool)(Y:∀i q,(iw x b n)[i]?=some q->f i=g q):Ph.pI f (jG x b n) (fun i=>iI x b n i 3) (iw x b n).length=((iw x b n).filter g).flatMap (fun q=>xC x (mh b q.1) q.2)/\Ph.oC f (iw x b n).length=((iw x b n).filter g).length:=by
 have:=Q9 f g Y _ (ak _);rw[List.take_length]at this;exact this
end
theorem CU(Y K:List (Nat×Nat×Nat))(g:Nat->Bool):(Y.map (Prod.mk 0)++K.map (Prod.mk 1)).filter (fun q:pH=>g q.1)=(if g 0=true then Y.map (Prod.mk 0)else [])++(if g 1=true then K.map (Prod.mk 1)else []):=by
 have D:(Y.map (Prod.mk 0)).filter (fun q:pH=>g q.1)=if g 0=true then Y.map (Prod.mk 0)else []:=by
  induction Y with
  |nil=>simp
  |cons a L H=>rw[aM,aD,H];cases g 0<;>simp
 have R:(K.map (Prod.mk 1)).filter (fun q:pH=>g q.1)=if g 1=true then K.map (Prod.mk 1)else []:=by
  induction K with
  |nil=>simp
  |cons a L H=>rw[aM,aD,H];cases g 1<;>simp
 rw[List.filter_append,D,R]
def mz(x b:List UInt8)(n:Nat):List (List UInt8×Nat×Nat×Nat):=(iE (str b) (str x) n).map (Prod.mk b)++(iE (str (iN b)) (str x) n).map (Prod.mk (iN b))
def vh(x b:List UInt8)(n:Nat):List Value:=(mz x b n).flatMap fun q=>xC x q.1 q.2
theorem aeo{b:List UInt8}:Ph.oc (fun s i=>decide (iI x b n i 1/16%2=s)) (jG x b n) (fun i=>iI x b n i 3) (iw x b n).length 2=vh x b n/\Ph.nA (fun s i=>decide (iI x b n i 1/16%2=s)) (iw x b n).length 2=(mz x b n).length:=by
 have Y:=Dx (x:=x) (b:=b) (n:=n) (fun i=>decide (iI x b n i 1/16%2=0)) (fun q=>decide (q.1=0)) fun i q h=>by rw[CS h]
 have K:=Dx (x:=x) (b:=b) (n:=n) (fun i=>decide (iI x b n i 1/16%2=1)) (fun q=>decide (q.1=1)) fun i q h=>by rw[CS h]
 rw[show(iw x b n).filter (fun q=>decide (q.1=0))=_ from CU _ _ (fun k=>decide (k=0))]at Y;rw[show(iw x b n).filter (fun q=>decide (q.1=1))=_ from CU _ _ (fun k=>decide (k=1))]at K;simp only[Ph.oc,Ph.nA,Y.1,Y.2,K.1,K.2,vh,mz];simp[mh,aI]
theorem acd{b:List UInt8}(D:∀c∈b,gP c):Ph.oc (fun s i=>!decide (iI x (iN b) n i 1/16%2=s)) (jG x (iN b) n) (fun i=>iI x (iN b) n i 3) (iw x (iN b) n).length 2=vh x b n/\Ph.nA (fun s i=>!decide (iI x (iN b) n i 1/16%2=s)) (iw x (iN b) n).length 2=(mz x b n).length:=by
 have Y:=Dx (x:=x) (b:=iN b) (n:=n) (fun i=>!decide (iI x (iN b) n i 1/16%2=0)) (fun q=>!decide (q.1=0)) fun i q h=>by rw[CS h]
 have K:=Dx (x:=x) (b:=iN b) (n:=n) (fun i=>!decide (iI x (iN b) n i 1/16%2=1)) (fun q=>!decide (q.1=1)) fun i q h=>by rw[CS h]
 rw[show(iw x (iN b) n).filter (fun q=>!decide (q.1=0))=_ from CU _ _ (fun k=>!decide (k=0))]at Y;rw[show(iw x (iN b) n).filter (fun q=>!decide (q.1=1))=_ from CU _ _ (fun k=>!decide (k=1))]at K;simp only[Ph.oc,Ph.nA,Y.1,Y.2,K.1,K.2,vh,mz];simp[mh,aI,flip_flip D]
theorem D_(x b:List UInt8)(n:Nat):(iw x b n).length=(mz x b n).length:=by simp[iw,mz,mh]
theorem Sd{b:List UInt8}(Y:∀c∈b,gP c):(iw x (iN b) n).length=(mz x b n).length:=by
 simp[iw,mz,mh,flip_flip Y];omega
theorem agx{b:List UInt8}(D:∀c∈b,gP c):(iw x (iN b) n=[]↔iw x b n=[])/\nX x (iN b) n=nX x b n:=by
 have K:=D_ x b n;have H:=Sd (x:=x) (n:=n) D;have Y:iw x (iN b) n=[]↔iw x b n=[]:=by rw[<-aK,<-aK,K,H]
 refine⟨Y,?_⟩;unfold nX;by_cases h:iw x b n=[]
 ·rw[if_pos h,if_pos (Y.2 h)]
 ·rw[if_neg h,if_neg (fun e=>h (Y.1 e)),K,H]
theorem P4{α:Type}(g:α->List Value)(Y:∀q,(g q).length=9):∀{L:List α} {i j:Nat} {q:α},L[i]?=some q->j<9->(L.flatMap g)[i *9+j]?=(g q)[j]?
 |[],i,j,q,h,_=>by simp at h
 |a::L,0,j,q,h,K=>by
  cases h;rw[aH,List.getElem?_append_left (by rw[Y];omega),aX,aW]
 |a::L,i+1,j,q,h,K=>by
  rw[aH,List.getElem?_append_right (by rw[Y];omega),Y,show(i+1) *9+j-9=i *9+j by omega];exact P4 g Y h K
def UD(x b:List UInt8)(n i c:Nat):ByteArray:=match(xC x ((mz x b n).getD i ([],0,0,0)).1 ((mz x b n).getD i ([],0,0,0)).2)[c]? with
 |some (.string s)=>s
 |_=>nS
theorem P5{v:Value}{b:List UInt8}(o:w.ownsRow H 42 9 v (mz x b n).length (vh x b n))(F:1<=(mz x b n).length):∃G C,v=.slice (some ⟨G,0,none⟩) (mz x b n).length C/\Ph.rI w G (mz x b n).length (UD x b n) (fun _=>0) (fun i=>((mz x b n).getD i ([],0,0,0)).2.1+1):=by
 rcases o.2 with⟨_,U⟩|⟨g,cap,K,rfl,B,D,J,L,M,R⟩
 ·omega
 ·refine⟨g,cap,rfl,fun i I=>?_⟩;obtain⟨q,Y⟩:∃q,(mz x b n)[i]?=some q:=⟨_,ax I⟩;have hd:(mz x b n).getD i ([],0,0,0)=q:=by rw[aJ,Y];rfl
  have k:∀j,j<9->w.cell? ⟨g,i *9+j,none⟩=(xC x q.1 q.2)[j]?:=fun j A=>by
   rw[<-P4 (fun q:List UInt8×Nat×Nat×Nat=>xC x q.1 q.2) (fun _=>rfl) Y A];show _=(vh x b n)[i *9+j]?
   rw[<-R,List.getElem?_take_of_lt (by omega),Array.getElem?_toList];simp[ao,D]
  unfold UD;dsimp only;rw[hd];exact⟨k 0 (by omega),k 1 (by omega),k 2 (by omega),k 3 (by omega),k 4 (by omega),k 5 (by omega),k 6 (by omega),k 7 (by omega),k 8 (by omega)⟩
end
namespace Ph
open Conc Ren RowKit
structure Gp where
 (k n E:Int) (o:Value) (b:Nat) (x0 X RF b0 B C RD RE S1 S2:ByteArray)
def nV(y:Gp)(m:Nat):Array Value:=#[.tuple #[],.tuple #[],ii y.k,y.o,undef,undef,undef,ptr y.b,.bool false,.bool true,.string y.RF,kp 2 m (.string y.B),kp 5 m (ii y.n),kp 8 m (.string y.C),kp 8 m (ii 0),kp 11 m (.string y.B),kp 11 m (ii 0),kp 12 m (.string y.S1),kp 12 m (ii y.E),kp 13 m (.string y.S2),kp 13 m (ii y.E),undef,undef,undef,undef,undef,undef,undef,undef,undef,.bool true,.bool true,.bool false,.tuple #[],.string y.x0,.string y.X,.string y.RF,.tuple #[],.string y.b0,kp 1 m (.string y.B),kp 3 m (ii y.k),kp 4 m (ii y.n),kp 8 m (.tuple #[.string y.C,ii 0]),kp 6 m (.string y.B),kp 7 m (.tuple #[.string y.C,ii 0]),kp 8 m (.string y.C),kp 8 m (ii 0),kp 11 m (.tuple #[.string y.B,ii 0]),kp 9 m (.string y.C),kp 10 m (.tuple #[.string y.B,ii 0]),kp 11 m (.string y.B),kp 11 m (ii 0),kp 12 m (.tuple #[.string y.S1,ii y.E]),kp 12 m (.string y.RF),kp 12 m (.string y.B),kp 12 m (.string y.RD),kp 12 m (ii y.n),kp 12 m (y.o),kp 12 m (.tuple #[.string y.S1,ii y.E]),kp 12 m (.string y.S1),kp 12 m (ii y.E),kp 13 m (.tuple #[.string y.S2,ii y.E]),kp 13 m (.string y.RF),kp 13 m (.string y.B),kp 13 m (.string y.C),kp 13 m (.string y.RE),kp 13 m (ii y.n),kp 13 m (y.o),kp 13 m (.tuple #[.string y.S2,ii y.E]),kp 13 m (.string y.S2),kp 13 m (ii y.E),undef,undef,undef,undef,undef,undef,undef,undef,undef,undef,undef,undef,undef,undef,undef,undef,undef,undef,undef,undef,undef,undef,undef,undef,undef,undef,undef,undef,undef,undef,undef,undef,undef,undef,undef,undef,undef,undef,undef,undef,undef,undef,undef,undef,undef,undef,undef,undef,undef,undef,undef,undef,undef,undef,undef,undef,undef,undef,undef,undef,undef,undef,undef,undef,undef,undef,undef,undef,undef,undef,undef,undef,undef,undef,undef,undef,undef,undef,undef,undef,undef,undef,undef,undef,undef,undef,undef,undef,undef,undef,undef,undef,undef,undef,undef,undef,undef,undef,undef,undef,undef,undef,undef,undef,undef,undef,undef,undef,undef,undef,undef,undef,undef,undef,undef,undef,undef,undef,undef]
def oI(u:Nat->Value)(n:Int)(B C S1 S2:ByteArray)(E:Int):Array Value:=#[u 0,u 1,u 2,u 3,u 4,u 5,u 6,u 7,u 8,u 9,u 10,.string B,ii n,.string C,ii 0,.string B,ii 0,.string S1,ii E,.string S2,ii E,u 21,u 22,u 23,u 24,u 25,u 26,u 27,u 28,u 29,u 30,u 31,u 32,u 33,u 34,u 35,u 36,u 37,u 38,u 39,u 40,u 41,u 42,u 43,u 44,u 45,u 46,u 47,u 48,u 49,u 50,u 51,u 52,u 53,u 54,u 55,u 56,u 57,u 58,u 59,u 60,u 61,u 62,u 63,u 64,u 65,u 66,u 67,u 68,u 69,u 70,u 71,u 72,u 73,u 74,u 75,u 76,u 77,u 78,u 79,u 80,u 81,u 82,u 83,u 84,u 85,u 86,u 87,u 88,u 89,u 90,u 91,u 92,u 93,u 94,u 95,u 96,u 97,u 98,u 99,u 100,u 101,u 102,u 103,u 104,u 105,u 106,u 107,u 108,u 109,u 110,u 111,u 112,u 113,u 114,u 115,u 116,u 117,u 118,u 119,u 120,u 121,u 122,u 123,u 124,u 125,u 126,u 127,u 128,u 129,u 130,u 131,u 132,u 133,u 134,u 135,u 136,u 137,u 138,u 139,u 140,u 141,u 142,u 143,u 144,u 145,u 146,u 147,u 148,u 149,u 150,u 151,u 152,u 153,u 154,u 155,u 156,u 157,u 158,u 159,u 160,u 161,u 162,u 163,u 164,u 165,u 166,u 167,u 168,u 169,u 170,u 171,u 172,u 173,u 174,u 175,u 176,u 177,u 178,u 179,u 180,u 181,u 182,u 183,u 184,u 185,u 186,u 187,u 188,u 189]
def Cf(u:Nat->Value)(S1 S2:ByteArray)(L M:Value)(m:Nat):Array Value:=#[u 0,u 1,u 2,u 3,u 4,u 5,u 6,u 7,u 8,u 9,u 10,u 11,u 12,u 13,u 14,u 15,u 16,.string S1,u 18,.string S2,u 20,kq 3 m (L) (u 21),kq 3 m (.bool true) (u 22),kq 6 m (M) (u 23),kq 6 m (.bool true) (u 24),u 25,u 26,u 27,u 28,u 29,u 30,u 31,u 32,u 33,u 34,u 35,u 36,u 37,u 38,u 39,u 40,u 41,u 42,u 43,u 44,u 45,u 46,u 47,u 48,u 49,u 50,u 51,u 52,u 53,u 54,u 55,u 56,u 57,u 58,u 59,u 60,u 61,u 62,u 63,u 64,u 65,u 66,u 67,u 68,u 69,u 70,u 71,u 72,u 73,u 74,u 75,u 76,u 77,u 78,u 79,u 80,u 81,u 82,u 83,u 84,u 85,u 86,u 87,u 88,u 89,u 90,u 91,u 92,u 93,u 94,u 95,u 96,u 97,u 98,kq 3 m (.tuple #[L,.bool true]) (u 99),kq 1 m (.string S1) (u 100),kq 2 m (.tuple #[L,.bool true]) (u 101),kq 3 m (L) (u 102),kq 3 m (.bool true) (u 103),kq 6 m (.tuple #[M,.bool true]) (u 104),kq 4 m (.string S2) (u 105),kq 5 m (.tuple #[M,.bool true]) (u 106),kq 6 m (M) (u 107),kq 6 m (.bool true) (u 108),u 109,u 110,u 111,u 112,u 113,u 114,u 115,u 116,u 117,u 118,u 119,u 120,u 121,u 122,u 123,u 124,u 125,u 126,u 127,u 128,u 129,u 130,u 131,u 132,u 133,u 134,u 135,u 136,u 137,u 138,u 139,u 140,u 141,u 142,u 143,u 144,u 145,u 146,u 147,u 148,u 149,u 150,u 151,u 152,u 153,u 154,u 155,u 156,u 157,u 158,u 159,u 160,u 161,u 162,u 163,u 164,u 165,u 166,u 167,u 168,u 169,u 170,u 171,u 172,u 173,u 174,u 175,u 176,u 177,u 178,u 179,u 180,u 181,u 182,u 183,u 184,u 185,u 186,u 187,u 188,u 189]
def pU(u:Nat->Value)(L M:Value):Array Value:=#[u 0,u 1,u 2,u 3,u 4,u 5,u 6,u 7,u 8,u 9,u 10,u 11,u 12,u 13,u 14,u 15,u 16,u 17,u 18,u 19,u 20,L,.bool true,M,.bool true,u 25,u 26,u 27,u 28,u 29,u 30,u 31,u 32,u 33,u 34,u 35,u 36,u 37,u 38,u 39,u 40,u 41,u 42,u 43,u 44,u 45,u 46,u 47,u 48,u 49,u 50,u 51,u 52,u 53,u 54,u 55,u 56,u 57,u 58,u 59,u 60,u 61,u 62,u 63,u 64,u 65,u 66,u 67,u 68,u 69,u 70,u 71,u 72,u 73,u 74,u 75,u 76,u 77,u 78,u 79,u 80,u 81,u 82,u 83,u 84,u 85,u 86,u 87,u 88,u 89,u 90,u 91,u 92,u 93,u 94,u 95,u 96,u 97,u 98,u 99,u 100,u 101,u 102,u 103,u 104,u 105,u 106,u 107,u 108,u 109,u 110,u 111,u 112,u 113,u 114,u 115,u 116,u 117,u 118,u 119,u 120,u 121,u 122,u 123,u 124,u 125,u 126,u 127,u 128,u 129,u 130,u 131,u 132,u 133,u 134,u 135,u 136,u 137,u 138,u 139,u 140,u 141,u 142,u 143,u 144,u 145,u 146,u 147,u 148,u 149,u 150,u 151,u 152,u 153,u 154,u 155,u 156,u 157,u 158,u 159,u 160,u 161,u 162,u 163,u 164,u 165,u 166,u 167,u 168,u 169,u 170,u 171,u 172,u 173,u 174,u 175,u 176,u 177,u 178,u 179,u 180,u 181,u 182,u 183,u 184,u 185,u 186,u 187,u 188,u 189]
def Gq (p:List Nat):Array Oper:=opsOf (cp p ik)
theorem Q_:(Gq [2,2,2,2,2,2,2,2,1]).size=11/\(Gq [2,2,2,2,2,2,2,2,2,1]).size=12:=⟨by kernel_rfl,by kernel_rfl⟩
section
variable{y:Gp}{Q:QT}{v:World}{q1 t1 w1:Int}
theorem ace(T:y.b0.size<=50)(O:(⟨#[67]⟩:ByteArray)++y.b0=y.B)(hk:k_ y.k)(U:y.n=(kN y.k 4:Nat))(J:y.o=.agg #[ii q1,ii t1,ii w1])(c1:v.heap[y.b]?=some (.cells #[ii q1,ii t1,ii w1] 28))
  (f1:∀u,Kw v u->gW Q 35 #[.string y.B] u fun z v'=>z=.tuple #[.string y.C,ii 0]/\Kw v v')(D:∀u,Kw v u->gW Q 35 #[.string y.C] u fun z v'=>z=.tuple #[.string y.B,ii 0]/\Kw v v')
  (f2:∀u,Kw v u->gW Q 24 #[.string y.B] u fun z v'=>z=.string y.RD/\Kw v v')(R:∀u,Kw v u->gW Q 24 #[.string y.C] u fun z v'=>z=.string y.RE/\Kw v v')(f5:∀u,Kw v u->gW Q 21 #[.string y.B] u fun z v'=>z=.string y.C/\Kw v v')(P:∀u,Kw v u->gW Q 22 #[.string y.RF,.string y.RD,ii y.n,y.o] u fun z v'=>z=.tuple #[.string y.S1,ii y.E]/\Kw v v')(S:∀u,Kw v u->gW Q 22 #[.string y.RF,.string y.RE,ii y.n,y.o] u fun z v'=>z=.tuple #[.string y.S2,ii y.E]/\Kw v v')
  (g:∀v',Kw v v'->GW true Q (fun y v'=>y=.bool true/\Kw v v') 12 [.code (cp [2,2,2,2,2,2,2,2,2,2] ik)] (nV y 13) v'):GW true Q (fun y v'=>y=.bool true/\Kw v v') 12 (jJ [2,2,2,2] [2,3]) (nV y 0) v:=by
 have Y:∃F,PR.funcs[12]?=some F:=⟨_,aA⟩;have Z:=wN y.k (show 0<4 by decide);refine GW.cat Y (.const (.string ⟨#[67]⟩)) (.tmp 38) (x:=⟨#[67]⟩) (y:=y.b0) (by have:(⟨#[67]⟩:ByteArray).size=1:=rfl;omega) ?_;rw[O];refine GW.to (nV y 1) ?_;refine ae Y [3] ?_;refine GW.to (nV y 2) ?_;refine GW.run 3 (k':=jJ [2,2,2,2,2] [0,1,2]) ?_;refine ae Y [0] ?_;refine GW.to (nV y 3) ?_;refine GW.call Y (y_ (n:=4) hk (by omega) (by omega) (.refl v)) ?_;rintro z v1 ⟨rfl,L⟩;rw[<-U];refine GW.to (nV y 4) ?_;refine ae Y [2] ?_;refine GW.to (nV y 5) ?_;refine GW.run 3 (k':=jJ [2,2,2,2,2,2] [0,1,2,3,4,5,6]) ?_;refine ae Y [0] ?_;refine GW.to (nV y 6) ?_;refine GW.call Y (f1 _ L) ?_;rintro z v2 ⟨rfl,M⟩;refine GW.to (nV y 7) ?_;refine ae Y [2,3,4,5,6] ?_;refine GW.to (nV y 8) ?_;refine GW.run 3 (k':=jJ [2,2,2,2,2,2,2] [0,1,2,3,4,5,6]) ?_;refine ae Y [0] ?_;refine GW.to (nV y 9) ?_;refine GW.call Y (D _ M) ?_;rintro z v3 ⟨rfl,N⟩;refine GW.to (nV y 10) ?_;refine ae Y [2,3,4,5,6] ?_;refine GW.to (nV y 11) ?_;refine GW.run 2 (k':=[.code (.region 9 (Gq [2,2,2,2,2,2,2,2,1]) true),.code (cp [2,2,2,2,2,2,2,2,2] ik)]) ?_;refine GW.zy (A:=nV y 12) (Kw v) N [0,1,3,6,7,8,9,10] ?_ ?_ Y
 ·intro i H U;rw[Q_.1]at H;have:i=2\/i=4\/i=5:=by simp at U;omega
  rcases this with rfl|rfl|rfl
  ·exact .call Y f2
  ·exact .ld Y fun u K=>⟨(Bf (K.at c1)).trans (by rw[<-J]),K⟩
  ·exact .call Y P
 intro v4 V;refine GW.run 2 (k':=[.code (.region 10 (Gq [2,2,2,2,2,2,2,2,2,1]) true),.code (cp [2,2,2,2,2,2,2,2,2,2] ik)]) ?_;refine GW.zy (A:=nV y 13) (Kw v) V [0,1,4,7,8,9,10,11] ?_ ?_ Y
 ·intro i H I;rw[Q_.2]at H;have:i=2\/i=3\/i=5\/i=6:=by simp at I;omega
  rcases this with rfl|rfl|rfl|rfl
  ·exact .call Y f5
  ·exact .call Y R
  ·exact .ld Y fun u K=>⟨(Bf (K.at c1)).trans (by rw[<-J]),K⟩
  ·exact .call Y S
 intro v5 X;refine GW.run 1 (k':=[.code (cp [2,2,2,2,2,2,2,2,2,2] ik)]) ?_;exact g v5 X
end
section
variable{w:World}{u:Nat->Value}{n:Nat}{B C S1 S2:ByteArray}{E:Int}{L M:Value}{G1 G2 N C1 C2:Nat}
theorem SZ(U:B.size<=100)(R:g_ B 0=C):(cp [2,2,2,2,2,2,2,2,2,2,1,1] ik).wp PR (fun e a' v'=>e=.normal/\a'.defers=[]/\(a'.tmps=oI (fun i=>a'.tmps.getD i undef) n B C S1 S2 E/\a'.tmps.getD 92 undef=.bool false)/\v'.heap=w.heap) ⟨oI u n B C S1 S2 E,[]⟩ w:=by
 obtain⟨Q,Y⟩:∃Q:Exit->Act->World->Prop,Q=(fun e a' v'=>e=.normal/\a'.defers=[]/\(a'.tmps=oI (fun i=>a'.tmps.getD i undef) n B C S1 S2 E/\a'.tmps.getD 92 undef=.bool false)/\v'.heap=w.heap):=⟨_,rfl⟩;rw[<-Y];have D:=laid Y;clear Y;unfold ik ah oI;simp only[aj,cp];have K:=fun W=>Hk B W (by omega);rw[R]at K;have H:=laid K;clear K;go_wp2_with fail
 refine(H.out _).mono ?_;rintro e w1 ⟨rfl,rfl⟩;go_wp2
 rw[D.out];exact⟨rfl,rfl,⟨by kernel_rfl,rfl⟩,rfl⟩
theorem S0{t:Bool}(h:E=0/\t=false\/E=4/\t=true):(cp [2,2,2,2,2,2,2,2,2,2,2,1,1] ik).wp PR (fun e a' v'=>e=.normal/\a'.defers=[]/\(a'.tmps=oI (fun i=>a'.tmps.getD i undef) n B C S1 S2 E/\a'.tmps.getD 94 undef=.bool t)/\v'.heap=w.heap) ⟨oI u n B C S1 S2 E,[]⟩ w:=by
 obtain⟨Q,Y⟩:∃Q:Exit->Act->World->Prop,Q=(fun e a' v'=>e=.normal/\a'.defers=[]/\(a'.tmps=oI (fun i=>a'.tmps.getD i undef) n B C S1 S2 E/\a'.tmps.getD 94 undef=.bool t)/\v'.heap=w.heap):=⟨_,rfl⟩;rw[<-Y];have K:=laid Y;clear Y;unfold ik ah oI;simp only[aj,cp];rcases h with⟨rfl,rfl⟩|⟨rfl,rfl⟩
 all_goals
  go_wp2
  rw[K.out];exact⟨rfl,rfl,⟨by kernel_rfl,rfl⟩,rfl⟩
theorem aip(h:B.size<=n)(D:n<=100):(cp [2,2,2,2,2,2,2,2,2,2,2,1,2,1,1] ik).wp PR (fun e a' v'=>e=.normal/\a'.defers=[]/\a'.tmps.getD 8 undef=.bool true/\v'.heap=w.heap) ⟨oI u n B C S1 S2 E,[]⟩ w:=by
 obtain⟨Q,Y⟩:∃Q:Exit->Act->World->Prop,Q=(fun e a' v'=>e=.normal/\a'.defers=[]/\a'.tmps.getD 8 undef=.bool true/\v'.heap=w.heap):=⟨_,rfl⟩;rw[<-Y];have K:=laid Y;clear Y;unfold ik ah oI;simp only[aj,cp];have d1:(B.size:Int)<=(n:Int):=by omega
 go_wp2
 rw[K.out];exact⟨rfl,rfl,rfl,rfl⟩
theorem aiq:(cp [2,2,2,2,2,2,2,2,2,2,2,2,2,2,1,1] ik).wp PR (fun e a' v'=>e=.normal/\a'.defers=[]/\(a'.tmps=pU (fun i=>a'.tmps.getD i undef) (.slice (some ⟨G1,0,none⟩) N C1) (.slice (some ⟨G2,0,none⟩) N C2)/\a'.tmps.getD 121 undef=.bool false)/\v'.heap=w.heap) ⟨pU u (.slice (some ⟨G1,0,none⟩) N C1) (.slice (some ⟨G2,0,none⟩) N C2),[]⟩ w:=by
 obtain⟨Q,Y⟩:∃Q:Exit->Act->World->Prop,Q=(fun e a' v'=>e=.normal/\a'.defers=[]/\(a'.tmps=pU (fun i=>a'.tmps.getD i undef) (.slice (some ⟨G1,0,none⟩) N C1) (.slice (some ⟨G2,0,none⟩) N C2)/\a'.tmps.getD 121 undef=.bool false)/\v'.heap=w.heap):=⟨_,rfl⟩;rw[<-Y];have K:=laid Y;clear Y;unfold ik ah pU;simp only[aj,cp];go_wp2
 rw[K.out];exact⟨rfl,rfl,⟨by kernel_rfl,rfl⟩,rfl⟩
theorem S3{t:Bool}{f:Nat}(hN:1<=N)(c:w.cell? ⟨G1,1,none⟩=some (ii f))(h:N=1/\f=4/\t=true\/f≠4/\t=false):(cp [2,2,2,2,2,2,2,2,2,2,2,2,2,2,2,1,1] ik).wp PR (fun e a' v'=>e=.normal/\a'.defers=[]/\(a'.tmps=pU (fun i=>a'.tmps.getD i undef) (.slice (some ⟨G1,0,none⟩) N C1) (.slice (some ⟨G2,0,none⟩) N C2)/\a'.tmps.getD 131 undef=.bool t)/\v'.heap=w.heap) ⟨pU u (.slice (some ⟨G1,0,none⟩) N C1) (.slice (some ⟨G2,0,none⟩) N C2),[]⟩ w:=by
 obtain⟨Q,K⟩:∃Q:Exit->Act->World->Prop,Q=(fun e a' v'=>e=.normal/\a'.defers=[]/\(a'.tmps=pU (fun i=>a'.tmps.getD i undef) (.slice (some ⟨G1,0,none⟩) N C1) (.slice (some ⟨G2,0,none⟩) N C2)/\a'.tmps.getD 131 undef=.bool t)/\v'.heap=w.heap):=⟨_,rfl⟩;rw[<-K];have Y:=laid K;clear K;unfold ik ah pU;simp only[aj,cp];rcases h with⟨rfl,rfl,rfl⟩|⟨h,rfl⟩
 ·go_wp2
  rw[Y.out];exact⟨rfl,rfl,⟨by kernel_rfl,rfl⟩,rfl⟩
 ·have d1:((f:Int)==4)=false:=by rw[beq_eq_false_iff_ne];omega
  by_cases H:N=1
  ·subst H;go_wp2
   rw[Y.out];exact⟨rfl,rfl,⟨by kernel_rfl,rfl⟩,rfl⟩
  ·have d2:((N:Int)==1)=false:=by rw[beq_eq_false_iff_ne];omega
   go_wp2
   rw[Y.out];exact⟨rfl,rfl,⟨by kernel_rfl,rfl⟩,rfl⟩
theorem air(hN:1<=N)(c:w.cell? ⟨G2,1,none⟩=some (ii 4)):(cp [2,2,2,2,2,2,2,2,2,2,2,2,2,2,2,1,2,1,1] ik).wp PR (fun e a' v'=>e=.normal/\a'.defers=[]/\a'.tmps.getD 8 undef=.bool true/\v'.heap=w.heap) ⟨pU u (.slice (some ⟨G1,0,none⟩) N C1) (.slice (some ⟨G2,0,none⟩) N C2),[]⟩ w:=by
 obtain⟨Q,Y⟩:∃Q:Exit->Act->World->Prop,Q=(fun e a' v'=>e=.normal/\a'.defers=[]/\a'.tmps.getD 8 undef=.bool true/\v'.heap=w.heap):=⟨_,rfl⟩;rw[<-Y];have K:=laid Y;clear Y;unfold ik ah pU;simp only[aj,cp];have d1:(0:Int)<(N:Int):=by omega
 go_wp2
 rw[K.out];exact⟨rfl,rfl,rfl,rfl⟩
end
theorem agy{p:Addr}(k:Kw v w)(h:p.block<v.heap.size):w.cell? p=v.cell? p:=by simp only[ao];rw[k _ h]
section
variable{y:Gp}{Q:QT}{v v0:World}{n:Nat}
theorem aep(V:y.n=(n:Nat))(U:n<=100)(J:y.B.size<=100)(O:g_ y.B 0=y.C)(P:y.E=4)(S:y.B.size<=n)(Z:Kw v0 v):
  GW true Q (fun y v'=>y=.bool true/\Kw v0 v') 12 [.code (cp [2,2,2,2,2,2,2,2,2,2] ik)] (nV y 13) v:=by
 have Y:∃F,PR.funcs[12]?=some F:=⟨_,aA⟩;refine GW.run 2 (k':=[.code (cp [2,2,2,2,2,2,2,2,2,2,1,1] ik),.code (cp [2,2,2,2,2,2,2,2,2,2,1,2] ik),.code (cp [2,2,2,2,2,2,2,2,2,2,2] ik)]) ?_;refine GW.any (fun u=>oI u y.n y.B y.C y.S1 y.S2 y.E) (by kernel_rfl) fun u=>?_;rw[V];refine af Y (by kernel_rfl) (R1:=fun a' w'=>(a'=oI (fun i=>a'.getD i undef) n y.B y.C y.S1 y.S2 y.E/\a'.getD 92 undef=.bool false)/\w'.heap=v.heap) rfl (fun T=>SZ (w:=tp v T) J O) ?_;rintro a1 v2 ⟨⟨K,ed⟩,R⟩;refine GW.run 0 (k':=[.code (.cond (.tmp 92) (cp [2,2,2,2,2,2,2,2,2,2,1,2,1] ik) .skip),.code (cp [2,2,2,2,2,2,2,2,2,2,2] ik)]) ?_;refine ai Y (t:=false) trivial ed ?_;rw[K];generalize(fun i=>a1.getD i undef)=u1;clear K ed;refine GW.run 3 (k':=[.code (cp [2,2,2,2,2,2,2,2,2,2,2,1,1] ik),.code (cp [2,2,2,2,2,2,2,2,2,2,2,1,2] ik),.code (cp [2,2,2,2,2,2,2,2,2,2,2,2] ik)]) ?_;refine af Y (by kernel_rfl) (R1:=fun a' w'=>(a'=oI (fun i=>a'.getD i undef) n y.B y.C y.S1 y.S2 y.E/\a'.getD 94 undef=.bool true)/\w'.heap=v2.heap) rfl (fun T=>S0 (w:=tp v2 T) (.inr ⟨P,rfl⟩)) ?_;rintro a3 v3 ⟨⟨H,d3⟩,I⟩;refine GW.run 0 (k':=[.code (.cond (.tmp 94) (cp [2,2,2,2,2,2,2,2,2,2,2,1,2,1] ik) .skip),.code (cp [2,2,2,2,2,2,2,2,2,2,2,2] ik)]) ?_;refine ai Y (t:=true) trivial d3 ?_;refine GW.run 1 (k':=[.code (cp [2,2,2,2,2,2,2,2,2,2,2,1,2,1,1] ik),.code .ret,.code (cp [2,2,2,2,2,2,2,2,2,2,2,2] ik)]) ?_;rw[H];refine af Y (by kernel_rfl) (R1:=fun a' w'=>a'.getD 8 undef=.bool true/\w'.heap=v3.heap) rfl (fun T=>aip (w:=tp v3 T) S U) ?_;rintro a4 v4 ⟨D,A⟩;exact GW.zB Y 8 ⟨D,Z.trans fun a L=>by rw[A,I,R]⟩
theorem aeq{b:List UInt8}(r:x.length<=200)(kb:∀c∈b,gP c)(hn:y.n=(n:Nat))(hB:y.B.size<=100)(hC:g_ y.B 0=y.C)(hE:y.E=0)(f1:∀u,Kw v0 u->gW Q 25 #[.string y.S1] u fun z v'=>∃l,z=.tuple #[l,.bool true]/\v'.ownsRow u.heap.size 42 9 l (js x b n).length (nM (js x b n))/\Kw u v')(f2:∀u,Kw v0 u->gW Q 25 #[.string y.S2] u fun z v'=>∃l,z=.tuple #[l,.bool true]/\v'.ownsRow u.heap.size 42 9 l (js x (iN b) n).length (nM (js x (iN b) n))/\Kw u v')(k0:Kw v0 v):
  GW true Q (fun y v'=>y=.bool true/\Kw v0 v') 12 [.code (cp [2,2,2,2,2,2,2,2,2,2] ik)] (nV y 13) v:=by
 have Y:∃F,PR.funcs[12]?=some F:=⟨_,aA⟩;refine GW.run 2 (k':=[.code (cp [2,2,2,2,2,2,2,2,2,2,1,1] ik),.code (cp [2,2,2,2,2,2,2,2,2,2,1,2] ik),.code (cp [2,2,2,2,2,2,2,2,2,2,2] ik)]) ?_;refine GW.any (fun u=>oI u y.n y.B y.C y.S1 y.S2 y.E) (by kernel_rfl) fun u=>?_;rw[hn];refine af Y (by kernel_rfl) (R1:=fun a' w'=>(a'=oI (fun i=>a'.getD i undef) n y.B y.C y.S1 y.S2 y.E/\a'.getD 92 undef=.bool false)/\w'.heap=v.heap) rfl (fun T=>SZ (w:=tp v T) hB hC) ?_;rintro a1 v2 ⟨⟨ea,ed⟩,eh⟩;refine GW.run 0 (k':=[.code (.cond (.tmp 92) (cp [2,2,2,2,2,2,2,2,2,2,1,2,1] ik) .skip),.code (cp [2,2,2,2,2,2,2,2,2,2,2] ik)]) ?_;refine ai Y (t:=false) trivial ed ?_;rw[ea];generalize(fun i=>a1.getD i undef)=u1;clear ea ed;refine GW.run 3 (k':=[.code (cp [2,2,2,2,2,2,2,2,2,2,2,1,1] ik),.code (cp [2,2,2,2,2,2,2,2,2,2,2,1,2] ik),.code (cp [2,2,2,2,2,2,2,2,2,2,2,2] ik)]) ?_;refine af Y (by kernel_rfl) (R1:=fun a' w'=>(a'=oI (fun i=>a'.getD i undef) n y.B y.C y.S1 y.S2 y.E/\a'.getD 94 undef=.bool false)/\w'.heap=v2.heap) rfl (fun T=>S0 (w:=tp v2 T) (.inl ⟨hE,rfl⟩)) ?_;rintro a3 v3 ⟨⟨e3,d3⟩,h3⟩;have K2:Kw v0 v3:=k0.trans fun a V=>by rw[h3,eh]
 refine GW.run 0 (k':=[.code (.cond (.tmp 94) (cp [2,2,2,2,2,2,2,2,2,2,2,1,2,1] ik) .skip),.code (cp [2,2,2,2,2,2,2,2,2,2,2,2] ik)]) ?_;refine ai Y (t:=false) trivial d3 ?_;rw[e3];generalize(fun i=>a3.getD i undef)=u3;clear e3 d3;refine GW.run 3 (k':=jJ [2,2,2,2,2,2,2,2,2,2,2,2] [0,1,2,3,4,5,6]) ?_;refine ae Y [0] ?_;refine GW.any (fun u=>Cf u y.S1 y.S2 undef undef 1) (by kernel_rfl) fun u4=>?_;refine GW.call Y (f1 _ K2) ?_;rintro z v4 ⟨L,rfl,r1,K4⟩;refine GW.any (fun u=>Cf u y.S1 y.S2 L undef 2) (by kernel_rfl) fun u5=>?_;refine ae Y [2,3,4,5,6] ?_;refine GW.any (fun u=>Cf u y.S1 y.S2 L undef 3) (by kernel_rfl) fun u6=>?_;refine GW.run 3 (k':=jJ [2,2,2,2,2,2,2,2,2,2,2,2,2] [0,1,2,3,4,5,6]) ?_;refine ae Y [0] ?_;refine GW.any (fun u=>Cf u y.S1 y.S2 L undef 4) (by kernel_rfl) fun u7=>?_;refine GW.call Y (f2 _ (K2.trans K4)) ?_;rintro z v5 ⟨M,rfl,r2,G⟩;refine GW.any (fun u=>Cf u y.S1 y.S2 L M 5) (by kernel_rfl) fun u8=>?_;refine ae Y [2,3,4,5,6] ?_;refine GW.any (fun u=>pU u L M) (by kernel_rfl) fun u9=>?_;obtain⟨H,I,rfl,g1,g2,c1⟩:=D8 r r1;obtain⟨J,U,rfl,g3,g4,c2⟩:=D8 r r2;obtain⟨hz,hx⟩:=agx (x:=x) (n:=n) kb;have hN:=SX x b n;rw[hx]at c2⊢;have g5:H<v5.heap.size:=Nat.lt_of_lt_of_le g2 G.size;have S:∀i j,i<nX x b n->j<9->v5.cell? ⟨H,i *9+j,none⟩=(ny x b n i)[j]?:=fun i j X Z=>by rw[agy G g2];exact c1 i j X Z
 clear c1;refine GW.run 3 (k':=[.code (cp [2,2,2,2,2,2,2,2,2,2,2,2,2,2,1,1] ik),.code (cp [2,2,2,2,2,2,2,2,2,2,2,2,2,2,1,2] ik),.code (cp [2,2,2,2,2,2,2,2,2,2,2,2,2,2,2] ik)]) ?_;refine af Y (by kernel_rfl) (R1:=fun a' w'=>(a'=pU (fun i=>a'.getD i undef) (.slice (some ⟨H,0,none⟩) (nX x b n) I) (.slice (some ⟨J,0,none⟩) (nX x b n) U)/\a'.getD 121 undef=.bool false)/\w'.heap=v5.heap) (by kernel_rfl) (fun T=>aiq (w:=tp v5 T)) ?_;rintro a6 v6 ⟨⟨e6,d6⟩,O⟩;refine GW.run 0 (k':=[.code (.cond (.tmp 121) (cp [2,2,2,2,2,2,2,2,2,2,2,2,2,2,1,2,1] ik) .skip),.code (cp [2,2,2,2,2,2,2,2,2,2,2,2,2,2,2] ik)]) ?_;refine ai Y (t:=false) trivial d6 ?_;rw[e6];generalize(fun i=>a6.getD i undef)=w6;clear e6 d6;refine GW.run 3 (k':=[.code (cp [2,2,2,2,2,2,2,2,2,2,2,2,2,2,2,1,1] ik),.code (cp [2,2,2,2,2,2,2,2,2,2,2,2,2,2,2,1,2] ik),.code (cp [2,2,2,2,2,2,2,2,2,2,2,2,2,2,2,2] ik)]) ?_;have ce:∀p T,(tp v6 T).cell? p=v5.cell? p:=fun p T=>by simp only[ao];rw[show(tp v6 T).heap=v6.heap from rfl,O]
 have q0:v5.cell? ⟨H,1,none⟩=some (ii (iI x b n 0 1)):=by
  have:=S 0 1 (by omega) (by omega);rw[Sc]at this;simpa using this
 by_cases g:iw x b n=[]
 ·have k:iI x b n 0 1=4:=by unfold iI ny;rw[if_pos g];rfl
  have f4':v5.cell? ⟨J,1,none⟩=some (ii 4):=by
   have:=c2 0 1 (by omega) (by omega);rw[ny,if_pos (hz.2 g),aX,aW]at this;exact this
  refine af Y (by kernel_rfl) (R1:=fun a' w'=>(a'=pU (fun i=>a'.getD i undef) (.slice (some ⟨H,0,none⟩) (nX x b n) I) (.slice (some ⟨J,0,none⟩) (nX x b n) U)/\a'.getD 131 undef=.bool true)/\w'.heap=v6.heap) (by kernel_rfl) (fun T=>S3 (w:=tp v6 T) (f:=iI x b n 0 1) hN (by rw[ce];exact q0) (.inl ⟨by rw[nX,if_pos g],k,rfl⟩)) ?_;rintro a7 K ⟨⟨d,W⟩,P⟩;refine GW.run 0 (k':=[.code (.cond (.tmp 131) (cp [2,2,2,2,2,2,2,2,2,2,2,2,2,2,2,1,2,1] ik) .skip),.code (cp [2,2,2,2,2,2,2,2,2,2,2,2,2,2,2,2] ik)]) ?_;refine ai Y (t:=true) trivial W ?_;refine GW.run 1 (k':=[.code (cp [2,2,2,2,2,2,2,2,2,2,2,2,2,2,2,1,2,1,1] ik),.code .ret,.code (cp [2,2,2,2,2,2,2,2,2,2,2,2,2,2,2,2] ik)]) ?_;rw[d];have D:∀p T,(tp K T).cell? p=v5.cell? p:=fun p T=>by simp only[ao];rw[show(tp K T).heap=K.heap from rfl,P,O]
  refine af Y (by kernel_rfl) (R1:=fun a' w'=>a'.getD 8 undef=.bool true/\w'.heap=K.heap) rfl (fun T=>air (w:=tp K T) hN (by rw[D];exact f4')) ?_;rintro a8 v8 ⟨e8,h8⟩;exact GW.zB Y 8 ⟨e8,(K2.trans K4).trans (G.trans fun a V=>by rw[h8,P,O])⟩
 ·have o:nX x b n=(iw x b n).length:=by rw[nX,if_neg g]
  have k:iI x b n 0 1≠4:=by
   obtain⟨q,hq⟩:∃q,(iw x b n)[0]?=some q:=⟨_,ax (by omega)⟩;have hs:=(za (aP hq)).1;unfold iI;rw[JO hq];show((nT q.1 0:Nat):Int).toNat≠4
   unfold nT;simp;omega
  refine af Y (by kernel_rfl) (R1:=fun a' w'=>(a'=pU (fun i=>a'.getD i undef) (.slice (some ⟨H,0,none⟩) (nX x b n) I) (.slice (some ⟨J,0,none⟩) (nX x b n) U)/\a'.getD 131 undef=.bool false)/\w'.heap=v6.heap) (by kernel_rfl) (fun T=>S3 (w:=tp v6 T) (f:=iI x b n 0 1) hN (by rw[ce];exact q0) (.inr ⟨k,rfl⟩)) ?_;rintro a7 K ⟨⟨d,W⟩,P⟩;refine GW.run 0 (k':=[.code (.cond (.tmp 131) (cp [2,2,2,2,2,2,2,2,2,2,2,2,2,2,2,1,2,1] ik) .skip),.code (cp [2,2,2,2,2,2,2,2,2,2,2,2,2,2,2,2] ik)]) ?_;refine ai Y (t:=false) trivial W ?_;rw[d];generalize(fun i=>a7.getD i undef)=w7;clear d W;refine GW.run 3 (k':=jJ [2,2,2,2,2,2,2,2,2,2,2,2,2,2,2,2] [0]) ?_;refine ae Y [0] ?_;refine GW.any (fun u=>yh u (.slice (some ⟨H,0,none⟩) (nX x b n) I) (.slice (some ⟨J,0,none⟩) (nX x b n) U) (.slice none 0 0) (u 26)) (by kernel_rfl) fun u10=>?_;refine GW.run 3 (k':=jJ [2,2,2,2,2,2,2,2,2,2,2,2,2,2,2,2,2] [0]) ?_;refine ae Y [0] ?_;refine GW.any (fun u=>yh u (.slice (some ⟨H,0,none⟩) (nX x b n) I) (.slice (some ⟨J,0,none⟩) (nX x b n) U) (.slice none 0 0) (.slice none 0 0)) (by kernel_rfl) fun u11=>?_;refine GW.run 2 (k':=[.code (cp [2,2,2,2,2,2,2,2,2,2,2,2,2,2,2,2,2,2,1] ik),.code (cp [2,2,2,2,2,2,2,2,2,2,2,2,2,2,2,2,2,2,2] ik)]) ?_;have K7:Kw v5 K:=fun a V=>by rw[P,O]
  have D:∀p T,(tp K T).cell? p=v5.cell? p:=fun p T=>by simp only[ao];rw[show(tp K T).heap=K.heap from rfl,P,O]
  have N:∀T,(tp K T).heap.size=v5.heap.size:=fun T=>by rw[show(tp K T).heap=K.heap from rfl,P,O]
  have s:=aeo (x:=x) (b:=b) (n:=n);have m:=acd (x:=x) (n:=n) kb;rw[<-o]at s;rw[Sd kb,<-D_,<-o]at m;refine af Y (by kernel_rfl) (R1:=fun a' w'=>∃va vz,a'=yh (fun i=>a'.getD i undef) (.slice (some ⟨H,0,none⟩) (nX x b n) I) (.slice (some ⟨J,0,none⟩) (nX x b n) U) va vz/\nU v5.heap.size w' va vz (mz x b n).length (mz x b n).length (vh x b n) (vh x b n)/\Kw K w') (by kernel_rfl) (fun T=>?_) ?_
  ·refine Code.wp_mono ?_ (aav (w:=tp K T) (A:=jG x b n) (B:=jG x (iN b) n) (y:=fun i=>iI x b n i 1) (z:=fun i=>iI x b n i 3) (y':=fun i=>iI x (iN b) n i 1) (z':=fun i=>iI x (iN b) n i 3) ?_ ?_ (Du fun i j X Z=>by rw[D];exact S i j X Z) (hx▸Du fun i j X Z=>by rw[D];exact c2 i j (hx▸X) Z) ?_ ?_ (fun i=>Dv x b n i r) (fun i=>Dv x (iN b) n i r))
   ·rintro e a' v' ⟨p1,p2,va,vz,p3,p4,p5⟩;rw[s.1,s.2,m.1,m.2,N,o,D_]at p4;exact⟨p1,p2,va,vz,p3,p4,fun a V=>p5.block a V⟩
   ·have:=Bg x b n;omega
   ·have:=Bg x b n;omega
   ·rw[N];exact g5
   ·rw[N];exact g4
  ·rintro a9 v9 ⟨va,vz,e9,two,k9⟩;rw[e9];generalize(fun i=>a9.getD i undef)=w9;have hle:=Bg x b n;rw[o,D_]at hN hle;obtain⟨ga,ca,rfl,ra⟩:=P5 two.a hN;obtain⟨gz,cz,rfl,rz⟩:=P5 two.z hN;refine GW.run 2 (k':=jJ [2,2,2,2,2,2,2,2,2,2,2,2,2,2,2,2,2,2,2] [0,1,2,3]) ?_;refine ae Y [0,1] ?_;refine GW.call Y (gW.ij (R:=fun z v'=>z=.bool true/\v'.heap=v9.heap) (by decide) fun T=>(aen (w:=tp v9 T) (C1:=ca) (C2:=cz) (by omega) ra rz).mono fun e w' h=>⟨_,h.1,rfl,h.2⟩) ?_;rintro z vA ⟨rfl,hA⟩;refine ae Y [3] ?_;refine GW.run 1 (k':=[.code .ret]) ?_;exact GW.zB Y 8 ⟨by kernel_rfl,(K2.trans K4).trans ((G.trans K7).trans (k9.trans fun a V=>by rw[hA]))⟩
end
theorem S4{Q:QT}{b:List UInt8}(D:∀c∈b,gP c)(l:b.length<=60)(K:Kw v1 v):gW Q 35 #[.string (str b)] v fun y v'=>y=.tuple #[.string (str (iN b)),ii 0]/\Kw v1 v':=
 gW.ij (R:=fun y v'=>y=.tuple #[.string (str (iN b)),ii 0]/\Kw v1 v') (by decide) fun T=>(Y3 (str b) (tp v T) (by rw[gV];unfold maxLen;omega)).mono fun e w' h=>by
  have Y:b.all iM=true:=List.all_eq_true.2 fun c H=>(D c H).1;have U:b.map gb=b:=(List.map_congr_left fun c H=>(D c H).2).trans (List.map_id _);have I:rJ (str b)=str (iN b):=by
   unfold rJ;rw[if_neg (by rw[gV];omega),show(str b).data.toList=b from rfl,if_pos Y,U];rfl
  have A:tS (str b)=0:=by
   unfold tS;rw[if_neg (by rw[gV];omega),show(str b).data.toList=b from rfl,if_pos Y]
  exact⟨_,h.1,by rw[I,A],K.trans fun a Y=>h.2.block a Y⟩
theorem agz{Q:QT}{b:List UInt8}(l:b.length<=60)(K:Kw v1 v):gW Q 21 #[.string (str b)] v fun y v'=>y=.string (str (iN b))/\Kw v1 v':=
 gW.ij (R:=fun y v'=>y=.string (str (iN b))/\Kw v1 v') (by decide) fun T=>(Hk (str b) (tp v T) (by rw[gV];omega)).mono fun e w' h=>⟨_,h.1,rfl,by rw[h.2];exact K⟩
section
variable{W:World}{a0 a1:Option Addr}{l0 l1 c0 c1:Nat}{z0 z1:Nat->Int}{k q1 t1 w1:Int}{I:Value->World->Prop}
theorem aer(i0:pq W a0 l0 z0)(S:pq W a1 l1 z1)(hk:k_ k)(U:k_ q1/\k_ t1/\k_ w1)(H:Here (fun _=>False) W)(P:∀F d,gU (fun _=>False) W F->I (.bool true) (F.at d)):
  gu PR (Ren.Ends PR I) (fun _=>False) (Frame.enter PR 12 #[.slice a0 l0 c0,.slice a1 l1 c1,ii k,.agg #[ii q1,ii t1,ii w1]] .normal) [] W:=by
 refine aem i0 S H P fun x0 b0 v b R X Y C J D N=>?_;have O:=wN k (show 0<4 by decide);obtain⟨n,en⟩:∃n,n=kN k 4:=⟨_,rfl⟩;rw[<-en]at O;obtain⟨x,ex⟩:∃x,x=65::x0:=⟨_,rfl⟩;obtain⟨p,A⟩:∃p,p=67::b0:=⟨_,rfl⟩;have l1:1<=x.length:=by rw[ex];simp
 have l2:1<=p.length:=by rw[A];simp
 have Z:b0.length<=12:=by simp at C;omega
 rw[<-ex]at R X;rw[<-A]at Y C;have T:p.length<=13:=C;have B:=Sb Y;have lf:=aeb p;have E:(str p).size=p.length:=gV p;have call:∀(q:List UInt8) u,(∀c∈q,gP c)->q.length=p.length->Kw v u->gW (Ren.Ends PR I) 22 #[.string (str (iF x)),.string (str (iH q)),ii (n:Nat),.agg #[ii q1,ii t1,ii w1]] u fun z v'=>z=.tuple #[.string (if n<p.length then str (mo (str (iF x)) (str (iH q)) n)else⟨#[]⟩),ii (if n<p.length then 0 else 4)]/\Kw v v':=fun q u L V K=>by
  refine gW.mono (IC (k:=(n:Nat)) ?_ ?_ U.1 U.2.1 U.2.2 (K.tabs J) (K.qU J D)) fun y v' h=>⟨by rw[h.1,IE R l1 (by omega) L (by omega) (by omega) (by omega),Dg R l1 (by omega) L (by omega) (by omega) (by omega),V],K.trans h.2⟩;all_goals(rw[gV];simp only[iF,iH,nY,List.length_append,ay,aL,maxLen];omega)
 obtain⟨y,M⟩:∃y:Gp,y=⟨k,(n:Nat),if n<p.length then 0 else 4,.agg #[ii q1,ii t1,ii w1],b,str x0,str x,str (iF x),str b0,str p,str (iN p),str (iH p),str (iH (iN p)),if n<p.length then str (mo (str (iF x)) (str (iH p)) n)else⟨#[]⟩,if n<p.length then str (mo (str (iF x)) (str (iH (iN p))) n)else⟨#[]⟩⟩:=⟨_,rfl⟩;have key:GW true (Ren.Ends PR I) (fun x v'=>x=.bool true/\Kw v v') 12 (jJ [2,2,2,2] [2,3]) (nV y 0) v:=by
  refine ace (q1:=q1) (t1:=t1) (w1:=w1) ?_ ?_ ?_ ?_ ?_ ?_ ?_ ?_ ?_ ?_ ?_ ?_ ?_ fun v' K=>?_;all_goals rw[M]
  ·show(str b0).size<=50;rw[gV];omega
  ·show _=str p;rw[A];exact pX [67] b0
  ·exact hk
  ·show((n:Nat):Int)=_;rw[en]
  ·exact N
  ·exact fun u K=>S4 Y (by omega) K
  ·refine fun u K=>?_;have:=S4 (Q:=Ren.Ends PR I) B (by omega) K;rw[flip_flip Y]at this;exact this
  ·exact fun u K=>D7 (by omega) K
  ·exact fun u K=>D7 (by omega) K
  ·exact fun u K=>agz (by omega) K
  ·exact fun u K=>call p u Y rfl K
  ·exact fun u K=>call (iN p) u B lf K
  ·by_cases d1:n<p.length
   ·refine aeq (x:=x) (b:=p) (n:=n) (by omega) Y rfl (by show(str p).size<=100;omega) rfl (if_pos d1) (fun u K=>?_) (fun u K=>?_) K
    ·show gW _ 25 #[.string (if n<p.length then _ else _)] u _
     rw[if_pos d1];exact Ar R l1 (by omega) Y (by omega) (by omega) (by omega)
    ·show gW _ 25 #[.string (if n<p.length then _ else _)] u _
     rw[if_pos d1];exact Ar R l1 (by omega) B (by omega) (by omega) (by omega)
   ·exact aep (n:=n) rfl (by omega) (by show(str p).size<=100;omega) rfl (if_neg d1) (by show(str p).size<=n;omega) K
 rw[M]at key;rw[ex]at key;exact GW.to _ key
end
end Ph
end
end Go.Proofs.YtdcjnhipenbcfaaGreatDoor
