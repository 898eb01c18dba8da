/-
  Own text. Part 11 of what the claim rests on.
-/
import Derived.Test.YtdcjnhipenbcfaaGreatDoorPk10
set_option linter.unusedVariables false
set_option linter.unusedSectionVars false
set_option linter.unusedSimpArgs false
set_option maxRecDepth 100000
set_option maxHeartbeats 16000000
open Bool renaming not_eq_true->ax
open Go.Proofs.Tryz renaming f10->ak
open Go.Proofs.YtdcjnhipenbcfaaGreatDoor.Ph.GW renaming piece->ao
open Go.World renaming cell?->ae
open List renaming getElem?_eq_some_iff->ah,length_cons->ai,mem_cons->aj,length_append->ar,getElem?_append_left->ay,getElem?_append_right->az,not_mem_nil->aA
open Nat renaming le_refl->af,add_sub_cancel_left->aB,lt_or_ge->aD,zero_add->aH
open Option renaming getD_some->au
namespace Go.Proofs.YtdcjnhipenbcfaaGreatDoor
noncomputable section
variable {B X:ByteArray}{x:List UInt8}{H a e:Nat}{u:Nat->Value}{L l:Value}{w:World}
namespace Ph
open Conc Ren RowKit
abbrev nF(site:List Item)(al:List (Nat×Value)):Frame:=kR 10 132 site (sA al) fun _=>undef
noncomputable def mT:Code:=ak.body.getD .skip
abbrev mi (p:List Nat) (l:List Nat):List Item:=[.inRegion (opsOf (cp (p++[1]) mT)) l,.code (cp (p++[2]) mT)]
def zD(t p:Value)(o:Value):List (Nat×Value):=[(0,t),(1,p),(2,o)]
def xR(t p:Value)(o:Value)(b:Nat):List (Nat×Value):=zD t p o++[(5,ptr b),(6,.bool false)]
def xS(t p:Value)(o:Value)(b:Nat):List (Nat×Value):=xR t p o b++[(20,.bool true),(7,.bool true),(21,.bool true),(22,.bool false),(23,t)]
def zE(t p:Value)(o:Value)(b:Nat)(x0 X:ByteArray):List (Nat×Value):=xS t p o b++[(24,.string x0),(25,.string X),(8,.string X),(26,p)]
section
variable{t p o:Value}{b:Nat}{x0 X b0:ByteArray}
theorem ak1:gY PR 60 (Frame.enter PR 10 #[t,p,o] .normal) []=(nF (mi [] [0,1]) (zD t p o),[]):=by kernel_rfl
theorem agc:(opAt (nF (mi [] [0,1]) (zD t p o))).map (fun o=>o.op)=some (.box 28 (.tmp 2)):=by kernel_rfl
theorem ak2:gY PR 60 ((nF (mi [] [0,1]) (zD t p o)).finish (ptr b)) []=(nF (mi [2] [0,1]) (xR t p o b),[]):=by kernel_rfl
theorem agd:gF PR 1 (nF (mi [2] [0,1]) (xR t p o b)) []=(Frame.enter PR 16 #[] .normal,[nF (mi [2] [0,1]) (xR t p o b)]):=by kernel_rfl
theorem ak3:gY PR 60 (gF PR 11 ((nF (mi [2] [0,1]) (xR t p o b)).finish (.bool true)) []).1 []=(nF (mi [2,2,2] [1,2,3]) (xS t p o b),[]):=by kernel_rfl
theorem aij:(gF PR 11 ((nF (mi [2] [0,1]) (xR t p o b)).finish (.bool true)) []).2=[]:=by kernel_rfl
theorem age:gF PR 1 (nF (mi [2,2,2] [1,2,3]) (xS t p o b)) []=(Frame.enter PR 18 #[t,ii (60:Nat)] .normal,[nF (mi [2,2,2] [1,2,3]) (xS t p o b)]):=by kernel_rfl
theorem agf:(opAt ((nF (mi [2,2,2] [1,2,3]) (xS t p o b)).finish (.string x0))).map (fun o=>o.op)=some (.binOp .add 9 (.const (.string ⟨#[65]⟩)) (.tmp 24) 9):=by kernel_rfl
theorem ak4:gY PR 60 (((nF (mi [2,2,2] [1,2,3]) (xS t p o b)).finish (.string x0)).finish (.string X)) []=(nF (mi [2,2,2,2] [1,2,3]) (zE t p o b x0 X),[]):=by kernel_rfl
theorem agh:gF PR 1 (nF (mi [2,2,2,2] [1,2,3]) (zE t p o b x0 X)) []=(Frame.enter PR 18 #[p,ii (5:Nat)] .normal,[nF (mi [2,2,2,2] [1,2,3]) (zE t p o b x0 X)]):=by kernel_rfl
theorem ak5:(nF (mi [2,2,2,2] [1,2,3]) (zE t p o b x0 X)).finish (.string b0)=nF (mi [2,2,2,2] [2,3]) (zE t p o b x0 X++[(27,.string b0)]):=by kernel_rfl
end
structure MY where
 (o:Value) (b:Nat) (x0 X b0 B RF RD S:ByteArray)
def tf(y:MY)(L:Value)(m:Nat):Array Value:=#[.tuple #[],.tuple #[],y.o,undef,undef,ptr y.b,.bool false,.bool true,.string y.X,kp 2 m (.string y.B),kp 3 m (.string y.S),kp 3 m (ii 0),kp 6 m (L),kp 6 m (.bool true),undef,undef,undef,undef,undef,undef,.bool true,.bool true,.bool false,.tuple #[],.string y.x0,.string y.X,.tuple #[],.string y.b0,kp 1 m (.string y.B),kp 3 m (.tuple #[.string y.S,ii 0]),kp 3 m (.string y.X),kp 3 m (.string y.RF),kp 3 m (.string y.B),kp 3 m (.string y.RD),kp 3 m (y.o),kp 3 m (.tuple #[.string y.S,ii 0]),kp 3 m (.string y.S),kp 3 m (ii 0),kp 6 m (.tuple #[L,.bool true]),kp 4 m (.string y.S),kp 5 m (.tuple #[L,.bool true]),kp 6 m (L),kp 6 m (.bool true),undef,undef,undef,undef,undef,undef,undef,undef,undef,undef,undef,undef,undef,undef,undef,undef,undef,undef,undef,undef,undef,undef,undef,undef,undef,undef,undef,undef,undef,undef,undef,undef,undef,undef,undef,undef,undef,undef,undef,undef,undef,undef,undef,undef,undef,undef,undef,undef,undef,undef,undef,undef,undef,undef,undef,undef,undef,undef,undef,undef,undef,undef,undef,undef,undef,undef,undef,undef,undef,undef,undef,undef,undef,undef,undef,undef,undef,undef,undef,undef,undef,undef,undef,undef,undef,undef,undef,undef,undef]
def WN (p:List Nat):Array Oper:=opsOf (cp p mT)
theorem aed:(WN [2,2,2,2,2,1]).size=11:=by kernel_rfl
section
variable{y:MY}{Q:QT}{v:World}{q1 t1 w1:Int}{P:Value->World->Prop}
theorem aee(J:y.b0.size<=50)(D:(⟨#[67]⟩:ByteArray)++y.b0=y.B)(M:y.o=.agg #[ii q1,ii t1,ii w1])(c1:v.heap[y.b]?=some (.cells #[ii q1,ii t1,ii w1] 28))
  (f1:∀u,Kw v u->gW Q 23 #[.string y.X] u fun z v'=>z=.string y.RF/\Kw v v')(f2:∀u,Kw v u->gW Q 24 #[.string y.B] u fun z v'=>z=.string y.RD/\Kw v v')(R:∀u,Kw v u->gW Q 22 #[.string y.RF,.string y.RD,ii 0,y.o] u fun z v'=>z=.tuple #[.string y.S,ii 0]/\Kw v v')
  (U:∀u,Kw v u->gW Q 25 #[.string y.S] u fun z v'=>∃L,z=.tuple #[L,.bool true]/\P L v'/\Kw v v')
  (g:∀L v',P L v'->Kw v v'->GW true Q (fun y v'=>y=.bool true/\Kw v v') 10 [.code (cp [2,2,2,2,2,2,2] mT)] (tf y L 6) v'):GW true Q (fun y v'=>y=.bool true/\Kw v v') 10 (mi [2,2,2,2] [2,3]) (tf y undef 0) v:=by
 have Y:∃F,PR.funcs[10]?=some F:=⟨_,Tryz.func10⟩;refine GW.cat Y (.const (.string ⟨#[67]⟩)) (.tmp 27) (x:=⟨#[67]⟩) (y:=y.b0) (by have:(⟨#[67]⟩:ByteArray).size=1:=rfl;omega) ?_;rw[D];refine GW.to (tf y undef 1) ?_;refine GW.gS Y [3] ?_;refine GW.to (tf y undef 2) ?_;refine GW.run 3 (k':=[.code (.region 6 (WN [2,2,2,2,2,1]) true),.code (cp [2,2,2,2,2,2] mT)]) ?_;refine GW.zy (A:=tf y undef 3) (Kw v) (.refl v) [0,2,6,7,8,9,10] ?_ ?_ Y
 ·intro i H I;rw[aed]at H;have:i=1\/i=3\/i=4\/i=5:=by simp at I;omega
  rcases this with rfl|rfl|rfl|rfl
  ·exact .call Y f1
  ·exact .call Y f2
  ·exact .ld Y fun u K=>⟨(Bf (K.at c1)).trans (by rw[<-M]),K⟩
  ·exact .call Y R
 intro v2 C;refine GW.run 3 (k':=mi [2,2,2,2,2,2] [0,1,2,3,4,5,6]) ?_;refine GW.gS Y [0] ?_;refine GW.to (tf y undef 4) ?_;refine GW.call Y (U _ C) ?_;rintro z v3 ⟨L,rfl,hP,N⟩;refine GW.to (tf y L 5) ?_;refine GW.gS Y [2,3,4,5,6] ?_;refine GW.to (tf y L 6) ?_;refine GW.run 1 (k':=[.code (cp [2,2,2,2,2,2,2] mT)]) ?_;exact g L v3 hP N
end
end Ph
section
open RowKit
def jU(x p:ByteArray)(a:Nat):Nat->Bool
 |0=>true
 |k+1=>jU x p a k&&ag (at8 x (a+k)) (at8 p k)
theorem SY{x p:ByteArray}{k:Nat}(h:jU x p a k=false):∀n,k<=n->jU x p a n=false
 |0,K=>by
  obtain rfl:k=0:=by omega
  exact h
 |n+1,K=>by
  rcases aD k (n+1)with Y|Y
  ·rw[jU,SY h n (by omega)];rfl
  ·obtain rfl:k=n+1:=by omega
   exact h
theorem OZ(x p:ByteArray)(a:Nat)(w:World)(T:p.size<=200)(V:x.size<=1000)(S:a+p.size<=x.size):
  Calls Tryz.prog 34 #[.string x,.string p,.int .i64 a] w fun e w'=>e=.returned (.bool (jU x p a p.size))/\w'.heap=w.heap:=by
 go_enter Tryz.func34,Tryz.ntmps34
 go_wp2
 go_loopw [7] (fun i wr=>∃k d:Nat,k<=p.size/\i=.int .i64 k/\Hid (jU x p a k=true)/\wr=w.drewN d) (fun i _=>p.size-(intOf i).toNat)
 case atStart=>exact⟨0,0,Nat.zero_le _,rfl,laid rfl,rfl⟩
 case round=>
  obtain⟨k,d,hk,rfl,A,rfl⟩:=hrel;by_cases I:k<p.size
  ·have L:(k:Int)<(p.size:Int):=by omega
   have M:(a:Int)+(k:Int)<(x.size:Int):=by omega
   have N:(0:Int)<=(k:Int):=by omega
   have O:(0:Int)<=(a:Int)+(k:Int):=by omega
   have F:=mm p k I;have J:=mm x (a+k) (by omega);have D:Hid (jU x p a (k+1)=ag (at8 x (a+k)) (at8 p k)):=laid (by rw[jU,A.out];rfl);have U:Hid (jU x p a (k+1)=false->jU x p a p.size=false):=laid fun h=>SY h _ (by omega);by_cases K:at8 x (a+k)=at8 p k
   ·have B:(((at8 x (a+k)).toNat:Int) != ((at8 p k).toNat:Int))=false:=by rw[K];simp
    by_cases Y:at8 p k=78
    ·have C:(((at8 p k).toNat:Int)==78)=true:=by rw[Y];rfl
     have H:Hid (jU x p a p.size=false):=laid (U.out (by rw[D.out,K,Y];rfl));clear K Y;go_wp2
     go_quiet(fail)
     go_wp2
     go_ret
     exact⟨nW H.out.symm,rfl⟩
    ·have C:(((at8 p k).toNat:Int)==78)=false:=by have:=adq (at8 p k) 78 (by omega);rw[show((78:Nat):Int)=78 from rfl]at this;rw[this];exact decide_eq_false Y
     have H:Hid (jU x p a (k+1)=true):=laid (by rw[D.out,K];unfold ag;simpa using Y);clear K Y;go_wp2
     go_quiet(fail)
     go_wp2
     go_roundw
     case rel=>go_light;exact⟨k+1,_,by omega,by go_num,H,rfl⟩
     case measure=>go_light;simp[intOf];omega
   ·have B:(((at8 x (a+k)).toNat:Int) != ((at8 p k).toNat:Int))=true:=by rw[bne_iff_ne];intro h;exact K (UInt8.toNat.inj (by omega))
    have H:Hid (jU x p a p.size=false):=laid (U.out (by rw[D.out];unfold ag;rw[show(at8 x (a+k)==at8 p k)=false by simpa using K];rfl));clear K;go_wp2
    go_quiet(fail)
    go_wp2
    go_ret
    exact⟨nW H.out.symm,rfl⟩
  ·have R:Hid (k=p.size):=laid (by omega);go_wp2
   go_ret
   exact⟨nW (by rw[<-R.out,A.out]),rfl⟩
end
namespace Ph
open Conc Ren RowKit
def Ac(u:Nat->Value)(X B:ByteArray)(L:Value):Array Value:=#[u 0,u 1,u 2,u 3,u 4,u 5,u 6,u 7,.string X,.string B,u 10,ii 0,L,.bool true,u 14,u 15,u 16,u 17,u 18,u 19,u 20,u 21,u 22,u 23,u 24,u 25,u 26,u 27,u 28,u 29,u 30,u 31,u 32,u 33,u 34,u 35,u 36,u 37,u 38,u 39,u 40,u 41,u 42,u 43,u 44,u 45,u 46,u 47,u 48,u 49,u 50,u 51,u 52,u 53,u 54,u 55,u 56,u 57,u 58,u 59,u 60,u 61,u 62,u 63,u 64,u 65,u 66,u 67,u 68,u 69,u 70,u 71,u 72,u 73,u 74,u 75,u 76,u 77,u 78,u 79,u 80,u 81,u 82,u 83,u 84,u 85,u 86,u 87,u 88,u 89,u 90,u 91,u 92,u 93,u 94,u 95,u 96,u 97,u 98,u 99,u 100,u 101,u 102,u 103,u 104,u 105,u 106,u 107,u 108,u 109,u 110,u 111,u 112,u 113,u 114,u 115,u 116,u 117,u 118,u 119,u 120,u 121,u 122,u 123,u 124,u 125,u 126,u 127,u 128,u 129,u 130,u 131]
theorem aj1:
  (cp [2,2,2,2,2,2,2,1] mT).wp PR (fun e a' v'=>e=.normal/\a'.defers=[]/\a'.tmps=Ac (fun i=>a'.tmps.getD i undef) X B L/\v'.heap=w.heap) ⟨Ac u X B L,[]⟩ w:=by
 obtain⟨Q,Y⟩:∃Q:Exit->Act->World->Prop,Q=(fun e a' v'=>e=.normal/\a'.defers=[]/\a'.tmps=Ac (fun i=>a'.tmps.getD i undef) X B L/\v'.heap=w.heap):=⟨_,rfl⟩;rw[<-Y];have K:=laid Y;clear Y;unfold mT ak Ac;simp only[au,cp];go_wp2
 rw[K.out];exact⟨rfl,rfl,by kernel_rfl,rfl⟩
def MZ(u:Nat->Value)(X B:ByteArray)(G N C:Nat):Array Value:=#[u 0,u 1,u 2,u 3,u 4,u 5,u 6,u 7,.string X,.string B,u 10,u 11,.slice (some ⟨G,0,none⟩) N C,u 13,ii 0,u 15,u 16,u 17,u 18,u 19,u 20,u 21,u 22,u 23,u 24,u 25,u 26,u 27,u 28,u 29,u 30,u 31,u 32,u 33,u 34,u 35,u 36,u 37,u 38,u 39,u 40,u 41,u 42,u 43,u 44,u 45,u 46,u 47,u 48,u 49,u 50,u 51,u 52,u 53,u 54,u 55,u 56,u 57,u 58,u 59,u 60,u 61,u 62,u 63,u 64,u 65,u 66,u 67,u 68,u 69,u 70,u 71,u 72,u 73,u 74,u 75,u 76,u 77,u 78,u 79,u 80,u 81,u 82,u 83,u 84,u 85,u 86,u 87,u 88,u 89,u 90,u 91,u 92,u 93,u 94,u 95,u 96,u 97,u 98,u 99,u 100,u 101,u 102,u 103,u 104,u 105,u 106,u 107,u 108,u 109,u 110,u 111,u 112,u 113,u 114,u 115,u 116,u 117,u 118,u 119,u 120,u 121,u 122,u 123,u 124,u 125,u 126,u 127,u 128,u 129,u 130,u 131]
def Cd(u:Nat->Value)(n G N C:Nat):Array Value:=#[u 0,u 1,u 2,u 3,u 4,u 5,u 6,u 7,u 8,u 9,u 10,u 11,.slice (some ⟨G,0,none⟩) N C,u 13,ii n,u 15,u 16,u 17,u 18,u 19,u 20,u 21,u 22,u 23,u 24,u 25,u 26,u 27,u 28,u 29,u 30,u 31,u 32,u 33,u 34,u 35,u 36,u 37,u 38,u 39,u 40,u 41,u 42,u 43,u 44,u 45,u 46,u 47,u 48,u 49,u 50,u 51,u 52,u 53,u 54,u 55,u 56,u 57,u 58,u 59,u 60,u 61,u 62,u 63,u 64,u 65,u 66,u 67,u 68,u 69,u 70,u 71,u 72,u 73,u 74,u 75,u 76,u 77,u 78,u 79,u 80,u 81,u 82,u 83,u 84,u 85,u 86,u 87,u 88,u 89,u 90,u 91,u 92,u 93,u 94,u 95,u 96,u 97,u 98,u 99,u 100,u 101,u 102,u 103,u 104,u 105,u 106,u 107,u 108,u 109,u 110,u 111,u 112,u 113,u 114,u 115,u 116,u 117,u 118,u 119,u 120,u 121,u 122,u 123,u 124,u 125,u 126,u 127,u 128,u 129,u 130,u 131]
def cnt(X p:ByteArray):Nat->Nat
 |0=>0
 |a+1=>cnt X p a+if jU X p a p.size=true then 1 else 0
def ow(B:ByteArray)(s:Nat):ByteArray:=if s=1 then g_ B 0 else B
def hN(X B:ByteArray)(s a:Nat):Nat:=match s with|0=>cnt X B a|_=>cnt X B (X.size+1-B.size)+cnt X (g_ B 0) a
theorem D9(X p:ByteArray):∀a,cnt X p a<=a
 |0=>af _
 |a+1=>by have:=D9 X p a;rw[cnt];split<;>omega
theorem Kl(X B:ByteArray)(s a:Nat):hN X B s a<=X.size+1+a:=by
 have Y:=D9 X B a;have K:=D9 X (g_ B 0) a;have H:=D9 X B (X.size+1-B.size);unfold hN;split<;>omega
theorem P2(B:ByteArray):(g_ B 0).size=B.size:=by
 unfold g_;rw[gV];simp
section
variable{X B:ByteArray}{G N C:Nat}{w:World}{u:Nat->Value}
theorem aef(hX:X.size<=100)(m:B.size<=30)(r:1<=B.size)(j:N<=1000)
  (H:∀s a,s<2->a+B.size<=X.size->jU X (ow B s) a B.size=true->hN X B s a<N/\w.cell? ⟨G,hN X B s a *9+3,none⟩=some (ii ((a:Int)+1))/\w.cell? ⟨G,hN X B s a *9+1,none⟩=some (ii (16 *(s:Int)+if 0<hN X B s a then 256 else 0))/\w.cell? ⟨G,hN X B s a *9+5,none⟩=some (.string ⟨#[48]⟩)):
  (cp [2,2,2,2,2,2,2,2,2,1] mT).wp PR (fun e a' v'=>e=.normal/\a'.defers=[]/\a'.tmps=Cd (fun i=>a'.tmps.getD i undef) (hN X B 1 (X.size+1-B.size)) G N C/\v'.heap=w.heap) ⟨MZ u X B G N C,[]⟩ w:=by
 obtain⟨Q,T⟩:∃Q:Exit->Act->World->Prop,Q=(fun e a' v'=>e=.normal/\a'.defers=[]/\a'.tmps=Cd (fun i=>a'.tmps.getD i undef) (hN X B 1 (X.size+1-B.size)) G N C/\v'.heap=w.heap):=⟨_,rfl⟩;rw[<-T];have Z:=laid T;have V:=laid H;clear T H;unfold mT ak MZ;simp only[au,cp];go_wp2
 go_loopw [14,15] (fun n s wr=>∃S:Nat,S<=2/\s=ii S/\n=ii (if S=0 then 0 else if S=1 then hN X B 1 0 else hN X B 1 (X.size+1-B.size):Nat)/\wr.heap=w.heap) (fun _ s _=>2-(intOf s).toNat)
 case atStart=>exact⟨0,by omega,rfl,rfl,rfl⟩
 case round=>
  obtain⟨S,l,rfl,rfl,hw⟩:=hrel;rcases(show S=0\/S=1\/S=2 by omega)with rfl|rfl|rfl
  ·simp only[if_true];go_wp2
   go_loopw [14,17] (fun n a wr=>∃A:Nat,A<=X.size+1-B.size/\a=ii A/\n=ii (hN X B 0 A:Nat)/\wr.heap=w.heap) (fun _ a _=>X.size+1-B.size-(intOf a).toNat)
   case atStart=>exact⟨0,by omega,rfl,rfl,hw⟩
   case round=>
    obtain⟨A,q,rfl,rfl,R⟩:=hrel;have c:=Kl X B 0 A;by_cases I:A+B.size<=X.size
    ·have D:Hid (hN X B 0 (A+1)=hN X B 0 A+if jU X B A B.size=true then 1 else 0):=laid rfl;have O:=laid (V.out 0 A (by omega) I);generalize hN X B 0 A=n at *;go_wp2_with fail
     refine(OZ X B A _ (by omega) (by omega) I).mono ?_;rintro e w1 ⟨rfl,L⟩;have K:=L.trans R;clear L;by_cases Y:jU X B A B.size=true
     ·obtain⟨f1,f2,U,F⟩:=O.out Y;have E:w1.cell? ⟨G,n *9+3,none⟩=some (ii ((A:Int)+1)):=by rw[<-f2];simp only[ae,K]
      have J:w1.cell? ⟨G,n *9+1,none⟩=some (ii (16 *((0:Nat):Int)+if 0<n then 256 else 0)):=by rw[<-U];simp only[ae,K]
      have W:w1.cell? ⟨G,n *9+5,none⟩=some (.string ⟨#[48]⟩):=by rw[<-F];simp only[ae,K]
      rw[if_pos Y]at D;rw[Y];clear Y f2 U F;have d:(n:Int)<(N:Int):=by omega
      by_cases M:0<n
      ·rw[if_pos M]at J;have f:(0:Int)<(n:Int):=by omega
       go_wp2
       go_roundw
       case rel=>exact⟨_,_,_,_,_,_,_,_,_,_,_,_,_,_,_,_,_,_,_,_,_,_,_,_,_,_,_,_,_,_,_,_,_,_,_,_,_,_,_,_,_,_,_,_,_,_,_,_,_,_,_,_,_,_,_,_,_,_,_,⟨A+1,by omega,by go_num,iY (by rw[D.out];simp),K⟩,rfl⟩
       case measure=>go_light;simp[intOf];omega
      ·rw[if_neg M]at J;obtain rfl:n=0:=by omega
       go_wp2
       go_roundw
       case rel=>exact⟨_,_,_,_,_,_,_,_,_,_,_,_,_,_,_,_,_,_,_,_,_,_,_,_,_,_,_,_,_,_,_,_,_,_,_,_,_,_,_,_,_,_,_,_,_,_,_,_,_,_,_,_,_,_,_,_,_,_,_,⟨A+1,by omega,by go_num,iY (by rw[D.out];rfl),K⟩,rfl⟩
       case measure=>go_light;simp[intOf];omega
     ·rw[if_neg Y]at D;rw[ax]at Y;rw[Y];clear Y;go_wp2
      go_roundw
      case rel=>exact⟨_,_,_,_,_,_,_,_,_,_,_,_,_,_,_,_,_,_,_,_,_,_,_,_,_,_,_,_,_,_,_,_,_,_,_,_,_,_,_,_,_,_,_,_,_,_,_,_,_,_,_,_,_,_,_,_,_,_,_,⟨A+1,by omega,by go_num,iY (by rw[D.out];rfl),K⟩,rfl⟩
      case measure=>go_light;simp[intOf];omega
    ·have P:Hid (A=X.size+1-B.size):=laid (by omega);go_wp2
     go_roundw
     case rel=>go_light;exact⟨1,by omega,by go_num,iY (by rw[P.out];rfl),R⟩
     case measure=>go_light;simp[intOf]
  ·simp only[if_true,if_false,Nat.succ_ne_zero];go_wp2_with fail
   refine(Hk B _ (by omega)).mono ?_;rintro e w0 ⟨rfl,rfl⟩;have z:=P2 B;go_wp2
   go_loopw [14,17] (fun n a wr=>∃A:Nat,A<=X.size+1-B.size/\a=ii A/\n=ii (hN X B 1 A:Nat)/\wr.heap=w.heap) (fun _ a _=>X.size+1-B.size-(intOf a).toNat)
   case atStart=>exact⟨0,by omega,rfl,rfl,hw⟩
   case round=>
    obtain⟨A,q,rfl,rfl,R⟩:=hrel;have c:=Kl X B 1 A;by_cases I:A+B.size<=X.size
    ·have D:Hid (hN X B 1 (A+1)=hN X B 1 A+if jU X (g_ B 0) A (g_ B 0).size=true then 1 else 0):=laid (Nat.add_assoc _ _ _).symm;have O:=laid (V.out 1 A (by omega) I);generalize hN X B 1 A=n at *;go_wp2_with fail
     refine(OZ X (g_ B 0) A _ (by omega) (by omega) (by omega)).mono ?_;rintro e w1 ⟨rfl,L⟩;have K:=L.trans R;clear L;by_cases Y:jU X (g_ B 0) A (g_ B 0).size=true
     ·obtain⟨f1,f2,U,F⟩:=O.out (by rw[z]at Y;exact Y);have E:w1.cell? ⟨G,n *9+3,none⟩=some (ii ((A:Int)+1)):=by rw[<-f2];simp only[ae,K]
      have J:w1.cell? ⟨G,n *9+1,none⟩=some (ii (16 *((1:Nat):Int)+if 0<n then 256 else 0)):=by rw[<-U];simp only[ae,K]
      have W:w1.cell? ⟨G,n *9+5,none⟩=some (.string ⟨#[48]⟩):=by rw[<-F];simp only[ae,K]
      rw[if_pos Y]at D;rw[Y];clear Y f2 U F;have d:(n:Int)<(N:Int):=by omega
      by_cases M:0<n
      ·rw[if_pos M]at J;have f:(0:Int)<(n:Int):=by omega
       go_wp2
       go_roundw
       case rel=>go_light;exact⟨A+1,by omega,by go_num,iY (by rw[D.out];simp),K⟩
       case measure=>go_light;simp[intOf];omega
      ·rw[if_neg M]at J;obtain rfl:n=0:=by omega
       go_wp2
       go_roundw
       case rel=>go_light;exact⟨A+1,by omega,by go_num,iY (by rw[D.out];rfl),K⟩
       case measure=>go_light;simp[intOf];omega
     ·rw[if_neg Y]at D;rw[ax]at Y;rw[Y];clear Y;go_wp2
      go_roundw
      case rel=>go_light;exact⟨A+1,by omega,by go_num,iY (by rw[D.out];rfl),K⟩
      case measure=>go_light;simp[intOf];omega
    ·have P:Hid (A=X.size+1-B.size):=laid (by omega);go_wp2
     go_roundw
     case rel=>go_light;exact⟨2,by omega,by go_num,iY (by rw[P.out];rfl),R⟩
     case measure=>go_light;simp[intOf]
  ·have g:Hid True:=laid trivial;go_wp2
   rw[Z.out];exact⟨rfl,rfl,by kernel_rfl,hw⟩
end
end Ph
section
open RowKit
theorem M0(p t:ByteArray):∀i,dT p t i i=0↔jU t p 0 i=true
 |0=>by simp[dT,jU]
 |i+1=>by
  rw[dT,jU,Bool.and_eq_true,<-M0 p t i,aH,R4];unfold cost;split<;>simp_all<;>omega
theorem Jd{p:ByteArray}{c:Nat}(Y:c<=X.size):∀i,a+i<=c->jU (X.extract a c) p 0 i=jU X p a i
 |0,_=>rfl
 |i+1,h=>by rw[jU,jU,Jd Y i (by omega),aH,vQ X a c i Y (by omega)]
theorem TR{p:ByteArray}{s:Nat}(D:s<=e)(Y:e<=X.size):jf p (X.extract s e)=0↔e=s+p.size/\jU X p s p.size=true:=by
 have H:(X.extract s e).size=e-s:=by rw[ByteArray.size_extract];omega
 unfold jf;rw[H];constructor
 ·intro h;have:=Bb p (X.extract s e) p.size (e-s);rw[h]at this;have K:e-s=p.size:=by omega
  rw[K,M0,Jd Y _ (by omega)]at h;exact⟨by omega,h⟩
 ·rintro⟨rfl,h⟩;rw[aB,M0,Jd Y _ (by omega)];exact h
theorem aj2{p:ByteArray}(K:e<=X.size):((gX p X 0 e).1<=0↔p.size<=e/\jU X p (e-p.size) p.size=true)/\((gX p X 0 e).1<=0->gX p X 0 e=(0,e-p.size)):=by
 obtain⟨A,U⟩:=vY p X 0 e K;have key:(gX p X 0 e).1<=0->p.size<=e/\jU X p (e-p.size) p.size=true/\gX p X 0 e=(0,e-p.size):=fun h=>by
  obtain⟨R,H,_⟩:=U h;have Y:(gX p X 0 e).1=0:=by omega
  rw[Y]at H;obtain⟨B,I⟩:=(TR R K).1 H;have D:(gX p X 0 e).2=e-p.size:=by omega
  exact⟨by omega,D▸I,Prod.ext Y D⟩
 refine⟨⟨fun h=>⟨(key h).1,(key h).2.1⟩,fun h=>?_⟩,fun h=>(key h).2.2⟩;have Y:=(TR (p:=p) (X:=X) (s:=e-p.size) (e:=e) (by omega) K).2 ⟨by omega,h.2⟩;have:=A (e-p.size) (by omega) (by omega);omega
theorem Km{p X:ByteArray}:∀n,n<=X.size+1->(jC p X 0 n).length=Ph.cnt X p (n-p.size)/\∀a,a+p.size<n->jU X p a p.size=true->(jC p X 0 n)[Ph.cnt X p a]?=some (a,a+p.size,0)
 |0,_=>⟨by simp[jC,Ph.cnt],fun a h=>by omega⟩
 |e+1,J=>by
  obtain⟨D,R⟩:=Km (p:=p) (X:=X) e (by omega);obtain⟨I,U⟩:=aj2 (p:=p) (X:=X) (e:=e) (by omega);rw[jC];by_cases K:(gX p X 0 e).1<=0
  ·rw[if_pos K,U K];obtain⟨c1,c2⟩:=I.1 K;have B:e+1-p.size=(e-p.size)+1:=by omega
   refine⟨by rw[ar,D,B,Ph.cnt,if_pos c2];rfl,fun a C Y=>?_⟩;by_cases A:a+p.size<e
   ·exact ay (ah.1 (R a A Y)).1▸R a A Y
   ·obtain rfl:a=e-p.size:=by omega
    rw[<-D,az (af _),Nat.sub_self];simp;omega
  ·rw[if_neg K];have H:¬(p.size<=e/\jU X p (e-p.size) p.size=true):=fun h=>K (I.2 h);refine⟨?_,fun a C Y=>?_⟩
   ·rw[D];by_cases F:p.size<=e
    ·rw[show e+1-p.size=(e-p.size)+1 by omega,Ph.cnt,if_neg (fun h=>H ⟨F,h⟩)];rfl
    ·rw[show e+1-p.size=e-p.size by omega]
   ·refine R a ?_ Y;rcases aD (a+p.size) e with h|h
    ·exact h
    ·obtain rfl:a=e-p.size:=by omega
     exact absurd ⟨by omega,Y⟩ H
theorem aau{b:List UInt8}(Z:x.length<=200)(V:1<=b.length)(h:w.ownsRow H 42 9 l (js x b 0).length (nM (js x b 0))):∃G C,l=.slice (some ⟨G,0,none⟩) (js x b 0).length C/\(js x b 0).length<=1000/\
  (∀s a,s<2->a+(str b).size<=(str x).size->jU (str x) (Ph.ow (str b) s) a (str b).size=true->Ph.hN (str x) (str b) s a<(js x b 0).length/\w.cell? ⟨G,Ph.hN (str x) (str b) s a *9+3,none⟩=some (Ph.ii ((a:Int)+1))/\w.cell? ⟨G,Ph.hN (str x) (str b) s a *9+1,none⟩=some (Ph.ii (16 *(s:Int)+if 0<Ph.hN (str x) (str b) s a then 256 else 0))/\w.cell? ⟨G,Ph.hN (str x) (str b) s a *9+5,none⟩=some (.string ⟨#[48]⟩))/\
  (Ph.hN (str x) (str b) 1 ((str x).size+1-(str b).size)=(js x b 0).length\/Ph.hN (str x) (str b) 1 ((str x).size+1-(str b).size)=0/\(js x b 0).length=1/\w.cell? ⟨G,1,none⟩=some (Ph.ii 4)):=by
 obtain⟨l1,g1⟩:=Km (p:=str b) (X:=str x) _ (af _);obtain⟨l2,B⟩:=Km (p:=g_ (str b) 0) (X:=str x) _ (af _);have Q:=Ph.P2 (str b);rw[Q]at l2 B;have E:=yo (str b) (str x) 0 ((str x).size+1);have W:=yo (g_ (str b) 0) (str x) 0 ((str x).size+1);have T:(str x).size=x.length:=gV x;have hd:js x b 0=if jC (str b) (str x) 0 ((str x).size+1)=[]/\jC (g_ (str b) 0) (str x) 0 ((str x).size+1)=[]then [xB [97] b (iG b.length)]else oz [114] (str x) [97] b (iG b.length) 0 false (jC (str b) (str x) 0 ((str x).size+1))++oz [114] (str x) [97] (g_ (str b) 0).data.toList (jW (str (iG b.length))) 16 (decide (jC (str b) (str x) 0 ((str x).size+1)≠ [])) (jC (g_ (str b) 0) (str x) 0 ((str x).size+1)):=rfl
 generalize js x b 0=rs at *;generalize jC (str b) (str x) 0 ((str x).size+1)=K at *;generalize jC (g_ (str b) 0) (str x) 0 ((str x).size+1)=D at *;have F:Ph.hN (str x) (str b) 1 ((str x).size+1-(str b).size)=K.length+D.length:=by rw[l1,l2];rfl
 by_cases U:K=[]/\D=[]
 ·rw[if_pos U]at hd;obtain⟨rfl,rfl⟩:=U;subst hd;obtain⟨G,C,e,_,_,R⟩:=IF h (by simp);refine⟨G,C,e,by simp,fun s a N S Y=>?_,.inr ⟨F,rfl,?_⟩⟩
  ·rcases(show s=0\/s=1 by omega)with rfl|rfl
   ·have:=g1 a (by omega) Y;simp at this
   ·have:=B a (by omega) Y;simp at this
  ·exact R 0 1 _ rfl (by omega)
 ·rw[if_neg U]at hd;have M:rs.length=K.length+D.length:=by rw[hd,ar,tA,tA]
  obtain⟨G,C,e,_,_,R⟩:=IF h (by
   rw[M];rcases K with _|⟨y,K⟩
   ·rcases D with _|⟨y,D⟩
    ·exact absurd ⟨rfl,rfl⟩ U
    ·simp
   ·simp;omega)
  refine⟨G,C,e,by omega,fun s a N S Y=>?_,.inl (F.trans M.symm)⟩;have fin:∀n p mk i add more,rs[n]?=some (ui [114] (str x) [97] p mk (nL add more i) (a,a+(str b).size,0))->nL add more i=16 *s+(if 0<n then 256 else 0)->s<2->n<rs.length/\w.cell? ⟨G,n *9+3,none⟩=some (Ph.ii ((a:Int)+1))/\w.cell? ⟨G,n *9+1,none⟩=some (Ph.ii (16 *(s:Int)+if 0<n then 256 else 0))/\w.cell? ⟨G,n *9+5,none⟩=some (.string ⟨#[48]⟩):=fun n p mk i add more A J N=>by
   have O:=R n 3 _ A (by omega);have c1:=R n 1 _ A (by omega);have P:=R n 5 _ A (by omega);refine⟨(ah.1 A).1,?_,?_,?_⟩
   ·rw[O];show some (Value.int .i64 (j0 (str (gR (a+1)))))=_
    rw[yS (by omega)];rfl
   ·rw[c1];show some (Value.int .i64 (j0 (str (gR (nL add more i)))))=_
    rw[yS (by rw[J];split<;>omega),J];have:((16 *s+(if 0<n then 256 else 0):Nat):Int)=16 *(s:Int)+if 0<n then 256 else 0:=by split<;>omega
    rw[this]
   ·rw[P];rfl
  rcases(show s=0\/s=1 by omega)with rfl|rfl
  ·have I:=g1 a (by omega) Y;have L:=(ah.1 I).1;refine fin (Ph.cnt (str x) (str b) a) b (iG b.length) (Ph.cnt (str x) (str b) a) 0 false ?_ ?_ (by omega)
   ·rw[hd,ay (by rw[tA];exact L)];exact CR I
   ·unfold nL;simp
  ·have I:=B a (by omega) (by exact Y);have L:=(ah.1 I).1;have hN:Ph.hN (str x) (str b) 1 a=K.length+Ph.cnt (str x) (g_ (str b) 0) a:=by rw[l1];rfl
   rw[hN];refine fin _ (g_ (str b) 0).data.toList (jW (str (iG b.length))) (Ph.cnt (str x) (g_ (str b) 0) a) 16 (decide (K≠ [])) ?_ ?_ (by omega)
   ·rw[hd,az (by rw[tA];omega),tA,aB];exact CR I
   ·unfold nL;rcases K with _|⟨y,K⟩
    ·simp;split<;>rfl
    ·rw[if_pos (.inl (by simp)),if_pos (by simp;omega)]
end
namespace Ph
open Conc Ren RowKit
theorem aik{n G N C:Nat}(hN:N<=1000)(D:n<=1000)(h:n=N\/n=0/\N=1/\w.cell? ⟨G,1,none⟩=some (ii 4)):
  (cp [2,2,2,2,2,2,2,2,2,2,1] mT).wp PR (fun e a' v'=>e=.normal/\a'.defers=[]/\a'.tmps.getD 6 undef=.bool true/\v'.heap=w.heap) ⟨Cd u n G N C,[]⟩ w:=by
 obtain⟨Q,Y⟩:∃Q:Exit->Act->World->Prop,Q=(fun e a' v'=>e=.normal/\a'.defers=[]/\a'.tmps.getD 6 undef=.bool true/\v'.heap=w.heap):=⟨_,rfl⟩;rw[<-Y];have K:=laid Y;clear Y;unfold mT ak Cd;simp only[au,cp];rcases h with rfl|⟨rfl,rfl,h⟩
 ·go_wp2
  rw[K.out];exact⟨rfl,rfl,rfl,rfl⟩
 ·go_wp2
  rw[K.out];exact⟨rfl,rfl,rfl,rfl⟩
section
variable{y:MY}{Q:QT}{v v0:World}{x b:List UInt8}{L:Value}{H:Nat}
theorem ab_(hX:y.X=str x)(V:y.B=str b)(z:x.length<=100)(M:1<=b.length)(j:b.length<=30)(h:v.ownsRow H 42 9 L (js x b 0).length (nM (js x b 0)))(q:Kw v0 v):
  GW true Q (fun y v'=>y=.bool true/\Kw v0 v') 10 [.code (cp [2,2,2,2,2,2,2] mT)] (tf y L 6) v:=by
 have Y:∃F,PR.funcs[10]?=some F:=⟨_,Tryz.func10⟩;obtain⟨G,C,rfl,K,Z,hF⟩:=aau (by omega) M h;generalize(js x b 0).length=N at *;have d:(str x).size=x.length:=gV x;have c:(str b).size=b.length:=gV b;refine GW.run 1 (k':=[.code (cp [2,2,2,2,2,2,2,1] mT),.code (cp [2,2,2,2,2,2,2,2] mT)]) ?_;refine GW.any (fun u=>Ac u y.X y.B (.slice (some ⟨G,0,none⟩) N C)) (by kernel_rfl) fun u=>?_;refine ao Y (by kernel_rfl) (R1:=fun a' v'=>a'=Ac (fun i=>a'.getD i undef) y.X y.B (.slice (some ⟨G,0,none⟩) N C)/\v'.heap=v.heap) (by kernel_rfl) (fun T=>aj1 (w:=tp v T)) ?_;rintro a1 v1 ⟨I,D⟩;rw[I];generalize(fun i=>a1.getD i undef)=u1;clear I;refine GW.run 2 (k':=[.inRegion (opsOf (cp [2,2,2,2,2,2,2,2,1] mT)) [0],.code (cp [2,2,2,2,2,2,2,2,2] mT)]) ?_;refine GW.gS Y [0] ?_;refine GW.any (fun u=>MZ u y.X y.B G N C) (by kernel_rfl) fun u2=>?_;refine GW.run 2 (k':=[.code (cp [2,2,2,2,2,2,2,2,2,1] mT),.code (cp [2,2,2,2,2,2,2,2,2,2] mT)]) ?_;rw[hX,V];refine ao Y (by kernel_rfl) (R1:=fun a' v'=>a'=Cd (fun i=>a'.getD i undef) (hN (str x) (str b) 1 ((str x).size+1-(str b).size)) G N C/\v'.heap=v1.heap) (by kernel_rfl) (fun T=>aef (w:=tp v1 T) (by omega) (by omega) (by omega) K fun s a E J R=>?_) ?_
 ·have e:∀p,(tp v1 T).cell? p=v.cell? p:=fun p=>by simp only[ae];rw[show(tp v1 T).heap=v1.heap from rfl,D]
  rw[e,e,e];exact Z s a E J R
 rintro a3 v3 ⟨A,U⟩;rw[A];generalize(fun i=>a3.getD i undef)=u3;clear A;have W:=Kl (str x) (str b) 1 ((str x).size+1-(str b).size);generalize Ph.hN (str x) (str b) 1 ((str x).size+1-(str b).size)=n at *;refine GW.run 1 (k':=[.code (cp [2,2,2,2,2,2,2,2,2,2,1] mT),.code .ret]) ?_;refine ao Y (by kernel_rfl) (R1:=fun a' v'=>a'.getD 6 undef=.bool true/\v'.heap=v3.heap) rfl (fun T=>aik (w:=tp v3 T) K (by omega) ?_) ?_
 ·rcases hF with hF|⟨f1,f2,O⟩
  ·exact .inl hF
  ·refine .inr ⟨f1,f2,?_⟩;rw[<-O];simp only[ae];rw[show(tp v3 T).heap=v3.heap from rfl,U,D]
 ·rintro a4 v4 ⟨P,S⟩;exact GW.zB Y 6 ⟨P,q.trans fun a J=>by rw[S,U,D]⟩
end
section
variable{W:World}{a0 a1:Option Addr}{l0 l1 c0 c1:Nat}{I z1:Nat->Int}{q1 t1 w1:Int}{UC:Value->World->Prop}
theorem aeg(i0:pq W a0 l0 I)(i1:pq W a1 l1 z1)(S:k_ q1/\k_ t1/\k_ w1)(H:Here (fun _=>False) W)(i:∀Z d,gU (fun _=>False) W Z->UC (.bool true) (Z.at d)):
  gu PR (Ren.Ends PR UC) (fun _=>False) (Frame.enter PR 10 #[.slice a0 l0 c0,.slice a1 l1 c1,.agg #[ii q1,ii t1,ii w1]] .normal) [] W:=by
 refine gu.qZ 60 _ ak1 fun v1 g1 _=>?_;refine gu.alloc (F:=fun B=>(nF (mi [] [0,1]) (zD (.slice a0 l0 c0) (.slice a1 l1 c1) (.agg #[ii q1,ii t1,ii w1]))).finish (ptr B)) (o:=.cells #[ii q1,ii t1,ii w1] 28) (fun w'=>wv agc rfl rfl w') fun Q v2 n1 u1 r o1 s=>?_;refine gu.qZ 60 _ ak2 fun v5 v _=>?_;refine gu.pure 1 fun v6 w=>?_;rw[agd];have Y:=v.trans (gU.of w);have D:=(g1.trans s).trans Y;have O:=H.on D;have E1:=Y.at r o1;have s1:=jQ E1;refine O.call ID (fun _ y=>y) (fun _ y=>.inl y) ⟨fun _ _ _=>rfl,af _,rfl,mD.refl _,rfl⟩ fun Z7 v7 m7 o7 f=>?_;refine gu.pure 11 fun v8 k8=>?_;rw[aij];refine gu.qZ 60 _ ak3 fun v9 m _=>?_;refine gu.pure 1 fun vA kA=>?_;rw[age];refine yQ (yT i0 D) (by omega) O m7 o7 (((f.on o7 (gU.of k8)).on o7 m).on o7 (gU.of kA)) fun ZB vB mB J g=>?_;have ex:(⟨#[65]⟩:ByteArray)++str (iS I (min l0 60))=str (65::iS I (min l0 60)):=pX [65] _;refine gu.still (fun w'=>Dc agf rfl rfl (by rw[gV,sb];have:(⟨#[65]⟩:ByteArray).size=1:=rfl;omega) w') fun vC n _=>?_;rw[ex];refine gu.qZ 60 _ ak4 fun vD t _=>?_;refine gu.pure 1 fun vE kE=>?_;rw[agh];refine yQ (yT i1 D) (by omega) O mB J (((g.on J n).on J t).on J (gU.of kE)) fun ZF vF mF z M=>?_;rw[ak5];have N:=D.trans M;have X:∀c∈65::iS I (min l0 60),gP c:=fun c T=>(aj.1 T).elim (fun e=>by rw[e];exact⟨by decide,by decide⟩) (C9 _ _ c);have V:∀c∈67::iS z1 (min l1 5),gP c:=fun c T=>(aj.1 T).elim (fun e=>by rw[e];exact⟨by decide,by decide⟩) (C9 _ _ c);have lx:(65::iS I (min l0 60)).length<=61:=by rw[ai,sb];omega
 have j:(67::iS z1 (min l1 5)).length<=6:=by rw[ai,sb];omega
 have gr:=g1.grow;refine Jb (Bs:=[Q]) i H (fun l y=>(z l y).elim .inl fun⟨a,e,q⟩=>.inr ⟨a,e,Nat.le_trans D.grow q⟩) N ?_ ?_ fun E R=>?_
 ·intro b G;simp only[aj,aA,or_false]at G;subst G;exact⟨by omega,su z (fun _ _ y=>y) s1,_,_,_,M.at E1 (fun _ _ y=>y)⟩
 ·intro p U;simp only[zE,xS,xR,zD,List.mem_append,aj,aA,or_false]at U
  repeat' rcases U with U|U
  all_goals first|exact .inl ⟨_,_,_,rfl⟩|exact .inr (.inr ⟨Q,by simp,rfl⟩)|exact .inr (.inl (by kernel_rfl))
 ·refine GW.to (tf ⟨.agg #[ii q1,ii t1,ii w1],Q,str (iS I (min l0 60)),str (65::iS I (min l0 60)),str (iS z1 (min l1 5)),str (67::iS z1 (min l1 5)),str (iF (65::iS I (min l0 60))),str (iH (67::iS z1 (min l1 5))),str (mo (str (iF (65::iS I (min l0 60)))) (str (iH (67::iS z1 (min l1 5)))) 0)⟩ undef 0) ?_;generalize iS I (min l0 60)=m0 at *;generalize iS z1 (min l1 5)=C at *;refine aee (q1:=q1) (t1:=t1) (w1:=w1) (P:=fun L v'=>∃h,v'.ownsRow h 42 9 L (js (65::m0) (67::C) 0).length (nM (js (65::m0) (67::C) 0))) (by show(str _).size<=50;rw[gV];rw[ai]at j;omega) (pX [67] _) rfl (M.at E1 (fun _ _ y=>y)) (fun u K=>TK (by omega) K) (fun u K=>D7 (by omega) K) ?_ ?_ ?_
  ·intro u K;have A:0<(67::C).length:=by simp
   refine gW.mono (IC (k:=((0:Nat):Int)) ?_ ?_ ?_ ?_ ?_ (K.tabs E) (K.qU E R)) fun y v' h=>⟨by rw[h.1,IE X (by simp) (by omega) V (by simp) (by omega) (by omega),Dg X (by simp) (by omega) V (by simp) (by omega) (by omega),if_pos A,if_pos A],K.trans h.2⟩;all_goals first
    |exact S.1|exact S.2.1|exact S.2.2
    |(rw[gV];simp only[iF,iH,nY,ar,ai,List.length_nil,maxLen]at lx j⊢;omega)
  ·intro u K;refine gW.mono (Ar X (by simp) (by omega) V (by simp) (by omega) (by omega)) ?_;rintro y v' ⟨l,rfl,hr,hk⟩;exact⟨l,rfl,⟨_,hr⟩,K.trans hk⟩
  ·rintro L v' ⟨h,hr⟩ hk;exact ab_ (x:=65::m0) (b:=67::C) rfl rfl (by omega) (by simp) (by omega) hr hk
end
end Ph
end
end Go.Proofs.YtdcjnhipenbcfaaGreatDoor
