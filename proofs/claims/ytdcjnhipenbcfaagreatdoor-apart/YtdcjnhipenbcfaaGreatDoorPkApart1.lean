/-
  Own text. Part 11 of what the claim rests on.
-/
import Derived.Test.YtdcjnhipenbcfaaGreatDoorPk10
set_option linter.unusedVariables false
set_option linter.unusedSectionVars false
set_option linter.unusedSimpArgs false
set_option maxRecDepth 100000
set_option maxHeartbeats 16000000
open Go.Proofs.Tryz renaming f11->akE,func11->akH
open Go.Proofs.YtdcjnhipenbcfaaGreatDoor.Ph.GW renaming fh->akB,piece->akF,cond->akJ
open List renaming length_append->akz,length_cons->akA,length_nil->akD,mem_cons->akG,not_mem_nil->akI
open Option renaming getD_some->akC
namespace Go.Proofs.YtdcjnhipenbcfaaGreatDoor
variable {d:Bool}{ref:ByteArray}{a x:List UInt8}{n:Nat}
namespace Ph
open Conc Ren RowKit
abbrev nL(site:List Item)(al:List (Nat×Value)):Frame:=ru 11 120 site (sA al) fun _=>undef
noncomputable def lq:Code:=akE.body.getD .skip
noncomputable abbrev kN (p:List Nat) (l:List Nat):List Item:=[.inRegion (opsOf (cp (p++[1]) lq)) l,.code (cp (p++[2]) lq)]
def IK(t p q:Value)(k:Int)(o:Value):List (Nat×Value):=[(0,t),(1,p),(2,q),(3,ii k),(4,o)]
def E5(t p q:Value)(k:Int)(o:Value)(b:Nat):List (Nat×Value):=IK t p q k o++[(9,ptr b),(10,.bool false)]
def vk(t p q:Value)(k:Int)(o:Value)(b:Nat):List (Nat×Value):=E5 t p q k o b++[(24,.bool true),(11,.bool true),(25,.bool true),(26,.bool false),(27,t)]
def vm(t p q:Value)(k:Int)(o:Value)(b:Nat)(x0 X RF:ByteArray):List (Nat×Value):=vk t p q k o b++[(28,.string x0),(29,.string X),(30,.string RF),(12,.string RF),(31,p)]
def IM(t p q:Value)(k:Int)(o:Value)(b:Nat)(x0 X RF a0 A RA:ByteArray):List (Nat×Value):=vm t p q k o b x0 X RF++[(32,.string a0),(33,.string A),(34,.string RA),(13,.string RA),(35,q)]
section
variable{t p q o:Value}{k:Int}{b:Nat}{x0 X RF a0 A RA g0:ByteArray}
theorem aby:aY PR 60 (Frame.enter PR 11 #[t,p,q,ii k,o] .normal) []=(nL (kN [] [0,1]) (IK t p q k o),[]):=by kernel_rfl
theorem Pq:(opAt (nL (kN [] [0,1]) (IK t p q k o))).map (fun o=>o.op)=some (.box 28 (.tmp 4)):=by kernel_rfl
theorem abz:aY PR 60 ((nL (kN [] [0,1]) (IK t p q k o)).finish (ptr b)) []=(nL (kN [2] [0,1]) (E5 t p q k o b),[]):=by kernel_rfl
theorem Pr:aQ PR 1 (nL (kN [2] [0,1]) (E5 t p q k o b)) []=(Frame.enter PR 16 #[] .normal,[nL (kN [2] [0,1]) (E5 t p q k o b)]):=by kernel_rfl
theorem abA:aY PR 60 (aQ PR 11 ((nL (kN [2] [0,1]) (E5 t p q k o b)).finish (.bool true)) []).1 []=(nL (kN [2,2,2] [1,2,3,4]) (vk t p q k o b),[]):=by kernel_rfl
theorem Tj:(aQ PR 11 ((nL (kN [2] [0,1]) (E5 t p q k o b)).finish (.bool true)) []).2=[]:=by kernel_rfl
theorem Ps:aQ PR 1 (nL (kN [2,2,2] [1,2,3,4]) (vk t p q k o b)) []=(Frame.enter PR 18 #[t,ii (60:Nat)] .normal,[nL (kN [2,2,2] [1,2,3,4]) (vk t p q k o b)]):=by kernel_rfl
theorem Pt:(opAt ((nL (kN [2,2,2] [1,2,3,4]) (vk t p q k o b)).finish (.string x0))).map (fun o=>o.op)=some (.binOp .add 9 (.const (.string ⟨#[65]⟩)) (.tmp 28) 9):=by kernel_rfl
theorem abB:((nL (kN [2,2,2] [1,2,3,4]) (vk t p q k o b)).finish (.string x0)).finish (.string X)=nL (kN [2,2,2] [3,4]) (vk t p q k o b++[(28,.string x0),(29,.string X)]):=by kernel_rfl
theorem Pu:aQ PR 1 (nL (kN [2,2,2] [3,4]) (vk t p q k o b++[(28,.string x0),(29,.string X)])) []=(Frame.enter PR 23 #[.string X] .normal,[nL (kN [2,2,2] [3,4]) (vk t p q k o b++[(28,.string x0),(29,.string X)])]):=by kernel_rfl
theorem abC:aY PR 60 ((nL (kN [2,2,2] [3,4]) (vk t p q k o b++[(28,.string x0),(29,.string X)])).finish (.string RF)) []=(nL (kN [2,2,2,2] [1,2,3,4]) (vm t p q k o b x0 X RF),[]):=by kernel_rfl
theorem Pv:aQ PR 1 (nL (kN [2,2,2,2] [1,2,3,4]) (vm t p q k o b x0 X RF)) []=(Frame.enter PR 18 #[p,ii (9:Nat)] .normal,[nL (kN [2,2,2,2] [1,2,3,4]) (vm t p q k o b x0 X RF)]):=by kernel_rfl
theorem Pw:(opAt ((nL (kN [2,2,2,2] [1,2,3,4]) (vm t p q k o b x0 X RF)).finish (.string a0))).map (fun o=>o.op)=some (.binOp .add 9 (.const (.string ⟨#[67]⟩)) (.tmp 32) 9):=by kernel_rfl
theorem abD:((nL (kN [2,2,2,2] [1,2,3,4]) (vm t p q k o b x0 X RF)).finish (.string a0)).finish (.string A)=nL (kN [2,2,2,2] [3,4]) (vm t p q k o b x0 X RF++[(32,.string a0),(33,.string A)]):=by kernel_rfl
theorem Px:aQ PR 1 (nL (kN [2,2,2,2] [3,4]) (vm t p q k o b x0 X RF++[(32,.string a0),(33,.string A)])) []=(Frame.enter PR 24 #[.string A] .normal,[nL (kN [2,2,2,2] [3,4]) (vm t p q k o b x0 X RF++[(32,.string a0),(33,.string A)])]):=by kernel_rfl
theorem abE:aY PR 60 ((nL (kN [2,2,2,2] [3,4]) (vm t p q k o b x0 X RF++[(32,.string a0),(33,.string A)])).finish (.string RA)) []=(nL (kN [2,2,2,2,2] [1,2,3,4]) (IM t p q k o b x0 X RF a0 A RA),[]):=by kernel_rfl
theorem Py:aQ PR 1 (nL (kN [2,2,2,2,2] [1,2,3,4]) (IM t p q k o b x0 X RF a0 A RA)) []=(Frame.enter PR 18 #[q,ii (9:Nat)] .normal,[nL (kN [2,2,2,2,2] [1,2,3,4]) (IM t p q k o b x0 X RF a0 A RA)]):=by kernel_rfl
theorem abF:(nL (kN [2,2,2,2,2] [1,2,3,4]) (IM t p q k o b x0 X RF a0 A RA)).finish (.string g0)=nL (kN [2,2,2,2,2] [2,3,4]) (IM t p q k o b x0 X RF a0 A RA++[(36,.string g0)]):=by kernel_rfl
end
structure Yp where
 (k n E1 E2 E3:Int) (o:Value) (b:Nat) (x0 X RF a0 A RA g0 G RG RB S1 S2 S3 S4:ByteArray)
def oD(y:Yp)(m:Nat):Array Value:=#[.tuple #[],.tuple #[],.tuple #[],ii y.k,y.o,undef,undef,undef,undef,ptr y.b,.bool false,.bool true,.string y.RF,.string y.RA,kp 3 m (.string y.RG),kp 6 m (ii y.n),kp 10 m (.string y.S1),kp 10 m (ii y.E1),kp 14 m (.string y.S2),kp 14 m (ii y.E2),kp 20 m (.string y.S3),kp 20 m (ii y.E3),kp 24 m (.string y.S4),kp 24 m (ii 0),.bool true,.bool true,.bool false,.tuple #[],.string y.x0,.string y.X,.string y.RF,.tuple #[],.string y.a0,.string y.A,.string y.RA,.tuple #[],.string y.g0,kp 1 m (.string y.G),kp 2 m (.string y.RG),kp 4 m (ii y.k),kp 5 m (ii y.n),kp 10 m (.tuple #[.string y.S1,ii y.E1]),kp 7 m (.string y.RF),kp 7 m (.string y.RA),kp 7 m (ii y.n),kp 8 m (y.o),kp 9 m (.tuple #[.string y.S1,ii y.E1]),kp 10 m (.string y.S1),kp 10 m (ii y.E1),kp 14 m (.tuple #[.string y.S2,ii y.E2]),kp 11 m (.string y.RF),kp 11 m (.string y.RG),kp 11 m (ii y.n),kp 12 m (y.o),kp 13 m (.tuple #[.string y.S2,ii y.E2]),kp 14 m (.string y.S2),kp 14 m (ii y.E2),kp 20 m (.tuple #[.string y.S3,ii y.E3]),kp 15 m (.string y.RF),kp 15 m (.string y.RA),kp 15 m (.string y.RG),kp 16 m (.string y.RB),kp 17 m (ii y.n),kp 18 m (y.o),kp 19 m (.tuple #[.string y.S3,ii y.E3]),kp 20 m (.string y.S3),kp 20 m (ii y.E3),kp 24 m (.tuple #[.string y.S4,ii 0]),kp 21 m (.string y.RF),kp 21 m (ii y.n),kp 22 m (y.o),kp 23 m (.tuple #[.string y.S4,ii 0]),kp 24 m (.string y.S4),kp 24 m (ii 0),kp 25 m (ii 0),kp 25 m (.bool false),undef,undef,undef,undef,undef,undef,undef,undef,undef,undef,undef,undef,undef,undef,undef,undef,undef,undef,undef,undef,undef,undef,undef,undef,undef,undef,undef,undef,undef,undef,undef,undef,undef,undef,undef,undef,undef,undef,undef,undef,undef,undef,undef,undef]
def Cu(u:Nat->Value)(S1 S2 S3 S4:ByteArray)(E1 E2 E3:Int):Array Value:=#[u 0,u 1,u 2,u 3,u 4,u 5,u 6,u 7,u 8,u 9,u 10,u 11,u 12,u 13,u 14,u 15,.string S1,ii E1,.string S2,ii E2,.string S3,ii E3,.string S4,u 23,u 24,u 25,u 26,u 27,u 28,u 29,u 30,u 31,u 32,u 33,u 34,u 35,u 36,u 37,u 38,u 39,u 40,u 41,u 42,u 43,u 44,u 45,u 46,u 47,u 48,u 49,u 50,u 51,u 52,u 53,u 54,u 55,u 56,u 57,u 58,u 59,u 60,u 61,u 62,u 63,u 64,u 65,u 66,u 67,u 68,u 69,u 70,u 71,u 72,u 73,u 74,u 75,u 76,u 77,u 78,u 79,u 80,u 81,u 82,u 83,u 84,u 85,u 86,u 87,u 88,u 89,u 90,u 91,u 92,u 93,u 94,u 95,u 96,u 97,u 98,u 99,u 100,u 101,u 102,u 103,u 104,u 105,u 106,u 107,u 108,u 109,u 110,u 111,u 112,u 113,u 114,u 115,u 116,u 117,u 118,u 119]
section
variable{y:Yp}{Q:QT}{v:World}{q1 t1 w1:Int}
theorem Mn(J:y.g0.size<=50)(B:(⟨#[71]⟩:ByteArray)++y.g0=y.G)(U:y.RA++y.RG=y.RB)(C:y.RA.size+y.RG.size<=1000)(hk:du y.k)(L:y.n=(cD y.k 3:Nat))(K:y.o=.agg #[ii q1,ii t1,ii w1])(c1:v.heap[y.b]?=some (.cells #[ii q1,ii t1,ii w1] 28))
  (f1:∀u,Kw v u->aL Q 24 #[.string y.G] u fun z v'=>z=.string y.RG/\Kw v v')
  (f2:∀u,Kw v u->aL Q 22 #[.string y.RF,.string y.RA,ii y.n,y.o] u fun z v'=>z=.tuple #[.string y.S1,ii y.E1]/\Kw v v')(f3:∀u,Kw v u->aL Q 22 #[.string y.RF,.string y.RG,ii y.n,y.o] u fun z v'=>z=.tuple #[.string y.S2,ii y.E2]/\Kw v v')(f4:∀u,Kw v u->aL Q 22 #[.string y.RF,.string y.RB,ii y.n,y.o] u fun z v'=>z=.tuple #[.string y.S3,ii y.E3]/\Kw v v')(f5:∀u,Kw v u->aL Q 22 #[.string y.RF,.string ⟨#[]⟩,ii y.n,y.o] u fun z v'=>z=.tuple #[.string y.S4,ii 0]/\Kw v v')
  (g:∀v',Kw v v'->GW true Q (fun y v'=>y=.bool true/\Kw v v') 11 [.code (cp [2,2,2,2,2,2,2,2,2,2,2,2] lq)] (oD y 25) v'):GW true Q (fun y v'=>y=.bool true/\Kw v v') 11 (kN [2,2,2,2,2] [2,3,4]) (oD y 0) v:=by
 have Y:∃F,PR.funcs[11]?=some F:=⟨_,akH⟩;refine GW.cat Y (.const (.string ⟨#[71]⟩)) (.tmp 36) (x:=⟨#[71]⟩) (y:=y.g0) (by have:(⟨#[71]⟩:ByteArray).size=1:=rfl;omega) ?_;rw[B];refine GW.to (oD y 1) ?_;refine GW.call Y (f1 _ (.refl v)) ?_;rintro z v1 ⟨rfl,k1⟩;refine GW.to (oD y 2) ?_;refine akB Y [4] ?_;refine GW.to (oD y 3) ?_;refine GW.run 3 (k':=kN [2,2,2,2,2,2] [0,1,2]) ?_;refine akB Y [0] ?_;refine GW.to (oD y 4) ?_;refine GW.call Y (qU (n:=3) hk (by omega) (by omega) k1) ?_;rintro z v2 ⟨rfl,H⟩;rw[<-L];refine GW.to (oD y 5) ?_;refine akB Y [2] ?_;refine GW.to (oD y 6) ?_;refine GW.run 3 (k':=kN [2,2,2,2,2,2,2] [0,1,2,3,4,5,6,7,8,9]) ?_;refine akB Y [0,1,2] ?_;refine GW.to (oD y 7) ?_;refine GW.ld Y ((yi (H.at c1)).trans (by rw[<-K])) ?_;refine GW.to (oD y 8) ?_;refine GW.call Y (f2 _ H) ?_;rintro z v3 ⟨rfl,D⟩;refine GW.to (oD y 9) ?_;refine akB Y [5,6,7,8,9] ?_;refine GW.to (oD y 10) ?_;refine GW.run 3 (k':=kN [2,2,2,2,2,2,2,2] [0,1,2,3,4,5,6,7,8,9]) ?_;refine akB Y [0,1,2] ?_;refine GW.to (oD y 11) ?_;refine GW.ld Y ((yi (D.at c1)).trans (by rw[<-K])) ?_;refine GW.to (oD y 12) ?_;refine GW.call Y (f3 _ D) ?_;rintro z v4 ⟨rfl,R⟩;refine GW.to (oD y 13) ?_;refine akB Y [5,6,7,8,9] ?_;refine GW.to (oD y 14) ?_;refine GW.run 3 (k':=kN [2,2,2,2,2,2,2,2,2] [0,1,2,3,4,5,6,7,8,9,10,11]) ?_;refine akB Y [0,1,2] ?_;refine GW.to (oD y 15) ?_;refine GW.cat Y (.tmp 59) (.tmp 60) (x:=y.RA) (y:=y.RG) (by omega) ?_;rw[U];refine GW.to (oD y 16) ?_;refine akB Y [4] ?_;refine GW.to (oD y 17) ?_;refine GW.ld Y ((yi (R.at c1)).trans (by rw[<-K])) ?_;refine GW.to (oD y 18) ?_;refine GW.call Y (f4 _ R) ?_;rintro z v5 ⟨rfl,I⟩;refine GW.to (oD y 19) ?_;refine akB Y [7,8,9,10,11] ?_;refine GW.to (oD y 20) ?_;refine GW.run 3 (k':=kN [2,2,2,2,2,2,2,2,2,2] [0,1,2,3,4,5,6,7,8]) ?_;refine akB Y [0,1] ?_;refine GW.to (oD y 21) ?_;refine GW.ld Y ((yi (I.at c1)).trans (by rw[<-K])) ?_;refine GW.to (oD y 22) ?_;refine GW.call Y (f5 _ I) ?_;rintro z v6 ⟨rfl,A⟩;refine GW.to (oD y 23) ?_;refine akB Y [4,5,6,7,8] ?_;refine GW.to (oD y 24) ?_;refine GW.run 4 (k':=[.inRegion (opsOf (cp [2,2,2,2,2,2,2,2,2,2,2,1,1] lq)) [0,1],.code (cp [2,2,2,2,2,2,2,2,2,2,2,1,2] lq),.code (cp [2,2,2,2,2,2,2,2,2,2,2,2] lq)]) ?_;refine akB Y [0,1] ?_;refine GW.to (oD y 25) ?_;refine GW.run 1 (k':=[.code (.cond (.tmp 75) (cp [2,2,2,2,2,2,2,2,2,2,2,1,2,1] lq) .skip),.code (cp [2,2,2,2,2,2,2,2,2,2,2,2] lq)]) ?_;refine akJ Y (t:=false) trivial (by kernel_rfl) ?_;refine GW.run 1 (k':=[.code (cp [2,2,2,2,2,2,2,2,2,2,2,2] lq)]) ?_;exact g v6 A
end
section
variable{S1 S2 S3 S4:ByteArray}{E1 E2 E3:Int}{u:Nat->Value}{w:World}
def Qv(S1 S2 S3 S4:ByteArray)(E1 E2 E3:Int)(w:World)(j:Nat)(d:Bool):Exit->Act->World->Prop:=fun e a' v'=>e=.normal/\a'.defers=[]/\(a'.tmps=Cu (fun i=>a'.tmps.getD i undef) S1 S2 S3 S4 E1 E2 E3/\a'.tmps.getD j undef=.bool d)/\v'.heap=w.heap
theorem Mo(h:(E1=4/\d=true)\/(E1=0/\E2=4/\d=true)\/(E1=0/\E2=0/\d=false)):(cp [2,2,2,2,2,2,2,2,2,2,2,2,1,1] lq).wp PR (Qv S1 S2 S3 S4 E1 E2 E3 w 81 d) ⟨Cu u S1 S2 S3 S4 E1 E2 E3,[]⟩ w:=by
 unfold lq akE;simp only[akC,cp];obtain⟨Q,Y⟩:∃Q,Q=Qv S1 S2 S3 S4 E1 E2 E3 w 81 d:=⟨_,rfl⟩;rw[<-Y];have K:=laid Y;clear Y;unfold Cu;rcases h with⟨rfl,rfl⟩|⟨rfl,rfl,rfl⟩|⟨rfl,rfl,rfl⟩
 all_goals
  go_wp2
  rw[K.out];exact⟨rfl,rfl,⟨by kernel_rfl,by kernel_rfl⟩,rfl⟩
theorem Tk:(cp [2,2,2,2,2,2,2,2,2,2,2,2,1,2,1,1] lq).wp PR (Qv S1 S2 ⟨#[]⟩ S4 E1 E2 4 w 10 true) ⟨Cu u S1 S2 ⟨#[]⟩ S4 E1 E2 4,[]⟩ w:=by
 unfold lq akE;simp only[akC,cp];obtain⟨Q,Y⟩:∃Q,Q=Qv S1 S2 ⟨#[]⟩ S4 E1 E2 4 w 10 true:=⟨_,rfl⟩;rw[<-Y];have K:=laid Y;clear Y;unfold Cu;go_wp2
 rw[K.out];exact⟨rfl,rfl,⟨by kernel_rfl,by kernel_rfl⟩,rfl⟩
theorem Tl(h1:S4.size<=S1.size)(h2:S4.size<=S2.size)(z1:S1.size<=100000000)(z2:S2.size<=100000000):(cp [2,2,2,2,2,2,2,2,2,2,2,2,2,1,1] lq).wp PR (Qv S1 S2 S3 S4 E1 E2 E3 w 99 false) ⟨Cu u S1 S2 S3 S4 E1 E2 E3,[]⟩ w:=by
 unfold lq akE;simp only[akC,cp];obtain⟨Q,Y⟩:∃Q,Q=Qv S1 S2 S3 S4 E1 E2 E3 w 99 false:=⟨_,rfl⟩;rw[<-Y];have K:=laid Y;clear Y;unfold Cu;go_wp2
 rw[K.out];exact⟨rfl,rfl,⟨by kernel_rfl,congrArg Value.bool (by rw[decide_eq_false (by omega),decide_eq_false (by omega)];rfl)⟩,rfl⟩
theorem Tm(h1:S4.size<=S1.size)(h2:S4.size<=S2.size)(z1:S1.size<=100000000)(z2:S2.size<=100000000)(K:S1++S2.extract S4.size S2.size=S3)(H:S1.extract 0 S4.size=S4):(cp [2,2,2,2,2,2,2,2,2,2,2,2,2,2,1] lq).wp PR (Qv S1 S2 S3 S4 E1 E2 0 w 10 true) ⟨Cu u S1 S2 S3 S4 E1 E2 0,[]⟩ w:=by
 unfold lq akE;simp only[akC,cp];obtain⟨Q,Y⟩:∃Q,Q=Qv S1 S2 S3 S4 E1 E2 0 w 10 true:=⟨_,rfl⟩;rw[<-Y];have D:=laid Y;have X1:=laid K;have R:=laid H;clear Y K H;have I:(S2.extract S4.size S2.size).size<=100000000:=by rw[ByteArray.size_extract];omega
 unfold Cu;go_wp2
 ·rw[D.out];exact⟨rfl,rfl,⟨by kernel_rfl,congrArg Value.bool (by rw[R.out];exact beq_self_eq_true _)⟩,rfl⟩
 ·rename_i h;exact absurd (by rw[X1.out]) h
end
section
variable{y:Yp}{Q:QT}{v v1:World}
theorem Gr(h:y.E1=4\/y.E1=0/\y.E2=4)(U:y.E3=4)(B:y.S3=⟨#[]⟩)(K:Kw v v1):GW true Q (fun y v'=>y=.bool true/\Kw v v') 11 [.code (cp [2,2,2,2,2,2,2,2,2,2,2,2] lq)] (oD y 25) v1:=by
 have Y:∃F,PR.funcs[11]?=some F:=⟨_,akH⟩;refine GW.run 2 (k':=[.code (cp [2,2,2,2,2,2,2,2,2,2,2,2,1,1] lq),.code (cp [2,2,2,2,2,2,2,2,2,2,2,2,1,2] lq),.code (cp [2,2,2,2,2,2,2,2,2,2,2,2,2] lq)]) ?_;refine GW.any (fun u=>Cu u y.S1 y.S2 y.S3 y.S4 y.E1 y.E2 y.E3) (by kernel_rfl) fun u=>?_;rw[B,U];refine akF Y (by kernel_rfl) (R1:=fun a' w'=>(a'=Cu (fun i=>a'.getD i undef) y.S1 y.S2 ⟨#[]⟩ y.S4 y.E1 y.E2 4/\a'.getD 81 undef=.bool true)/\w'.heap=v1.heap) rfl (fun T=>Mo (w:=tp v1 T) (h.elim (fun h=>.inl ⟨h,rfl⟩) fun h=>.inr (.inl ⟨h.1,h.2,rfl⟩))) ?_;rintro a1 v2 ⟨⟨R,ed⟩,I⟩;refine GW.run 0 (k':=[.code (.cond (.tmp 81) (cp [2,2,2,2,2,2,2,2,2,2,2,2,1,2,1] lq) .skip),.code (cp [2,2,2,2,2,2,2,2,2,2,2,2,2] lq)]) ?_;refine akJ Y (t:=true) trivial ed ?_;refine GW.run 1 (k':=[.code (cp [2,2,2,2,2,2,2,2,2,2,2,2,1,2,1,1] lq),.code .ret,.code (cp [2,2,2,2,2,2,2,2,2,2,2,2,2] lq)]) ?_;rw[R];refine akF Y (by kernel_rfl) (R1:=fun a' w'=>(a'=Cu (fun i=>a'.getD i undef) y.S1 y.S2 ⟨#[]⟩ y.S4 y.E1 y.E2 4/\a'.getD 10 undef=.bool true)/\w'.heap=v2.heap) rfl (fun T=>Tk (w:=tp v2 T)) ?_;rintro a2 v3 ⟨⟨_,H⟩,D⟩;exact GW.Tf Y 10 ⟨H,K.trans fun a A=>by rw[D,I]⟩
theorem Pz(h1:y.E1=0)(h2:y.E2=0)(L:y.E3=0)(s1:y.S4.size<=y.S1.size)(s2:y.S4.size<=y.S2.size)(z1:y.S1.size<=100000000)(z2:y.S2.size<=100000000)(U:y.S1++y.S2.extract y.S4.size y.S2.size=y.S3)(B:y.S1.extract 0 y.S4.size=y.S4)(K:Kw v v1):GW true Q (fun y v'=>y=.bool true/\Kw v v') 11 [.code (cp [2,2,2,2,2,2,2,2,2,2,2,2] lq)] (oD y 25) v1:=by
 have Y:∃F,PR.funcs[11]?=some F:=⟨_,akH⟩;refine GW.run 2 (k':=[.code (cp [2,2,2,2,2,2,2,2,2,2,2,2,1,1] lq),.code (cp [2,2,2,2,2,2,2,2,2,2,2,2,1,2] lq),.code (cp [2,2,2,2,2,2,2,2,2,2,2,2,2] lq)]) ?_;refine GW.any (fun u=>Cu u y.S1 y.S2 y.S3 y.S4 y.E1 y.E2 y.E3) (by kernel_rfl) fun u=>?_;rw[L];refine akF Y (by kernel_rfl) (R1:=fun a' w'=>(a'=Cu (fun i=>a'.getD i undef) y.S1 y.S2 y.S3 y.S4 y.E1 y.E2 0/\a'.getD 81 undef=.bool false)/\w'.heap=v1.heap) rfl (fun T=>Mo (w:=tp v1 T) (.inr (.inr ⟨h1,h2,rfl⟩))) ?_;rintro a1 v2 ⟨⟨C,ed⟩,J⟩;refine GW.run 0 (k':=[.code (.cond (.tmp 81) (cp [2,2,2,2,2,2,2,2,2,2,2,2,1,2,1] lq) .skip),.code (cp [2,2,2,2,2,2,2,2,2,2,2,2,2] lq)]) ?_;refine akJ Y (t:=false) trivial ed ?_;refine GW.run 3 (k':=[.code (cp [2,2,2,2,2,2,2,2,2,2,2,2,2,1,1] lq),.code (cp [2,2,2,2,2,2,2,2,2,2,2,2,2,1,2] lq),.code (cp [2,2,2,2,2,2,2,2,2,2,2,2,2,2] lq)]) ?_;rw[C];refine akF Y (by kernel_rfl) (R1:=fun a' w'=>(a'=Cu (fun i=>a'.getD i undef) y.S1 y.S2 y.S3 y.S4 y.E1 y.E2 0/\a'.getD 99 undef=.bool false)/\w'.heap=v2.heap) rfl (fun T=>Tl (w:=tp v2 T) s1 s2 z1 z2) ?_;rintro a2 v3 ⟨⟨D,R⟩,I⟩;refine GW.run 0 (k':=[.code (.cond (.tmp 99) (cp [2,2,2,2,2,2,2,2,2,2,2,2,2,1,2,1] lq) .skip),.code (cp [2,2,2,2,2,2,2,2,2,2,2,2,2,2] lq)]) ?_;refine akJ Y (t:=false) trivial R ?_;refine GW.run 2 (k':=[.code (cp [2,2,2,2,2,2,2,2,2,2,2,2,2,2,1] lq),.code .ret]) ?_;rw[D];refine akF Y (by kernel_rfl) (R1:=fun a' w'=>(a'=Cu (fun i=>a'.getD i undef) y.S1 y.S2 y.S3 y.S4 y.E1 y.E2 0/\a'.getD 10 undef=.bool true)/\w'.heap=v3.heap) rfl (fun T=>Tm (w:=tp v3 T) s1 s2 z1 z2 U B) ?_;rintro a3 v4 ⟨⟨_,H⟩,A⟩;exact GW.Tf Y 10 ⟨H,K.trans fun a M=>by rw[A,I,J]⟩
end
end Ph
section
open RowKit
section
variable{x a b:List UInt8}(hx:∀c∈x,ei c)(h1:1<=x.length)(h2:x.length<=200)
include hx h1 h2
theorem PA:bV (str (cP x)) ⟨#[]⟩=0:=by
 have K:(str (cP x)).size=x.length+4:=by rw[ak];simp[cP]
 have Y:(⟨#[]⟩:ByteArray).size=0:=rfl;rw[bV,if_neg (by omega),oo,if_neg (by rw[uK hx h1 h2];simp),if_neg]
 ·rfl
 ·rw[bq,if_pos (by omega)];simp
theorem yj(D:∀c∈a,ei c)(a1:1<=a.length)(a2:a.length<=30)(hb:∀c∈b,ei c)(b1:1<=b.length)(b2:b.length<=30):bV (str (cP x)) (str (aO a++aO b))=0/\ai (str (aO a++aO b)) 5 0=[(⟨#[97]⟩,str a,str (dR a.length)),(⟨#[97]⟩,str b,str (dR b.length))]:=by
 obtain⟨r1,r2⟩:=uL D a1 a2 [] (aO b);obtain⟨r3,K⟩:=uL hb b1 b2 (aO a) [];simp only[List.nil_append,List.append_nil,akD,Nat.zero_add]at r1 r2 r3 K;have Y:∀c:List UInt8,(aO c).length=2 *c.length+7:=fun c=>by simp[aO,bW];omega
 have R:=Y a;have I:=Y b;have A:(str (aO a++aO b)).size=(aO a).length+(aO b).length:=by rw[ak,akz]
 have U:(str (cP x)).size=x.length+4:=by rw[ak];simp[cP]
 have H:(bq (str (aO a++aO b)) 5 0).2=false:=by
  rw[bq,if_neg (by omega),aX (by rw[r1]),r1];simp only;rw[bq,if_neg (by omega),aX (by rw[r3]),r3];simp only;rw[bq,if_pos (by omega)]
 refine⟨?_,?_⟩
 ·rw[bV,if_neg (by omega),oo,if_neg (by rw[uK hx h1 h2];simp),if_neg (by rw[H];simp)];rfl
 ·rw[ai,if_neg (by omega),r2,r1,if_neg (by simp)];simp only;rw[ai,if_neg (by omega),K,r3,if_neg (by simp)];simp only;rw[ai,if_pos (by omega)]
end
theorem Gs{reads:ByteArray}{q t w:Int}(K:n<=6)(Y:bV ref reads=0):jq ref reads (n:Nat) (Ph.lb q 8) (Ph.lb t 200) (Ph.lb w 8)=if fewer (ai reads 5 0) n=true then 0 else 4:=by
 have a1:=qW (c:=q) (show 0<8 by decide) (by decide);have a2:=qW (c:=t) (show 0<200 by decide) (by decide);have a3:=qW (c:=w) (show 0<8 by decide) (by decide);have hr:jW (n:Nat) 30 (Ph.lb q 8) (Ph.lb t 200)=true:=by
  unfold jW;rw[decide_eq_true_eq];omega
 rw[jq,if_neg (by rw[Y];simp),if_neg (by rw[hr];simp;omega)];cases fewer (ai reads 5 0) n<;>rfl
theorem PB{reads:ByteArray}{q t w:Int}(K:n<=6)(Y:bV ref reads=0):ot ref reads (n:Nat) (Ph.lb q 8) (Ph.lb t 200) (Ph.lb w 8)=if fewer (ai reads 5 0) n=true then str (fK ref reads n)else⟨#[]⟩:=by
 rw[ot,Gs K Y];cases fewer (ai reads 5 0) n<;>rfl
abbrev zM(a:List UInt8):ky:=(⟨#[97]⟩,str a,str (dR a.length))
section
variable{x a b:List UInt8}(hx:∀c∈x,ei c)(h1:1<=x.length)(h2:x.length<=200){n:Nat}
include hx h1 h2
theorem W8:fK (str (cP x)) ⟨#[]⟩ n=eA ⟨#[114]⟩ (str x):=by
 rw[fK,lX hx h1 h2,ou hx h1 h2];rfl
theorem Qw(Y:∀c∈a,ei c)(a1:1<=a.length)(a2:a.length<=30):fK (str (cP x)) (str (aO a)) n=eA ⟨#[114]⟩ (str x)++cO ⟨#[114]⟩ (str x) n (zM a):=by
 rw[fK,lX hx h1 h2,ou hx h1 h2,(pT hx h1 h2 Y a1 a2).2];rfl
theorem W9(Y:∀c∈a,ei c)(a1:1<=a.length)(a2:a.length<=30)(hb:∀c∈b,ei c)(b1:1<=b.length)(b2:b.length<=30):fK (str (cP x)) (str (aO a++aO b)) n=eA ⟨#[114]⟩ (str x)++cO ⟨#[114]⟩ (str x) n (zM a)++cO ⟨#[114]⟩ (str x) n (zM b):=by
 rw[fK,lX hx h1 h2,ou hx h1 h2,(yj hx h1 h2 Y a1 a2 hb b1 b2).2];rfl
end
theorem Mq(x:List UInt8)(h:x.length<=200):(eA ⟨#[114]⟩ (str x)).length<=100:=by
 have hd:=cC (str x).size (by rw[ak];omega);have he:(⟨#[114]⟩:ByteArray).data.toList.length=1:=rfl;simp only[eA,akz,akA,akD]at he⊢;omega
theorem Gt(hx:x.length<=200)(Y:a.length<=30)(K:n<=6):(cO ⟨#[114]⟩ (str x) n (zM a)).length<=15000000:=
 kz _ _ _ _ (by decide) (by rw[ak];omega) ⟨by show(⟨#[97]⟩:ByteArray).size<=10;decide,by show(str a).size<=30;rw[ak];exact Y,by show(str _).size<=30;rw[ak,bW];exact Y⟩ (by omega)
theorem Gu(A B:List UInt8):(str (A++B)).extract (str A).size (str (A++B)).size=str B/\(str (A++B)).extract 0 (str A).size=str A:=by
 constructor<;>apply ByteArray.ext<;>simp[str,ByteArray.size]
theorem Gw:fewer [zM a] n=decide (n<a.length):=by
 have:(str a).size=a.length:=ak a;simp[fewer,this]
theorem PD{b:List UInt8}:fewer [zM a,zM b] n=(decide (n<a.length)&&decide (n<b.length)):=by
 have h1:(str a).size=a.length:=ak a;have h2:(str b).size=b.length:=ak b;simp[fewer,h1,h2]
theorem PF:ai ⟨#[]⟩ 5 0=[]:=by rw[ai,if_pos (by decide)]
end
namespace Ph
open Go Go.Conc Go.Proofs.YtdcjnhipenbcfaaGreatDoor.Ren Go.RowKit
theorem Tn(hx:x.length<=1000):yh 23 #[.string (str x)] (.string (str (cP x))):=zK (by kernel_rfl) rfl fun Q v _ _=>Qu hx (.refl v)
theorem PG(hx:x.length<=60):yh 24 #[.string (str x)] (.string (str (aO x))):=zK (by kernel_rfl) rfl fun Q v _ _=>E4 hx (.refl v)
section
variable{W:World}{a0 a1 a2:Option Addr}{l0 l1 l2 c0 c1 c2:Nat}{z0 z1 z2:Nat->Int}{k q1 t1 w1:Int}{vh:Value->World->Prop}
theorem Mr(i0:kC W a0 l0 z0)(i1:kC W a1 l1 z1)(i2:kC W a2 l2 z2)(hk:du k)(h1:du q1/\du t1/\du w1)(H:Here (fun _=>False) W)(hp:∀s d,aZ (fun _=>False) W s->vh (.bool true) (s.at d)):
  aH PR (Ren.Ends PR vh) (fun _=>False) (Frame.enter PR 11 #[.slice a0 l0 c0,.slice a1 l1 c1,.slice a2 l2 c2,ii k,.agg #[ii q1,ii t1,ii w1]] .normal) [] W:=by
 refine aH.wX 60 _ aby fun v1 g1 _=>?_;refine aH.alloc (F:=fun B=>(nL (kN [] [0,1]) (IK (.slice a0 l0 c0) (.slice a1 l1 c1) (.slice a2 l2 c2) k (.agg #[ii q1,ii t1,ii w1]))).finish (ptr B)) (o:=.cells #[ii q1,ii t1,ii w1] 28) (fun w'=>iM Pq rfl rfl w') fun b v2 n1 u1 e1 o1 g2=>?_;refine aH.wX 60 _ abz fun v5 g5 _=>?_;refine aH.pure 1 fun v6 k6=>?_;rw[Pr];have J:=g5.trans (aZ.of k6);have U:=(g1.trans g2).trans J;have C:=H.on U;have E1:=J.at e1 o1;have s1:=ax E1;refine C.call Cl (fun _ y=>y) (fun _ y=>.inl y) ⟨fun _ _ _=>rfl,Nat.le_refl _,rfl,j8.refl _,rfl⟩ fun Z7 v7 m7 o7 G7=>?_;refine aH.pure 11 fun v8 k8=>?_;rw[Tj];refine aH.wX 60 _ abA fun v9 g9 _=>?_;refine aH.pure 1 fun vA kA=>?_;rw[Ps];refine pQ (pU i0 U) (by omega) C m7 o7 (((G7.on o7 (aZ.of k8)).on o7 g9).on o7 (aZ.of kA)) fun ZB vB mB j GB=>?_;obtain⟨x,ex⟩:∃x,x=65::bB z0 (min l0 60):=⟨_,rfl⟩;obtain⟨a,Z⟩:∃a,a=67::bB z1 (min l1 9):=⟨_,rfl⟩;obtain⟨b',E⟩:∃b',b'=71::bB z2 (min l2 9):=⟨_,rfl⟩;have kc:∀(d:UInt8) (z:Nat->Int) (n:Nat),ei d->∀c∈d::bB z n,ei c:=fun d z n hd c S=>(akG.1 S).elim (fun e=>by rw[e];exact hd) (uN _ _ c);have R:∀c∈x,ei c:=ex▸kc _ _ _ ⟨by decide,by decide⟩;have ka:∀c∈a,ei c:=Z▸kc _ _ _ ⟨by decide,by decide⟩;have kb:∀c∈b',ei c:=E▸kc _ _ _ ⟨by decide,by decide⟩;have I:1<=x.length/\x.length<=61:=by rw[ex,akA,dj];omega
 have la:1<=a.length/\a.length<=10:=by rw[Z,akA,dj];omega
 have V:1<=b'.length/\b'.length<=10:=by rw[E,akA,dj];omega
 have fx:(⟨#[65]⟩:ByteArray)++str (bB z0 (min l0 60))=str x:=ex▸bp [65] _;have fa:(⟨#[67]⟩:ByteArray)++str (bB z1 (min l1 9))=str a:=Z▸bp [67] _;have fb:(⟨#[71]⟩:ByteArray)++str (bB z2 (min l2 9))=str b':=E▸bp [71] _;have zc:∀(d:UInt8) (z:Nat->Int) (n:Nat),n<=60->(⟨#[d]⟩:ByteArray).size+(str (bB z n)).size<=100000000:=fun d z n h=>by rw[ak,dj];have:(⟨#[d]⟩:ByteArray).size=1:=rfl;omega
 refine aH.still (fun w'=>pP Pt rfl rfl (zc _ _ _ (by omega)) w') fun vC gC _=>?_;rw[fx,abB];refine aH.pure 1 fun vD kD=>?_;rw[Pu];refine C.call (Tn (by omega)) mB j ((GB.on j gC).on j (aZ.of kD)) fun ZE vE mE f GE=>?_;refine aH.wX 60 _ abC fun N gF _=>?_;refine aH.pure 1 fun vG kG=>?_;rw[Pv];refine pQ (pU i1 U) (by omega) C mE f ((GE.on f gF).on f (aZ.of kG)) fun ZH vH mH g GH=>?_;refine aH.still (fun w'=>pP Pw rfl rfl (zc _ _ _ (by omega)) w') fun vI gI _=>?_;rw[fa,abD];refine aH.pure 1 fun vJ kJ=>?_;rw[Px];refine C.call (PG (by omega)) mH g ((GH.on g gI).on g (aZ.of kJ)) fun ZK vK mK r GK=>?_;refine aH.wX 60 _ abE fun vL gL _=>?_;refine aH.pure 1 fun vM kM=>?_;rw[Py];refine pQ (pU i2 U) (by omega) C mK r ((GK.on r gL).on r (aZ.of kM)) fun ZF N mF t X=>?_;rw[abF];have hn:=jL k (show 0<3 by decide);have gr:=g1.grow;have Y:∀c:List UInt8,(str (aO c)).size=2 *c.length+7:=fun c=>by rw[ak];simp[aO,bW];omega
 refine Gq (Bs:=[b]) hp H (fun l y=>(t l y).elim .inl fun⟨a,e,q⟩=>.inr ⟨a,e,Nat.le_trans U.grow q⟩) (U.trans X) ?_ ?_ fun v L=>?_
 ·intro b hb;simp only[akG,akI,or_false]at hb;subst hb;exact⟨by omega,gD t (fun _ _ y=>y) s1,_,_,_,X.at E1 (fun _ _ y=>y)⟩
 ·intro p T;simp only[IM,vm,vk,E5,IK,List.mem_append,akG,akI,or_false]at T
  repeat' rcases T with T|T
  all_goals first|exact .inl ⟨_,_,_,rfl⟩|exact .inr (.inr ⟨b,by simp,rfl⟩)|exact .inr (.inl (by kernel_rfl))
 ·obtain⟨n,G⟩:∃n,n=cD k 3:=⟨_,rfl⟩;have q0:=PA R I.1 (by omega);have w:=pT R I.1 (by omega) ka la.1 (by omega);have qb:=pT R I.1 (by omega) kb V.1 (by omega);have i:=yj R I.1 (by omega) ka la.1 (by omega) kb V.1 (by omega);have call:∀(RD:ByteArray) u,Kw N u->RD.size<=100->bV (str (cP x)) RD=0->aL (Ren.Ends PR vh) 22 #[.string (str (cP x)),.string RD,ii (n:Nat),.agg #[ii q1,ii t1,ii w1]] u fun z v'=>z=.tuple #[.string (if fewer (ai RD 5 0) n=true then str (fK (str (cP x)) RD n)else⟨#[]⟩),ii (if fewer (ai RD 5 0) n=true then 0 else 4)]/\Kw N v':=fun RD u K hz S=>
   aL.mono (Ck (k:=(n:Nat)) (by rw[ak];simp only[cP,akz,akA,akD,maxLen];omega) (by unfold maxLen;omega) h1.1 h1.2.1 h1.2.2 (K.tabs v) (K.mh v L)) fun y v' h=>⟨by rw[h.1,PB (by omega) S,Gs (by omega) S],K.trans h.2⟩
  have w0:=fun u K=>call ⟨#[]⟩ u K (by decide) q0;have O:=fun u K=>call (str (aO a)) u K (by rw[Y];omega) w.1;have P:=fun u K=>call (str (aO b')) u K (by rw[Y];omega) qb.1;have Q:=fun u K=>call (str (aO a++aO b')) u K (by rw[<-bp,ByteArray.size_append,Y,Y];omega) i.1;rw[W8 R I.1 (by omega),PF]at w0;rw[w.2,Gw,Qw R I.1 (by omega) ka la.1 (by omega)]at O;rw[qb.2,Gw,Qw R I.1 (by omega) kb V.1 (by omega)]at P;rw[i.2,PD,W9 R I.1 (by omega) ka la.1 (by omega) kb V.1 (by omega)]at Q;have hh:=Mq x (by omega);have ha:=Gt (x:=x) (a:=a) (n:=n) (by omega) (by omega) (by omega);have hb:=Gt (x:=x) (a:=b') (n:=n) (by omega) (by omega) (by omega);generalize eA ⟨#[114]⟩ (str x)=M at *;generalize cO ⟨#[114]⟩ (str x) n (zM a)=A at *;generalize cO ⟨#[114]⟩ (str x) n (zM b')=D at *;obtain⟨y,m⟩:∃y:Yp,y=⟨k,(n:Nat),if decide (n<a.length)=true then 0 else 4,if decide (n<b'.length)=true then 0 else 4,if(decide (n<a.length)&&decide (n<b'.length))=true then 0 else 4,.agg #[ii q1,ii t1,ii w1],b,str (bB z0 (min l0 60)),str x,str (cP x),str (bB z1 (min l1 9)),str a,str (aO a),str (bB z2 (min l2 9)),str b',str (aO b'),str (aO a++aO b'),if decide (n<a.length)=true then str (M++A)else⟨#[]⟩,if decide (n<b'.length)=true then str (M++D)else⟨#[]⟩,if(decide (n<a.length)&&decide (n<b'.length))=true then str (M++A++D)else⟨#[]⟩,str M⟩:=⟨_,rfl⟩;have key:GW true (Ren.Ends PR vh) (fun x v'=>x=.bool true/\Kw N v') 11 (kN [2,2,2,2,2] [2,3,4]) (oD y 0) N:=by
   refine Mn (q1:=q1) (t1:=t1) (w1:=w1) ?_ ?_ ?_ ?_ ?_ ?_ ?_ ?_ ?_ ?_ ?_ ?_ ?_ fun v' K=>?_;all_goals rw[m]
   ·show(str _).size<=50;rw[ak,dj];omega
   ·exact fb
   ·exact bp _ _
   ·show(str (aO a)).size+(str (aO b')).size<=1000;rw[Y,Y];omega
   ·exact hk
   ·show((n:Nat):Int)=_;rw[G]
   ·exact X.at E1 (fun _ _ y=>y)
   ·exact fun u K=>E4 (by omega) K
   ·exact O
   ·exact P
   ·exact Q
   ·exact w0
   ·by_cases d1:n<a.length
    ·by_cases d2:n<b'.length
     ·have f1:decide (n<a.length)=true:=by simpa using d1
      have f2:decide (n<b'.length)=true:=by simpa using d2
      rw[f1,f2];refine Pz rfl rfl rfl ?_ ?_ ?_ ?_ ?_ ?_ K
      ·show(str M).size<=(str (M++A)).size;rw[ak,ak,akz];omega
      ·show(str M).size<=(str (M++D)).size;rw[ak,ak,akz];omega
      ·show(str (M++A)).size<=_;rw[ak,akz];omega
      ·show(str (M++D)).size<=_;rw[ak,akz];omega
      ·show str (M++A)++(str (M++D)).extract (str M).size (str (M++D)).size=str (M++A++D)
       rw[(Gu M D).1,bp]
      ·exact(Gu M A).2
     ·have f1:decide (n<a.length)=true:=by simpa using d1
      have f2:decide (n<b'.length)=false:=by simpa using d2
      rw[f1,f2];exact Gr (.inr ⟨rfl,rfl⟩) rfl rfl K
    ·have f1:decide (n<a.length)=false:=by simpa using d1
     rw[f1];exact Gr (.inl rfl) rfl rfl K
  rw[m]at key;exact GW.to _ key
end
end Ph
end Go.Proofs.YtdcjnhipenbcfaaGreatDoor
