/-
  Own text. Part 8 of what the claim rests on.
-/
import Derived.Test.YtdcjnhipenbcfaaGreatDoorPk7
set_option linter.unusedVariables false
set_option linter.unusedSectionVars false
set_option linter.unusedSimpArgs false
set_option maxRecDepth 100000
set_option maxHeartbeats 16000000
open Go renaming undef->ae,World->af,cell_of_row->ah,Value->aj,cell_grown->ak
open Go.Proofs.Tryz renaming f8->ax,func8->az
open Go.Proofs.YtdcjnhipenbcfaaGreatDoor.Ph.GW renaming piece->ai,h_->ao,any->ar,cond->ay
open Option renaming getD_some->au
namespace Go.Proofs.YtdcjnhipenbcfaaGreatDoor
noncomputable section
variable {t:Bool}{b:Nat}{p:aj}
namespace Ph
open Conc Ren RowKit
structure K8 where
 (k n E:Int) (o:aj) (b:Nat) (x0 X RF b0 B RD S:ByteArray)
def rK(y:K8)(m:Nat):Array Value:=#[.tuple #[],.tuple #[],ii y.k,y.o,ae,ae,ae,ptr y.b,.bool false,.bool true,.string y.X,kp 2 m (.string y.B),kp 5 m (ii y.n),kp 6 m (.string y.S),kp 6 m (ii y.E),ae,ae,ae,ae,ae,ae,ae,ae,ae,ae,ae,ae,ae,.bool true,.bool true,.bool false,.tuple #[],.string y.x0,.string y.X,.tuple #[],.string y.b0,kp 1 m (.string y.B),kp 3 m (ii y.k),kp 4 m (ii y.n),kp 6 m (.tuple #[.string y.S,ii y.E]),kp 6 m (.string y.X),kp 6 m (.string y.RF),kp 6 m (.string y.B),kp 6 m (.string y.RD),kp 6 m (ii y.n),kp 6 m (y.o),kp 6 m (.tuple #[.string y.S,ii y.E]),kp 6 m (.string y.S),kp 6 m (ii y.E),ae,ae,ae,ae,ae,ae,ae,ae,ae,ae,ae,ae,ae,ae,ae,ae,ae,ae,ae,ae,ae,ae,ae,ae,ae,ae,ae,ae,ae,ae,ae,ae,ae,ae,ae,ae,ae,ae,ae,ae,ae,ae,ae,ae,ae,ae,ae,ae,ae,ae,ae,ae,ae,ae,ae,ae,ae,ae,ae,ae,ae,ae,ae,ae,ae,ae,ae,ae,ae,ae,ae,ae,ae,ae,ae,ae,ae,ae,ae,ae,ae,ae,ae,ae,ae,ae,ae,ae,ae,ae,ae,ae,ae,ae,ae,ae,ae,ae,ae,ae,ae,ae,ae,ae,ae,ae,ae,ae,ae,ae,ae,ae,ae,ae,ae,ae,ae,ae,ae,ae,ae,ae,ae,ae,ae,ae,ae,ae,ae,ae,ae,ae,ae,ae,ae,ae,ae,ae,ae,ae,ae,ae,ae,ae,ae,ae,ae,ae,ae,ae,ae,ae,ae,ae,ae,ae,ae,ae,ae,ae,ae,ae,ae,ae,ae,ae,ae,ae,ae,ae,ae,ae,ae,ae,ae,ae,ae,ae,ae]
def sM(u:Nat->aj)(X:ByteArray)(n:Int)(B S:ByteArray)(E:Int):Array Value:=#[u 0,u 1,u 2,u 3,u 4,u 5,u 6,u 7,u 8,u 9,.string X,.string B,ii n,.string S,ii E,u 15,u 16,u 17,u 18,u 19,u 20,u 21,u 22,u 23,u 24,u 25,u 26,u 27,u 28,u 29,u 30,u 31,u 32,u 33,u 34,u 35,u 36,u 37,u 38,u 39,u 40,u 41,u 42,u 43,u 44,u 45,u 46,u 47,u 48,u 49,u 50,u 51,u 52,u 53,u 54,u 55,u 56,u 57,u 58,u 59,u 60,u 61,u 62,u 63,u 64,u 65,u 66,u 67,u 68,u 69,u 70,u 71,u 72,u 73,u 74,u 75,u 76,u 77,u 78,u 79,u 80,u 81,u 82,u 83,u 84,u 85,u 86,u 87,u 88,u 89,u 90,u 91,u 92,u 93,u 94,u 95,u 96,u 97,u 98,u 99,u 100,u 101,u 102,u 103,u 104,u 105,u 106,u 107,u 108,u 109,u 110,u 111,u 112,u 113,u 114,u 115,u 116,u 117,u 118,u 119,u 120,u 121,u 122,u 123,u 124,u 125,u 126,u 127,u 128,u 129,u 130,u 131,u 132,u 133,u 134,u 135,u 136,u 137,u 138,u 139,u 140,u 141,u 142,u 143,u 144,u 145,u 146,u 147,u 148,u 149,u 150,u 151,u 152,u 153,u 154,u 155,u 156,u 157,u 158,u 159,u 160,u 161,u 162,u 163,u 164,u 165,u 166,u 167,u 168,u 169,u 170,u 171,u 172,u 173,u 174,u 175,u 176,u 177,u 178,u 179,u 180,u 181,u 182,u 183,u 184,u 185,u 186,u 187,u 188,u 189,u 190,u 191,u 192,u 193,u 194,u 195,u 196,u 197,u 198,u 199,u 200,u 201,u 202,u 203,u 204,u 205,u 206,u 207,u 208,u 209,u 210,u 211,u 212,u 213,u 214,u 215,u 216,u 217,u 218,u 219,u 220,u 221,u 222,u 223,u 224,u 225,u 226,u 227]
def vr(u:Nat->aj)(X:ByteArray)(n:Int)(B S:ByteArray)(L:aj)(m:Nat):Array Value:=#[u 0,u 1,u 2,u 3,u 4,u 5,u 6,u 7,u 8,u 9,.string X,.string B,ii n,.string S,ii 0,kq 3 m (L) (u 15),kq 3 m (.bool true) (u 16),u 17,u 18,u 19,u 20,u 21,u 22,u 23,u 24,u 25,u 26,u 27,u 28,u 29,u 30,u 31,u 32,u 33,u 34,u 35,u 36,u 37,u 38,u 39,u 40,u 41,u 42,u 43,u 44,u 45,u 46,u 47,u 48,u 49,u 50,u 51,u 52,u 53,u 54,u 55,u 56,u 57,u 58,kq 3 m (.tuple #[L,.bool true]) (u 59),kq 1 m (.string S) (u 60),kq 2 m (.tuple #[L,.bool true]) (u 61),kq 3 m (L) (u 62),kq 3 m (.bool true) (u 63),u 64,u 65,u 66,u 67,u 68,u 69,u 70,u 71,u 72,u 73,u 74,u 75,u 76,u 77,u 78,u 79,u 80,u 81,u 82,u 83,u 84,u 85,u 86,u 87,u 88,u 89,u 90,u 91,u 92,u 93,u 94,u 95,u 96,u 97,u 98,u 99,u 100,u 101,u 102,u 103,u 104,u 105,u 106,u 107,u 108,u 109,u 110,u 111,u 112,u 113,u 114,u 115,u 116,u 117,u 118,u 119,u 120,u 121,u 122,u 123,u 124,u 125,u 126,u 127,u 128,u 129,u 130,u 131,u 132,u 133,u 134,u 135,u 136,u 137,u 138,u 139,u 140,u 141,u 142,u 143,u 144,u 145,u 146,u 147,u 148,u 149,u 150,u 151,u 152,u 153,u 154,u 155,u 156,u 157,u 158,u 159,u 160,u 161,u 162,u 163,u 164,u 165,u 166,u 167,u 168,u 169,u 170,u 171,u 172,u 173,u 174,u 175,u 176,u 177,u 178,u 179,u 180,u 181,u 182,u 183,u 184,u 185,u 186,u 187,u 188,u 189,u 190,u 191,u 192,u 193,u 194,u 195,u 196,u 197,u 198,u 199,u 200,u 201,u 202,u 203,u 204,u 205,u 206,u 207,u 208,u 209,u 210,u 211,u 212,u 213,u 214,u 215,u 216,u 217,u 218,u 219,u 220,u 221,u 222,u 223,u 224,u 225,u 226,u 227]
def nK(u:Nat->aj)(B:ByteArray)(L p:aj):Array Value:=#[u 0,u 1,u 2,u 3,u 4,u 5,u 6,u 7,u 8,u 9,u 10,.string B,u 12,u 13,u 14,L,u 16,u 17,ii (0:Nat),p,u 20,u 21,u 22,u 23,u 24,u 25,u 26,u 27,u 28,u 29,u 30,u 31,u 32,u 33,u 34,u 35,u 36,u 37,u 38,u 39,u 40,u 41,u 42,u 43,u 44,u 45,u 46,u 47,u 48,u 49,u 50,u 51,u 52,u 53,u 54,u 55,u 56,u 57,u 58,u 59,u 60,u 61,u 62,u 63,u 64,u 65,u 66,u 67,u 68,u 69,u 70,u 71,u 72,u 73,u 74,u 75,u 76,u 77,u 78,u 79,u 80,u 81,u 82,u 83,u 84,u 85,u 86,u 87,u 88,u 89,u 90,u 91,u 92,u 93,u 94,u 95,u 96,u 97,u 98,u 99,u 100,u 101,u 102,u 103,u 104,u 105,u 106,u 107,u 108,u 109,u 110,u 111,u 112,u 113,u 114,u 115,u 116,u 117,u 118,u 119,u 120,u 121,u 122,u 123,u 124,u 125,u 126,u 127,u 128,u 129,u 130,u 131,u 132,u 133,u 134,u 135,u 136,u 137,u 138,u 139,u 140,u 141,u 142,u 143,u 144,u 145,u 146,u 147,u 148,u 149,u 150,u 151,u 152,u 153,u 154,u 155,u 156,u 157,u 158,u 159,u 160,u 161,u 162,u 163,u 164,u 165,u 166,u 167,u 168,u 169,u 170,u 171,u 172,u 173,u 174,u 175,u 176,u 177,u 178,u 179,u 180,u 181,u 182,u 183,u 184,u 185,u 186,u 187,u 188,u 189,u 190,u 191,u 192,u 193,u 194,u 195,u 196,u 197,u 198,u 199,u 200,u 201,u 202,u 203,u 204,u 205,u 206,u 207,u 208,u 209,u 210,u 211,u 212,u 213,u 214,u 215,u 216,u 217,u 218,u 219,u 220,u 221,u 222,u 223,u 224,u 225,u 226,u 227]
def VH (p:List Nat):Array Oper:=opsOf (cp p iz)
theorem adn:(VH [2,2,2,2,2,2,1]).size=12:=by kernel_rfl
section
variable{y:K8}{Q:QT}{v:af}{q1 t1 w1:Int}
theorem afw(U:y.b0.size<=50)(D:(⟨#[67]⟩:ByteArray)++y.b0=y.B)(hk:nA y.k)(H:y.n=(kV y.k 7:Nat))(J:y.o=.agg #[ii q1,ii t1,ii w1])(c1:v.heap[y.b]?=some (.cells #[ii q1,ii t1,ii w1] 28))
  (f1:∀u,Kw v u->iF Q 23 #[.string y.X] u fun z v'=>z=.string y.RF/\Kw v v')(f2:∀u,Kw v u->iF Q 24 #[.string y.B] u fun z v'=>z=.string y.RD/\Kw v v')(R:∀u,Kw v u->iF Q 22 #[.string y.RF,.string y.RD,ii y.n,y.o] u fun z v'=>z=.tuple #[.string y.S,ii y.E]/\Kw v v')
  (g:∀v',Kw v v'->GW true Q (fun y v'=>y=.bool true/\Kw v v') 8 [.code (cp [2,2,2,2,2,2,2] iz)] (rK y 6) v'):GW true Q (fun y v'=>y=.bool true/\Kw v v') 8 (kS [2,2,2,2] [2,3]) (rK y 0) v:=by
 have Y:∃F,PR.funcs[8]?=some F:=⟨_,az⟩;have M:=Ac y.k (show 0<7 by decide);refine GW.cat Y (.const (.string ⟨#[67]⟩)) (.tmp 35) (x:=⟨#[67]⟩) (y:=y.b0) (by have:(⟨#[67]⟩:ByteArray).size=1:=rfl;omega) ?_;rw[D];refine GW.to (rK y 1) ?_;refine ao Y [3] ?_;refine GW.to (rK y 2) ?_;refine GW.run 3 (k':=kS [2,2,2,2,2] [0,1,2]) ?_;refine ao Y [0] ?_;refine GW.to (rK y 3) ?_;refine GW.call Y (AJ (n:=7) hk (by omega) (by omega) (.refl v)) ?_;rintro z v1 ⟨rfl,C⟩;rw[<-H];refine GW.to (rK y 4) ?_;refine ao Y [2] ?_;refine GW.to (rK y 5) ?_;refine GW.run 2 (k':=[.code (.region 7 (VH [2,2,2,2,2,2,1]) true),.code (cp [2,2,2,2,2,2,2] iz)]) ?_;refine GW.Tt (A:=rK y 6) (Kw v) C [0,2,4,7,8,9,10,11] ?_ ?_ Y
 ·intro i I H;rw[adn]at I;have:i=1\/i=3\/i=5\/i=6:=by simp at H;omega
  rcases this with rfl|rfl|rfl|rfl
  ·exact .call Y f1
  ·exact .call Y f2
  ·exact .ld Y fun u K=>⟨(ai6 (K.at c1)).trans (by rw[<-J]),K⟩
  ·exact .call Y R
 intro v4 L;refine GW.run 1 (k':=[.code (cp [2,2,2,2,2,2,2] iz)]) ?_;exact g v4 L
end
section
variable{w:af}{u:Nat->aj}{n:Nat}{X B S:ByteArray}{E:Int}{G N C:Nat}
theorem SD(D:n<=100)(H:B.size<=100)(h:B.size<=n/\t=true\/n<B.size/\t=false):(cp [2,2,2,2,2,2,2,1,1] iz).wp PR (fun e a' v'=>e=.normal/\a'.defers=[]/\(a'.tmps=sM (fun i=>a'.tmps.getD i ae) X n B S E/\a'.tmps.getD 52 ae=.bool t)/\v'.heap=w.heap) ⟨sM u X n B S E,[]⟩ w:=by
 obtain⟨Q,Y⟩:∃Q:Exit->Act->af->Prop,Q=(fun e a' v'=>e=.normal/\a'.defers=[]/\(a'.tmps=sM (fun i=>a'.tmps.getD i ae) X n B S E/\a'.tmps.getD 52 ae=.bool t)/\v'.heap=w.heap):=⟨_,rfl⟩;rw[<-Y];have K:=laid Y;clear Y;unfold iz ax sM;simp only[au,cp];rcases h with⟨h,rfl⟩|⟨h,rfl⟩
 ·have d1:(B.size:Int)<=(n:Int):=by omega
  go_wp2
  rw[K.out];exact⟨rfl,rfl,⟨by kernel_rfl,by first|rfl|(simp[d1])⟩,rfl⟩
 ·have d1:¬(B.size:Int)<=(n:Int):=by omega
  go_wp2
  rw[K.out];exact⟨rfl,rfl,⟨by kernel_rfl,by first|rfl|(simp[d1])⟩,rfl⟩
theorem aje(H:E=4)(D:S=⟨#[]⟩):(cp [2,2,2,2,2,2,2,1,2,1,1] iz).wp PR (fun e a' v'=>e=.normal/\a'.defers=[]/\a'.tmps.getD 8 ae=.bool true/\v'.heap=w.heap) ⟨sM u X n B S E,[]⟩ w:=by
 obtain⟨Q,Y⟩:∃Q:Exit->Act->af->Prop,Q=(fun e a' v'=>e=.normal/\a'.defers=[]/\a'.tmps.getD 8 ae=.bool true/\v'.heap=w.heap):=⟨_,rfl⟩;rw[<-Y];have K:=laid Y;clear Y;unfold iz ax sM;simp only[au,cp];subst H D;go_wp2
 rw[K.out];exact⟨rfl,rfl,rfl,rfl⟩
theorem ahq(H:1<=N):(cp [2,2,2,2,2,2,2,2,2,1,1] iz).wp PR (fun e a' v'=>e=.normal/\a'.defers=[]/\(a'.tmps=vr (fun i=>a'.tmps.getD i ae) X n B S (.slice (some ⟨G,0,none⟩) N C) 3/\a'.tmps.getD 74 ae=.bool false)/\v'.heap=w.heap) ⟨vr u X n B S (.slice (some ⟨G,0,none⟩) N C) 3,[]⟩ w:=by
 obtain⟨Q,Y⟩:∃Q:Exit->Act->af->Prop,Q=(fun e a' v'=>e=.normal/\a'.defers=[]/\(a'.tmps=vr (fun i=>a'.tmps.getD i ae) X n B S (.slice (some ⟨G,0,none⟩) N C) 3/\a'.tmps.getD 74 ae=.bool false)/\v'.heap=w.heap):=⟨_,rfl⟩;rw[<-Y];have K:=laid Y;clear Y;unfold iz ax vr;simp only[au,cp];have d1:((N:Int)==0)=false:=by rw[beq_eq_false_iff_ne];omega
 simp only[kq,Nat.ble,if_true];go_wp2
 rw[K.out];exact⟨rfl,rfl,⟨by kernel_rfl,rfl⟩,rfl⟩
theorem ahr:(cp [2,2,2,2,2,2,2,2,2,2,2,1,2,1,1,1] iz).wp PR (fun e a' v'=>e=.normal/\a'.defers=[]/\a'.tmps=nK (fun i=>a'.tmps.getD i ae) B (.slice (some ⟨G,0,none⟩) 1 C) (p)/\v'.heap=w.heap) ⟨nK u B (.slice (some ⟨G,0,none⟩) 1 C) (p),[]⟩ w:=by
 obtain⟨Q,Y⟩:∃Q:Exit->Act->af->Prop,Q=(fun e a' v'=>e=.normal/\a'.defers=[]/\a'.tmps=nK (fun i=>a'.tmps.getD i ae) B (.slice (some ⟨G,0,none⟩) 1 C) (p)/\v'.heap=w.heap):=⟨_,rfl⟩;rw[<-Y];have K:=laid Y;clear Y;unfold iz ax nK;simp only[au,cp];go_wp2
 rw[K.out];exact⟨rfl,rfl,by kernel_rfl,rfl⟩
theorem ahs{M:ByteArray}(L:G<w.heap.size)(c0:w.cell? ⟨G,0,none⟩=some (.string ⟨#[97]⟩))(c1:w.cell? ⟨G,1,none⟩=some (ii 4))(c2:w.cell? ⟨G,2,none⟩=some (.string ⟨#[42]⟩))(A:w.cell? ⟨G,3,none⟩=some (ii 0))(c4:w.cell? ⟨G,4,none⟩=some (.string ⟨#[42]⟩))(U:w.cell? ⟨G,5,none⟩=some (.string ⟨#[45]⟩))(c6:w.cell? ⟨G,6,none⟩=some (.string ⟨#[45]⟩))(F:w.cell? ⟨G,7,none⟩=some (.string B))(J:w.cell? ⟨G,8,none⟩=some (.string M)):(cp [2,2,2,2,2,2,2,2,2,2,2,1,2,1,1,2,1,1,1] iz).wp PR (fun e a' v'=>e=.normal/\a'.defers=[]/\a'.tmps=nK (fun i=>a'.tmps.getD i ae) B (.slice (some ⟨G,0,none⟩) 1 C) (ptr w.heap.size)/\v'.heap[w.heap.size]?=some (.cells #[.string ⟨#[97]⟩,ii 4,.string ⟨#[42]⟩,ii 0,.string ⟨#[42]⟩,.string ⟨#[45]⟩,.string ⟨#[45]⟩,.string B,.string M] 42)/\Kw w v') ⟨nK u B (.slice (some ⟨G,0,none⟩) 1 C) (p),[]⟩ w:=by
 obtain⟨Q,Y⟩:∃Q:Exit->Act->af->Prop,Q=(fun e a' v'=>e=.normal/\a'.defers=[]/\a'.tmps=nK (fun i=>a'.tmps.getD i ae) B (.slice (some ⟨G,0,none⟩) 1 C) (ptr w.heap.size)/\v'.heap[w.heap.size]?=some (.cells #[.string ⟨#[97]⟩,ii 4,.string ⟨#[42]⟩,ii 0,.string ⟨#[42]⟩,.string ⟨#[45]⟩,.string ⟨#[45]⟩,.string B,.string M] 42)/\Kw w v'):=⟨_,rfl⟩;rw[<-Y];have K:=laid Y;clear Y;unfold iz ax nK;simp only[au,cp];obtain⟨i0,I,H,D,R⟩:=info_parts QH;go_wp2
 rw[K.out];refine⟨rfl,rfl,by kernel_rfl,?_,?_⟩
 ·exact heap_alloc_new w _
 ·exact Kw.alloc w _
theorem aht{M:ByteArray}(h:w.heap[b]?=some (.cells #[.string ⟨#[97]⟩,ii 4,.string ⟨#[42]⟩,ii 0,.string ⟨#[42]⟩,.string ⟨#[45]⟩,.string ⟨#[45]⟩,.string B,.string M] 42)):(cp [2,2,2,2,2,2,2,2,2,2,2,1,2,1,1,2,1,1,2,1,1] iz).wp PR (fun e a' v'=>e=.normal/\a'.defers=[]/\(a'.tmps=nK (fun i=>a'.tmps.getD i ae) B (.slice (some ⟨G,0,none⟩) 1 C) (ptr b)/\a'.tmps.getD 87 ae=.bool true)/\v'.heap=w.heap) ⟨nK u B (.slice (some ⟨G,0,none⟩) 1 C) (ptr b),[]⟩ w:=by
 obtain⟨Q,Y⟩:∃Q:Exit->Act->af->Prop,Q=(fun e a' v'=>e=.normal/\a'.defers=[]/\(a'.tmps=nK (fun i=>a'.tmps.getD i ae) B (.slice (some ⟨G,0,none⟩) 1 C) (ptr b)/\a'.tmps.getD 87 ae=.bool true)/\v'.heap=w.heap):=⟨_,rfl⟩;rw[<-Y];have K:=laid Y;clear Y;unfold iz ax nK;simp only[au,cp];have c1:w.cell? ⟨b,1,none⟩=some (ii 4):=by rw[ah w _ 1 _ _ _ h];rfl
 simp only[ptr];go_wp2
 rw[K.out];exact⟨rfl,rfl,⟨by kernel_rfl,rfl⟩,rfl⟩
theorem ahu{M:ByteArray}(O:B.size<=60)(h:w.heap[b]?=some (.cells #[.string ⟨#[97]⟩,ii 4,.string ⟨#[42]⟩,ii 0,.string ⟨#[42]⟩,.string ⟨#[45]⟩,.string ⟨#[45]⟩,.string B,.string M] 42))(U:∀W,Calls PR 30 #[.int .i64 (B.size:Int)] W fun e w'=>e=.returned (.string M)/\∃os,w'=Go.Sort.grow W os):(cp [2,2,2,2,2,2,2,2,2,2,2,1,2,1,1,2,1,1,2,1,2,1,1] iz).wp PR (fun e a' v'=>e=.normal/\a'.defers=[]/\a'.tmps.getD 8 ae=.bool true/\Kw w v') ⟨nK u B (.slice (some ⟨G,0,none⟩) 1 C) (ptr b),[]⟩ w:=by
 obtain⟨Q,I⟩:∃Q:Exit->Act->af->Prop,Q=(fun e a' v'=>e=.normal/\a'.defers=[]/\a'.tmps.getD 8 ae=.bool true/\Kw w v'):=⟨_,rfl⟩;rw[<-I];have F:=laid I;clear I;unfold iz ax nK;simp only[au,cp];have D:=laid U;have Y:=jI h;have P:=ak Y (show w.cell? ⟨b,0,none⟩=some _ by rw[ah w _ 0 _ _ _ h];rfl);have S:=ak Y (show w.cell? ⟨b,1,none⟩=some _ by rw[ah w _ 1 _ _ _ h];rfl);have T:=ak Y (show w.cell? ⟨b,2,none⟩=some _ by rw[ah w _ 2 _ _ _ h];rfl);have V:=ak Y (show w.cell? ⟨b,3,none⟩=some _ by rw[ah w _ 3 _ _ _ h];rfl);have X:=ak Y (show w.cell? ⟨b,4,none⟩=some _ by rw[ah w _ 4 _ _ _ h];rfl);have Z:=ak Y (show w.cell? ⟨b,5,none⟩=some _ by rw[ah w _ 5 _ _ _ h];rfl);have E:=ak Y (show w.cell? ⟨b,6,none⟩=some _ by rw[ah w _ 6 _ _ _ h];rfl);have q:=ak Y (show w.cell? ⟨b,7,none⟩=some _ by rw[ah w _ 7 _ _ _ h];rfl);have j:=ak Y (show w.cell? ⟨b,8,none⟩=some _ by rw[ah w _ 8 _ _ _ h];rfl);have N:=laid (fun(W:af)=>(acN ⟨#[97]⟩ ⟨#[42]⟩ ⟨#[42]⟩ ⟨#[45]⟩ ⟨#[45]⟩ B M ⟨#[97]⟩ ⟨#[42]⟩ ⟨#[42]⟩ ⟨#[45]⟩ ⟨#[45]⟩ B M 4 0 4 0 W).1);have L:PR.follows .mixedOrders=true:=by kernel_rfl
 clear h U;simp only[ptr];refine wp_region_quiet_grown (by assumption) (by kernel_rfl) (WQ.out ?_)
 iterate 13
  refine WQ.step (fun K R=>?_);first
   |rw[if_pos (by rfl)]
   |rw[if_neg (by exact Bool.false_ne_true)]
  go_simp
  first
   |refine R _ ?_
   |(apply Exists.intro
     refine⟨fun _=>?_,R _ ?_⟩
     ·(go_at_call 30;exact Calls.grown_of ((D.out _).mono fun e w' h=>⟨h.1,0,h.2⟩)))
  clear R K
 refine⟨wpQuiet_nil ?_⟩;intro _ A;obtain⟨⟨nq,osq⟩,H⟩:=A;subst H;rw[F.out];exact⟨rfl,rfl,rfl,fun a J=>(below_grow (Below.refl w.heap.size w) (Nat.le_refl _) _ _).block a J⟩
end
def VI:List Item:=(gC PR 3 ((bf 8).at ⟨#[],[]⟩ [.code (cp [2,2,2,2,2,2,2,2,2,2,2,1,2] iz),.code (cp [2,2,2,2,2,2,2,2,2,2,2,2] iz)]) []).1.todo.tail
def VJ:List Item:=(gC PR 3 ((bf 8).at ⟨#[],[]⟩ VI) []).1.todo.tail
def VK:List Item:=(gC PR 2 ((bf 8).at ⟨#[],[]⟩ VJ) []).1.todo.tail.tail
section
variable{y:K8}{Q:QT}{v v0:af}{n:Nat}
theorem ahv(M:y.n=(n:Nat))(P:n<=6)(A:y.B.size<=100)(U:y.E=4)(J:y.S=⟨#[]⟩)(L:y.B.size<=n)(O:Kw v0 v):
  GW true Q (fun y v'=>y=.bool true/\Kw v0 v') 8 [.code (cp [2,2,2,2,2,2,2] iz)] (rK y 6) v:=by
 have Y:∃F,PR.funcs[8]?=some F:=⟨_,az⟩;refine GW.run 2 (k':=[.code (cp [2,2,2,2,2,2,2,1,1] iz),.code (cp [2,2,2,2,2,2,2,1,2] iz),.code (cp [2,2,2,2,2,2,2,2] iz)]) ?_;refine ar (fun u=>sM u y.X y.n y.B y.S y.E) (by kernel_rfl) fun u=>?_;rw[M];refine ai Y (by kernel_rfl) (R1:=fun a' w'=>(a'=sM (fun i=>a'.getD i ae) y.X n y.B y.S y.E/\a'.getD 52 ae=.bool true)/\w'.heap=v.heap) rfl (fun T=>SD (w:=tp v T) (by omega) A (.inl ⟨L,rfl⟩)) ?_;rintro a1 v2 ⟨⟨H,D⟩,R⟩;refine GW.run 0 (k':=[.code (.cond (.tmp 52) (cp [2,2,2,2,2,2,2,1,2,1] iz) .skip),.code (cp [2,2,2,2,2,2,2,2] iz)]) ?_;refine ay Y (t:=true) trivial D ?_;refine GW.run 1 (k':=[.code (cp [2,2,2,2,2,2,2,1,2,1,1] iz),.code .ret,.code (cp [2,2,2,2,2,2,2,2] iz)]) ?_;rw[H];refine ai Y (by kernel_rfl) (R1:=fun a' w'=>a'.getD 8 ae=.bool true/\w'.heap=v2.heap) rfl (fun T=>aje (w:=tp v2 T) U J) ?_;rintro a4 v4 ⟨K,I⟩;exact GW.JG Y 8 ⟨K,O.trans fun a C=>by rw[I,R]⟩
theorem ahw{x b:List UInt8}(kx:∀c∈x,gS c)(lx:x.length<=61)(lb:b.length<=30)(h4:n<=6)(hn:y.n=(n:Nat))(hX:y.X=str x)(J:y.B=str b)(hE:y.E=0)(hf:n<b.length)(f1:∀u,Kw v0 u->iF Q 25 #[.string y.S] u fun z v'=>∃l,z=.tuple #[l,.bool true]/\v'.ownsRow u.heap.size 42 9 l (oi x b n).length (qG (oi x b n))/\Kw u v')(k0:Kw v0 v):
  GW true Q (fun y v'=>y=.bool true/\Kw v0 v') 8 [.code (cp [2,2,2,2,2,2,2] iz)] (rK y 6) v:=by
 have Y:∃F,PR.funcs[8]?=some F:=⟨_,az⟩;have D:y.B.size=b.length:=by rw[J,gR]
 have hB:y.B.size<=100:=by omega
 refine GW.run 2 (k':=[.code (cp [2,2,2,2,2,2,2,1,1] iz),.code (cp [2,2,2,2,2,2,2,1,2] iz),.code (cp [2,2,2,2,2,2,2,2] iz)]) ?_;refine ar (fun u=>sM u y.X y.n y.B y.S y.E) (by kernel_rfl) fun u=>?_;rw[hn];refine ai Y (by kernel_rfl) (R1:=fun a' w'=>(a'=sM (fun i=>a'.getD i ae) y.X n y.B y.S y.E/\a'.getD 52 ae=.bool false)/\w'.heap=v.heap) rfl (fun T=>SD (w:=tp v T) (by omega) hB (.inr ⟨by omega,rfl⟩)) ?_;rintro a1 v2 ⟨⟨f,g⟩,eh⟩;refine GW.run 0 (k':=[.code (.cond (.tmp 52) (cp [2,2,2,2,2,2,2,1,2,1] iz) .skip),.code (cp [2,2,2,2,2,2,2,2] iz)]) ?_;refine ay Y (t:=false) trivial g ?_;rw[f,hE];generalize(fun i=>a1.getD i ae)=u1;have K2:Kw v0 v2:=k0.trans fun a R=>by rw[eh]
 clear f g;refine GW.run 3 (k':=kS [2,2,2,2,2,2,2,2] [0,1,2,3,4,5,6]) ?_;refine ao Y [0] ?_;refine ar (fun u=>vr u y.X n y.B y.S ae 1) (by kernel_rfl) fun u4=>?_;refine GW.call Y (f1 _ K2) ?_;rintro z v4 ⟨L,rfl,r1,K4⟩;refine ar (fun u=>vr u y.X n y.B y.S L 2) (by kernel_rfl) fun u5=>?_;refine ao Y [2,3,4,5,6] ?_;refine ar (fun u=>vr u y.X n y.B y.S L 3) (by kernel_rfl) fun u6=>?_;obtain⟨G,C,rfl,g1,o,c1⟩:=ahn (by omega) r1;have hN:=RQ x b n;have hNl:=ajc x b n;refine GW.run 3 (k':=[.code (cp [2,2,2,2,2,2,2,2,2,1,1] iz),.code (cp [2,2,2,2,2,2,2,2,2,1,2] iz),.code (cp [2,2,2,2,2,2,2,2,2,2] iz)]) ?_;refine ai Y (by kernel_rfl) (R1:=fun a' w'=>(a'=vr (fun i=>a'.getD i ae) y.X n y.B y.S (.slice (some ⟨G,0,none⟩) (nX x b n) C) 3/\a'.getD 74 ae=.bool false)/\w'.heap=v4.heap) (by kernel_rfl) (fun T=>ahq (w:=tp v4 T) hN) ?_;rintro a5 v5 ⟨⟨d,q⟩,H⟩;refine GW.run 0 (k':=[.code (.cond (.tmp 74) (cp [2,2,2,2,2,2,2,2,2,1,2,1] iz) .skip),.code (cp [2,2,2,2,2,2,2,2,2,2] iz)]) ?_;refine ay Y (t:=false) trivial q ?_;rw[d];generalize(fun i=>a5.getD i ae)=u7;clear d q;refine GW.run 3 (k':=kS [2,2,2,2,2,2,2,2,2,2] [0]) ?_;refine ao Y [0] ?_;refine GW.run 2 (k':=[.code (cp [2,2,2,2,2,2,2,2,2,2,2,1] iz),.code (cp [2,2,2,2,2,2,2,2,2,2,2,2] iz)]) ?_;have ce:∀p T,(tp v5 T).cell? p=v4.cell? p:=fun p T=>by simp only[World.cell?];rw[show(tp v5 T).heap=v5.heap from rfl,H]
 have he:∀T,(tp v5 T).heap.size=v4.heap.size:=fun T=>by rw[show(tp v5 T).heap=v5.heap from rfl,H]
 have Z:Kw v4 v5:=fun a R=>by rw[H]
 by_cases O:lz x b n=[]
 ·have n1:nX x b n=1:=by rw[nX,if_pos O]
  have row:qN x b n 0=Jd b:=by rw[qN,if_pos O]
  have K:=fun j N=>c1 0 j (by omega) N;rw[row]at K;simp only[Nat.zero_mul,Nat.zero_add]at K;rw[n1];refine GW.run 2 (k':=[.inRegion (opsOf (cp [2,2,2,2,2,2,2,2,2,2,2,1,1] iz)) [0],.code (cp [2,2,2,2,2,2,2,2,2,2,2,1,2] iz),.code (cp [2,2,2,2,2,2,2,2,2,2,2,2] iz)]) ?_;refine ao Y [0] ?_;refine ar (fun u=>nK u y.B (.slice (some ⟨G,0,none⟩) 1 C) (u 19)) (by kernel_rfl) fun u8=>?_;refine GW.run 4 (k':=.code (cp [2,2,2,2,2,2,2,2,2,2,2,1,2,1,1,1] iz)::VI) ?_;refine ai Y (by kernel_rfl) (R1:=fun a' w'=>a'=nK (fun i=>a'.getD i ae) y.B (.slice (some ⟨G,0,none⟩) 1 C) (u8 19)/\w'.heap=v5.heap) (by kernel_rfl) (fun T=>ahr (w:=tp v5 T)) ?_;rintro a6 v6 ⟨k,U⟩;rw[k];refine GW.run 3 (k':=.code (cp [2,2,2,2,2,2,2,2,2,2,2,1,2,1,1,2,1,1,1] iz)::VJ) ?_;have c6:∀p T,(tp v6 T).cell? p=v4.cell? p:=fun p T=>by simp only[World.cell?];rw[show(tp v6 T).heap=v6.heap from rfl,U,H]
  refine ai Y (by kernel_rfl) (R1:=fun a' w'=>a'=nK (fun i=>a'.getD i ae) y.B (.slice (some ⟨G,0,none⟩) 1 C) (ptr v6.heap.size)/\w'.heap[v6.heap.size]?=some (.cells #[.string ⟨#[97]⟩,ii 4,.string ⟨#[42]⟩,ii 0,.string ⟨#[42]⟩,.string ⟨#[45]⟩,.string ⟨#[45]⟩,.string y.B,.string (str (iy b.length))] 42)/\Kw v6 w') (by kernel_rfl) (fun T=>ahs (w:=tp v6 T) (M:=str (iy b.length)) ?_ ?_ ?_ ?_ ?_ ?_ ?_ ?_ ?_ ?_) ?_
  ·show G<v6.heap.size;rw[U,H];exact o
  ·rw[c6];exact K 0 (by decide)
  ·rw[c6];exact K 1 (by decide)
  ·rw[c6];exact K 2 (by decide)
  ·rw[c6];exact K 3 (by decide)
  ·rw[c6];exact K 4 (by decide)
  ·rw[c6];exact K 5 (by decide)
  ·rw[c6];exact K 6 (by decide)
  ·rw[c6,J];exact K 7 (by decide)
  ·rw[c6];exact K 8 (by decide)
  rintro a7 V ⟨h,s,k7⟩;rw[h];refine GW.run 2 (k':=.code (cp [2,2,2,2,2,2,2,2,2,2,2,1,2,1,1,2,1,1,2,1,1] iz):: .code (.cond (.tmp 87) (cp [2,2,2,2,2,2,2,2,2,2,2,1,2,1,1,2,1,1,2,1,2,1] iz) .skip)::VK) ?_;refine ai Y (by kernel_rfl) (R1:=fun a' w'=>(a'=nK (fun i=>a'.getD i ae) y.B (.slice (some ⟨G,0,none⟩) 1 C) (ptr v6.heap.size)/\a'.getD 87 ae=.bool true)/\w'.heap=V.heap) rfl (fun T=>aht (w:=tp V T) s) ?_;rintro a8 I ⟨⟨e8,m⟩,r⟩;refine ay Y (t:=true) trivial m ?_;rw[e8];refine GW.run 1 (k':=.code (cp [2,2,2,2,2,2,2,2,2,2,2,1,2,1,1,2,1,1,2,1,2,1,1] iz):: .code .ret::VK) ?_;refine ai Y (by kernel_rfl) (R1:=fun a' w'=>a'.getD 8 ae=.bool true/\Kw I w') rfl (fun T=>ahu (w:=tp I T) (M:=str (iy b.length)) (by omega) (by show I.heap[_]?=_;rw[r];exact s) fun W=>?_) ?_
  ·rw[D];exact NV _ W (by omega)
  rintro a9 v9 ⟨A,P⟩;exact GW.JG Y 8 ⟨A,(K2.trans K4).trans (Z.trans ((show Kw v5 v6 from fun a R=>by rw[U]).trans (k7.trans ((show Kw V I from fun a R=>by rw[r]).trans P))))⟩
 ·refine ar (fun u=>zJ u y.X y.B n (-1) (.slice (some ⟨G,0,none⟩) (nX x b n) C)) (by kernel_rfl) fun u8=>?_;refine ai Y (by kernel_rfl) (R1:=fun a' w'=>(∃l,a'=zJ (fun i=>a'.getD i ae) y.X y.B n l (.slice (some ⟨G,0,none⟩) (nX x b n) C))/\Kw v5 w') (by kernel_rfl) (fun T=>?_) ?_
  ·have T0:=abk kx (by omega) lb h4 O;rw[<-hX,<-J]at T0;refine Code.wp_mono ?_ (adm (w:=tp v5 T) (by omega) (by rw[hX,gR];omega) (by omega) (by omega) (afu fun i j hi N=>by rw[ce];exact c1 i j hi N) (by rw[he];exact o) T0 (fun W=>?_) fun W=>?_)
   ·rintro e a' v' ⟨p1,p2,p3,p4⟩;exact⟨p1,p2,p3,fun a R=>p4.block a R⟩
   ·rw[D];exact NV _ W (by omega)
   ·exact abg _ W (by rw[gR,nL];omega)
  ·rintro a9 v9 ⟨⟨l,A⟩,P⟩;rw[A];refine GW.run 2 (k':=kS [2,2,2,2,2,2,2,2,2,2,2,2] [0]) ?_;refine ao Y [0] ?_;refine GW.run 1 (k':=[.code .ret]) ?_;exact GW.JG Y 8 ⟨by kernel_rfl,(K2.trans K4).trans (Z.trans P)⟩
end
section
variable{W:af}{a0 a1:Option Addr}{l0 l1 c0 c1:Nat}{z0 z1:Nat->Int}{k q1 t1 w1:Int}{I:aj->af->Prop}
theorem afx(i0:uC W a0 l0 z0)(P:uC W a1 l1 z1)(hk:nA k)(U:nA q1/\nA t1/\nA w1)(H:qM (fun _=>False) W)(O:∀F d,g_ (fun _=>False) W F->I (.bool true) (F.at d)):
  gn PR (Ren.Ends PR I) (fun _=>False) (Frame.enter PR 8 #[.slice a0 l0 c0,.slice a1 l1 c1,ii k,.agg #[ii q1,ii t1,ii w1]] .normal) [] W:=by
 refine afp i0 P H O fun x0 b0 v b D L R B C Y M=>?_;have N:=Ac k (show 0<7 by decide);obtain⟨n,en⟩:∃n,n=kV k 7:=⟨_,rfl⟩;rw[<-en]at N;obtain⟨x,ex⟩:∃x,x=65::x0:=⟨_,rfl⟩;obtain⟨p,A⟩:∃p,p=67::b0:=⟨_,rfl⟩;have l1:1<=x.length:=by rw[ex];simp
 have l2:1<=p.length:=by rw[A];simp
 have S:b0.length<=17:=by simp at B;omega
 rw[<-ex]at D L;rw[<-A]at R B;have Q:p.length<=18:=B;have T:(str p).size=p.length:=gR p;obtain⟨y,J⟩:∃y:K8,y=⟨k,(n:Nat),if n<p.length then 0 else 4,.agg #[ii q1,ii t1,ii w1],b,str x0,str x,str (jo x),str b0,str p,str (jl p),if n<p.length then str (o9 (str (jo x)) (str (jl p)) n)else⟨#[]⟩⟩:=⟨_,rfl⟩;have key:GW true (Ren.Ends PR I) (fun x v'=>x=.bool true/\Kw v v') 8 (kS [2,2,2,2] [2,3]) (rK y 0) v:=by
  refine afw (q1:=q1) (t1:=t1) (w1:=w1) ?_ ?_ ?_ ?_ ?_ ?_ ?_ ?_ ?_ fun v' K=>?_;all_goals rw[J]
  ·show(str b0).size<=50;rw[gR];omega
  ·show _=str p;rw[A];exact oy [67] b0
  ·exact hk
  ·show((n:Nat):Int)=_;rw[en]
  ·exact M
  ·exact fun u K=>ai7 (by omega) K
  ·exact fun u K=>ag9 (by omega) K
  ·refine fun u K=>iF.mono (ac_ (k:=(n:Nat)) ?_ ?_ U.1 U.2.1 U.2.2 (K.nR C) (K.r7 C Y)) fun y v' h=>⟨by rw[h.1,adf D l1 (by omega) R (by omega) (by omega) (by omega),P5 D l1 (by omega) R (by omega) (by omega) (by omega)],K.trans h.2⟩;all_goals(rw[gR];simp only[jo,jl,nL,List.length_append,List.length_cons,List.length_nil,maxLen];omega)
  ·by_cases d1:n<p.length
   ·refine ahw (x:=x) (b:=p) (n:=n) D L (by omega) (by omega) rfl rfl rfl (if_pos d1) d1 (fun u K=>?_) K;show iF _ 25 #[.string (if n<p.length then _ else _)] u _
    rw[if_pos d1];exact Zw D l1 (by omega) R (by omega) (by omega) (by omega)
   ·exact ahv (n:=n) rfl (by omega) (by show(str p).size<=100;omega) (if_neg d1) (if_neg d1) (by show(str p).size<=n;omega) K
 rw[J]at key;rw[ex]at key;exact GW.to _ key
end
end Ph
end
end Go.Proofs.YtdcjnhipenbcfaaGreatDoor
