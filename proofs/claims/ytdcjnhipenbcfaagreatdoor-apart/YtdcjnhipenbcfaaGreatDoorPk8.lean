/-
  Own text. Part 8 of what the claim rests on.
-/
import Derived.Lib.AppendIntMem
import Derived.Deep.AppendLies
import Derived.Deep.RegionLaw
import Derived.Conc.HoldsTime
import Derived.StillGives
import Derived.LaidLaws
import Derived.SevenTiedAt
import Derived.Test.YtdcjnhipenbcfaaGreatDoorPk7
set_option linter.unusedVariables false
set_option linter.unusedSectionVars false
set_option linter.unusedSimpArgs false
set_option maxRecDepth 100000
set_option maxHeartbeats 16000000
open Array renaming getElem?_eq_some_iff->ah5,getElem?_eq_getElem->aib,toList_extract->aio,getElem?_toList->aiB,getElem?_eq_none->aiO
open Bool renaming not_eq_true->aiA
open ByteArray renaming size_extract->aia,data_extract->ail
open Go.Instr renaming typeAssert->aiJ
open Go.IntKind renaming i64->ah9
open Go.IntWalk renaming i64_in->ah7
open Go.Lib renaming byteCells->aif,BuilderAt->aiv,IsBuilder->aiw,cell_of_heap->aiz,decDigits->aiR,frozen_of_heap->aiS
open Go.Lib.BuilderAt renaming put->ai0
open Go.Proofs.Tryz renaming underlying79->aie,underlying65->ait,ntmps147->aiy,func147->aiC,underlying131->aiT,f111->aiY,underlying25->aiZ,underlying9->ai4
open Go.RowKit.Below renaming refl->ah8
open Go.World renaming drewN_drewN->aiu,news_of_block->aiD,ownsRow_nil->ai2
open Int renaming natCast_nonneg->aiX
open List renaming length_append->ah2,getElem?_eq_getElem->ah3,getD_eq_getElem?_getD->ah6,map_append->ah_,getElem?_take_of_lt->aid,mem_append->aih,length_singleton->aii,take_of_length_le->aim,getElem?_eq_none->ain,reverse_append->aip,mem_map->aiq,mem_singleton->air,getElem?_map->ais,getElem?_take->aiF,getElem?_drop->aiG,pairwise_map->aiH,extract_eq_take_drop->aiI,length_nil->aiL,range_succ->aiM,getElem?_reverse->aiP,pairwise_append->aiQ,countP_append->aiU,ext_getElem?->ai1,length_cons->ai5,take_length->ai6,getElem_mem->ai7,length_map->ai8
open Nat renaming le_refl->ah4,zero_le->aic,lt_or_ge->aij,lt_of_lt_of_le->aik,div_mul_le_self->aiE,min_eq_right->aiK,min_eq_left->aiN,mul_comm->aiV,le_total->aiW,mul_add->ai3,div_add_mod->ai9,le_antisymm->ai_
namespace Go.Proofs.YtdcjnhipenbcfaaGreatDoor
variable {S X s t:ByteArray}{c f1:Frame}{cs:List Frame}{Z:Loc->Prop}{A b d j k q x:Nat}{g:Nat->Nat}{o:Obj}{e:TypeId}{a:UInt8}{y:Value}{w w' w0:World}
section
open RowKit Maps
def a_(P X:ByteArray)(k q st:Nat)(t:Int)
 |0=>[]
 |b+1=>if looked P X k q st t b=true then a_ P X k q st t b++[b]else a_ P X k q st t b
theorem lZ(P X:ByteArray)(k q st:Nat)(t:Int):∀n,(a_ P X k q st t n).length<=n
 |0=>ah4 _
 |n+1=>by
  have:=lZ P X k q st t n;simp[a_];split
  ·simp_all
  ·omega
theorem rM{P:ByteArray}{st:Nat}{t:Int}(h:looked P X k q st t b=true):a_ P X k q st t (b+1)=a_ P X k q st t b++[b]:=by
 rw[a_,if_pos h]
theorem EE{P:ByteArray}{st:Nat}{t:Int}(h:looked P X k q st t b=false):a_ P X k q st t (b+1)=a_ P X k q st t b:=by
 rw[a_,if_neg (by simp[h])]
def ox(z:Nat):Value:=.int .i64 (z:Int)
def ST(w:World)(p:Nat)(k q st:Nat):Prop:=w.heap[p]?=some (.cells #[.int .i64 (k:Int),.int .i64 (q:Int),.int .i64 (st:Int)] 75 (0,0))
theorem ST.c0{p st:Nat}(h:ST w p k q st):w.cell? ⟨p,0,none⟩=some (.int .i64 k):=by rw[cell_of_row w p 0 _ _ _ h];rfl
theorem ST.c1{p st:Nat}(h:ST w p k q st):w.cell? ⟨p,1,none⟩=some (.int .i64 q):=by rw[cell_of_row w p 1 _ _ _ h];rfl
theorem ST.c2{p st:Nat}(h:ST w p k q st):w.cell? ⟨p,2,none⟩=some (.int .i64 st):=by rw[cell_of_row w p 2 _ _ _ h];rfl
theorem ST.lt{p st:Nat}(h:ST w p k q st):p<w.heap.size:=by
 have:=block_lt_of_cell h.c0;omega
theorem ST.below{p st B:Nat}(h:ST w p k q st)(hb:Below B w w')(Y:p<B):ST w' p k q st:=by unfold ST at *;rw[hb.block p Y];exact h
theorem ST.new(w:World)(k q st:Nat):ST (w.alloc (.cells #[.int .i64 k,.int .i64 q,.int .i64 st] 75)) w.heap.size k q st:=heap_alloc_new w _
theorem OE:(Tryz.prog.info? 3).map (fun i=>(i.zero,i.size,i.bytes))=some (some (.int .i64 0),1,8):=by kernel_rfl
theorem pI{B:Nat}{v:Value}{n:Nat}{xs:List _}(h:w.ownsRow B e 1 v n xs)(hb:Below w.heap.size w w'):w'.ownsRow B e 1 v n xs:=
 h.kept (cy hb none) (by cases v.ownBlock<;>simp)
theorem BV{n B:Nat}{D:DataW _}(h:pH w b n D)(hb:Below B w w')(Y:b<B):pH w' b n D:=by
 obtain⟨es,clock,K,r⟩:=h;exact⟨es,clock,by rw[hb.block b Y];exact K,r⟩
theorem jM{B R:Nat}{v:Value}{n:Nat}{xs:List _}(h:w.ownsRow B e 1 v n xs)(D:R<=B):w.ownsRow R e 1 v n xs:=by
 refine⟨h.1,?_⟩;rcases h.2 with h'|⟨g,cap,cur,Y,H,K⟩
 ·simp_all
 ·exact .inr ⟨g,cap,cur,Y,by omega,K⟩
theorem zw(X P:ByteArray)(k q st:Nat)(w:World)(hX:X.size<=200)(hP:P.size<=30)(hk:k<=6)(hq:1<=q)(Tu:q<=8)(hs:1<=st)(hs':st<=200):
  Calls Tryz.prog 48 #[.string X,.string P,.agg #[.int .i64 (k:Int),.int .i64 (q:Int),.int .i64 (st:Int)]] w fun e w'=>
   ∃v,e=.returned v/\w'.ownsRow w.heap.size 3 1 v (a_ P X k q st (Ep P.size k q) (stretches X.size st)).length ((a_ P X k q st (Ep P.size k q) (stretches X.size st)).map ox)/\Below w.heap.size w w':=by
 obtain⟨i0,hi,Mz,MA,MB⟩:=info_parts OE;have htl: -1000<=Ep P.size k q/\Ep P.size k q<=1000:=by
  unfold Ep;have:=Nat.mul_le_mul hk Tu;omega
 have s:=laid (fun b=>ie X.size st b hs);have hsl:stretches X.size st<=400:=by
  unfold stretches;have:=Nat.div_le_self (X.size+st-1) st;omega
 generalize hT:Ep P.size k q=t at *;have HT:=laid hT;clear hT
 go_enter Tryz.func48,Tryz.ntmps48
 go_wp2_with fail
 refine(ED k q st P.size _ hk Tu (by omega)).mono ?_;rintro e w1 ⟨rfl,d⟩;have F:=(ST.new w k q st).below d (by simp);have O:Below w.heap.size w w1:=((ah8 _ _).alloc (ah4 _) _).trans (d.mono (by simp));clear d;rw[HT.out];clear HT;have c1:=F.c1;go_wp2_with fail
 refine(nI P q _ (by omega) hq (by omega)).mono ?_;rintro e w2 ⟨rfl,⟨n1,D1,hn1,Q,G⟩,f⟩;have Z:=F.below f F.lt;have i:Below w.heap.size w w2:=O.trans (f.mono O.size);have hp2:=Z.lt;have n:=Q.lt;clear f O F c1;have HCN:=laid G;clear G;generalize w1.heap.size=b1 at *;go_wp2
 go_loopw [9,10] (fun v num wr=>∃b:Nat,num=.int .i64 (b:Int)/\b<=stretches X.size st/\wr.ownsRow w2.heap.size 3 1 v (a_ P X k q st t b).length ((a_ P X k q st t b).map ox)/\Below w2.heap.size w2 wr) (fun _ num _=>stretches X.size st-(intOf num).toNat)
 case atStart=>exact⟨0,rfl,aic _,⟨rfl,.inl ⟨rfl,rfl⟩⟩,ah8 _ _⟩
 case round=>
  obtain⟨b,rfl,hb,c,C⟩:=hrel;have au:=Z.below C hp2;have c0:=au.c0;have c1:=au.c1;have c2:=au.c2;have hll:=lZ P X k q st t b;have L:Hid (looked P X k q st t b=(decide (t<=0)||decide (t<=(vv P (X.extract (b *st) (pE P.size X.size k st b)) q:Int)))):=laid rfl;by_cases Rs:b<stretches X.size st
  ·have N:=(s.out b).2 Rs;have y:=laid (fun W=>BT X k q st P.size b W (by omega) hk hs' (by omega) (by omega) (by omega));obtain⟨m,M,hm⟩:∃m:Nat,b *st=m/\(b:Int) *(st:Int)=(m:Int):=⟨b *st,rfl,by simp⟩;rw[M]at N;have hS:(X.extract (b *st) (pE P.size X.size k st b)).size<=1000:=by rw[aia];omega
   generalize X.extract (b *st) (pE P.size X.size k st b)=S at *;clear M;go_wp2_with fail
   refine(y.out _).mono ?_;rintro e w3 ⟨rfl,l⟩;have U:=pI c l;have Y:=C.trans (l.mono C.size);clear l y;by_cases ht0:t<=0
   ·have x:Hid (looked P X k q st t b=true):=laid (by rw[L.out,decide_eq_true ht0];rfl);clear L;go_wp2_with(first
     |(at_builtin;refine wpList_append_own _ rfl _ _ 25 rfl w2.heap.size 3 i0 (.int .i64 0) 1 8 aiZ hi Mz MA MB rfl (by decide) _ _ _ rfl (U.alloc _) ⟨w3.heap.size,0,none⟩ 1 1 [ox b] rfl rfl ?c1 ?c2 ?c3 ?c4 ?c5 ?_)
     |go_in)
    case c1=>
     intro j u J
     match j,J with
     |0,J=>simp at J;subst J;simp[Addr.add,ox]
    case c2=>intro u hu;simp at hu;subst hu;rfl
    case c3=>unfold maxLen;omega
    case c4=>omega
    case c5=>have:=Y.size;simp;omega
    intro v' wz K D _;have A:Below w2.heap.size w2 wz:=(Y.alloc Y.size _).grown D (by have:=Y.size;simp;omega) (fun j J=>(U.lt j J).1);have R:wz.ownsRow w2.heap.size 3 1 v' (a_ P X k q st t (b+1)).length ((a_ P X k q st t (b+1)).map ox):=by
     rw[rM x.out,ah2,ah_];exact K
    obtain⟨g,cap,n',rfl⟩:∃g cap n',v'=.slice (some ⟨g,0,none⟩) n' cap:=by
     rcases K.2 with⟨_,h0⟩|⟨g,cap,cur,hv,_⟩
     ·omega
     ·exact⟨g,cap,_,hv⟩
    clear K D;go_wp2
    go_roundw
    case rel=>go_light;exact⟨b+1,by go_num,by omega,R,A⟩
    case measure=>go_light;simp[intOf];omega
   ·have aaA:=Z.below Y hp2;have d1:=aaA.c1;clear c0 c1 c2;go_wp2_with fail
    refine(nI S q _ hS hq (by omega)).mono ?_;rintro e w4 ⟨rfl,⟨n2,D2,hn2,T,z⟩,o⟩;have I:=Y.trans (o.mono Y.size);have r:=pI U o;have V:=BV Q I n;have E:=laid z;clear z o;go_wp2_with fail
    refine(EC P S q b1 n1 _ n2 D1 D2 _ hq hS hn1 V T HCN.out E.out).mono ?_;rintro e w5 ⟨rfl,p⟩;have H:=I.trans (p.mono I.size);have B:=pI r p;clear p V T E;by_cases hge:t<=(vv P S q:Int)
    ·have x:Hid (looked P X k q st t b=true):=laid (by rw[L.out,decide_eq_true hge,Bool.or_true]);clear L;go_wp2_with(first
      |(at_builtin;refine wpList_append_own _ rfl _ _ 25 rfl w2.heap.size 3 i0 (.int .i64 0) 1 8 aiZ hi Mz MA MB rfl (by decide) _ _ _ rfl (B.alloc _) ⟨w5.heap.size,0,none⟩ 1 1 [ox b] rfl rfl ?c1 ?c2 ?c3 ?c4 ?c5 ?_)
      |go_in)
     case c1=>
      intro j u J
      match j,J with
      |0,J=>simp at J;subst J;simp[Addr.add,ox]
     case c2=>intro u hu;simp at hu;subst hu;rfl
     case c3=>unfold maxLen;omega
     case c4=>omega
     case c5=>have:=H.size;simp;omega
     intro v' wz K D _;have A:Below w2.heap.size w2 wz:=(H.alloc H.size _).grown D (by have:=H.size;simp;omega) (fun j J=>(B.lt j J).1);have R:wz.ownsRow w2.heap.size 3 1 v' (a_ P X k q st t (b+1)).length ((a_ P X k q st t (b+1)).map ox):=by
      rw[rM x.out,ah2,ah_];exact K
     obtain⟨g,cap,n',rfl⟩:∃g cap n',v'=.slice (some ⟨g,0,none⟩) n' cap:=by
      rcases K.2 with⟨_,h0⟩|⟨g,cap,cur,hv,_⟩
      ·omega
      ·exact⟨g,cap,_,hv⟩
     clear K D;go_wp2
     go_roundw
     case rel=>go_light;exact⟨b+1,by go_num,by omega,R,A⟩
     case measure=>go_light;simp[intOf];omega
    ·have x:Hid (looked P X k q st t b=false):=laid (by rw[L.out,decide_eq_false (by omega),decide_eq_false (by omega)];rfl);clear L;have R:w5.ownsRow w2.heap.size 3 1 u9 (a_ P X k q st t (b+1)).length ((a_ P X k q st t (b+1)).map ox):=by
      rw[EE x.out];exact B
     go_wp2
     go_roundw
     case rel=>go_light;exact⟨b+1,by go_num,by omega,R,H⟩
     case measure=>go_light;simp[intOf];omega
  ·have a:b=stretches X.size st:=by omega
   have N:=fun h=>Rs ((s.out b).1 h);obtain⟨m,M,hm⟩:∃m:Nat,b *st=m/\(b:Int) *(st:Int)=(m:Int):=⟨b *st,rfl,by simp⟩;rw[M]at N;have hmb:m<=100000:=by rw[<-M];exact Nat.le_trans (Nat.mul_le_mul (show b<=400 by omega) hs') (by omega)
   clear M;have hms:X.size<=m:=Nat.le_of_not_lt N;have HBE:=laid a;clear N a;go_wp2
   go_ret
   exact⟨u9,rfl,by rw[<-HBE.out];exact jM c (by omega),i.trans (C.mono (by omega))⟩
end
section
open RowKit
theorem EF(n:Nat):aiR n=br n:=by
 induction n using Nat.strongRecOn with
 |_ n Y=>
  by_cases h:n<10
  ·rw[aiR,dif_pos h,iz n (by omega)];rfl
  ·rw[aiR,dif_neg h,oG n (by omega),Y _ (by omega)];rfl
theorem BW(z:Nat)(w:World)(K:z<=9999)(Y:bu w):
  Calls Tryz.prog 74 #[.int .i64 z] w fun e w'=>e=.returned (.string (str (br z)))/\Below w.heap.size w w':=by
 refine(Tryz.strconv_Itoa _ (by omega) (by omega) w Y).mono ?_;rintro e w' ⟨rfl,k,os,rfl⟩;rw[Lib.itoa_nonneg,EF];exact⟨rfl,Lib.below_grow _ w (ah4 _) k os⟩
theorem rN{p:Value}{B:Nat}{bs:List _}(h:aiv 102 5 B B p bs w)(hb:Below w.heap.size w w'):aiv 102 5 B B p bs w':=by
 obtain⟨D,v,R,Y,K⟩:=h;have H:=Lib.BuilderAt.lt ⟨D,v,R,Y,K⟩;exact⟨D,v,by rw[hb.block B H];exact R,pI Y hb,K⟩
theorem eP.below{B:Nat}{acc:List _}(h:eP B acc w)(hb:Below w.heap.size w w'):eP B acc w':=
 h.imp (fun h=>rN h hb) (fun h=>rN h hb)
theorem BX(B:Nat)(acc:List _)(c:UInt8)(w:World)(h:eP B acc w)(D:acc.length+1<=1000000):
  Calls Tryz.prog 73 #[.pointer (some ⟨B,0,none⟩),.int .u8 c.toNat] w fun e w'=>e=.returned .nilIface/\eP B (acc++[c]) w'/\Below B w w':=by
 refine(wv B B _ _ w h (by simp[aif];omega) (by have:=h.lt;omega)).mono ?_;rintro e w' ⟨he,K,H⟩;have Y:aif acc++[Value.int .u8 c.toNat]=aif (acc++[c]):=by simp[aif]
 simp_all
theorem mW(x:Int)(z:Nat)(K:x=z)(w:World)(H:z<=9999)(Y:bu w):
  Calls Tryz.prog 74 #[.int .i64 x] w fun e w'=>e=.returned (.string (str (br z)))/\Below w.heap.size w w':=by subst K;exact BW z w H Y
theorem EG(s:ByteArray)(w:World)(k:s.size<=1000)(S:bu w):
  Calls Tryz.prog 127 #[.string s] w fun e w'=>e=.returned (.string (str (nE s)))/\Below w.heap.size w w':=by
 have HT:=laid S;clear S
 go_enter Tryz.func127,Tryz.ntmps127
 go_wp2
 go_loopw [4,8] (fun t iv wr=>∃i:Nat,t=.int .i64 ((eI s i).2:Int)/\iv=.int .i64 (i:Int)/\i<=s.size/\eP w.heap.size (eI s i).1 wr/\Below w.heap.size w wr) (fun _ iv _=>s.size-(intOf iv).toNat)
 case atStart=>exact⟨0,rfl,rfl,aic _,eP.new w,(ah8 _ _).alloc (ah4 _) _⟩
 case round=>
  obtain⟨i,rfl,rfl,y,J,H⟩:=hrel;have hle:=zp s i (by omega);by_cases l:i<s.size
  ·have x:(i:Int)<(s.size:Int):=by omega
   have v:(0:Int)<=(i:Int):=by omega
   have r:=eQ s i l;have c:=laid (@Ln s i);have z:=laid (@Ov s i);have u:=cC ((eI s i).2+1) (by omega);have x1:ah9.wrap ((i:Int)+1)=(i:Int)+1:=ah7 _ (by omega);have x2:ah9.wrap (((eI s i).2:Int)+1)=((eI s i).2:Int)+1:=ah7 _ (by omega);have Z:Hid (∀W:World,Below w.heap.size w W->Calls Tryz.prog 74 #[.int .i64 (((eI s i).2:Int)+1)] W fun e w'=>e=.returned (.string (str (br ((eI s i).2+1))))/\Below W.heap.size W w'):=laid (fun W hW=>mW _ ((eI s i).2+1) (by omega) W (by omega) (HT.out.on hW));have m:(eI s i).2<=1000:=by omega
   have a:(eI s i).1.length<=5000:=by omega
   generalize(eI s i).1=O at *;generalize(eI s i).2=n at *;by_cases K:i+1=s.size\/at8 s (i+1)≠at8 s i
   ·have T:=laid (c.out K);clear c z hle;have X:((i:Int)+1==(s.size:Int))=true\/(((i:Int)+1==(s.size:Int))=false/\i+1<s.size/\(((at8 s (i+1)).toNat:Int) != ((at8 s i).toNat:Int))=true):=by
     by_cases N:i+1=s.size
     ·left;simp;omega
     ·right;refine⟨by simp;omega,by omega,?_⟩;rcases K with h|h
      ·exact absurd h N
      ·exact toNat_ne h
    clear K;rcases X with G|⟨G,P,b⟩
    ·go_wp2_with fail
     go_quiet(fail)
     have D:=J.drewN nq;have Y:=Go.below_drewN H nq;go_wp2_with fail
     refine(Z.out _ Y).mono ?_;rintro e w2 ⟨rfl,U⟩;have R:=D.below U;have B:=Y.trans (U.mono Y.size);clear U J H D Y Z;go_wp2_with fail
     refine(pB _ _ (str (br (n+1))) _ R (by rw[ak];omega)).mono ?_;rintro e w3 ⟨rfl,I,L⟩;have C:=B.trans L;clear L R;go_wp2_with fail
     refine(BX _ _ (at8 s i) _ I (by rw[ah2];show _+(br (n+1)).length+1<=_;omega)).mono ?_;rintro e w4 ⟨rfl,A,M⟩;have F:=C.trans M;have Q:=laid A;clear M I A;go_wp2
     go_roundw
     case rel=>go_light;exact⟨i+1,bg (by rw[T.out];rfl),by go_num,by omega,by rw[T.out];exact Q.out,F⟩
     case measure=>go_light;simp[intOf];omega
    ·have f:(i:Int)+1<(s.size:Int):=by omega
     have g:(0:Int)<=(i:Int)+1:=by omega
     have E:=eQ s (i+1) P;go_wp2_with fail
     go_quiet(fail)
     have D:=J.drewN nq;have Y:=Go.below_drewN H nq;go_wp2_with fail
     refine(Z.out _ Y).mono ?_;rintro e w2 ⟨rfl,U⟩;have R:=D.below U;have B:=Y.trans (U.mono Y.size);clear U J H D Y Z;go_wp2_with fail
     refine(pB _ _ (str (br (n+1))) _ R (by rw[ak];omega)).mono ?_;rintro e w3 ⟨rfl,I,L⟩;have C:=B.trans L;clear L R;go_wp2_with fail
     refine(BX _ _ (at8 s i) _ I (by rw[ah2];show _+(br (n+1)).length+1<=_;omega)).mono ?_;rintro e w4 ⟨rfl,A,M⟩;have F:=C.trans M;have Q:=laid A;clear M I A;go_wp2
     go_roundw
     case rel=>go_light;exact⟨i+1,bg (by rw[T.out];rfl),by go_num,by omega,by rw[T.out];exact Q.out,F⟩
     case measure=>go_light;simp[intOf];omega
   ·have T:=laid (z.out K);have N:i+1≠s.size:=fun h=>K (.inl h);have j:at8 s (i+1)=at8 s i:=Classical.byContradiction fun h=>K (.inr h);have G:((i:Int)+1==(s.size:Int))=false:=by simp;omega
    have P:i+1<s.size:=by omega
    have f:(i:Int)+1<(s.size:Int):=by omega
    have g:(0:Int)<=(i:Int)+1:=by omega
    have E:=eQ s (i+1) P;have b:=toNat_eq j;have o:=laid J;clear c z N j K hle Z;go_wp2_with fail
    go_quiet(fail)
    have Y:=Go.below_drewN H nq;go_wp2
    go_roundw
    case rel=>go_light;exact⟨i+1,bg (by rw[T.out];simp),by go_num,by omega,by rw[T.out];exact o.out.drewN _,Y⟩
    case measure=>go_light;simp[intOf];omega
  ·have q:i=s.size:=by omega
   have p:Hid (str (eI s i).1=str (nE s)):=laid (by unfold nE;rw[q]);clear q hle;generalize(eI s i).1=O at *;generalize(eI s i).2=n at *;go_wp2_with fail
   refine(mU _ _ _ J).mono ?_;rintro e w1 ⟨rfl,d⟩;have V:=H.trans d;go_wp2
   go_ret
   exact⟨E6 p.out,V⟩
def Kp(b:Nat)(w w':World):Prop:=∀(x:Nat) (c:Array Value) (T:TypeId) (fz:Nat×Nat),x≠b->T≠5->w.heap[x]?=some (.cells c T fz)->w'.heap[x]?=some (.cells c T fz)
theorem Kp.refl(b:Nat)(w:World):Kp b w w:=fun _ _ _ _ _ _ h=>h
theorem Kp.trans{b:Nat}{w w' D:World}(h:Kp b w w')(k:Kp b w' D):Kp b w D:=fun x c T fz Y K H=>k x c T fz Y K (h x c T fz Y K H)
theorem Kp.gP(h:Below w.heap.size w w'):Kp b w w':=fun x c T fz H D Y=>by
 have K:=(ah5.1 Y).1;rw[h.block x K];exact Y
theorem Kp.put(b k:Nat)(v:Value)(w:World):Kp b w (w.setCell ⟨b,k,none⟩ v):=fun x c T fz Y D K=>by
 have H:=(ah5.1 K).1;have:=(bJ w b k v).block x H (fun e=>Y (by simp_all));simp_all
theorem Kp.alloc(b:Nat)(w:World)(o:Obj):Kp b w (w.alloc o):=fun x c T fz H D Y=>by
 have K:=(ah5.1 Y).1;rw[heap_alloc_old w _ K];exact Y
theorem Kp.row{B n:Nat}{v:Value}{xs:List _}(D:w.ownsRow B 5 1 v n xs)(h:w.grownBy w' v.ownBlock):Kp b w w':=fun x c T fz R K Y=>by
 have H:=(ah5.1 Y).1;rw[h.block x H (fun e=>il D Y K e.symm)];exact Y
theorem rO(B b:Nat)(bs:List _)(w:World)(h:aiw 102 5 B b bs w):
  Calls Tryz.prog 96 #[.pointer (some ⟨b,0,none⟩)] w fun e w'=>e=.returned (.tuple #[])/\aiv 102 5 B b (.pointer (some ⟨b,0,none⟩)) bs w'/\Below B w w'/\Kp b w w':=by
 rcases h with h|h
 ·refine(k4 b w h.cell0 h.shape h.frozen0).mono ?_;rintro e w' ⟨rfl,rfl⟩;exact⟨rfl,h.used _,(ah8 B w).setCell h.1 _,Kp.put b 0 _ w⟩
 ·refine(lU b w h.cell0).mono ?_;rintro e w' ⟨rfl,rfl⟩;exact⟨rfl,h,ah8 B _,Kp.refl b _⟩
theorem wN(B b:Nat)(bs:List Value)(s:ByteArray)(w:World)(h:aiw 102 5 B b bs w)(hlen:bs.length+s.size<=1000000000)(S:B<=w.heap.size):
  Calls Tryz.prog 63 #[.pointer (some ⟨b,0,none⟩),.string s] w fun e w'=>e=.returned (.tuple #[.int .i64 (s.size:Int),.nilIface])/\aiw 102 5 B b (bs++Lib.strCells s) w'/\Below B w w'/\Kp b w w':=by
 obtain⟨i0,Q,J,L,M⟩:=info_parts F4
 go_enter Tryz.func63,Tryz.ntmps63
 go_wp2_with(go_at_call 96;refine(rO B b bs _ h).mono ?_)
 rintro e w1 ⟨rfl,⟨O,v,I,K,C⟩,D,A⟩;have c1:w1.cell? ⟨b,1,none⟩=some v:=by rw[aiz I];rfl
 go_wp2_with(at_builtin;refine Lib.wpList_append_own_string _ rfl _ _ 79 9 rfl B 5 i0 aie ai4 Q J L M _ _ _ rfl K s rfl ?c3 ?c4 ?c5 ?_)
 case c3=>unfold maxLen;omega
 case c4=>omega
 case c5=>have:=D.size;omega
 intro v' w2 H Y _;have U:b<w1.heap.size:=by
  rcases aij b w1.heap.size with h'|h'
  ·exact h'
  ·simp[aiO h']at I
 have R:w2.heap[b]?=some (.cells #[.pointer (some ⟨b,0,none⟩),v] 102 (0,0)):=by
  rw[Y.block b U (fun e=>C e.symm)];exact I
 have d1:w2.cell? ⟨b,1,none⟩=some v:=by rw[aiz R];rfl
 have f1:w2.frozen? ⟨b,1,none⟩=false:=aiS R 1;obtain⟨N,P,cap,rfl⟩:∃N P cap,v'=.slice N P cap:=by
  rcases H.2 with⟨F,_⟩|⟨g,cap,cur,F,_⟩
  ·exact⟨_,_,_,F⟩
  ·exact⟨_,_,_,F⟩
 go_wp2
 go_ret2
 refine⟨rfl,.inr ?_,?_,?_⟩
 ·exact ai0 (T:=102) (e:=5) O R (bs':=bs++Lib.strCells s) (by simpa[Lib.strCells_length]using H) Ya
 ·exact(D.grown Y (by have:=D.size;omega) (fun k hk=>(K.lt k hk).1)).setCell (p:=⟨b,1,none⟩) O _
 ·exact(A.trans (Kp.row K Y)).trans (Kp.put b 1 _ w2)
theorem BZ(B b:Nat)(bs:List Value)(c:Int)(w:World)(h:aiw 102 5 B b bs w)(hlen:bs.length+1<=1000000000)(O:B<=w.heap.size):
  Calls Tryz.prog 73 #[.pointer (some ⟨b,0,none⟩),.int .u8 c] w fun e w'=>e=.returned .nilIface/\aiw 102 5 B b (bs++[.int .u8 c]) w'/\Below B w w'/\Kp b w w':=by
 obtain⟨i0,P,J,L,M⟩:=info_parts F4
 go_enter Tryz.func73,Tryz.ntmps73
 go_wp2_with(go_at_call 96;refine(rO B b bs _ h).mono ?_)
 rintro e w1 ⟨rfl,⟨N,v,I,K,F⟩,D,U⟩;have c1:w1.cell? ⟨b,1,none⟩=some v:=by rw[aiz I];rfl
 go_wp2_with(at_builtin;refine wpList_append_own _ rfl _ _ 79 rfl B 5 i0 (.int .u8 0) 1 1 aie P J L M rfl (by decide) _ _ _ rfl (K.alloc _) ⟨w1.heap.size,0,none⟩ 1 1 [.int .u8 c] rfl rfl ?c1 ?c2 ?c3 ?c4 ?c5 ?_)
 case c1=>
  intro j u A
  match j,A with
  |0,A=>simp at A;subst A;simp[Addr.add]
 case c2=>intro u hu;simp at hu;subst hu;rfl
 case c3=>unfold maxLen;omega
 case c4=>omega
 case c5=>have:=D.size;simp;omega
 intro v' w2 H Y _;have C:b<w1.heap.size:=by
  rcases aij b w1.heap.size with h'|h'
  ·exact h'
  ·simp[aiO h']at I
 have R:w2.heap[b]?=some (.cells #[.pointer (some ⟨b,0,none⟩),v] 102 (0,0)):=by
  rw[Y.block b (by simp;omega) (fun e=>F e.symm),Lib.alloc_old w1 _ b C];exact I
 have d1:w2.cell? ⟨b,1,none⟩=some v:=by rw[aiz R];rfl
 have f1:w2.frozen? ⟨b,1,none⟩=false:=aiS R 1;obtain⟨g,cap,rfl⟩:∃g cap,v'=.slice (some ⟨g,0,none⟩) (bs.length+1) cap:=by
  rcases H.2 with⟨_,S⟩|⟨g,cap,cur,Q,_⟩
  ·omega
  ·exact⟨g,cap,Q⟩
 go_wp2
 go_ret
 refine⟨rfl,.inr ?_,?_,?_⟩
 ·exact ai0 (T:=102) (e:=5) N R (bs':=bs++[.int .u8 c]) (by simpa using H) Ya
 ·exact((D.alloc (by have:=D.size;omega) _).grown Y (by have:=D.size;simp;omega) (fun k hk=>(K.lt k hk).1)).setCell (p:=⟨b,1,none⟩) N _
 ·exact((U.trans (Kp.alloc b w1 _)).trans (Kp.row (K.alloc _) Y)).trans (Kp.put b 1 _ w2)
theorem x5(B:Nat)(acc:List _)(x:ByteArray)(w:World)(h:eP B acc w)(D:acc.length+x.size<=1000000000):
  Calls Tryz.prog 63 #[.pointer (some ⟨B,0,none⟩),.string x] w fun e w'=>e=.returned (.tuple #[.int .i64 x.size,.nilIface])/\eP B (acc++x.data.toList) w'/\Below B w w'/\Kp B w w':=by
 refine(wN B B _ x w h (by simp[aif];omega) (by have:=h.lt;omega)).mono ?_;rintro e w' ⟨he,Y,K,H⟩;rw[xQ]at Y;simp_all
theorem iQ(B:Nat)(acc:List _)(c:UInt8)(w:World)(h:eP B acc w)(R:acc.length+1<=1000000000):
  Calls Tryz.prog 73 #[.pointer (some ⟨B,0,none⟩),.int .u8 c.toNat] w fun e w'=>e=.returned .nilIface/\eP B (acc++[c]) w'/\Below B w w'/\Kp B w w':=by
 refine(BZ B B _ _ w h (by simp[aif];omega) (by have:=h.lt;omega)).mono ?_;rintro e w' ⟨he,K,H,D⟩;have Y:aif acc++[Value.int .u8 c.toNat]=aif (acc++[c]):=by simp[aif]
 simp_all
def kH(xs:List ByteArray):=Lib.join (xs.map (·.data.toList)) [9]
def sv8(x:ByteArray):Value:=.string x
theorem js(B V:Nat)(acc:List UInt8)(xs:List ByteArray)(v:Value)(w:World)(H:eP B acc w)(Y:w.ownsRow V 9 1 v xs.length (xs.map sv8))(z:1<=xs.length)(c:xs.length<=100)(W:acc.length+(kH xs).length+1<=1000000000):
  Calls Tryz.prog 91 #[.pointer (some ⟨B,0,none⟩),v] w fun e w'=>e=.returned (.tuple #[])/\eP B (acc++kH xs++[10]) w'/\Below B w w'/\Kp B w w':=by
 rcases Y.2 with⟨_,q⟩|⟨g,cap,cur,rfl,Z,C,L,E,M,N⟩
 ·omega
 have T:Hid (Calls Tryz.prog 110 _ w fun e w'=>e=.returned (.string (str (kH xs)))/\Below w.heap.size w w'):=laid (by
  refine(Tryz.strings_Join g 0 cap xs ⟨#[9]⟩ w (fun j x G=>?_) (ah5.1 C).1 (by omega) L (by unfold kH at W;show(Lib.join _ [9]).length<=_;omega)).mono ?_
  ·have h:=(Y.cells (g:=g) rfl) j (sv8 x) (by rw[ais,G];rfl);rw[jy]at h;rw[Nat.zero_add];exact h
  ·rintro e w' ⟨rfl,hb⟩;exact⟨rfl,hb⟩)
 clear Y C M N
 go_enter Tryz.func91,Tryz.ntmps91
 go_wp2_with fail
 refine T.out.mono ?_;rintro e w1 ⟨rfl,K⟩;have I:=H.below K;have O:Kp B w w1:=Kp.gP K;have D:Below B w w1:=K.mono (by have:=H.lt;omega);clear K T H;go_wp2_with fail
 refine(x5 _ _ (str (kH xs)) _ I (by rw[ak];omega)).mono ?_;rintro e w2 ⟨rfl,A,F,P⟩;have Q:=O.trans P;have R:=D.trans F;go_wp2_with fail
 refine(iQ _ _ 10 _ A (by rw[ah2];show _+(kH xs).length+1<=_;omega)).mono ?_;rintro e w3 ⟨rfl,U,J,S⟩;have X:Hid (eP B (acc++kH xs++[10]) w3/\Below B w w3/\Kp B w w3):=laid ⟨U,R.trans J,Q.trans S⟩;go_wp2
 go_end0
 exact⟨rfl,X.out⟩
theorem Ge:(Tryz.prog.info? 9).map (fun i=>(i.zero,i.size,i.bytes))=some (some (.string ⟨#[]⟩),1,16):=by kernel_rfl
theorem B0:∀l m,(∀x∈l,x.length<=m)->(Lib.join l [9]).length<=l.length *(m+1)
 |[],m,_=>by simp[Lib.join]
 |[a],m,h=>by have:=h a (by simp);simp[Lib.join];omega
 |a::b::l,m,h=>by
  have K:=h a (by simp);have H:=B0 (b::l) m (fun x Y=>h x (by simp[Y]));have e:Lib.join (a::b::l) [9]=a++([9]++Lib.join (b::l) [9]):=by simp[Lib.join]
  rw[e,ah2,ah2];simp at *;rw[Nat.add_mul _ 1 _];omega
theorem Gf(xs:List _)(m:Nat)(h:∀x∈xs,x.size<=m):(kH xs).length<=xs.length *(m+1):=by
 have:=B0 _ m (fun x Y=>by
  rw[aiq]at Y;obtain⟨y,K,rfl⟩:=Y;exact h y K)
 rw[ai8]at this;exact this
def nJ(rn rb rm:ByteArray):Value:=.agg #[.string rn,.string rb,.string rm]
structure Pl where
 rn:ByteArray
 rb:ByteArray
 rm:ByteArray
 fl:Bool
 st:Nat
 er:Nat
 lt:ByteArray
 df:ByteArray
def Pl.val(p:Pl):Value:=.agg #[.string p.rn,.string p.rb,.string p.rm,.bool p.fl,.int .i64 (p.st:Int),.int .i64 (p.er:Int),.string p.lt,.string p.df]
def rP(fl first:Bool):=(if fl then 16 else 0)+(if first then 0 else 256)
theorem Ij(p:Pl)(w:World):
  Calls Tryz.prog 241 #[p.val] w fun e w'=>e=.returned (nJ p.rn p.rb p.rm)/\Below w.heap.size w w':=by
 unfold Pl.val nJ;obtain⟨rn,rb,rm,fl,st,er,lt,df⟩:=p;simp only;go_wp2
 refine bodyPost_ret (results_cell_row rfl _ _ _ _ _ _ _ rfl (heap_alloc2_new _ _ _) aiT rfl Et) rfl ?_;exact⟨rfl,((ah8 _ _).alloc (ah4 _) _).alloc (by simp) _⟩
theorem Ik(p:Pl)(first:Bool)(w:World):
  Calls Tryz.prog 240 #[p.val,.bool first] w fun e w'=>e=.returned (.int .i64 (rP p.fl first:Int))/\Below w.heap.size w w':=by
 unfold Pl.val;obtain⟨rn,rb,rm,fl,st,er,lt,df⟩:=p;simp only;cases fl<;>cases first
 all_goals
  go_wp2
  go_ret
  exact⟨rfl,(ah8 _ _).alloc (ah4 _) _⟩
theorem Il(rn rb rm:ByteArray)(w:World):
  Calls Tryz.prog 239 #[nJ rn rb rm] w fun e w'=>e=.returned (nJ rn rb rm)/\Below w.heap.size w w':=by
 unfold nJ;go_wp2
 refine bodyPost_ret (results_cell_row rfl _ _ _ _ _ _ _ rfl (heap_alloc2_new _ _ _) aiT rfl Et) rfl ?_;exact⟨rfl,((ah8 _ _).alloc (ah4 _) _).alloc (by simp) _⟩
theorem Im(rn rb rm:ByteArray)(first:Bool)(w:World):
  Calls Tryz.prog 238 #[nJ rn rb rm,.bool first] w fun e w'=>e=.returned (.int .i64 4)/\Below w.heap.size w w':=by
 go_wp2
 go_ret
 exact⟨rfl,(ah8 _ _).alloc (ah4 _) _⟩
theorem Io(a b c:ByteArray)(w:World):(aiJ (.iface 155 (.agg #[.string a,.string b,.string c])) 136 158 true).run Tryz.prog w=.ok (.tuple #[.agg #[.string ⟨#[]⟩,.string ⟨#[]⟩,.string ⟨#[]⟩,.bool false,.int .i64 0,.int .i64 0,.string ⟨#[]⟩,.string ⟨#[]⟩],.bool false]) w:=by kernel_rfl
theorem Ip(a b c:ByteArray)(w:World):(aiJ (.iface 155 (.agg #[.string a,.string b,.string c])) 136 155 true).run Tryz.prog w=.ok (.tuple #[.agg #[.string a,.string b,.string c],.bool true]) w:=by kernel_rfl
theorem Iq(p:Pl)(w:World):(aiJ (.iface 158 p.val) 136 158 true).run Tryz.prog w=.ok (.tuple #[p.val,.bool true]) w:=by kernel_rfl
theorem qO(B:Nat)(acc:List UInt8)(XN rn rb rm:ByteArray)(first:Bool)(w:World)(o:eP B acc w)(y:rn.size<=1000)(h2:rb.size<=1000)(h3:rm.size<=1000)(hl:acc.length<=500000000)(E:bu w):
  Calls Tryz.prog 93 #[.pointer (some ⟨B,0,none⟩),.string XN,.iface 155 (nJ rn rb rm),.bool first] w fun e w'=>e=.returned (.tuple #[])/\eP B (acc++kH [rn,str (br 4),str [42],str [48],str [42],str [45],str [45],rb,rm]++[10]) w'/\Below B w w'/\Kp B w w':=by
 have HT:=laid E;have p:=laid (fun W:World=>Im rn rb rm first W);have v:=laid (Il rn rb rm w);clear E;unfold nJ at *
 go_enter Tryz.func93,Tryz.ntmps93
 go_wp2_with fail
 refine v.out.mono ?_;rintro e w1 ⟨rfl,L⟩;have M:=o.below L;have a:Kp B w w1:=Kp.gP L;have N:Below B w w1:=L.mono (by have:=o.lt;omega);have m:=laid (HT.out.on L);clear L v o HT;go_wp2_with fail
 obtain⟨i0,hi,Mz,MA,MB⟩:=info_parts Ge;obtain⟨w2,Q,Kr,t,T,V,O,k,n⟩:∃(w2:World) (Q:Nat),w1.alloc (.cells #[.string rn,.string rb,.string rm] 131)=w2/\w1.heap.size=Q/\w2.heap[Q]?=some (.cells #[.string rn,.string rb,.string rm] 131 (0,0))/\eP B acc w2/\Below B w w2/\Kp B w w2/\bu w2:=by
  have hb:Below w1.heap.size w1 (w1.alloc (.cells #[.string rn,.string rb,.string rm] 131)):=(ah8 _ _).alloc (ah4 _) _;exact⟨_,_,rfl,rfl,heap_alloc_new w1 _,M.below hb,N.trans (hb.mono (by have:=M.lt;omega)),a.trans (Kp.gP hb),m.out.on hb⟩
 rw[Kr,t];clear Kr t M N a m;have a0:w2.cell? ⟨Q,0,none⟩=some (.string rn):=by rw[cell_of_row w2 _ 0 _ _ _ T];rfl
 have hl8:Q<w2.heap.size:=(ah5.1 T).1;have s:=laid T;have q:=laid V;have c:Hid (∀W:World,Below w2.drew.heap.size w2.drew W->Calls Tryz.prog 74 #[.int .i64 4] W fun e w'=>e=.returned (.string (str (br 4)))/\Below W.heap.size W w'):=laid fun W hW=>mW 4 4 rfl W (by omega) (n.on (w':=W) ⟨hW.os,hW.tape,hW.output,hW.size,hW.block⟩);obtain⟨G,d⟩:∃D,D=str (br 4):=⟨_,rfl⟩;rw[<-d]at c;have z:=laid d;clear d T V n
 go_region_held3 (fun w'=>w'.cell? ⟨Q,0,none⟩=some (.string rn))
  (first
   |go_keep
   |(rw[S.cell (by have:=K.size;simp at this⊢;omega),K.cell (by first|omega|(simp;omega))];assumption)
   |(rw[K.cell (by first|omega|(simp;omega))];assumption))
  (first
   |(go_at_call 238;refine(p.out _).mono ?_;rintro e w' ⟨rfl,K⟩)
   |(go_at_call 74;refine(c.out _ K).mono ?_;rintro e F ⟨rfl,S⟩))
 have A:Below w2.heap.size w2 (F.alloc (.cells #[.string rn,.string G] 9)):=by
  have y:Below w2.heap.size w2 w':=⟨K.os,K.tape,K.output,K.size,K.block⟩;have h2:=y.trans (S.mono y.size);exact h2.alloc h2.size _
 have R:(F.alloc (.cells #[.string rn,.string G] 9)).ownsRow w2.heap.size 9 1 (.slice (some ⟨F.heap.size,0,none⟩) 2 2) 2 [.string rn,.string G]:=
  ⟨rfl,.inr ⟨F.heap.size,2,_,rfl,by have y:=K.size;have h2:=S.size;simp at y;omega,heap_alloc_new F _,ah4 _,by unfold maxLen;omega,rfl,rfl⟩⟩
 obtain⟨w4,N_⟩:∃w4:World,F.alloc (.cells #[.string rn,.string G] 9)=w4:=⟨_,rfl⟩;rw[N_]at A R⊢;generalize F.heap.size=g4 at *;clear N_ K S c p;have f:w2.heap.size<=w4.heap.size:=A.size;have q1:=Io rn rb rm;have q2:=Ip rn rb rm;clear a0;go_wp2_with(first
  |(at_builtin;refine wpList_append_own _ rfl _ _ 65 rfl w2.heap.size 9 i0 (.string ⟨#[]⟩) 1 16 ait hi Mz MA MB rfl (by decide) _ _ _ rfl ((R.alloc _).alloc _) ⟨w4.heap.size+1,0,none⟩ 5 5 [.string ⟨#[42]⟩,.string ⟨#[48]⟩,.string ⟨#[42]⟩,.string ⟨#[45]⟩,.string ⟨#[45]⟩] rfl rfl ?c1 ?c2 ?c3 ?c4 ?c5 ?_)
  |go_in)
 case c1=>
  intro j u Y
  match j,Y with
  |0,Y=>simp at Y;subst Y;simp[Addr.add,go_sem]
  |1,Y=>simp at Y;subst Y;simp[Addr.add,go_sem]
  |2,Y=>simp at Y;subst Y;simp[Addr.add,go_sem]
  |3,Y=>simp at Y;subst Y;simp[Addr.add,go_sem]
  |4,Y=>simp at Y;subst Y;simp[Addr.add,go_sem]
 case c2=>intro u hu;simp at hu;rcases hu with rfl|rfl|rfl|rfl|rfl<;>rfl
 case c3=>unfold maxLen;omega
 case c4=>omega
 case c5=>simp;omega
 intro v5 Z I H _;have U:Below w2.heap.size w2 Z:=((A.alloc A.size _).alloc (by simp;omega) _).grown H (by simp;omega) (fun j Y=>(R.lt j Y).1);obtain⟨g5,OG,rfl⟩:∃g cap,v5=.slice (some ⟨g,0,none⟩) 7 cap:=by
  rcases I.2 with⟨_,h0⟩|⟨gg,cap,cur,hv,_⟩
  ·omega
  ·exact⟨gg,cap,hv⟩
 clear H R A q1 q2 f;have P:Z.heap[Q]?=some (.cells #[.string rn,.string rb,.string rm] 131 (0,0)):=by rw[U.block Q hl8];exact s.out
 have a1:Z.cell? ⟨Q,1,none⟩=some (.string rb):=by rw[cell_of_row Z _ 1 _ _ _ P];rfl
 have a2:Z.cell? ⟨Q,2,none⟩=some (.string rm):=by rw[cell_of_row Z _ 2 _ _ _ P];rfl
 have f:w2.heap.size<=Z.heap.size:=U.size;clear P s;go_wp2_with(first
  |(at_builtin;refine wpList_append_own _ rfl _ _ 65 rfl w2.heap.size 9 i0 (.string ⟨#[]⟩) 1 16 ait hi Mz MA MB rfl (by decide) _ _ _ rfl (I.alloc _) ⟨Z.heap.size,0,none⟩ 2 2 [.string rb,.string rm] rfl rfl ?c1 ?c2 ?c3 ?c4 ?c5 ?_)
  |go_in)
 case c1=>
  intro j u Y
  match j,Y with
  |0,Y=>simp at Y;subst Y;simp[Addr.add,go_sem]
  |1,Y=>simp at Y;subst Y;simp[Addr.add,go_sem]
 case c2=>intro u hu;simp at hu;rcases hu with rfl|rfl<;>rfl
 case c3=>unfold maxLen;omega
 case c4=>omega
 case c5=>simp;omega
 intro v6 w6 C H _;have J:Below w2.heap.size w2 w6:=(U.alloc U.size _).grown H (by simp;omega) (fun j Y=>(I.lt j Y).1);obtain⟨g6,agF,rfl⟩:∃g cap,v6=.slice (some ⟨g,0,none⟩) 9 cap:=by
  rcases C.2 with⟨_,h0⟩|⟨gg,cap,cur,hv,_⟩
  ·omega
  ·exact⟨gg,cap,hv⟩
 have HW:=laid (js B w2.heap.size acc [rn,G,str [42],str [48],str [42],str [45],str [45],rb,rm] _ w6 (q.out.below J) C (by simp) (by simp) (by
  have h:=Gf [rn,G,str [42],str [48],str [42],str [45],str [45],rb,rm] 1000 (fun x hx=>by
   have hd:=cC 4 (by omega);have hd4:G.size<=1000:=by rw[z.out,ak];omega
   simp at hx;rcases hx with rfl|rfl|rfl|rfl|rfl|rfl|rfl|rfl|rfl<;>first|assumption|(rw[ak];simp))
  simp at h;omega))
 have l:=laid (O.trans (J.mono (by have:=q.out.lt;omega)));have r:=laid (k.trans (Kp.gP J));clear H I U f a1 a2 C J q O k;go_wp2_with fail
 refine HW.out.mono ?_;rintro e w7 ⟨rfl,X,b,i⟩;have HF:Hid (eP B (acc++kH [rn,str (br 4),str [42],str [48],str [42],str [45],str [45],rb,rm]++[10]) w7/\Below B w w7/\Kp B w w7):=laid ⟨by rw[<-z.out];exact X,l.out.trans b,r.out.trans i⟩;clear X b i l r HW z;go_wp2
 go_end0
 exact⟨rfl,HF.out⟩
theorem qP(B:Nat)(acc:List UInt8)(XN:ByteArray)(p:Pl)(first:Bool)(w:World)(hbd:eP B acc w)(h0:XN.size<=1000)(s:p.rn.size<=1000)(y:p.rb.size<=1000)(h3:p.rm.size<=1000)(h4:p.lt.size<=10000)(h5:p.df.size<=10000)(h6:p.st<=1000)(h7:p.er<=1000)(hl:acc.length<=500000000)(n:bu w):
  Calls Tryz.prog 93 #[.pointer (some ⟨B,0,none⟩),.string XN,.iface 158 p.val,.bool first] w fun e w'=>e=.returned (.tuple #[])/\eP B (acc++kH [p.rn,str (br (rP p.fl first)),XN,str (br (p.st+1)),p.lt,str (br p.er),p.df,p.rb,p.rm]++[10]) w'/\Below B w w'/\Kp B w w':=by
 have HT:=laid n;have HFL:=laid (fun W:World=>Ik p first W);have HTD:=laid (Ij p w);have q1:=Iq p;clear n;unfold nJ Pl.val at *;have hF:rP p.fl first<=272:=by unfold rP;cases p.fl<;>cases first<;>decide
 generalize hFF:rP p.fl first=F at *
 obtain⟨rn,rb,rm,fl,st,er,lt,df⟩:=p;simp only at *;clear hFF
 go_enter Tryz.func93,Tryz.ntmps93
 go_wp2_with fail
 refine HTD.out.mono ?_;rintro e w1 ⟨rfl,V⟩;have X:=hbd.below V;have hk1:Kp B w w1:=Kp.gP V;have Z:Below B w w1:=V.mono (by have:=hbd.lt;omega);have hT1:=laid (HT.out.on V);clear V HTD hbd HT;go_wp2_with fail
 obtain⟨i0,hi,Mz,MA,MB⟩:=info_parts Ge;obtain⟨w2,d,Kr,Yc,f,v,E,hk2,hT2⟩:∃(w2:World) (d:Nat),w1.alloc (.cells #[.string rn,.string rb,.string rm] 131)=w2/\w1.heap.size=d/\w2.heap[d]?=some (.cells #[.string rn,.string rb,.string rm] 131 (0,0))/\eP B acc w2/\Below B w w2/\Kp B w w2/\bu w2:=by
  have hb:Below w1.heap.size w1 (w1.alloc (.cells #[.string rn,.string rb,.string rm] 131)):=(ah8 _ _).alloc (ah4 _) _;exact⟨_,_,rfl,rfl,heap_alloc_new w1 _,X.below hb,Z.trans (hb.mono (by have:=X.lt;omega)),hk1.trans (Kp.gP hb),hT1.out.on hb⟩
 rw[Kr,Yc];clear Kr Yc X Z hk1 hT1;have a0:w2.cell? ⟨d,0,none⟩=some (.string rn):=by rw[cell_of_row w2 _ 0 _ _ _ f];rfl
 have hl8:d<w2.heap.size:=(ah5.1 f).1;have HRD:=laid f;have t:=laid v;have HIT:Hid (∀W:World,Below w2.drew.heap.size w2.drew W->Calls Tryz.prog 74 #[.int .i64 (F:Int)] W fun e w'=>e=.returned (.string (str (br F)))/\Below W.heap.size W w'):=laid fun W hW=>mW (F:Int) F rfl W (by omega) (hT2.on (w':=W) ⟨hW.os,hW.tape,hW.output,hW.size,hW.block⟩);have HT2:=laid hT2;obtain⟨c,hD4⟩:∃D,D=str (br F):=⟨_,rfl⟩;rw[<-hD4]at HIT;have i:=laid hD4;clear hD4 f v hT2
 go_region_held3 (fun w'=>w'.cell? ⟨d,0,none⟩=some (.string rn))
  (first
   |go_keep
   |(rw[U.cell (by have:=Y.size;simp at this⊢;omega),Y.cell (by first|omega|(simp;omega))];assumption)
   |(rw[Y.cell (by first|omega|(simp;omega))];assumption))
  (first
   |(go_at_call 240;refine(HFL.out _).mono ?_;rintro e w' ⟨rfl,Y⟩)
   |(go_at_call 74;refine(HIT.out _ Y).mono ?_;rintro e A ⟨rfl,U⟩))
 have L:Below w2.heap.size w2 (A.alloc (.cells #[.string rn,.string c] 9)):=by
  have s:Below w2.heap.size w2 w':=⟨Y.os,Y.tape,Y.output,Y.size,Y.block⟩;have y:=s.trans (U.mono s.size);exact y.alloc y.size _
 have C:(A.alloc (.cells #[.string rn,.string c] 9)).ownsRow w2.heap.size 9 1 (.slice (some ⟨A.heap.size,0,none⟩) 2 2) 2 [.string rn,.string c]:=
  ⟨rfl,.inr ⟨A.heap.size,2,_,rfl,by have s:=Y.size;have y:=U.size;simp at s;omega,heap_alloc_new A _,ah4 _,by unfold maxLen;omega,rfl,rfl⟩⟩
 obtain⟨w4,N_⟩:∃w4:World,A.alloc (.cells #[.string rn,.string c] 9)=w4:=⟨_,rfl⟩;rw[N_]at L C⊢;generalize A.heap.size=g4 at *;clear N_ Y U HIT HFL;have hls:w2.heap.size<=w4.heap.size:=L.size;clear a0;go_wp2_with fail
 obtain⟨R,K,TI,r,O,J,H⟩:∃(R:World) (K:Nat),w4.alloc (.cells #[.string rn,.string rb,.string rm,.bool fl,.int .i64 (st:Int),.int .i64 (er:Int),.string lt,.string df] 158)=R/\w4.heap.size=K/\R.heap[K]?=some (.cells #[.string rn,.string rb,.string rm,.bool fl,.int .i64 (st:Int),.int .i64 (er:Int),.string lt,.string df] 158 (0,0))/\R.ownsRow w2.heap.size 9 1 (.slice (some ⟨g4,0,none⟩) 2 2) 2 [.string rn,.string c]/\Below w2.heap.size w2 R:=
  ⟨_,_,rfl,rfl,heap_alloc_new w4 _,C.alloc _,L.alloc L.size _⟩
 rw[TI,r];have aaI:w2.heap.size<=g4:=by
  rcases C.2 with⟨h,_⟩|⟨g,cap,cur,h,h',_⟩
  ·cases h
  ·cases h;exact h'
 clear TI r C L hls q1;have N:K<R.heap.size:=(ah5.1 O).1;have p4:R.cell? ⟨K,4,none⟩=some (.int .i64 (st:Int)):=by rw[cell_of_row R _ 4 _ _ _ O];rfl
 have p5:R.cell? ⟨K,5,none⟩=some (.int .i64 (er:Int)):=by rw[cell_of_row R _ 5 _ _ _ O];rfl
 have p6:R.cell? ⟨K,6,none⟩=some (.string lt):=by rw[cell_of_row R _ 6 _ _ _ O];rfl
 have p7:R.cell? ⟨K,7,none⟩=some (.string df):=by rw[cell_of_row R _ 7 _ _ _ O];rfl
 have x1:ah9.wrap ((st:Int)+1)=(st:Int)+1:=ah7 _ (by omega);have un:∀{W:World},Below R.drew.heap.size R.drew W->Below R.heap.size R W:=fun hW=>⟨hW.os,hW.tape,hW.output,hW.size,hW.block⟩;have HP:Hid (∀W:World,Below R.drew.heap.size R.drew W->W.cell? ⟨K,4,none⟩=some (.int .i64 (st:Int))/\W.cell? ⟨K,5,none⟩=some (.int .i64 (er:Int))/\W.cell? ⟨K,6,none⟩=some (.string lt)/\W.cell? ⟨K,7,none⟩=some (.string df)):=laid fun W hW=>⟨by rw[(un hW).cell (p:=⟨K,4,none⟩) N];exact p4,by rw[(un hW).cell (p:=⟨K,5,none⟩) N];exact p5,by rw[(un hW).cell (p:=⟨K,6,none⟩) N];exact p6,by rw[(un hW).cell (p:=⟨K,7,none⟩) N];exact p7⟩;obtain⟨D1,hD1⟩:∃D,D=str (br (st+1)):=⟨_,rfl⟩;obtain⟨D2,hD2⟩:∃D,D=str (br er):=⟨_,rfl⟩;have a:=laid hD1;have k:=laid hD2;have HI1:Hid (∀W:World,W=R.drew\/Below R.drew.heap.size R.drew W->Calls Tryz.prog 74 #[.int .i64 ((st:Int)+1)] W fun e w'=>e=.returned (.string D1)/\Below W.heap.size W w'):=laid fun W hW=>by
  rw[hD1];refine mW _ (st+1) (by omega) W (by omega) (HT2.out.on ?_);rcases hW with rfl|hW
  ·exact Go.below_drewN H 1
  ·exact H.trans ((un hW).mono H.size)
 have HI2:Hid (∀W:World,Below R.drew.heap.size R.drew W->Calls Tryz.prog 74 #[.int .i64 (er:Int)] W fun e w'=>e=.returned (.string D2)/\Below W.heap.size W w'):=laid fun W hW=>by
  rw[hD2];exact mW _ er rfl W (by omega) (HT2.out.on (H.trans ((un hW).mono H.size)))
 have Wn:Hid (∀(W:World),Below R.drew.heap.size R.drew W->∀o:Obj,(W.alloc o).ownsRow w2.heap.size 9 1 (.slice (some ⟨g4,0,none⟩) 2 2) 2 [.string rn,.string c]):=laid fun W hW o=>(iW J (un hW)).alloc _;have Wo:Hid (∀(W:World),Below R.drew.heap.size R.drew W->∀o:Obj,w2.heap.size<=(W.alloc o).heap.size):=laid fun W hW o=>by have s:=H.size;have y:=(un hW).size;simp;omega
 have b:=laid H;have Wp:Hid (∀(W1 T:World) (o:Obj),Below R.drew.heap.size R.drew W1->(W1.alloc o).grownBy T (some g4)->T.cell? ⟨K,4,none⟩=some (.int .i64 (st:Int))/\T.cell? ⟨K,5,none⟩=some (.int .i64 (er:Int))/\T.cell? ⟨K,6,none⟩=some (.string lt)/\T.cell? ⟨K,7,none⟩=some (.string df)):=laid fun W1 T o hW hg=>by
  have e1:T.heap[K]?=some (.cells #[.string rn,.string rb,.string rm,.bool fl,.int .i64 (st:Int),.int .i64 (er:Int),.string lt,.string df] 158 (0,0)):=by
   have hs:=(un hW).size;rw[hg.block K (by simp;omega) (fun e=>il J O (by decide) e.symm),heap_alloc_old W1 _ (by omega),(un hW).block K N];exact O
  exact⟨by rw[cell_of_row T _ 4 _ _ _ e1];rfl,by rw[cell_of_row T _ 5 _ _ _ e1];rfl,by rw[cell_of_row T _ 6 _ _ _ e1];rfl,by rw[cell_of_row T _ 7 _ _ _ e1];rfl⟩
 clear hD1 hD2 J H O un
 go_region_held3 (fun w'=>w'.cell? ⟨K,4,none⟩=some (.int .i64 (st:Int))/\w'.cell? ⟨K,5,none⟩=some (.int .i64 (er:Int))/\w'.cell? ⟨K,6,none⟩=some (.string lt)/\w'.cell? ⟨K,7,none⟩=some (.string df))
  (first
   |go_keep
   |exact Wp.out _ _ _ (Y.trans (U.mono Y.size)) I
   |exact HP.out _ (Y.trans (U.mono Y.size))
   |exact HP.out _ Y)
  (first
   |(go_at_call 74;refine(HI1.out _ (.inl rfl)).mono ?_;rintro e w' ⟨rfl,Y⟩)
   |(go_at_call 74;refine(HI2.out _ Y).mono ?_;rintro e A ⟨rfl,U⟩)
   |(refine step_append_lies _ rfl _ _ 65 rfl w2.heap.size 9 i0 (.string ⟨#[]⟩) 1 16 ait hi Mz MA MB rfl (by decide) _ 2 _ rfl (Wn.out A (Y.trans (U.mono Y.size)) _) ⟨A.heap.size,0,none⟩ 5 5 [.string XN,.string D1,.string lt,.string D2,.string df] rfl rfl (aiD (heap_alloc_new A _)) (fun u hu=>by simp at hu;rcases hu with rfl|rfl|rfl|rfl|rfl<;>rfl) (by omega) (by unfold maxLen;omega) (by omega) (Wo.out A (Y.trans (U.mono Y.size)) _) _ rfl ?_;intro g5 OG l z I Yg St))
 rename_i LH;clear LH;have M:Below w2.heap.size w2 l:=by
  have s:Below R.heap.size R w':=⟨Y.os,Y.tape,Y.output,Y.size,Y.block⟩;have y:=b.out.trans (s.mono b.out.size);have h3:=y.trans (U.mono y.size);exact(h3.alloc h3.size _).grown I (by have:=h3.size;simp;omega) (fun j G=>by cases G;exact aaI)
 have P:l.ownsRow w2.heap.size 9 1 (.slice (some ⟨g5,0,none⟩) 7 OG) 7 [.string rn,.string c,.string XN,.string D1,.string lt,.string D2,.string df]:=z;simp only[Nat.reduceAdd];clear z;clear I Yg St Y U HI1 HI2 Wn Wo Wp HP p4 p5 p6 p7 b HT2;have q:l.heap[d]?=some (.cells #[.string rn,.string rb,.string rm] 131 (0,0)):=by rw[M.block d hl8];exact HRD.out
 have a1:l.cell? ⟨d,1,none⟩=some (.string rb):=by rw[cell_of_row l _ 1 _ _ _ q];rfl
 have a2:l.cell? ⟨d,2,none⟩=some (.string rm):=by rw[cell_of_row l _ 2 _ _ _ q];rfl
 have hls:w2.heap.size<=l.heap.size:=M.size;clear q HRD;go_wp2_with(first
  |(at_builtin;refine wpList_append_own _ rfl _ _ 65 rfl w2.heap.size 9 i0 (.string ⟨#[]⟩) 1 16 ait hi Mz MA MB rfl (by decide) _ _ _ rfl (P.alloc _) ⟨l.heap.size,0,none⟩ 2 2 [.string rb,.string rm] rfl rfl ?c1 ?c2 ?c3 ?c4 ?c5 ?_)
  |go_in)
 case c1=>
  intro j u G
  match j,G with
  |0,G=>simp at G;subst G;simp[Addr.add,go_sem]
  |1,G=>simp at G;subst G;simp[Addr.add,go_sem]
 case c2=>intro u hu;simp at hu;rcases hu with rfl|rfl<;>rfl
 case c3=>unfold maxLen;omega
 case c4=>omega
 case c5=>simp;omega
 intro v8 w8 Q I _;have S:Below w2.heap.size w2 w8:=(M.alloc M.size _).grown I (by simp;omega) (fun j G=>(P.lt j G).1);obtain⟨g8,agI,rfl⟩:∃g cap,v8=.slice (some ⟨g,0,none⟩) 9 cap:=by
  rcases Q.2 with⟨_,h0⟩|⟨gg,cap,cur,hv,_⟩
  ·omega
  ·exact⟨gg,cap,hv⟩
 have HW:=laid (js B w2.heap.size acc [rn,c,XN,D1,lt,D2,df,rb,rm] _ w8 (t.out.below S) Q (by simp) (by simp) (by
  have h:=Gf [rn,c,XN,D1,lt,D2,df,rb,rm] 10000 (fun x hx=>by
   have hd:=cC F (by omega);have hd4:c.size<=10000:=by rw[i.out,ak];omega
   have he:=cC (st+1) (by omega);have hd1:D1.size<=10000:=by rw[a.out,ak];omega
   have hf:=cC er (by omega);have hd2:D2.size<=10000:=by rw[k.out,ak];omega
   simp at hx;rcases hx with rfl|rfl|rfl|rfl|rfl|rfl|rfl|rfl|rfl<;>omega)
  simp at h;omega))
 have HB6:=laid (E.trans (S.mono (by have:=t.out.lt;omega)));have Wq:=laid (hk2.trans (Kp.gP S));clear I P M hls a1 a2 Q S t E hk2;go_wp2_with fail
 refine HW.out.mono ?_;rintro e w9 ⟨rfl,m,hb9,hk9⟩;have HF:Hid (eP B (acc++kH [rn,str (br F),XN,str (br (st+1)),lt,str (br er),df,rb,rm]++[10]) w9/\Below B w w9/\Kp B w w9):=laid ⟨by rw[<-i.out,<-a.out,<-k.out];exact m,HB6.out.trans hb9,Wq.out.trans hk9⟩;clear m hb9 hk9 HB6 Wq HW i a k;go_wp2
 go_end0
 exact⟨rfl,HF.out⟩
def AG(w:World)(A n:Nat):Prop:=w.heap[A]?=some (.cells #[.int .i64 (n:Int)] 3 (0,0))
theorem AG.c0{n:Nat}(h:AG w A n):w.cell? ⟨A,0,none⟩=some (.int .i64 (n:Int)):=by rw[cell_of_row w A 0 _ _ _ h];rfl
theorem AG.fz{n:Nat}(h:AG w A n):w.frozen? ⟨A,0,none⟩=false:=iu h (by simp)
theorem AG.kp{B n:Nat}(h:AG w A n)(k:Kp B w w')(Y:A≠B):AG w' A n:=k A _ _ _ Y (by simp) h
theorem AG.put{n:Nat}(h:AG w A n)(m:Nat):AG (w.setCell ⟨A,0,none⟩ (.int .i64 (m:Int))) A m:=by
 exact gd _ h
theorem x6{p:Value}{B n:Nat}{bs:List Value}{v:Value}(h:aiv 102 5 B B p bs w)(C:AG w A n)(H:A≠B):aiv 102 5 B B p bs (w.setCell ⟨A,0,none⟩ v):=by
 obtain⟨D,u,I,Y,U⟩:=h;have K:=Lib.BuilderAt.lt ⟨D,u,I,Y,U⟩;have R:=bJ w A 0 v;refine⟨D,u,?_,Y.kept R (.inr (il Y C (by simp))),U⟩;rw[R.block B K (fun e=>H (by simp_all))];exact I
theorem eP.put{B n:Nat}{acc:List UInt8}{v:Value}(h:eP B acc w)(K:AG w A n)(Y:A≠B):eP B acc (w.setCell ⟨A,0,none⟩ v):=
 h.imp (fun h=>x6 h K Y) (fun h=>x6 h K Y)
theorem x7{B:Nat}{v:Value}(h:B<=A):Below B w (w.setCell ⟨A,0,none⟩ v):=(ah8 B w).setCell h v
theorem B1(B A n:Nat)(acc:List UInt8)(W:World)(U:eP B acc W)(R:AG W A n)(S:B<A)(O:n<=9999)(T:acc.length+10<=1000000)(J:bu W):
  Calls Tryz.prog 149 #[.pointer (some ⟨B,0,none⟩),.pointer (some ⟨A,0,none⟩)] W fun e w'=>e=.returned (.tuple #[])/\eP B (acc++br n) w'/\AG w' A 0/\Below B W w':=by
 have c0:=R.c0;have P:=cC n O
 go_enter Tryz.func149,Tryz.ntmps149
 go_wp2_with fail
 refine(BW n _ O J).mono ?_;rintro e w2 ⟨rfl,K⟩;have C:=U.below K;have I:AG w2 A n:=R.kp (B:=B) (Kp.gP K) (by omega);have H:Below B W w2:=K.mono (by have:=U.lt;omega);clear K c0;go_wp2_with fail
 refine(x5 _ _ (str (br n)) _ C (by rw[ak];omega)).mono ?_;rintro e w3 ⟨rfl,F,M,N⟩;have Y:=I.kp N (by omega);have D:=H.trans M;have f3:=Y.fz;have c3:=Y.c0;have L:Hid (eP B (acc++br n) (w3.setCell _ (.int .i64 0))/\AG _ A 0/\Below B W (w3.setCell ⟨A,0,none⟩ (.int .i64 0))):=laid ⟨F.put Y (by omega),Y.put 0,D.trans (x7 (by omega))⟩;go_wp2
 go_end0
 exact⟨rfl,L.out.1,L.out.2.1,L.out.2.2⟩
theorem se(p t s:ByteArray)(w:World)(hp:p.size<=1000)(ht:t.size<=1000)(hs:s.size<=1000)(m:Fits p t s)(b:∀x,x<s.size->at8 s x=77\/at8 s x=73\/at8 s x=68)(a:bu w):
  Calls Tryz.prog 128 #[.string s,.string p,.string t] w fun e w'=>e=.returned (.string (str (uH p t s)))/\Below w.heap.size w w':=by
 have aaL:=laid m;have aaM:=laid b;have HT:=laid a;clear m b a
 go_enter Tryz.func128,Tryz.ntmps128
 go_wp2
 have h0:Hid (eP w.heap.size [] ((w.alloc (.cells #[.pointer none,.slice none 0 0] 102)).alloc (.cells #[.int .i64 0] 3))/\AG ((w.alloc (.cells #[.pointer none,.slice none 0 0] 102)).alloc (.cells #[.int .i64 0] 3)) (w.heap.size+1) 0/\Below w.heap.size w ((w.alloc (.cells #[.pointer none,.slice none 0 0] 102)).alloc (.cells #[.int .i64 0] 3))):=laid (by
  refine⟨(eP.new w).below ((ah8 _ _).alloc (ah4 _) _),?_,((ah8 _ _).alloc (ah4 _) _).alloc (by simp) _⟩;unfold AG;have:=heap_alloc_new (w.alloc (.cells #[.pointer none,.slice none 0 0] 102)) (.cells #[.int .i64 0] 3);simpa using this)
 go_loopw [8,9,16] (fun iv jv xv wr=>∃x:Nat,iv=.int .i64 ((dH p t s x).i:Int)/\jv=.int .i64 ((dH p t s x).j:Int)/\xv=.int .i64 (x:Int)/\x<=s.size/\eP w.heap.size (dH p t s x).o wr/\AG wr (w.heap.size+1) (dH p t s x).n/\Below w.heap.size w wr) (fun _ _ xv _=>s.size-(intOf xv).toNat)
 case atStart=>exact⟨0,rfl,rfl,rfl,aic _,h0.out.1,h0.out.2.1,h0.out.2.2⟩
 case round=>
  obtain⟨x,rfl,rfl,rfl,Xb,S,F,K⟩:=hrel;clear h0;have hle:=zq p t s x (by omega);by_cases k:x<s.size
  ·have hx1:(x:Int)<(s.size:Int):=by omega
   have hx0:(0:Int)<=(x:Int):=by omega
   have Yg:=eQ s x k;have r:=aaL.out x k;have hlx:=aaM.out x k;have x1:ah9.wrap ((x:Int)+1)=(x:Int)+1:=ah7 _ (by omega);have z:Hid (dH p t s (x+1)=oq p t s x (dH p t s x)):=laid rfl;generalize dH p t s x=st at *;obtain⟨O,I,J,N⟩:=st;simp only at *;have hdl:=cC N (by omega);have x2:ah9.wrap ((I:Int)+1)=(I:Int)+1:=ah7 _ (by omega);have x3:ah9.wrap ((J:Int)+1)=(J:Int)+1:=ah7 _ (by omega);have x4:ah9.wrap ((N:Int)+1)=(N:Int)+1:=ah7 _ (by omega);have c:Hid (∀W:World,eP w.heap.size O W->AG W (w.heap.size+1) N->Below w.heap.size w W->Calls Tryz.prog 149 #[.pointer (some ⟨w.heap.size,0,none⟩),.pointer (some ⟨w.heap.size+1,0,none⟩)] W fun e w'=>e=.returned (.tuple #[])/\eP w.heap.size (O++br N) w'/\AG w' (w.heap.size+1) 0/\Below w.heap.size W w'):=laid (fun W h1 h2 h3=>B1 _ _ N O W h1 h2 (by omega) (by omega) (by omega) (HT.out.on h3));rcases hlx with u|l|d
   ·have e1:(((at8 s x).toNat:Int)==77)=true:=by rw[u];rfl
    have hIJ:=r.1 u;have hi1:(I:Int)<(p.size:Int):=by omega
    have Xg:(0:Int)<=(I:Int):=by omega
    have hj1:(J:Int)<(t.size:Int):=by omega
    have hj0:(0:Int)<=(J:Int):=by omega
    have hpI:=eQ p I hIJ.1;have htJ:=eQ t J hIJ.2;have T:Hid (dH p t s (x+1)=if ag (at8 p I) (at8 t J)=true then⟨O,I+1,J+1,N+1⟩else⟨O++br N++[at8 t J],I+1,J+1,0⟩):=laid (by rw[z.out,oq,if_pos u]);clear u r z;have HBD:=laid S;have f:=laid F;clear S F;go_wp2_with fail
    go_quiet((go_at_call 150;refine(ym _ _ _).mono ?_;rintro e Tt ⟨rfl,rfl⟩;exact⟨rfl,_,rfl⟩))
    have V:=Go.below_drewN K nq;have q:=HBD.out.drewN nq;have L:AG (wr.drewN nq) (w.heap.size+1) N:=f.out;clear HBD f;generalize wr.drewN nq=w1 at *;clear K;by_cases M:ag (at8 p I) (at8 t J)=true
    ·have A:Hid (dH p t s (x+1)=⟨O,I+1,J+1,N+1⟩):=laid (by rw[T.out,if_pos M]);rw[M];have c0:=L.c0;have f0:=L.fz;have C:Hid (eP w.heap.size O (w1.setCell ⟨w.heap.size+1,0,none⟩ (.int .i64 ((N:Int)+1)))/\AG (w1.setCell ⟨w.heap.size+1,0,none⟩ (.int .i64 ((N:Int)+1))) (w.heap.size+1) (N+1)/\Below w.heap.size w (w1.setCell ⟨w.heap.size+1,0,none⟩ (.int .i64 ((N:Int)+1)))):=laid ⟨q.put L (by omega),L.put (N+1),V.trans (x7 (by omega))⟩;clear T M q L c;go_wp2
     go_roundw
     case rel=>go_light;exact⟨x+1,bg (by rw[A.out];simp),bg (by rw[A.out];simp),by go_num,by omega,by rw[A.out];exact C.out.1,by rw[A.out];exact C.out.2.1,C.out.2.2⟩
     case measure=>go_light;simp[intOf];omega
    ·have A:Hid (dH p t s (x+1)=⟨O++br N++[at8 t J],I+1,J+1,0⟩):=laid (by rw[T.out,if_neg M]);rw[aiA]at M;rw[M];have g:=laid (c.out w1 q L V);clear T M c q L;go_wp2_with fail
     refine g.out.mono ?_;rintro e w2 ⟨rfl,H,D,P⟩;have Y:=V.trans P;clear P g;go_wp2_with fail
     refine(iQ _ _ (at8 t J) _ H (by rw[ah2];omega)).mono ?_;rintro e w3 ⟨rfl,U,Q,E⟩;have C:Hid (eP w.heap.size (O++br N++[at8 t J]) w3/\AG w3 (w.heap.size+1) 0/\Below w.heap.size w w3):=laid ⟨U,D.kp E (by omega),Y.trans Q⟩;clear Q E U D H Y V;go_wp2
     go_roundw
     case rel=>go_light;exact⟨x+1,bg (by rw[A.out];simp),bg (by rw[A.out];simp),by go_num,by omega,by rw[A.out];exact C.out.1,by rw[A.out];exact C.out.2.1,C.out.2.2⟩
     case measure=>go_light;simp[intOf];omega
   ·have e1:(((at8 s x).toNat:Int)==77)=false:=by rw[l];rfl
    have e2:(((at8 s x).toNat:Int)==73)=true:=by rw[l];rfl
    have A:Hid (dH p t s (x+1)=⟨O,I+1,J,N⟩):=laid (by rw[z.out,oq,if_neg (by rw[l];decide),if_pos l]);have C:=laid (And.intro S F);clear l r z c S F;go_wp2
    go_roundw
    case rel=>go_light;exact⟨x+1,bg (by rw[A.out];simp),bg (by rw[A.out]),by go_num,by omega,by rw[A.out];exact C.out.1,by rw[A.out];exact C.out.2,K⟩
    case measure=>go_light;simp[intOf];omega
   ·have e1:(((at8 s x).toNat:Int)==77)=false:=by rw[d];rfl
    have e2:(((at8 s x).toNat:Int)==73)=false:=by rw[d];rfl
    have e3:(((at8 s x).toNat:Int)==68)=true:=by rw[d];rfl
    have n77:at8 s x≠77:=by rw[d];decide
    have n73:at8 s x≠73:=by rw[d];decide
    have hJ:=r.2 n77 n73;have hj1:(J:Int)<(t.size:Int):=by omega
    have hj0:(0:Int)<=(J:Int):=by omega
    have htJ:=eQ t J hJ;have T:Hid (dH p t s (x+1)=if x=0\/at8 s (x-1)≠68 then⟨O++br N++[94]++[at8 t J],I,J+1,0⟩else⟨O++[at8 t J],I,J+1,N⟩):=laid (by rw[z.out,oq,if_neg n77,if_neg n73]);have g:=laid (c.out wr S F K);clear d r z c n77 n73;have v:(((x:Int)==0)=true/\Hid (dH p t s (x+1)=⟨O++br N++[94]++[at8 t J],I,J+1,0⟩))\/∃y:Nat,((x:Int)==0)=false/\y<s.size/\ah9.wrap ((x:Int)-1)=(y:Int)/\(((((at8 s y).toNat:Int) != 68)=true/\Hid (dH p t s (x+1)=⟨O++br N++[94]++[at8 t J],I,J+1,0⟩))\/((((at8 s y).toNat:Int) != 68)=false/\Hid (dH p t s (x+1)=⟨O++[at8 t J],I,J+1,N⟩))):=by
     by_cases hx9:x=0
     ·exact .inl ⟨by simp;omega,laid (by rw[T.out,if_pos (.inl hx9)])⟩
     ·refine .inr ⟨x-1,by simp;omega,by omega,by rw[show(x:Int)-1=((x-1:Nat):Int) by omega];exact ah7 _ (by omega),?_⟩;by_cases h:at8 s (x-1)=68
      ·exact .inr ⟨by rw[h];rfl,laid (by rw[T.out,if_neg (by rintro(h'|h');exact hx9 h';exact h' h)])⟩
      ·exact .inl ⟨toNat_ne h,laid (by rw[T.out,if_pos (.inr h)])⟩
    clear T;rcases v with⟨hd,A⟩|⟨y,hd,hyl,hw1,⟨hq,A⟩|⟨hq,A⟩⟩
    ·skip
     clear S F;go_wp2_with fail
     refine g.out.mono ?_;rintro e w2 ⟨rfl,H,D,P⟩;have Y:=K.trans P;clear P g K;go_wp2_with fail
     refine(iQ _ _ 94 _ H (by rw[ah2];omega)).mono ?_;rintro e w3 ⟨rfl,U,Q,E⟩;have X:=D.kp E (by omega);have R:=Y.trans Q;clear Q E D H Y;go_wp2_with fail
     refine(iQ _ _ (at8 t J) _ U (by rw[ah2,ah2];simp;omega)).mono ?_;rintro e w4 ⟨rfl,B,Z,G⟩;have C:Hid (eP w.heap.size (O++br N++[94]++[at8 t J]) w4/\AG w4 (w.heap.size+1) 0/\Below w.heap.size w w4):=laid ⟨B,X.kp G (by omega),R.trans Z⟩;clear Z G B X U R;go_wp2
     go_roundw
     case rel=>go_light;exact⟨x+1,bg (by rw[A.out]),bg (by rw[A.out];simp),by go_num,by omega,by rw[A.out];exact C.out.1,by rw[A.out];exact C.out.2.1,C.out.2.2⟩
     case measure=>go_light;simp[intOf];omega
    ·obtain⟨aaP,hy1,hy0⟩:s[y]=at8 s y/\(y:Int)<(s.size:Int)/\(0:Int)<=(y:Int):=⟨eQ s y hyl,by omega,by omega⟩;clear S F;go_wp2_with fail
     refine g.out.mono ?_;rintro e w2 ⟨rfl,H,D,P⟩;have Y:=K.trans P;clear P g K;go_wp2_with fail
     refine(iQ _ _ 94 _ H (by rw[ah2];omega)).mono ?_;rintro e w3 ⟨rfl,U,Q,E⟩;have X:=D.kp E (by omega);have R:=Y.trans Q;clear Q E D H Y;go_wp2_with fail
     refine(iQ _ _ (at8 t J) _ U (by rw[ah2,ah2];simp;omega)).mono ?_;rintro e w4 ⟨rfl,B,Z,G⟩;have C:Hid (eP w.heap.size (O++br N++[94]++[at8 t J]) w4/\AG w4 (w.heap.size+1) 0/\Below w.heap.size w w4):=laid ⟨B,X.kp G (by omega),R.trans Z⟩;clear Z G B X U R;go_wp2
     go_roundw
     case rel=>go_light;exact⟨x+1,bg (by rw[A.out]),bg (by rw[A.out];simp),by go_num,by omega,by rw[A.out];exact C.out.1,by rw[A.out];exact C.out.2.1,C.out.2.2⟩
     case measure=>go_light;simp[intOf];omega
    ·have aaP:=eQ s y hyl;have hy1:(y:Int)<(s.size:Int):=by omega
     have hy0:(0:Int)<=(y:Int):=by omega
     have f:=laid F;clear F g;go_wp2_with fail
     refine(iQ _ _ (at8 t J) _ S (by omega)).mono ?_;rintro e w4 ⟨rfl,B,Z,G⟩;have C:Hid (eP w.heap.size (O++[at8 t J]) w4/\AG w4 (w.heap.size+1) N/\Below w.heap.size w w4):=laid ⟨B,f.out.kp G (by omega),K.trans Z⟩;clear Z G B f S K;go_wp2
     go_roundw
     case rel=>go_light;exact⟨x+1,bg (by rw[A.out]),bg (by rw[A.out];simp),by go_num,by omega,by rw[A.out];exact C.out.1,by rw[A.out];exact C.out.2.1,C.out.2.2⟩
     case measure=>go_light;simp[intOf];omega
  ·have hxe:x=s.size:=by omega
   have C:Hid (str ((dH p t s x).o++br (dH p t s x).n)=str (uH p t s)):=laid (by unfold uH;rw[hxe]);have g:=laid (B1 _ _ (dH p t s x).n (dH p t s x).o wr S F (by omega) (by omega) (by omega) (HT.out.on K));clear hxe hle;generalize dH p t s x=st at *;obtain⟨O,I,J,N⟩:=st;simp only at *;clear S F;go_wp2_with fail
   refine g.out.mono ?_;rintro e w2 ⟨rfl,H,D,P⟩;have Y:=K.trans P;clear P g D;go_wp2_with fail
   refine(mU _ _ _ H).mono ?_;rintro e w3 ⟨rfl,Q⟩;have R:=Y.trans Q;clear Q H;go_wp2
   go_ret
   exact⟨E6 C.out,R⟩
end
section
open RowKit Maps Go.Sort Shelf
theorem LI(m:Nat):AnyZI.SortsIn Tryz.prog Tryz.rF Fence.wide m:=
 ⟨fun blk off cap D W H Y K=>callsIn_wide.2 (AnyM.slices_Sort_int Tryz.Qh blk off cap D W H Y K),
  fun p cap W=>callsIn_wide.2 (AnyM.slices_Sort_int_none Tryz.Qh p cap W)⟩
theorem B2(mb:Option Nat)(W:World):
  Calls Tryz.prog 124 #[.map mb] W fun e w'=>e=.returned (.func (.func 143) #[] #[.pointer (some ⟨W.heap.size,0,none⟩)])/\w'=W.alloc (.cells #[.map mb] 166):=by
 refine(callsIn_wide (n:=5)).1 ?_;exact AnyZI.keys_in Tryz.Qg _ 5 trivial rfl mb W
theorem wV{H:Type}(b B:Nat)(D0:DataW H)(R:Value->Option _)(w:World)(Y:w.ownsMap Tryz.prog 3 R b B D0)(N:Maps.size D0<=10000):
  Calls Tryz.prog 123 #[.func (.func 143) #[] #[.pointer (some ⟨w.heap.size,0,none⟩)]] (w.alloc (.cells #[.map (some b)] 166)) fun e w'=>∃(v:Value) (I:List Int),e=.returned v/\I.Perm (intKeys D0)/\
   w'.ownsRow w.heap.size 3 1 v I.length ((I.mergeSort (fun x y=>decide (x<=y))).map encZ)/\Below w.heap.size w w':=by
 refine(callsIn_wide (n:=5)).1 ?_;have A:=Y.lt;have D:SeqGives Fence.wide 2 _ 143 _ _ _ _ (w.alloc (.cells #[.map (some b)] 166)):=
  AnyZI.keys_gives {Tryz.Qg with} _ _ trivial rfl (by omega) w.heap.size b B D0 _ (by simp) (by simp) (by
   obtain⟨es,clock,hb,C,M,J⟩:=Y;exact⟨es,clock,(Below.heap_alloc _ _ b A).trans hb,C,M,J⟩)
 have F:=AnyZI.sorted_in Tryz.Om _ 5 trivial trivial trivial trivial rfl (by omega) (LI _) (enters_of Tryz.func142 (by kernel_rfl) rfl) 143 _ trivial (enters_of Tryz.func143 (by kernel_rfl) rfl) _ _ (by unfold maxLen;omega) (by omega) _ D;refine F.mono ?_;rintro e w' ⟨v,I,rfl,L,K,U,hb⟩;exact⟨v,I,rfl,L,ownsRow_base_a K (by simp),((ah8 _ w).alloc (ah4 _) _).trans (hb.mono (by simp))⟩
end
section
structure Good(q:Nat)(p t:ByteArray)(i j:Nat)(l:List (Nat×Nat)):Prop where
 Yh:∀w∈l,w.1+q<=i/\w.2+q<=j/\∀u,u<q->ag (at8 p (w.1+u)) (at8 t (w.2+u))=true
 up:l.Pairwise fun a b=>a.1<b.1/\a.2<b.2
theorem Good.nil(q:Nat)(p t:ByteArray)(i j:Nat):Good q p t i j []:=⟨fun _ h=>by simp at h,List.Pairwise.nil⟩
theorem Good.mono{p:ByteArray}{i i' H:Nat}{l:List _}(h:Good q p t i j l)(Y:i<=i')(K:j<=H):Good q p t i' H l:=
 ⟨fun w hw=>by have:=h.Yh w hw;exact⟨by omega,by omega,this.2.2⟩,h.up⟩
structure LK(p t:ByteArray)(i j r:Nat):Prop where
 li:r<=i
 lj:r<=j
 all:∀u,u<r->ag (at8 p (i-1-u)) (at8 t (j-1-u))=true
theorem LK.zero(p t:ByteArray)(i j:Nat):LK p t i j 0:=⟨aic _,aic _,fun u h=>by omega⟩
theorem LK.succ{p:ByteArray}{i r:Nat}(h:LK p t i j r)(Y:ag (at8 p i) (at8 t j)=true):LK p t (i+1) (j+1) (r+1):=
 ⟨by have:=h.li;omega,by have:=h.lj;omega,fun u hu=>by
  cases u with
  |zero=>simpa using Y
  |succ u=>
   have:=h.all u (by omega);rw[show i+1-1-(u+1)=i-1-u by omega,show j+1-1-(u+1)=j-1-u by omega];omega⟩
theorem kK(q:Nat)(D:1<=q)(p t:ByteArray):∀i j,∃l r,Good q p t i j l/\LK p t i j r/\i+(q-1-min r (q-1))<=l.length+q *dT p t i j+(q-1)
 |0,j=>⟨[],0,Good.nil _ _ _ _ _,LK.zero _ _ _ _,by
   have:0<=q *dT p t 0 j:=aic _;simp only[aiL];omega⟩
 |i+1,0=>⟨[],0,Good.nil _ _ _ _ _,LK.zero _ _ _ _,by
   rw[dT];have:i+1<=q *(i+1):=Nat.le_mul_of_pos_left _ D;simp only[aiL];omega⟩
 |i+1,j+1=>by
  have H:dT p t (i+1) (j+1)=dT p t i j+cost p t i j\/dT p t (i+1) (j+1)=dT p t i (j+1)+1\/dT p t (i+1) (j+1)=dT p t (i+1) j+1:=by rw[dT];omega
  rcases H with h|h|h
  ·obtain⟨l,r,K,hr,hle⟩:=kK q D p t i j;by_cases R:ag (at8 p i) (at8 t j)=true
   ·have A:cost p t i j=0:=if_pos R;have h:dT p t (i+1) (j+1)=dT p t i j:=by rw[h,A];rfl
    rw[h];have Y:=hr.succ R;by_cases U:q<=r+1
    ·refine⟨l++[(i+1-q,j+1-q)],r+1,⟨fun w hw=>?_,?_⟩,Y,?_⟩
     ·rw[aih,air]at hw;rcases hw with hw|hw
      ·have:=K.Yh w hw;exact⟨by omega,by omega,this.2.2⟩
      ·subst hw;have B:=Y.li;have C:=Y.lj;refine⟨by simp only;omega,by simp only;omega,fun u hu=>?_⟩;have:=Y.all (q-1-u) (by omega);simp only;rw[show i+1-q+u=i+1-1-(q-1-u) by omega,show j+1-q+u=j+1-1-(q-1-u) by omega];exact this
     ·refine aiQ.2 ⟨K.up,List.pairwise_singleton _ _,fun a I b hb=>?_⟩;rw[air]at hb;subst hb;have:=K.Yh a I;simp only;omega
     ·rw[ah2];simp only[ai5,aiL];omega
    ·exact⟨l,r+1,K.mono (by omega) (by omega),Y,by omega⟩
   ·have A:cost p t i j=1:=if_neg R;rw[A]at h;rw[h,ai3];exact⟨l,0,K.mono (by omega) (by omega),LK.zero _ _ _ _,by omega⟩
  ·obtain⟨l,r,K,hr,hle⟩:=kK q D p t i (j+1);rw[h,ai3];exact⟨l,0,K.mono (by omega) (by omega),LK.zero _ _ _ _,by omega⟩
  ·obtain⟨l,r,K,hr,hle⟩:=kK q D p t (i+1) j;rw[h,ai3];exact⟨l,0,K.mono (by omega) (by omega),LK.zero _ _ _ _,by omega⟩
theorem mX(P:Nat->Bool):∀k (xs:List Nat),xs.Nodup->(∀x∈xs,x<k/\P x=true)->xs.length<=((List.range k).countP P)
 |0,xs,_,h=>by
  cases xs with
  |nil=>simp
  |cons a l=>have:=(h a (by simp)).1;omega
 |k+1,xs,K,h=>by
  rw[aiM,aiU];by_cases hk:k∈xs
  ·have R:=(h k hk).2;have D:=mX P k _ (K.erase k) (fun x Y=>by
    have H:=(K.mem_erase_iff).1 Y;have:=h x H.2;exact⟨by omega,this.2⟩)
   simp_all
  ·have D:=mX P k xs K (fun x Y=>by
    have:x≠k:=fun e=>hk (e▸Y);have:=h x Y;exact⟨by omega,this.2⟩)
   omega
theorem mY(s:ByteArray)(q:Nat)(z:List _)(Y:sE z=true):∀k,bm s q z k=(List.range k).countP (fun x=>decide (fN s q x=z))
 |0=>rfl
 |k+1=>by
  rw[bm,mY s q z Y k,aiM,aiU];simp_all
theorem x8(f:Nat×Nat->List _)(Y:List _):∀(l:List _),(∀w∈l,f w∈Y)->l.length<=eK (fun z=>l.countP (fun w=>decide (f w=z))) Y
 |[],_=>aic _
 |w::l,h=>by
  have I:=x8 f Y l (fun w' A=>h w' (by simp_all));have H:1<=eK (fun z=>if f w=z then 1 else 0) Y:=by
   have hm:=h w (by simp);clear I h;induction Y with
   |nil=>simp at hm
   |cons a Y D=>
    have e:eK (fun z=>if f w=z then 1 else 0) (a::Y)=(if f w=a then 1 else 0)+eK (fun z=>if f w=z then 1 else 0) Y:=by simp[eK]
    rw[e];by_cases U:f w=a
    ·simp_all
    ·simp_all
  have K:eK (fun z=>(w::l).countP (fun w=>decide (f w=z))) Y=eK (fun z=>l.countP (fun w=>decide (f w=z))) Y+eK (fun z=>if f w=z then 1 else 0) Y:=by
   clear I H h;induction Y with
   |nil=>rfl
   |cons a Y D=>
    have R:∀g,eK g (a::Y)=g a+eK g Y:=fun g=>by simp[eK]
    rw[R,R,R,D];have:(w::l).countP (fun w=>decide (f w=a))=l.countP (fun w=>decide (f w=a))+(if f w=a then 1 else 0):=by
     rw[List.countP_cons];simp
    omega
  rw[K,ai5];omega
theorem LM(f g:List _->Nat)(Y:List _)(h:∀z∈Y,f z<=g z):eK f Y<=eK g Y:=by
 induction Y with
 |nil=>exact ah4 _
 |cons a Y D=>
  have K:∀g,eK g (a::Y)=g a+eK g Y:=fun g=>by simp[eK]
  rw[K,K];have:=D (fun z H=>h z (by simp[H]));have:=h a (by simp);omega
theorem B3(p S:ByteArray)(q:Nat)(F:1<=q)(l:List (Nat×Nat))(B:l.Pairwise fun a b=>a.1<b.1/\a.2<b.2)
  (H:∀w∈l,w.1+q<=p.size/\w.2+q<=S.size/\fN p q w.1=fN S q w.2/\sE (fN p q w.1)=true):l.length<=vv p S q:=by
 have U:=ig p q (p.size+1-q);have Y:=fun z=>kF p q z (p.size+1-q);rw[<-uU p S q F _ U Y];refine Nat.le_trans (x8 (fun w=>fN p q w.1) _ l (fun w hw=>?_)) (LM _ _ _ (fun z J=>?_))
 ·have h:=H w hw;rw[Y,mY p q _ h.2.2.2];refine List.countP_pos_iff.2 ⟨w.1,by rw[List.mem_range];omega,by simp⟩
 ·have L:=(Y z).1 J;have R:sE z=true:=by
   cases A:sE z with
   |true=>rfl
   |false=>
    have:∀k,bm p q z k=0:=fun k=>by
     induction k with
     |zero=>rfl
     |succ k M=>rw[bm,M,if_neg (fun e=>by simp_all)]
    simp_all
  have I:l.countP _=(l.filter (fun w=>decide (fN p q w.1=z))).length:=List.countP_eq_length_filter;have C:(l.filter (fun w=>decide (fN p q w.1=z))).Pairwise _:=B.filter _;have K:∀w∈l.filter (fun w=>decide (fN p q w.1=z)),w.1+q<=p.size/\w.2+q<=S.size/\fN p q w.1=z/\fN S q w.2=z:=fun w hw=>by
   rw[List.mem_filter]at hw;have h:=H w hw.1;simp_all
  generalize l.filter (fun w=>decide (fN p q w.1=z))=m at *;have N:m.length<=jr p q z:=by
   unfold jr;rw[mY p q z R];have A:(m.map (·.1)).Nodup:=aiH.2 (C.imp fun h=>by omega);have:=mX (fun x=>decide (fN p q x=z)) (p.size+1-q) _ A (fun x D=>by
    rw[aiq]at D;obtain⟨w,hw,rfl⟩:=D;have:=K w hw;exact⟨by omega,decide_eq_true this.2.2.1⟩)
   simpa using this
  have O:m.length<=jr S q z:=by
   unfold jr;rw[mY S q z R];have A:(m.map (·.2)).Nodup:=aiH.2 (C.imp fun h=>by omega);have:=mX (fun x=>decide (fN S q x=z)) (S.size+1-q) (m.map (·.2)) A (fun x D=>by
    rw[aiq]at D;obtain⟨w,hw,rfl⟩:=D;have:=K w hw;exact⟨by omega,decide_eq_true this.2.2.2⟩)
   simpa using this
  unfold eJ;omega
theorem fe(X:ByteArray)(a c i:Nat)(Y:c<=X.size)(K:a+i<c):at8 (X.extract a c) i=at8 X (a+i):=by
 unfold at8;rw[ail,aio];simp only[ah6];rw[aiF,if_pos (by omega),aiG]
theorem Qm{b:UInt8}(h:ag a b=true):a=b/\a≠78:=by
 unfold ag at h;simp at h;exact h
theorem zx(s:ByteArray)(q x:Nat)(h:x+q<=s.size):(fN s q x).length=q:=by
 show(s.extract x _).size=q;simp_all
theorem zy(s:ByteArray)(q x u:Nat)(h:x+q<=s.size)(hu:u<q):(fN s q x)[u]?=some (at8 s (x+u)):=by
 have Y:=fe s x _ u h (by omega);unfold at8 at Y;unfold fN;have K:u<(s.extract x (x+q)).data.toList.length:=by
  show u<(s.extract x _).size;simp_all
 rw[ah6,ah3 K]at Y;rw[ah3 K];simp only[Option.getD_some]at Y;rw[Y];rfl
theorem OH{p:ByteArray}{y:Nat}(Y:x+q<=p.size)(K:y+q<=S.size)(h:∀u,u<q->at8 p (x+u)=at8 S (y+u)):fN p q x=fN S q y:=by
 apply ai1;intro u;by_cases hu:u<q
 ·rw[zy p q x u Y hu,zy S q y u K hu,h u hu]
 ·rw[ain (by rw[zx p q x Y];omega),ain (by rw[zx S q y K];omega)]
theorem Su{p:ByteArray}(Y:x+q<=p.size)(h:∀u,u<q->at8 p (x+u)≠78):sE (fN p q x)=true:=by
 unfold sE;rw[Bool.not_eq_true',<-aiA,List.contains_iff_mem];intro hm;obtain⟨u,hu,e⟩:=List.getElem_of_mem hm;have H:=zx p q x Y;have K:=zy p q x u Y (by omega);rw[ah3 hu,e]at K;exact h u (by omega) (by simp_all)
theorem uW(p X:ByteArray)(k q a c s e:Nat)(I:1<=q)(has:a<=s)(B:s<=e)(A:e<=c)(K:c<=X.size)(hd:bM p (X.extract s e)<=k):
  Ep p.size k q<=(vv p (X.extract a c) q:Int):=by
 obtain⟨l,r,R,hr,hle⟩:=kK q I p (X.extract s e) p.size (X.extract s e).size;have Y:(X.extract s e).size=e-s:=by rw[aia];omega
 have D:(X.extract a c).size=c-a:=by simp_all
 have hlen:l.length<=vv p (X.extract a c) q:=by
  have U:(l.map fun w=>(w.1,w.2+(s-a))).length=l.length:=ai8 ..;rw[<-U];refine B3 p (X.extract a c) q I _ (aiH.2 (R.up.imp fun h=>by simp only;omega)) (fun w hw=>?_);rw[aiq]at hw;obtain⟨v,C,rfl⟩:=hw;have h:=R.Yh v C;rw[Y]at h;refine⟨h.1,by rw[D];simp only;omega,OH h.1 (by rw[D];simp only;omega) (fun u hu=>?_),Su h.1 (fun u hu=>(Qm (h.2.2 u hu)).2)⟩;have H:=(Qm (h.2.2 u hu)).1;rw[fe X s e _ (by omega) (by omega)]at H;simp only;rw[fe X a c _ K (by omega),H];congr 1;omega
 unfold bM at hd;have hm:=Nat.mul_le_mul_left q hd;unfold Ep;rw[aiV k q];omega
theorem Gg(p t:ByteArray):∀i j,j<=i+dT p t i j/\i<=j+dT p t i j
 |0,j=>by simp[dT]
 |i+1,0=>by simp[dT]
 |i+1,j+1=>by
  have Y:=Gg p t i j;have K:=Gg p t i (j+1);have H:=Gg p t (i+1) j;rw[dT];omega
theorem uX(p X:ByteArray)(k s e:Nat)(H:s<=e)(K:e<=X.size)(hd:bM p (X.extract s e)<=k):e<=s+p.size+k:=by
 have h:=(Gg p (X.extract s e) p.size (X.extract s e).size).1;have Y:(X.extract s e).size=e-s:=by simp_all
 unfold bM at hd;omega
theorem EH(p X:ByteArray)(k q st s e:Nat)(D:1<=q)(au:1<=st)(Y:s<=e)(K:e<=X.size)(hd:bM p (X.extract s e)<=k):
  looked p X k q st (Ep p.size k q) ((e-(p.size+k))/st)=true:=by
 have hlen:=uX p X k s e Y K hd;have hb:(e-(p.size+k))/st *st<=e-(p.size+k):=aiE _ _;have H:e-(p.size+k)<(e-(p.size+k))/st *st+st:=by
  have:=ai9 (e-(p.size+k)) st;have hm:=Nat.mod_lt (e-(p.size+k)) (show 0<st by omega);rw[aiV]at this;omega
 unfold looked;rw[Bool.or_eq_true];right;refine decide_eq_true ?_;refine uW p X k q _ _ s e D (by omega) Y ?_ ?_ hd
 ·unfold pE;omega
 ·unfold pE;omega
theorem l_{p p' t':ByteArray}:∀i j,(∀x,x<i->at8 p x=at8 p' x)->(∀y,y<j->at8 t y=at8 t' y)->dT p t i j=dT p' t' i j
 |0,j,_,_=>by simp[dT]
 |i+1,0,_,_=>by simp[dT]
 |i+1,j+1,Y,K=>by
  rw[dT,dT,l_ i j (fun x h=>Y x (by omega)) (fun y h=>K y (by omega)),l_ i _ (fun x h=>Y x (by omega)) K,l_ _ j Y (fun y h=>K y (by omega))];unfold cost;simp_all
def dF(p t:ByteArray)(s i j:Nat):=dT p (t.extract s t.size) i (j-s)
theorem Ws(p t:ByteArray)(s e i:Nat)(Y:s<=e)(het:e<=t.size):dT p (t.extract s e) i (e-s)=dF p t s i e:=by
 refine l_ i _ (fun _ _=>rfl) (fun y K=>?_);rw[fe t s e y het (by omega),fe t s _ y (ah4 _) (by omega)]
theorem B4(p t:ByteArray)(s e:Nat)(Y:s<=e)(het:e<=t.size):bM p (t.extract s e)=dF p t s p.size e:=by
 have h:(t.extract s e).size=e-s:=by simp_all
 unfold bM;rw[h];exact Ws p t s e _ Y het
theorem jN(p t:ByteArray)(s i:Nat):dF p t s i s=i:=by
 unfold dF;cases i<;>simp[dT]
theorem sH(p t:ByteArray)(s i j:Nat)(K:s<=j)(Y:j<t.size):dF p t s (i+1) (j+1)=min (min (dF p t s i j+cost p t i j) (dF p t s i (j+1)+1)) (dF p t s (i+1) j+1):=by
 unfold dF;rw[show j+1-s=(j-s)+1 by omega,dT];have:cost p (t.extract s t.size) i (j-s)=cost p t i j:=by
  unfold cost;rw[fe t s _ _ (ah4 _) (by omega),show s+(j-s)=j by omega]
 omega
def sT(p t:ByteArray)
 |0,_=>0
 |i+1,0=>i+1
 |i+1,j+1=>min (min (sT p t i j+cost p t i j) (sT p t i (j+1)+1)) (sT p t (i+1) j+1)
theorem zz(p t:ByteArray):∀i j,sT p t i j<=i
 |0,j=>by simp[sT]
 |i+1,0=>by simp[sT]
 |i+1,j+1=>by have:=zz p t i (j+1);rw[sT];omega
theorem B5(p t:ByteArray):∀i j,j<=t.size->∀s,s<=j->sT p t i j<=dF p t s i j
 |0,j,_,s,_=>by simp[sT]
 |i+1,0,_,s,Y=>by
  have:s=0:=by omega
  subst this;rw[jN];exact zz p t _ _
 |i+1,j+1,K,s,Y=>by
  rcases aij j s with h|h
  ·have:s=j+1:=by omega
   subst this;rw[jN];exact zz p t _ _
  ·have H:=B5 p t i j (by omega) s h;have D:=B5 p t i (j+1) K s Y;have R:=B5 p t (i+1) j (by omega) s h;rw[sT,sH p t s i j h (by omega)];omega
theorem Gh(p t:ByteArray):∀i j,j<=t.size->∃s,s<=j/\dF p t s i j=sT p t i j
 |0,j,_=>⟨j,ah4 _,by rw[jN,sT]⟩
 |i+1,0,_=>⟨0,ah4 _,by rw[jN,sT]⟩
 |i+1,j+1,H=>by
  have key:∃s,s<=j+1/\dF p t s (i+1) (j+1)<=sT p t (i+1) (j+1):=by
   have K:sT p t (i+1) (j+1)=sT p t i j+cost p t i j\/sT p t (i+1) (j+1)=sT p t i (j+1)+1\/sT p t (i+1) (j+1)=sT p t (i+1) j+1:=by rw[sT];omega
   rcases K with h|h|h
   ·obtain⟨s,Y,e⟩:=Gh p t i j (by omega);exact⟨s,by omega,by rw[sH p t s i j Y (by omega),h];omega⟩
   ·obtain⟨s,Y,e⟩:=Gh p t i (j+1) H;rcases aij j s with h'|h'
    ·have:s=j+1:=by omega
     subst this;rw[jN]at e;exact⟨j+1,ah4 _,by rw[jN,h];omega⟩
    ·exact⟨s,Y,by rw[sH p t s i j h' (by omega),h];omega⟩
   ·obtain⟨s,Y,e⟩:=Gh p t (i+1) j (by omega);exact⟨s,by omega,by rw[sH p t s i j Y (by omega),h];omega⟩
  obtain⟨s,Y,hle⟩:=key;exact⟨s,Y,ai_ hle (B5 p t (i+1) (j+1) H s Y)⟩
theorem rQ(p t:ByteArray)(k e:Nat):∀c,c<=e+1->
  (∀x,x<c->(dO p t k e c).1<=bM p (t.extract (e-x) e))/\
  ((dO p t k e c).1<=k->∃x,x<c/\(dO p t k e c).2=e-x/\bM p (t.extract (e-x) e)=(dO p t k e c).1/\∀y,y<x->(dO p t k e c).1<bM p (t.extract (e-y) e))
 |0,_=>⟨fun x h=>by omega,fun h=>by simp[dO]at h;omega⟩
 |c+1,I=>by
  obtain⟨K,D⟩:=rQ p t k e c (by omega);by_cases h:bM p (t.extract (e-c) e)<(dO p t k e c).1
  ·rw[dO,if_pos h];refine⟨fun x H=>?_,fun hk=>⟨c,by omega,rfl,rfl,fun y R=>?_⟩⟩
   ·rcases aij x c with Y|Y
    ·have:=K x Y;omega
    ·have:x=c:=by omega
     simp_all
   ·have:=K y R;omega
  ·rw[dO,if_neg h];refine⟨fun x H=>?_,fun hk=>?_⟩
   ·rcases aij x c with Y|Y
    ·simp_all
    ·have:x=c:=by omega
     subst this;omega
   ·obtain⟨x,H,a,b,d⟩:=D hk;exact⟨x,by omega,a,b,d⟩
theorem mZ(p t:ByteArray)(k e:Nat)(het:e<=t.size):
  (∀s,s<=e->bM p (t.extract s e)<=k->(bA p t k e).1<=bM p (t.extract s e))/\
  ((bA p t k e).1<=k->(bA p t k e).2<=e/\bM p (t.extract (bA p t k e).2 e)=(bA p t k e).1/\(∀s,s<=e->(bA p t k e).1<=bM p (t.extract s e))/\∀s,(bA p t k e).2<s->s<=e->(bA p t k e).1<bM p (t.extract s e)):=by
 have A:tries p k e=min e _+1:=rfl;obtain⟨H,D⟩:=rQ p t k e (tries p k e) (by omega);have K:=fun s Y hd=>by
  have U:=uX p t k s e Y het hd;have:=H (e-s) (by omega);rw[show e-(e-s)=s by omega]at this;exact this
 refine⟨K,fun hk=>?_⟩;obtain⟨x,B,a,b,d⟩:=D hk;refine⟨jZ p t k e _,by unfold bA;rw[a];exact b,fun s Y=>?_,fun s Y I=>?_⟩
 ·rcases aij k (bM p (t.extract s e))with h|h
  ·omega
  ·exact K s Y h
 ·have R:(bA p t k e).2=e-x:=a;have:=d (e-s) (by omega);rw[show e-(e-s)=s by omega]at this;exact this
theorem ma(X:ByteArray)(a c s e:Nat)(has:a<=s)(H:s<=e)(K:e<=c)(Y:c<=X.size):(X.extract a c).extract (s-a) (e-a)=X.extract s e:=by
 rw[<-mV];simp only[ail,aio,aiI];rw[List.drop_take,List.drop_drop,List.take_take,show a+(s-a)=s by omega];congr 1;omega
theorem EI(p X:ByteArray)(a c s e:Nat)(has:a<=s)(H:s<=e)(K:e<=c)(Y:c<=X.size):sT p (X.extract a c) p.size (e-a)<=bM p (X.extract s e):=by
 have D:(X.extract a c).size=c-a:=by simp_all
 have:=B5 p (X.extract a c) p.size (e-a) (by omega) (s-a) (by omega);rw[<-B4 p _ _ _ (by omega) (by omega),ma X a c s e has H K Y]at this;omega
theorem EJ(p X:ByteArray)(a c e:Nat)(H:a<=e)(K:e<=c)(Y:c<=X.size):∃s,a<=s/\s<=e/\bM p (X.extract s e)=sT p (X.extract a c) p.size (e-a):=by
 have R:(X.extract a c).size=c-a:=by simp_all
 obtain⟨s,D,h⟩:=Gh p (X.extract a c) _ (e-a) (by omega);rw[<-B4 p _ s _ D (by omega)]at h;have:=ma X a c (a+s) e (by omega) (by omega) K Y;rw[show a+s-a=s by omega]at this;rw[this]at h;exact⟨a+s,by omega,by omega,h⟩
theorem k_(p X:ByteArray)(k a c e:Nat)(Y:a<=e)(H:e<=c)(K:c<=X.size)(hk:sT p (X.extract a c) p.size (e-a)<=k):(bA p X k e).1<=sT p (X.extract a c) p.size (e-a):=by
 obtain⟨s,has,D,h⟩:=EJ p X a c e Y H K;rw[<-h]at hk⊢;exact(mZ p X k e (by omega)).1 s D hk
theorem zB(p X:ByteArray)(k st e:Nat)(au:1<=st)(H:e<=X.size)(hk:(bA p X k e).1<=k):
  (e-(p.size+k))/st *st<=e/\e<=pE p.size X.size k st ((e-(p.size+k))/st)/\sT p (X.extract ((e-(p.size+k))/st *st) (pE p.size X.size k st ((e-(p.size+k))/st))) p.size (e-(e-(p.size+k))/st *st)=(bA p X k e).1:=by
 obtain⟨D,R,A,U⟩:=(mZ p X k e H).2 hk;have hlen:=uX p X k _ e D H (by omega);have hb:(e-(p.size+k))/st *st<=e-(p.size+k):=aiE _ _;have I:e-(p.size+k)<(e-(p.size+k))/st *st+st:=by
  have:=ai9 (e-(p.size+k)) st;have hm:=Nat.mod_lt (e-(p.size+k)) (show 0<st by omega);rw[aiV]at this;omega
 have Y:e<=pE p.size X.size k st ((e-(p.size+k))/st):=by unfold pE;omega
 have K:pE p.size X.size k st ((e-(p.size+k))/st)<=X.size:=by unfold pE;omega
 refine⟨by omega,Y,?_⟩;have hle:=EI p X _ _ _ e (show(e-(p.size+k))/st *st<=(bA p X k e).2 by omega) D Y K;rw[R]at hle;exact ai_ hle (k_ p X k _ _ e (by omega) Y K (by omega))
inductive Ed:List UInt8->List UInt8->Nat->Prop
 |nil:Ed [] [] 0
 |sub {x y:List UInt8} {n:Nat} (a b:UInt8):Ed x y n->Ed (x++[a]) (y++[b]) (n+co a b)
 |del {x y:List UInt8} {n:Nat} (a:UInt8):Ed x y n->Ed (x++[a]) y (n+1)
 |ins {x y:List UInt8} {n:Nat} (b:UInt8):Ed x y n->Ed x (y++[b]) (n+1)
theorem Ed.aaQ{x y:List _}{n:Nat}(a b:UInt8)(h:Ed x y n):Ed (a::x) (b::y) (n+co a b):=by
 induction h with
 |nil=>simpa using Ed.sub a b Ed.nil
 |@sub x y n c d _ Y=>have:=Ed.sub c d Y;rw[show n+co c d+co a b=n+co a b+co c d by omega];exact this
 |@del x y n c _ Y=>have:=Ed.del c Y;rw[show n+1+co a b=n+co a b+1 by omega];exact this
 |@ins x y n d _ Y=>have:=Ed.ins d Y;rw[show n+1+co a b=n+co a b+1 by omega];exact this
theorem Ed.aaR{x y:List _}{n:Nat}(a:UInt8)(h:Ed x y n):Ed (a::x) y (n+1):=by
 induction h with
 |nil=>simpa using Ed.del a Ed.nil
 |@sub x y n c d _ Y=>have:=Ed.sub c d Y;rw[show n+co c d+1=n+1+co c d by omega];exact this
 |@del x y n c _ Y=>exact Ed.del c Y
 |@ins x y n d _ Y=>exact Ed.ins d Y
theorem Ed.aaS{x y:List _}{n:Nat}(b:UInt8)(h:Ed x y n):Ed x (b::y) (n+1):=by
 induction h with
 |nil=>simpa using Ed.ins b Ed.nil
 |@sub x y n c d _ Y=>have:=Ed.sub c d Y;rw[show n+co c d+1=n+1+co c d by omega];exact this
 |@del x y n c _ Y=>exact Ed.del c Y
 |@ins x y n d _ Y=>exact Ed.ins d Y
theorem Ed.rev{x y:List _}{n:Nat}(h:Ed x y n):Ed x.reverse y.reverse n:=by
 induction h with
 |nil=>exact .nil
 |sub a b _ Y=>rw[aip,aip];exact Y.aaQ a b
 |del a _ Y=>rw[aip];exact Y.aaR a
 |ins b _ Y=>rw[aip];exact Y.aaS b
theorem eT(s:ByteArray)(i:Nat)(h:i<s.size):s.data.toList.take (i+1)=s.data.toList.take i++[at8 s i]:=by
 rw[List.take_succ_eq_append_getElem _];unfold at8;rw[ah6,ah3 (by simp_all)];rfl
theorem EK(p t:ByteArray)(i:Nat):dT p t i 0=i:=by
 cases i with
 |zero=>rw[dT]
 |succ i=>rw[dT]
theorem Ed.x9(p t:ByteArray):∀i j,i<=p.size->j<=t.size->Ed (p.data.toList.take i) (t.data.toList.take j) (dT p t i j)
 |0,0,_,_=>by simpa[dT]using Ed.nil
 |0,j+1,Y,K=>by
  have:=Ed.ins (at8 t j) (Ed.x9 p t 0 j Y (by omega));rw[<-eT t j (by omega)]at this;simpa[dT]using this
 |i+1,0,Y,K=>by
  have I:dT p t i 0=i:=EK p t i;have:=Ed.del (at8 p i) (Ed.x9 p t i 0 (by omega) K);rw[<-eT p i (by omega),I]at this;simpa[dT]using this
 |i+1,j+1,Y,K=>by
  have H:=Ed.sub (at8 p i) (at8 t j) (Ed.x9 p t i j (by omega) (by omega));have R:=Ed.del (at8 p i) (Ed.x9 p t i (j+1) (by omega) K);have D:=Ed.ins (at8 t j) (Ed.x9 p t (i+1) j Y (by omega));rw[<-eT p i (by omega),<-eT t j (by omega)]at H;rw[<-eT p i (by omega)]at R;rw[<-eT t j (by omega)]at D;have A:co (at8 p i) (at8 t j)=cost p t i j:=rfl;rw[A]at H;rw[dT];rcases aiW (dT p t i j+cost p t i j) (dT p t i (j+1)+1)with a|a
  ·rw[aiN a];rcases aiW (dT p t i j+cost p t i j) (dT p t (i+1) j+1)with b|b
   ·rw[aiN b];exact H
   ·rw[aiK b];exact D
  ·rw[aiK a];rcases aiW (dT p t i (j+1)+1) (dT p t (i+1) j+1)with b|b
   ·rw[aiN b];exact R
   ·rw[aiK b];exact D
theorem pJ{x:List _}(H:(x++[a]).length<=s.size)(h:x++[a]=s.data.toList.take (x++[a]).length):x.length<s.size/\x=s.data.toList.take x.length/\a=at8 s x.length:=by
 have Y:=by simp at H;omega
 rw[ah2,aii,eT s _ Y]at h;have:=List.append_inj h (by simp;omega);refine⟨Y,this.1,?_⟩;have K:=this.2;simpa using K
theorem Ed.le{x y:List UInt8}{n:Nat}(h:Ed x y n)(p t:ByteArray):x.length<=p.size->y.length<=t.size->x=p.data.toList.take x.length->y=t.data.toList.take y.length->dT p t x.length y.length<=n:=by
 induction h with
 |nil=>simp[dT]
 |@sub x y n a b _ R=>
  intro Y K H D;obtain⟨a1,a2,a3⟩:=pJ Y H;obtain⟨b1,b2,I⟩:=pJ K D;have:=R (by omega) (by omega) a2 b2;rw[ah2,ah2,aii,aii,dT,a3,I];have C:co _ _=cost p t x.length y.length:=rfl;omega
 |@del x y n a _ R=>
  intro Y K H D;obtain⟨a1,a2,a3⟩:=pJ Y H;have:=R (by omega) K a2 D;rw[ah2,aii];cases U:y.length with
  |zero=>
   rw[U]at this;have B:dT p t _ 0=x.length:=EK p t _;rw[dT];omega
  |succ j=>rw[U]at this;rw[dT];omega
 |@ins x y n b _ R=>
  intro Y K H D;obtain⟨b1,b2,I⟩:=pJ K D;have:=R Y (by omega) H b2;rw[ah2,aii];cases A:x.length with
  |zero=>rw[A]at this;simp[dT]at this⊢;omega
  |succ i=>rw[A]at this;rw[dT];omega
def rev8(s:ByteArray):=str s.data.toList.reverse
theorem gf(s:ByteArray):(rev8 s).size=s.size:=by unfold rev8;rw[ak];simp
theorem m_(s:ByteArray):(rev8 s).data.toList=s.data.toList.reverse:=by simp[rev8,str]
theorem rR(p t:ByteArray):bM (rev8 p) (rev8 t)<=bM p t:=by
 have h:=(Ed.x9 p t _ _ (ah4 _) (ah4 _)).rev;have Y:p.data.toList.take p.size=p.data.toList:=aim (by simp);have K:t.data.toList.take t.size=t.data.toList:=aim (by simp);rw[Y,K]at h;have:=h.le (rev8 p) (rev8 t) (by rw[gf];simp) (by rw[gf];simp) (by rw[m_,aim (by simp)]) (by rw[m_,aim (by simp)]);unfold bM;rw[gf,gf];simp_all
theorem x_(s:ByteArray):rev8 (rev8 s)=s:=by
 simp[rev8,str]
theorem LN(p t:ByteArray):bM (rev8 p) (rev8 t)=bM p t:=by
 have K:=rR p t;have Y:=rR (rev8 p) (rev8 t);rw[x_,x_]at Y;omega
def zQ(X o:ByteArray)(e:Nat)
 |0=>id
 |c+1=>xd (zQ X o e c) (c+1) (at8 X (e-(c+1))) o
theorem OI(a b:UInt8):co a b=co b a:=by
 unfold co ag;by_cases h:a=b
 ·simp_all
 ·have Y:(a==b)=false:=by simp_all
  have K:(b==a)=false:=by simpa using fun e=>h e.symm
  simp_all
theorem Gi(X:ByteArray)(e c:Nat)(he:e<=X.size)(K:c<e):at8 (rev8 (X.extract 0 e)) c=at8 X (e-(c+1)):=by
 unfold at8;rw[m_];have Y:(X.extract 0 e).data.toList.length=e:=by simp;omega
 rw[ah6,aiP (by omega),ah6,Y];congr 1;simp only[ail,aio];rw[aid (by omega),aiG];congr 1;omega
theorem zC(X o:ByteArray)(e:Nat)(he:e<=X.size):∀c,c<=e->∀j,zQ X o e c j=dT o (rev8 (X.extract 0 e)) j c
 |0,_,j=>by rw[EK];rfl
 |c+1,Y,0=>by rw[dT];rfl
 |c+1,Y,j+1=>by
  have i1:=zC X o e he c (by omega) j;have i2:=zC X o e he c (by omega) (j+1);have i3:=zC X o e he (c+1) Y j;rw[dT];show min _ (zQ X o e (c+1) j+1)=_
  rw[i1,i2,i3,OI,<-Gi X e c he (by omega)];have Y:co _ _=cost o (rev8 (X.extract 0 e)) j c:=rfl;omega
theorem B6(X P:ByteArray)(e c:Nat)(he:e<=X.size)(Y:c<=e):zQ X (rev8 P) e c P.size=bM P (X.extract (e-c) e):=by
 rw[zC X (rev8 P) e he c Y,<-LN P (X.extract (e-c) e)];unfold bM;have H:(rev8 (X.extract (e-c) e)).size=c:=by rw[gf,aia];omega
 rw[gf,H];refine l_ _ _ (fun _ _=>rfl) fun y D=>?_;rw[Gi X e y he (by omega)];unfold at8;rw[m_];have K:(X.extract (e-c) e).data.toList.length=c:=by simp;omega
 rw[ah6,ah6,aiP (by omega),K];congr 1;simp only[ail,aio];rw[aiI];rw[aid (by omega),aiG];congr 1;omega
def jO(p t:ByteArray)(k n:Nat):=(c8 p t k n).map (·.2.1)
def bE(p t:ByteArray)(k:Nat):=(iB p t k).map (·.2.1)
theorem qQ(p t:ByteArray)(k e:Nat):∀n,e∈jO p t k n↔e<n/\(bA p t k e).1<=k
 |0=>by simp[jO,c8]
 |n+1=>by
  have Y:=qQ p t k e n;unfold jO at *;rw[c8];split
  ·rw[ah_,aih,Y];simp;constructor
   ·rintro(⟨a,b⟩|rfl)
    ·omega
    ·omega
   ·omega
  ·rename_i h;rw[Y];constructor
   ·omega
   ·rintro⟨a,b⟩;by_cases K:e<n
    ·omega
    ·have:e=n:=by omega
     subst this;omega
theorem uY(p t:ByteArray)(k:Nat):∀n,(jO p t k n).Pairwise (· < ·)
 |0=>by simp[jO,c8]
 |n+1=>by
  have Y:=uY p t k n;have hm:=fun e=>qQ p t k e n;unfold jO at *;rw[c8];split
  ·rw[ah_,aiQ];simp_all
  ·omega
theorem qR(p t:ByteArray)(k e:Nat):e∈bE p t k↔e<=t.size/\(bA p t k e).1<=k:=by
 have:=qQ p t k e (t.size+1);unfold jO at this;unfold bE iB;rw[this];omega
theorem EM(p t:ByteArray)(k:Nat):(bE p t k).Pairwise (· < ·):=uY p t k _
theorem ya(p t:ByteArray)(k:Nat):∀n,(jO p t k n).length<=n
 |0=>by simp[jO,c8]
 |n+1=>by
  have Y:=ya p t k n;unfold jO at *;rw[c8];split
  ·simp_all
  ·omega
theorem jP(p t:ByteArray)(k:Nat):(bE p t k).length<=t.size+1:=ya p t k _
theorem rS(p t:ByteArray)(k e:Nat)(h:e∈bE p t k):e<=t.size/\(bA p t k e).1<=k/\(bA p t k e).2<=e/\bM p (t.extract (bA p t k e).2 e)<=(bA p t k e).1/\∀c,c<e-(bA p t k e).2->(bA p t k e).1<bM p (t.extract (e-c) e):=by
 obtain⟨Y,K⟩:=(qR p t k e).1 h;obtain⟨b1,b2,H,b4⟩:=(mZ p t k e Y).2 K;exact⟨Y,K,b1,by omega,fun c D=>b4 _ (by omega) (by omega)⟩
theorem pK{H:Type}{enc:TypeId×Value->H}{C:Checked}{os:Os}{f:FuncId}{fn:Func}{s:ChangeSpec}{conds:List _}{apart:Bool}{X:World->Array _->Prop}(w0:World)(args:Array _)(fuel:Nat)(D:w0.os=os)
  (R:(w0.forCall (fun _ _=>0) ⟨#[],args,[]⟩).Shaped C.prog)
  (K:Input.okWideB C.prog (w0.forCall (fun _ _=>0) ⟨#[],args,[]⟩) f ⟨#[],args,[]⟩=true)
  (Y:s.preB enc C.prog fn conds apart (w0.forCall (fun _ _=>0) ⟨#[],args,[]⟩).memory args fuel=true)
  (I:s.sizedB enc C.prog fn apart (w0.forCall (fun _ _=>0) ⟨#[],args,[]⟩).memory args fuel=true)
  (A:X (w0.forCall (fun _ _=>0) ⟨#[],args,[]⟩).memory args):
  ∃(w:World) (tape:Tape) (i:Input),w.os=os/\(w.forCall tape i).Shaped C.prog/\i.vars=[]/\Input.okWide C.prog (w.forCall tape i) .any w.heap.size f i/\
   ((s.pre enc C.prog fn conds apart (w.forCall tape i).memory i.args/\X (w.forCall tape i).memory i.args)/\sizedMet enc C.prog fn (OpenSpec.ofChange s) apart (w.forCall tape i).memory i.args)/\
   ({calm:=true}:Assume).holds C.prog (lone (Frame.enter C.prog f i.args .normal) [] (w.forCall tape i)):=by
 have h:=Input.okWide_of_okWideB (base:=w0.heap.size) K;refine⟨w0,fun _ _=>0,⟨#[],args,[]⟩,D,R,h.1,h.2,⟨⟨ChangeSpec.pre_of_preB Y,A⟩,sizedMet_of_sizedB I⟩,?_⟩;exact⟨by simp,fun _ _ _ _=>rfl,by simp,by simp,by simp⟩
theorem yb{p:Pinned}{s:OpenSpec}{c:OpenClaim}(kinds:List _)(tests:Bool)(Y:Bool×String)(lk:Bool)
  (R:c.holds p s)(hw:c.wfByText s=true)(K:c.laidByTextAt .later p kinds tests)
  (au:c.start=.entering)(H:c.noBlocks=false/\c.again=false)(hm:p.checked.prog.mainIs=some (Y.1,Y.2.toList))(U:(!Y.1&&Y.2.isEmpty&&!lk)=false)
  (A:∀f fn,p.checked.prog.funcNamed c.func=some f->p.checked.prog.funcs[f]?=some fn->lk=p.checked.prog.looks []/\∀(j:Nat) t,fn.params[j]?=some t->p.checked.prog.wantsStandIn t=false)
  (I:true=c.goesBy p.checked.prog):
  Claim7.holds p (.plain s) {stood:={row:=c,standIns:=[],harness:=Y,looks:=lk},kinds:=[],alts:=[],goes:=true,laidByText:=true,laidKinds:=kinds,laidTests:=tests,laidLooks:=.later}:=by
 have D:Claim7.isSixth {stood:={row:=c,standIns:=[],harness:=Y,looks:=lk},kinds:=[]}=false:=by simpa[Claim7.isSixth]using U
 exact⟨Claim7.tied_new_at .later kinds tests (Claim7.new_of_sixth R Y lk au H hm D A) hw,(fun _ h=>by cases h),K,(fun h=>by cases h),I⟩
end
section
open RowKit
def EN(w:World)(p:Nat)(e d:Nat):Prop:=w.heap[p]?=some (.cells #[.int .i64 (e:Int),.int .i64 (d:Int)] 173 (0,0))
theorem EN.c0{p e:Nat}(h:EN w p e d):w.cell? ⟨p,0,none⟩=some (.int .i64 e):=by rw[cell_of_row w p 0 _ _ _ h];rfl
theorem EN.c1{p e:Nat}(h:EN w p e d):w.cell? ⟨p,1,none⟩=some (.int .i64 d):=by rw[cell_of_row w p 1 _ _ _ h];rfl
theorem EN.below{p e B:Nat}(h:EN w p e d)(hb:Below B w w')(Y:p<B):EN w' p e d:=by unfold EN at *;rw[hb.block p Y];exact h
theorem EN.drewN{p e:Nat}(h:EN w p e d)(k:Nat):EN (w.drewN k) p e d:=h
theorem cQ.drewN{G n:Nat}(h:cQ w G g n)(k:Nat):cQ (w.drewN k) G g n:=h
theorem LP(X o:ByteArray)(e:Nat):∀c j,zQ X o e c j<=c+j
 |0,j=>by simp[zQ]
 |c+1,j=>yo _ _ _ _ j
theorem Ir(s:ByteArray):str (cU s)=rev8 s:=by unfold rev8;rw[pF]
theorem B7(X P:ByteArray)(e d c0:Nat)(w:World)(hX:X.size<=200)(hP:P.size<=100)(he:e<=X.size)(hd:d<=1000)(hc:c0<=e)(h1:bM P (X.extract (e-c0) e)<=d)(h2:∀c,c<c0->d<bM P (X.extract (e-c) e)):
  Calls Tryz.prog 125 #[.string X,.string P,.agg #[.int .i64 (e:Int),.int .i64 (d:Int)]] w fun r w'=>r=.returned (.int .i64 ((e-c0:Nat):Int))/\Below w.heap.size w w':=by
 have k:Hid (zQ X (rev8 P) e c0 P.size<=d):=laid (by rw[B6 X P e c0 he hc];exact h1);have i:Hid (∀c,c<c0->d<zQ X (rev8 P) e c P.size):=laid fun c E=>by rw[B6 X P e c he (by omega)];exact h2 c E
 clear h1 h2;have Z:(rev8 P).size=P.size:=gf P;have V:Hid (∀W:World,Calls Tryz.prog 129 #[.string P] W fun e w'=>e=.returned (.string (rev8 P))/\Below W.heap.size W w'):=laid fun W=>by
  have:=nF P W (by omega);rw[Ir]at this;exact this
 generalize rev8 P=R at *;have g:EN (w.alloc (.cells #[.int .i64 (e:Int),.int .i64 (d:Int)] 173)) w.heap.size e d:=heap_alloc_new w _;have A:∀o,Below w.heap.size w (w.alloc o):=fun o=>(ah8 _ _).alloc (ah4 _) o;have N:=laid (fun W:World=>jh R.size W (by omega));rw[<-Z]at k i hP;clear Z;have T:=laid g;clear g
 go_enter Tryz.func125,Tryz.ntmps125
 go_wp2_with fail
 refine(V.out _).mono ?_;rintro e1 w1 ⟨rfl,B⟩;have J:=T.out.below B (by simp);have D:Below w.heap.size w w1:=(A _).trans (B.mono (by simp));clear B T V;go_wp2_with fail
 refine(N.out _).mono ?_;rintro e2 w2 ⟨rfl,z,C⟩;have t:w.heap.size<w1.heap.size:=by have:=J.c0;exact block_lt_of_cell this
 have L:=J.below C t;have U:Below w.heap.size w w2:=D.trans (C.mono D.size);clear C N J D A;have d0:=L.c0;have M:=laid L;have Q:=laid z;clear L z;generalize w1.heap.size=H1 at *;go_wp2
 go_loopw [8,9] (fun lv sv wr=>∃c G:Nat,sv=.int .i64 ((e:Int)-(c:Int))/\lv=.slice (some ⟨G,0,none⟩) (R.size+1) (R.size+1)/\c<=c0/\cQ wr G (zQ X R e c) (R.size+1)/\EN wr w.heap.size e d/\Below w.heap.size w wr) (fun _ sv _=>(intOf sv).toNat)
 case atStart=>exact⟨0,H1,by simp,rfl,aic _,Q.out,M.out,U⟩
 case round=>
  obtain⟨c,G,rfl,rfl,E,Y,K,H⟩:=hrel;clear Q M U d0;have l:=K.c0;have c1':=K.c1;have x:=Y.cell R.size (by omega);have v:=LP X R e c R.size;by_cases y:c<c0
  ·have u:(d:Int)<(zQ X R e c R.size:Int):=by have:=i.out c y;omega
   obtain⟨m,hm⟩:∃m:Nat,m=e-(c+1):=⟨_,rfl⟩;have agR:ah9.wrap ((e:Int)-(c:Int)-1)=(m:Int):=by rw[show(e:Int)-(c:Int)-1=(m:Int) by omega];exact ah7 _ (by omega)
   have a:ah9.wrap ((e:Int)-(m:Int))=(c:Int)+1:=by rw[show(e:Int)-(m:Int)=(c:Int)+1 by omega];exact ah7 _ (by omega)
   have b:m<X.size:=by omega
   have p:=eQ X m b;have b1:(m:Int)<(X.size:Int):=by omega
   have b2:(0:Int)<=(m:Int):=aiX _;have S:Hid (∀W:World,cQ W G (zQ X R e c) (R.size+1)->Calls Tryz.prog 145 #[.slice (some ⟨G,0,none⟩) (R.size+1) (R.size+1),.int .i64 ((c:Int)+1),.int .u8 ((at8 X m).toNat:Int),.string R] W fun e' w'=>e'=.returned (.slice (some ⟨W.heap.size,0,none⟩) (R.size+1) (R.size+1))/\cQ w' W.heap.size (zQ X R e (c+1)) (R.size+1)/\Below W.heap.size W w'):=laid fun W hW=>by
    have:=jR (zQ X R e c) (c+1) (at8 X m) R G W (by omega) (by omega) (fun j hj=>by have:=LP X R e c j;omega) hW;have e1:zQ X R e (c+1)=xd (zQ X R e c) (c+1) (at8 X m) R:=by rw[hm];rfl
    rw[e1];rw[show((c+1:Nat):Int)=(c:Int)+1 by omega]at this;exact this
   have h:=laid Y;have O:=laid K;have HM:=laid hm;clear Y K hm;generalize zQ X R e c R.size=LV at *;have f:w.heap.size<wr.heap.size:=block_lt_of_cell l;go_wp2_with fail
   go_quiet(fail)
   go_wp2_with fail
   go_region_held3 (fun w'=>w'.cell? ⟨w.heap.size,0,none⟩=some (.int .i64 (e:Int)))
    (first|go_keep|(rw[I.cell (by first|exact f|(simp;omega))];assumption))
    (first|(go_at_call 145;refine(S.out _ (h.out.drewN _)).mono ?_;rintro e' w' ⟨rfl,n,I⟩))
   have F:Below w.heap.size w w':=(Go.below_drewN H _).trans (I.mono H.size);have s:=EN.below (w:=wr.drewN _) (O.out.drewN _) I f;clear I S h O x u v p;go_wp2
   go_roundw
   case rel=>go_light;exact⟨c+1,_,by have:=HM.out;congr 1;omega,rfl,by omega,n,s,F⟩
   case measure=>go_light;have:=HM.out;simp[intOf];omega
  ·have q:c=c0:=by omega
   have hle:¬((d:Int)<(zQ X R e c R.size:Int)):=by have:=k.out;rw[q];omega
   have HC:Hid ((e:Int)-(c:Int)=((e-c0:Nat):Int)):=laid (by omega);generalize zQ X R e c R.size=LV at *;clear q;go_wp2_with fail
   go_quiet(fail)
   go_wp2
   go_ret
   exact⟨mj HC.out,Go.below_drewN H _⟩
theorem OJ(p t:ByteArray)(i:Nat):xd (dT p t i) (i+1) (at8 p i) t=dT p t (i+1):=by
 funext j;induction j with
 |zero=>rw[xd,dT]
 |succ j Y=>rw[xd,Y,dT];rfl
theorem LQ(p t:ByteArray):(id:Nat->Nat)=dT p t 0:=by
 funext j;rw[dT];rfl
theorem LS{wr O:World}{B G cap g' T i:Nat}{p:ByteArray}(R:kR wr B p t (.slice (some ⟨G,0,none⟩) (i+1) cap) (i+1) g)(N:B<=wr.heap.size)(I:Below wr.drew.heap.size wr.drew w')(C:cQ w' wr.heap.size (dT p t (i+1)) (t.size+1))
  (H:(w'.alloc o).grownBy O (some G))(D:O.ownsRow B 25 1 (.slice (some ⟨g',0,none⟩) (i+1+1) T) (i+1+1) ((List.range (i+1)).map (sv t g)++[.slice (some ⟨wr.heap.size,0,none⟩) (t.size+1) (t.size+1)])):
  kR O B p t (.slice (some ⟨g',0,none⟩) (i+1+1) T) (i+1+1) (fun x=>if x<i+1 then g x else wr.heap.size):=by
 have L:wr.drew.ownsRow B 25 1 _ (i+1) _:=R.own;have M:=iW L I;have K:∀(k:Nat) (c:Array Value),w'.heap[k]?=some (.cells c 3 (0,0))->O.heap[k]?=some (.cells c 3 (0,0)):=fun k c hk=>by
  have U:k<w'.heap.size:=by
   rcases aij k w'.heap.size with h'|h'
   ·exact h'
   ·simp_all
  rw[H.block k (by simp;omega) (fun e=>Lib.ownBlock_ne M hk (by decide) e.symm),heap_alloc_old w' _ U];exact hk
 refine⟨?_,fun x A=>?_,fun x A=>?_⟩
 ·have J:(List.range (i+1+1)).map (sv t fun x=>if x<i+1 then g x else wr.heap.size)=(List.range (i+1)).map (sv t g)++[.slice (some ⟨wr.heap.size,0,none⟩) (t.size+1) (t.size+1)]:=by
   rw[aiM,ah_];congr 1
   ·apply List.map_congr_left;intro x A;rw[List.mem_range]at A;simp[sv,A]
   ·simp[sv]
  rw[J];exact D
 ·by_cases Y:x<i+1
  ·simp only[Y,if_true];have hr:=R.rows x Y;have U:=hr.lt;refine K _ _ ?_;rw[I.block (g x) U];exact hr
  ·have F:x=i+1:=by omega
   subst F;simp only[Y,if_false];exact K _ _ C
 ·by_cases Y:x<i+1
  ·simp only[Y,if_true];exact R.base x Y
  ·simp only[Y,if_false];exact N
theorem wW(p t:ByteArray)(w:World)(hp:p.size<=100)(b:t.size<=300):
  Calls Tryz.prog 146 #[.string p,.string t] w fun e w'=>∃v g,e=.returned v/\kR w' w.heap.size p t v (p.size+1) g/\Below w.heap.size w w':=by
 obtain⟨i0,hi,c,d,f⟩:=info_parts MR;have J:=laid (fun W:World=>jh t.size W b)
 go_enter Tryz.func146,Tryz.ntmps146
 go_wp2_with fail
 refine(J.out _).mono ?_;rintro e1 w1 ⟨rfl,C,I⟩;have U:Hid (kR (w1.alloc (.cells #[.slice (some ⟨w.heap.size,0,none⟩) (t.size+1) (t.size+1)] 25)) w.heap.size p t (.slice (some ⟨w1.heap.size,0,none⟩) 1 1) 1 (fun _=>w.heap.size)):=laid (by
  have hl:=C.lt;refine⟨⟨rfl,.inr ⟨w1.heap.size,1,_,rfl,I.size,heap_alloc_new w1 _,ah4 _,by unfold maxLen;omega,rfl,rfl⟩⟩,fun x hx=>?_,fun x hx=>ah4 _⟩;have:x=0:=by omega
  subst this;unfold qX;rw[heap_alloc_old w1 _ hl];have:=C;rw[LQ p t]at this;exact this)
 have A:Below w.heap.size w (w1.alloc (.cells #[.slice (some ⟨w.heap.size,0,none⟩) (t.size+1) (t.size+1)] 25)):=I.alloc I.size _;clear C I J;go_wp2
 go_loopw [5,13] (fun v iv wr=>∃(i:Nat) (g:Nat->Nat),iv=.int .i64 (i:Int)/\i<=p.size/\kR wr w.heap.size p t v (i+1) g/\Below w.heap.size w wr) (fun _ iv _=>p.size-(intOf iv).toNat)
 case atStart=>exact⟨0,_,rfl,aic _,U.out,A⟩
 case round=>
  obtain⟨i,g,rfl,hip,K,Y⟩:=hrel;clear U A;by_cases E:i<p.size
  ·obtain⟨G,cap,rfl,hGl,m⟩:=K.get (by omega);have X:=m i (by omega);have q:=eQ p i E;have b1:(i:Int)<(p.size:Int):=by omega
   have b2:(0:Int)<=(i:Int):=aiX _;have b3:(i:Int)<(i:Int)+1:=by omega
   have x1:ah9.wrap ((i:Int)+1)=(i:Int)+1:=ah7 _ (by omega);have Q:=K.rows i (by omega);have V:w.heap.size<=G:=by
    rcases K.own.2 with⟨T,_⟩|⟨g1,s,y,T,S,_⟩
    ·cases T
    ·cases T;exact S
   have L:=laid fun W hW=>by
    have:=jR (dT p t i) (i+1) (at8 p i) t (g i) W b (by omega) (fun j hj=>by have:=zX p t i j;omega) hW;rw[OJ]at this;rw[show((i+1:Nat):Int)=(i:Int)+1 by omega]at this;exact this
   have l:Hid (cQ wr (g i) (dT p t i) (t.size+1)):=laid Q;have N:=laid K;have M:Hid (∀(W:World),Below wr.drew.heap.size wr.drew W->∀o:Obj,(W.alloc o).ownsRow w.heap.size 25 1 (.slice (some ⟨G,0,none⟩) (i+1) cap) (i+1) ((List.range (i+1)).map (sv t g))):=laid fun W hW o=>by
    have S:wr.drew.ownsRow w.heap.size 25 1 (.slice (some ⟨G,0,none⟩) (i+1) cap) (i+1) ((List.range (i+1)).map (sv t g)):=K.own;exact(iW S hW).alloc _
   have F:Hid (∀(W:World),Below wr.drew.heap.size wr.drew W->∀o:Obj,w.heap.size<=(W.alloc o).heap.size):=laid fun W hW o=>by have S:=Y.size;have h:=hW.size;simp at h⊢;omega
   clear K Q m;go_wp2_with fail
   go_region_law
    (first
     |(go_simp;go_at_call 145;refine(L.out wr.drew l.out).mono ?_;rintro e' w' ⟨rfl,P,H⟩)
     |(refine step_append_lies _ rfl _ _ 162 rfl w.heap.size 25 i0 (.slice none 0 0) 1 24 Tryz.underlying162 hi c d f rfl (by decide) _ (i+1) _ rfl (M.out w' H _) ⟨w'.heap.size,0,none⟩ 1 1 [.slice (some ⟨wr.heap.size,0,none⟩) (t.size+1) (t.size+1)] rfl rfl (aiD (heap_alloc_new w' _)) (fun u hu=>by simp at hu;subst hu;rfl) (by omega) (by unfold maxLen;omega) (by omega) (F.out w' H _) _ rfl ?_;intro g' r wz R D Z n))
   all_goals
    have z:=LS N.out Y.size H P D R;have B:Below w.heap.size w wz:=((Go.below_drewN Y 1).trans (H.mono Y.size)).trans (Below.grown (ah8 _ _|>.alloc (by have:=H.size;have:=Y.size;simp at *;omega) _) D (by have:=H.size;have:=Y.size;simp at *;omega) (fun k e=>by cases e;exact V));clear L l N M F P H R D Z X q;go_wp2
    go_roundw
    case rel=>go_light;exact⟨i+1,_,by go_num,by omega,z,B⟩
    case measure=>go_light;simp[intOf];omega
  ·have O:i=p.size:=by omega
   have a:Hid (kR wr w.heap.size p t u5 (p.size+1) g):=laid (by rw[<-O];exact K);clear O K;go_wp2
   go_ret
   exact⟨u5,g,rfl,a.out,Y⟩
def letter(p t:ByteArray)(i j:Nat):UInt8:=if E_ p t i j=true then 77 else if Cp p t i j=true then 73 else 68
theorem zD(p t:ByteArray)(B:Nat)(v:Value)(g:Nat->Nat)(i j:Nat)(w:World)(hp:p.size<=100)(ht:t.size<=300)(s:i<=p.size)(u:j<=t.size)(F:kR w B p t v (p.size+1) g):
  Calls Tryz.prog 147 #[v,.string p,.string t,.int .i64 (i:Int),.int .i64 (j:Int)] w fun e w'=>e=.returned (.int .u8 ((letter p t i j).toNat:Int))/\∃d,w'=w.drewN d:=by
 obtain⟨G,cap,rfl,m,r⟩:=F.get (by omega);have Q:=laid r;have O:=laid (fun i s j u=>(F.rows i s).cell j u);clear F r;by_cases U:i=0
 ·have D:Hid (letter p t i j=68):=laid (by unfold letter E_ Cp;rw[U];rfl);have hd1:decide ((0:Int)<(i:Int))=false:=by simp;omega
  have hn1:¬(0:Int)<(i:Int):=by omega
  clear Q O
  go_enter aiC,aiy
  go_wp2_with fail
  go_quiet(fail)
  go_wp2_with fail
  go_quiet(fail)
  rw[aiu];go_wp2
  go_ret
  exact⟨by rw[D.out];rfl,_,rfl⟩
 ·obtain⟨a,R⟩:∃a,i=a+1:=⟨i-1,by omega⟩;have E:(0:Int)<(i:Int):=by omega
  have q:0<i:=by omega
  have hi3:decide (0<i)=true:=decide_eq_true q;have hi4:decide ((0:Int)<(i:Int))=true:=decide_eq_true E;have y:=Q.out i (by omega);have x:=Q.out a (by omega);have r1:=O.out i (by omega) j (by omega);have r3:=O.out a (by omega) j (by omega);have b1:(0:Int)<=(i:Int):=by omega
  have b2:(i:Int)<(p.size:Int)+1:=by omega
  have b3:(0:Int)<=(a:Int):=by omega
  have b4:(a:Int)<(p.size:Int)+1:=by omega
  have b5:(0:Int)<=(j:Int):=by omega
  have b6:(j:Int)<(t.size:Int)+1:=by omega
  have hw1:ah9.wrap ((i:Int)-1)=(a:Int):=by rw[show(i:Int)-1=(a:Int) by omega];exact ah7 _ (by omega)
  have hX:dT p t i j<=1000:=by have:=zX p t i j;omega
  have hZ:dT p t a j<=1000:=by have:=zX p t a j;omega
  have z1:ah9.wrap ((dT p t a j:Int)+1)=(dT p t a j:Int)+1:=ah7 _ (by omega);have K:Hid (Cp p t i j=decide (dT p t i j=dT p t a j+1)):=laid (by unfold Cp;rw[R];simp);by_cases I:j=0
  ·have hd2:decide ((0:Int)<(j:Int))=false:=by simp;omega
   have S:Hid (Cp p t i j=true):=laid (by rw[I];exact Fa p t i (by omega));have D:Hid (letter p t i j=73):=laid (by unfold letter;rw[S.out];unfold E_;rw[I];simp);have M:((dT p t i j:Int)==(dT p t a j:Int)+1)=true:=by
    have o:=S.out;rw[K.out]at o;have:=of_decide_eq_true o;simp;omega
   have hj9:¬(0:Int)<(j:Int):=by omega
   have f:¬0<j:=by omega
   have hj7:decide (0<j)=false:=decide_eq_false f;clear S K R I U;generalize dT p t i j=X at *;generalize dT p t a j=Z at *
   go_enter aiC,aiy
   go_wp2_with fail
   go_quiet(fail)
   go_wp2_with fail
   go_quiet(fail)
   rw[aiu];go_wp2
   go_ret
   exact⟨by rw[D.out];rfl,_,rfl⟩
  ·obtain⟨b,L⟩:∃b,j=b+1:=⟨j-1,by omega⟩;have z:(0:Int)<(j:Int):=by omega
   have c:0<j:=by omega
   have hj3:decide (0<j)=true:=decide_eq_true c;have hj4:decide ((0:Int)<(j:Int))=true:=decide_eq_true z;have r2:=O.out a (by omega) b (by omega);have b7:(0:Int)<=(b:Int):=by omega
   have b8:(b:Int)<(t.size:Int)+1:=by omega
   have n:(a:Int)<(p.size:Int):=by omega
   have k:(b:Int)<(t.size:Int):=by omega
   have T:a<p.size:=by omega
   have V:b<t.size:=by omega
   have hpa:=eQ p a T;have htb:=eQ t b V;have Kr:ah9.wrap ((j:Int)-1)=(b:Int):=by rw[show(j:Int)-1=(b:Int) by omega];exact ah7 _ (by omega)
   have hY:dT p t a b<=1000:=by have:=zX p t a b;omega
   have h:=PH (at8 p a) (at8 t b)
   have H:Hid (E_ p t i j=decide (dT p t i j=dT p t a b+co (at8 p a) (at8 t b))):=laid (by unfold E_;rw[R,L];simp[cost,co];rfl);have A:=laid (fun W:World=>zZ (at8 p a) (at8 t b) W);have y1:ah9.wrap ((dT p t a b:Int)+(co (at8 p a) (at8 t b):Int))=(dT p t a b:Int)+(co (at8 p a) (at8 t b):Int):=ah7 _ (by omega);clear R L U I;generalize dT p t i j=X at *;generalize dT p t a j=Z at *;generalize dT p t a b=Y at *;generalize co (at8 p a) (at8 t b)=C at *;by_cases J:X=Y+C
   ·have D:Hid (letter p t i j=77):=laid (by unfold letter;rw[H.out,decide_eq_true J];rfl);have l:((X:Int)==(Y:Int)+(C:Int))=true:=by simp;omega
    clear H K J
    go_enter aiC,aiy
    go_wp2_with fail
    go_quiet((go_at_call 165;refine(A.out _).mono ?_;rintro e N ⟨rfl,rfl⟩;exact⟨rfl,_,rfl⟩))
    go_wp2
    go_ret
    exact⟨by rw[D.out];rfl,_,rfl⟩
   ·have l:((X:Int)==(Y:Int)+(C:Int))=false:=by simp;omega
    by_cases P:X=Z+1
    ·have D:Hid (letter p t i j=73):=laid (by unfold letter;rw[H.out,decide_eq_false J,K.out,decide_eq_true P];rfl);have M:((X:Int)==(Z:Int)+1)=true:=by simp;omega
     clear H K J P
     go_enter aiC,aiy
     go_wp2_with fail
     go_quiet((go_at_call 165;refine(A.out _).mono ?_;rintro e N ⟨rfl,rfl⟩;exact⟨rfl,_,rfl⟩))
     go_wp2_with fail
     go_quiet(fail)
     rw[aiu];go_wp2
     go_ret
     exact⟨by rw[D.out];rfl,_,rfl⟩
    ·have D:Hid (letter p t i j=68):=laid (by unfold letter;rw[H.out,decide_eq_false J,K.out,decide_eq_false P];rfl);have M:((X:Int)==(Z:Int)+1)=false:=by simp;omega
     clear H K J P
     go_enter aiC,aiy
     go_wp2_with fail
     go_quiet((go_at_call 165;refine(A.out _).mono ?_;rintro e N ⟨rfl,rfl⟩;exact⟨rfl,_,rfl⟩))
     go_wp2_with fail
     go_quiet(fail)
     rw[aiu];go_wp2
     go_ret
     exact⟨by rw[D.out];rfl,_,rfl⟩
theorem kR.below{B n:Nat}{p:ByteArray}{v:Value}(h:kR w B p t v n g)(hb:Below w.heap.size w w'):kR w' B p t v n g:=by
 refine⟨iW h.own hb,fun x K=>?_,h.base⟩;have hr:=h.rows x K;have Y:=hr.lt;unfold qX at *;rw[hb.block _ Y];exact hr
theorem Sv:(Tryz.prog.info? 5).map (fun i=>(i.zero,i.size,i.bytes))=some (some (.int .u8 0),1,1):=by kernel_rfl
theorem B8{p:ByteArray}{i:Nat}{L:List _}(H:¬(i=0/\j=0))(h:cV p t (i+j) i j++L.reverse=cu p t):
  (letter p t i j=77/\0<i/\0<j/\cV p t (i-1+(j-1)) (i-1) (j-1)++(L++[77]).reverse=cu p t)\/
  (letter p t i j=73/\0<i/\cV p t (i-1+j) (i-1) j++(L++[73]).reverse=cu p t)\/
  (letter p t i j=68/\0<j/\cV p t (i+(j-1)) i (j-1)++(L++[68]).reverse=cu p t):=by
 simp;unfold letter;by_cases Y:E_ p t i j=true
 ·have:=ss Y;exact .inl ⟨if_pos Y,this.1,this.2.1,QO Y h⟩
 ·rw[aiA]at Y;by_cases K:Cp p t i j=true
  ·exact .inr (.inl ⟨by simp_all,(su K).1,QP Y K h⟩)
  ·rw[aiA]at K;exact .inr (.inr ⟨by simp_all,oK K H,QQ H Y K h⟩)
theorem Is{C:Array _}{L:List _}{g cap:Nat}(H:L.length<=cap)(hC:C.size=cap *1)(U:C.toList.take (L.length *1)=L.map bv)(A:w.heap[g]?=some (.cells (F7 C L.length L.length) 5 (0,0))):
  ∀j D,w.cell? ((⟨g,0,none⟩:Addr).add j)=some (.int .u8 (L.reverse[j].toNat)):=by
 intro j D;have Y:=by simpa using D
 rw[jy,cell_of_row w g j _ _ _ A,ku C _ _ j (by omega),if_pos ⟨Y,.inl Y⟩];have B:L.length-1-j<C.size:=by omega
 have K:C.toList[L.length-1-j]?=(L.map bv)[L.length-1-j]?:=by
  rw[<-U,aiF,if_pos (by omega)]
 rw[ais,ah3 (by omega:L.length-1-j<L.length),ah3 (by omega)]at K;have R:=Option.some.inj K;rw[Array.getD,dif_pos B];have I:=by simpa using R
 show some (C[L.length-1-j])=_
 rw[I,List.getElem_reverse];rfl
theorem Iu(p t:ByteArray)(w:World)(hp:p.size<=100)(hp1:1<=p.size)(ht:t.size<=300):
  Calls Tryz.prog 126 #[.string p,.string t] w fun e w'=>e=.returned (.string (str (cu p t)))/\Below w.heap.size w w':=by
 obtain⟨i0,hi,Z,E,W⟩:=info_parts Sv
 go_enter Tryz.func126,Tryz.ntmps126
 go_wp2_with fail
 refine(wW p t _ hp ht).mono ?_;rintro e w1 ⟨v,g,rfl,S,X⟩;have z:=laid S;clear S;go_wp2
 go_loopw [6,7,8] (fun sv iv jv wr=>∃(i j:Nat) (L:List UInt8),iv=.int .i64 (i:Int)/\jv=.int .i64 (j:Int)/\i<=p.size/\j<=t.size/\L.length+i+j<=p.size+t.size/\p.size<=i+L.length/\Hid (cV p t (i+j) i j++L.reverse=cu p t)/\wr.ownsRow w1.heap.size 5 1 sv L.length (L.map bv)/\Below w1.heap.size w1 wr) (fun _ iv jv _=>(intOf iv).toNat+(intOf jv).toNat)
 case atStart=>exact⟨p.size,t.size,[],rfl,rfl,ah4 _,ah4 _,by simp,by simp,laid (by simp[cu]),ai2 _ _ _ _,ah8 _ _⟩
 case round=>
  obtain⟨i,j,L,rfl,rfl,hip,hjt,hlen,Yb,HL,I,R⟩:=hrel;by_cases c:i=0/\j=0
  ·obtain⟨rfl,rfl⟩:=c;have HF:Hid (L.reverse=cu p t):=laid (by rw[<-HL.out];rfl);rcases I.2 with⟨_,h1⟩|⟨G,cap,cur,rfl,hG1,y,m,hG4,n,f⟩
   ·omega
   ·have HC:=laid (⟨m,n,f⟩:L.length<=cap/\cur.size=cap *1/\cur.toList.take (L.length *1)=L.map bv);have s:=laid (rK cur G L.length cap (0,0) wr (by omega) (by omega) (fun k hk=>by simp) (fun x hx=>by
     refine⟨((L.getD x 0).toNat:Int),?_⟩;have Vs:x<cur.size:=by omega
     have e1:cur.toList[x]?=(L.map bv)[x]?:=by rw[<-f,aiF,if_pos (by omega)]
     rw[ais,ah3 hx,ah3 (by simpa using Vs)]at e1;have e2:=Option.some.inj e1;rw[Array.getD,dif_pos Vs];show cur[x]=_
     have e3:cur[x]=bv (L[x]):=by simpa using e2
     rw[e3,ah6,ah3 hx];rfl) y)
    have HB:=laid (X.trans (R.mono X.size));have HW:=laid X.size;clear HL z I y m n f X;go_wp2_with fail
    refine s.out.mono ?_;rintro e w2 ⟨⟨v2,rfl⟩,h2,b⟩;have l:(convert 79 9 (.slice (some ⟨G,0,none⟩) L.length cap)).run Tryz.prog w2=.ok (.string (str L.reverse)) w2:=by
     have:=run_convert_bytes_back (P:=Tryz.prog) w2 79 9 5 ⟨G,0,none⟩ cap L.reverse aie Tryz.underlying5 ai4 (Is HC.out.1 HC.out.2.1 HC.out.2.2 h2);rw[List.length_reverse]at this;exact this
    rw[HF.out]at l;have HB2:Hid (Below w.heap.size w w2):=laid (HB.out.grown b HB.out.size (fun k e=>by cases e;have:=HW.out;omega));clear s b h2 HC HF HB;go_wp2
    go_ret
    exact⟨rfl,HB2.out⟩
  ·have S:=z.out.below R;have O:=laid (zD p t w.heap.size v g i j wr hp ht hip hjt S);have hxi:ah9.wrap ((i:Int)-1)=(i:Int)-1:=ah7 _ (by omega);have hxj:ah9.wrap ((j:Int)-1)=(j:Int)-1:=ah7 _ (by omega);have key:=B8 c HL.out;have aaT:(letter p t i j=77/\0<i/\0<j/\Hid (cV p t (i-1+(j-1)) (i-1) (j-1)++(L++[77]).reverse=cu p t))\/(letter p t i j=73/\0<i/\Hid (cV p t (i-1+j) (i-1) j++(L++[73]).reverse=cu p t))\/(letter p t i j=68/\0<i/\0<j/\Hid (cV p t (i+(j-1)) i (j-1)++(L++[68]).reverse=cu p t))\/(letter p t i j=68/\i=0/\0<j/\Hid (cV p t (i+(j-1)) i (j-1)++(L++[68]).reverse=cu p t)):=by
    rcases key with h|h|h
    ·exact .inl h
    ·exact .inr (.inl h)
    ·by_cases hi9:0<i
     ·exact .inr (.inr (.inl ⟨h.1,hi9,h.2.1,h.2.2⟩))
     ·exact .inr (.inr (.inr ⟨h.1,by omega,h.2.1,h.2.2⟩))
   clear HL key z S c;rcases aaT with⟨Q,M,a,q⟩|⟨Q,M,q⟩|⟨Q,M,a,q⟩|⟨Q,M,a,q⟩
   ·have q1:(0:Int)<(i:Int):=by omega
    have J:Hid (Calls Tryz.prog 147 #[v,.string p,.string t,.int .i64 (i:Int),.int .i64 (j:Int)] wr fun e w'=>e=.returned (.int .u8 77)/\∃d,w'=wr.drewN d):=laid (by have:=O.out;rw[Q]at this;exact this);have r:decide ((0:Int)<(i:Int))=decide ((0:Int)<(i:Int)):=rfl;have F:=laid M;clear O Q r M;go_wp2_with fail
    refine J.out.mono ?_;rintro e w2 ⟨rfl,B⟩;have H:w2.ownsRow w1.heap.size 5 1 u6 L.length (L.map bv):=by obtain⟨d,rfl⟩:=B;exact I
    have Y:Below w1.heap.size w1 w2:=by obtain⟨d,rfl⟩:=B;exact Go.below_drewN R d
    clear J I B R;go_wp2_with(first
     |(at_builtin;refine wpList_append_own _ rfl _ _ 79 rfl w1.heap.size 5 i0 (.int .u8 0) 1 1 aie hi Z E W rfl (by decide) _ _ _ rfl (H.alloc _) ⟨w2.heap.size,0,none⟩ 1 1 [.int .u8 77] rfl rfl ?c1 ?c2 ?c3 ?c4 ?c5 ?_)
     |go_in)
    case c1=>
     intro j u C
     match j,C with
     |0,C=>simp at C;subst C;simp[Addr.add]
    case c2=>intro u hu;simp at hu;subst hu;rfl
    case c3=>unfold maxLen;omega
    case c4=>omega
    case c5=>have:=Y.size;simp;omega
    intro v' V K D _;have A:Below w1.heap.size w1 V:=(Y.alloc Y.size _).grown D (by have:=Y.size;simp;omega) (fun j C=>(H.lt j C).1);have U:V.ownsRow w1.heap.size 5 1 v' (L++[77]).length ((L++[77]).map bv):=by
     rw[ah2,ah_];exact K
    obtain⟨N,cap,T,rfl⟩:∃N cap T,v'=.slice (some ⟨N,0,none⟩) T cap:=by
     rcases K.2 with⟨_,c⟩|⟨N,cap,cur,o,_⟩
     ·omega
     ·exact⟨N,cap,_,o⟩
    clear K D H Y;go_wp2
    go_roundw
    case rel=>go_light;have:=F.out;exact⟨i-1,j-1,L++[77],bg (by omega),bg (by omega),by omega,by omega,by rw[ah2];simp;omega,by rw[ah2];simp;omega,q,U,A⟩
    case measure=>go_light;have:=F.out;simp[intOf];omega
   ·have q1:(0:Int)<(i:Int):=by omega
    have J:Hid (Calls Tryz.prog 147 #[v,.string p,.string t,.int .i64 (i:Int),.int .i64 (j:Int)] wr fun e w'=>e=.returned (.int .u8 73)/\∃d,w'=wr.drewN d):=laid (by have:=O.out;rw[Q]at this;exact this);have r:decide ((0:Int)<(i:Int))=decide ((0:Int)<(i:Int)):=rfl;have F:=laid M;clear O Q r M;go_wp2_with fail
    refine J.out.mono ?_;rintro e w2 ⟨rfl,B⟩;have H:w2.ownsRow w1.heap.size 5 1 u6 L.length (L.map bv):=by obtain⟨d,rfl⟩:=B;exact I
    have Y:Below w1.heap.size w1 w2:=by obtain⟨d,rfl⟩:=B;exact Go.below_drewN R d
    clear J I B R;go_wp2_with(first
     |(at_builtin;refine wpList_append_own _ rfl _ _ 79 rfl w1.heap.size 5 i0 (.int .u8 0) 1 1 aie hi Z E W rfl (by decide) _ _ _ rfl (H.alloc _) ⟨w2.heap.size,0,none⟩ 1 1 [.int .u8 73] rfl rfl ?c1 ?c2 ?c3 ?c4 ?c5 ?_)
     |go_in)
    case c1=>
     intro j u C
     match j,C with
     |0,C=>simp at C;subst C;simp[Addr.add]
    case c2=>intro u hu;simp at hu;subst hu;rfl
    case c3=>unfold maxLen;omega
    case c4=>omega
    case c5=>have:=Y.size;simp;omega
    intro v' V K D _;have A:Below w1.heap.size w1 V:=(Y.alloc Y.size _).grown D (by have:=Y.size;simp;omega) (fun j C=>(H.lt j C).1);have U:V.ownsRow w1.heap.size 5 1 v' (L++[73]).length ((L++[73]).map bv):=by
     rw[ah2,ah_];exact K
    obtain⟨N,cap,T,rfl⟩:∃N cap T,v'=.slice (some ⟨N,0,none⟩) T cap:=by
     rcases K.2 with⟨_,c⟩|⟨N,cap,cur,o,_⟩
     ·omega
     ·exact⟨N,cap,_,o⟩
    clear K D H Y;go_wp2
    go_roundw
    case rel=>go_light;have:=F.out;exact⟨i-1,j,L++[73],bg (by omega),bg (by omega),by omega,by omega,by rw[ah2];simp;omega,by rw[ah2];simp;omega,q,U,A⟩
    case measure=>go_light;have:=F.out;simp[intOf];omega
   ·have q1:(0:Int)<(i:Int):=by omega
    have J:Hid (Calls Tryz.prog 147 #[v,.string p,.string t,.int .i64 (i:Int),.int .i64 (j:Int)] wr fun e w'=>e=.returned (.int .u8 68)/\∃d,w'=wr.drewN d):=laid (by have:=O.out;rw[Q]at this;exact this);have r:decide ((0:Int)<(i:Int))=decide ((0:Int)<(i:Int)):=rfl;have F:=laid M;clear O Q r M;go_wp2_with fail
    refine J.out.mono ?_;rintro e w2 ⟨rfl,B⟩;have H:w2.ownsRow w1.heap.size 5 1 u6 L.length (L.map bv):=by obtain⟨d,rfl⟩:=B;exact I
    have Y:Below w1.heap.size w1 w2:=by obtain⟨d,rfl⟩:=B;exact Go.below_drewN R d
    clear J I B R;go_wp2_with(first
     |(at_builtin;refine wpList_append_own _ rfl _ _ 79 rfl w1.heap.size 5 i0 (.int .u8 0) 1 1 aie hi Z E W rfl (by decide) _ _ _ rfl (H.alloc _) ⟨w2.heap.size,0,none⟩ 1 1 [.int .u8 68] rfl rfl ?c1 ?c2 ?c3 ?c4 ?c5 ?_)
     |go_in)
    case c1=>
     intro j u C
     match j,C with
     |0,C=>simp at C;subst C;simp[Addr.add]
    case c2=>intro u hu;simp at hu;subst hu;rfl
    case c3=>unfold maxLen;omega
    case c4=>omega
    case c5=>have:=Y.size;simp;omega
    intro v' V K D _;have A:Below w1.heap.size w1 V:=(Y.alloc Y.size _).grown D (by have:=Y.size;simp;omega) (fun j C=>(H.lt j C).1);have U:V.ownsRow w1.heap.size 5 1 v' (L++[68]).length ((L++[68]).map bv):=by
     rw[ah2,ah_];exact K
    obtain⟨N,cap,T,rfl⟩:∃N cap T,v'=.slice (some ⟨N,0,none⟩) T cap:=by
     rcases K.2 with⟨_,c⟩|⟨N,cap,cur,o,_⟩
     ·omega
     ·exact⟨N,cap,_,o⟩
    clear K D H Y;go_wp2
    go_roundw
    case rel=>go_light;have:=F.out;exact⟨i,j-1,L++[68],bg (by omega),bg (by omega),by omega,by omega,by rw[ah2];simp;omega,by rw[ah2];simp;omega,q,U,A⟩
    case measure=>go_light;have:=F.out;simp[intOf];omega
   ·obtain⟨q3,q1,q4⟩:(0:Int)<(j:Int)/\¬(0:Int)<(i:Int)/\¬0<i:=⟨by omega,by omega,by omega⟩;have J:Hid (Calls Tryz.prog 147 #[v,.string p,.string t,.int .i64 (i:Int),.int .i64 (j:Int)] wr fun e w'=>e=.returned (.int .u8 68)/\∃d,w'=wr.drewN d):=laid (by have:=O.out;rw[Q]at this;exact this);have r:decide ((0:Int)<(i:Int))=decide ((0:Int)<(i:Int)):=rfl;have F:=laid M;clear O Q r M;go_wp2_with fail
    refine J.out.mono ?_;rintro e w2 ⟨rfl,B⟩;have H:w2.ownsRow w1.heap.size 5 1 u6 L.length (L.map bv):=by obtain⟨d,rfl⟩:=B;exact I
    have Y:Below w1.heap.size w1 w2:=by obtain⟨d,rfl⟩:=B;exact Go.below_drewN R d
    clear J I B R;go_wp2_with(first
     |(at_builtin;refine wpList_append_own _ rfl _ _ 79 rfl w1.heap.size 5 i0 (.int .u8 0) 1 1 aie hi Z E W rfl (by decide) _ _ _ rfl (H.alloc _) ⟨w2.heap.size,0,none⟩ 1 1 [.int .u8 68] rfl rfl ?c1 ?c2 ?c3 ?c4 ?c5 ?_)
     |go_in)
    case c1=>
     intro j u C
     match j,C with
     |0,C=>simp at C;subst C;simp[Addr.add]
    case c2=>intro u hu;simp at hu;subst hu;rfl
    case c3=>unfold maxLen;omega
    case c4=>omega
    case c5=>have:=Y.size;simp;omega
    intro v' V K D _;have A:Below w1.heap.size w1 V:=(Y.alloc Y.size _).grown D (by have:=Y.size;simp;omega) (fun j C=>(H.lt j C).1);have U:V.ownsRow w1.heap.size 5 1 v' (L++[68]).length ((L++[68]).map bv):=by
     rw[ah2,ah_];exact K
    obtain⟨N,cap,T,rfl⟩:∃N cap T,v'=.slice (some ⟨N,0,none⟩) T cap:=by
     rcases K.2 with⟨_,c⟩|⟨N,cap,cur,o,_⟩
     ·omega
     ·exact⟨N,cap,_,o⟩
    clear K D H Y;go_wp2
    go_roundw
    case rel=>go_light;have:=F.out;exact⟨i,j-1,L++[68],bg (by omega),bg (by omega),by omega,by omega,by rw[ah2];simp;omega,by rw[ah2];simp;omega,q,U,A⟩
    case measure=>go_light;have:=F.out;simp[intOf];omega
theorem OK(a b:UInt8):ag a b=ag b a:=by
 unfold ag;by_cases h:a=b
 ·rw[h]
 ·have Y:(a==b)=false:=by simp_all
  have K:(b==a)=false:=by simpa using fun e=>h e.symm
  rw[Y,K];rfl
theorem uZ(t p:ByteArray):∀i j,vr t p i j=sT p t j i
 |0,0=>by simp[vr,sT]
 |0,j+1=>by simp[vr,sT]
 |i+1,0=>by simp[vr,xd,sT]
 |i+1,j+1=>by
  have Y:=uZ t p i j;have K:=uZ t p i (j+1);have H:=uZ t p (i+1) j;rw[sT,<-Y,<-K,<-H];simp only[vr];rw[xd];have e:co (at8 t i) (at8 p j)=cost p t j i:=by unfold co cost;rw[OK]
  omega
theorem oy(t p:ByteArray)(k e d:Nat):∀n,(e,d)∈bT t p k n↔1<=e/\e<=n/\d=vr t p e p.size/\d<=k
 |0=>by simp[bT];omega
 |n+1=>by
  have Y:=oy t p k e d n;rw[bT];split
  ·rename_i h;rw[aih,Y];simp only[air,Prod.mk.injEq];constructor
   ·rintro(⟨a,b,c,x⟩|⟨rfl,rfl⟩)
    ·omega
    ·omega
   ·rintro⟨a,b,c,x⟩;by_cases K:e<=n
    ·omega
    ·have:e=n+1:=by omega
     subst this;exact .inr ⟨rfl,c⟩
  ·rw[Y];constructor
   ·omega
   ·rintro⟨a,b,c,x⟩;by_cases K:e<=n
    ·omega
    ·have:e=n+1:=by omega
     subst this;omega
theorem Gj(X P:ByteArray)(k st x e d:Nat):(e,d)∈cT (x *st) (dE (dM X P k st x) P k) (dE (dM X P k st x) P k).length↔∃i,1<=i/\i<=(dM X P k st x).size/\e=i+x *st/\d=sT P (dM X P k st x) P.size i/\d<=k:=by
 unfold cT;rw[ai6,List.drop_length,List.append_nil,aiq];constructor
 ·rintro⟨⟨i,d'⟩,hm,he⟩;obtain⟨rfl,rfl⟩:=he;obtain⟨a,b,c,h⟩:=(oy _ _ _ _ _ _).1 hm;exact⟨i,a,b,rfl,by rw[<-uZ];exact c,h⟩
 ·rintro⟨i,a,b,rfl,c,h⟩;exact⟨(i,d),(oy _ _ _ _ _ _).2 ⟨a,b,by rw[uZ];exact c,h⟩,rfl⟩
theorem mc{P:ByteArray}{st:Nat}{t:Int}:∀n,x∈a_ P X k q st t n↔x<n/\looked P X k q st t x=true
 |0=>by simp[a_]
 |n+1=>by
  have K:x∈a_ P X k q st t n↔x<n/\looked P X k q st t x=true:=mc n;rw[a_];split
  ·rename_i h;rw[aih,K];simp only[air];constructor
   ·rintro(⟨a,b⟩|rfl)
    ·exact⟨by omega,b⟩
    ·exact⟨by omega,h⟩
   ·rintro⟨a,b⟩;by_cases Y:x<n
    ·exact .inl ⟨Y,b⟩
    ·exact .inr (by omega)
  ·rename_i h;rw[K];constructor
   ·rintro⟨a,b⟩;exact⟨by omega,b⟩
   ·rintro⟨a,b⟩;by_cases Y:x<n
    ·exact⟨Y,b⟩
    ·have:x=n:=by omega
     subst this;exact absurd b h
theorem LU(X P:ByteArray)(k q st x e d:Nat)(I:x *st<=X.size)(h:(e,d)∈cT (x *st) (dE (dM X P k st x) P k) (dE (dM X P k st x) P k).length):e<=X.size/\d<=k/\(bA P X k e).1<=d:=by
 obtain⟨i,D,R,rfl,Y,K⟩:=(Gj X P k st x e d).1 h;have H:(dM X P k st x).size=min (x *st+st+P.size+k) X.size-x *st:=by unfold dM;simp_all
 have he:i+x *st<=min (x *st+st+P.size+k) X.size:=by omega
 refine⟨by omega,K,?_⟩;have:=k_ P X k (x *st) _ _ (by omega) he (by omega) (by rw[show i+x *st-x *st=i by omega];show sT P (dM X P k st x) _ i<=k;omega);rw[show i+x *st-x *st=i by omega]at this;rw[Y];exact this
theorem EO(X P:ByteArray)(k q st e:Nat)(F:1<=q)(au:1<=st)(Y:e<=X.size)(hk:(bA P X k e).1<=k)(U:k<P.size):∃x∈a_ P X k q st (Ep P.size k q) (stretches X.size st),(e,(bA P X k e).1)∈cT (x *st) (dE (dM X P k st x) P k) (dE (dM X P k st x) P k).length:=by
 obtain⟨O,D,I⟩:=zB P X k st e au Y hk;obtain⟨b1,b2,M,b4⟩:=(mZ P X k e Y).2 hk;have B:=EH P X k q st (bA P X k e).2 e F au b1 Y (by omega);generalize L:(e-(P.size+k))/st=x at *;have A:0<e:=by
  rcases Nat.eq_zero_or_pos e with K|K
  ·exfalso;subst K;have H:(bA P X k 0).2=0:=by omega
   rw[H]at b2;have N:bM P (X.extract 0 0)=P.size:=by
    unfold bM;rw[show(X.extract 0 0).size=0 by rw[aia];omega];cases P.size<;>simp[dT]
   omega
  ·exact K
 have C:x *st<e:=by
  have hb:x *st<=e-(P.size+k):=by rw[<-L];exact aiE _ _
  omega
 refine⟨x,(mc _).2 ⟨(ie X.size st x au).1 (by omega),B⟩,?_⟩;rw[Gj];have J:(dM X P k st x).size=min (x *st+st+P.size+k) X.size-x *st:=by unfold dM;rw[aia];omega
 have R:e<=min (x *st+st+P.size+k) X.size:=D;exact⟨e-x *st,by omega,by omega,by omega,I.symm,hk⟩
end
section
open RowKit Maps
noncomputable def Qn:=match aiY.body with
 |some (.seq _ (.seq _ c))=>c
 |_=>.skip
def Yi(a0 a1 a3 a4:Value)(fl:Bool)(b5 b6 b8 b:Nat)(u:Nat->Value):=#[a0,a1,.bool fl,a3,a4,pt b5,pt b6,u 7,pt b8,u 9,.slice none 0 0,.map (some b),u 12,u 13,u 14,u 15,u 16,u 17,u 18,u 19,u 20,u 21,u 22,u 23,u 24,u 25,u 26,u 27,u 28,u 29,u 30,u 31,u 32,u 33,u 34,u 35,u 36,u 37,u 38,u 39,u 40,u 41,u 42,u 43,u 44,u 45,u 46,u 47,u 48,u 49,u 50,u 51,u 52,u 53,u 54,u 55,u 56,u 57,u 58,u 59,u 60,u 61,u 62,u 63,u 64,u 65,u 66,u 67,u 68,u 69,u 70,u 71,u 72]
def pL(X P rn rm:ByteArray)(fl:Bool)(st dd:Nat->Nat)(e:Nat):Pl:=
 ⟨rn,P,rm,fl,st e,dd e,str (nE (str (cu P (X.extract (st e) e)))),str (uH P (X.extract (st e) e) (str (cu P (X.extract (st e) e))))⟩
def si(p:Pl):Value:=.iface 158 p.val
theorem ij(p t:ByteArray):∀f i j,∀c∈cV p t f i j,c=77\/c=73\/c=68
 |0,i,j=>by simp[cV]
 |f+1,i,j=>by
  intro c Y;rw[cV]at Y;split at Y
  ·simp at Y
  ·split at Y
   ·rw[aih]at Y;rcases Y with Y|Y
    ·exact ij p t f _ _ c Y
    ·simp_all
   ·split at Y
    ·rw[aih]at Y;rcases Y with Y|Y
     ·exact ij p t f _ _ c Y
     ·simp_all
    ·rw[aih]at Y;rcases Y with Y|Y
     ·exact ij p t f _ _ c Y
     ·simp_all
theorem B9(p t:ByteArray):∀x,x<(str (cu p t)).size->at8 (str (cu p t)) x=77\/at8 (str (cu p t)) x=73\/at8 (str (cu p t)) x=68:=by
 intro x Y;rw[Ow,ah6,ah3 Y];exact ij p t _ _ _ _ (ai7 Y)
theorem Gk:(Tryz.prog.info? 136).map (fun i=>(i.zero,i.size,i.bytes))=some (some .nilIface,1,16):=by kernel_rfl
theorem Iv(X P rn rm XN:ByteArray)(fl:Bool)(es:List Nat)(st dd:Nat->Nat)(a0 a1 a3 a4:Value)(b5 b6 b8 b:Nat)(u:Nat->Value)(w:World)
  (hX:X.size<=200)(hP:P.size<=30)(hP1:1<=P.size)(hes:es.length<=1000)
  (h5:w.heap[b5]?=some (.cells #[.string XN,.string X] 68 (0,0)))(h6:w.heap[b6]?=some (.cells #[.string rn,.string P,.string rm] 131 (0,0)))
  (HS:Calls Tryz.prog 123 #[.func (.func 143) #[] #[.pointer (some ⟨w.heap.size,0,none⟩)]] (w.alloc (.cells #[.map (some b)] 166)) fun e w'=>∃v,e=.returned v/\w'.ownsRow w.heap.size 3 1 v es.length (es.map ox)/\Below w.heap.size w w')
  (HLK:∀W:World,W.heap[b]?=w.heap[b]?->∀e∈es,(Instr.lookup 166 (.map (some b)) (.int .i64 (e:Int)) false).run Tryz.prog W=.ok (.int .i64 (dd e:Int)) W)(hbl:b<w.heap.size)
  (HE:∀e∈es,e<=X.size/\dd e<=1000/\st e<=e/\bM P (X.extract (st e) e)<=dd e/\∀c,c<e-st e->dd e<bM P (X.extract (e-c) e))(t:bu w):
  Qn.wp Tryz.prog (bodyPost Tryz.prog aiY fun e w'=>∃v,e=.returned v/\w'.ownsRow w.heap.size 136 1 v es.length (es.map fun e=>si (pL X P rn rm fl st dd e))/\Below w.heap.size w w'/\(es=[]->v=.slice none 0 0)) ⟨Yi a0 a1 a3 a4 fl b5 b6 b8 b u,[]⟩ w:=by
 obtain⟨i0,hi,Mz,MA,MB⟩:=info_parts Gk;have HHS:=laid HS;have HHL:=laid HLK;have HHE:=laid HE;have HT:=laid t;have H5:=laid h5;have H6:=laid h6;have Xc:b5<w.heap.size:=(ah5.1 h5).1;have Xd:b6<w.heap.size:=(ah5.1 h6).1;clear HS HLK HE t h5 h6;obtain⟨Q,hQ⟩:∃Q,Q=(bodyPost Tryz.prog aiY fun e w'=>∃v,e=.returned v/\w'.ownsRow w.heap.size 136 1 v es.length (es.map fun e=>si (pL X P rn rm fl st dd e))/\Below w.heap.size w w'/\(es=[]->v=.slice none 0 0)):=⟨_,rfl⟩;rw[<-hQ];have HQ:=laid hQ;clear hQ;unfold Qn aiY Yi;dsimp only;simp only[pt];go_wp2_with fail
 refine(B2 _ _).mono ?_;rintro e w1 ⟨rfl,rfl⟩;go_wp2_with fail
 refine HHS.out.mono ?_;rintro e w2 ⟨v,rfl,M,hb2⟩;clear HHS;have aaV:=laid M;obtain⟨p28,c28,hv,Wt⟩:∃(p28:Option Addr) (c28:Nat),v=.slice p28 es.length c28/\Hid (∀i,i<es.length->∃g,p28=some ⟨g,0,none⟩/\g<w2.heap.size/\w2.cell? ⟨g,i,none⟩=some (.int .i64 ((es.getD i 0:Nat):Int))):=by
  rcases M.2 with⟨rfl,h0⟩|⟨g,cap,cur,rfl,hB,hg,hc1,hc2,hc3,hc4⟩
  ·exact⟨none,0,by rw[h0],laid fun i hi=>by omega⟩
  ·refine⟨some ⟨g,0,none⟩,cap,rfl,laid fun i hi=>⟨g,rfl,(ah5.1 hg).1,?_⟩⟩;have h:=(M.cells (g:=g) rfl) i (ox (es.getD i 0)) (by rw[ais,ah6,ah3 hi];rfl);rw[jy]at h;exact h
 subst hv;clear M aaV;have T:w.heap.size<=w2.heap.size:=hb2.size;go_wp2
 go_loopw [12,30] (fun rv iv wr=>∃i:Nat,iv=.int .i64 (i:Int)/\i<=es.length/\Hid (i=0->rv=.slice none 0 0)/\wr.ownsRow w2.heap.size 136 1 rv i ((es.take i).map fun e=>si (pL X P rn rm fl st dd e))/\Below w2.heap.size w2 wr) (fun _ iv _=>es.length-(intOf iv).toNat)
 case atStart=>exact⟨0,rfl,aic _,laid fun _=>rfl,by simpa using ai2 _ _ _ _,ah8 _ _⟩
 case round=>
  obtain⟨i,rfl,hil,HNL,L,R⟩:=hrel;have C:Below w.heap.size w wr:=hb2.trans (R.mono T);by_cases d:i<es.length
  ·obtain⟨g28,rfl,aaX,m⟩:=Wt.out i d;have hci:wr.cell? ⟨g28,i,none⟩=some (.int .i64 ((es.getD i 0:Nat):Int)):=by rw[R.cell (p:=⟨g28,i,none⟩) aaX];exact m
   have V:es.getD i 0∈es:=by rw[ah6,ah3 d];exact ai7 _
   have TE:Hid ((es.take (i+1)).map (fun e=>si (pL X P rn rm fl st dd e))=(es.take i).map (fun e=>si (pL X P rn rm fl st dd e))++[si (pL X P rn rm fl st dd (es.getD i 0))]):=laid (by
    rw[List.take_add_one,ah3 d,ah_,ah6,ah3 d];rfl)
   obtain⟨he1,he2,he3,he4,he5⟩:=HHE.out _ V;have hlk:=HHL.out wr (by rw[C.block b hbl]) _ V;generalize es.getD i 0=E at *;have I:=laid (And.intro he4 he5);clear he4 he5 m V;have b1:(i:Int)<(es.length:Int):=by omega
   have b2:(0:Int)<=(i:Int):=by omega
   have aaY:b5<wr.heap.size:=aik Xc C.size;have aaZ:b6<wr.heap.size:=aik Xd C.size;have k5:wr.heap[b5]?=some (.cells #[.string XN,.string X] 68 (0,0)):=by rw[C.block b5 Xc];exact H5.out
   have N:wr.heap[b6]?=some (.cells #[.string rn,.string P,.string rm] 131 (0,0)):=by rw[C.block b6 Xd];exact H6.out
   have c5:wr.cell? ⟨b5,1,none⟩=some (.string X):=by rw[cell_of_row wr _ 1 _ _ _ k5];rfl
   have c6:wr.cell? ⟨b6,1,none⟩=some (.string P):=by rw[cell_of_row wr _ 1 _ _ _ N];rfl
   have HSO:Hid (∀W:World,Calls Tryz.prog 125 #[.string X,.string P,.agg #[.int .i64 (E:Int),.int .i64 (dd E:Int)]] W fun r w'=>r=.returned (.int .i64 (st E:Int))/\Below W.heap.size W w'):=laid fun W=>by
    have:=B7 X P E (dd E) (E-st E) W hX (by omega) he1 he2 (by omega) (by rw[show E-(E-st E)=st E by omega];exact I.out.1) I.out.2;rw[show E-(E-st E)=st E by omega]at this;exact this
   have hF0:EN (wr.alloc (.cells #[.int .i64 (E:Int),.int .i64 (dd E:Int)] 173)) wr.heap.size E (dd E):=heap_alloc_new wr _;have HF0:=laid hF0;have HK5:=laid k5;have Wq:=laid N;clear hF0 k5 N I;go_wp2_with fail
   refine(HSO.out _).mono ?_;rintro e w3 ⟨rfl,z⟩;have D:Below wr.heap.size wr w3:=((ah8 _ _).alloc (ah4 _) _).trans (z.mono (by simp));have Vu:=HF0.out.below z (by simp);have Z:=iW L D;have B:=R.trans (D.mono R.size);have k5:w3.heap[b5]?=some (.cells #[.string XN,.string X] 68 (0,0)):=by rw[D.block b5 aaY];exact HK5.out
   have N:w3.heap[b6]?=some (.cells #[.string rn,.string P,.string rm] 131 (0,0)):=by rw[D.block b6 aaZ];exact Wq.out
   have d5:w3.cell? ⟨b5,1,none⟩=some (.string X):=by rw[cell_of_row w3 _ 1 _ _ _ k5];rfl
   have d6:w3.cell? ⟨b6,1,none⟩=some (.string P):=by rw[cell_of_row w3 _ 1 _ _ _ N];rfl
   have hbF:wr.heap.size<w3.heap.size:=by have:=z.size;simp at this;omega
   have n:b6<w3.heap.size:=by omega
   have l:=laid N;have HF3:=laid Vu;generalize wr.heap.size=s at *;clear z D L R HF0 HK5 Wq k5 N Vu c5 c6 HSO hlk hci;have s1:(st E:Int)<=(E:Int):=by omega
   have s2:(E:Int)<=(X.size:Int):=by omega
   have s3:(0:Int)<=(st E:Int):=by omega
   have s4:E<=X.size:=he1;have hAs:(X.extract (st E) E).size<=300:=by rw[aia];omega
   have HLD:=laid (fun W:World=>Iu P (X.extract (st E) E) W (by omega) hP1 hAs);have HRV:Hid (si (pL X P rn rm fl st dd E)=.iface 158 (.agg #[.string rn,.string P,.string rm,.bool fl,.int .i64 (st E:Int),.int .i64 (dd E:Int),.string (str (nE (str (cu P (X.extract (st E) E))))),.string (str (uH P (X.extract (st E) E) (str (cu P (X.extract (st E) E)))))])):=laid rfl;have hLs:(str (cu P (X.extract (st E) E))).size<=1000:=by rw[ak];have:=sW P (X.extract (st E) E);omega
   have HIR:Hid (∀W:World,bu W->Calls Tryz.prog 127 #[.string (str (cu P (X.extract (st E) E)))] W fun e w'=>e=.returned (.string (str (nE (str (cu P (X.extract (st E) E))))))/\Below W.heap.size W w'):=laid fun W hW=>EG _ W hLs hW;have HDF:Hid (∀W:World,bu W->Calls Tryz.prog 128 #[.string (str (cu P (X.extract (st E) E))),.string P,.string (X.extract (st E) E)] W fun e w'=>e=.returned (.string (str (uH P (X.extract (st E) E) (str (cu P (X.extract (st E) E))))))/\Below W.heap.size W w'):=laid fun W hW=>se P (X.extract (st E) E) _ W (by omega) (by omega) hLs (H7 P _) (B9 P _) hW;generalize str (uH P (X.extract (st E) E) (str (cu P (X.extract (st E) E))))=DF at *;generalize str (nE (str (cu P (X.extract (st E) E))))=RN at *;generalize str (cu P (X.extract (st E) E))=LL at *;generalize hA:X.extract (st E) E=A at *;go_wp2_with fail
   refine(HLD.out _).mono ?_;rintro e w4 ⟨rfl,U⟩;have q:=HF3.out.below U hbF;have K:=iW Z U;have H:=B.trans (U.mono B.size);have N:w4.heap[b6]?=some (.cells #[.string rn,.string P,.string rm] 131 (0,0)):=by rw[U.block b6 n];exact l.out
   have c0:w4.cell? ⟨b6,0,none⟩=some (.string rn):=by rw[cell_of_row w4 _ 0 _ _ _ N];rfl
   have c1:w4.cell? ⟨b6,1,none⟩=some (.string P):=by rw[cell_of_row w4 _ 1 _ _ _ N];rfl
   have c2:w4.cell? ⟨b6,2,none⟩=some (.string rm):=by rw[cell_of_row w4 _ 2 _ _ _ N];rfl
   have cF:=q.c1;have x:s<w4.heap.size:=aik hbF U.size;have J:b6<w4.heap.size:=aik n U.size;have y:Below w.heap.size w w4:=hb2.trans (H.mono T);have hT4:bu w4:=HT.out.on y;have un:∀{W:World},Below w4.drew.heap.size w4.drew W->Below w4.heap.size w4 W:=fun hW=>⟨hW.os,hW.tape,hW.output,hW.size,hW.block⟩;have HTW:Hid (∀W:World,W=w4.drew\/Below w4.drew.heap.size w4.drew W->bu W):=laid fun W hW=>by
    rcases hW with rfl|hW
    ·exact hT4
    ·exact hT4.on (un hW)
   have k:Hid (∀W:World,Below w4.drew.heap.size w4.drew W->W.cell? ⟨b6,0,none⟩=some (.string rn)/\W.cell? ⟨b6,1,none⟩=some (.string P)/\W.cell? ⟨b6,2,none⟩=some (.string rm)/\W.cell? ⟨s,1,none⟩=some (.int .i64 (dd E:Int))):=laid fun W hW=>⟨by rw[(un hW).cell (p:=⟨b6,0,none⟩) J];exact c0,by rw[(un hW).cell (p:=⟨b6,1,none⟩) J];exact c1,by rw[(un hW).cell (p:=⟨b6,2,none⟩) J];exact c2,by rw[(un hW).cell (p:=⟨s,1,none⟩) x];exact cF⟩;have Wp:Hid (∀(W1 S:World) (o:Obj),Below w4.drew.heap.size w4.drew W1->(W1.alloc o).grownBy S u12.ownBlock->S.cell? ⟨b6,0,none⟩=some (.string rn)/\S.cell? ⟨b6,1,none⟩=some (.string P)/\S.cell? ⟨b6,2,none⟩=some (.string rm)/\S.cell? ⟨s,1,none⟩=some (.int .i64 (dd E:Int))):=laid fun W1 S o hW hg=>by
    have hs:=(un hW).size;have e1:S.heap[b6]?=some (.cells #[.string rn,.string P,.string rm] 131 (0,0)):=by
     rw[hg.block b6 (by simp;omega) (fun e=>il K N (by decide) e.symm),heap_alloc_old W1 _ (by omega),(un hW).block b6 J];exact N
    have e2:S.heap[s]?=some (.cells #[.int .i64 (E:Int),.int .i64 (dd E:Int)] 173 (0,0)):=by
     rw[hg.block s (by simp;omega) (fun e=>il K q (by decide) e.symm),heap_alloc_old W1 _ (by omega),(un hW).block s x];exact q
    exact⟨by rw[cell_of_row S _ 0 _ _ _ e1];rfl,by rw[cell_of_row S _ 1 _ _ _ e1];rfl,by rw[cell_of_row S _ 2 _ _ _ e1];rfl,by rw[cell_of_row S _ 1 _ _ _ e2];rfl⟩
   have Wn:Hid (∀(W:World),Below w4.drew.heap.size w4.drew W->∀o:Obj,(W.alloc o).ownsRow w2.heap.size 136 1 u12 i ((es.take i).map fun e=>si (pL X P rn rm fl st dd e))):=laid fun W hW o=>(iW K (un hW)).alloc _;have Wo:Hid (∀(W:World),Below w4.drew.heap.size w4.drew W->∀o:Obj,w2.heap.size<=(W.alloc o).heap.size):=laid fun W hW o=>by have h1:=H.size;have h2:=(un hW).size;simp;omega
   have a:=laid H;have HR4:=laid K;clear U q K Z H B N un hT4 y HF3 l d5 d6 HLD C;go_wp2_with fail
   go_region_held3 (fun w'=>w'.cell? ⟨b6,0,none⟩=some (.string rn)/\w'.cell? ⟨b6,1,none⟩=some (.string P)/\w'.cell? ⟨b6,2,none⟩=some (.string rm)/\w'.cell? ⟨s,1,none⟩=some (.int .i64 (dd E:Int)))
    (first
     |go_keep
     |exact Wp.out _ _ _ (Y.trans (O.mono Y.size)) F
     |exact k.out _ (Y.trans (O.mono Y.size))
     |exact k.out _ Y)
    (first
     |(go_at_call 127;refine(HIR.out _ (HTW.out _ (.inl rfl))).mono ?_;rintro e w' ⟨rfl,Y⟩)
     |(go_at_call 128;refine(HDF.out _ (HTW.out _ (.inr Y))).mono ?_;rintro e f ⟨rfl,O⟩)
     |(refine step_append_lies _ rfl _ _ 133 rfl w2.heap.size 136 i0 .nilIface 1 16 Tryz.underlying133 hi Mz MA MB rfl (by decide) _ i _ rfl (Wn.out f (Y.trans (O.mono Y.size)) _) ⟨f.heap.size,0,none⟩ 1 1 [.iface 158 (.agg #[.string rn,.string P,.string rm,.bool fl,.int .i64 (st E:Int),.int .i64 (dd E:Int),.string RN,.string DF])] rfl rfl (aiD (heap_alloc_new f _)) (fun u hu=>by simp at hu;subst hu;rfl) (by omega) (by unfold maxLen;omega) (by omega) (Wo.out f (Y.trans (O.mono Y.size)) _) _ rfl ?_;intro g5 OG w6 G F Yg St))
   rename_i LH;clear LH;have aa9:Below w2.heap.size w2 w6:=by
    have h1:Below w4.heap.size w4 w':=⟨Y.os,Y.tape,Y.output,Y.size,Y.block⟩;have h2:=a.out.trans (h1.mono a.out.size);have h3:=h2.trans (O.mono h2.size);exact(h3.alloc h3.size _).grown F (by have:=h3.size;simp;omega) (fun j hj=>(HR4.out.lt j hj).1)
   have HR6:Hid (w6.ownsRow w2.heap.size 136 1 (.slice (some ⟨g5,0,none⟩) (i+1) OG) (i+1) ((es.take (i+1)).map fun e=>si (pL X P rn rm fl st dd e))):=laid (by
    rw[TE.out,HRV.out];exact G)
   clear G F Yg St Y O HIR HDF HTW k Wp Wn Wo a HR4 HRV TE c0 c1 c2 cF hA;go_wp2
   go_roundw
   case rel=>go_light;exact⟨i+1,by go_num,by omega,laid (fun h=>by omega),HR6.out,aa9⟩
   case measure=>go_light;simp[intOf];omega
  ·have hie:i=es.length:=by omega
   have HF:Hid (wr.ownsRow w.heap.size 136 1 u12 es.length (es.map fun e=>si (pL X P rn rm fl st dd e))):=laid (by
    have h:=jM L T;rw[hie,ai6]at h;exact h)
   have HNN:Hid (es=[]->u12=.slice none 0 0):=laid fun h=>HNL.out (by rw[hie,h];rfl);clear hie L HHL HHE HNL;go_wp2
   (try simp only[Exit.inBlock,Exit.then])
   rw[HQ.out];refine bodyPost_ret (results_tmp rfl _ _ _) rfl ?_;exact⟨_,rfl,HF.out,C,HNN.out⟩
end
namespace Ph
open Conc Ren
section
variable{P:Program}{Q:QT}{Z:Loc->Prop}{f:Frame}{l:List Frame}{w:World}
theorem aH.wX(m:Nat)(r:Frame)(hr:aY P m f l=(r,l))(k:∀w',aZ Z w w'->(∀b,b<w.heap.size->w'.heap[b]?=w.heap[b]?)->aH P Q Z r l w'):aH P Q Z f l w:=by
 refine aH.dt m fun w' Y K=>?_;simp_all
end
abbrev pM(XN X:ByteArray):Value:=.agg #[.string XN,.string X]
abbrev CK(rn P rm:ByteArray):Value:=.agg #[.string rn,.string P,.string rm]
def IX(b i:Nat):Value:=.pointer (some ⟨b,i,none⟩)
theorem aZ.at{B:Nat}(h:aZ Z w w')(Y:w.heap[B]?=some o)(K:jl Z B):w'.heap[B]?=some o:=(h.old B (ax Y) K).trans Y
section
variable{P:Program}{Q:QT}{Z:Loc->Prop}{f:Frame}{l:List Frame}{w:World}
theorem aH.reads{B:Nat}{es:Array _}(H:w.heap[B]?=some o)(au:∀w2,w2.heap[B]?=some o->stepG P true (G f l) w2=.go (G f1 l) w2 es)(K:∀e∈es,∃a:Addr,e=⟨.cell a,false,false⟩/\a.block=B)(I:jl Z B)(k:∀w',aZ Z w w'->aH P Q Z f1 l w'):aH P Q Z f l w:=by
 have D:=ax H;refine aH.tree (U:=fun _ _=>False) (S:=fun b=>b=B) (X:=fun _=>False) (Done:=fun S X f' l' w'=>X=(fun _=>False)/\f'=f1/\l'=l) (Tr.one fun w2 hr=>?_) (fun b h=>by simp_all) fun S' X' f' l' w' hd hk=>?_
 ·have Y:=((hr.kept B rfl).eq (fun i y=>y)).trans H;refine⟨_,_,_,_,_,_,au w2 Y,fj.toDid (U:=fun _ _=>False) (km fun e he=>?_),.stop ⟨rfl,rfl,rfl⟩⟩;obtain⟨a,rfl,R⟩:=K e he;simp_all
 ·obtain⟨rfl,rfl,rfl⟩:=hd;exact k w' (aZ.of hk)
theorem aH.write{B i:Nat}{v:Value}{c:Array _}{t:TypeId}(H:w.heap[B]?=some (.cells c t))(au:∀w2,w2.heap[B]?=some (.cells c t)->stepG P true (G f l) w2=.go (G f1 l) (w2.setCell ⟨B,i,none⟩ v) #[⟨.cell ⟨B,i,none⟩,true,false⟩])(I:jl Z B)
  (k:∀w',w'.heap[B]?=some (.cells (c.setIfInBounds i v) t)->(∀b,b<w.heap.size->b≠B->w'.heap[b]?=w.heap[b]?)->w.heap.size<=w'.heap.size->w'.tape=w.tape->j8 w'.os w.os->w'.output=w.output->aH P Q Z f1 l w'):aH P Q Z f l w:=by
 have R:=ax H;refine aH.tree (U:=fun _ _=>False) (S:=fun b=>b=B) (X:=fun b=>b=B) (Done:=fun S X f' l' w'=>w'.heap[B]?=some (.cells (c.setIfInBounds i v) t)/\f'=f1/\l'=l) (Tr.one fun w2 hr=>?_) (fun b h=>by simp_all) fun S' X' f' l' w' hd hk=>?_
 ·have Y:=((hr.kept B rfl).eq (fun i y=>y)).trans H;refine⟨_,_,_,_,_,_,au w2 Y,fj.toDid (U:=fun _ _=>False) (qE rfl rfl (fun _=>id) (ic v) fun e he=>?_),.stop ⟨cx Y,rfl,rfl⟩⟩;simp_all
 ·obtain⟨D,rfl,rfl⟩:=hd;exact k w' D (fun b hb K=>hk.kept b hb K) hk.grow hk.tape hk.env hk.output
end
section
variable[aj]{r:Rn}{v w:World}
theorem OB.plain{o':Obj}(h:OB r b o o')(Y:∀b,¬aj.ro b):O r o o':=by
 cases h with
 |same _ x=>exact x
 |ro _ y=>exact absurd y (Y _)
theorem LW{base G:Nat}{size:Nat}{sv E:Value}{n:Nat}{xs:List _}(h:v.ownsRow base e size sv n xs)(T:∀x∈xs,∀y,V r x y->y=x)(M:V r sv E)(hW:W r 0 v w)(U:∀b,¬aj.ro b)(hb:∀b b',r b=some b'->base<=b->G<=b'):w.ownsRow G e size E n xs:=by
 refine⟨h.1,?_⟩;rcases h.2 with⟨rfl,X⟩|⟨g,cap,cur,rfl,O,P,C,Q,F,J⟩
 ·cases M;simp_all
 ·cases M with
  |@slice a a' _ _ had=>
   obtain⟨b',o',s'⟩:=a';obtain⟨L,S,I⟩:=had;subst S I;obtain⟨o,o',B,N,R⟩:=hW.obj _ _ L;rw[P]at B;cases B;have R:=OB.plain R U
   ·cases R with
    |@cells _ K _ _ A=>
     refine .inr ⟨b',cap,K,rfl,hb _ _ L O,N,C,Q,A.size.symm.trans F,?_⟩;rw[<-J];apply ai1;intro i;by_cases D:i<n *size
     ·rw[aid D,aid D,aiB,aiB];have Y:i<cur.size:=by
       rw[F];exact aik D (Nat.mul_le_mul_right _ C)
      have H:=A.size▸Y;rw[aib Y,aib H];congr 1;refine T _ ?_ _ (A.at_ i _ _ (aib Y) (aib _));rw[<-J];refine List.mem_iff_getElem?.2 ⟨i,?_⟩;rw[aid D,aiB,aib Y]
     ·rw[ain (by simp;omega),ain (by simp;omega)]
theorem yc{k:IntKind}{n:Int}(h:V r (.int k n) y):y=.int k n:=by cases h;rfl
theorem LX{r0:Rn}(Y:∀b,¬aj.ro b)(hle:Le r0 r)(hk:Kept (Wr r0) (Wr r) w0 w){B:Nat}(hd:∀b,B<=b->r0 b=none){b':Nat}(h:r b=some b')(hb:B<=b):w0.heap.size<=b':=by
 rcases hk.may b' ⟨b,h,Y b⟩with⟨c,K,_⟩|y
 ·have:=r.inj c b b' (hle _ _ K) h;simp_all
 omega
end
def K4:FW:={bN:=fun f=>[48,75,76,77,78,99,115,134].contains f,Mw:=fun _=>false,rA:=fun _=>false,tX:=true}
theorem EP:t_ K4 Tryz.prog=true:=by decide+kernel
theorem ER:([48,75,76,77,78,99,115,134].all fun f=>pw K4 Tryz.prog Bu f)=true:=by decide+kernel
theorem LY(f:Nat)(h:K4.bN f=true):pw K4 Tryz.prog Bu f=true:=by
 have:f∈[48,75,76,77,78,99,115,134]:=by
  have:[48,75,76,77,78,99,115,134].contains f=true:=h;simp_all
 exact List.all_eq_true.1 ER f this
def oz:List Item->Prop:=fun _=>False
def pN:List Deferred->Prop:=fun _=>False
theorem Wu:@hI (K4.dY Tryz.prog Bv oe oz pN) Tryz.prog:=Ea (fun _ _ h=>h) _ qB EP LY (ze K4 _ _ _ _)
def bC(X P:ByteArray)(k q st:Nat):=a_ P X k q st (Ep P.size k q) (stretches X.size st)
theorem B_{Q:QT}{P:ByteArray}{st:Nat}(hX:X.size<=200)(hP:P.size<=30)(hk:k<=6)(O:1<=q)(U:q<=8)(S:1<=st)(C:st<=200)(D:PR.globals.size<=w.heap.size)
  (kk:∀v w',w'.ownsRow w.heap.size 3 1 v (bC X P k q st).length ((bC X P k q st).map ox)->aZ Z w w'->aH PR Q Z (c.finish v) cs w'):
  aH PR Q Z (Frame.enter PR 48 #[.string X,.string P,lT k q st] .normal) (c::cs) w:=by
 letI:aj:=K4.dY Tryz.prog Bv oe oz pN
 have Y:∀b,¬aj.ro b:=fun b h=>h;have H:∀b,jD (fun _=>False) b=none:=fun b=>by
  cases e:jD (fun _=>False) b with
  |none=>rfl
  |some c=>exact((jE.1 e).1).elim
 refine aH.call (r0:=jD (fun _=>False)) (v0:=w) Wu (fun _ h=>by cases h) (fun _ h=>h) (fun g h=>by cases h) (args:=#[.string X,.string P,lT k q st]) (R:=fun e w'=>∃v,e=.returned v/\w'.ownsRow w.heap.size 3 1 v (bC X P k q st).length ((bC X P k q st).map ox)) (fun T=>(zw X P k q st (tp w T) hX hP hk O U S C).mono fun e w' ⟨v,A,J,_⟩=>⟨v,A,J⟩) (fun e u ⟨v,h,_⟩=>⟨v,h⟩) (show K4.bN 48=true by decide) ⟨rfl,fun i x x' e e'=>?_⟩ (Dc Y D fun b h=>h.elim) (fun a h=>(mD.1 h).elim) ?_
 ·obtain rfl:=Option.some.inj (e.symm.trans e');have E:i<3:=by
   have:=(ah5.1 e).1;simpa using this
  have:i=0\/i=1\/i=2:=by omega
  rcases this with rfl|rfl|rfl<;>(simp at e;subst e)
  ·exact .string _
  ·exact .string _
  ·exact iK (n:=2) (by simp[lT,iv,fH])
 ·intro r v x x' w' hle M hW L K;obtain⟨y,F,I⟩:=L;cases F;refine kk x' w' (LW I (fun z V y F=>?_) M hW Y fun b b' A J=>LX Y hle K (B:=0) (fun b _=>H b) A (aic _)) ?_
  ·obtain⟨n,_,rfl⟩:=aiq.1 V;exact yc F
  ·exact⟨fun a N _=>K.kept a N (fun⟨b,hb,_⟩=>by rw[H b]at hb;cases hb),K.grow,K.tape,K.env,K.output⟩
section
variable{P:Program}{Q:QT}{Z:Loc->Prop}{f:Frame}{l:List Frame}{w:World}
theorem aH.still(au:∀w2,stepG P true (G f l) w2=.go (G f1 l) w2 #[])(k:∀w',aZ Z w w'->(∀a,a<w.heap.size->w'.heap[a]?=w.heap[a]?)->aH P Q Z f1 l w'):aH P Q Z f l w:=by
 refine aH.tree (U:=fun _ _=>False) (S:=fun _=>False) (Done:=fun S X f' l' w'=>X=(fun _=>False)/\f'=f1/\l'=l) (Tr.one fun w2 hr=>⟨_,_,_,_,_,_,au w2,(ay (U:=fun _ _=>False) _ _ w2).toDid,.stop ⟨rfl,rfl,rfl⟩⟩) (fun b h=>h.elim) fun S' X' f' l' w' hd hk=>?_;obtain⟨rfl,rfl,rfl⟩:=hd;exact k w' (aZ.of hk) fun a Y=>hk.kept a Y id
end
section
variable{main:Bool}{f:Frame}{cs:List Frame}
def OL(B:Nat)(a b c:Value)(w:World):World:=((w.setCell ⟨B,0,none⟩ a).setCell ⟨B,1,none⟩ b).setCell ⟨B,2,none⟩ c
theorem abb{B:Nat}{a b c x z:Value}{t:TypeId}(w:World)(h:w.heap[B]?=some (.cells #[x,y,z] t)):Env.Eff B w (OL B a b c w)/\(OL B a b c w).heap[B]?=some (.cells #[a,b,c] t):=by
 refine⟨mQ (mQ (ic _) (ic _)) (ic _),?_⟩;have Y:=cx (i:=0) (v:=a) h;have K:=cx (i:=1) (v:=b) Y;exact cx K
end
section
variable{main:Bool}{f:Frame}{cs:List Frame}
def OM(B:Nat)(a b:Value)(w:World):World:=(w.setCell ⟨B,0,none⟩ a).setCell ⟨B,1,none⟩ b
theorem abd{B:Nat}{a b x:Value}{t:TypeId}(w:World)(h:w.heap[B]?=some (.cells #[x,y] t)):Env.Eff B w (OM B a b w)/\(OM B a b w).heap[B]?=some (.cells #[a,b] t):=by
 refine⟨mQ (ic _) (ic _),?_⟩;have Y:=cx (i:=0) (v:=a) h;exact cx Y
end
end Ph
end Go.Proofs.YtdcjnhipenbcfaaGreatDoor
