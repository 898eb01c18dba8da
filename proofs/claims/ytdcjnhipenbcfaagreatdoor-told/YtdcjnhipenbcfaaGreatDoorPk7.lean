/-
  Own text. Part 7 of what the claim rests on.
-/
import Derived.Test.YtdcjnhipenbcfaaGreatDoorPk6
set_option linter.unusedVariables false
set_option linter.unusedSectionVars false
set_option linter.unusedSimpArgs false
set_option maxRecDepth 100000
set_option maxHeartbeats 16000000
open Bool renaming false_ne_true->ax
open ByteArray renaming size_extract->ay
open Go renaming cell_grown->af,cell_of_row->ah,World->ai,heap_alloc_new->aH,wp_region_quiet_grown->aI
open Go.Calls renaming grown_of->aj
open Go.IntKind renaming i64->ak
open Go.IntWalk renaming i64_in->ao
open Go.RowKit renaming Below->ae
open Int renaming tdiv_eq_ediv_of_nonneg->ar
open List renaming getElem?_eq_getElem->au,getD_eq_getElem?_getD->az,mem_map->aA
open Nat renaming lt_of_lt_of_le->aB,lt_succ_self->aD
namespace Go.Proofs.YtdcjnhipenbcfaaGreatDoor
variable {X p:ByteArray}{x:List UInt8}{i j k:Nat}
namespace Ph
open Conc Ren RowKit
def r9(en:Nat->Nat):Nat->Int
 |0=> -1
 |i+1=>en i
section
variable{w:ai}{u:Nat->Value}{X B M0 M1:ByteArray}{n N G C:Nat}{A:Nat->Nat->ByteArray}{f z a en st er:Nat->Nat}{sp tx:Nat->ByteArray}
theorem adm(hN:N<=1000)(hX:X.size<=100)(hB:B.size<=60)(hn:n<=100)(R:AM w G N A f z)(hG:G<w.heap.size)(T:Tl X B M0 M1 n N A f z a en st er sp tx)
  (hM:∀W,Calls PR 30 #[.int .i64 (B.size:Int)] W fun e w'=>e=.returned (.string M0)/\∃os,w'=Go.Sort.grow W os)(Z:∀W,Calls PR 33 #[.string M0] W fun e w'=>e=.returned (.string M1)/\w'=W):
  (cp [2,2,2,2,2,2,2,2,2,2,2,1] iz).wp PR (fun e a' v'=>e=.normal/\a'.defers=[]/\(∃l,a'.tmps=zJ (fun i=>a'.tmps.getD i undef) X B n l (.slice (some ⟨G,0,none⟩) N C))/\ae w.heap.size w v') ⟨zJ u X B n (-1) (.slice (some ⟨G,0,none⟩) N C),[]⟩ w:=by
 obtain⟨Q,hQ⟩:∃Q:Exit->Act->ai->Prop,Q=(fun e a' v'=>e=.normal/\a'.defers=[]/\(∃l,a'.tmps=zJ (fun i=>a'.tmps.getD i undef) X B n l (.slice (some ⟨G,0,none⟩) N C))/\ae w.heap.size w v'):=⟨_,rfl⟩;rw[<-hQ];have HQ:=laid hQ;have HR:=laid (fun(W:ai) (hB:ae w.heap.size w W)=>R.on hG hB);have HT:=laid T;have Vz:=laid hM;have VB:=laid Z;have HOT:=laid (fun W=>Zx B W (by omega));have HP:=laid abj;clear hQ R T hM Z;unfold iz Tryz.f8 zJ;simp only[Option.getD_some,cp];go_wp2
 go_loopw [17,18] (fun l i wr=>∃I:Nat,I<=N/\i=ii I/\l=ii (r9 en I)/\Hid (ae w.heap.size w wr)) (fun _ i _=>N-(intOf i).toNat)
 case atStart=>exact⟨0,by omega,rfl,rfl,laid (Below.refl _ _)⟩
 case round=>
  obtain⟨I,hI,rfl,rfl,L⟩:=hrel;by_cases D:I<N
  ·have j1:(I:Int)<(N:Int):=by omega
   obtain⟨c0,c1,c2,c3,c4,c5,c6,c7,c8⟩:=HR.out _ L.out I D;obtain⟨n0,n2⟩:=HT.out.nm I D;obtain⟨s2,j⟩:=HT.out.fl I D;obtain⟨p1,p2,p3,p4⟩:=HT.out.ps I D;obtain⟨t,k⟩:=HT.out.ba I D;have hle:=HT.out.le I D;have VC:=laid (HT.out.sD I D);have E:=laid (HT.out.hrb I D);have VD:=laid (HT.out.TL I D);rw[n0]at c0;rw[n2]at c2;have VE:(tx I).size=en I-a I:=by rw[<-p4,ay];omega
   have F:Hid (ae w.heap.size w (wr.alloc (.cells #[.string ⟨#[97]⟩,ii (f I),.string ⟨#[114]⟩,ii (z I),.string (A I 4),.string (A I 5),.string (A I 6),.string (A I 7),.string (A I 8)] 42))):=laid (L.out.alloc L.out.size _);have q1:((f I:Nat):Int).tdiv 16=((f I/16:Nat):Int):=by rw[ar (by omega)];omega
   have VF:f I<=272:=by rw[j];split<;>omega
   have g1:f I/16<=1000:=by omega
   have e0:((f I:Int)==4)=false:=by rw[beq_eq_false_iff_ne];rw[j];split<;>omega
   have x1:ak.wrap ((z I:Int)-1)=(a I:Int):=by rw[show(z I:Int)-1=(a I:Int) by omega];exact ao _ (by omega)
   have x2:ak.wrap ((a I:Int)+((tx I).size:Int))=(en I:Int):=by rw[show(a I:Int)+((tx I).size:Int)=(en I:Int) by omega];exact ao _ (by omega)
   have y0:(a I:Int)<=(en I:Int):=by omega
   have y1:¬(z I:Int)<1:=by omega
   have y2:¬(X.size:Int)<(en I:Int):=by omega
   have y3:¬(n:Int)<(er I:Int):=by omega
   have y5:(en I:Int)<=(X.size:Int):=by omega
   have c:f I/16%2=st I:=by rw[j];split<;>omega
   have VG:=laid p2;rcases(show st I=0\/st I=1 by omega)with J|J
   ·skip
    rw[J,if_pos rfl]at t k;rw[t]at c7 E F;rw[k]at c8 F;clear t k;have v1:(((f I/16%2:Nat):Int)==1)=false:=by rw[c,J];rfl
    have v3:((f I:Int)/16%2==1)=false:=by rw[<-v1];congr 1
    by_cases h0:0<I;obtain⟨y,hy⟩:∃y,I=y+1:=⟨I-1,by omega⟩;have q:=laid hy;have i0:(0:Int)<(I:Int):=by omega
    have b:y<N:=by omega
    have i1:ak.wrap ((I:Int)-1)=(y:Int):=by rw[show(I:Int)-1=(y:Int) by omega];exact ao _ (by omega)
    have i2:(y:Int)<(N:Int):=by omega
    obtain⟨_,d1,_⟩:=HR.out _ F.out y b;obtain⟨_,d2,_⟩:=HR.out _ L.out y b;have r:G<wr.heap.size:=aB hG L.out.size;obtain⟨t2,x⟩:=HT.out.fl y b;have q2:((f y:Nat):Int).tdiv 16=((f y/16:Nat):Int):=by rw[ar (by omega)];omega
    have tb:f y<=272:=by rw[x];split<;>omega
    have g2:f y/16<=1000:=by omega
    have g:f y/16%2=st y:=by rw[x];split<;>omega
    have p:=laid (HT.out.up y (by omega));have e9:((f I:Int) != 256)=false:=by rw[j,J,if_pos h0];rfl
    clear hy x;by_cases d:st y=0;have v2:(((f y/16%2:Nat):Int)==1)=false:=by rw[g,d];rfl
    have v4:((f y:Int)/16%2==1)=false:=by rw[<-v2];congr 1
    have m:¬(en I:Int)<=r9 en I:=by have h1:=p.out (by rw[<-q.out,J,d]);rw[q.out,r9,<-q.out];rw[<-q.out]at h1;omega
    clear d g
    rotate_left
    have v2:(((f y/16%2:Nat):Int)==1)=true:=by rw[g,show st y=1 by omega];rfl
    have v4:((f y:Int)/16%2==1)=true:=by rw[<-v2];congr 1
    have m:¬(en I:Int)<= -1:=by omega
    clear d g
    rotate_left
    have i0:¬(0:Int)<(I:Int):=by omega
    have e9:((f I:Int) != 0)=false:=by rw[j,J,if_neg h0];rfl
    have m:¬(en I:Int)<=r9 en I:=by rw[show I=0 by omega,r9];omega
    rotate_left
    all_goals
     as_aux_lemma=>
      clear j J c;go_wp2_with fail
      refine(HP.out _ (by first|exact g1|(rw[q1];exact g1)) _).mono ?_;rintro e w1 ⟨rfl,rfl⟩;go_wp2_with fail
      try(refine(HP.out _ (by first|exact g2|(rw[q2];exact g2)) _).mono ?_;rintro e w3 ⟨rfl,rfl⟩;go_wp2_with fail)
      refine(VC.out _).mono ?_;rintro e w4 ⟨rfl,rfl⟩;go_wp2_with fail
      refine(E.out _).mono ?_;rintro e Y ⟨rfl,rfl⟩;go_wp2_with fail
      refine(VD.out _).mono ?_;rintro e w6 ⟨rfl,rfl⟩;go_wp2_with fail
      obtain⟨Y,b5,V,P,H,O⟩:∃(Y:ai) (b5:Nat),wr.alloc (.cells #[.string ⟨#[97]⟩,ii (f I),.string ⟨#[114]⟩,ii ((a I:Int)+1),.string (A I 4),.string (A I 5),.string (A I 6),.string B,.string M0] 42)=Y/\wr.heap.size=b5/\Y.heap[b5]?=some (.cells #[.string ⟨#[97]⟩,ii (f I),.string ⟨#[114]⟩,ii ((a I:Int)+1),.string (A I 4),.string (A I 5),.string (A I 6),.string B,.string M0] 42)/\ae w.heap.size w Y:=⟨_,_,rfl,rfl,aH wr _,L.out.alloc L.out.size _⟩;rw[V,P];have a0:Y.cell? ⟨b5,0,none⟩=some (.string ⟨#[97]⟩):=by rw[ah Y _ 0 _ _ _ H];rfl
      have a2:Y.cell? ⟨b5,2,none⟩=some (.string ⟨#[114]⟩):=by rw[ah Y _ 2 _ _ _ H];rfl
      have a8:Y.cell? ⟨b5,8,none⟩=some (.string M0):=by rw[ah Y _ 8 _ _ _ H];rfl
      have U:b5<Y.heap.size:=jI H;have M:=laid O;clear H O V P c0 c1 c2 c3 c4 c5 c6 c7 c8;try clear d1 d2 r
      clear q1 VF g1 e0 x1 x2 y0 y1 y2 y3 y5 v1 v3 e9 m n0 n2 p1 p2 p3 p4 hle VE;have o:Hid (w.heap.size<=Y.heap.size):=laid M.out.size;have k0:=af U a0;have k2:=af U a2;have k8:=af U a8;clear a0 a2 a8;have s:PR.follows .mixedOrders=true:=by kernel_rfl
      refine aI (by assumption) (by kernel_rfl) (WQ.out ?_)
      iterate 32
       refine WQ.step (fun K Z=>?_);first
        |rw[if_pos (by rfl)]
        |rw[if_neg (by exact ax)]
       go_simp
       first
        |refine Z _ ?_
        |(apply Exists.intro
          refine⟨fun _=>?_,Z _ ?_⟩
          ·first
            |(go_at_call 30;exact aj ((Vz.out _).mono fun e w' h=>⟨h.1,0,h.2⟩))
            |(go_at_call 33;exact aj ((VB.out _).mono fun e w' h=>⟨h.1,0,#[],by rw[h.2,Go.Sort.grow_empty];rfl⟩)))
       clear Z K
      refine⟨wpQuiet_nil ?_⟩;intro _ v;obtain⟨⟨nq,osq⟩,S⟩:=v;subst S;clear s k0 k2 k8;go_wp2
      go_roundw
      case rel=>go_light;exact⟨I+1,by omega,by go_num,ij (by have:=VG.out;show _=((en I:Nat):Int);omega),laid (below_grow M.out o.out _ _)⟩
      case measure=>go_light;simp[intOf];omega
   ·skip
    rw[J,if_neg (by decide)]at t k;rw[t]at c7 E F;rw[k]at c8 F;clear t k;have v1:(((f I/16%2:Nat):Int)==1)=true:=by rw[c,J];rfl
    have v3:((f I:Int)/16%2==1)=true:=by rw[<-v1];congr 1
    by_cases h0:0<I;obtain⟨y,hy⟩:∃y,I=y+1:=⟨I-1,by omega⟩;have q:=laid hy;have i0:(0:Int)<(I:Int):=by omega
    have b:y<N:=by omega
    have i1:ak.wrap ((I:Int)-1)=(y:Int):=by rw[show(I:Int)-1=(y:Int) by omega];exact ao _ (by omega)
    have i2:(y:Int)<(N:Int):=by omega
    obtain⟨_,d1,_⟩:=HR.out _ F.out y b;obtain⟨_,d2,_⟩:=HR.out _ L.out y b;have r:G<wr.heap.size:=aB hG L.out.size;obtain⟨t2,x⟩:=HT.out.fl y b;have q2:((f y:Nat):Int).tdiv 16=((f y/16:Nat):Int):=by rw[ar (by omega)];omega
    have tb:f y<=272:=by rw[x];split<;>omega
    have g2:f y/16<=1000:=by omega
    have g:f y/16%2=st y:=by rw[x];split<;>omega
    have p:=laid (HT.out.up y (by omega));have e9:((f I:Int) != 272)=false:=by rw[j,J,if_pos h0];rfl
    clear hy x;by_cases d:st y=1;have v2:(((f y/16%2:Nat):Int)==1)=true:=by rw[g,d];rfl
    have v4:((f y:Int)/16%2==1)=true:=by rw[<-v2];congr 1
    have m:¬(en I:Int)<=r9 en I:=by have h1:=p.out (by rw[<-q.out,J,d]);rw[q.out,r9,<-q.out];rw[<-q.out]at h1;omega
    clear d g
    rotate_left
    have v2:(((f y/16%2:Nat):Int)==1)=false:=by rw[g,show st y=0 by omega];rfl
    have v4:((f y:Int)/16%2==1)=false:=by rw[<-v2];congr 1
    have m:¬(en I:Int)<= -1:=by omega
    clear d g
    rotate_left
    have i0:¬(0:Int)<(I:Int):=by omega
    have e9:((f I:Int) != 16)=false:=by rw[j,J,if_neg h0];rfl
    have m:¬(en I:Int)<=r9 en I:=by rw[show I=0 by omega,r9];omega
    rotate_left
    all_goals
     as_aux_lemma=>
      clear j J c;go_wp2_with fail
      refine(HP.out _ (by first|exact g1|(rw[q1];exact g1)) _).mono ?_;rintro e w1 ⟨rfl,rfl⟩;go_wp2_with fail
      refine(HOT.out _).mono ?_;rintro e w2 ⟨rfl,rfl⟩;go_wp2_with fail
      try(refine(HP.out _ (by first|exact g2|(rw[q2];exact g2)) _).mono ?_;rintro e w3 ⟨rfl,rfl⟩;go_wp2_with fail)
      refine(VC.out _).mono ?_;rintro e w4 ⟨rfl,rfl⟩;go_wp2_with fail
      refine(E.out _).mono ?_;rintro e Y ⟨rfl,rfl⟩;go_wp2_with fail
      refine(VD.out _).mono ?_;rintro e w6 ⟨rfl,rfl⟩;go_wp2_with fail
      obtain⟨Y,b5,V,P,H,O⟩:∃(Y:ai) (b5:Nat),wr.alloc (.cells #[.string ⟨#[97]⟩,ii (f I),.string ⟨#[114]⟩,ii ((a I:Int)+1),.string (A I 4),.string (A I 5),.string (A I 6),.string (iA B 0),.string M1] 42)=Y/\wr.heap.size=b5/\Y.heap[b5]?=some (.cells #[.string ⟨#[97]⟩,ii (f I),.string ⟨#[114]⟩,ii ((a I:Int)+1),.string (A I 4),.string (A I 5),.string (A I 6),.string (iA B 0),.string M1] 42)/\ae w.heap.size w Y:=⟨_,_,rfl,rfl,aH wr _,L.out.alloc L.out.size _⟩;rw[V,P];have a0:Y.cell? ⟨b5,0,none⟩=some (.string ⟨#[97]⟩):=by rw[ah Y _ 0 _ _ _ H];rfl
      have a2:Y.cell? ⟨b5,2,none⟩=some (.string ⟨#[114]⟩):=by rw[ah Y _ 2 _ _ _ H];rfl
      have a8:Y.cell? ⟨b5,8,none⟩=some (.string M1):=by rw[ah Y _ 8 _ _ _ H];rfl
      have U:b5<Y.heap.size:=jI H;have M:=laid O;clear H O V P c0 c1 c2 c3 c4 c5 c6 c7 c8;try clear d1 d2 r
      clear q1 VF g1 e0 x1 x2 y0 y1 y2 y3 y5 v1 v3 e9 m n0 n2 p1 p2 p3 p4 hle VE;have o:Hid (w.heap.size<=Y.heap.size):=laid M.out.size;have k0:=af U a0;have k2:=af U a2;have k8:=af U a8;clear a0 a2 a8;have s:PR.follows .mixedOrders=true:=by kernel_rfl
      refine aI (by assumption) (by kernel_rfl) (WQ.out ?_)
      iterate 32
       refine WQ.step (fun K Z=>?_);first
        |rw[if_pos (by rfl)]
        |rw[if_neg (by exact ax)]
       go_simp
       first
        |refine Z _ ?_
        |(apply Exists.intro
          refine⟨fun _=>?_,Z _ ?_⟩
          ·first
            |(go_at_call 30;exact aj ((Vz.out _).mono fun e w' h=>⟨h.1,0,h.2⟩))
            |(go_at_call 33;exact aj ((VB.out _).mono fun e w' h=>⟨h.1,0,#[],by rw[h.2,Go.Sort.grow_empty];rfl⟩)))
       clear Z K
      refine⟨wpQuiet_nil ?_⟩;intro _ v;obtain⟨⟨nq,osq⟩,S⟩:=v;subst S;clear s k0 k2 k8;go_wp2
      go_roundw
      case rel=>go_light;exact⟨I+1,by omega,by go_num,ij (by have:=VG.out;show _=((en I:Nat):Int);omega),laid (below_grow M.out o.out _ _)⟩
      case measure=>go_light;simp[intOf];omega
  ·obtain rfl:I=N:=by omega
   have j1:¬(I:Int)<(I:Int):=by omega
   go_wp2
   rw[HQ.out];exact⟨rfl,rfl,⟨r9 en I,by kernel_rfl⟩,L.out⟩
end
end Ph
section
open RowKit
theorem OY{p X:ByteArray}{k:Nat}{h:Nat×Nat×Nat}:∀n,h∈lA p X k n->h.2.1<n/\h.1=(ib p X k h.2.1).2/\h.2.2=(ib p X k h.2.1).1/\h.2.2<=k
 |0,m=>by simp[lA]at m
 |e+1,m=>by
  have Y:=OY (p:=p) (X:=X) (k:=k) (h:=h) e;rw[lA]at m;split at m
  ·rename_i K;rcases List.mem_append.1 m with m|m
   ·have:=Y m;exact⟨by omega,this.2⟩
   ·obtain rfl:=List.mem_singleton.1 m;exact⟨aD _,rfl,rfl,K⟩
  ·have:=Y m;exact⟨by omega,this.2⟩
theorem OZ{h:Nat×Nat×Nat}(m:h∈iE p X k):iY p (X.extract h.1 h.2.1)=h.2.2:=by
 obtain⟨D,K,H,R⟩:=OY _ m;obtain⟨_,Y,_⟩:=(zZ p X k h.2.1 (by omega)).2 (by omega);rw[K,H];exact Y
theorem afv(x b:List UInt8)(n:Nat):(lz x b n).Pairwise fun q r=>r.1=q.1->q.2.2.1<r.2.2.1:=by
 have key:∀s,((iE (str (kT b s)) (str x) n).map (Prod.mk s)).Pairwise fun q r:xA=>r.1=q.1->q.2.2.1<r.2.2.1:=fun s=>by
  have h:=NR (str (kT b s)) (str x) n;unfold iZ at h;rw[List.pairwise_map]at h⊢;refine List.Pairwise.imp ?_ h;intro _ _ y _;exact y
 unfold lz;rw[List.pairwise_append];refine⟨key 0,key 1,fun q Y r hr e=>?_⟩;obtain⟨_,_,rfl⟩:=aA.1 Y;obtain⟨_,_,rfl⟩:=aA.1 hr;cases e
theorem ajd(K:∀c∈x,gS c)(Y:j<x.length):58<=(at8 (str x) j).toNat/\at8 (str x) j≠94:=by
 have e:at8 (str x) j=x[j]:=by rw[ny,az,au Y];rfl
 rw[e];rcases(K _ (List.getElem_mem Y)).cases with h|h|h|h|h<;>rw[h]<;>exact⟨by decide,by decide⟩
theorem QZ(b:List UInt8)(s:Nat):(kT b s).length=b.length:=by
 unfold kT;split
 ·rfl
 ·exact adi b
section
variable{x b:List UInt8}{n:Nat}
def hX(x b:List UInt8)(n i:Nat):xA:=(lz x b n).getD i (0,0,0,0)
theorem Je(Y:i<(lz x b n).length):(lz x b n)[i]?=some (hX x b n i):=by
 unfold hX;rw[az,au Y];rfl
theorem ahp(Y:lz x b n≠ []):qN x b n i=Ej x b i (hX x b n i):=by rw[qN,if_neg Y];rfl
theorem abk(T:∀c∈x,gS c)(q:x.length<=60+1)(E:b.length<=30)(Z:n<=6)(F:lz x b n≠ []):
  Ph.Tl (str x) (str b) (str (iy b.length)) (str (jP (str (iy b.length)))) n (nX x b n) (lp x b n) (fun i=>rC x b n i 1) (fun i=>rC x b n i 3) (fun i=>(hX x b n i).2.1) (fun i=>(hX x b n i).2.2.1) (fun i=>(hX x b n i).1) (fun i=>(hX x b n i).2.2.2) (fun i=>str (gO (str (kT b (hX x b n i).1)) ((str x).extract (hX x b n i).2.1 (hX x b n i).2.2.1))) (fun i=>(str x).extract (hX x b n i).2.1 (hX x b n i).2.2.1):=by
 have V:nX x b n=(lz x b n).length:=by rw[nX,if_neg F]
 have at_:∀i,i<nX x b n->hX x b n i∈lz x b n:=fun i Y=>List.mem_of_getElem? (Je (by omega));have K:∀i,i<nX x b n->((str x).extract (hX x b n i).2.1 (hX x b n i).2.2.1).size<=60/\∀j,j<((str x).extract (hX x b n i).2.1 (hX x b n i).2.2.1).size->58<=(at8 ((str x).extract (hX x b n i).2.1 (hX x b n i).2.2.1) j).toNat/\at8 ((str x).extract (hX x b n i).2.1 (hX x b n i).2.2.1) j≠94:=fun i Y=>by
  obtain⟨_,H,D,R,C⟩:=uD (at_ i Y);have S:=CJ _ _ n _ _ D (by rw[gR];exact R) (by rw[OZ H];exact C);rw[gR,QZ]at S;have G:((str x).extract (hX x b n i).2.1 (hX x b n i).2.2.1).size=(hX x b n i).2.2.1-(hX x b n i).2.1:=by rw[ay,gR];omega
  refine⟨by omega,fun j X=>?_⟩;rw[vu _ _ _ _ (by rw[gR];omega) (by omega)];exact ajd T (by omega)
 have row:∀i,qN x b n i=Ej x b i (hX x b n i):=fun i=>ahp F;have L:∀i,lp x b n i 0=str [97]:=fun i=>by unfold lp;rw[row];rfl
 have M:∀i,lp x b n i 2=str [114]:=fun i=>by unfold lp;rw[row];rfl
 have N:∀i,lp x b n i 4=str (nO (str (gO (str (kT b (hX x b n i).1)) ((str x).extract (hX x b n i).2.1 (hX x b n i).2.2.1)))):=fun i=>by unfold lp;rw[row];rfl
 have O:∀i,lp x b n i 5=str (gJ (hX x b n i).2.2.2):=fun i=>by unfold lp;rw[row];rfl
 have P:∀i,lp x b n i 6=str (jL (str (kT b (hX x b n i).1)) ((str x).extract (hX x b n i).2.1 (hX x b n i).2.2.1) (str (gO (str (kT b (hX x b n i).1)) ((str x).extract (hX x b n i).2.1 (hX x b n i).2.2.1)))):=fun i=>by unfold lp;rw[row];rfl
 have I:∀i,lp x b n i 7=(str (kT b (hX x b n i).1)):=fun i=>by unfold lp;rw[row];rfl
 have Q:∀i,lp x b n i 8=str (BT b (hX x b n i).1):=fun i=>by unfold lp;rw[row];rfl
 have M1:∀i,rC x b n i 1=tV (hX x b n i).1 i:=fun i=>by unfold rC;rw[row];rfl
 have J:∀i,rC x b n i 3=(hX x b n i).2.1+1:=fun i=>by unfold rC;rw[row];rfl
 have ol:∀s,(str (kT b s)).size=b.length:=fun s=>by rw[gR,QZ]
 refine⟨fun i Y=>⟨L i,M i⟩,fun i Y=>?_,fun i Y=>?_,fun i Y W=>?_,fun i Y W=>?_,fun i Y W=>?_,fun i Y=>?_,fun i Y=>?_,fun i Y e=>?_⟩
 ·obtain⟨B,_⟩:=uD (at_ i Y);exact⟨B,M1 i⟩
 ·obtain⟨_,_,D,R,_⟩:=uD (at_ i Y);exact⟨J i,D,R,rfl⟩
 ·rw[N i];exact Yf _ _ W (by rw[ol];omega) (K i Y).1
 ·rw[I i,P i];obtain⟨_,H,_⟩:=uD (at_ i Y);have:=Ye (str (kT b (hX x b n i).1)) ((str x).extract (hX x b n i).2.1 (hX x b n i).2.2.1) W (by rw[ol];omega) (by have:=(K i Y).1;omega) (K i Y).2;rw[OZ H]at this;exact this
 ·rw[O i];obtain⟨_,_,_,_,C⟩:=uD (at_ i Y);have hd:(hX x b n i).2.2.2<=9999:=by omega
  have:=NP (str (gJ (hX x b n i).2.2.2)) W (by rw[gR];have:=(mN _ hd).2;omega);rw[As hd]at this;exact this
 ·exact(uD (at_ i Y)).2.2.2.2
 ·have B:=(uD (at_ i Y)).1;refine⟨(I i).trans ?_,(Q i).trans ?_⟩
  ·show str (kT b (hX x b n i).1)=_
   unfold kT;split<;>rfl
  ·show str (BT b (hX x b n i).1)=_
   unfold BT;split<;>rfl
 ·have hr:=List.pairwise_iff_getElem.1 (afv x b n) i (i+1) (by omega) (by omega) (aD i);have A:=Je (x:=x) (b:=b) (n:=n) (i:=i) (by omega);have U:=Je (x:=x) (b:=b) (n:=n) (i:=i+1) (by omega);rw[au (by omega)]at A U;rw[Option.some.inj A,Option.some.inj U]at hr;exact hr e
end
end
end Go.Proofs.YtdcjnhipenbcfaaGreatDoor
