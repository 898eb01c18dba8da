/-
  Own text. Part 8 of what the claim rests on.
-/
import Derived.Deep.RegionHeld3
import Derived.Maps.RangeWalk
import Derived.Maps.OwnOps
import Derived.Maps.Views
import Derived.Lib.MinMax
import Derived.Sort.KeysCollected
import Derived.Lib.AppendIntMem
import Derived.Test.YtdcjnhipenbcfaaGreatDoorPk7
set_option linter.unusedVariables false
set_option linter.unusedSectionVars false
set_option linter.unusedSimpArgs false
set_option maxRecDepth 100000
set_option maxHeartbeats 16000000
open Array renaming getElem?_eq_getElem->aoG,getElem?_eq_some_iff->ao1,getElem_setIfInBounds_self->apf,ext->apg,getElem_setIfInBounds_ne->apj,replicate->apl,toList_append->apC,length_toList->apJ,ext'->apP,getElem_append->ap3,getD->aqP
open Bool renaming not_eq_true->aoV,not_eq_false'->aqp,noConfusion->aqG
open ByteArray renaming size_append->aoF,size_extract->aoQ,ext->ape,data_append->aph
open Go.Addr renaming add->ao_
open Go.Calls renaming quiet_of_same->ao8
open Go.IntKind renaming i64->ao4
open Go.IntWalk renaming i64_in->aoR,wrap64_in->aqt
open Go.Lib renaming indexByte->ao2,byteCells->apN,decDigits->ap5
open Go.Proofs.Tryz renaming prog->aoy,underlying9->aoS,ntmps45->aoU,underlying3->ao0,func45->ao5,underlying113->apa,ntmps53->api,func53->apL,results58->ap0,underlying121->ap7,ntmps89->aqe,ntmps58->aqi,ntmps57->aqn,underlying79->aqr,underlying25->aqv,func89->aqw,func58->aqD,func57->aqF,underlying5->aqI
open Go.RowKit.Below renaming refl->aoE,heap_alloc->apQ
open Go.Value renaming int->aqm
open Go.World renaming cell?_alloc_past->aoJ,drewN_drewN->aoP,cell?_alloc_at->apv
open List renaming length_append->aoz,getElem?_eq_getElem->aoD,countP_append->aoH,getD_eq_getElem?_getD->aoK,length_cons->aoX,drop_eq_getElem_cons->ao9,append_assoc->apd,mem_of_getElem?->apB,mem_singleton->apM,length_take->apX,append_nil->apY,length_nil->apZ,contains_iff_mem->ap1,getElem_of_mem->ap6,take_add_one->aqq,all_eq_false->aqs,getElem_mem->aqM,mem_append->aqU,length_map->aqV,map_append->aqX
open Nat renaming le_refl->aoC,zero_le->aoI,mul_le_mul->apK,lt_or_ge->apR,le_trans->aqd
open Option renaming map_some->aqN
open Option.some renaming inj->aoT
open UInt8 renaming toNat_ofNat'->aqk
open UInt8.toNat renaming inj->aqO
namespace Go.Proofs.YtdcjnhipenbcfaaGreatDoor
variable {bd t:Bool}{P X a a' b ref s xb xn:ByteArray}{c:Int}{xs:List Value}{B g i k m n p q x y z:Nat}{o:Obj}{e:TypeId}{v:Value}{w w' wr:World}
section
open RowKit
theorem UO{b:Nat}(h:wr.ownsRow b e k v n xs):∃a cap,v=.slice a n cap:=by
 rcases h.2 with⟨rfl,rfl⟩|⟨g,cap,cur,rfl,_⟩
 ·simp
 ·simp
theorem UP:(aoy.info? 118).map (fun i=>(i.zero,i.size,i.bytes))=some (some (.agg #[.string ⟨#[]⟩,.string ⟨#[]⟩,.string ⟨#[]⟩]),3,48):=by kernel_rfl
def xo(w:World)(R:Nat×Bool)(LR:List (ByteArray×ByteArray×ByteArray))(e:Ending)(w':World):Prop:=
 ∃V,e=.returned (.tuple #[V,.int .i64 (placeOf R)])/\Below w.heap.size w w'/\(R.2=false->w'.ownsRow (w.heap.size+1) 118 3 V LR.length (dv LR))
theorem rP{R:Nat×Bool}{LR:List (ByteArray×ByteArray×ByteArray)}(hR:R=(p,true))(hb:Below w.heap.size w w'):xo w R LR (.returned (.tuple #[.slice none 0 0,.int .i64 (p:Int)])) w':=by
 subst hR;exact⟨_,rfl,hb,fun h=>aqG h⟩
theorem A9{R:Nat×Bool}{LR:List (ByteArray×ByteArray×ByteArray)}{V:Value}(hR:R=(p,false))(hb:Below w.heap.size w w')(ho:w'.ownsRow (w.heap.size+1) 118 3 V LR.length (dv LR)):
  xo w R LR (.returned (.tuple #[V,.int .i64 (-1)])) w':=by
 subst hR;exact⟨_,rfl,hb,fun _=>ho⟩
theorem Cs(w:World)(s:ByteArray):ig w s (0,false) (.slice none 0 0) [] (w.alloc (.cells #[.string s,.int .i64 0,.bool false] 143)):=
 ⟨heap_alloc_new w _,(aoE _ _).alloc (aoC _) _,World.ownsRow_nil _ _ _ _⟩
theorem A_{L LR:List (ByteArray×ByteArray×ByteArray)}{R We:Nat×Bool}{NM B mk:ByteArray}
  (h1:bB (p,false) (bO s (5-L.length))=R)(h2:L++(if(p,false).2=true then []else aj s (5-L.length) (p,false).1)=LR)(h5:¬L.length=5)(hL:L.length<=5)(bR:p<s.size)(hp:p<=s.size)
  (hN:zJ s (Rl s p)=NM)(hB:zP s p=B)(aA:Pn s p=We)(hd:(q,bd)=bB We (db s mA B.size B.size))(hm:mk=B5 s B.size We):
  bB (bB (q,bd) (aI s 10)) (bO s (5-(L++[(NM,B,mk)]).length))=R/\(L++[(NM,B,mk)])++(if(bB (q,bd) (aI s 10)).2=true then []else aj s (5-(L++[(NM,B,mk)]).length) (bB (q,bd) (aI s 10)).1)=LR:=by
 have e6:(q,bd)=rs6 s p:=by unfold rs6;rw[hB,aA];exact hd
 have e7:bB (q,bd) (aI s 10)=ff s p:=by rw[<-KI s p hp,e6];rfl
 have hlen:(L++[(NM,B,mk)]).length=L.length+1:=by simp
 have apV:(NM,B,mk)=tD s p:=by unfold tD;rw[hN,hB,aA,hm]
 rw[e7,hlen];refine⟨yo (by omega) bR h1,?_⟩;rw[<-h2,apd];have:aj s (5-L.length) p=tD s p::(if(ff s p).2=true then []else aj s (5-(L.length+1)) (ff s p).1):=by
  rw[show 5-L.length=(5-(L.length+1))+1 by omega];simp only[aj];rw[if_neg (by omega)]
 rw[this,apV];rfl
theorem Ba{We:Nat×Bool}{B:ByteArray}{b:Nat}(bR:p<s.size)(hp:p<=s.size)(hB:zP s p=B)(aA:Pn s p=We)(hd:(q,bd)=bB We (db s mA B.size B.size))
  (hr:RF wr b s (bB (q,bd) (aI s 10)).1 (bB (q,bd) (aI s 10)).2):(bB (q,bd) (aI s 10)).1<=s.size/\kN wr b s.size<s.size-p+1:=by
 have e6:(q,bd)=rs6 s p:=by unfold rs6;rw[hB,aA];exact hd
 have e7:bB (q,bd) (aI s 10)=ff s p:=by rw[<-KI s p hp,e6];rfl
 rw[e7]at hr⊢;have hle:=GA s p hp;have hm:=A6 s p;generalize ff s p=st at *;obtain⟨p',b'⟩:=st;cases b' with
 |true=>have:=hr.zK s.size;omega
 |false=>
  have h1:=hr.jw s.size;have h2:=hm rfl hp;omega
theorem DI{b:Nat}(h:RF w b s p t)(h':RF w' b s p t):kN w' b n=kN w b n:=by
 unfold kN cj;rw[h.c2,h'.c2,h.c1,h'.c1]
theorem Bb{st:Nat×Bool}{v':Value}{L:List (ByteArray×ByteArray×ByteArray)}{n m:ByteArray}{w6 w7:World}(h:dP w s x st v L n b m w6)
  (aJ:w7.ownsRow (w.heap.size+1) 118 3 v' (L.length+1) (dv L++[.string n,.string b,.string m]))(hg:(w6.alloc o).grownBy w7 v.ownBlock):ig w s st v' (L++[(n,b,m)]) w7:=by
 obtain⟨⟨h1,h2,h3⟩,h4,h5,h6⟩:=h;have hb:w.heap.size<w6.heap.size:=by have:=block_lt_of_cell h1.c0;simpa using this
 have bj:some w.heap.size≠v.ownBlock:=by
  intro hh;have:=h3.lt w.heap.size hh.symm;omega
 refine⟨?_,?_,?_⟩
 ·unfold RF at *;rw[hg.block _ (by simp;omega) bj,apQ _ _ _ hb];exact h1
 ·refine(h2.alloc h2.size o).grown hg (by simp;have:=h2.size;omega) ?_;intro k hk;have:=h3.lt k hk;omega
 ·rw[zQ];simpa using aJ
theorem xp{L:List (ByteArray×ByteArray×ByteArray)}{n m:ByteArray}(h:dP w s x (p,t) v L n b m wr):dP w s x (p,true) v L n b m (wr.setCell ⟨w.heap.size,2,none⟩ (.bool true)):=by
 have hp:fD wr _ s (p,true) _:=⟨h.1.1.pa,aB wr _ 2 _⟩;exact h.step hp
theorem YB{L:List (ByteArray×ByteArray×ByteArray)}{n m:ByteArray}(h:dP w s x (p,t) v L n b m wr):dP w s x (p+1,t) v L n b m (wr.setCell ⟨w.heap.size,1,none⟩ (.int .i64 ((p:Int)+1))):=by
 have hp:fD wr _ s (p+1,t) _:=⟨h.1.1.put,aB wr _ 1 _⟩;exact h.step hp
theorem UQ{st:Nat×Bool}{L:List (ByteArray×ByteArray×ByteArray)}{n m:ByteArray}(h:dP w s x st v L n b m wr):dP w s x st v L n b m wr.drew:=
 ⟨⟨h.1.1,h.1.2.1.drew,h.1.2.2⟩,h.2⟩
theorem sW{b:Nat}{p':Nat}(h:RF w b s p false)(h':RF w' b s p' true):kN w' b n<kN w b n:=by
 rw[h'.zK,h.jw];omega
theorem IZ{b:Nat}(h:RF w b s p false)(h':RF w' b s (p+1) false)(hn:p<n):kN w' b n<kN w b n:=by
 rw[h'.jw,h.jw];omega
theorem qT(s:ByteArray)(w:World)(hs:s.size<=1000):
  Calls aoy 81 #[.string s] w fun e w'=>xo w (bO s 5 0) (aj s 5 0) e w':=by
 generalize hR:bO s 5 0=R;generalize hLR:aj s 5 0=LR;have HR:=laid hR;have HLR:=laid hLR;clear hR hLR;obtain⟨i0,hi,hz,hsi,ox⟩:∃i,aoy.info? 118=some i/\i.zero=some (.agg #[.string ⟨#[]⟩,.string ⟨#[]⟩,.string ⟨#[]⟩])/\i.size=3/\i.bytes=48:=by
  have h:=UP;rcases hi:aoy.info? 118 with _|i
  ·rw[hi]at h;cases h
  ·rw[hi]at h;simp only[aqN,Option.some.injEq,Prod.mk.injEq]at h;exact⟨i,rfl,h.1,h.2.1,h.2.2⟩
 have m0:=Cs w s
 go_enter Tryz.func81,Tryz.ntmps81
 go_wp2
 go_loopw [5] (fun v wr=>∃(L:List (ByteArray×ByteArray×ByteArray)) (st:Nat×Bool),L.length<=5/\st.1<=s.size/\ig w s st v L wr/\Hid (bB st (bO s (5-L.length))=R/\L++(if st.2=true then []else aj s (5-L.length) st.1)=LR)) (fun v wr=>kN wr w.heap.size s.size)
 case atStart=>exact⟨[],(0,false),by simp,by simp,m0,laid ⟨HR.out,HLR.out⟩⟩
 case round=>
  clear m0 HR HLR;obtain⟨L,⟨p,bad⟩,hL,hp,hm,HF⟩:=hrel;simp only at hp;have r0:=hm.1.c0;have r1:=hm.1.c1;have r2:=hm.1.c2;simp only at r1 r2;have aH:=hm.2.1;cases bad with
  |true=>
   have HE:=laid (show R=(p,true)from HF.out.1.symm);clear HF;go_wp2
   go_quiet(fail)
   go_wp2
   go_ret2
   exact rP HE.out (Go.below_drewN aH _)
  |false=>
   obtain⟨a,cap,rfl⟩:=UO hm.2.2;by_cases bR:p<s.size
   ·by_cases zR:L.length=5
    ·have HE:=laid (show R=(p,true) by rw[<-HF.out.1,zR];show bO s (5-5) p=_;simp only[Nat.sub_self,bO];rw[decide_eq_true bR]);clear HF;have Ka:((L.length:Int)==5)=true:=by rw[zR];rfl
     clear zR;go_wp2
     go_quiet(fail)
     go_wp2
     go_ret2
     exact rP HE.out (Go.below_drewN aH _)
    ·have Ka:((L.length:Int)==5)=false:=by simp;omega
     have OC:=laid zR;clear zR;have m0:=hm.adt;have apW:(wr.alloc (.cells #[.string ⟨#[]⟩,.string ⟨#[]⟩,.string ⟨#[]⟩] 118)).heap.size=wr.heap.size+1:=by simp
     have ai6:=laid (hm.1.jw s.size);go_wp2_with fail
     refine(nM _ _ s (p,false) _ 64 rfl m0.1.1 hs hp).mono ?_;rintro e w1 ⟨rfl,Zz⟩;have m1:=m0.step Zz;rw[fC rfl]at m1;have ns:(Rl s p).1<=s.size:=(dc s 64 p hp).2;clear m0 Zz hm aH r0 r1 r2 apW;simp only at m1;rw[show aI s 64 p=Rl s p from rfl]at m1;generalize wr.heap.size=X at *;go_wp2_with fail
     refine(Gs _ _ s (Rl s p) m1.1.1 hs ns).mono ?_;rintro e w2 ⟨rfl,ZA⟩;have m2:=m1.step ZA;have vG:(zN s p).1<=s.size:=(j7 s 64 p hp).2;rw[show bB (Rl s p) (j0 s)=zN s p from rfl]at m2;clear m1 ZA;have c0:=m2.2.1.c0;have f0:=m2.2.1.fz 0;generalize hNM:zJ s (Rl s p)=NM at *;have HNM:=laid hNM;clear hNM;have m3:=m2.Pd NM;clear m2;go_wp2_with fail
     refine(R4 _ _ s (zN s p) _ 30 rfl (by omega) m3.1.1 hs vG).mono ?_;rintro e w3 ⟨rfl,hp3⟩;have m4:=m3.step hp3;have hl3:(R9 s p).1<=s.size:=(dJ (p:=(zN s p).1) ⟨aoC _,vG⟩ fun q hq=>gX s 30 q hq).2;rw[show bB (zN s p) (bN s 30)=R9 s p from rfl]at m4;clear m3 hp3 c0 f0;have c1:=m4.2.1.c1;have f1:=m4.2.1.fz 1;rw[show Gt s 30 (zN s p)=zP s p from rfl];have hBz:(zP s p).size<=30:=by
      unfold zP Gt;split
      ·exact aoI _
      ·rw[qE s 30 _ vG];exact lN _ _ _
     have m5:=m4.Pe (zP s p);clear m4;go_wp2_with fail
     refine(nM _ _ s (R9 s p) _ 43 rfl m5.1.1 hs hl3).mono ?_;rintro e w4 ⟨rfl,hp4⟩;have m6:=m5.step hp4;have Nt:(R_ s p).1<=s.size:=(dJ (p:=(R9 s p).1) ⟨aoC _,hl3⟩ fun q hq=>dc s 43 q hq).2;rw[show bB (R9 s p) (aI s 43)=R_ s p from rfl]at m6;clear m5 hp4 c1 f1;go_wp2_with fail
     refine(nM _ _ s (R_ s p) _ 10 rfl m6.1.1 hs Nt).mono ?_;rintro e w5 ⟨rfl,hp5⟩;have m7:=m6.step hp5;have Nu:(Pn s p).1<=s.size:=(dJ (p:=(R_ s p).1) ⟨aoC _,Nt⟩ fun q hq=>dc s 10 q hq).2;rw[show bB (R_ s p) (aI s 10)=Pn s p from rfl]at m7;clear m6 hp5;generalize hB:zP s p=B at *;have HB:=laid hB;clear hB;generalize ai7:Pn s p=We at *;have YC:=laid ai7;clear ai7 ns vG hl3 Nt;go_wp2
     go_loopw [] (fun wi=>∃(q:Nat) (bd:Bool) (mk:ByteArray),dP w s X (q,bd) (.slice a L.length cap) L NM B mk wi/\Hid (kq s B.size We q bd mk)) (fun wi=>kN wi w.heap.size s.size)
     case atStart=>exact⟨We.1,We.2,⟨#[]⟩,m7,laid (IY _ _ _)⟩
     case round=>
      clear m7;obtain⟨q,bd,mk,mm,HM⟩:=hrel;have hms:=Mx HM.out Nu;have r0:=mm.1.1.c0;have r1:=mm.1.1.c1;have r2:=mm.1.1.c2;have rf1:=mm.1.1.fz 1;have rf2:=mm.1.1.fz 2;have x1:=mm.2.1.c1;have x2:=mm.2.1.c2;have xf2:=mm.2.1.fz 2;simp only at r1 r2;cases bd with
      |true=>
       have HD:=laid (A8 HM.out Nu (.inl rfl));go_wp2_with fail
       refine(nM _ _ s (q,true) _ 10 rfl mm.1.1 hs hms.2).mono ?_;rintro e w6 ⟨rfl,hp6⟩;have m8:=mm.step hp6;have HN:=laid (A_ (mk:=mk) HF.out.1 HF.out.2 OC.out hL bR hp HNM.out HB.out YC.out HD.out.1 HD.out.2);have YA:=laid (Ba (wr:=w6) (b:=w.heap.size) bR hp HB.out YC.out HD.out.1 m8.1.1);generalize bB (q,true) (aI s 10)=st7 at *;clear mm hp6 r0 r1 r2 rf1 rf2 x1 x2 xf2 HM HD HF;have y0:=m8.2.1.c0;have y1:=m8.2.1.c1;have y2:=m8.2.1.c2;have aJ:=m8.1.2.2;go_wp2_with(at_builtin;refine wpList_append_own _ rfl _ _ 121 rfl (w.heap.size+1) 118 i0 (.agg #[.string ⟨#[]⟩,.string ⟨#[]⟩,.string ⟨#[]⟩]) 3 48 ap7 hi hz hsi ox rfl (by decide) _ _ _ rfl (aJ.alloc _) ⟨w6.heap.size,0,none⟩ 1 1 [.string NM,.string B,.string mk] rfl rfl ?c1 ?c2 ?c3 ?c4 ?c5 ?_)
       case c1=>
        intro j u hj
        match j,hj with
        |0,hj=>simp at hj;subst hj;simp[ao_,go_sem]
        |1,hj=>simp at hj;subst hj;simp[ao_,go_sem]
        |2,hj=>simp at hj;subst hj;simp[ao_,go_sem]
       case c2=>intro u hu;simp at hu;rcases hu with rfl|rfl|rfl<;>rfl
       case c3=>unfold maxLen;omega
       case c4=>omega
       case c5=>have:=m8.1.2.1.size;have:=m8.1.1.c0;have:=block_lt_of_cell this;simp at *;omega
       intro v' w7 aW aD _;have m9:=Bb m8 aW aD;have HL9:=laid (DI (n:=s.size) m8.1.1 m9.1);clear aJ aW aD y0 y1 y2 m8 hi hz hsi ox Nu hms;go_wp2
       go_roundw
       case rel=>exact⟨L++[(NM,B,mk)],st7,by simp;have:=OC.out;omega,YA.out.1,m9,HN⟩
       case measure=>go_light;rw[ai6.out,HL9.out];exact YA.out.2
      |false=>
       by_cases vL:mk.size<B.size
       ·have HF2:=HF;clear HF;by_cases hqe:q<s.size
        ·by_cases h33:33<=(s[q].toNat:Int)
         ·by_cases ayk:(s[q].toNat:Int)<=126
          ·have QE:mA s[q]=true:=by unfold mA O_;simp;omega
           have HM2:=laid (My HM.out Nu vL hqe QE);clear QE;have Ku:ao4.wrap ((q:Int)+1)=(q:Int)+1:=aoR _ (by omega);have ry:(q:Int)+1<=(s.size:Int):=by omega
           have WB:(q:Int)<(s.size:Int):=by omega
           have hex:=mJ s q hqe;have hmz:mk.size<=30:=by omega
           have m10:=mm.R5 (mk++⟨#[s[q]]⟩);have t1:=m10.1.1.c1;have tf:=m10.1.1.fz 1;have m11:=UQ (YB m10);have HLT:=laid (IZ (n:=s.size) mm.1.1 m11.1.1 hqe);simp only at t1;go_wp2
           go_region
           all_goals
            go_wp2
            go_roundw
            case rel=>exact⟨q+1,false,mk++⟨#[s[q]]⟩,m11,HM2⟩
            case measure=>go_light;exact HLT.out
          ·have QE:mA s[q]=false:=by unfold mA O_;simp;omega
           have Wx:=laid (xl HM.out Nu vL (fun _=>QE));have I0:=xp mm;have HLT:=laid (sW (n:=s.size) mm.1.1 I0.1.1);go_wp2
           go_roundw
           case rel=>exact⟨q,true,mk,I0,Wx⟩
           case measure=>go_light;exact HLT.out
         ·have QE:mA s[q]=false:=by unfold mA O_;simp;omega
          have Wx:=laid (xl HM.out Nu vL (fun _=>QE));have I0:=xp mm;have HLT:=laid (sW (n:=s.size) mm.1.1 I0.1.1);go_wp2
          go_roundw
          case rel=>exact⟨q,true,mk,I0,Wx⟩
          case measure=>go_light;exact HLT.out
        ·have Wx:=laid (xl HM.out Nu vL (fun h=>absurd h hqe));have I0:=xp mm;have HLT:=laid (sW (n:=s.size) mm.1.1 I0.1.1);go_wp2
         go_roundw
         case rel=>exact⟨q,true,mk,I0,Wx⟩
         case measure=>go_light;exact HLT.out
       ·have HD:=laid (A8 HM.out Nu (.inr vL));go_wp2_with fail
        refine(nM _ _ s (q,false) _ 10 rfl mm.1.1 hs hms.2).mono ?_;rintro e w6 ⟨rfl,hp6⟩;have m8:=mm.step hp6;have HN:=laid (A_ (mk:=mk) HF.out.1 HF.out.2 OC.out hL bR hp HNM.out HB.out YC.out HD.out.1 HD.out.2);have YA:=laid (Ba (wr:=w6) (b:=w.heap.size) bR hp HB.out YC.out HD.out.1 m8.1.1);generalize bB (q,false) (aI s 10)=st7 at *;clear mm hp6 r0 r1 r2 rf1 rf2 x1 x2 xf2 HM HD HF;have y0:=m8.2.1.c0;have y1:=m8.2.1.c1;have y2:=m8.2.1.c2;have aJ:=m8.1.2.2;go_wp2_with(at_builtin;refine wpList_append_own _ rfl _ _ 121 rfl (w.heap.size+1) 118 i0 (.agg #[.string ⟨#[]⟩,.string ⟨#[]⟩,.string ⟨#[]⟩]) 3 48 ap7 hi hz hsi ox rfl (by decide) _ _ _ rfl (aJ.alloc _) ⟨w6.heap.size,0,none⟩ 1 1 [.string NM,.string B,.string mk] rfl rfl ?c1 ?c2 ?c3 ?c4 ?c5 ?_)
        case c1=>
         intro j u hj
         match j,hj with
         |0,hj=>simp at hj;subst hj;simp[ao_,go_sem]
         |1,hj=>simp at hj;subst hj;simp[ao_,go_sem]
         |2,hj=>simp at hj;subst hj;simp[ao_,go_sem]
        case c2=>intro u hu;simp at hu;rcases hu with rfl|rfl|rfl<;>rfl
        case c3=>unfold maxLen;omega
        case c4=>omega
        case c5=>have:=m8.1.2.1.size;have:=m8.1.1.c0;have:=block_lt_of_cell this;simp at *;omega
        intro v' w7 aW aD _;have m9:=Bb m8 aW aD;have HL9:=laid (DI (n:=s.size) m8.1.1 m9.1);clear aJ aW aD y0 y1 y2 m8 hi hz hsi ox Nu hms;go_wp2
        go_roundw
        case rel=>exact⟨L++[(NM,B,mk)],st7,by simp;have:=OC.out;omega,YA.out.1,m9,HN⟩
        case measure=>go_light;rw[ai6.out,HL9.out];exact YA.out.2
   ·have HE:=laid (show R=(p,false) by
     rw[<-HF.out.1];show bO s (5-L.length) p=_
     exact sV (by omega) rfl)
    have HL:=laid (show L=LR by
     have:=HF.out.2;simp only[Bool.false_eq_true,if_false]at this;rw[<-this];have:aj s (5-L.length) p=[]:=by
      generalize 5-L.length=n;cases n with
      |zero=>rfl
      |succ n=>simp only[aj];rw[if_pos (by omega)]
     rw[this,apY])
    clear HF;go_wp2
    go_ret2
    have:=hm.2.2;rw[HL.out]at this;rw[HL.out];exact A9 HE.out aH this
structure ia(w w':World)(y z:Nat):Prop where
 os:w'.os=w.os
 tape:w'.tape=w.tape
 output:w'.output=w.output
 size:w.heap.size<=w'.heap.size
 block:∀k,k<w.heap.size->k≠y->k≠z->w'.heap[k]?=w.heap[k]?
theorem ia.of{wm:World}(h1:w.grownBy wm (some y))(h2:wm.grownBy w' (some z)):ia w w' y z:=
 ⟨h2.os.trans h1.os,h2.tape.trans h1.tape,h2.output.trans h1.output,aqd h1.size h2.size,fun k hk hy hz=>by
  rw[h2.block k (by have:=h1.size;omega) (by simp_all),h1.block k hk (by simp_all)]⟩
theorem ia.below(h:ia w w' y z)(hB:B<=w.heap.size)(hy:B<=y)(hz:B<=z):Below B w w':=
 ⟨h.os,h.tape,h.output,h.size,fun k hk=>h.block k (by omega) (by omega) (by omega)⟩
theorem ia.new{w w1 w2:World}{o:Obj}{y z:Nat}(hg:ia (w.alloc o) w1 y z)(h2:w1.grownBy w2 (some w.heap.size)):ia w w2 y z:=by
 refine⟨h2.os.trans hg.os,h2.tape.trans hg.tape,h2.output.trans hg.output,?_,fun k hk hy hz=>?_⟩
 ·have:=hg.size;have:=h2.size;simp at *;omega
 ·have hs:=hg.size;simp at hs;rw[h2.block k (by omega) (by simp;omega),hg.block k (by simp;omega) hy hz,apQ w o k hk]
theorem ia.alloc{w1:World}(hg:ia w w1 y z)(o:Obj):ia w (w1.alloc o) y z:=
 ⟨hg.os,hg.tape,hg.output,by have:=hg.size;simp;omega,fun k hk hy hz=>by
  have:=hg.size;rw[apQ w1 o k (by omega)];exact hg.block k hk hy hz⟩
theorem Bc(h:Below w.heap.size w w')(y z:Nat):ia w w' y z:=⟨h.os,h.tape,h.output,h.size,fun k hk _ _=>h.block k hk⟩
def qw(ref reads:ByteArray):=
 if(mB ref).2=true then(2,(mB ref).1)else if(bO reads 5 0).2=true then(3,(bO reads 5 0).1)else(0,0)
def cK(ref reads:ByteArray):Int:=if 400<ref.size\/600<reads.size then 1 else((qw ref reads).1:Int)
def ja(ref reads:ByteArray):Int:=if 400<ref.size\/600<reads.size then 0 else((qw ref reads).2:Int)
def RB(w:World)(y:Nat)(a b:ByteArray):=w.heap[y]?=some (.cells #[.string a,.string b] 68 (0,0))
def ZB(w:World)(z:Nat)(v:Value):=w.heap[z]?=some (.cells #[v] 90 (0,0))
def FB(w:World)(m:Nat)(c p:Int):=w.heap[m]?=some (.cells #[.int .i64 c,.int .i64 p] 70 (0,0))
theorem RB.c0(h:RB w y a b):w.cell? ⟨y,0,none⟩=some (.string a):=by rw[cell_of_row w y 0 _ _ _ h];rfl
theorem RB.c1(h:RB w y a b):w.cell? ⟨y,1,none⟩=some (.string b):=by rw[cell_of_row w y 1 _ _ _ h];rfl
theorem RB.fz(h:RB w y a b)(j:Nat):w.frozen? ⟨y,j,none⟩=false:=frozen_of_row w y j _ _ h
theorem RB.lt(h:RB w y a b):y<w.heap.size:=by have:=block_lt_of_cell h.c0;omega
theorem RB.put(h:RB w y a b)(a' b':ByteArray):RB ((w.setCell ⟨y,0,none⟩ (.string a')).setCell ⟨y,1,none⟩ (.string b')) y a' b':=by
 have h1:RB (w.setCell ⟨y,0,none⟩ (.string a')) y a' b:=by unfold RB at *;rw[heap_setCell_same w y 0 _ _ _ h];rfl
 unfold RB at *;rw[heap_setCell_same _ y 1 _ _ _ h1];rfl
theorem RB.at(h:RB w y a b)(he:w'.heap[y]?=w.heap[y]?):RB w' y a b:=by unfold RB at *;simp_all
theorem ZB.c0(h:ZB w z v):w.cell? ⟨z,0,none⟩=some v:=by rw[cell_of_row w z 0 _ _ _ h];rfl
theorem ZB.fz(h:ZB w z v)(j:Nat):w.frozen? ⟨z,j,none⟩=false:=frozen_of_row w z j _ _ h
theorem ZB.lt(h:ZB w z v):z<w.heap.size:=by have:=block_lt_of_cell h.c0;omega
theorem ZB.put(h:ZB w z v)(v':Value):ZB (w.setCell ⟨z,0,none⟩ v') z v':=by
 unfold ZB at *;rw[heap_setCell_same w z 0 _ _ v' h];rfl
theorem ZB.at(h:ZB w z v)(he:w'.heap[z]?=w.heap[z]?):ZB w' z v:=by unfold ZB at *;simp_all
theorem FB.c0{p:Int}(h:FB w m c p):w.cell? ⟨m,0,none⟩=some (.int .i64 c):=by rw[cell_of_row w m 0 _ _ _ h];rfl
theorem FB.c1{p:Int}(h:FB w m c p):w.cell? ⟨m,1,none⟩=some (.int .i64 p):=by rw[cell_of_row w m 1 _ _ _ h];rfl
theorem FB.fz{p:Int}(h:FB w m c p)(j:Nat):w.frozen? ⟨m,j,none⟩=false:=frozen_of_row w m j _ _ h
theorem FB.lt{p:Int}(h:FB w m c p):m<w.heap.size:=by have:=block_lt_of_cell h.c0;omega
theorem MA(ref reads:ByteArray)(x y u z:Nat)(a b:ByteArray)(v:Value)(w:World)(h1:ref.size<=400)(h2:reads.size<=600)
  (hx:w.cell? ⟨x,0,none⟩=some (.string ref))(hu:w.cell? ⟨u,0,none⟩=some (.string reads))(hy:RB w y a b)(hz:ZB w z v)(huy:u≠y)(YD:z≠y)(ha:(mB ref).2=false)(hb:(bO reads 5 0).2=false):
  Calls aoy 89 #[.pointer (some ⟨x,0,none⟩),.pointer (some ⟨y,0,none⟩),.pointer (some ⟨u,0,none⟩),.pointer (some ⟨z,0,none⟩)] w fun e w'=>
   e=.returned (.tuple #[])/\RB w' y (QD ref) (str (cD ref).2)/\(∃V,ZB w' z V/\w'.ownsRow w.heap.size 131 3 V (aj reads 5 0).length (dv (aj reads 5 0)))/\ia w w' y z:=by
 have HA:=laid ha;have HB:=laid hb;clear ha hb;have hyb:=hy.lt;have hzb:=hz.lt;have hub:u<w.heap.size:=by have:=block_lt_of_cell hu;simpa using this
 generalize hX:str (cD ref).2=X;generalize hY:QD ref=Y;have HX:=laid hX;have HY:=laid hY;clear hX hY;generalize hL:aj reads 5 0=LR;have HL:=laid hL;clear hL
 go_enter aqw,aqe
 go_wp2_with fail
 refine(kJ ref _ (by omega)).mono ?_;rintro e w1 ⟨k1,k2,cn⟩;rw[HX.out,HY.out]at k1;obtain rfl:=k1 HA.out;clear k1 k2 HA HX HY;have ti:RB w1 y a b:=hy.at (cn.block y hyb);have kK:ZB w1 z v:=hz.at (cn.block z hzb);have hu1:w1.cell? ⟨u,0,none⟩=some (.string reads):=by rw[(ZD cn).1 u 0 hub];exact hu
 have c0:=ti.c0;have c1:=ti.c1;have f0:=ti.fz 0;have f1:=ti.fz 1;have NG:=ti.put Y X;obtain⟨_,_,zT⟩:=oA (.string Y) (.string X) c0 c1;have LS:=cn.size;have iI:=kK.at (zT.block z (by omega) (by simpa using YD));have ju:=af (cI cn _) zT;clear cn zT;go_wp2_with fail
 generalize(w1.setCell ⟨y,0,none⟩ (.string Y)).setCell ⟨y,1,none⟩ (.string X)=w2 at *;refine(rO reads _ (by omega)).mono ?_;rintro e w3 ⟨k1,k2,fj⟩;rw[HL.out]at k1;obtain⟨V,rfl,aJ⟩:=k1 HB.out;clear k1 k2 HB HL;obtain⟨va,cap,rfl⟩:∃va cap,V=.slice va LR.length cap:=by
  rcases aJ.2 with⟨h1,h2⟩|⟨g,cap,cur,h1,_⟩
  ·exact⟨none,0,by rw[h1,h2]⟩
  ·exact⟨_,cap,h1⟩
 have hy3:RB w3 y Y X:=NG.at (fj.block y NG.lt);have hz3:ZB w3 z v:=iI.at (fj.block z iI.lt);have c0:=hz3.c0;have f0:=hz3.fz 0;have hz4:=hz3.put (.slice va LR.length cap);have zT:=aB w3 z 0 (.slice va LR.length cap);have hy4:=hy3.at (zT.block y hy3.lt (by simpa using fun h=>YD h.symm));have om:=af (cI fj _) zT;have af8:=ju.size;have xP:(w3.setCell ⟨z,0,none⟩ (.slice va LR.length cap)).ownsRow w.heap.size 131 3 (.slice va LR.length cap) LR.length (dv LR):=
  xk (aJ.kept zT (A7 aJ z (.inl (by have:=iI.lt;omega)))) (by omega)
 clear zT fj aJ;go_wp2
 go_end0
 exact⟨rfl,hy4,⟨_,hz4,xP⟩,ia.of ju om⟩
theorem I1(ref reads:ByteArray)(x y u z:Nat)(a b:ByteArray)(v:Value)(w:World)(h1:ref.size<=400)(h2:reads.size<=600)
  (hx:w.cell? ⟨x,0,none⟩=some (.string ref))(hu:w.cell? ⟨u,0,none⟩=some (.string reads))(hy:RB w y a b)(hz:ZB w z v)(huy:u≠y)(YD:z≠y)(p9:(mB ref).2=true\/(bO reads 5 0).2=true):
  Calls aoy 89 #[.pointer (some ⟨x,0,none⟩),.pointer (some ⟨y,0,none⟩),.pointer (some ⟨u,0,none⟩),.pointer (some ⟨z,0,none⟩)] w fun e w'=>
   e=.panicked (gives ((qw ref reads).1:Int) ((qw ref reads).2:Int))/\(∃a' b',RB w' y a' b')/\ZB w' z v/\ia w w' y z:=by
 have hyb:=hy.lt;have hzb:=hz.lt;have hub:u<w.heap.size:=by have:=block_lt_of_cell hu;simpa using this
 by_cases ha:(mB ref).2=true
 ·have hc:qw ref reads=(2,(mB ref).1):=if_pos ha;rw[hc];have HA:=laid ha;clear p9 hc ha
  go_enter aqw,aqe
  go_wp2_with fail
  refine(kJ ref _ (by omega)).mono ?_;rintro e w1 ⟨k1,k2,cn⟩;obtain rfl:=k2 HA.out;exact⟨rfl,rfl,⟨a,b,hy.at (cn.block y hyb)⟩,hz.at (cn.block z hzb),Bc cn _ _⟩
 ·have hb:=p9.resolve_left ha;have hc:qw ref reads=(3,(bO reads 5 0).1):=by unfold qw;rw[if_neg ha,if_pos hb]
  rw[hc];rw[aoV]at ha;have HA:=laid ha;have HB:=laid hb;clear p9 hc ha hb
  go_enter aqw,aqe
  go_wp2_with fail
  refine(kJ ref _ (by omega)).mono ?_;rintro e w1 ⟨k1,k2,cn⟩;generalize str (cD ref).2=X at *;generalize QD ref=Y at *;obtain rfl:=k1 HA.out;clear k1 k2 HA;have ti:RB w1 y a b:=hy.at (cn.block y hyb);have kK:ZB w1 z v:=hz.at (cn.block z hzb);have hu1:w1.cell? ⟨u,0,none⟩=some (.string reads):=by rw[(ZD cn).1 u 0 hub];exact hu
  have c0:=ti.c0;have c1:=ti.c1;have f0:=ti.fz 0;have f1:=ti.fz 1;have NG:=ti.put Y X;obtain⟨_,_,zT⟩:=oA (.string Y) (.string X) c0 c1;have LS:=cn.size;have iI:=kK.at (zT.block z (by omega) (by simpa using YD));have ju:=af (cI cn _) zT;clear cn zT;go_wp2_with fail
  refine(rO reads _ (by omega)).mono ?_;rintro e w3 ⟨k1,k2,fj⟩;obtain rfl:=k2 HB.out;exact⟨rfl,rfl,⟨Y,X,NG.at (fj.block y NG.lt)⟩,iI.at (fj.block z iI.lt),ia.of ju (cI fj _)⟩
theorem Bd(ref reads:ByteArray)(x y u z:Nat)(a b:ByteArray)(v:Value)(w:World)(h1:ref.size<=400)(h2:reads.size<=600)
  (hx:w.cell? ⟨x,0,none⟩=some (.string ref))(hu:w.cell? ⟨u,0,none⟩=some (.string reads))(hy:RB w y a b)(hz:ZB w z v)(huy:u≠y)(YD:z≠y)(ha:(mB ref).2=false)(hb:(bO reads 5 0).2=false):
  Calls aoy 41 #[.func (.func 89) #[] #[.pointer (some ⟨x,0,none⟩),.pointer (some ⟨y,0,none⟩),.pointer (some ⟨u,0,none⟩),.pointer (some ⟨z,0,none⟩)]] w fun e w'=>
   e=.returned (.agg #[.int .i64 0,.int .i64 0])/\RB w' y (QD ref) (str (cD ref).2)/\(∃V,ZB w' z V/\w'.ownsRow w.heap.size 131 3 V (aj reads 5 0).length (dv (aj reads 5 0)))/\ia w w' y z:=by
 have HA:=laid ha;have HB:=laid hb;clear ha hb;have yX:x<w.heap.size:=by have:=block_lt_of_cell hx;simpa using this
 have hub:u<w.heap.size:=by have:=block_lt_of_cell hu;simpa using this
 have hyb:=hy.lt;have hzb:=hz.lt
 go_enter_defers Tryz.func41,Tryz.ntmps41
 go_wp2_with fail
 refine(MA ref reads x y u z a b v _ h1 h2 ?_ ?_ (hy.at (heap_alloc_old _ _ hyb)) (hz.at (heap_alloc_old _ _ hzb)) huy YD HA.out HB.out).mono ?_
 ·rw[aoJ _ _ _ yX];exact hx
 ·rw[aoJ _ _ _ hub];exact hu
 rintro e w1 ⟨rfl,hcy,⟨V,JY,aJ⟩,hg⟩;have hN:=hg.block w.heap.size (by simp) (by omega) (by omega);rw[heap_alloc_new]at hN;have n0:w1.cell? ⟨w.heap.size,0,none⟩=some (.int .i64 0):=by rw[cell_of_row _ _ _ _ _ _ hN];rfl
 have n1:w1.cell? ⟨w.heap.size,1,none⟩=some (.int .i64 0):=by rw[cell_of_row _ _ _ _ _ _ hN];rfl
 have z0:w1.frozen? ⟨w.heap.size,0,none⟩=false:=frozen_of_row _ _ _ _ _ hN;have z1:w1.frozen? ⟨w.heap.size,1,none⟩=false:=frozen_of_row _ _ _ _ _ hN;go_wp2
 obtain⟨m0,m1,fS⟩:=oA (.int .i64 0) (.int .i64 0) n0 n1;have YE:=hcy.at (fS.block y hcy.lt (by simp;omega));have YF:=JY.at (fS.block z JY.lt (by simp;omega));have bP:=xk (aJ.kept fS (A7 aJ w.heap.size (.inl (by simp)))) (show w.heap.size<=_ by simp);have om:=ia.new hg fS;clear hcy JY hN n0 n1 z0 z1 hg fS aJ;refine leaves_cons (f:=61) (args:=#[.pointer (some ⟨w.heap.size,0,none⟩)]) (by simp) (by simp[go_sem]) ?_;refine(KF _ _).mono ?_;rintro e u' lF ⟨rfl,rfl,rfl⟩;refine⟨.agg #[.int .i64 0,.int .i64 0],?_,rfl,YE,⟨V,YF,bP⟩,om⟩;simp[results,Tryz.results41,go_sem,m0,m1]
theorem yY(ref reads:ByteArray)(x y u z:Nat)(a b:ByteArray)(v:Value)(w:World)(h1:ref.size<=400)(h2:reads.size<=600)
  (hx:w.cell? ⟨x,0,none⟩=some (.string ref))(hu:w.cell? ⟨u,0,none⟩=some (.string reads))(hy:RB w y a b)(hz:ZB w z v)(huy:u≠y)(YD:z≠y)(p9:(mB ref).2=true\/(bO reads 5 0).2=true):
  Calls aoy 41 #[.func (.func 89) #[] #[.pointer (some ⟨x,0,none⟩),.pointer (some ⟨y,0,none⟩),.pointer (some ⟨u,0,none⟩),.pointer (some ⟨z,0,none⟩)]] w fun e w'=>
   e=.returned (.agg #[.int .i64 ((qw ref reads).1:Int),.int .i64 ((qw ref reads).2:Int)])/\(∃a' b',RB w' y a' b')/\ZB w' z v/\ia w w' y z:=by
 have HB:=laid p9;clear p9;have yX:x<w.heap.size:=by have:=block_lt_of_cell hx;simpa using this
 have hub:u<w.heap.size:=by have:=block_lt_of_cell hu;simpa using this
 have hyb:=hy.lt;have hzb:=hz.lt
 go_enter_defers Tryz.func41,Tryz.ntmps41
 go_wp2_with fail
 refine(I1 ref reads x y u z a b v _ h1 h2 ?_ ?_ (hy.at (heap_alloc_old _ _ hyb)) (hz.at (heap_alloc_old _ _ hzb)) huy YD HB.out).mono ?_
 ·rw[aoJ _ _ _ yX];exact hx
 ·rw[aoJ _ _ _ hub];exact hu
 rintro e w1 ⟨rfl,⟨a',b',hcy⟩,JY,hg⟩;have hN:=hg.block w.heap.size (by simp) (by omega) (by omega);rw[heap_alloc_new]at hN;have n0:w1.cell? ⟨w.heap.size,0,none⟩=some (.int .i64 0):=by rw[cell_of_row _ _ _ _ _ _ hN];rfl
 have n1:w1.cell? ⟨w.heap.size,1,none⟩=some (.int .i64 0):=by rw[cell_of_row _ _ _ _ _ _ hN];rfl
 have z0:w1.frozen? ⟨w.heap.size,0,none⟩=false:=frozen_of_row _ _ _ _ _ hN;have z1:w1.frozen? ⟨w.heap.size,1,none⟩=false:=frozen_of_row _ _ _ _ _ hN;refine leaves_cons (f:=61) (args:=#[.pointer (some ⟨w.heap.size,0,none⟩)]) (by simp) (by simp[go_sem]) ?_;refine(KD _ _ _ _ _ [] _ n0 n1 z0 z1).mono ?_;rintro e u' lF ⟨rfl,rfl,rfl⟩;have Uu:w.heap.size<w1.heap.size:=by have:=block_lt_of_cell n0;simpa using this
 obtain⟨m0,m1,fS⟩:=oA (.int .i64 ((qw ref reads).1:Int)) (.int .i64 ((qw ref reads).2:Int)) n0 n1;have YE:=hcy.at (fS.block y hcy.lt (by simp;omega));have YF:=JY.at (fS.block z JY.lt (by simp;omega));have om:=ia.new hg fS;generalize hW:(w1.setCell ⟨w.heap.size,0,none⟩ (.int .i64 ((qw ref reads).1:Int))).setCell ⟨w.heap.size,1,none⟩ (.int .i64 ((qw ref reads).2:Int))=w2 at *;have mK:w.heap.size<w2.heap.size:=by have:=fS.size;omega
 refine⟨.agg #[.int .i64 ((qw ref reads).1:Int),.int .i64 ((qw ref reads).2:Int)],?_,rfl,⟨a',b',YE.at (heap_alloc_old _ _ YE.lt)⟩,YF.at (heap_alloc_old _ _ YF.lt),om.alloc _⟩;simp[results,Tryz.results41,go_sem,m0,m1,mK]
def Be(w:World)(ref reads:ByteArray)(E P:Int)(LR:List (ByteArray×ByteArray×ByteArray))(e:Ending)(w':World):=
 ∃a b V,e=.returned (.tuple #[.agg #[.string a,.string b],V,.agg #[.int .i64 E,.int .i64 P]])/\(∃va n cap,V=.slice va n cap)/\Below w.heap.size w w'/\
  (E=0->a=QD ref/\b=str (cD ref).2/\w'.ownsRow w.heap.size 131 3 V LR.length (dv LR))
theorem FB.put{p:Int}(h:FB w m c p)(c' p':Int):FB ((w.setCell ⟨m,0,none⟩ (.int .i64 c')).setCell ⟨m,1,none⟩ (.int .i64 p')) m c' p':=by
 have h1:FB (w.setCell ⟨m,0,none⟩ (.int .i64 c')) m c' p:=by unfold FB at *;rw[heap_setCell_same w m 0 _ _ _ h];rfl
 unfold FB at *;rw[heap_setCell_same _ m 1 _ _ _ h1];rfl
theorem adw{w1:World}{o0 o1 o2 o3 o4:Obj}(h:ia (((((w.alloc o0).alloc o1).alloc o2).alloc o3).alloc o4) w1 (w.heap.size+1+1) (w.heap.size+1+1+1)):Below w.heap.size w w1/\w1.heap[w.heap.size+1+1+1+1]?=some o4/\w.heap.size+5<=w1.heap.size:=by
 have hb:=h.below (B:=w.heap.size) (by simp;omega) (by omega) (by omega);refine⟨((((((aoE _ _).alloc (aoC _) o0).alloc (by simp) o1).alloc (by simp;omega) o2).alloc (by simp;omega) o3).alloc (by simp;omega) o4).trans hb,?_,by have:=h.size;simp_all⟩;rw[h.block _ (by simp) (by omega) (by omega)];have e:w.heap.size+1+1+1+1=((((w.alloc o0).alloc o1).alloc o2).alloc o3).heap.size:=by simp
 rw[e,heap_alloc_new]
theorem UR(w:World)(o0 o1:Obj)(o3 o4:Obj):RB (((((w.alloc o0).alloc o1).alloc (.cells #[.string ⟨#[]⟩,.string ⟨#[]⟩] 68)).alloc o3).alloc o4) (w.heap.size+1+1) ⟨#[]⟩ ⟨#[]⟩:=by
 unfold RB;rw[heap_alloc_old _ _ (by simp),heap_alloc_old _ _ (by simp)];have e:w.heap.size+1+1=((w.alloc o0).alloc o1).heap.size:=by simp
 rw[e,heap_alloc_new]
theorem US(w:World)(o0 o1 o2:Obj)(o4:Obj)(v:Value):ZB (((((w.alloc o0).alloc o1).alloc o2).alloc (.cells #[v] 90)).alloc o4) (w.heap.size+1+1+1) v:=by
 unfold ZB;rw[heap_alloc_old _ _ (by simp)];have e:w.heap.size+1+1+1=(((w.alloc o0).alloc o1).alloc o2).heap.size:=by simp
 rw[e,heap_alloc_new]
theorem Bf{a:Addr}(h:w.cell? a=some v):w.setCell a v=w:=by
 have e:(w.heap.modify a.block fun
   |.cells c elem frozen=>.cells (if a.spot.isSome then c else c.setIfInBounds a.off v) elem frozen
   |o=>o)=w.heap:=by
  apply apg
  ·simp
  ·intro i h1 h2;rw[Array.getElem_modify];split
   ·rename_i he;subst he;unfold World.cell? at h;rw[aoG h2]at h;generalize w.heap[a.block]=o at *;cases o with
    |cells c elem frozen=>
     simp only at h⊢;split at h
     ·simp at h
     ·rename_i hs;rw[if_neg hs];congr 1;apply apg
      ·simp
      ·intro j k1 k2;rw[Array.getElem_setIfInBounds];split
       ·simp_all
       ·rfl
    |_=>simp at h
   ·rfl
 exact congrArg (fun h=>({w with heap:=h})) e
theorem UT{xs:List _}(h:w.ownsRow B e k v n xs):w.drew.ownsRow B e k v n xs:=h
theorem Bg(ref reads:ByteArray)(w:World)(h1:ref.size<=400)(h2:reads.size<=600):
  Calls aoy 58 #[.string ref,.string reads] w fun e w'=>Be w ref reads ((qw ref reads).1:Int) ((qw ref reads).2:Int) (aj reads 5 0) e w':=by
 have hmf:∀(fn:Fn) (first cap:Array Value) (w:World),(Instr.makeFunc fn first cap).run aoy w=.ok (.func fn first cap) w:=fun _ _ _ _=>rfl;have hAt:∀W:World,W.cell? ⟨w.heap.size,0,none⟩=some (.string ref)->W.cell? ⟨w.heap.size+1,0,none⟩=some (.string reads)->RB W (w.heap.size+1+1) ⟨#[]⟩ ⟨#[]⟩->ZB W (w.heap.size+1+1+1) (.slice none 0 0)->w.heap.size<=W.heap.size->
   Calls aoy 41 #[.func (.func 89) #[] #[.pointer (some ⟨w.heap.size,0,none⟩),.pointer (some ⟨w.heap.size+1+1,0,none⟩),.pointer (some ⟨w.heap.size+1,0,none⟩),.pointer (some ⟨w.heap.size+1+1+1,0,none⟩)]] W fun e w'=>
    e=.returned (.agg #[.int .i64 ((qw ref reads).1:Int),.int .i64 ((qw ref reads).2:Int)])/\ia W w' (w.heap.size+1+1) (w.heap.size+1+1+1)/\
    ∃a b V,RB w' (w.heap.size+1+1) a b/\ZB w' (w.heap.size+1+1+1) V/\(∃va n cap,V=.slice va n cap)/\(((qw ref reads).1:Int)=0->a=QD ref/\b=str (cD ref).2/\w'.ownsRow W.heap.size 131 3 V (aj reads 5 0).length (dv (aj reads 5 0))):=by
  intro W c0 c1 hy hz hW;by_cases p9:(mB ref).2=true\/(bO reads 5 0).2=true
  ·refine(yY ref reads _ _ _ _ _ _ _ W h1 h2 c0 c1 hy hz (by omega) (by omega) p9).mono ?_;rintro e w' ⟨rfl,⟨a,b,k1⟩,k2,k3⟩;refine⟨rfl,k3,a,b,_,k1,k2,⟨_,_,_,rfl⟩,fun h=>?_⟩;exfalso;unfold qw at h;by_cases ha:(mB ref).2=true
   ·rw[if_pos ha]at h;simp at h
   ·rw[if_neg ha,if_pos (p9.resolve_left ha)]at h;simp at h
  ·have ha:(mB ref).2=false:=by simpa using fun h=>p9 (.inl h)
   have hb:(bO reads 5 0).2=false:=by simpa using fun h=>p9 (.inr h)
   have hc:qw ref reads=(0,0):=by unfold qw;rw[ha,hb];rfl
   rw[hc];refine(Bd ref reads _ _ _ _ _ _ _ W h1 h2 c0 c1 hy hz (by omega) (by omega) ha hb).mono ?_;rintro e w' ⟨rfl,k1,⟨V,k2,k3⟩,k4⟩;refine⟨rfl,k4,_,_,V,k1,k2,?_,fun _=>⟨rfl,rfl,k3⟩⟩;rcases k3.2 with⟨h1,h2⟩|⟨g,cap,cur,h1,_⟩
   ·exact⟨none,0,0,h1⟩
   ·exact⟨_,_,cap,h1⟩
 have HAT:=laid hAt;clear hAt;generalize hE:((qw ref reads).1:Int)=E at *;generalize hP:((qw ref reads).2:Int)=P at *;generalize hL:aj reads 5 0=LR at *;clear hE hP hL
 go_enter aqD,aqi
 go_wp2_with fail
 refine(HAT.out _ (by simp[go_sem]) (by simp[go_sem]) (UR w _ _ _ _) (US w _ _ _ _ _) (by simp;omega)).mono ?_;rintro e w1 ⟨rfl,UU,a,b,V,hy,hz,⟨va,n,cap,rfl⟩,aaF⟩;obtain⟨aH,hm,mK⟩:=adw UU;have hf:FB w1 (w.heap.size+1+1+1+1) 0 0:=hm;have HG:Hid (E=0->a=QD ref/\b=str (cD ref).2/\w1.ownsRow (w.heap.size+5) 131 3 (.slice va n cap) LR.length (dv LR)):=laid fun h=>by
  obtain⟨g1,g2,g3⟩:=aaF h;refine⟨g1,g2,?_⟩;simpa using g3
 clear UU hm aaF HAT;have f0:=hf.c0;have f1:=hf.c1;have fz0:=hf.fz 0;have fz1:=hf.fz 1;have tY:=hf.put E P;obtain⟨_,_,zT⟩:=oA (.int .i64 E) (.int .i64 P) f0 f1;have NG:=hy.at (zT.block _ hy.lt (by simp));have iI:=hz.at (zT.block _ hz.lt (by simp));have aM:=aH.grown zT aH.size (by intro k hk;cases hk;omega);have HG2:Hid (E=0->a=QD ref/\b=str (cD ref).2/\((w1.setCell ⟨w.heap.size+1+1+1+1,0,none⟩ (.int .i64 E)).setCell ⟨w.heap.size+1+1+1+1,1,none⟩ (.int .i64 P)).ownsRow (w.heap.size+5) 131 3 (.slice va n cap) LR.length (dv LR)):=laid fun h=>by
  obtain⟨g1,g2,g3⟩:=HG.out h;exact⟨g1,g2,g3.kept zT (A7 g3 _ (.inl (by omega)))⟩
 have af8:=zT.size;clear zT aH HG;go_wp2_with fail
 generalize(w1.setCell ⟨w.heap.size+1+1+1+1,0,none⟩ (.int .i64 E)).setCell ⟨w.heap.size+1+1+1+1,1,none⟩ (.int .i64 P)=w2 at *;clear f0 f1 fz0 fz1;have a0:=NG.c0;have a1:=NG.c1;have b0:=iI.c0;have c0:=tY.c0;have c1:=tY.c1;have za0:=NG.fz 0;have za1:=NG.fz 1;have zb0:=iI.fz 0;have zc0:=tY.fz 0;have zc1:=tY.fz 1;have s1:=Bf a0;have s2:=Bf a1;have s3:=Bf b0;have s4:=Bf c0;have s5:=Bf c1;have aV:=tY.lt;clear hy hz hf NG iI tY
 go_region
 all_goals
  go_wp2
  refine bodyPost_ret (v:=.tuple #[.agg #[.string a,.string b],.slice va n cap,.agg #[.int .i64 E,.int .i64 P]]) ?_ rfl ?_
  ·simp[results,ap0,go_sem,a0,a1,b0,c0,c1]
  ·exact⟨a,b,.slice va n cap,rfl,⟨_,_,_,rfl⟩,aM.drew,fun h=>by
    obtain⟨g1,g2,g3⟩:=HG2.out h;exact⟨g1,g2,xk (UT g3) (by omega)⟩⟩
theorem Ct(ref reads:ByteArray)(w:World)(h1:ref.size<=maxLen)(h2:reads.size<=maxLen)(hl:400<ref.size\/600<reads.size):
  Calls aoy 58 #[.string ref,.string reads] w fun e w'=>Be w ref reads 1 0 (aj reads 5 0) e w':=by
 have hmf:∀(fn:Fn) (first cap:Array Value) (w:World),(Instr.makeFunc fn first cap).run aoy w=.ok (.func fn first cap) w:=fun _ _ _ _=>rfl;unfold maxLen at h1 h2;generalize hL:aj reads 5 0=LR at *;clear hL;by_cases ha:400<ref.size
 ·clear hl
  go_enter aqD,aqi
  go_wp2
  refine bodyPost_ret (v:=.tuple #[.agg #[.string ⟨#[]⟩,.string ⟨#[]⟩],.slice none 0 0,.agg #[.int .i64 1,.int .i64 0]]) ?_ rfl ?_
  ·simp[results,ap0,go_sem]
  ·refine⟨_,_,_,rfl,⟨_,_,_,rfl⟩,?_,fun h=>by simp at h⟩;exact((((((aoE _ _).alloc (aoC _) _).alloc (by simp) _).alloc (by simp;omega) _).alloc (by simp;omega) _).alloc (by simp;omega) _)
 ·have hb:=hl.resolve_left ha;clear hl
  go_enter aqD,aqi
  go_wp2
  refine bodyPost_ret (v:=.tuple #[.agg #[.string ⟨#[]⟩,.string ⟨#[]⟩],.slice none 0 0,.agg #[.int .i64 1,.int .i64 0]]) ?_ rfl ?_
  ·simp[results,ap0,go_sem]
  ·refine⟨_,_,_,rfl,⟨_,_,_,rfl⟩,?_,fun h=>by simp at h⟩;exact((((((aoE _ _).alloc (aoC _) _).alloc (by simp) _).alloc (by simp;omega) _).alloc (by simp;omega) _).alloc (by simp;omega) _)
theorem Fz(ref reads:ByteArray)(w:World)(h1:ref.size<=maxLen)(h2:reads.size<=maxLen):
  Calls aoy 58 #[.string ref,.string reads] w fun e w'=>Be w ref reads (cK ref reads) (ja ref reads) (aj reads 5 0) e w':=by
 by_cases hl:400<ref.size\/600<reads.size
 ·have e1:cK ref _=1:=if_pos hl;have e2:ja ref _=0:=if_pos hl;rw[e1,e2];exact Ct ref _ w h1 h2 hl
 ·have e1:cK ref _=((qw ref _).1):=if_neg hl;have e2:ja ref _=((qw ref _).2):=if_neg hl;rw[e1,e2];exact Bg ref _ w (by omega) (by omega)
theorem oR(ref reads:ByteArray)(w:World)(h1:ref.size<=maxLen)(h2:reads.size<=maxLen):
  Calls aoy 53 #[.string ref,.string reads] w fun e w'=>e=.returned (.tuple #[.int .i64 (cK ref reads),.int .i64 (ja ref reads)])/\Below w.heap.size w w':=by
 unfold maxLen at h1 h2;by_cases ha:400<ref.size
 ·have e1:cK ref reads=1:=if_pos (.inl ha);have e2:ja ref reads=0:=if_pos (.inl ha);rw[e1,e2];clear e1 e2
  go_enter apL,api
  go_wp2
  go_ret2
  exact⟨rfl,aoE _ _⟩
 ·by_cases hb:600<reads.size
  ·have e1:cK ref reads=1:=if_pos (.inr hb);have e2:ja ref reads=0:=if_pos (.inr hb);rw[e1,e2];clear e1 e2
   go_enter apL,api
   go_wp2
   go_ret2
   exact⟨rfl,aoE _ _⟩
  ·have e1:cK ref reads=((qw ref reads).1:Int):=if_neg (by omega);have e2:ja ref reads=((qw ref reads).2:Int):=if_neg (by omega);rw[e1,e2];clear e1 e2;by_cases hr:(mB ref).2=true
   ·have hc:qw ref reads=(2,(mB ref).1):=if_pos hr;rw[hc];have HP:=laid (show placeOf (cD ref).1=((mB ref).1:Int) by rw[xj];exact yn hr);clear hc hr
    go_enter apL,api
    go_wp2_with fail
    refine(gY ref _ (by omega)).mono ?_;rintro e w1 ⟨rfl,cn⟩;rw[HP.out];clear HP;go_wp2
    go_ret2
    exact⟨rfl,cn.alloc cn.size _⟩
   ·rw[aoV]at hr;have HP:=laid (show placeOf (cD ref).1= -1 by rw[xj];exact uZ hr);by_cases hq:(bO reads 5 0).2=true
    ·have hc:qw ref reads=(3,(bO reads 5 0).1):=by unfold qw;rw[if_neg (by simp[hr]),if_pos hq]
     rw[hc];have HQ:=laid (yn hq);clear hc hr hq
     go_enter apL,api
     go_wp2_with fail
     refine(gY ref _ (by omega)).mono ?_;rintro e w1 ⟨rfl,cn⟩;rw[HP.out];clear HP;go_wp2_with fail
     refine(qT reads _ (by omega)).mono ?_;rintro e w2 ⟨V,rfl,di,_⟩;rw[HQ.out];clear HQ;have fj:Below w.heap.size w w2:=(cn.alloc cn.size _).trans (di.mono (by simp;have:=cn.size;omega));clear cn di;go_wp2
     go_ret2
     exact⟨rfl,fj⟩
    ·rw[aoV]at hq;have hc:qw ref reads=(0,0):=by unfold qw;rw[hr,hq];rfl
     rw[hc];have HQ:=laid (uZ hq);clear hc hr hq
     go_enter apL,api
     go_wp2_with fail
     refine(gY ref _ (by omega)).mono ?_;rintro e w1 ⟨rfl,cn⟩;rw[HP.out];clear HP;go_wp2_with fail
     refine(qT reads _ (by omega)).mono ?_;rintro e w2 ⟨V,rfl,di,_⟩;rw[HQ.out];clear HQ;have fj:Below w.heap.size w w2:=(cn.alloc cn.size _).trans (di.mono (by simp;have:=cn.size;omega));clear cn di;go_wp2
     go_ret2
     exact⟨rfl,fj⟩
def ve(len X k st b:Nat):=min (b *st+st+len+k) X
def looked(P X:ByteArray)(k q st:Nat)(t:Int)(b:Nat):Bool:=decide (t<=0)||decide (t<=(BZ P (X.extract (b *st) (ve P.size X.size k st b)) q:Int))
theorem bZ(n:Nat)(h:n<=9999):1<=(a_ n).length/\(a_ n).length<=4:=by
 by_cases h1:n<=9
 ·rw[jx n h1];simp
 rw[pV n h1];by_cases h2:n/10<=9
 ·rw[jx _ h2];simp
 rw[pV _ h2];by_cases h3:n/10/10<=9
 ·rw[jx _ h3];simp
 rw[pV _ h3,jx _ (by omega)];simp
def stretches(X st:Nat):=(X+st-1)/st
theorem lr(X st b:Nat)(hs:1<=st):b *st<X↔b<stretches X st:=by
 unfold stretches;rw[Nat.lt_div_iff_mul_lt (by omega)];omega
def MB(len k q:Nat):Int:=(len:Int)-(q:Int)+1-((k *q:Nat):Int)
theorem yw(s:ByteArray):∀f acc st,acc.length<=200->st.1<=s.size->(dK s f acc st).2.length<=200
 |0,acc,st,h,_=>h
 |f+1,acc,st,h,hp=>by
  simp[dK];split
  ·refine yw s f _ _ ?_ (gX s _ _ hp).2;have:=y_ s (200-acc.length) _ hp;have:=lN s (200-acc.length) st.1;rw[aoz];omega
  omega
theorem Bh(s:ByteArray):(cD s).2.length<=200:=yw s _ _ _ (by simp) (j7 s 62 0 (by omega)).2
theorem YG(s:ByteArray)(i:Nat)(h:i<s.size):s.extract i (i+1)=str [at8 s i]:=by
 apply ape;apply apP;rw[ByteArray.data_extract,Array.toList_extract];unfold str at8;have hl:=by omega
 simp only[List.extract_eq_take_drop];rw[ao9 hl,aoK,aoD hl];simp
def cW(s:ByteArray)
 |0=>([],0)
 |i+1=>if i+1=s.size\/at8 s (i+1)≠at8 s i then((cW s i).1++a_ ((cW s i).2+1)++[at8 s i],0)else((cW s i).1,(cW s i).2+1)
def jm(s:ByteArray):=(cW s s.size).1
theorem zp(s:ByteArray):∀i,i<=9000->(cW s i).2<=i/\(cW s i).1.length<=5 *i
 |0,_=>by simp[cW]
 |i+1,h=>by
  have ih:=zp s i (by omega);have hd:=bZ ((cW s i).2+1) (by omega);rw[cW];split
  ·simp;omega
  ·simp only;omega
theorem I2{s:ByteArray}{i:Nat}(h:i+1=s.size\/at8 s (i+1)≠at8 s i):cW s (i+1)=((cW s i).1++a_ ((cW s i).2+1)++[at8 s i],0):=by rw[cW,if_pos h]
theorem OD{s:ByteArray}{i:Nat}(h:¬(i+1=s.size\/at8 s (i+1)≠at8 s i)):cW s (i+1)=((cW s i).1,(cW s i).2+1):=by rw[cW,if_neg h]
theorem UW(a b c:List _):str a++str b++str c=str (a++b++c):=by rw[bM,bM]
theorem toNat_ne{a b:UInt8}(h:a≠b):(a.toNat != (b.toNat:Int))=true:=by
 rw[bne_iff_ne];intro hh;exact h (aqO (by omega))
theorem toNat_eq{a b:UInt8}(h:a=b):((a.toNat:Int) != b.toNat)=false:=by simp_all
theorem oS(x:Int)(n:Nat)(hx:x=n)(w:World)(hn:n<=1000000):
  Calls aoy 86 #[.int .i64 x] w fun e w'=>e=.returned (.string (str (a_ n)))/\w'=w:=by
 subst hx;exact mL n w hn
theorem lx(a b:ByteArray)(ha:a.size<=100000000)(hb:b.size<=100000000)(w:World):(Op.stringOp .add a b).run aoy w=.ok (.string (a++b)) w:=run_string_add_sum (w:=w) a b (by omega)
theorem UX(s:ByteArray)(w:World)(hs:s.size<=1000):
  Calls aoy 107 #[.string s] w fun e w'=>e=.returned (.string (str (jm s)))/\∃m,w'=w.drewN m:=by
 go_enter Tryz.func107,Tryz.ntmps107
 go_wp2
 go_loopw [3,4,5] (fun tv nv' iv wr=>∃(i d:Nat),tv=.string (str (cW s i).1)/\nv'=.int .i64 ((cW s i).2:Int)/\iv=.int .i64 (i:Int)/\i<=s.size/\wr=w.drewN d) (fun _ _ iv _=>s.size-(intOf iv).toNat)
 case atStart=>exact⟨0,0,rfl,rfl,rfl,aoI _,rfl⟩
 case round=>
  obtain⟨i,d,rfl,rfl,rfl,his,rfl⟩:=hrel;have hle:=zp s i (by omega);by_cases aV:i<s.size
  ·have ry:(i:Int)<(s.size:Int):=by omega
   have tG:(0:Int)<=(i:Int):=by omega
   have tt:=cZ s i aV;have adx:=YG s i aV;have HY:=laid (@I2 s i);have HN:=laid (@OD s i);have kK:(str (cW s i).1).size<=100000:=by rw[au];omega
   have V4:=bZ ((cW s i).2+1) (by omega);have iI:(str (a_ ((cW s i).2+1))).size<=100000:=by rw[au];omega
   have HD:=laid (fun W=>oS (((cW s i).2:Int)+1) ((cW s i).2+1) (by omega) W (by omega));have HS:=laid (UW (cW s i).1 (a_ ((cW s i).2+1)) [at8 s i]);have hn1:(cW s i).2<=1000:=by omega
   have q1:=lx (str (cW s i).1) (str (a_ ((cW s i).2+1))) (by rw[au];omega) (by rw[au];omega);have q2:=lx (str (cW s i).1++str (a_ ((cW s i).2+1))) (str [at8 s i]) (by rw[bM,au,aoz];omega) (by rw[au];simp);clear hle V4;generalize(cW s i).1=O at *;generalize(cW s i).2=n at *;by_cases bR:i+1=s.size
   ·have te:((i:Int)+1==(s.size:Int))=true:=by simp;omega
    have HE:=laid (HY.out (.inl bR));clear HY HN bR;go_wp2_with fail
    go_quiet(fail)
    rw[aoP];go_wp2_with fail
    go_quiet((go_at_call 86;refine(HD.out _).mono ?_;rintro e lF ⟨rfl,rfl⟩;exact⟨rfl,_,rfl⟩))
    rw[aoP];go_wp2
    go_roundw
    case rel=>go_light;exact⟨i+1,_,b_ (by rw[HE.out];exact HS.out),ax (by rw[HE.out];rfl),by go_num,by omega,rfl⟩
    case measure=>go_light;simp[intOf];omega
   ·have te:((i:Int)+1==(s.size:Int))=false:=by simp;omega
    have vL:i+1<s.size:=by omega
    have WB:(i:Int)+1<(s.size:Int):=by omega
    have hi3:(0:Int)<=(i:Int)+1:=by omega
    have YH:=cZ s (i+1) vL;by_cases bj:at8 s (i+1)=at8 s i
    ·have hq:=toNat_eq bj;have HE:=laid (HN.out (by rintro(h|h);exact bR h;exact h bj));clear HY HN bR bj;go_wp2_with fail
     go_quiet(fail)
     rw[aoP];go_wp2
     go_roundw
     case rel=>go_light;exact⟨i+1,_,b_ (by rw[HE.out]),ax (by rw[HE.out];omega),by go_num,by omega,rfl⟩
     case measure=>go_light;simp[intOf];omega
    ·have hq:=toNat_ne bj;have HE:=laid (HY.out (.inr bj));clear HY HN bR bj;go_wp2_with fail
     go_quiet(fail)
     rw[aoP];go_wp2_with fail
     go_quiet((go_at_call 86;refine(HD.out _).mono ?_;rintro e lF ⟨rfl,rfl⟩;exact⟨rfl,_,rfl⟩))
     rw[aoP];go_wp2
     go_roundw
     case rel=>go_light;exact⟨i+1,_,b_ (by rw[HE.out];exact HS.out),ax (by rw[HE.out];rfl),by go_num,by omega,rfl⟩
     case measure=>go_light;simp[intOf];omega
  ·have F0:i=s.size:=by omega
   have HF:Hid (str (cW s i).1=str (jm s)):=laid (by unfold jm;rw[F0]);clear F0;generalize(cW s i).1=O at *;generalize(cW s i).2=n at *;go_wp2
   go_ret
   exact⟨cP HF.out,d,rfl⟩
structure Df where
 o:List UInt8
 i:Nat
 j:Nat
 n:Nat
def mi(p t s:ByteArray)(x:Nat)(st:Df):Df:=
 if at8 s x=77 then(if ag (at8 p st.i) (at8 t st.j)=true then⟨st.o,st.i+1,st.j+1,st.n+1⟩else⟨st.o++a_ st.n++[at8 t st.j],st.i+1,st.j+1,0⟩)
 else if at8 s x=73 then⟨st.o,st.i+1,st.j,st.n⟩
 else if x=0\/at8 s (x-1)≠68 then⟨st.o++a_ st.n++[94]++[at8 t st.j],st.i,st.j+1,0⟩else⟨st.o++[at8 t st.j],st.i,st.j+1,st.n⟩
def cu(p t s:ByteArray):Nat->Df
 |0=>⟨[],0,0,0⟩
 |x+1=>mi p t s x (cu p t s x)
def pL(p t s:ByteArray):=(cu p t s s.size).o++a_ (cu p t s s.size).n
theorem zq(p t s:ByteArray):∀x,x<=9000->(cu p t s x).i<=x/\(cu p t s x).j<=x/\(cu p t s x).n<=x/\(cu p t s x).o.length<=6 *x
 |0,_=>by simp[cu]
 |x+1,h=>by
  have ih:=zq p t s x (by omega);have hd:=bZ (cu p t s x).n (by omega);simp only[cu,mi];split
  ·split
   ·simp only;omega
   ·simp;omega
  ·split
   ·simp only;omega
   ·split
    ·simp;omega
    ·simp only[aoz,aoX,apZ];omega
def Fits(p t s:ByteArray):=∀x,x<s.size->(at8 s x=77->(cu p t s x).i<p.size/\(cu p t s x).j<t.size)/\(at8 s x≠77->at8 s x≠73->(cu p t s x).j<t.size)
theorem I3(a:UInt8)(n:Nat)(hn:n<256):(a.toNat==(n:Int))=decide (a=UInt8.ofNat n):=by
 by_cases h:a=UInt8.ofNat n
 ·rw[decide_eq_true h,h];simp only[beq_iff_eq];rw[aqk];omega
 ·rw[decide_eq_false h];simp;intro hh;apply h;apply aqO;rw[aqk];omega
theorem UY(p t s:ByteArray)(w:World)(hp:p.size<=1000)(ht:t.size<=1000)(hs:s.size<=1000)(jr:Fits p t s):
  Calls aoy 108 #[.string p,.string t,.string s] w fun e w'=>e=.returned (.string (str (pL p t s)))/\∃m,w'=w.drewN m:=by
 have UZ:=laid jr;clear jr
 go_enter Tryz.func108,Tryz.ntmps108
 go_wp2
 go_loopw [7,8,9,10,11] (fun ov iv jv nv' xv wr=>∃(x d:Nat),ov=.string (str (cu p t s x).o)/\iv=.int .i64 ((cu p t s x).i:Int)/\jv=.int .i64 ((cu p t s x).j:Int)/\nv'=.int .i64 ((cu p t s x).n:Int)/\xv=.int .i64 (x:Int)/\x<=s.size/\wr=w.drewN d) (fun _ _ _ _ xv _=>s.size-(intOf xv).toNat)
 case atStart=>exact⟨0,0,rfl,rfl,rfl,rfl,rfl,aoI _,rfl⟩
 case round=>
  obtain⟨x,d,rfl,rfl,rfl,rfl,rfl,hxs,rfl⟩:=hrel;have hle:=zq p t s x (by omega);by_cases aV:x<s.size
  ·have pN:(x:Int)<(s.size:Int):=by omega
   have hx0:(0:Int)<=(x:Int):=by omega
   have tt:=cZ s x aV;have U0:=UZ.out x aV;have Gu:Hid (cu p t s (x+1)=mi p t s x (cu p t s x)):=laid rfl;generalize cu p t s x=st at *;obtain⟨O,I,J,N⟩:=st;simp only at *;have V4:=bZ N (by omega);have kK:(str O).size<=100000:=by rw[au];omega
   have iI:(str (a_ N)).size<=100000:=by rw[au];omega
   have HD:=laid (fun W=>mL N W (by omega));by_cases zr:at8 s x=77
   ·have e1:(((at8 s x).toNat:Int)==77)=true:=by rw[zr];rfl
    have hIJ:=U0.1 zr;have ry:(I:Int)<(p.size:Int):=by omega
    have tG:(0:Int)<=(I:Int):=by omega
    have KN:(J:Int)<(t.size:Int):=by omega
    have F3:(0:Int)<=(J:Int):=by omega
    have hpI:=cZ p I hIJ.1;have htJ:=cZ t J hIJ.2;have adx:=YG t J hIJ.2;have q1:=lx (str O) (str (a_ N)) (by omega) (by omega);have q2:=lx (str O++str (a_ N)) (str [at8 t J]) (by rw[bM,au,aoz];omega) (by rw[au];simp);have HS:=laid (UW O (a_ N) [at8 t J]);have FA:Hid (cu p t s (x+1)=if ag (at8 p I) (at8 t J)=true then⟨O,I+1,J+1,N+1⟩else⟨O++a_ N++[at8 t J],I+1,J+1,0⟩):=laid (by rw[Gu.out,mi,if_pos zr]);clear zr U0 Gu;go_wp2_with fail
    go_quiet((go_at_call 119;refine(vE _ _ _).mono ?_;rintro e lF ⟨rfl,rfl⟩;exact⟨rfl,_,rfl⟩))
    rw[aoP];by_cases pe:ag (at8 p I) (at8 t J)=true
    ·have HE:Hid (cu p t s (x+1)=⟨O,I+1,J+1,N+1⟩):=laid (by rw[FA.out,if_pos pe]);rw[pe];clear FA pe;go_wp2
     go_roundw
     case rel=>go_light;exact⟨x+1,_,b_ (by rw[HE.out]),ax (by rw[HE.out];simp),ax (by rw[HE.out];simp),ax (by rw[HE.out];simp),by go_num,by omega,rfl⟩
     case measure=>go_light;simp[intOf];omega
    ·have HE:Hid (cu p t s (x+1)=⟨O++a_ N++[at8 t J],I+1,J+1,0⟩):=laid (by rw[FA.out,if_neg pe]);rw[aoV]at pe;rw[pe];clear FA pe;go_wp2_with fail
     go_quiet((go_at_call 86;refine(HD.out _).mono ?_;rintro e lF ⟨rfl,rfl⟩;exact⟨rfl,_,rfl⟩))
     rw[aoP];go_wp2
     go_roundw
     case rel=>go_light;exact⟨x+1,_,b_ (by rw[HE.out];exact HS.out),ax (by rw[HE.out];simp),ax (by rw[HE.out];simp),ax (by rw[HE.out];rfl),by go_num,by omega,rfl⟩
     case measure=>go_light;simp[intOf];omega
   ·by_cases Bi:at8 s x=73
    ·have e1:(((at8 s x).toNat:Int)==77)=false:=by rw[Bi];rfl
     have e2:(((at8 s x).toNat:Int)==73)=true:=by rw[Bi];rfl
     have HE:Hid (cu p t s (x+1)=⟨O,I+1,J,N⟩):=laid (by rw[Gu.out,mi,if_neg zr,if_pos Bi]);clear zr Bi U0;go_wp2
     go_roundw
     case rel=>go_light;exact⟨x+1,d,b_ (by rw[HE.out]),ax (by rw[HE.out];simp),ax (by rw[HE.out]),ax (by rw[HE.out]),by go_num,by omega,rfl⟩
     case measure=>go_light;simp[intOf];omega
    ·have e1:(((at8 s x).toNat:Int)==77)=false:=by have:=I3 (at8 s x) 77 (by omega);rw[show((77:Nat):Int)=77 from rfl]at this;rw[this];exact decide_eq_false zr
     have e2:(((at8 s x).toNat:Int)==73)=false:=by have:=I3 (at8 s x) 73 (by omega);rw[show((73:Nat):Int)=73 from rfl]at this;rw[this];exact decide_eq_false Bi
     have hJ:=U0.2 zr Bi;have KN:(J:Int)<(t.size:Int):=by omega
     have F3:(0:Int)<=(J:Int):=by omega
     have adx:=YG t J hJ;have FA:Hid (cu p t s (x+1)=if x=0\/at8 s (x-1)≠68 then⟨O++a_ N++[94]++[at8 t J],I,J+1,0⟩else⟨O++[at8 t J],I,J+1,N⟩):=laid (by rw[Gu.out,mi,if_neg zr,if_neg Bi]);have hz3:(str [at8 t J]).size<=100:=by rw[au];simp
     have HS1:=laid (show str O++str (a_ N)++⟨#[94]⟩++str [at8 t J]=str (O++a_ N++[94]++[at8 t J]) by
      rw[bM];have:(⟨#[94]⟩:ByteArray)=str [94]:=rfl;rw[this,bM,bM])
     have HS2:=laid (bM O [at8 t J]);have hz4:(str O++str (a_ N)).size<=100000:=by rw[bM,au,aoz];omega
     have hz5:(str O++str (a_ N)++⟨#[94]⟩).size<=100000:=by
      have:(⟨#[94]⟩:ByteArray)=str [94]:=rfl;rw[bM,this,bM,au,aoz,aoz];simp;omega
     clear zr Bi U0 Gu V4;by_cases hx9:x=0
     ·have HE:Hid (cu p t s (x+1)=⟨O++a_ N++[94]++[at8 t J],I,J+1,0⟩):=laid (by rw[FA.out,if_pos (.inl hx9)]);have hd:((x:Int)==0)=true:=by simp;omega
      clear FA hx9;go_wp2_with(go_at_call 86;refine(HD.out _).mono ?_;rintro e w' ⟨rfl,rfl⟩)
      go_roundw
      case rel=>go_light;exact⟨x+1,d,b_ (by rw[HE.out];exact HS1.out),ax (by rw[HE.out]),ax (by rw[HE.out];simp),ax (by rw[HE.out];rfl),by go_num,by omega,rfl⟩
      case measure=>go_light;simp[intOf];omega
     ·obtain⟨y,CU⟩:∃y,x=y+1:=⟨x-1,by omega⟩;have hyl:y<s.size:=by omega
      have aja:=cZ s y hyl;have ti:(y:Int)<(s.size:Int):=by omega
      have Ku:ao4.wrap ((x:Int)-1)=(y:Int):=by rw[show(x:Int)-1=(y:Int) by omega];exact aoR _ (by omega)
      have nP:(x:Int)-1=(y:Int):=by omega
      have hd:((x:Int)==0)=false:=by simp;omega
      have HXY:=laid CU;have HE1:Hid (cu p t s (x+1)=if at8 s y≠68 then⟨O++a_ N++[94]++[at8 t J],I,J+1,0⟩else⟨O++[at8 t J],I,J+1,N⟩):=laid (by
       rw[FA.out,show x-1=y by omega];by_cases h:at8 s y≠68
       ·rw[if_pos (.inr h),if_pos h]
       ·rw[if_neg (by rintro(h'|h');exact hx9 h';exact h h'),if_neg h])
      clear CU hx9 FA;by_cases QF:at8 s y=68
      ·have HE:Hid (cu p t s (x+1)=⟨O++[at8 t J],I,J+1,N⟩):=laid (by rw[HE1.out,if_neg (by simpa using QF)]);have e3:(((at8 s y).toNat:Int) != 68)=false:=by rw[QF];rfl
       clear HE1 QF;go_wp2_with(go_at_call 86;refine(HD.out _).mono ?_;rintro e w' ⟨rfl,rfl⟩)
       go_roundw
       case rel=>go_light;exact⟨x+1,d,b_ (by rw[HE.out];exact HS2.out),ax (by rw[HE.out]),ax (by rw[HE.out];simp),ax (by rw[HE.out]),by go_num,by omega,rfl⟩
       case measure=>go_light;simp[intOf];omega
      ·have HE:Hid (cu p t s (x+1)=⟨O++a_ N++[94]++[at8 t J],I,J+1,0⟩):=laid (by rw[HE1.out,if_pos QF]);have e3:(((at8 s y).toNat:Int) != 68)=true:=by have:=toNat_ne QF;exact this
       clear HE1 QF;go_wp2_with(go_at_call 86;refine(HD.out _).mono ?_;rintro e w' ⟨rfl,rfl⟩)
       go_roundw
       case rel=>go_light;exact⟨x+1,d,b_ (by rw[HE.out];exact HS1.out),ax (by rw[HE.out]),ax (by rw[HE.out];simp),ax (by rw[HE.out];rfl),by go_num,by omega,rfl⟩
       case measure=>go_light;simp[intOf];omega
  ·have V5:x=s.size:=by omega
   have HF:Hid (str (cu p t s x).o++str (a_ (cu p t s x).n)=str (pL p t s)):=laid (by unfold pL;rw[bM,V5]);have V4:=bZ (cu p t s x).n (by omega);have HD:=laid (fun W=>mL (cu p t s x).n W (by omega));have kK:(str (cu p t s x).o).size<=100000:=by rw[au];omega
   have iI:(str (a_ (cu p t s x).n)).size<=100000:=by rw[au];omega
   clear V5 hle;generalize cu p t s x=st at *;obtain⟨O,I,J,N⟩:=st;simp only at *;go_wp2_with(go_at_call 86;refine(HD.out _).mono ?_;rintro e w' ⟨rfl,rfl⟩)
   go_ret
   exact⟨cP HF.out,d,rfl⟩
def U4(c:UInt8):=c==77||c==73
def QG(c:UInt8):=c != 73
theorem YI(l:List _)(x:Nat):at8 (str l) x=l.getD x 0:=rfl
theorem OE(s:ByteArray)(x:Nat)(h:x<s.size):s.data.toList.take (x+1)=s.data.toList.take x++[at8 s x]:=by
 have hl:x<s.data.toList.length:=by simpa using h
 rw[aqq,aoD hl];unfold at8;rw[aoK,aoD hl];rfl
theorem OG(p t s:ByteArray):∀x,x<=s.size->(cu p t s x).i=(s.data.toList.take x).countP U4/\(cu p t s x).j=(s.data.toList.take x).countP QG
 |0,_=>by simp[cu]
 |x+1,h=>by
  have ih:=OG p t s x (by omega);rw[OE s x (by omega),aoH,aoH];simp only[cu,mi];by_cases zr:at8 s x=77
  ·rw[if_pos zr];have e1:[at8 s x].countP U4=1:=by rw[zr];rfl
   have e2:[at8 s x].countP QG=1:=by rw[zr];rfl
   split<;>simp only<;>omega
  ·rw[if_neg zr];by_cases Bi:at8 s x=73
   ·rw[if_pos Bi];have e1:[at8 s x].countP U4=1:=by rw[Bi];rfl
    have e2:[at8 s x].countP QG=0:=by rw[Bi];rfl
    simp_all
   ·rw[if_neg Bi];have e1:[at8 s x].countP U4=0:=by simp[U4,zr,Bi]
    have e2:[at8 s x].countP QG=1:=by simp[QG,Bi]
    split<;>simp only<;>omega
theorem oT(p t:ByteArray):∀(f i j:Nat),i+j<=f->(d_ p t f i j).countP U4=i/\(d_ p t f i j).countP QG=j
 |0,i,j,h=>by
  have h1:i=0:=by omega
  have h2:j=0:=by omega
  subst h1 h2;simp[d_]
 |f+1,i,j,h=>by
  rw[d_];by_cases h0:i=0/\j=0
  ·simp_all
  ·rw[if_neg h0];by_cases hM:B6 p t i j=true
   ·rw[if_pos hM];have hp:=ze hM;have ih:=oT p t f (i-1) (j-1) (by omega);rw[aoH,aoH,ih.1,ih.2];have e1:[(77:UInt8)].countP U4=1:=rfl;have e2:[(77:UInt8)].countP QG=1:=rfl;omega
   ·rw[if_neg hM];by_cases hI:CR p t i j=true
    ·rw[if_pos hI];have hp:=zf hI;have ih:=oT p t f (i-1) j (by omega);rw[aoH,aoH,ih.1,ih.2];have e1:[(73:UInt8)].countP U4=1:=rfl;have e2:[(73:UInt8)].countP QG=0:=rfl;omega
    ·rw[if_neg hI];have hp:=tJ (by simpa using hI) h0;have ih:=oT p t f i (j-1) (by omega);rw[aoH,aoH,ih.1,ih.2];have e1:[(68:UInt8)].countP U4=0:=rfl;have e2:[68].countP QG=1:=rfl;omega
theorem DJ(p t:ByteArray):Fits p t (str (ck p t)):=by
 intro x hx;have hc:=oT p t _ p.size t.size (aoC _);have Ro:=OG p t (str (ck p t)) x (by omega);have UG:=OE _ x hx;have hle:∀f,((str (ck p t)).data.toList.take (x+1)).countP f<=(ck p t).countP f:=fun f=>(List.take_sublist _ _).countP_le;have h1:=hle U4;have h2:=hle QG;have hL:ck p t=d_ p t _ _ _:=rfl;rw[UG,aoH]at h1 h2;rw[hL]at h1 h2;rw[Ro.1,Ro.2];rw[hL]at *;refine⟨fun zr=>?_,fun zr Bi=>?_⟩
 ·rw[zr]at h1 h2;have e1:[77].countP U4=1:=rfl;have e2:[77].countP QG=1:=rfl;omega
 ·have e2:[at8 (str (d_ p t (p.size+t.size) p.size t.size)) x].countP QG=1:=by simp[QG,Bi]
  omega
def xq(s:ByteArray)
 |0=>[]
 |x+1=>xq s x++[at8 s (s.size-1-x)]
def dh(s:ByteArray):=xq s s.size
theorem Bj(s:ByteArray):∀x,(xq s x).length=x
 |0=>rfl
 |x+1=>by rw[xq,aoz,Bj s x];rfl
theorem I4(s:ByteArray):∀x,x<=s.size->xq s x=(s.data.toList.drop (s.size-x)).reverse
 |0,_=>by simp[xq]
 |x+1,h=>by
  rw[xq,I4 s x (by omega)];have hl:s.size-(x+1)<s.data.toList.length:=by simp;omega
  rw[ao9 hl,List.reverse_cons,show s.size-(x+1)+1=s.size-x by omega];unfold at8;rw[show s.size-1-x=s.size-(x+1) by omega,aoK,aoD hl];rfl
theorem vf(s:ByteArray):dh s=s.data.toList.reverse:=by
 unfold dh;rw[I4 s _ (aoC _)];simp
theorem FC(s:ByteArray)(w:World)(hs:s.size<=1000):
  Calls aoy 88 #[.string s] w fun e w'=>e=.returned (.string (str (dh s)))/\w'=w:=by
 go_enter Tryz.func88,Tryz.ntmps88
 go_wp2
 go_loop [3,4] (fun tv iv=>∃(x:Nat) (y:Int),tv=.string (str (xq s x))/\iv=.int .i64 y/\y+1+(x:Int)=(s.size:Int)/\x<=s.size) (fun _ iv=>(intOf iv+1).toNat)
 case atStart=>exact⟨0,(s.size:Int)-1,rfl,rfl,by omega,aoI _⟩
 case round=>
  obtain⟨x,y,rfl,rfl,CU,hx⟩:=hrel;have hlen:=Bj s x;have hz:(str (xq s x)).size<=1000:=by rw[au];omega
  by_cases aV:0<=y
  ·obtain⟨i,rfl⟩:∃i:Nat,y=(i:Int):=⟨y.toNat,by omega⟩;have Kc:i<s.size:=by omega
   have adx:=YG s i Kc;have HE:=laid (show str (xq s x)++str [at8 s i]=str (xq s (x+1)) by rw[bM,xq,show s.size-1-x=i by omega]);have iI:(str [at8 s i]).size<=1000:=by rw[au];simp
   have HXY:=laid CU;clear CU;go_wp2
   go_round
   case rel=>go_light;exact⟨x+1,(i:Int)-1,b_ HE.out,rfl,by have:=HXY.out;omega,by have:=HXY.out;omega⟩
   case measure=>go_light;simp[intOf]
  ·have V5:x=s.size:=by omega
   have HF:Hid (str (xq s x)=str (dh s)):=laid (by unfold dh;rw[V5]);clear V5 CU;go_wp2
   go_ret
   exact⟨cP HF.out,rfl⟩
def OH(C:Array _)(n k:Nat):=(Array.range C.size).map fun x=>if x<n/\(x<k\/n<=x+k)then C.getD (n-1-x) undef else C.getD x undef
theorem jb(C:Array _)(n k:Nat):(OH C n k).size=C.size:=by simp[OH]
theorem oU(C:Array _)(n k x:Nat)(h:x<C.size):(OH C n k)[x]?=some (if x<n/\(x<k\/n<=x+k)then C.getD (n-1-x) undef else C.getD x undef):=by
 simp[OH,h]
theorem U5(C:Array _)(n:Nat):OH C n 0=C:=by
 apply apg
 ·exact jb C n 0
 ·intro i h1 h2;have:=oU C n 0 i h2;rw[aoG h1]at this;rw[aoT this,if_neg (by omega)];simp[h2]
theorem U6(C:Array Value)(n k:Nat)(hn:n<=C.size)(hk:k+1+k<n):((OH C n k).setIfInBounds k (C.getD (n-1-k) undef)).setIfInBounds (n-1-k) (C.getD k undef)=OH C n (k+1):=by
 apply apg
 ·simp[jb]
 ·intro i h1 h2;have hi:i<C.size:=by rw[jb]at h2;exact h2
  have e2:=oU C n (k+1) i hi;rw[aoG h2]at e2;rw[aoT e2];have e1:=oU C n k i hi;by_cases a1:i=n-1-k
  ·subst a1;rw[apf,if_pos (by omega),show n-1-(n-1-k)=k by omega]
  ·rw[apj (by simp_all) (fun h=>a1 h.symm)];by_cases a2:i=k
   ·subst a2;rw[apf,if_pos (by omega)]
   ·rw[apj (by rw[jb];exact hi) (fun h=>a2 h.symm)];rw[aoG (by rw[jb];exact hi)]at e1;rw[aoT e1];by_cases c:i<n/\(i<k\/n<=i+k)
    ·rw[if_pos c,if_pos (by omega)]
    ·rw[if_neg c,if_neg (by omega)]
theorem jM{c:Array _}{fz:Nat×Nat}(v:Value)(h:w.heap[g]?=some (.cells c e fz)):(w.setCell ⟨g,k,none⟩ v).heap[g]?=some (.cells (c.setIfInBounds k v) e fz):=by
 have aV:=(ao1.1 h).1;have he:w.heap[g]=.cells c e fz:=by simp_all
 simp only[World.setCell];rw[aoG (by simp_all),Array.getElem_modify_self,he];rfl
theorem lK{c:Array _}{fz:Nat×Nat}(h:w.heap[g]?=some (.cells c e fz))(hk:¬(fz.1<=k/\k<fz.2)):w.frozen? ⟨g,k,none⟩=false:=by
 simp[World.frozen?,h];omega
theorem yx(C:Array Value)(g n cap:Nat)(fz:Nat×Nat)(w:World)(hn:n<=1000)(hC:n<=C.size)(hfz:∀k,k<n->¬(fz.1<=k/\k<fz.2))(hb:∀x,x<n->∃z:Int,C.getD x undef=.int .u8 z)(hw:w.heap[g]?=some (.cells C 5 fz)):
  Calls aoy 148 #[.slice (some ⟨g,0,none⟩) n cap] w fun e w'=>(∃v,e=.returned v)/\w'.heap[g]?=some (.cells (OH C n n) 5 fz)/\w.grownBy w' (some g):=by
 have HB:=laid hb;have HF:=laid hfz;clear hfz;have HE:Hid (∀(W:World) (k:Nat),n<=k+1+k->W.heap[g]?=some (.cells (OH C n k) 5 fz)->W.heap[g]?=some (.cells (OH C n n) 5 fz)):=laid fun W k hk h=>by
  rw[h];congr 2;apply apg
  ·simp[jb]
  ·intro i h1 h2;have hi:i<C.size:=by rw[jb]at h2;exact h2
   have e1:=oU C n k i hi;have e2:=oU C n n i hi;rw[aoG h1]at e1;rw[aoG h2]at e2;rw[aoT e1,aoT e2];by_cases c:i<n
   ·by_cases c2:i<k\/n<=i+k
    ·rw[if_pos ⟨c,c2⟩,if_pos ⟨c,.inl c⟩]
    ·rw[if_neg (by omega),if_pos ⟨c,.inl c⟩,show n-1-i=i by omega]
   ·rw[if_neg (by omega),if_neg (by omega)]
 have HW:=laid hw;clear hb hw
 go_enter Tryz.func148,Tryz.ntmps148
 go_wp2
 go_loopw [2,3] (fun iv jv wr=>∃k:Nat,iv=.int .i64 (k:Int)/\jv=.int .i64 ((n:Int)-1-(k:Int))/\k<=n/\wr.heap[g]?=some (.cells (OH C n k) 5 fz)/\w.grownBy wr (some g)) (fun iv _ _=>n-(intOf iv).toNat)
 case atStart=>exact⟨0,rfl,by go_num,aoI _,by rw[U5];exact HW.out,World.grownBy.refl _ _⟩
 case round=>
  obtain⟨k,rfl,rfl,ll,hg,hgr⟩:=hrel;by_cases aV:k+1+k<n
  ·have c1:(k:Int)<(n:Int)-1-(k:Int):=by omega
   obtain⟨m,hm⟩:∃m:Nat,m=n-1-k:=⟨_,rfl⟩;have hmi:(n:Int)-1-(k:Int)=(m:Int):=by omega
   rw[hmi];rw[hmi]at c1;have s1:wr.cell? ⟨g,k,none⟩=some (C.getD k undef):=by
    rw[cell_of_row wr g k _ _ _ hg,oU C n k k (by omega),if_neg (by omega)]
   have s2:wr.cell? ⟨g,m,none⟩=some (C.getD m undef):=by
    rw[cell_of_row wr g m _ _ _ hg,oU C n k m (by omega),if_neg (by omega)]
   have z1:wr.frozen? ⟨g,k,none⟩=false:=lK hg (HF.out k (by omega));have z2:wr.frozen? ⟨g,m,none⟩=false:=lK hg (HF.out m (by omega));have b1:(k:Int)<(n:Int):=by omega
   have b2:(m:Int)<(n:Int):=by omega
   have j1:ao4.wrap ((m:Int)-1)=(m:Int)-1:=aoR _ (by omega);obtain⟨X,hX⟩:=HB.out k (by omega);obtain⟨Y,hY⟩:=HB.out m (by omega);have HS:Hid ((((wr.setCell ⟨g,k,none⟩ (.int .u8 Y)).setCell ⟨g,m,none⟩ (.int .u8 X)).drew).heap[g]?=some (.cells (OH C n (k+1)) 5 fz)):=laid (by
    have h1:=jM (k:=m) (.int .u8 X) (jM (k:=k) (.int .u8 Y) hg);rw[<-hX,<-hY,hm,U6 C n k hC aV]at h1;rw[<-hX,<-hY,hm];exact h1)
   rw[hX]at s1;rw[hY]at s2;have HM:=laid hm;have hkm:k≠m:=by omega
   clear hm hmi hX hY hg HE;go_wp2_with fail
   go_region
   go_wp2
   go_roundw
   case rel=>go_light;exact⟨k+1,by go_num,by have:=HM.out;congr 1;omega,by omega,HS.out,af hgr (af (af (aB wr g k _) (aB _ g m _)) (ai _ 1 _))⟩
   case measure=>go_light;simp[intOf];omega
  ·have c1:¬(k:Int)<(n:Int)-1-(k:Int):=by omega
   have HX:=laid (HE.out wr k (by omega) hg);clear HE hg;go_wp2
   go_end0
   exact⟨⟨_,rfl⟩,HX.out,hgr⟩
theorem QH(l:List UInt8)(m:Nat):OH ((l.map bv).toArray++apl m (.int .u8 0)) l.length l.length=(l.reverse.map bv).toArray++apl m (.int .u8 0):=by
 apply apg
 ·simp[jb]
 ·intro i h1 h2;have hi:=by rw[jb]at h1;exact h1
  have e1:=oU _ l.length l.length i hi;rw[aoG h1]at e1;rw[aoT e1];by_cases c:i<l.length
  ·rw[if_pos ⟨c,.inl c⟩];simp[aqP,c,show l.length-1-i<l.length by omega];omega
  ·rw[if_neg (by omega)];rw[aqP,dif_pos hi];simp[ap3,c]
theorem rQ(s:ByteArray)(w:World)(hs:s.size<=1000):
  Calls aoy 129 #[.string s] w fun e w'=>e=.returned (.string (str (dh s)))/\Below w.heap.size w w':=by
 have hcv:=fun w:World=>run_bytes_of_string (P:=aoy) w 9 79 5 s aoS aqr aqI
 go_enter Tryz.func129,Tryz.ntmps129
 go_wp2_with fail
 have dz:bytesRow s (grownCap w s.size 0 5)=(s.data.toList.map bv).toArray++apl (grownCap w s.size 0 5-s.size) (aqm .u8 0):=by
  unfold bytesRow;congr 1;apply apg<;>simp[bv]
 have hlen:s.data.toList.length=s.size:=by simp
 rw[dz];have iE:=fun o=>heap_alloc_new w.drew o;refine(yx _ w.heap.size s.size _ _ _ hs (by simp) (fun k hk=>by simp;omega) (fun x hx=>?_) (iE _)).mono ?_
 ·have oB:x<s.data.size:=hx;have hi:x<((s.data.toList.map bv).toArray++apl (grownCap w s.size 0 5-s.size) (aqm .u8 0)).size:=by simp;omega
  rw[aqP,dif_pos hi];simp[ap3,hx,oB,bv]
 rintro e w2 ⟨⟨v,rfl⟩,h2,fS⟩;rw[<-hlen,QH]at h2;have aaG:=by
  have:=run_convert_bytes_back (P:=aoy) w2 79 9 5 ⟨w.heap.size,0,none⟩ (grownCap w s.size 0 5) (dh s) aqr aqI aoS (fun j hj=>?_)
  ·rw[show(dh s).length=s.size by rw[vf];simp]at this;exact this
  ·rw[vf]at hj;have e1:(⟨w.heap.size,0,none⟩:Addr).add j=⟨w.heap.size,j,none⟩:=by unfold ao_;split<;>simp_all
   rw[e1,cell_of_row w2 w.heap.size j _ _ _ h2];have F_:=hj;rw[Array.getElem?_append_left (by simpa using F_),List.getElem?_toArray,List.getElem?_map,aoD F_];simp only[aqN,bv];congr 4;simp only[vf]
 have aH:Below w.heap.size w w2:=by
  refine Below.grown ((Go.below_drewN (aoE _ _) 1).alloc (aoC _) _) fS (by simp) ?_;intro k e;cases e;exact aoC _
 go_wp2
 go_ret
 exact⟨rfl,aH⟩
theorem MC:(aoy.info? 131).map (·.size)=some 3:=by kernel_rfl
theorem ME(rn rb rm:ByteArray)(w:World)(hb:rb.size<=200)(hm:rm.size<=1000):
  Calls aoy 112 #[.agg #[.string rn,.string rb,.string rm]] w fun e w'=>e=.returned (.agg #[.string rn,.string (bI rb 0),.string (str (dh rm))])/\Below w.heap.size w w':=by
 have HF:=laid (fun W:World=>RJ rb W hb);have HB:=laid (fun W:World=>rQ rm W hm);generalize bI rb 0=OB at *;generalize str (dh rm)=BM at *
 go_enter Tryz.func112,Tryz.ntmps112
 go_wp2_with fail
 obtain⟨w0,hw0,hs0⟩:∃w0:World,((w.alloc (.cells #[.string rn,.string rb,.string rm] 131)).alloc (.cells #[.string ⟨#[]⟩,.string ⟨#[]⟩,.string ⟨#[]⟩] 131))=w0/\w0.heap.size=w.heap.size+2:=⟨_,rfl,by simp⟩;have hA:w0.heap[w.heap.size]?=some (.cells #[.string rn,.string rb,.string rm] 131 (0,0)):=by
  rw[<-hw0,heap_alloc_old _ _ (by simp)];exact heap_alloc_new w _
 have hC:w0.heap[w.heap.size+1]?=some (.cells #[.string ⟨#[]⟩,.string ⟨#[]⟩,.string ⟨#[]⟩] 131 (0,0)):=by
  rw[<-hw0];have:=heap_alloc_new (w.alloc (.cells #[.string rn,.string rb,.string rm] 131)) (.cells #[.string ⟨#[]⟩,.string ⟨#[]⟩,.string ⟨#[]⟩] 131);simpa using this
 have Kd:Below w.heap.size w w0:=by rw[<-hw0];exact((aoE _ _).alloc (aoC _) _).alloc (by simp) _
 rw[hw0];clear hw0;have a0:w0.cell? ⟨w.heap.size,0,none⟩=some (.string rn):=by rw[cell_of_row w0 _ 0 _ _ _ hA];rfl
 have a1:w0.cell? ⟨w.heap.size,1,none⟩=some (.string rb):=by rw[cell_of_row w0 _ 1 _ _ _ hA];rfl
 have a2:w0.cell? ⟨w.heap.size,2,none⟩=some (.string rm):=by rw[cell_of_row w0 _ 2 _ _ _ hA];rfl
 have c0:w0.cell? ⟨w.heap.size+1,0,none⟩=some (.string ⟨#[]⟩):=by rw[cell_of_row w0 _ 0 _ _ _ hC];rfl
 have c1:w0.cell? ⟨w.heap.size+1,1,none⟩=some (.string ⟨#[]⟩):=by rw[cell_of_row w0 _ 1 _ _ _ hC];rfl
 have c2:w0.cell? ⟨w.heap.size+1,2,none⟩=some (.string ⟨#[]⟩):=by rw[cell_of_row w0 _ 2 _ _ _ hC];rfl
 have f0:w0.frozen? ⟨w.heap.size+1,0,none⟩=false:=lK hC (by simp);have f1:w0.frozen? ⟨w.heap.size+1,1,none⟩=false:=lK hC (by simp);have f2:w0.frozen? ⟨w.heap.size+1,2,none⟩=false:=lK hC (by simp);have hl0:w.heap.size<w0.heap.size:=by omega
 have ns:w.heap.size+1<w0.heap.size:=by omega
 have YJ:Hid (∀W:World,Below w0.drew.heap.size w0.drew W->W.heap[w.heap.size+1]?=some (.cells #[.string ⟨#[]⟩,.string ⟨#[]⟩,.string ⟨#[]⟩] 131 (0,0))):=laid fun W hW=>by rw[hW.block _ ns];exact hC
 clear hA hC;have HA:Hid (∀W:World,Below w0.drew.heap.size w0.drew W->W.cell? ⟨w.heap.size,0,none⟩=some (.string rn)/\W.cell? ⟨w.heap.size,1,none⟩=some (.string rb)/\W.cell? ⟨w.heap.size,2,none⟩=some (.string rm)):=laid fun W hW=>⟨by rw[hW.cell (p:=⟨w.heap.size,0,none⟩) hl0];exact a0,by rw[hW.cell (p:=⟨w.heap.size,1,none⟩) hl0];exact a1,by rw[hW.cell (p:=⟨w.heap.size,2,none⟩) hl0];exact a2⟩;have HCC:Hid (∀W:World,Below w0.drew.heap.size w0.drew W->W.cell? ⟨w.heap.size+1,0,none⟩=some (.string ⟨#[]⟩)/\W.cell? ⟨w.heap.size+1,1,none⟩=some (.string ⟨#[]⟩)/\W.cell? ⟨w.heap.size+1,2,none⟩=some (.string ⟨#[]⟩)/\W.frozen? ⟨w.heap.size+1,0,none⟩=false/\W.frozen? ⟨w.heap.size+1,1,none⟩=false/\W.frozen? ⟨w.heap.size+1,2,none⟩=false):=laid fun W hW=>⟨by rw[hW.cell (p:=⟨w.heap.size+1,0,none⟩) ns];exact c0,by rw[hW.cell (p:=⟨w.heap.size+1,1,none⟩) ns];exact c1,by rw[hW.cell (p:=⟨w.heap.size+1,2,none⟩) ns];exact c2,by rw[hW.frozen (p:=⟨w.heap.size+1,0,none⟩) ns];exact f0,by rw[hW.frozen (p:=⟨w.heap.size+1,1,none⟩) ns];exact f1,by rw[hW.frozen (p:=⟨w.heap.size+1,2,none⟩) ns];exact f2⟩;clear c0 c1 c2 f0 f1 f2
 go_region_law
  (first
   |(go_simp;go_at_call 51;refine(HF.out _).mono ?_;rintro e w' ⟨rfl,dk⟩;obtain⟨d0,d1,d2⟩:=HA.out _ dk)
   |(go_simp;go_at_call 129;refine(HB.out _).mono ?_;rintro e lF ⟨rfl,ox⟩;obtain⟨g0,g1,g2,g3,g4,g5⟩:=HCC.out _ (dk.trans (ox.mono dk.size));obtain⟨k0,k1,k2⟩:=HA.out _ (dk.trans (ox.mono dk.size))))
 all_goals
  have HBF:Hid (Below w.heap.size w (((lF.setCell ⟨w.heap.size+1,0,none⟩ (.string rn)).setCell ⟨w.heap.size+1,1,none⟩ (.string OB)).setCell ⟨w.heap.size+1,2,none⟩ (.string BM))):=laid (((((Go.below_drewN Kd 1).trans (dk.mono (by simp;omega))).trans (ox.mono (by have:=dk.size;simp at this;omega))).setCell (p:=⟨w.heap.size+1,0,none⟩) (by simp) _|>.setCell (p:=⟨w.heap.size+1,1,none⟩) (by simp) _).setCell (p:=⟨w.heap.size+1,2,none⟩) (by simp) _);have dz:=jM (k:=2) (.string BM) (jM (k:=1) (.string OB) (jM (k:=0) (.string rn) (YJ.out _ (dk.trans (ox.mono dk.size)))));clear HF HB HA HCC YJ dk ox;go_wp2
  (try simp only[Exit.inBlock,Exit.then])
  refine bodyPost_ret (results_cell_row rfl _ _ (w.heap.size+1) _ _ _ _ rfl dz Tryz.underlying131 rfl MC) rfl ?_;exact⟨rfl,HBF.out⟩
theorem FD(p t:ByteArray)(k:Nat):∀n,n<=t.size+1->∀h∈bq p t k n,h.1<=h.2.1/\h.2.1<=t.size/\h.2.2<=k
 |0,_,h,hm=>by simp[bq]at hm
 |e+1,hn,h,hm=>by
  have ih:=FD p t k e (by omega);rw[bq]at hm;split at hm
  ·rename_i hb;rw[aqU,apM]at hm;rcases hm with hm|hm
   ·exact ih h hm
   ·subst hm;have:=kW p t k e (tries p k e);exact⟨this,by simp_all,hb⟩
  ·exact ih h hm
def I5(xn rn p mk t steps:ByteArray)(n s d:Nat):=
 rn.data.toList++[9]++a_ n++[9]++xn.data.toList++[9]++a_ (s+1)++[9]++jm steps++[9]++a_ d++[9]++pL p t steps++[9]++p.data.toList++[9]++mk.data.toList++[10]
def mZ(xn xb rn p mk:ByteArray)(n:Nat)(h:Nat×Nat×Nat):=
 I5 xn rn p mk (xb.extract h.1 h.2.1) (str (ck p (xb.extract h.1 h.2.1))) n h.1 h.2.2
def kt(add:Nat)(more:Bool)(i:Nat):=if more=true\/0<i then add+256 else add
def oV(xn xb rn p mk:ByteArray)(add:Nat)(more:Bool)(L:List (Nat×Nat×Nat)):Nat->List UInt8
 |0=>[]
 |i+1=>oV xn xb rn p mk add more L i++mZ xn xb rn p mk (kt add more i) (L.getD i (0,0,0))
def jc(xn xb rn p mk:ByteArray)(add k:Nat)(more:Bool):=oV xn xb rn p mk add more (gh p xb k) (gh p xb k).length
theorem U7(O:List _)(xn rn p mk t steps:ByteArray)(n s d:Nat)(RN DN XN DS RU DD DF:ByteArray)(h1:RN=rn)(h2:DN=str (a_ n))(h3:XN=xn)(h4:DS=str (a_ (s+1)))(h5:RU=str (jm steps))(h6:DD=str (a_ d))(h7:DF=str (pL p t steps)):
  str O++RN++(⟨#[9]⟩)++DN++(⟨#[9]⟩)++XN++(⟨#[9]⟩)++DS++(⟨#[9]⟩)++RU++(⟨#[9]⟩)++DD++(⟨#[9]⟩)++DF++(⟨#[9]⟩)++p++(⟨#[9]⟩)++mk++(⟨#[10]⟩)=str (O++I5 xn rn p mk t steps n s d):=by
 subst h1 h2 h3 h4 h5 h6 h7;apply ape;apply apP;simp[aph,apC,str,I5,apd]
theorem xu(s:ByteArray)(h:s.size<=9000):(jm s).length<=5 *s.size:=(zp s _ h).2
theorem Bl(p t s:ByteArray)(h:s.size<=9000):(pL p t s).length<=6 *s.size+4:=by
 have h1:=zq p t s _ h;have h2:=bZ (cu p t s s.size).n (by omega);unfold pL;rw[aoz];omega
theorem Bm(xn xb rn p mk:ByteArray)(add:Nat)(more:Bool)(L:List (Nat×Nat×Nat))(DK:xn.size<=1000)(yX:xb.size<=300)(hrn:rn.size<=1000)(hp:p.size<=100)(Kl:mk.size<=1000)(ha:add<=1000)
  (hL:∀h∈L,h.1<=h.2.1/\h.2.1<=xb.size/\h.2.2<=1000):∀i,i<=L.length->(oV xn xb rn p mk add more L i).length<=20000 *i
 |0,_=>by simp[oV]
 |i+1,hi=>by
  have ih:=Bm xn xb rn p mk add more L DK yX hrn hp Kl ha hL i (by omega);rw[oV,aoz];have hh:=hL (L.getD i (0,0,0)) (by rw[aoK,aoD (by omega)];exact aqM _);generalize L.getD i _=h at *;have hts:(xb.extract h.1 h.2.1).size<=300:=by rw[aoQ];omega
  have aA:=tL p (xb.extract h.1 h.2.1);have hs0:(str _).size=(ck p (xb.extract h.1 h.2.1)).length:=au _;have hru:=xu (str (ck p (xb.extract h.1 h.2.1))) (by omega);have rk:=Bl p (xb.extract h.1 h.2.1) (str (ck p (xb.extract h.1 h.2.1))) (by omega);have d1:=bZ (kt add more i) (by unfold kt;split<;>omega);have d2:=bZ (h.1+1) (by omega);have d3:=bZ h.2.2 (by omega);unfold mZ I5;simp;have e1:rn.data.size=rn.size:=rfl;have e2:xn.data.size=xn.size:=rfl;have e3:p.data.size=p.size:=rfl;have e4:mk.data.size=mk.size:=rfl;omega
theorem QI(L:List _)(i:Nat)(hi:i<L.length):(mM L)[i *3]?=some (nv (L.getD i (0,0,0)).1)/\(mM L)[i *3+1]?=some (nv (L.getD i (0,0,0)).2.1)/\(mM L)[i *3+2]?=some (nv (L.getD i (0,0,0)).2.2):=by
 induction L generalizing i with
 |nil=>simp at hi
 |cons x l ih=>
  cases i with
  |zero=>exact⟨rfl,rfl,rfl⟩
  |succ i=>
   have:=ih i (by simp_all);rw[show(i+1) *3=i *3+3 by omega];exact this
def ajc:ByteArray->List ByteArray->Prop
 |_,[]=>True
 |a,b::l=>(∀w,(Op.stringOp .add a b).run aoy w=.ok (.string (a++b)) w)/\ajc (a++b) l
def szs:List ByteArray->Nat
 |[]=>0
 |b::l=>b.size+szs l
theorem ajd:∀l a,a.size+szs l<=100000000->ajc a l
 |[],_,_=>trivial
 |b::l,a,h=>by
  rw[szs]at h;exact⟨lx a b (by omega) (by omega),ajd l _ (by rw[aoF];omega)⟩
theorem YK(mv:Bool)(xn xb xm rn rb rm p mk:ByteArray)(add k:Nat)(w:World)(DK:xn.size<=1000)(yX:xb.size<=300)(hrn:rn.size<=1000)(hp:p.size<=100)(Kl:mk.size<=1000)(ha:add<=1000)(hk:k<=100):
  Calls aoy 87 #[.agg #[.string xn,.string xb,.string xm],.agg #[.string rn,.string rb,.string rm],.string p,.string mk,.int .i64 (add:Int),.int .i64 (k:Int),.bool mv] w fun e w'=>e=.returned (.string (str (jc xn xb rn p mk add k mv)))/\Below w.heap.size w w':=by
 have ap2:=laid (show jc xn xb rn p mk add k mv=oV xn xb rn p mk add mv (gh p xb k) (gh p xb k).length from rfl);have aje:∀h∈gh p xb k,h.1<=h.2.1/\h.2.1<=xb.size/\h.2.2<=k:=FD p xb k (xb.size+1) (aoC _);have hLl:(gh p xb k).length<=301:=by have:=oC p xb k (xb.size+1);unfold gh;omega
 have ajf:=laid aje;clear aje
 go_enter Tryz.func87,Tryz.ntmps87
 go_wp2_with fail
 refine(Sj p xb k _ hp yX hk).mono ?_;rintro e w1 ⟨v,rfl,aJ,cn⟩;have hx0:w1.cell? ⟨w.heap.size,0,none⟩=some (.string xn):=by rw[cn.cell (by simp;omega)];simp[go_sem]
 have pN:w1.cell? ⟨w.heap.size,1,none⟩=some (.string xb):=by rw[cn.cell (by simp;omega)];simp[go_sem]
 have hr0:w1.cell? ⟨w.heap.size+1,0,none⟩=some (.string rn):=by rw[cn.cell (by simp)];simp[go_sem]
 have LS:w.heap.size+1<w1.heap.size:=by have:=cn.size;simp at this;omega
 have ajg:Below w.heap.size w w1:=(((aoE _ _).alloc (aoC _) _).alloc (by simp) _).trans (cn.mono (by simp;omega));clear cn;generalize Od:gh p xb k=L at *;have HLL:=laid Od;clear Od;obtain⟨av,cap,hv,fF⟩:∃av cap,v=.slice av L.length cap/\(0<L.length->∃G,av=some ⟨G,0,none⟩/\G<w1.heap.size/\∀i,i<L.length->w1.cell? ⟨G,i *3,none⟩=some (nv (L.getD i (0,0,0)).1)/\w1.cell? ⟨G,i *3+1,none⟩=some (nv (L.getD i (0,0,0)).2.1)/\w1.cell? ⟨G,i *3+2,none⟩=some (nv (L.getD i (0,0,0)).2.2)):=by
  rcases aJ.2 with⟨hv,h0⟩|⟨G,cap,cur,hv,hB,hg,hc⟩
  ·exact⟨none,0,by rw[hv,h0],fun h=>by omega⟩
  ·refine⟨some ⟨G,0,none⟩,cap,hv,fun _=>⟨G,rfl,?_,fun i hi=>?_⟩⟩
   ·rcases apR G w1.heap.size with h'|h'
    ·exact h'
    ·rw[Array.getElem?_eq_none h']at hg;cases hg
   ·have hf:=QI L i hi;have hc:=aJ.cells (g:=G) (by rw[hv];rfl);have c0:=hc _ _ hf.1;have c1:=hc _ _ hf.2.1;have c2:=hc _ _ hf.2.2;rw[iM]at c0 c1 c2;exact⟨c0,c1,c2⟩
 subst hv;have Bn:=laid fF;clear fF aJ;go_wp2
 go_loopw [15,17] (fun ov iv wr=>∃i:Nat,iv=.int .i64 (i:Int)/\i<=L.length/\ov=.string (str (oV xn xb rn p mk add mv L i))/\Below w1.heap.size w1 wr) (fun _ iv _=>L.length-(intOf iv).toNat)
 case atStart=>exact⟨0,rfl,aoI _,rfl,aoE _ _⟩
 case round=>
  obtain⟨i,rfl,hi,rfl,aH⟩:=hrel;have hol:=Bm xn xb rn p mk add mv L DK yX hrn hp Kl ha (fun h hm=>by have:=ajf.out h hm;omega) i hi;by_cases aV:i<L.length
  ·obtain⟨G,rfl,Sb,U8⟩:=Bn.out (by omega);obtain⟨g0,g1,g2⟩:=U8 i aV;have hh:=ajf.out (L.getD i (0,0,0)) (by rw[aoK,aoD aV];exact aqM _);have yy:=laid (show oV xn xb rn p mk add mv L (i+1)=oV xn xb rn p mk add mv L i++mZ xn xb rn p mk (kt add mv i) (L.getD i (0,0,0))from rfl);generalize L.getD i (0,0,0)=h at *;obtain⟨s,e,d⟩:=h;simp only[nv]at g0 g1 g2 hh yy;rw[<-aH.cell (p:=⟨G,_,none⟩) Sb]at g0 g1 g2;have k0:wr.cell? ⟨w.heap.size,0,none⟩=some (.string xn):=by rw[aH.cell (p:=⟨w.heap.size,0,none⟩) (by simp;omega)];exact hx0
   have k1:wr.cell? ⟨w.heap.size,1,none⟩=some (.string xb):=by rw[aH.cell (p:=⟨w.heap.size,1,none⟩) (by simp;omega)];exact pN
   have k2:wr.cell? ⟨w.heap.size+1,0,none⟩=some (.string rn):=by rw[aH.cell (p:=⟨w.heap.size+1,0,none⟩) LS];exact hr0
   have KP:s<=e:=hh.1;have hex:e<=xb.size:=hh.2.1;have hdk:d<=k:=hh.2.2;have i1:(s:Int)<=(e:Int):=by omega
   have i2:(e:Int)<=(xb.size:Int):=by omega
   have i3:(0:Int)<=(s:Int):=by omega
   have i4:(i:Int)<(L.length:Int):=by omega
   have i5:(0:Int)<=(i:Int):=by omega
   have i6:(0:Int)<=(e:Int):=by omega
   have ap4:(xb.extract s e).size<=300:=by rw[aoQ];omega
   clear hh U8;go_wp2_with fail
   go_quiet(fail)
   generalize hTS:xb.extract s e=TS at *;have HTS:=laid hTS;clear hTS;go_wp2_with fail
   refine(Sf p TS _ hp ap4).mono ?_;rintro e1 w3 ⟨rfl,fj⟩;have aM:Below w1.heap.size w1 (wr.drewN nq):=Go.below_drewN aH nq;have dx:Below w1.heap.size w1 w3:=aM.trans (fj.mono aM.size);have hlw:∀b o,b<wr.heap.size->w3.cell? ⟨b,o,none⟩=wr.cell? ⟨b,o,none⟩:=fun b o hb=>fj.cell (p:=⟨b,o,none⟩) hb;have Ih:=aH.size;rw[<-hlw _ _ (by omega)]at g0 g1 g2 k0 k1 k2;clear fj hlw aM;have UZ:=laid (DJ p TS);have ayu:=tL p TS;have ayv:(str (ck p TS)).size<=400:=by rw[au];omega
   have aaI:Hid (∀n,mZ xn xb rn p mk n (s,e,d)=I5 xn rn p mk TS (str (ck p TS)) n s d):=laid (fun n=>by unfold mZ;simp only;rw[HTS.out]);have HRu:=laid (fun W=>UX (str (ck p TS)) W (by omega));have HDf:=laid (fun W=>UY p TS (str (ck p TS)) W (by omega) (by omega) (by omega) UZ.out);have HDs:=laid (fun W=>oS ((s:Int)+1) (s+1) (by omega) W (by omega));have HDd:=laid (fun W=>oS (d:Int) d rfl W (by omega));have zs:=bZ (s+1) (by omega);have zd:=bZ d (by omega);have zru:=xu (str (ck p TS)) (by omega);have zdf:=Bl p TS (str (ck p TS)) (by omega);have hRU:∃RU,RU=str (jm (str (ck p TS))):=⟨_,rfl⟩;have s9:(⟨#[9]⟩:ByteArray).size=1:=rfl;have s10:(⟨#[10]⟩:ByteArray).size=1:=rfl;have zRU:(str (jm (str (ck p TS)))).size<=10000:=by rw[au];omega
   have zDF:(str (pL p TS (str (ck p TS)))).size<=10000:=by rw[au];omega
   have zDS:(str (a_ (s+1))).size<=10:=by rw[au];omega
   have zDD:(str (a_ d)).size<=10:=by rw[au];omega
   have zO:(oV xn xb rn p mk add mv L i).length<=10000000:=by omega
   have HB:=laid (fun(n:Nat) (DN:ByteArray) (h:DN=str (a_ n))=>U7 (oV xn xb rn p mk add mv L i) xn rn p mk TS (str (ck p TS)) n s d rn DN xn (str (a_ (s+1))) (str (jm (str (ck p TS)))) (str (a_ d)) (str (pL p TS (str (ck p TS)))) rfl h rfl rfl rfl rfl rfl);clear hRU zs zd zru zdf hol HTS;generalize str (jm (str (ck p TS)))=RU at *;generalize str (pL p TS (str (ck p TS)))=DF at *;generalize hST:str (ck p TS)=ST at *;clear hST;generalize str (a_ (s+1))=DS at *;generalize str (a_ d)=DD at *;generalize hO:oV xn xb rn p mk add mv L i=O at *;clear hO;have HQ:=laid (fun(DN:ByteArray) (h:DN.size<=10)=>ajd [rn,⟨#[9]⟩,DN,⟨#[9]⟩,xn,⟨#[9]⟩,DS,⟨#[9]⟩,RU,⟨#[9]⟩,DD,⟨#[9]⟩,DF,⟨#[9]⟩,p,⟨#[9]⟩,mk,⟨#[10]⟩] (str O) (by simp only[szs,s9,s10,au,<-Nat.add_assoc];omega));have U9:(mv=true/\kt add mv i=add+256)\/(mv=false/\(0:Int)<(i:Int)/\kt add mv i=add+256)\/(mv=false/\¬(0:Int)<(i:Int)/\kt add mv i=add):=by
    unfold kt;cases mv
    ·by_cases tG:0<i
     ·exact .inr (.inl ⟨rfl,by omega,if_pos (.inr tG)⟩)
     ·exact .inr (.inr ⟨rfl,by omega,if_neg (by simp[tG])⟩)
    ·exact .inl ⟨rfl,if_pos (.inl rfl)⟩
   have hfl:kt add mv i<=add+256:=by unfold kt;split<;>omega
   have OI:Hid (oV xn xb rn p mk add mv L (i+1)=O++I5 xn rn p mk TS ST (kt add mv i) s d):=laid (by rw[yy.out,aaI.out]);have hDn:=fun W=>oS (kt add mv i:Int) (kt add mv i) rfl W (by omega);have zn:=bZ (kt add mv i) (by omega);have zDN:(str (a_ (kt add mv i))).size<=10:=by rw[au];omega
   have aji:=laid (HB.out (kt add mv i) _ rfl);clear zn yy aaI HB s9 s10 zRU zDF zDS zDD hfl;rcases U9 with⟨rfl,hn⟩|⟨rfl,hi9,hn⟩|⟨rfl,hi9,hn⟩
   all_goals
    rw[hn]at OI hDn zDN aji;clear hn;try simp only[Int.natCast_add,Int.cast_ofNat_Int]at hDn
    have HDn:=laid hDn;clear hDn;generalize str (a_ _)=DN at *;obtain⟨q1,q2,q3,q4,q5,q6,q7,q8,q9,q10,q11,q12,q13,q14,q15,q16,q17,q18,-⟩:=HQ.out DN zDN;clear HQ zDN;go_wp2_with fail
    go_quiet((first
     |(go_at_call 86;first|with_reducible exact ao8 (HDn.out _)|with_reducible exact ao8 (HDs.out _)|with_reducible exact ao8 (HDd.out _))
     |(go_at_call 107;exact Calls.quiet_of (HRu.out _))
     |(go_at_call 108;exact Calls.quiet_of (HDf.out _))))
    go_wp2
    go_roundw
    case rel=>go_light;exact⟨i+1,by go_num,by omega,b_ (by rw[aji.out,OI.out]),Go.below_drewN dx _⟩
    case measure=>go_light;simp[intOf];omega
  ·have F0:i=L.length:=by omega
   have HF:Hid (str (oV xn xb rn p mk add mv L i)=str (jc xn xb rn p mk add k mv)):=laid (by rw[ap2.out,F0]);clear F0;generalize oV xn xb rn p mk add mv L i=O at *;go_wp2
   go_ret
   exact⟨cP HF.out,ajg.trans (aH.mono (by omega))⟩
abbrev Rd:=ByteArray×ByteArray×ByteArray
def fh(xn xb:ByteArray)(k:Nat)(r:Rd):=jc xn xb r.1 r.2.1 r.2.2 0 k false
def jd(xn xb:ByteArray)(k:Nat)(r:Rd):=jc xn xb r.1 (bI r.2.1 0) (str (dh r.2.2)) 16 k (decide (fh xn xb k r≠ []))
def pB(r:Rd):=r.1.data.toList++[9,52,9,42,9,48,9,42,9,45,9,45,9]++r.2.1.data.toList++[9]++r.2.2.data.toList++[10]
def eE(xn xb:ByteArray)(k:Nat)(r:Rd):=
 (if fh xn xb k r=[]/\jd xn xb k r=[]then pB r else fh xn xb k r)++jd xn xb k r
def m_(xn xb:ByteArray):=[64]++xn.data.toList++[9]++a_ xb.size++[10]
def dR(xn xb:ByteArray)(k:Nat)(L:List Rd)
 |0=>m_ xn xb
 |i+1=>dR xn xb k L i++eE xn xb k (L.getD i (⟨#[]⟩,⟨#[]⟩,⟨#[]⟩))
def xw(ref reads:ByteArray)(k:Nat):=
 dR (iL ref) (str (cD ref).2) k (aj reads 5 0) (aj reads 5 0).length
def fewer(L:List Rd)(k:Int):Bool:=L.all fun r=>decide (k<(r.2.1.size:Int))
def lA(ref reads:ByteArray)(k q step wk:Int):=
 if cK ref reads≠0 then cK ref reads else if fB k 30 q step=false\/wk<1\/8<wk then 4 else if fewer (aj reads 5 0) k=false then 4 else 0
def qx(ref reads:ByteArray)(k q step wk:Int):=if lA ref reads k q step wk=0 then str (xw ref reads k.toNat)else⟨#[]⟩
def xy(ref reads:ByteArray):=if cK ref reads≠0 then ja ref reads else 0
theorem xA(s:ByteArray)(st:Nat×Bool):(zJ s st).size<=10:=by
 unfold zJ;split
 ·decide
 ·unfold cut;have:=(cH rA (rest s st.1) 10).1;rw[au,apX];omega
theorem FE(s:ByteArray)(m p:Nat):(pU s m p).size<=m:=by
 unfold pU oy;have:=lN s m p;rw[au,aqV,apX];omega
theorem QJ(s:ByteArray)(st:Nat×Bool):(Gt s 30 st).size<=30:=by
 unfold Gt;split
 ·decide
 ·exact FE s 30 _
theorem QK(s:ByteArray)(nb:Nat)(st:Nat×Bool):(B5 s nb st).size<=nb:=by
 unfold B5;split
 ·exact aoI _
 ·unfold cut;have:=(cH mA (rest s st.1) nb).1;rw[au,apX];omega
theorem MF(s:ByteArray)(p:Nat):(tD s p).1.size<=10/\(tD s p).2.1.size<=30/\(tD s p).2.2.size<=30:=by
 have h2:(zP s p).size<=30:=QJ s _;refine⟨xA s _,h2,?_⟩;have:=QK s (zP s p).size (Pn s p);show(B5 s _ _).size<=30
 omega
theorem je(s:ByteArray):∀n p,∀r∈aj s n p,r.1.size<=10/\r.2.1.size<=30/\r.2.2.size<=30
 |0,_,r,h=>by simp[aj]at h
 |n+1,p,r,h=>by
  rw[aj]at h;split at h
  ·simp at h
  ·rw[List.mem_cons]at h;rcases h with rfl|h
   ·exact MF s p
   ·split at h
    ·simp at h
    ·exact je s n _ r h
theorem jX(s:ByteArray):∀n p,(aj s n p).length<=n
 |0,_=>by simp[aj]
 |n+1,p=>by
  rw[aj];split
  ·simp
  ·rw[aoX];split
   ·simp
   ·have:=jX s n (ff s p).1;omega
theorem Bo(xn xb rn p mk:ByteArray)(add k:Nat)(more:Bool)(DK:xn.size<=1000)(yX:xb.size<=300)(hrn:rn.size<=1000)(hp:p.size<=100)(Kl:mk.size<=1000)(ha:add<=1000)(hk:k<=1000):(jc xn xb rn p mk add k more).length<=7000000:=by
 have h1:(gh p xb k).length<=301:=by have:=oC p xb k (xb.size+1);unfold gh;omega
 have h2:=Bm xn xb rn p mk add more (gh p xb k) DK yX hrn hp Kl ha (fun h hm=>by have:=FD p xb k _ (aoC _) h hm;omega) _ (aoC _);unfold jc;omega
theorem QL(L:List Rd)(i:Nat)(hi:i<L.length):(dv L)[i *3]?=some (.string (L.getD i (⟨#[]⟩,⟨#[]⟩,⟨#[]⟩)).1)/\(dv L)[i *3+1]?=some (.string (L.getD i (⟨#[]⟩,⟨#[]⟩,⟨#[]⟩)).2.1)/\(dv L)[i *3+2]?=some (.string (L.getD i (⟨#[]⟩,⟨#[]⟩,⟨#[]⟩)).2.2):=by
 induction L generalizing i with
 |nil=>simp at hi
 |cons x l ih=>
  cases i with
  |zero=>exact⟨rfl,rfl,rfl⟩
  |succ i=>
   have:=ih i (by simp_all);rw[show(i+1) *3=i *3+3 by omega];exact this
theorem MG{reads:ByteArray}(h:cK ref reads=0):ref.size<=400/\reads.size<=600/\(mB ref).2=false/\(bO reads 5 0).2=false:=by
 unfold cK at h;split at h
 ·omega
 ·unfold qw at h;split at h
  ·omega
  ·split at h
   ·omega
   ·simp_all
theorem U_{b:Int}{b' c':Int}(h1:a=a')(h2:b=b')(h3:c=c'):Ending.returned (.tuple #[.string a,.int .i64 b,.int .i64 c])=.returned (.tuple #[.string a',.int .i64 b',.int .i64 c']):=by simp_all
theorem MH(ref reads:ByteArray)(k q step wk:Int)(w:World)(h1:ref.size<=maxLen)(h2:reads.size<=maxLen)(he:cK ref reads≠0):
  Calls aoy 57 #[.string ref,.string reads,.int .i64 k,.int .i64 q,.int .i64 step,.int .i64 wk] w fun e w'=>e=.returned (.tuple #[.string ⟨#[]⟩,.int .i64 (cK ref reads),.int .i64 (ja ref reads)])/\Below w.heap.size w w':=by
 have HC:=laid (fun W=>oR ref _ W h1 h2)
 go_enter aqF,aqn
 go_wp2_with fail
 refine(HC.out _).mono ?_;rintro e w1 ⟨rfl,cn⟩;go_wp2
 go_ret3
 exact⟨rfl,cn⟩
def ap8(w:World)(v:Value)(L:List Rd):=
 ∃av cap,v=.slice av L.length cap/\(0<L.length->∃G,av=some ⟨G,0,none⟩/\G<w.heap.size/\∀i,i<L.length->w.cell? ⟨G,i *3,none⟩=some (.string (L.getD i (⟨#[]⟩,⟨#[]⟩,⟨#[]⟩)).1)/\w.cell? ⟨G,i *3+1,none⟩=some (.string (L.getD i (⟨#[]⟩,⟨#[]⟩,⟨#[]⟩)).2.1)/\w.cell? ⟨G,i *3+2,none⟩=some (.string (L.getD i (⟨#[]⟩,⟨#[]⟩,⟨#[]⟩)).2.2))
theorem OJ{L:List Rd}(aJ:w.ownsRow B 118 3 v L.length (dv L)):ap8 w v L:=by
 rcases aJ.2 with⟨hv,h0⟩|⟨G,cap,cur,hv,hB,hg,hc⟩
 ·exact⟨none,0,by simp_all,fun h=>by omega⟩
 ·refine⟨some _,cap,hv,fun _=>⟨G,rfl,?_,fun i hi=>?_⟩⟩
  ·rcases apR G _ with h'|h'
   ·omega
   ·simp_all
  ·have hf:=QL L i hi;have hc:=aJ.cells (by rw[hv];rfl);have c0:=hc _ _ hf.1;have c1:=hc _ _ hf.2.1;have c2:=hc _ _ hf.2.2;rw[iM]at c0 c1 c2;simp_all
theorem Va{L:List Rd}{k:Int}(h:fewer L k=true)(i:Nat)(hi:i<L.length):k<((L.getD i (⟨#[]⟩,⟨#[]⟩,⟨#[]⟩)).2.1.size):=by
 unfold fewer at h;rw[List.all_eq_true]at h;have:=h (L.getD i (⟨#[]⟩,⟨#[]⟩,⟨#[]⟩)) (by simp_all);simp_all
theorem QM{L:List Rd}{k:Int}(h:fewer L k=false):∃i,i<L.length/\¬k<((L.getD i (⟨#[]⟩,⟨#[]⟩,⟨#[]⟩)).2.1.size):=by
 unfold fewer at h;rw[aqs]at h;obtain⟨r,hr,hk⟩:=h;obtain⟨i,hi,e⟩:=ap6 hr;refine⟨i,hi,?_⟩;simp_all
theorem Bp{L:List Rd}(hi:i<L.length):L.getD i (⟨#[]⟩,⟨#[]⟩,⟨#[]⟩)∈L:=by simp_all
theorem MJ(ref reads:ByteArray)(k q step wk:Int)(w:World)(h1:ref.size<=maxLen)(h2:reads.size<=maxLen)(he:cK ref reads=0)(p9:(fB k 30 q step=false\/wk<1\/8<wk)\/fewer (aj reads 5 0) k=false):
  Calls aoy 57 #[.string ref,.string reads,.int .i64 k,.int .i64 q,.int .i64 step,.int .i64 wk] w fun e w'=>e=.returned (.tuple #[.string ⟨#[]⟩,.int .i64 4,.int .i64 0])/\Below w.heap.size w w':=by
 have ib:=MG he;have HC:=laid (fun W=>oR ref reads W h1 h2);rw[he]at HC;clear he;generalize ja ref reads=P at *;have ap9:=laid p9;have adA:=laid ib.2.2.2;have lQ:ref.size<=1000:=by omega
 have tC:reads.size<=1000:=by omega
 have hLl:=jX reads 5 0;have HLS:=laid (je reads 5 0);clear ib p9 h1 h2;generalize Od:aj reads 5 0=L at *;have HLL:=laid Od;clear Od
 go_enter aqF,aqn
 go_wp2_with fail
 refine(HC.out _).mono ?_;rintro e w1 ⟨rfl,cn⟩;go_wp2_with fail
 refine(gY ref _ lQ).mono ?_;rintro e w2 ⟨rfl,di⟩;have vg:Below w.heap.size w w2:=cn.trans (di.mono cn.size);clear cn di;generalize placeOf (cD ref).1=PL at *;generalize iL ref=XN at *;generalize str (cD ref).2=XB at *;go_wp2_with fail
 refine(qT reads _ tC).mono ?_;rintro e w3 ⟨V,rfl,fj,aJ⟩;have aJ:=aJ adA.out;rw[HLL.out]at aJ;have eM:=OJ aJ;have MK:Below w.heap.size w w3:=(vg.alloc vg.size _).trans (fj.mono (by simp;have:=vg.size;omega));clear aJ fj vg;generalize placeOf (bO reads 5 0)=PR at *;obtain⟨av,cap,rfl,fF⟩:=eM;have Bn:=laid fF;clear fF;go_wp2_with fail
 refine(CM k 30 q step _).mono ?_;rintro e w4 ⟨rfl,rfl⟩;by_cases Kf:fB k 30 q step=false
 ·rw[Kf];clear Kf;go_wp2
  go_ret3
  exact⟨rfl,MK⟩
 ·rw[Bool.not_eq_false]at Kf;have HRI:=laid Kf;rw[Kf];clear Kf;by_cases Ku:wk<1
  ·go_wp2
   go_ret3
   exact⟨rfl,MK⟩
  ·by_cases Fo:8<wk
   ·go_wp2
    go_ret3
    exact⟨rfl,MK⟩
   ·have hfw:fewer L k=false:=by
     rcases ap9.out with(h|h|h)|h
     ·rw[HRI.out]at h;exact aqG h
     ·exact absurd h Ku
     ·exact absurd h Fo
     ·exact h
    obtain⟨j,Nl,hjk⟩:=QM hfw;have HJK:=laid hjk;have UU:0<=k/\k<=6:=by have:=of_decide_eq_true HRI.out;omega
    clear hfw hjk;go_wp2
    go_loopw [22] (fun iv wr=>∃i:Nat,iv=.int .i64 (i:Int)/\i<=j/\wr=w4) (fun iv _=>L.length-(intOf iv).toNat)
    case atStart=>exact⟨0,rfl,aoI _,rfl⟩
    case round=>
     obtain⟨i,rfl,Ro,rfl⟩:=hrel;have Kc:i<L.length:=by omega
     obtain⟨G,rfl,Sb,U8⟩:=Bn.out (by omega);obtain⟨g0,g1,g2⟩:=U8 i Kc;have mK:=(HLS.out _ (Bp Kc)).2.1;have HJ2:=laid (show i=j->¬k<((L.getD i (⟨#[]⟩,⟨#[]⟩,⟨#[]⟩)).2.1.size:Int)from fun e=>by subst e;have:=HJK.out;omega);generalize(L.getD i (⟨#[]⟩,⟨#[]⟩,⟨#[]⟩)).2.1=BB at *;clear U8 g0 g2;by_cases hkb:k<(BB.size:Int)
     ·have aV:i<j:=by
       rcases apR i j with h|h
       ·exact h
       ·exact absurd hkb (HJ2.out (by omega))
      go_wp2
      go_roundw
      case rel=>go_light;exact⟨i+1,by go_num,by omega,by first|rfl|trivial⟩
      case measure=>go_light;simp[intOf];omega
     ·go_wp2
      go_ret3
      exact⟨rfl,MK⟩
theorem OK(mv:Bool)(xn xb xm rn rb rm p mk:ByteArray)(z:Int)(add k:Nat)(hz:z=(add:Int))(w:World)(DK:xn.size<=1000)(yX:xb.size<=300)(hrn:rn.size<=1000)(hp:p.size<=100)(Kl:mk.size<=1000)(ha:add<=1000)(hk:k<=100):
  Calls aoy 87 #[.agg #[.string xn,.string xb,.string xm],.agg #[.string rn,.string rb,.string rm],.string p,.string mk,.int .i64 z,.int .i64 (k:Int),.bool mv] w fun e w'=>e=.returned (.string (str (jc xn xb rn p mk add k mv)))/\Below w.heap.size w w':=by
 subst hz;exact YK mv xn xb xm rn rb rm p mk add k w DK yX hrn hp Kl ha hk
theorem ajj(xn xb:ByteArray)(D:ByteArray)(h:D=str (a_ xb.size)):(⟨#[64]⟩:ByteArray)++xn++⟨#[9]⟩++D++⟨#[10]⟩=str (m_ xn xb):=by
 subst h;apply ape;apply apP;simp only[aph,apC,str,m_]
theorem ajk(r:Rd):r.1++(⟨#[9,52,9,42,9,48,9,42,9,45,9,45,9]⟩:ByteArray)++r.2.1++⟨#[9]⟩++r.2.2++⟨#[10]⟩=str (pB r):=by
 apply ape;apply apP;simp only[aph,apC,str,pB]
theorem DT(xn xb:ByteArray)(k:Nat)(r:Rd)(DK:xn.size<=1000)(yX:xb.size<=300)(hr:r.1.size<=10/\r.2.1.size<=30/\r.2.2.size<=30)(hk:k<=100):(fh xn xb k r).length<=7000000:=
 Bo xn xb r.1 _ _ 0 k _ DK yX (by omega) (by omega) (by omega) (by omega) (by omega)
theorem xB(s:ByteArray):(str (dh s)).size=s.size:=by rw[au,dh,Bj]
theorem DV(xn xb:ByteArray)(k:Nat)(r:Rd)(DK:xn.size<=1000)(yX:xb.size<=300)(hr:r.1.size<=10/\r.2.1.size<=30/\r.2.2.size<=30)(hk:k<=100):(jd xn xb k r).length<=7000000:=
 Bo xn xb r.1 _ _ 16 k _ DK yX (by omega) (by have:=lL r.2.1 0;omega) (by rw[xB];omega) (by omega) (by omega)
theorem DY(r:Rd)(hr:r.1.size<=10/\r.2.1.size<=30/\r.2.2.size<=30):(pB r).length<=1000:=by
 unfold pB;have e1:r.1.data.size=r.1.size:=rfl;have e2:r.2.1.data.size=r.2.1.size:=rfl;have e3:r.2.2.data.size=r.2.2.size:=rfl;simp only[aoz,aoX,apZ,apJ];omega
theorem vh(xn xb:ByteArray)(k:Nat)(r:Rd)(DK:xn.size<=1000)(yX:xb.size<=300)(hr:r.1.size<=10/\r.2.1.size<=30/\r.2.2.size<=30)(hk:k<=100):(eE xn xb k r).length<=15000000:=by
 have h1:=DT xn xb k r DK yX hr hk;have h2:=DV xn xb k r DK yX hr hk;have h3:=DY r hr;unfold eE;rw[aoz];split<;>omega
theorem qU(xn xb:ByteArray)(k:Nat)(L:List Rd)(DK:xn.size<=1000)(yX:xb.size<=300)(hL:∀r∈L,r.1.size<=10/\r.2.1.size<=30/\r.2.2.size<=30)(hk:k<=100):∀i,i<=L.length->(dR xn xb k L i).length<=2000+15000000 *i
 |0,_=>by
  have:=bZ xb.size (by omega);have e:xn.data.size=xn.size:=rfl;simp only[dR,m_,aoz,aoX,apZ,apJ];omega
 |i+1,h=>by
  have ih:=qU xn xb k L DK yX hL hk i (by omega);have hr:=vh xn xb k (L.getD i _) DK yX (hL _ (Bp (by omega))) hk;rw[dR,aoz];omega
theorem Vb{r:Rd}(h:fh xn xb k r≠ []):eE xn xb k r=fh xn xb k r++jd xn xb k r:=by
 unfold eE;rw[if_neg (fun e=>h e.1)]
theorem adB{r:Rd}(h:jd xn xb k r≠ []):eE xn xb k r=fh xn xb k r++jd xn xb k r:=by
 unfold eE;rw[if_neg (fun e=>h e.2)]
theorem QN{r:Rd}(h1:fh xn xb k r=[])(h2:jd xn xb k r=[]):eE xn xb k r=pB r:=by
 unfold eE;rw[if_pos ⟨h1,h2⟩,h2,apY]
theorem I6(ref reads:ByteArray)(k:Nat)(q step wk:Int)(w:World)(h1:ref.size<=maxLen)(h2:reads.size<=maxLen)(he:cK ref reads=0)(Kf:fB k 30 q step=true)(Ku:1<=wk)(Fo:wk<=8)(ajl:fewer (aj reads 5 0) k=true):
  Calls aoy 57 #[.string ref,.string reads,.int .i64 (k:Int),.int .i64 q,.int .i64 step,.int .i64 wk] w fun e w'=>e=.returned (.tuple #[.string (str (xw ref reads k)),.int .i64 0,.int .i64 0])/\Below w.heap.size w w':=by
 have ib:=MG he;have HC:=laid (fun W=>oR ref reads W h1 h2);rw[he]at HC;clear he;generalize ja ref reads=P at *;have adA:=laid ib.2.2.2;have lQ:ref.size<=1000:=by omega
 have tC:reads.size<=1000:=by omega
 have hLl:=jX reads 5 0;have HLS:=laid (je reads 5 0);have HRI:=laid Kf;have ap_:=laid ajl;have hk6:k<=6:=by have:=of_decide_eq_true Kf;omega
 have yX:(str (cD ref).2).size<=200:=by rw[au];exact Bh ref
 have DK:(iL ref).size<=10:=xA ref _;have aqa:=laid (show xw ref reads k=dR (iL ref) (str (cD ref).2) k (aj reads 5 0) (aj reads 5 0).length from rfl);generalize xw ref reads k=RAW at *;clear ib h1 h2 Kf ajl;generalize Od:aj reads 5 0=L at *;have HLL:=laid Od;clear Od;generalize ML:iL ref=XN at *;generalize hXB:str (cD ref).2=XB at *;have HXN:=laid ML;have HXB:=laid hXB;clear ML hXB
 go_enter aqF,aqn
 go_wp2_with fail
 refine(HC.out _).mono ?_;rintro e w1 ⟨rfl,cn⟩;go_wp2_with fail
 refine(gY ref _ lQ).mono ?_;rintro e w2 ⟨rfl,di⟩;rw[HXN.out,HXB.out];have vg:Below w.heap.size w w2:=cn.trans (di.mono cn.size);clear cn di;generalize placeOf (cD ref).1=PL at *;go_wp2_with fail
 refine(qT reads _ tC).mono ?_;rintro e w3 ⟨V,rfl,fj,aJ⟩;have aJ:=aJ adA.out;rw[HLL.out]at aJ;have eM:=OJ aJ;have MK:Below w.heap.size w w3:=(vg.alloc vg.size _).trans (fj.mono (by simp;have:=vg.size;omega));have hx0:w3.cell? ⟨w2.heap.size,0,none⟩=some (.string XN):=by rw[fj.cell (by simp)];simp[go_sem]
 have pN:w3.cell? ⟨w2.heap.size,1,none⟩=some (.string XB):=by rw[fj.cell (by simp)];simp[go_sem]
 have oB:w3.cell? ⟨w2.heap.size,2,none⟩=some (.string ⟨#[]⟩):=by rw[fj.cell (by simp)];simp[go_sem]
 have hbx:w2.heap.size<w3.heap.size:=by have:=fj.size;simp at this;omega
 clear aJ fj vg;generalize w2.heap.size=bx at *;generalize placeOf (bO reads 5 0)=PR at *;obtain⟨av,cap,rfl,fF⟩:=eM;have Bn:=laid fF;clear fF;go_wp2_with fail
 refine(CM k 30 q step _).mono ?_;rintro e w4 ⟨rfl,rfl⟩;rw[HRI.out];go_wp2
 go_loopw [22] (fun iv wr=>∃i:Nat,iv=.int .i64 (i:Int)/\i<=L.length/\wr=w4) (fun iv _=>L.length-(intOf iv).toNat)
 case atStart=>exact⟨0,rfl,aoI _,rfl⟩
 case round=>
  obtain⟨i,rfl,ayN,rfl⟩:=hrel;by_cases Kc:i<L.length
  ·obtain⟨G,rfl,Sb,U8⟩:=Bn.out (by omega);obtain⟨g0,g1,g2⟩:=U8 i Kc;have hkb:=Va ap_.out i Kc;generalize(L.getD i (⟨#[]⟩,⟨#[]⟩,⟨#[]⟩)).2.1=BB at *;clear U8 g0 g2;go_wp2
   go_roundw
   case rel=>go_light;exact⟨i+1,by go_num,by omega,by first|rfl|trivial⟩
   case measure=>go_light;simp[intOf];omega
  ·have q1:=lx ⟨#[64]⟩ XN (by decide) (by omega);have q2:=lx (⟨#[64]⟩++XN) ⟨#[9]⟩ (by rw[aoF];have:(⟨#[64]⟩:ByteArray).size=1:=rfl;omega) (by decide);have V4:=bZ XB.size (by omega);have zD:(str (a_ XB.size)).size<=10:=by rw[au];omega
   have aaJ:=laid (ajj XN XB _ rfl);have HD:=laid (fun W=>mL XB.size W (by omega));have s1:(⟨#[64]⟩:ByteArray).size=1:=rfl;have s2:(⟨#[9]⟩:ByteArray).size=1:=rfl;clear V4;generalize str (a_ XB.size)=DX at *;have q3:=lx (⟨#[64]⟩++XN++⟨#[9]⟩) DX (by simp only[aoF];omega) (by omega);have q4:=lx (⟨#[64]⟩++XN++⟨#[9]⟩++DX) ⟨#[10]⟩ (by simp only[aoF];omega) (by decide);clear s1 s2 zD;go_wp2_with fail
   go_quiet((go_at_call 86;with_reducible exact ao8 (HD.out _)))
   generalize hW5:wr.drewN nq=w5;have y0:w5.cell? ⟨bx,0,none⟩=some (.string XN):=by rw[<-hW5];exact hx0
   have y1:w5.cell? ⟨bx,1,none⟩=some (.string XB):=by rw[<-hW5];exact pN
   have y2:w5.cell? ⟨bx,2,none⟩=some (.string ⟨#[]⟩):=by rw[<-hW5];exact oB
   have adD:bx<w5.heap.size:=by rw[<-hW5];exact hbx
   have ajm:Below w.heap.size w w5:=by rw[<-hW5];exact Go.below_drewN MK nq
   have HC5:Hid (0<L.length->∃G,av=some ⟨G,0,none⟩/\G<w5.heap.size/\∀i,i<L.length->w5.cell? ⟨G,i *3,none⟩=some (.string (L.getD i (⟨#[]⟩,⟨#[]⟩,⟨#[]⟩)).1)/\w5.cell? ⟨G,i *3+1,none⟩=some (.string (L.getD i (⟨#[]⟩,⟨#[]⟩,⟨#[]⟩)).2.1)/\w5.cell? ⟨G,i *3+2,none⟩=some (.string (L.getD i (⟨#[]⟩,⟨#[]⟩,⟨#[]⟩)).2.2)):=laid (by rw[<-hW5];exact Bn.out);clear hW5 hx0 pN oB hbx MK Bn q1 q2 q3 q4 HD;rw[aaJ.out];clear aaJ;go_wp2
   go_loopw [23,24] (fun ov iv wr=>∃i:Nat,iv=.int .i64 (i:Int)/\i<=L.length/\ov=.string (str (dR XN XB k L i))/\Below w5.heap.size w5 wr) (fun _ iv _=>L.length-(intOf iv).toNat)
   case atStart=>exact⟨0,rfl,aoI _,rfl,aoE _ _⟩
   case round=>
    obtain⟨n,rfl,hnl,rfl,aH⟩:=hrel;have hol:=qU XN XB k L (by omega) (by omega) HLS.out (by omega) n hnl;by_cases aV:n<L.length
    ·obtain⟨G,rfl,Sb,U8⟩:=HC5.out (by omega);obtain⟨g0,g1,g2⟩:=U8 n aV;have hrs:=HLS.out _ (Bp aV);have yy:=laid (show dR XN XB k L (n+1)=dR XN XB k L n++eE XN XB k (L.getD n (⟨#[]⟩,⟨#[]⟩,⟨#[]⟩))from rfl);generalize L.getD n (⟨#[]⟩,⟨#[]⟩,⟨#[]⟩)=r at *;obtain⟨rn,rb,rm⟩:=r;simp only at g0 g1 g2 hrs;obtain⟨dE,fU,bV⟩:=hrs;rw[<-aH.cell (p:=⟨G,_,none⟩) Sb]at g0 g1 g2;have k0:wr.cell? ⟨bx,0,none⟩=some (.string XN):=by rw[aH.cell (p:=⟨bx,0,none⟩) adD];exact y0
     have k1:wr.cell? ⟨bx,1,none⟩=some (.string XB):=by rw[aH.cell (p:=⟨bx,1,none⟩) adD];exact y1
     have k2:wr.cell? ⟨bx,2,none⟩=some (.string ⟨#[]⟩):=by rw[aH.cell (p:=⟨bx,2,none⟩) adD];exact y2
     have Ih:=aH.size;have W6:bx<wr.heap.size:=by omega
     have hGr:G<wr.heap.size:=by omega
     have i4:(n:Int)<(L.length:Int):=by omega
     have hAl:=DT XN XB k (rn,rb,rm) (by omega) (by omega) ⟨dE,fU,bV⟩ (by omega);have hBl:=DV XN XB k (rn,rb,rm) (by omega) (by omega) ⟨dE,fU,bV⟩ (by omega);have Vd:=laid (fun W=>OK false XN XB ⟨#[]⟩ rn rb rm rb rm 0 0 k rfl W (by omega) (by omega) (by omega) (by omega) (by omega) (by omega) (by omega));clear U8;go_wp2_with fail
     refine(Vd.out _).mono ?_;rintro e w6 ⟨rfl,Rv⟩;have c0:w6.cell? ⟨bx,0,none⟩=some (.string XN):=by rw[Rv.cell (p:=⟨bx,0,none⟩) (by simp;omega),aoJ _ _ _ W6];exact k0
     have c1:w6.cell? ⟨bx,1,none⟩=some (.string XB):=by rw[Rv.cell (p:=⟨bx,1,none⟩) (by simp;omega),aoJ _ _ _ W6];exact k1
     have c2:w6.cell? ⟨bx,2,none⟩=some (.string ⟨#[]⟩):=by rw[Rv.cell (p:=⟨bx,2,none⟩) (by simp;omega),aoJ _ _ _ W6];exact k2
     have d0:w6.cell? ⟨wr.heap.size,0,none⟩=some (.string rn):=by rw[Rv.cell (p:=⟨wr.heap.size,0,none⟩) (by simp),apv _ _ _ _ rfl];rfl
     have d1:w6.cell? ⟨wr.heap.size,1,none⟩=some (.string rb):=by rw[Rv.cell (p:=⟨wr.heap.size,1,none⟩) (by simp),apv _ _ _ _ rfl];rfl
     have d2:w6.cell? ⟨wr.heap.size,2,none⟩=some (.string rm):=by rw[Rv.cell (p:=⟨wr.heap.size,2,none⟩) (by simp),apv _ _ _ _ rfl];rfl
     have hw6:wr.heap.size<w6.heap.size:=by have:=Rv.size;simp at this;omega
     have aaK:Below w5.heap.size w5 w6:=(aH.alloc aH.size _).trans (Rv.mono (by simp;omega));have hot:=lL rb 0;have Fs:=xB rm;clear Rv k0 k1 k2 g0 g1 g2 Vd;rw[show jc XN XB rn rb rm 0 k false=fh XN XB k (rn,rb,rm)from rfl];have hzO:(str (dR XN XB k L n)).size<=90000000:=by rw[au];omega
     have hzA:(str (fh XN XB k (rn,rb,rm))).size<=7000000:=by rw[au];exact hAl
     have hzB:(str (jd XN XB k (rn,rb,rm))).size<=7000000:=by rw[au];exact hBl
     have ayP:(str (dR XN XB k L n)++str (fh XN XB k (rn,rb,rm))).size<=97000000:=by rw[aoF];omega
     have aqb:=qF (fh XN XB k (rn,rb,rm));have aqc:=qF (jd XN XB k (rn,rb,rm));have hLB:=fun W=>OK (decide (fh XN XB k (rn,rb,rm)≠ [])) XN XB ⟨#[]⟩ rn rb rm (bI rb 0) (str (dh rm)) 16 16 k rfl W (by omega) (by omega) (by omega) (by omega) (by omega) (by omega) (by omega);rw[show jc XN XB rn (bI rb 0) (str (dh rm)) 16 k (decide (fh XN XB k (rn,rb,rm)≠ []))=jd XN XB k (rn,rb,rm)from rfl]at hLB;have HOT:=laid (fun W=>O1 rb W (by omega));have HBK:=laid (fun W=>FC rm W (by omega));have Uu:=ajk (rn,rb,rm);have hzN:(str (pB (rn,rb,rm))).size<=1000:=by rw[au];exact DY (rn,rb,rm) ⟨dE,fU,bV⟩
     have ayS:(str (dR XN XB k L n)++str (pB (rn,rb,rm))).size<=97000000:=by rw[aoF];omega
     have v1:(⟨#[9,52,9,42,9,48,9,42,9,45,9,45,9]⟩:ByteArray).size=13:=rfl;have v2:(⟨#[9]⟩:ByteArray).size=1:=rfl;have n1:(rn++⟨#[9,52,9,42,9,48,9,42,9,45,9,45,9]⟩).size<=1000:=by simp only[aoF];omega
     have n2:(rn++⟨#[9,52,9,42,9,48,9,42,9,45,9,45,9]⟩++rb).size<=1000:=by simp only[aoF];omega
     have n3:(rn++⟨#[9,52,9,42,9,48,9,42,9,45,9,45,9]⟩++rb++⟨#[9]⟩).size<=1000:=by simp only[aoF];omega
     have n4:(rn++⟨#[9,52,9,42,9,48,9,42,9,45,9,45,9]⟩++rb++⟨#[9]⟩++rm).size<=1000:=by simp only[aoF];omega
     simp only at Uu;clear hol hAl hBl v1 v2;obtain⟨a1,a2,b2,HO,U9⟩:∃a1 a2 b2,Hid (str (dR XN XB k L n)++(if a2&&b2 then str (pB (rn,rb,rm))else str (fh XN XB k (rn,rb,rm)))++str (jd XN XB k (rn,rb,rm))=str (dR XN XB k L (n+1)))/\decide (fh XN XB k (rn,rb,rm)≠ [])=a1/\decide (fh XN XB k (rn,rb,rm)=[])=a2/\decide (jd XN XB k (rn,rb,rm)=[])=b2/\((a1=false/\a2=true/\b2=true)\/(a1=false/\a2=true/\b2=false)\/(a1=true/\a2=false)):=by
      refine⟨_,_,_,laid ?_,rfl,rfl,rfl,?_⟩
      ·by_cases hA:fh XN XB k (rn,rb,rm)=[]
       ·by_cases hB:jd XN XB k (rn,rb,rm)=[]
        ·rw[if_pos (by simp[hA,hB]),yy.out,QN hA hB,UW,hB,apY]
        ·rw[if_neg (by simp[hB]),yy.out,adB hB,UW,apd]
       ·rw[if_neg (by simp[hA]),yy.out,Vb hA,UW,apd]
      ·by_cases hA:fh XN XB k (rn,rb,rm)=[]<;>by_cases hB:jd XN XB k (rn,rb,rm)=[]<;>simp[hA,hB]
     obtain⟨e1,e2,e3,U9⟩:=U9;rw[e1]at hLB;rw[e2]at aqb;rw[e3]at aqc;clear e1 e2 e3 yy;generalize fh XN XB k (rn,rb,rm)=A at *;generalize jd XN XB k (rn,rb,rm)=BB at *;generalize dR XN XB k L n=O at *;generalize str (pB (rn,rb,rm))=NN at *;generalize str (dh rm)=BM at *;generalize bI rb 0=OB at *;have HLB:=laid hLB;clear hLB;rcases U9 with⟨rfl,rfl,rfl⟩|⟨rfl,rfl,rfl⟩|⟨rfl,rfl⟩
     all_goals
      go_wp2_with fail
      go_region_held3 (fun w'=>w'.cell? ⟨bx,0,none⟩=some (.string XN)/\w'.cell? ⟨bx,1,none⟩=some (.string XB)/\w'.cell? ⟨bx,2,none⟩=some (.string ⟨#[]⟩)/\w'.cell? ⟨wr.heap.size,0,none⟩=some (.string rn)/\w'.cell? ⟨wr.heap.size,1,none⟩=some (.string rb)/\w'.cell? ⟨wr.heap.size,2,none⟩=some (.string rm))
       (first|go_keep|(refine⟨?_,?_,?_,?_,?_,?_⟩<;>(rw[dk.cell (by simp;omega)];assumption)))
       (first
        |(go_at_call 83;refine(HOT.out _).mono ?_;rintro e w' ⟨rfl,rfl⟩)
        |(go_at_call 88;refine(HBK.out _).mono ?_;rintro e w' ⟨rfl,rfl⟩)
        |(go_at_call 87;refine(HLB.out _).mono ?_;rintro e w' ⟨rfl,dk⟩))
      have UM:Below w5.heap.size w5 w':=(Go.below_drewN aaK 1).trans (dk.mono aaK.size);rename_i I7;obtain⟨e0,e1,e2,f0,f1,f2⟩:=I7;go_wp2
      go_roundw
      case rel=>go_light;exact⟨n+1,by go_num,by omega,b_ HO.out,UM⟩
      case measure=>go_light;simp[intOf];omega
    ·have bj:n=L.length:=by omega
     have HF:Hid (str (dR XN XB k L n)=str RAW):=laid (by rw[aqa.out,bj]);clear bj;generalize dR XN XB k L n=O at *;go_wp2
     go_ret3
     exact⟨U_ HF.out rfl rfl,ajm.trans (aH.mono ajm.size)⟩
theorem MM(ref reads:ByteArray)(k q step wk:Int)(w:World)(h1:ref.size<=maxLen)(h2:reads.size<=maxLen):
  Calls aoy 57 #[.string ref,.string reads,.int .i64 k,.int .i64 q,.int .i64 step,.int .i64 wk] w fun e w'=>
   e=.returned (.tuple #[.string (qx ref reads k q step wk),.int .i64 (lA ref reads k q step wk),.int .i64 (xy ref reads)])/\Below w.heap.size w w':=by
 by_cases he:cK ref reads≠0
 ·have e1:lA ref reads k q step wk=cK ref _:=if_pos he;have e2:qx ref reads k q step wk=⟨#[]⟩:=by unfold qx;rw[e1,if_neg he]
  have e3:xy ref _=ja ref _:=if_pos he;rw[e1,e2,e3];exact MH ref _ k q _ wk w h1 h2 he
 have he0:=by simpa using he
 have e3:xy ref _=0:=if_neg he;by_cases hb:(fB k 30 q step=false\/wk<1\/8<wk)\/fewer (aj reads 5 0) k=false
 ·have e1:lA ref reads k q step wk=4:=by
   unfold lA;rw[if_neg he];by_cases cn:fB k 30 q step=false\/wk<1\/8<wk
   ·simp_all
   ·simp_all
  have e2:qx ref reads k q step wk=⟨#[]⟩:=by unfold qx;rw[e1];rfl
  rw[e1,e2,e3];exact MJ ref _ k q _ wk w h1 h2 he0 hb
 have cn:=fun h=>hb (.inl h);have di:=fun h=>hb (.inr h);have Kf:=by simpa using fun h=>cn (.inl h)
 have hfw:=by simpa using di
 have hk0:0<=k:=by have:=of_decide_eq_true Kf;omega
 have e1:lA ref reads k q step wk=0:=by unfold lA;rw[if_neg he,if_neg cn,if_neg di]
 have e2:qx ref reads k q step wk=str (xw ref reads k.toNat):=by unfold qx;rw[e1];rfl
 rw[e1,e2,e3];obtain⟨kn,rfl⟩:=Int.eq_ofNat_of_zero_le hk0;exact I6 ref _ kn q _ wk w h1 h2 he0 Kf (by omega) (by omega) hfw
end
section
open RowKit Maps
def jh(s:ByteArray)(q i:Nat):=(s.extract i (i+q)).data.toList
def zt(x:List UInt8):=!x.contains 78
def cg(s:ByteArray)(q:Nat)(x:List _)
 |0=>0
 |k+1=>cg s q x k+(if jh s q k=x/\zt x=true then 1 else 0)
theorem Bq(s:ByteArray)(q:Nat)(x:List _):∀k,cg s q x k<=k
 |0=>aoC _
 |k+1=>by have:=Bq s q x k;simp[cg];split<;>omega
def nD(s:ByteArray)(q:Nat)(x:List _):=cg s q x (s.size+1-q)
theorem FF(s:ByteArray)(q:Nat)(x:List _):nD s q x<=s.size+1:=by
 have:=Bq s q x (s.size+1-q);unfold nD;omega
theorem Br(hn:zt (jh s q k)=true):cg s q (jh s q k) (k+1)=cg s q (jh s q k) k+1:=by
 rw[cg,if_pos ⟨rfl,hn⟩]
theorem qy{x:List _}(hx:¬(jh s q k=x/\zt x=true)):cg s q x (k+1)=cg s q x k:=by
 simp[cg];simp_all
def mj(D:DataW Unit)(f:List UInt8->Nat):Prop:=
 IsMap D/\(∀x,D.atKey (.string x) (.lit (.int .i64 0))=.lit (.int .i64 (f x:Int)))/\∀x,has D (.string x)=true↔0<f x
theorem FG(s:ByteArray)(q:Nat):mj (.map []) (fun x=>cg s q x 0):=⟨isMap_empty,fun x=>rfl,fun x=>by rw[has_eq];simp[cg]⟩
theorem I8{D:DataW _}(h:mj D (fun x=>cg s q x k))(hn:zt (jh s q k)=false):mj D (fun x=>cg s q x (k+1)):=by
 have e:(fun x=>cg s q x (k+1))=fun x=>cg s q x k:=by
  funext x;exact qy (by rintro⟨rfl,h⟩;simp_all)
 simp_all
theorem MN{D:DataW _}(h:mj D (fun x=>cg s q x k))(hn:zt (jh s q k)=true)
  (hc:D.atKey (.string (jh s q k)) (.lit (.int .i64 0))=.lit (.int .i64 c)):mj (D.put (.string (jh s q k)) (.lit (.int .i64 (c+1)))) (fun x=>cg s q x (k+1)):=by
 have h1:=h.2.1 (jh s q k);rw[hc]at h1;have F9:=by simpa using h1
 have hkl:WideAt.IsKeyLit (.string (jh s q k)):=by first|trivial
 refine⟨h.1.put _ _,fun x=>?_,fun x=>?_⟩
 ·by_cases hx:x=jh s q k
  ·subst hx;rw[atKey_put_same h.1 hkl];show _=DataW.lit (.int .i64 ((cg s q _ _)))
   rw[Br hn,F9];simp
  ·rw[atKey_put_other (by simp_all),h.2.1 x];show _=DataW.lit (.int .i64 ((cg s q x _)))
   rw[qy (by rintro⟨e,_⟩;simp_all)]
 ·by_cases hx:x=jh s q k
  ·subst hx;rw[has_put_same h.1 hkl];show _↔0<cg s q _ (k+1)
   rw[Br hn];simp
  ·rw[has_put_other (by simp_all),h.2.2 x];show _↔0<cg s q x (k+1)
   rw[qy (by rintro⟨e,_⟩;simp_all)]
theorem Bs{D:DataW _}{f:List _->Nat}{x:List _}(h:mj D f)(hc:D.atKey (.string x) (.lit (.int .i64 0))=.lit (.int .i64 c)):c=(f x):=by
 have h1:=h.2.1 x;simp_all
theorem adE(l:List _):ao2 l 78<0↔zt l=true:=by
 unfold zt;induction l with
 |nil=>simp[ao2]
 |cons a l ih=>
  simp only[ao2];by_cases ha:a=78
  ·simp_all
  ·have h1:¬(a==78)=true:=by simp_all
   have h2:(List.contains (a::l) 78)=l.contains 78:=by
    rw[List.contains_cons];have:(78==a)=false:=by simpa using fun e=>ha e.symm
    simp_all
   rw[h2,if_neg h1,<-ih];by_cases hn:ao2 l 78= -1
   ·simp_all
   ·rw[if_neg (by simp_all)];omega
theorem Ve:Keyed aoy 9:=string_keyed aoS
theorem aaL(w:World):(zeroValue 3).run aoy w=.ok (.int .i64 0) w:=by simp
abbrev vi(w:World)(b n:Nat)(D:DataW Unit):=w.ownsMap aoy 9 (plainElem aoy 3) b n D
theorem Bt(s:ByteArray)(w:World):
  Calls aoy 99 #[.string s,.int .u8 78] w fun e w'=>e=.returned (.int .i64 (ao2 s.data.toList 78))/\w'=w:=Tryz.strings_IndexByte s 78 w
theorem rR(s:ByteArray)(q:Nat)(w:World)(hs:s.size<=1000)(hq:1<=q)(vy:q<=1000):
  Calls aoy 76 #[.string s,.int .i64 (q:Int)] w fun e w'=>e=.returned (.map (some w.heap.size))/\(∃(n:Nat) (D:DataW Unit),n<=1001/\vi w' w.heap.size n D/\mj D (nD s q))/\Below w.heap.size w w':=by
 have hmm:=@run_makeMap aoy
 go_enter Tryz.func76,Tryz.ntmps76
 go_wp2
 go_loopw [6] (fun ev wr=>∃(k:Nat) (D:DataW Unit),k<=s.size+1-q/\ev=.int .i64 ((q:Int)+(k:Int))/\vi wr w.heap.size k D/\Hid (mj D (fun x=>cg s q x k))/\Below w.heap.size w wr) (fun ev _=>s.size+1-(intOf ev).toNat)
 case atStart=>exact⟨0,.map [],aoI _,by simp,World.ownsMap_made _ _ _ _,laid (FG s q),(aoE _ _).alloc (aoC _) _⟩
 case round=>
  obtain⟨k,D,hk,rfl,aJ,HC,aH⟩:=hrel;by_cases aV:q+k<=s.size
  ·have Ku:ao4.wrap ((q:Int)+(k:Int)-(q:Int))=(k:Int):=by rw[show(q:Int)+(k:Int)-(q:Int)=(k:Int) by omega];exact aoR _ (by omega)
   have hX:(s.extract k (q+k)).data.toList=jh s q k:=by unfold jh;rw[Nat.add_comm q k]
   have hXs:(s.extract k (q+k)).size<=maxLen:=by rw[aoQ];unfold maxLen;omega
   have HX:=laid hX;clear hX;have HI:=laid (adE (jh s q k));have vN:=Bq s q (jh s q k) k;go_wp2_with fail
   refine(Bt _ _).mono ?_;rintro e w' ⟨rfl,rfl⟩;rw[HX.out];generalize ao2 (jh s q k) 78=ix at *;by_cases hix:ix<0
   ·have BP:=HI.out.1 hix;have HNO:=laid BP;have I9:keyOf aoy 9 (.string (s.extract k (q+k)))=some (.string (jh s q k)):=by rw[<-HX.out];exact WideMaps.keyOf_string_mk aoS hXs
    have HK:=laid I9;clear BP I9 HI;generalize s.extract k (q+k)=X at *;go_wp2_with(first
     |(at_lookup;refine wpList_lookup_own_int _ rfl _ _ 113 rfl 9 3 .i64 Ve apa ao0 (aaL _) w.heap.size k D rfl aJ _ _ rfl HK.out ?_;intro c tt hwc)
     |(at_mapUpdate;refine wpList_mapUpdate_own _ rfl _ _ _ 113 rfl 9 3 Ve apa _ w.heap.size k D rfl aJ (by unfold maxLen;omega) _ _ _ rfl rfl HK.out _ [] (plainElem_int ao0 (wrap64_wf _)) ?_;intro w1 yz adF)
     |go_in)
    have F9:=Bs HC.out tt;have e1:wrap64 (c+1)=c+1:=aqt (c+1) (by omega);rw[e1]at yz;have vB:=MN HC.out HNO.out tt;have di:Below w.heap.size w w1:=aH.grown adF aH.size (fun j hj=>by cases hj;exact aoC _)
    go_roundw
    case rel=>go_light;exact⟨k+1,_,by omega,ax (by omega),yz,laid vB,di⟩
    case measure=>go_light;simp[intOf];omega
   ·have BP:zt (jh s q k)=false:=by
     rw[<-aoV,<-HI.out];exact hix
    have vB:=I8 HC.out BP;have HC2:=laid vB;clear BP vB HI;generalize s.extract k (q+k)=X at *;go_wp2
    go_roundw
    case rel=>go_light;exact⟨k+1,D,by omega,ax (by omega),aJ.mono (by omega),HC2,aH⟩
    case measure=>go_light;simp[intOf];omega
  ·have hke:k=s.size+1-q:=by omega
   have HF:Hid (mj D (nD s q)):=laid (by have:=HC.out;unfold nD;rw[<-hke];exact this);clear hke;go_wp2
   go_ret
   exact⟨rfl,⟨k,D,by omega,aJ,HF.out⟩,aH⟩
theorem qV:a.data.toList=b.data.toList↔a=b:=⟨fun h=>ape (apP h),fun h=>by rw[h]⟩
theorem zu(r s:ByteArray)(hn:zt r.data.toList=true):∀k,pd r s k=cg s r.size r.data.toList k
 |0=>rfl
 |k+1=>by
  simp[pd,cg];rw[zu r s hn k];by_cases h:s.extract k (k+r.size)=r
  ·rw[if_pos ((za _ _).2 h),if_pos ⟨by unfold jh;rw[h],hn⟩]
  ·rw[if_neg (by rw[za];exact h),if_neg (by rintro⟨e,_⟩;exact h (qV.1 e))]
theorem DZ(r s:ByteArray):∀k,0<pd r s k↔∃j,j<k/\s.extract j (j+r.size)=r
 |0=>by simp[pd]
 |k+1=>by
  simp[pd];have ih:=DZ r s k;by_cases h:s.extract k (k+r.size)=r
  ·rw[if_pos ((za _ _).2 h)];exact⟨fun _=>⟨k,by omega,h⟩,fun _=>by omega⟩
  ·rw[if_neg (by rw[za];exact h),Nat.add_zero,ih];constructor
   ·rintro⟨j,hj,e⟩;exact⟨j,by omega,e⟩
   ·rintro⟨j,hj,e⟩;rcases apR j k with h1|h1
    ·exact⟨j,h1,e⟩
    ·obtain rfl:j=k:=by omega
     simp_all
theorem ajo(r:ByteArray):0<ri ⟨#[78]⟩ r↔zt r.data.toList=false:=by
 have mK:(⟨#[78]⟩:ByteArray).size=1:=rfl;unfold ri;rw[DZ,mK,Nat.add_sub_cancel];have key:∀j,j<r.size->(r.extract j (j+1)=⟨#[78]⟩↔r.data.toList[j]?=some 78):=by
  intro j hj;rw[<-qV];have h1:(r.extract j (j+1)).data.toList=(r.data.toList.drop j).take 1:=by simp
  have hl:=by simpa using hj
  rw[h1,ao9 hl,aoD hl];simp
 unfold zt;constructor
 ·rintro⟨j,hj,e⟩;have:=(key j hj).1 e;simp only[aqp,ap1];exact apB this
 ·intro h;simp only[aqp,ap1]at h;obtain⟨j,hj,e⟩:=ap6 h;exact⟨j,by simpa using hj,(key j (by simpa using hj)).2 (by rw[aoD hj,e])⟩
theorem xC(p:ByteArray)(n j q:Nat)(h:j+q<=n):(p.extract 0 n).extract j (j+q)=p.extract j (j+q):=by
 rw[<-qV];simp_all
theorem OL(p:ByteArray)(q n:Nat)(x:List _):∀k,k+q<=n+1->cg (p.extract 0 n) q x k=cg p q x k
 |0,_=>rfl
 |k+1,h=>by
  simp[cg];rw[OL p q n x k (by omega)];unfold jh;rw[xC p n k q (by omega)]
theorem Vf(p:ByteArray)(q k:Nat)(h:k+q<=p.size):(p.extract k (k+q)).size=q:=by simp_all
def gu(P S:ByteArray)(q:Nat)(x:List _):=min (nD P q x) (nD S q x)
theorem YL(P S:ByteArray)(q k:Nat)(hq:1<=q)(h:k+q<=P.size):
  abr P S q k=if cg P q (jh P q k) k=0/\zt (jh P q k)=true then gu P S q (jh P q k)else 0:=by
 have mK:=Vf P q k h;unfold abr;by_cases hn:zt (jh P q k)=true
 ·have hN:¬0<ri ⟨#[78]⟩ (P.extract k (k+q)):=by rw[ajo];show¬zt (jh P q k)=false;simp_all
  have hA:ri (P.extract k (k+q)) (P.extract 0 (k+q-1))=cg P q (jh P q k) k:=by
   unfold ri;rw[zu _ _ hn,mK,aoQ,show min _ P.size-0+1-q=k by omega];exact OL P q _ _ k (by omega)
  have hB:ri (P.extract k (k+q)) P=nD P q (jh P q k):=by
   unfold ri;rw[zu _ _ hn,mK];rfl
  have hC:ri (P.extract k (k+q)) S=nD S q (jh P q k):=by
   unfold ri;rw[zu _ _ hn,mK];rfl
  rw[hA,hB,hC];by_cases h0:cg P q (jh P q k) k=0
  ·rw[if_neg (by omega),if_pos ⟨h0,hn⟩];rfl
  ·simp_all
 ·have hN:0<ri ⟨#[78]⟩ (P.extract k (k+q)):=by rw[ajo];show zt (jh P q k)=false;simpa using hn
  simp_all
def oW(P:ByteArray)(q:Nat)
 |0=>[]
 |k+1=>if cg P q (jh P q k) k=0/\zt (jh P q k)=true then oW P q k++[jh P q k]else oW P q k
theorem oX(P:ByteArray)(q:Nat)(x:List _):∀k,x∈oW P q k↔0<cg P q x k
 |0=>by simp[oW,cg]
 |k+1=>by
  have ih:=oX P q x k;simp[oW,cg];by_cases h:cg P q (jh P q k) k=0/\zt (jh P q k)=true
  ·rw[if_pos h,aqU,apM,ih];by_cases hx:jh P q k=x
   ·simp_all
   ·rw[if_neg (fun e=>hx e.1)];exact⟨fun e=>e.elim (fun e=>by omega) (fun e=>absurd e.symm hx),fun e=>.inl (by omega)⟩
  ·rw[if_neg h,ih];by_cases hx:jh P q k=x/\zt x=true
   ·have h0:¬cg P q x k=0:=fun e=>h (by simp_all);omega
   ·rw[if_neg hx];omega
theorem lC(P:ByteArray)(q:Nat):∀k,(oW P q k).Nodup
 |0=>List.nodup_nil
 |k+1=>by
  simp[oW];split
  ·refine List.nodup_append.2 ⟨lC P q k,by simp,?_⟩;intro a ha b hb e;rw[apM]at hb;subst hb;subst e;have:=(oX P q _ k).1 ha;omega
  ·exact lC P q k
def gy(f:List UInt8->Nat)(l:List _):=(l.map f).sum
theorem D3(f:List _->Nat)(l:List _)(x:List _):gy f (l++[x])=gy f l+f x:=by simp[gy]
theorem QO(f:List _->Nat){l l':List _}(h:l.Perm l'):gy f l=gy f l':=(h.map f).sum_nat
theorem I_(P S:ByteArray)(q:Nat)(hq:1<=q):∀k,k+q<=P.size+1->Nr P S q k=gy (gu P S q) (oW P q k)
 |0,_=>rfl
 |k+1,h=>by
  simp[Nr,oW];rw[I_ P S q hq k (by omega),YL P S q k hq (by omega)];split
  ·rw[D3]
  ·simp
theorem Bu(P S:ByteArray)(q:Nat)(hq:1<=q)(ss:List _)(hnd:ss.Nodup)(hm:∀x,x∈ss↔0<nD P q x):gy (gu P S q) ss=BZ P S q:=by
 unfold BZ;by_cases h:q<=P.size+1
 ·rw[I_ P S q hq _ (by omega)];exact QO _ ((List.perm_ext_iff_of_nodup hnd (lC P q _)).2 fun x=>(hm x).trans (oX P q x _).symm)
 ·have e:P.size+1-q=0:=by omega
  rw[e];have:ss=[]:=by
   cases ss with
   |nil=>rfl
   |cons a l=>
    have:=(hm a).1 (by simp);unfold nD at this;rw[e]at this;simp[cg]at this
  rw[this];rfl
theorem OM(P S:ByteArray)(q:Nat):∀l,gy (gu P S q) l<=l.length *(S.size+1)
 |[]=>by simp[gy]
 |x::l=>by
  have ih:=OM P S q l;have h1:gu P S q x<=S.size+1:=aqd (Nat.min_le_right _ _) (FF S q x);have e:gy (gu P S q) (x::l)=gu P S q x+gy (gu P S q) l:=by simp[gy]
  rw[e,aoX,Nat.succ_mul];omega
end
section
open RowKit Maps
open Proofs (encStr)
theorem MO{b:Nat}{D:DataW _}(h:vi w b n D):Maps.size D<=n:=by
 obtain⟨es,clock,_,_,hn,rfl⟩:=h;rw[size_eq,length_sorted,aqV,apJ];exact hn
theorem MP(P S:ByteArray)(q b1 n1 b2 n2:Nat)(D1 D2:DataW Unit)(w:World)(hq:1<=q)(hs:S.size<=1000)(hn1:n1<=1001)
  (yz:vi w b1 n1 D1)(bP:vi w b2 n2 D2)(fq:mj D1 (nD P q))(BT:mj D2 (nD S q)):
  Calls aoy 78 #[.map (some b1),.map (some b2)] w fun e w'=>e=.returned (.int .i64 (BZ P S q:Int))/\Below w.heap.size w w':=by
 have HC1:=laid fq;have HC2:=laid BT;clear fq BT;have vG:=bP.lt;have mK:=MO yz
 go_enter Tryz.func78,Tryz.ntmps78
 go_wp2_with(first
  |(at_range;refine wpList_range_own _ rfl _ 113 rfl 9 3 Ve apa _ b1 n1 _ rfl yz ?_;intro w0 aqf hg0 hs0)
  |go_in)
 clear hs0
 go_frame
 go_loopw [5] (fun sv wr=>∃(left:Lit->Bool) (cnt:Nat) (ss:List (List UInt8)),wr.ranges aoy 9 (plainElem aoy 3) b1 w.heap.size n1 D1 left cnt/\vi wr b2 n2 D2/\Hid (Collected D1 left ss)/\ss.length+cnt<=Maps.size D1/\sv=.int .i64 (gy (gu P S q) ss:Int)/\Below w.heap.size w wr)
  (fun _ wr=>wr.rangeLeft b1 w.heap.size)
 case atStart=>exact⟨_,_,[],aqf,bP.kept hg0 (by simp),laid (Collected.start D1),by simp,rfl,(aoE _ _).grown hg0 (aoC _) (fun j hj=>by cases hj)⟩
 case round=>
  obtain⟨left,cnt,ss,hrg,how,HC,Rm,rfl,aH⟩:=hrel;have W9:gy (gu P S q) ss<=1002001:=by
   have h1:=OM P S q ss;have h2:ss.length *(S.size+1)<=1001 *1001:=apK (by omega) (by omega);omega
  go_wp2_with(first
   |(at_next;refine wpList_next_ranges _ rfl _ rfl 9 Ve (plainElem aoy 3) encStr (aqm .i64) (fun key kl hk=>by obtain⟨x,hx,_⟩:=Maps.keyOf_str aoS hk;exact⟨x,hx⟩) (fun v y hv=>by obtain⟨c,rfl,_⟩:=plainElem_int_inv ao0 hv;exact⟨c,rfl⟩) b1 w.heap.size n1 _ _ _ rfl hrg ?_ ?_)
   |go_in)
  ·intro hc0 hl0;have eU:gy (gu P S q) ss=BZ P S q:=Bu P S q hq ss HC.out.1 fun x=>by
    rw[HC.out.2 x,hl0,HC1.out.2.2 x];simp
   have zL:=laid eU;clear eU;go_wp2
   go_ret
   exact⟨jQ (by rw[zL.out]),aH⟩
  ·intro x c kl yd yp w2 aqg I9 Mo hv tt ajp aV fS Dx hen;obtain⟨x',ex,rfl,_⟩:=Maps.keyOf_str aoS I9;obtain rfl:x=x':=encStr_inj ex;obtain⟨c',ec,ey,_⟩:=plainElem_int_inv ao0 hv;obtain rfl:c=c':=by simpa using ec
   have hyd:yd=.lit (.int .i64 c):=congrArg Prod.fst ey;have F9:c=(nD P q x:Int):=Bs HC1.out (by rw[tt];exact hyd);have hC3:=laid (HC.out.step Mo tt);clear Dx hv ec ey tt hyd ex;have ajq:vi w2 b2 n2 D2:=how.kept fS (by intro e;cases e;omega);have di:Below w.heap.size w w2:=aH.grown fS aH.size (fun j hj=>by cases hj;exact aoC _);have ayY:=FF P q x;have ayZ:=FF S q x;have HK:=laid I9;have Sc:=laid ajp.left_eq;have aqh:=laid hrg.left_eq;clear I9 Mo;go_wp2_with(first
    |(at_lookup;refine wpList_lookup_own_int _ rfl _ _ 113 rfl 9 3 .i64 Ve apa ao0 (aaL _) b2 n2 D2 rfl ajq _ _ rfl HK.out ?_;intro c2 YH ay0)
    |go_in)
   have BT:=Bs HC2.out YH;have pq:wrap64 ((gy (gu P S q) ss:Int)+min (nD P q x:Int) c2)=(gy (gu P S q) (ss++[x]):Int):=by
    rw[D3,BT];have e:min (nD P q x:Int) (nD S q x:Int)=((gu P S q x:Nat):Int):=by unfold gu;omega
    rw[e,aqt _ (by omega)];omega
   go_roundw
   case rel=>go_light;exact⟨_,aqg,ss++[x],ajp,ajq,hC3,by rw[aoz];simp;omega,ax pq,di⟩
   case measure=>go_light;rw[Sc.out,aqh.out];exact aV
end
section
open RowKit
def sX(k q st:Int):Bool:=decide (0<=k/\k<=6/\1<=q/\q<=8/\1<=st/\st<=200)
theorem D5(k m q st:Int):fB k m q st=(sX k q st&&decide (k<m)):=by
 unfold fB sX;rw[Bool.eq_iff_iff];simp;omega
theorem QP(k q st:Int)(w:World):
  Calls aoy 45 #[.agg #[.int .i64 k,.int .i64 q,.int .i64 st]] w fun e w'=>e=.returned (.bool (sX k q st))/\Below w.heap.size w w':=by
 have hb:∀o,Below w.heap.size w (w.alloc o):=fun o=>(aoE _ _).alloc (aoC _) o;by_cases h1:0<=k
 case neg=>
  go_enter ao5,aoU
  go_wp2
  go_ret
  exact⟨bG (by unfold sX;rw[decide_eq_false (by omega)]),hb _⟩
 by_cases h2:k<=6
 case neg=>
  go_enter ao5,aoU
  go_wp2
  go_ret
  exact⟨bG (by unfold sX;rw[decide_eq_false (by omega)]),hb _⟩
 by_cases h3:1<=q
 case neg=>
  go_enter ao5,aoU
  go_wp2
  go_ret
  exact⟨bG (by unfold sX;rw[decide_eq_false (by omega)]),hb _⟩
 by_cases h4:q<=8
 case neg=>
  go_enter ao5,aoU
  go_wp2
  go_ret
  exact⟨bG (by unfold sX;rw[decide_eq_false (by omega)]),hb _⟩
 by_cases h5:1<=st
 case neg=>
  go_enter ao5,aoU
  go_wp2
  go_ret
  exact⟨bG (by unfold sX;rw[decide_eq_false (by omega)]),hb _⟩
 by_cases h6:st<=200
 case neg=>
  go_enter ao5,aoU
  go_wp2
  go_ret
  exact⟨bG (by unfold sX;rw[decide_eq_false (by omega)]),hb _⟩
 go_enter ao5,aoU
 go_wp2
 go_ret
 exact⟨bG (by unfold sX;rw[decide_eq_true (by omega)]),hb _⟩
theorem FH(k q st:Int)(S:ByteArray)(w:World)(hS:S.size<=1000):
  Calls aoy 46 #[.agg #[.int .i64 k,.int .i64 q,.int .i64 st],.string S] w fun e w'=>e=.returned (.bool (decide (k<(S.size:Int))))/\Below w.heap.size w w':=by
 go_wp2
 go_ret
 exact⟨rfl,(aoE _ _).alloc (aoC _) _⟩
theorem adG(len k q m:Nat)(hm:(k:Int) *(q:Int)=(m:Int)):MB len k q=(len:Int)-(q:Int)+1-(m:Int):=by
 unfold MB;have:k *q=m:=by omega
 rw[this]
theorem MQ(k q st len:Nat)(w:World)(hk:k<=6)(hq:q<=8)(hl:len<=1000):
  Calls aoy 75 #[.agg #[.int .i64 (k:Int),.int .i64 (q:Int),.int .i64 (st:Int)],.int .i64 (len:Int)] w fun e w'=>e=.returned (.int .i64 (MB len k q))/\Below w.heap.size w w':=by
 obtain⟨m,hm,W4⟩:∃m:Nat,(k:Int) *(q:Int)=(m:Int)/\m<=48:=⟨k *q,by simp,by have:=apK hk hq;omega⟩;rw[adG len k q m hm];go_wp2
 go_ret
 exact⟨rfl,(aoE _ _).alloc (aoC _) _⟩
theorem Ja(X:ByteArray)(k q st len b:Nat)(w:World)(hX:X.size<=1000)(hk:k<=6)(hs:st<=200)(hl:len<=1000)(hb:b *st<=X.size)(Rk:b<=100000):
  Calls aoy 77 #[.agg #[.int .i64 (k:Int),.int .i64 (q:Int),.int .i64 (st:Int)],.string X,.int .i64 (len:Int),.int .i64 (b:Int)] w fun e w'=>e=.returned (.string (X.extract (b *st) (ve len X.size k st b)))/\Below w.heap.size w w':=by
 have aaM:ve len X.size k st b=min (b *st+st+len+k) X.size:=rfl;rw[aaM];obtain⟨m,JX,hm⟩:∃m:Nat,b *st=m/\(b:Int) *(st:Int)=(m:Int):=⟨b *st,rfl,by simp⟩;rw[JX]at hb⊢;clear JX aaM;have RX:min ((m:Int)+(st:Int)+(len:Int)+(k:Int)) (X.size:Int)=((min (m+st+len+k) X.size:Nat):Int):=by omega
 go_wp2
 go_ret
 exact⟨rfl,(aoE _ _).alloc (aoC _) _⟩
theorem Jb(L:List _)(i:Nat)(r:ByteArray×ByteArray×ByteArray)(h:L[i]?=some r):(dv L)[i *3]?=some (.string r.1)/\(dv L)[i *3+1]?=some (.string r.2.1)/\(dv L)[i *3+2]?=some (.string r.2.2):=by
 induction L generalizing i with
 |nil=>simp at h
 |cons a L ih=>
  cases i with
  |zero=>simp at h;subst h;exact⟨rfl,rfl,rfl⟩
  |succ i=>
   have:=ih i (by simp_all);rw[show(i+1) *3=i *3+1+1+1 by omega];exact this
def ZB3(w:World)(b:Nat)(k q st:Int):=w.heap[b]?=some (.cells #[.int .i64 k,.int .i64 q,.int .i64 st] 75 (0,0))
def cY(k:Int)(L:List (ByteArray×ByteArray×ByteArray)):Bool:=L.all fun r=>decide (k<(r.2.1.size:Int))
theorem yZ(k q st:Int)(L:List (ByteArray×ByteArray×ByteArray))(v:Value)(B:Nat)(w:World)(dz:w.ownsRow B 131 3 v L.length (dv L))(hl:L.length<=1000)(hs:∀r∈L,r.2.1.size<=1000):
  Calls aoy 59 #[.agg #[.int .i64 k,.int .i64 q,.int .i64 st],v] w fun e w'=>e=.returned (.bool (cY k L))/\Below w.heap.size w w':=by
 obtain⟨p,c,hv,fF⟩:∃(p:Option Addr) (c:Nat),v=.slice p L.length c/\Hid (∀i (r:ByteArray×ByteArray×ByteArray),L[i]?=some r->∃g,p=some ⟨g,0,none⟩/\g<w.heap.size/\w.cell? ⟨g,i *3,none⟩=some (.string r.1)/\w.cell? ⟨g,i *3+1,none⟩=some (.string r.2.1)/\w.cell? ⟨g,i *3+2,none⟩=some (.string r.2.2)):=by
  rcases dz.2 with⟨rfl,h0⟩|⟨g,cap,cur,rfl,hB,hg,fq,BT,hc3,hc4⟩
  ·refine⟨none,0,by rw[h0],laid fun i r hr=>?_⟩;have:L=[]:=List.length_eq_zero_iff.1 h0;subst this;simp at hr
  ·refine⟨some ⟨g,0,none⟩,cap,rfl,laid fun i r hr=>⟨g,rfl,(ao1.1 hg).1,?_⟩⟩;have h:=Jb L i r hr;have f:=dz.cells (g:=g) rfl;have f0:=f _ _ h.1;have f1:=f _ _ h.2.1;have f2:=f _ _ h.2.2;rw[iM]at f0 f1 f2;exact⟨f0,f1,f2⟩
 subst hv;have HS:=laid hs;have HSV:=laid (fun(S:ByteArray) (W:World) (h:S.size<=1000)=>FH k q st S W h);clear dz hs
 go_enter Tryz.func59,Tryz.ntmps59
 go_wp2
 have h0:Hid (ZB3 (w.alloc (.cells #[.int .i64 k,.int .i64 q,.int .i64 st] 75)) w.heap.size k q st):=laid (heap_alloc_new w _)
 go_loopw [9] (fun iv wr=>∃i:Nat,iv=.int .i64 (i:Int)/\i<=L.length/\Hid (cY k (L.take i)=true)/\ZB3 wr w.heap.size k q st/\Below w.heap.size w wr) (fun iv _=>L.length-(intOf iv).toNat)
 case atStart=>exact⟨0,rfl,aoI _,laid rfl,h0.out,(aoE _ _).alloc (aoC _) _⟩
 case round=>
  obtain⟨i,rfl,Kc,HA,hz,aH⟩:=hrel;clear h0;by_cases aV:i<L.length
  ·obtain⟨r,hr⟩:∃r,L[i]?=some r:=⟨L[i],aoD aV⟩;obtain⟨g,rfl,hg,k0,k1,k2⟩:=fF.out i r hr;have hrs:=HS.out r (apB hr);have HTK:Hid (L.take (i+1)=L.take i++[r]):=laid (by rw[aqq,hr];rfl);have adH:=laid (apB hr);obtain⟨ra,rb,rc⟩:=r;simp only at k0 k1 k2 hrs;have c0:wr.cell? ⟨g,i *3,none⟩=some (.string ra):=by rw[aH.cell (p:=⟨g,i *3,none⟩) hg];exact k0
   have c1:wr.cell? ⟨g,i *3+1,none⟩=some (.string rb):=by rw[aH.cell (p:=⟨g,i *3+1,none⟩) hg];exact k1
   have c2:wr.cell? ⟨g,i *3+2,none⟩=some (.string rc):=by rw[aH.cell (p:=⟨g,i *3+2,none⟩) hg];exact k2
   have tm:g<wr.heap.size:=Nat.lt_of_lt_of_le hg aH.size;have Kd:w.heap.size<wr.heap.size:=(ao1.1 hz).1;have z0:wr.cell? ⟨w.heap.size,0,none⟩=some (.int .i64 k):=by rw[cell_of_row wr _ 0 _ _ _ hz];rfl
   have z1:wr.cell? ⟨w.heap.size,1,none⟩=some (.int .i64 q):=by rw[cell_of_row wr _ 1 _ _ _ hz];rfl
   have z2:wr.cell? ⟨w.heap.size,2,none⟩=some (.int .i64 st):=by rw[cell_of_row wr _ 2 _ _ _ hz];rfl
   have b1:(i:Int)<(L.length:Int):=by omega
   have b2:(0:Int)<=(i:Int):=by omega
   have x1:ao4.wrap ((i:Int)+1)=(i:Int)+1:=aoR _ (by omega);have HZ:=laid hz;clear hr k0 k1 k2 hz;go_wp2_with fail
   refine(HSV.out rb _ hrs).mono ?_;rintro e w2 ⟨rfl,di⟩;have adI:Below wr.heap.size wr w2:=((aoE _ _).alloc (aoC _) _).trans (di.mono (by simp));have iI:ZB3 w2 w.heap.size k q st:=by unfold ZB3;rw[adI.block _ Kd];exact HZ.out
   have aM:Below w.heap.size w w2:=aH.trans (adI.mono aH.size);clear di adI;by_cases hkr:k<(rb.size:Int)
   ·have HN:Hid (cY k (L.take (i+1))=true):=laid (by
     rw[HTK.out];unfold cY;rw[List.all_append];have:=HA.out;unfold cY at this;rw[this];simp[hkr])
    have HZ2:=laid iI;rw[decide_eq_true hkr];clear iI HTK adH HA;go_wp2
    go_roundw
    case rel=>go_light;exact⟨i+1,by go_num,by omega,HN,HZ2.out,aM⟩
    case measure=>go_light;simp[intOf];omega
   ·have HN:Hid (cY k L=false):=laid (by
     unfold cY;rw[aqs];exact⟨_,adH.out,by simpa using hkr⟩)
    rw[decide_eq_false hkr];clear iI HTK adH HA hkr;go_wp2
    go_ret
    exact⟨bG HN.out.symm,aM⟩
  ·have HN:Hid (cY k L=true):=laid (by
    have:=HA.out;rw[List.take_of_length_le (by omega)]at this;exact this)
   clear HA hz;go_wp2
   go_ret
   exact⟨bG HN.out.symm,aH⟩
end
section
open RowKit Maps
def bH(P X:ByteArray)(k q st:Nat)(t:Int)
 |0=>[]
 |b+1=>if looked P X k q st t b=true then bH P X k q st t b++[b]else bH P X k q st t b
theorem qz(P X:ByteArray)(k q st:Nat)(t:Int):∀n,(bH P X k q st t n).length<=n
 |0=>aoC _
 |n+1=>by
  have:=qz P X k q st t n;simp[bH];split
  ·simp_all
  ·omega
theorem yA{st:Nat}{t:Int}{b:Nat}(h:looked P X k q st t b=true):bH P X k q st t (b+1)=bH P X k q st t b++[b]:=by
 rw[bH,if_pos h]
theorem MR{st:Nat}{t:Int}{b:Nat}(h:looked P X k q st t b=false):bH P X k q st t (b+1)=bH P X k q st t b:=by
 rw[bH,if_neg (by simp[h])]
def sY(z:Nat):Value:=.int .i64 (z:Int)
def ST(w:World)(p:Nat)(k q st:Nat):Prop:=w.heap[p]?=some (.cells #[.int .i64 (k:Int),.int .i64 (q:Int),.int .i64 (st:Int)] 75 (0,0))
theorem ST.c0{st:Nat}(h:ST w p k q st):w.cell? ⟨p,0,none⟩=some (.int .i64 k):=by rw[cell_of_row w p 0 _ _ _ h];rfl
theorem ST.c1{st:Nat}(h:ST w p k q st):w.cell? ⟨p,1,none⟩=some (.int .i64 q):=by rw[cell_of_row w p 1 _ _ _ h];rfl
theorem ST.c2{st:Nat}(h:ST w p k q st):w.cell? ⟨p,2,none⟩=some (.int .i64 st):=by rw[cell_of_row w p 2 _ _ _ h];rfl
theorem ST.lt{st:Nat}(h:ST w p k q st):p<w.heap.size:=by
 have:=block_lt_of_cell h.c0;omega
theorem ST.below{st:Nat}(h:ST w p k q st)(hb:Below B w w')(aV:p<B):ST w' p k q st:=by unfold ST at *;rw[hb.block p aV];exact h
theorem ST.new(w:World)(k q st:Nat):ST (w.alloc (.cells #[.int .i64 k,.int .i64 q,.int .i64 st] 75)) w.heap.size k q st:=heap_alloc_new w _
theorem YM:(aoy.info? 3).map (fun i=>(i.zero,i.size,i.bytes))=some (some (.int .i64 0),1,8):=by kernel_rfl
theorem vj{xs:List _}(h:w.ownsRow B e 1 v n xs)(hb:Below w.heap.size w w'):w'.ownsRow B e 1 v n xs:=
 h.kept (cI hb none) (by cases v.ownBlock<;>simp)
theorem Jc{b:Nat}{D:DataW _}(h:vi w b n D)(hb:Below B w w')(aV:b<B):vi w' b n D:=by
 obtain⟨es,clock,hh,r⟩:=h;exact⟨es,clock,by rw[hb.block b aV];exact hh,r⟩
theorem nZ{B':Nat}{xs:List _}(h:w.ownsRow B e 1 v n xs)(hB:B'<=B):w.ownsRow B' e 1 v n xs:=by
 refine⟨h.1,?_⟩;rcases h.2 with h'|⟨g,cap,cur,h1,h2,h3⟩
 ·simp_all
 ·exact .inr ⟨g,cap,cur,h1,by omega,h3⟩
theorem FI(X P:ByteArray)(k q st:Nat)(w:World)(hX:X.size<=200)(hP:P.size<=30)(hk:k<=6)(hq:1<=q)(vy:q<=8)(hs:1<=st)(qb:st<=200):
  Calls aoy 48 #[.string X,.string P,.agg #[.int .i64 (k:Int),.int .i64 (q:Int),.int .i64 (st:Int)]] w fun e w'=>
   ∃v,e=.returned v/\w'.ownsRow w.heap.size 3 1 v (bH P X k q st (MB P.size k q) (stretches X.size st)).length ((bH P X k q st (MB P.size k q) (stretches X.size st)).map sY)/\Below w.heap.size w w':=by
 obtain⟨i0,hi,nJ,kK,iI⟩:=info_parts YM;have htl: -1000<=MB P.size k q/\MB P.size k q<=1000:=by
  unfold MB;have:=apK hk vy;omega
 have Gu:=laid (fun b=>lr X.size st b hs);have Hh:stretches X.size st<=400:=by
  unfold stretches;have:=Nat.div_le_self (X.size+st-1) st;omega
 generalize hT:MB P.size k q=t at *;have HT:=laid hT;clear hT
 go_enter Tryz.func48,Tryz.ntmps48
 go_wp2_with fail
 refine(MQ k q st P.size _ hk vy (by omega)).mono ?_;rintro e w1 ⟨rfl,cn⟩;have YN:=(ST.new w k q st).below cn (by simp);have Cu:Below w.heap.size w w1:=((aoE _ _).alloc (aoC _) _).trans (cn.mono (by simp));clear cn;rw[HT.out];clear HT;have c1:=YN.c1;go_wp2_with fail
 refine(rR P q _ (by omega) hq (by omega)).mono ?_;rintro e w2 ⟨rfl,⟨n1,D1,hn1,yz,ajr⟩,di⟩;have O8:=YN.below di YN.lt;have vg:Below w.heap.size w w2:=Cu.trans (di.mono Cu.size);have ZA:=O8.lt;have aqj:=yz.lt;clear di Cu YN c1;have HCN:=laid ajr;clear ajr;generalize w1.heap.size=b1 at *;go_wp2
 go_loopw [9,10] (fun v num wr=>∃b:Nat,num=.int .i64 (b:Int)/\b<=stretches X.size st/\wr.ownsRow w2.heap.size 3 1 v (bH P X k q st t b).length ((bH P X k q st t b).map sY)/\Below w2.heap.size w2 wr) (fun _ num _=>stretches X.size st-(intOf num).toNat)
 case atStart=>exact⟨0,rfl,aoI _,⟨rfl,.inl ⟨rfl,rfl⟩⟩,aoE _ _⟩
 case round=>
  obtain⟨b,rfl,hb,dz,aH⟩:=hrel;have aA:=O8.below aH ZA;have c0:=aA.c0;have c1:=aA.c1;have c2:=aA.c2;have hll:=qz P X k q st t b;have Mo:Hid (looked P X k q st t b=(decide (t<=0)||decide (t<=(BZ P (X.extract (b *st) (ve P.size X.size k st b)) q:Int)))):=laid rfl;by_cases aV:b<stretches X.size st
  ·have hbs:=(Gu.out b).2 aV;have hSt:=laid (fun W=>Ja X k q st P.size b W (by omega) hk qb (by omega) (by omega) (by omega));obtain⟨m,JX,hm⟩:∃m:Nat,b *st=m/\(b:Int) *(st:Int)=(m:Int):=⟨b *st,rfl,by simp⟩;rw[JX]at hbs;have hS:(X.extract (b *st) (ve P.size X.size k st b)).size<=1000:=by rw[aoQ];omega
   generalize X.extract (b *st) (ve P.size X.size k st b)=S at *;clear JX;go_wp2_with fail
   refine(hSt.out _).mono ?_;rintro e w3 ⟨rfl,fj⟩;have D6:=vj dz fj;have dx:=aH.trans (fj.mono aH.size);clear fj hSt;by_cases ht0:t<=0
   ·have HY:Hid (looked P X k q st t b=true):=laid (by rw[Mo.out,decide_eq_true ht0];rfl);clear Mo;go_wp2_with(first
     |(at_builtin;refine wpList_append_own _ rfl _ _ 25 rfl w2.heap.size 3 i0 (.int .i64 0) 1 8 aqv hi nJ kK iI rfl (by decide) _ _ _ rfl (D6.alloc _) ⟨w3.heap.size,0,none⟩ 1 1 [sY b] rfl rfl ?c1 ?c2 ?c3 ?c4 ?c5 ?_)
     |go_in)
    case c1=>
     intro j u hj
     match j,hj with
     |0,hj=>simp at hj;subst hj;simp[ao_,sY]
    case c2=>intro u hu;simp at hu;subst hu;rfl
    case c3=>unfold maxLen;omega
    case c4=>omega
    case c5=>have:=dx.size;simp;omega
    intro v' wz aW aD _;have gV:Below w2.heap.size w2 wz:=(dx.alloc dx.size _).grown aD (by have:=dx.size;simp;omega) (fun j hj=>(D6.lt j hj).1);have fc:wz.ownsRow w2.heap.size 3 1 v' (bH P X k q st t (b+1)).length ((bH P X k q st t (b+1)).map sY):=by
     rw[yA HY.out,aoz,aqX];exact aW
    obtain⟨g,cap,n',rfl⟩:∃g cap n',v'=.slice (some ⟨g,0,none⟩) n' cap:=by
     rcases aW.2 with⟨_,h0⟩|⟨g,cap,cur,hv,_⟩
     ·omega
     ·exact⟨g,cap,_,hv⟩
    clear aW aD;go_wp2
    go_roundw
    case rel=>go_light;exact⟨b+1,by go_num,by omega,fc,gV⟩
    case measure=>go_light;simp[intOf];omega
   ·have aql:=O8.below dx ZA;have d1:=aql.c1;clear c0 c1 c2;go_wp2_with fail
    refine(rR S q _ hS hq (by omega)).mono ?_;rintro e w4 ⟨rfl,⟨n2,D2,hn2,bP,ajs⟩,sU⟩;have iN:=dx.trans (sU.mono dx.size);have ku:=vj D6 sU;have aaN:=Jc yz iN aqj;have ajt:=laid ajs;clear ajs sU;go_wp2_with fail
    refine(MP P S q b1 n1 _ n2 D1 D2 _ hq hS hn1 aaN bP HCN.out ajt.out).mono ?_;rintro e w5 ⟨rfl,Ka⟩;have Jd:=iN.trans (Ka.mono iN.size);have nh:=vj ku Ka;clear Ka aaN bP ajt;by_cases hge:t<=(BZ P S q:Int)
    ·have HY:Hid (looked P X k q st t b=true):=laid (by rw[Mo.out,decide_eq_true hge,Bool.or_true]);clear Mo;go_wp2_with(first
      |(at_builtin;refine wpList_append_own _ rfl _ _ 25 rfl w2.heap.size 3 i0 (.int .i64 0) 1 8 aqv hi nJ kK iI rfl (by decide) _ _ _ rfl (nh.alloc _) ⟨w5.heap.size,0,none⟩ 1 1 [sY b] rfl rfl ?c1 ?c2 ?c3 ?c4 ?c5 ?_)
      |go_in)
     case c1=>
      intro j u hj
      match j,hj with
      |0,hj=>simp at hj;subst hj;simp[ao_,sY]
     case c2=>intro u hu;simp at hu;subst hu;rfl
     case c3=>unfold maxLen;omega
     case c4=>omega
     case c5=>have:=Jd.size;simp;omega
     intro v' wz aW aD _;have gV:Below w2.heap.size w2 wz:=(Jd.alloc Jd.size _).grown aD (by have:=Jd.size;simp;omega) (fun j hj=>(nh.lt j hj).1);have fc:wz.ownsRow w2.heap.size 3 1 v' (bH P X k q st t (b+1)).length ((bH P X k q st t (b+1)).map sY):=by
      rw[yA HY.out,aoz,aqX];exact aW
     obtain⟨g,cap,n',rfl⟩:∃g cap n',v'=.slice (some ⟨g,0,none⟩) n' cap:=by
      rcases aW.2 with⟨_,h0⟩|⟨g,cap,cur,hv,_⟩
      ·omega
      ·exact⟨g,cap,_,hv⟩
     clear aW aD;go_wp2
     go_roundw
     case rel=>go_light;exact⟨b+1,by go_num,by omega,fc,gV⟩
     case measure=>go_light;simp[intOf];omega
    ·have HY:Hid (looked P X k q st t b=false):=laid (by rw[Mo.out,decide_eq_false (by omega),decide_eq_false (by omega)];rfl);clear Mo;have fc:w5.ownsRow w2.heap.size 3 1 u9 (bH P X k q st t (b+1)).length ((bH P X k q st t (b+1)).map sY):=by
      rw[MR HY.out];exact nh
     go_wp2
     go_roundw
     case rel=>go_light;exact⟨b+1,by go_num,by omega,fc,Jd⟩
     case measure=>go_light;simp[intOf];omega
  ·have Kb:b=stretches X.size st:=by omega
   have hbs:=fun h=>aV ((Gu.out b).1 h);obtain⟨m,JX,hm⟩:∃m:Nat,b *st=m/\(b:Int) *(st:Int)=(m:Int):=⟨b *st,rfl,by simp⟩;rw[JX]at hbs;have hmb:m<=100000:=by rw[<-JX];exact aqd (apK (show b<=400 by omega) qb) (by omega)
   clear JX;have hms:X.size<=m:=Nat.le_of_not_lt hbs;have HBE:=laid Kb;clear hbs Kb;go_wp2
   go_ret
   exact⟨u9,rfl,by rw[<-HBE.out];exact nZ dz (by omega),vg.trans (aH.mono (by omega))⟩
end
section
open RowKit
theorem MS(n:Nat):ap5 n=a_ n:=by
 induction n using Nat.strongRecOn with
 |_ n ih=>
  by_cases h:n<10
  ·rw[ap5,dif_pos h,jx n (by omega)];rfl
  ·rw[ap5,dif_neg h,pV n (by omega),ih _ (by omega)];rfl
theorem Je(z:Nat)(w:World)(hz:z<=9999)(mD:cf w):
  Calls aoy 74 #[.int .i64 z] w fun e w'=>e=.returned (.string (str (a_ z)))/\Below w.heap.size w w':=by
 refine(Tryz.strconv_Itoa _ (by omega) (by omega) w mD).mono ?_;rintro e w' ⟨rfl,k,os,rfl⟩;rw[Lib.itoa_nonneg,MS];exact⟨rfl,Lib.below_grow _ w (aoC _) k os⟩
theorem yB{p:Value}{bs:List _}(h:Lib.BuilderAt 102 5 B B p bs w)(hb:Below w.heap.size w w'):Lib.BuilderAt 102 5 B B p bs w':=by
 obtain⟨hB,v,hh,aJ,bj⟩:=h;have aV:=Lib.BuilderAt.lt ⟨hB,v,hh,aJ,bj⟩;exact⟨hB,v,by rw[hb.block B aV];exact hh,vj aJ hb,bj⟩
theorem ie.below{acc:List _}(h:ie B acc w)(hb:Below w.heap.size w w'):ie B acc w':=
 h.imp (fun h=>yB h hb) (fun h=>yB h hb)
theorem Jf(B:Nat)(acc:List _)(c:UInt8)(w:World)(h:ie B acc w)(hl:acc.length+1<=1000000):
  Calls aoy 73 #[.pointer (some ⟨B,0,none⟩),.int .u8 c.toNat] w fun e w'=>e=.returned .nilIface/\ie B (acc++[c]) w'/\Below B w w':=by
 refine(Cr B B _ _ w h (by simp[apN];omega) (by have:=h.lt;omega)).mono ?_;rintro e w' ⟨he,h1,h2⟩;have e1:apN acc++[aqm .u8 c.toNat]=apN (acc++[c]):=by simp[apN]
 simp_all
theorem qW(x:Int)(z:Nat)(hx:x=z)(w:World)(hz:z<=9999)(mD:cf w):
  Calls aoy 74 #[.int .i64 x] w fun e w'=>e=.returned (.string (str (a_ z)))/\Below w.heap.size w w':=by subst hx;exact Je z w hz mD
theorem MT(s:ByteArray)(w:World)(hs:s.size<=1000)(mD:cf w):
  Calls aoy 127 #[.string s] w fun e w'=>e=.returned (.string (str (jm s)))/\Below w.heap.size w w':=by
 have HT:=laid mD;clear mD
 go_enter Tryz.func127,Tryz.ntmps127
 go_wp2
 go_loopw [4,8] (fun rv iv wr=>∃i:Nat,rv=.int .i64 ((cW s i).2:Int)/\iv=.int .i64 (i:Int)/\i<=s.size/\ie w.heap.size (cW s i).1 wr/\Below w.heap.size w wr) (fun _ iv _=>s.size-(intOf iv).toNat)
 case atStart=>exact⟨0,rfl,rfl,aoI _,ie.new w,(aoE _ _).alloc (aoC _) _⟩
 case round=>
  obtain⟨i,rfl,rfl,his,pK,aH⟩:=hrel;have hle:=zp s i (by omega);by_cases aV:i<s.size
  ·have ry:(i:Int)<(s.size:Int):=by omega
   have tG:(0:Int)<=(i:Int):=by omega
   have tt:=cZ s i aV;have HY:=laid (@I2 s i);have HN:=laid (@OD s i);have V4:=bZ ((cW s i).2+1) (by omega);have x1:ao4.wrap ((i:Int)+1)=(i:Int)+1:=aoR _ (by omega);have x2:ao4.wrap (((cW s i).2:Int)+1)=((cW s i).2:Int)+1:=aoR _ (by omega);have HI:Hid (∀W:World,Below w.heap.size w W->Calls aoy 74 #[.int .i64 (((cW s i).2:Int)+1)] W fun e w'=>e=.returned (.string (str (a_ ((cW s i).2+1))))/\Below W.heap.size W w'):=laid (fun W hW=>qW _ ((cW s i).2+1) (by omega) W (by omega) (HT.out.on hW));have hn1:(cW s i).2<=1000:=by omega
   have hO:(cW s i).1.length<=5000:=by omega
   generalize(cW s i).1=O at *;generalize(cW s i).2=n at *;by_cases xD:i+1=s.size\/at8 s (i+1)≠at8 s i
   ·have HE:=laid (HY.out xD);clear HY HN hle;have Vg:((i:Int)+1==(s.size:Int))=true\/(((i:Int)+1==(s.size:Int))=false/\i+1<s.size/\(((at8 s (i+1)).toNat:Int) != ((at8 s i).toNat:Int))=true):=by
     by_cases bR:i+1=s.size
     ·left;simp;omega
     ·right;refine⟨by simp;omega,by omega,?_⟩;rcases xD with h|h
      ·exact absurd h bR
      ·exact toNat_ne h
    clear xD;rcases Vg with te|⟨te,vL,hq⟩
    ·go_wp2_with fail
     go_quiet(fail)
     have Cv:=pK.drewN nq;have kU:=Go.below_drewN aH nq;go_wp2_with fail
     refine(HI.out _ kU).mono ?_;rintro e w2 ⟨rfl,di⟩;have jN:=Cv.below di;have aM:=kU.trans (di.mono kU.size);clear di pK aH Cv kU HI;go_wp2_with fail
     refine(u_ _ _ (str (a_ (n+1))) _ jN (by rw[au];omega)).mono ?_;rintro e w3 ⟨rfl,pM,fj⟩;have dx:=aM.trans fj;clear fj jN;go_wp2_with fail
     refine(Jf _ _ (at8 s i) _ pM (by rw[aoz];show _+(a_ (n+1)).length+1<=_;omega)).mono ?_;rintro e w4 ⟨rfl,vk,sU⟩;have iN:=dx.trans sU;have HB4:=laid vk;clear sU pM vk;go_wp2
     go_roundw
     case rel=>go_light;exact⟨i+1,ax (by rw[HE.out];rfl),by go_num,by omega,by rw[HE.out];exact HB4.out,iN⟩
     case measure=>go_light;simp[intOf];omega
    ·have WB:(i:Int)+1<(s.size:Int):=by omega
     have hi3:(0:Int)<=(i:Int)+1:=by omega
     have YH:=cZ s (i+1) vL;go_wp2_with fail
     go_quiet(fail)
     have Cv:=pK.drewN nq;have kU:=Go.below_drewN aH nq;go_wp2_with fail
     refine(HI.out _ kU).mono ?_;rintro e w2 ⟨rfl,di⟩;have jN:=Cv.below di;have aM:=kU.trans (di.mono kU.size);clear di pK aH Cv kU HI;go_wp2_with fail
     refine(u_ _ _ (str (a_ (n+1))) _ jN (by rw[au];omega)).mono ?_;rintro e w3 ⟨rfl,pM,fj⟩;have dx:=aM.trans fj;clear fj jN;go_wp2_with fail
     refine(Jf _ _ (at8 s i) _ pM (by rw[aoz];show _+(a_ (n+1)).length+1<=_;omega)).mono ?_;rintro e w4 ⟨rfl,vk,sU⟩;have iN:=dx.trans sU;have HB4:=laid vk;clear sU pM vk;go_wp2
     go_roundw
     case rel=>go_light;exact⟨i+1,ax (by rw[HE.out];rfl),by go_num,by omega,by rw[HE.out];exact HB4.out,iN⟩
     case measure=>go_light;simp[intOf];omega
   ·have HE:=laid (HN.out xD);have bR:i+1≠s.size:=fun h=>xD (.inl h);have bj:at8 s (i+1)=at8 s i:=Classical.byContradiction fun h=>xD (.inr h);have te:((i:Int)+1==(s.size:Int))=false:=by simp;omega
    have vL:i+1<s.size:=by omega
    have WB:(i:Int)+1<(s.size:Int):=by omega
    have hi3:(0:Int)<=(i:Int)+1:=by omega
    have YH:=cZ s (i+1) vL;have hq:=toNat_eq bj;have HB:=laid pK;clear HY HN bR bj xD hle HI;go_wp2_with fail
    go_quiet(fail)
    have kU:=Go.below_drewN aH nq;go_wp2
    go_roundw
    case rel=>go_light;exact⟨i+1,ax (by rw[HE.out];simp),by go_num,by omega,by rw[HE.out];exact HB.out.drewN _,kU⟩
    case measure=>go_light;simp[intOf];omega
  ·have F0:i=s.size:=by omega
   have HF:Hid (str (cW s i).1=str (jm s)):=laid (by unfold jm;rw[F0]);clear F0 hle;generalize(cW s i).1=O at *;generalize(cW s i).2=n at *;go_wp2_with fail
   refine(qS _ _ _ pK).mono ?_;rintro e w1 ⟨rfl,cn⟩;have vm:=aH.trans cn;go_wp2
   go_ret
   exact⟨cP HF.out,vm⟩
end
end Go.Proofs.YtdcjnhipenbcfaaGreatDoor
