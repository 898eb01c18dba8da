/-
  Own text. Part 5 of what the claim rests on.
-/
import Derived.Test.YtdcjnhipenbcfaaGreatDoorPk4
import Derived.Deep.RegionHeld3
import Derived.Maps.RangeWalk
import Derived.Maps.OwnOps
import Derived.Maps.Views
import Derived.Lib.MinMax
import Derived.Sort.KeysCollected
import Derived.Lib.AppendIntMem
import Derived.Deep.AppendLies
import Derived.Deep.RegionLaw
set_option linter.unusedVariables false
set_option linter.unusedSectionVars false
set_option linter.unusedSimpArgs false
set_option maxRecDepth 100000
set_option maxHeartbeats 16000000
open Array renaming getElem?_eq_some_iff->aL,getElem?_eq_getElem->aV,toList_extract->bA,replicate->bN,getD->ck,getElem?_eq_none->cm,length_toList->cn,toList_append->cu,getElem_append->da,getElem_setIfInBounds_ne->db,getElem_setIfInBounds_self->dc
open Bool renaming not_eq_true->aQ,not_eq_false->bP,or_eq_true->cv,noConfusion->de,not_eq_false'->dh
open ByteArray renaming size_append->aP,size_extract->aW,data_extract->bB,data_append->cw
open Go renaming World->af,Calls->ah,Value->aj,cell_of_row->ak,maxLen->ao,block_lt_of_cell->ax,heap_alloc_old->aD,DataW->aM,frozen_of_row->aO,undef->aU,wpList_append_own->aY,bodyPost_ret->bu,heap_setCell_same->bL,info_parts->bM,grownCap->cg,leaves_cons->cj,results_cell_row->c_,callsIn_wide->dS,heap_alloc2_new->dU,plainElem_int_inv->dV,wpList_lookup_own_int->dW
open Go.Calls renaming quiet_of_same->bQ,quiet_of->di
open Go.Instr renaming typeAssert->cx,makeFunc->dj
open Go.IntKind renaming i64->aH
open Go.IntWalk renaming i64_in->aI,wrap64_in->dp
open Go.Lib renaming byteCells->aJ,indexByte->bj,BuilderAt->bC,IsBuilder->bD,cell_of_heap->bR,decDigits->cy,frozen_of_heap->dt,strCells->du
open Go.Lib.BuilderAt renaming put->dq
open Go.Maps renaming keyOf_str->dE
open Go.Proofs.Tryz renaming func45->a_,ntmps45->bc,underlying9->bg,func56->bq,ntmps56->br,func53->bI,ntmps53->bJ,underlying3->bK,func41->bW,ntmps41->bX,results41->bY,underlying113->bZ,underlying65->b_,underlying79->cf,func28->cQ,func42->cR,func57->cS,func58->cT,func89->cU,ntmps28->cV,ntmps42->cW,ntmps57->cX,ntmps58->cY,ntmps89->cZ,results58->c7,underlying131->c8,ntmps93->dM,underlying121->dO,underlying25->dP,underlying5->dQ
open Go.RowKit renaming Below->ae
open Go.RowKit.Below renaming refl->au,heap_alloc->bO
open Go.Value renaming int->bt
open Go.World renaming cell?_alloc_past->az,drewN_drewN->bh,cell?_alloc_at->c9
open Int renaming eq_ofNat_of_zero_le->aZ,natCast_mul->dk
open List renaming length_append->ar,getD_eq_getElem?_getD->aA,getElem?_eq_getElem->aB,countP_append->aN,append_assoc->aT,length_cons->aX,length_nil->bk,mem_singleton->bm,length_singleton->bE,mem_append->bF,take_of_length_le->bG,length_map->bS,map_append->bT,mem_map->bU,reverse_append->bV,append_nil->cz,contains_iff_mem->cA,drop_eq_getElem_cons->cB,extract_eq_take_drop->cC,getElem?_drop->cD,getElem_mem->cE,getElem_of_mem->cG,length_take->cH,mem_of_getElem?->cI,pairwise_map->cJ,all_eq_false->dv,getElem?_eq_none->dx,getElem?_map->dy,getElem?_reverse->dz,getElem?_take_of_lt->dA,pairwise_append->dB,range_succ->dC,take_add_one->dD
open Nat renaming le_refl->ai,zero_le->ay,lt_or_ge->aK,mul_le_mul->bp,le_trans->bH,le_total->cK,min_eq_left->cL,min_eq_right->cM,mul_add->cO,mul_comm->cP,div_add_mod->dG,div_le_self->dH,div_mul_le_self->dI,le_antisymm->dJ,le_mul_of_pos_right->dK
open Option renaming map_some->dL
open UInt8 renaming toNat_ofNat'->dR
namespace Go.Proofs.YtdcjnhipenbcfaaGreatDoor
abbrev fa:=ByteArray
variable {bd t:Bool}{P S X a a' ref s I xn:fa}{c:Int}{xs:List aj}{A g i j m p q x y z:Nat}{o:Obj}{e:TypeId}{w w' wr:af}
section
open RowKit
theorem adj{b:Nat}{k:Nat}{v:aj}{n:Nat}(h:wr.ownsRow b e k v n xs):∃a cap,v=.slice a n cap:=by
 rcases h.2 with⟨rfl,rfl⟩|⟨g,cap,Y,rfl,_⟩
 ·simp
 ·simp
theorem adk:(Tryz.prog.info? 118).map (fun i=>(i.zero,i.size,i.bytes))=some (some (.agg #[.string ⟨#[]⟩,.string ⟨#[]⟩,.string ⟨#[]⟩]),3,48):=by kernel_rfl
def GO(w:af)(R:Nat×Bool)(Y:List (fa×fa×fa))(e:Ending)(w':af):Prop:=
 ∃V,e=.returned (.tuple #[V,.int .i64 (placeOf R)])/\ae w.heap.size w w'/\(R.2=false->w'.ownsRow (w.heap.size+1) 118 3 V Y.length (jY Y))
theorem MT{R:Nat×Bool}{Y:List (fa×fa×fa)}(K:R=(p,true))(H:ae w.heap.size w w'):GO w R Y (.returned (.tuple #[.slice none 0 0,.int .i64 (p:Int)])) w':=by
 subst K;exact⟨_,rfl,H,fun h=>de h⟩
theorem WU{R:Nat×Bool}{Y:List (fa×fa×fa)}{V:aj}(K:R=(p,false))(H:ae w.heap.size w w')(D:w'.ownsRow (w.heap.size+1) 118 3 V Y.length (jY Y)):
  GO w R Y (.returned (.tuple #[V,.int .i64 (-1)])) w':=by
 subst K;exact⟨_,rfl,H,fun _=>D⟩
theorem Xh(w:af)(s:fa):qj w s (0,false) (.slice none 0 0) [] (w.alloc (.cells #[.string s,.int .i64 0,.bool false] 143)):=
 ⟨heap_alloc_new w _,(au _ _).alloc (ai _) _,World.ownsRow_nil _ _ _ _⟩
theorem Ox{L U:List (fa×fa×fa)}{R Y:Nat×Bool}{NM B mk:fa}
  (F:hI (p,false) (jB s (5-L.length))=R)(J:L++(if(p,false).2=true then []else iF s (5-L.length) (p,false).1)=U)(Q:¬L.length=5)(T:L.length<=5)(K:p<s.size)(O:p<=s.size)
  (M:rk s (qH s p)=NM)(C:lL s p=B)(ga:pZ s p=Y)(hd:(q,bd)=hI Y (jN s iQ B.size B.size))(N:mk=r6 s B.size Y):
  hI (hI (q,bd) (gW s 10)) (jB s (5-(L++[(NM,B,mk)]).length))=R/\(L++[(NM,B,mk)])++(if(hI (q,bd) (gW s 10)).2=true then []else iF s (5-(L++[(NM,B,mk)]).length) (hI (q,bd) (gW s 10)).1)=U:=by
 have I:(q,bd)=xk s p:=by unfold xk;rw[C,ga];exact hd
 have A:hI (q,bd) (gW s 10)=lh s p:=by rw[<-Is s p O,I];rfl
 have H:(L++[(NM,B,mk)]).length=L.length+1:=by simp
 have D:(NM,B,mk)=sZ s p:=by unfold sZ;rw[M,C,ga,N]
 rw[A,H];refine⟨ND (by omega) K F,?_⟩;rw[<-J,aT];have:iF s (5-L.length) p=sZ s p::(if(lh s p).2=true then []else iF s (5-(L.length+1)) (lh s p).1):=by
  rw[show 5-L.length=(5-(L.length+1))+1 by omega];simp only[iF];rw[if_neg (by omega)]
 rw[this,D];rfl
theorem Oy{Y:Nat×Bool}{B:fa}{b:Nat}(H:p<s.size)(K:p<=s.size)(U:lL s p=B)(ga:pZ s p=Y)(hd:(q,bd)=hI Y (jN s iQ B.size B.size))
  (hr:RF wr b s (hI (q,bd) (gW s 10)).1 (hI (q,bd) (gW s 10)).2):(hI (q,bd) (gW s 10)).1<=s.size/\nU wr b s.size<s.size-p+1:=by
 have D:(q,bd)=xk s p:=by unfold xk;rw[U,ga];exact hd
 have R:hI (q,bd) (gW s 10)=lh s p:=by rw[<-Is s p K,D];rfl
 rw[R]at hr⊢;have I:=PY s p K;have A:=Ov s p;generalize lh s p=st at *;have⟨p',b'⟩:=st;cases b' with
 |true=>have:=hr.G_ s.size;omega
 |false=>
  have C:=hr.vE s.size;have F:=A rfl K;omega
theorem Po{b n:Nat}(h:RF w b s p t)(h':RF w' b s p t):nU w' b n=nU w b n:=by
 unfold nU jW;rw[h.c2,h'.c2,h.c1,h'.c1]
theorem Oz{st:Nat×Bool}{v v':aj}{L:List (fa×fa×fa)}{n b m:fa}{w6 w7:af}(h:ma w s x st v L n b m w6)
  (Y:w7.ownsRow (w.heap.size+1) 118 3 v' (L.length+1) (jY L++[.string n,.string b,.string m]))(U:(w6.alloc o).grownBy w7 v.ownBlock):qj w s st v' (L++[(n,b,m)]) w7:=by
 obtain⟨⟨D,K,R⟩,B,C,F⟩:=h;have I:w.heap.size<w6.heap.size:=by have:=ax D.c0;simpa using this
 have H:some w.heap.size≠v.ownBlock:=by
  intro A;have:=R.lt w.heap.size A.symm;omega
 refine⟨?_,?_,?_⟩
 ·unfold RF at *;rw[U.block _ (by simp;omega) H,bO _ _ _ I];exact D
 ·refine(K.alloc K.size o).grown U (by simp;have:=K.size;omega) ?_;intro k hk;have:=R.lt k hk;omega
 ·rw[N_];simpa using Y
theorem GQ{v:aj}{L:List (fa×fa×fa)}{n b m:fa}(h:ma w s x (p,t) v L n b m wr):ma w s x (p,true) v L n b m (wr.setCell ⟨w.heap.size,2,none⟩ (.bool true)):=by
 have Y:oQ wr _ s (p,true) _:=⟨h.1.1.qs,jH wr _ 2 _⟩;exact h.step Y
theorem afk{v:aj}{L:List (fa×fa×fa)}{n b m:fa}(h:ma w s x (p,t) v L n b m wr):ma w s x (p+1,t) v L n b m (wr.setCell ⟨w.heap.size,1,none⟩ (.int .i64 ((p:Int)+1))):=by
 have Y:oQ wr _ s (p+1,t) _:=⟨h.1.1.put,jH wr _ 1 _⟩;exact h.step Y
theorem adl{st:Nat×Bool}{v:aj}{L:List (fa×fa×fa)}{n b m:fa}(h:ma w s x st v L n b m wr):ma w s x st v L n b m wr.drew:=
 ⟨⟨h.1.1,h.1.2.1.drew,h.1.2.2⟩,h.2⟩
theorem Gg{b n:Nat}{p':Nat}(h:RF w b s p false)(h':RF w' b s p' true):nU w' b n<nU w b n:=by
 rw[h'.G_,h.vE];omega
theorem YG{b n:Nat}(h:RF w b s p false)(h':RF w' b s (p+1) false)(Y:p<n):nU w' b n<nU w b n:=by
 rw[h'.vE,h.vE];omega
theorem Cg(s:fa)(w:af)(hs:s.size<=1000):
  ah Tryz.prog 81 #[.string s] w fun e w'=>GO w (jB s 5 0) (iF s 5 0) e w':=by
 generalize hR:jB s 5 0=R;generalize UZ:iF s 5 0=LR;have HR:=laid hR;have U0:=laid UZ;clear hR UZ;obtain⟨i0,m,hz,l,z⟩:∃i,Tryz.prog.info? 118=some i/\i.zero=some (.agg #[.string ⟨#[]⟩,.string ⟨#[]⟩,.string ⟨#[]⟩])/\i.size=3/\i.bytes=48:=by
  have h:=adk;rcases m:Tryz.prog.info? 118 with _|i
  ·rw[m]at h;cases h
  ·rw[m]at h;simp only[dL,Option.some.injEq,Prod.mk.injEq]at h;exact⟨i,rfl,h.1,h.2.1,h.2.2⟩
 have m0:=Xh w s
 go_enter Tryz.func81,Tryz.ntmps81
 go_wp2
 go_loopw [5] (fun v wr=>∃(L:List (fa×fa×fa)) (st:Nat×Bool),L.length<=5/\st.1<=s.size/\qj w s st v L wr/\Hid (hI st (jB s (5-L.length))=R/\L++(if st.2=true then []else iF s (5-L.length) st.1)=LR)) (fun v wr=>nU wr w.heap.size s.size)
 case atStart=>exact⟨[],(0,false),by simp,by simp,m0,laid ⟨HR.out,U0.out⟩⟩
 case round=>
  clear m0 HR U0;obtain⟨L,⟨p,bad⟩,hL,r,d,P⟩:=hrel;simp only at r;have r0:=d.1.c0;have r1:=d.1.c1;have r2:=d.1.c2;simp only at r1 r2;have T:=d.2.1;cases bad with
  |true=>
   have HE:=laid (show R=(p,true)from P.out.1.symm);clear P;go_wp2
   go_quiet(fail)
   go_wp2
   go_ret2
   exact MT HE.out (Go.below_drewN T _)
  |false=>
   obtain⟨a,cap,rfl⟩:=adj d.2.2;by_cases M:p<s.size
   ·by_cases K:L.length=5
    ·have HE:=laid (show R=(p,true) by rw[<-P.out.1,K];show jB s (5-5) p=_;simp only[Nat.sub_self,jB];rw[decide_eq_true M]);clear P;have hb5:((L.length:Int)==5)=true:=by rw[K];rfl
     clear K;go_wp2
     go_quiet(fail)
     go_wp2
     go_ret2
     exact MT HE.out (Go.below_drewN T _)
    ·have hb5:((L.length:Int)==5)=false:=by simp;omega
     have F:=laid K;clear K;have m0:=d.agO;have ajG:(wr.alloc (.cells #[.string ⟨#[]⟩,.string ⟨#[]⟩,.string ⟨#[]⟩] 118)).heap.size=wr.heap.size+1:=by simp
     have o:=laid (d.1.vE s.size);go_wp2_with fail
     refine(xU _ _ s (p,false) _ 64 rfl m0.1.1 hs r).mono ?_;rintro e w1 ⟨rfl,LN⟩;have m1:=m0.step LN;rw[oP rfl]at m1;have U4:(qH s p).1<=s.size:=(nO s 64 p r).2;clear m0 LN d T r0 r1 r2 ajG;simp only at m1;rw[show gW s 64 p=qH s p from rfl]at m1;generalize wr.heap.size=X at *;go_wp2_with fail
     refine(PV _ _ s (qH s p) m1.1.1 hs U4).mono ?_;rintro e w2 ⟨rfl,Bp⟩;have m2:=m1.step Bp;have c:(lK s p).1<=s.size:=(t_ s 64 p r).2;rw[show hI (qH s p) (nA s)=lK s p from rfl]at m2;clear m1 Bp;have c0:=m2.2.1.c0;have f0:=m2.2.1.fz 0;generalize U5:rk s (qH s p)=NM at *;have U6:=laid U5;clear U5;have m3:=m2.yF NM;clear m2;go_wp2_with fail
     refine(acd _ _ s (lK s p) _ 30 rfl (by omega) m3.1.1 hs c).mono ?_;rintro e w3 ⟨rfl,U7⟩;have m4:=m3.step U7;have t:(rC s p).1<=s.size:=(ny (p:=(lK s p).1) ⟨ai _,c⟩ fun q hq=>rQ s 30 q hq).2;rw[show hI (lK s p) (iM s 30)=rC s p from rfl]at m4;clear m3 U7 c0 f0;have c1:=m4.2.1.c1;have f1:=m4.2.1.fz 1;rw[show uV s 30 (lK s p)=lL s p from rfl];have hBz:(lL s p).size<=30:=by
      unfold lL uV;split
      ·exact ay _
      ·rw[B8 s 30 _ c];exact vN _ _ _
     have m5:=m4.yG (lL s p);clear m4;go_wp2_with fail
     refine(xU _ _ s (rC s p) _ 43 rfl m5.1.1 hs t).mono ?_;rintro e w4 ⟨rfl,U8⟩;have m6:=m5.step U8;have k:(rD s p).1<=s.size:=(ny (p:=(rC s p).1) ⟨ai _,t⟩ fun q hq=>nO s 43 q hq).2;rw[show hI (rC s p) (gW s 43)=rD s p from rfl]at m6;clear m5 U8 c1 f1;go_wp2_with fail
     refine(xU _ _ s (rD s p) _ 10 rfl m6.1.1 hs k).mono ?_;rintro e w5 ⟨rfl,U9⟩;have m7:=m6.step U9;have J:(pZ s p).1<=s.size:=(ny (p:=(rD s p).1) ⟨ai _,k⟩ fun q hq=>nO s 10 q hq).2;rw[show hI (rD s p) (gW s 10)=pZ s p from rfl]at m7;clear m6 U9;generalize hB:lL s p=B at *;have HB:=laid hB;clear hB;generalize x:pZ s p=LP at *;have S:=laid x;clear x U4 c t k;go_wp2
     go_loopw [] (fun wi=>∃(q:Nat) (bd:Bool) (mk:fa),ma w s X (q,bd) (.slice a L.length cap) L NM B mk wi/\Hid (ug s B.size LP q bd mk)) (fun wi=>nU wi w.heap.size s.size)
     case atStart=>exact⟨LP.1,LP.2,⟨#[]⟩,m7,laid (YF _ _ _)⟩
     case round=>
      clear m7;obtain⟨q,bd,mk,I,W⟩:=hrel;have f:=ZU W.out J;have r0:=I.1.1.c0;have r1:=I.1.1.c1;have r2:=I.1.1.c2;have U_:=I.1.1.fz 1;have Va:=I.1.1.fz 2;have x1:=I.2.1.c1;have x2:=I.2.1.c2;have Vb:=I.2.1.fz 2;simp only at r1 r2;cases bd with
      |true=>
       have G:=laid (Ow W.out J (.inl rfl));go_wp2_with fail
       refine(xU _ _ s (q,true) _ 10 rfl I.1.1 hs f.2).mono ?_;rintro e w6 ⟨rfl,E⟩;have U:=I.step E;have HN:=laid (Ox (mk:=mk) P.out.1 P.out.2 F.out hL M r U6.out HB.out S.out G.out.1 G.out.2);have Z:=laid (Oy (wr:=w6) (b:=w.heap.size) M r HB.out S.out G.out.1 U.1.1);generalize hI (q,true) (gW s 10)=LQ at *;clear I E r0 r1 r2 U_ Va x1 x2 Vb W G P;have y0:=U.2.1.c0;have y1:=U.2.1.c1;have y2:=U.2.1.c2;have O:=U.1.2.2;go_wp2_with(at_builtin;refine aY _ rfl _ _ 121 rfl (w.heap.size+1) 118 i0 (.agg #[.string ⟨#[]⟩,.string ⟨#[]⟩,.string ⟨#[]⟩]) 3 48 dO m hz l z rfl (by decide) _ _ _ rfl (O.alloc _) ⟨w6.heap.size,0,none⟩ 1 1 [.string NM,.string B,.string mk] rfl rfl ?c1 ?c2 ?c3 ?c4 ?c5 ?_)
       case c1=>
        intro j u A
        match j,A with
        |0,A=>simp at A;subst A;simp[Addr.add,go_sem]
        |1,A=>simp at A;subst A;simp[Addr.add,go_sem]
        |2,A=>simp at A;subst A;simp[Addr.add,go_sem]
       case c2=>intro u hu;simp at hu;rcases hu with rfl|rfl|rfl<;>rfl
       case c3=>unfold ao;omega
       case c4=>omega
       case c5=>have:=U.1.2.1.size;have:=U.1.1.c0;have:=ax this;simp at *;omega
       intro v' w7 D H _;have m9:=Oz U D H;have y:=laid (Po (n:=s.size) U.1.1 m9.1);clear O D H y0 y1 y2 U m hz l z J f;go_wp2
       go_roundw
       case rel=>exact⟨L++[(NM,B,mk)],LQ,by simp;have:=F.out;omega,Z.out.1,m9,HN⟩
       case measure=>go_light;rw[o.out,y.out];exact Z.out.2
      |false=>
       by_cases N:mk.size<B.size
       ·have HF2:=P;clear P;by_cases g:q<s.size
        ·by_cases h33:33<=(s[q].toNat:Int)
         ·by_cases aoW:(s[q].toNat:Int)<=126
          ·have C:iQ s[q]=true:=by unfold iQ yE;simp;omega
           have HM2:=laid (ZV W.out J N g C);clear C;have vi:aH.wrap ((q:Int)+1)=(q:Int)+1:=aI _ (by omega);have JV:(q:Int)+1<=(s.size:Int):=by omega
           have hi2:(q:Int)<(s.size:Int):=by omega
           have hex:=BO s q g;have hmz:mk.size<=30:=by omega
           have m10:=I.Aq (mk++⟨#[s[q]]⟩);have t1:=m10.1.1.c1;have tf:=m10.1.1.fz 1;have m11:=adl (afk m10);have Q:=laid (YG (n:=s.size) I.1.1 m11.1.1 g);simp only at t1;go_wp2
           go_region
           all_goals
            go_wp2
            go_roundw
            case rel=>exact⟨q+1,false,mk++⟨#[s[q]]⟩,m11,HM2⟩
            case measure=>go_light;exact Q.out
          ·have C:iQ s[q]=false:=by unfold iQ yE;simp;omega
           have V:=laid (GN W.out J N (fun _=>C));have Y:=GQ I;have Q:=laid (Gg (n:=s.size) I.1.1 Y.1.1);go_wp2
           go_roundw
           case rel=>exact⟨q,true,mk,Y,V⟩
           case measure=>go_light;exact Q.out
         ·have C:iQ s[q]=false:=by unfold iQ yE;simp;omega
          have V:=laid (GN W.out J N (fun _=>C));have Y:=GQ I;have Q:=laid (Gg (n:=s.size) I.1.1 Y.1.1);go_wp2
          go_roundw
          case rel=>exact⟨q,true,mk,Y,V⟩
          case measure=>go_light;exact Q.out
        ·have V:=laid (GN W.out J N (fun h=>absurd h g));have Y:=GQ I;have Q:=laid (Gg (n:=s.size) I.1.1 Y.1.1);go_wp2
         go_roundw
         case rel=>exact⟨q,true,mk,Y,V⟩
         case measure=>go_light;exact Q.out
       ·have G:=laid (Ow W.out J (.inr N));go_wp2_with fail
        refine(xU _ _ s (q,false) _ 10 rfl I.1.1 hs f.2).mono ?_;rintro e w6 ⟨rfl,E⟩;have U:=I.step E;have HN:=laid (Ox (mk:=mk) P.out.1 P.out.2 F.out hL M r U6.out HB.out S.out G.out.1 G.out.2);have Z:=laid (Oy (wr:=w6) (b:=w.heap.size) M r HB.out S.out G.out.1 U.1.1);generalize hI (q,false) (gW s 10)=LQ at *;clear I E r0 r1 r2 U_ Va x1 x2 Vb W G P;have y0:=U.2.1.c0;have y1:=U.2.1.c1;have y2:=U.2.1.c2;have O:=U.1.2.2;go_wp2_with(at_builtin;refine aY _ rfl _ _ 121 rfl (w.heap.size+1) 118 i0 (.agg #[.string ⟨#[]⟩,.string ⟨#[]⟩,.string ⟨#[]⟩]) 3 48 dO m hz l z rfl (by decide) _ _ _ rfl (O.alloc _) ⟨w6.heap.size,0,none⟩ 1 1 [.string NM,.string B,.string mk] rfl rfl ?c1 ?c2 ?c3 ?c4 ?c5 ?_)
        case c1=>
         intro j u A
         match j,A with
         |0,A=>simp at A;subst A;simp[Addr.add,go_sem]
         |1,A=>simp at A;subst A;simp[Addr.add,go_sem]
         |2,A=>simp at A;subst A;simp[Addr.add,go_sem]
        case c2=>intro u hu;simp at hu;rcases hu with rfl|rfl|rfl<;>rfl
        case c3=>unfold ao;omega
        case c4=>omega
        case c5=>have:=U.1.2.1.size;have:=U.1.1.c0;have:=ax this;simp at *;omega
        intro v' w7 D H _;have m9:=Oz U D H;have y:=laid (Po (n:=s.size) U.1.1 m9.1);clear O D H y0 y1 y2 U m hz l z J f;go_wp2
        go_roundw
        case rel=>exact⟨L++[(NM,B,mk)],LQ,by simp;have:=F.out;omega,Z.out.1,m9,HN⟩
        case measure=>go_light;rw[o.out,y.out];exact Z.out.2
   ·have HE:=laid (show R=(p,false) by
     rw[<-P.out.1];show jB s (5-L.length) p=_
     exact Gf (by omega) rfl)
    have HL:=laid (show L=LR by
     have:=P.out.2;simp only[Bool.false_eq_true,if_false]at this;rw[<-this];have:iF s (5-L.length) p=[]:=by
      generalize 5-L.length=n;cases n with
      |zero=>rfl
      |succ n=>simp only[iF];rw[if_pos (by omega)]
     rw[this,cz])
    clear P;go_wp2
    go_ret2
    have:=d.2.2;rw[HL.out]at this;rw[HL.out];exact WU HE.out T this
structure j8(w w':af)(y z:Nat):Prop where
 os:w'.os=w.os
 tape:w'.tape=w.tape
 output:w'.output=w.output
 size:w.heap.size<=w'.heap.size
 block:∀k,k<w.heap.size->k≠y->k≠z->w'.heap[k]?=w.heap[k]?
theorem j8.of{wm:af}(Y:w.grownBy wm (some y))(K:wm.grownBy w' (some z)):j8 w w' y z:=
 ⟨K.os.trans Y.os,K.tape.trans Y.tape,K.output.trans Y.output,bH Y.size K.size,fun k hk H D=>by
  rw[K.block k (by have:=Y.size;omega) (by simp_all),Y.block k hk (by simp_all)]⟩
theorem j8.below{B:Nat}(h:j8 w w' y z)(Y:B<=w.heap.size)(K:B<=y)(H:B<=z):ae B w w':=
 ⟨h.os,h.tape,h.output,h.size,fun k hk=>h.block k (by omega) (by omega) (by omega)⟩
theorem j8.new{w w1 w2:af}{o:Obj}{y z:Nat}(Y:j8 (w.alloc o) w1 y z)(K:w1.grownBy w2 (some w.heap.size)):j8 w w2 y z:=by
 refine⟨K.os.trans Y.os,K.tape.trans Y.tape,K.output.trans Y.output,?_,fun k hk D R=>?_⟩
 ·have:=Y.size;have:=K.size;simp at *;omega
 ·have H:=Y.size;simp at H;rw[K.block k (by omega) (by simp;omega),Y.block k (by simp;omega) D R,bO w o k hk]
theorem j8.alloc{w1:af}(Y:j8 w w1 y z)(o:Obj):j8 w (w1.alloc o) y z:=
 ⟨Y.os,Y.tape,Y.output,by have:=Y.size;simp;omega,fun k hk K H=>by
  have:=Y.size;rw[bO w1 o k (by omega)];exact Y.block k hk K H⟩
theorem MC(h:ae w.heap.size w w')(y z:Nat):j8 w w' y z:=⟨h.os,h.tape,h.output,h.size,fun k hk _ _=>h.block k hk⟩
def jG(ref reads:fa):=
 if(je ref).2=true then(2,(je ref).1)else if(jB reads 5 0).2=true then(3,(jB reads 5 0).1)else(0,0)
def kz(ref reads:fa):Int:=if 400<ref.size\/600<reads.size then 1 else((jG ref reads).1:Int)
def oq(ref reads:fa):Int:=if 400<ref.size\/600<reads.size then 0 else((jG ref reads).2:Int)
def RB(w:af)(y:Nat)(a b:fa):=w.heap[y]?=some (.cells #[.string a,.string b] 68 (0,0))
def ZB(w:af)(z:Nat)(v:aj):=w.heap[z]?=some (.cells #[v] 90 (0,0))
def FB(w:af)(m:Nat)(c p:Int):=w.heap[m]?=some (.cells #[.int .i64 c,.int .i64 p] 70 (0,0))
theorem RB.c0{b:fa}(h:RB w y a b):w.cell? ⟨y,0,none⟩=some (.string a):=by rw[ak w y 0 _ _ _ h];rfl
theorem RB.c1{b:fa}(h:RB w y a b):w.cell? ⟨y,1,none⟩=some (.string b):=by rw[ak w y 1 _ _ _ h];rfl
theorem RB.fz{b:fa}(h:RB w y a b)(j:Nat):w.frozen? ⟨y,j,none⟩=false:=aO w y j _ _ h
theorem RB.lt{b:fa}(h:RB w y a b):y<w.heap.size:=by have:=ax h.c0;omega
theorem RB.put{b:fa}(h:RB w y a b)(a' b':fa):RB ((w.setCell ⟨y,0,none⟩ (.string a')).setCell ⟨y,1,none⟩ (.string b')) y a' b':=by
 have Y:RB (w.setCell ⟨y,0,none⟩ (.string a')) y a' b:=by unfold RB at *;rw[bL w y 0 _ _ _ h];rfl
 unfold RB at *;rw[bL _ y 1 _ _ _ Y];rfl
theorem RB.at{b:fa}(h:RB w y a b)(Y:w'.heap[y]?=w.heap[y]?):RB w' y a b:=by unfold RB at *;simp_all
theorem ZB.c0{v:aj}(h:ZB w z v):w.cell? ⟨z,0,none⟩=some v:=by rw[ak w z 0 _ _ _ h];rfl
theorem ZB.fz{v:aj}(h:ZB w z v)(j:Nat):w.frozen? ⟨z,j,none⟩=false:=aO w z j _ _ h
theorem ZB.lt{v:aj}(h:ZB w z v):z<w.heap.size:=by have:=ax h.c0;omega
theorem ZB.put{v:aj}(h:ZB w z v)(v':aj):ZB (w.setCell ⟨z,0,none⟩ v') z v':=by
 unfold ZB at *;rw[bL w z 0 _ _ v' h];rfl
theorem ZB.at{v:aj}(h:ZB w z v)(Y:w'.heap[z]?=w.heap[z]?):ZB w' z v:=by unfold ZB at *;simp_all
theorem FB.c0{p:Int}(h:FB w m c p):w.cell? ⟨m,0,none⟩=some (.int .i64 c):=by rw[ak w m 0 _ _ _ h];rfl
theorem FB.c1{p:Int}(h:FB w m c p):w.cell? ⟨m,1,none⟩=some (.int .i64 p):=by rw[ak w m 1 _ _ _ h];rfl
theorem FB.fz{p:Int}(h:FB w m c p)(j:Nat):w.frozen? ⟨m,j,none⟩=false:=aO w m j _ _ h
theorem FB.lt{p:Int}(h:FB w m c p):m<w.heap.size:=by have:=ax h.c0;omega
theorem ZW(ref reads:fa)(x y u z:Nat)(a b:fa)(v:aj)(w:af)(O:ref.size<=400)(l:reads.size<=600)
  (hx:w.cell? ⟨x,0,none⟩=some (.string ref))(k:w.cell? ⟨u,0,none⟩=some (.string reads))(hy:RB w y a b)(hz:ZB w z v)(huy:u≠y)(N:z≠y)(r:(je ref).2=false)(n:(jB reads 5 0).2=false):
  ah Tryz.prog 89 #[.pointer (some ⟨x,0,none⟩),.pointer (some ⟨y,0,none⟩),.pointer (some ⟨u,0,none⟩),.pointer (some ⟨z,0,none⟩)] w fun e w'=>
   e=.returned (.tuple #[])/\RB w' y (nk ref) (str (iU ref).2)/\(∃V,ZB w' z V/\w'.ownsRow w.heap.size 131 3 V (iF reads 5 0).length (jY (iF reads 5 0)))/\j8 w w' y z:=by
 have q:=laid r;have j:=laid n;clear r n;have T:=hy.lt;have G:=hz.lt;have Q:u<w.heap.size:=by have:=ax k;simpa using this
 generalize hX:str (iU ref).2=X;generalize p:nk ref=Y;have d:=laid hX;have f:=laid p;clear hX p;generalize o:iF reads 5 0=A;have c:=laid o;clear o
 go_enter cU,cZ
 go_wp2_with fail
 refine(xD ref _ (by omega)).mono ?_;rintro e w1 ⟨F,W,D⟩;rw[d.out,f.out]at F;obtain rfl:=F q.out;clear F W q d f;have R:RB w1 y a b:=hy.at (D.block y T);have Z:ZB w1 z v:=hz.at (D.block z G);have i:w1.cell? ⟨u,0,none⟩=some (.string reads):=by rw[(rZ D).1 u 0 Q];exact k
 have c0:=R.c0;have c1:=R.c1;have f0:=R.fz 0;have f1:=R.fz 1;have L:=R.put Y X;have⟨_,_,K⟩:=pJ (.string Y) (.string X) c0 c1;have s:=D.size;have B:=Z.at (K.block z (by omega) (by simpa using N));have J:=gY (qc D _) K;clear D K;go_wp2_with fail
 generalize(w1.setCell ⟨y,0,none⟩ (.string Y)).setCell ⟨y,1,none⟩ (.string X)=w2 at *;refine(MS reads _ (by omega)).mono ?_;rintro e w3 ⟨F,W,I⟩;rw[c.out]at F;obtain⟨V,rfl,H⟩:=F j.out;clear F W j c;obtain⟨va,cap,rfl⟩:∃va cap,V=.slice va A.length cap:=by
  rcases H.2 with⟨O,l⟩|⟨g,cap,t,O,_⟩
  ·exact⟨none,0,by rw[O,l]⟩
  ·exact⟨_,cap,O⟩
 have M:RB w3 y Y X:=L.at (I.block y L.lt);have C:ZB w3 z v:=B.at (I.block z B.lt);have c0:=C.c0;have f0:=C.fz 0;have E:=C.put (.slice va A.length cap);have K:=jH w3 z 0 (.slice va A.length cap);have S:=M.at (K.block y M.lt (by simpa using fun h=>N h.symm));have P:=gY (qc I _) K;have m:=J.size;have U:(w3.setCell ⟨z,0,none⟩ (.slice va A.length cap)).ownsRow w.heap.size 131 3 (.slice va A.length cap) A.length (jY A):=
  GK (H.kept K (Aa H z (.inl (by have:=B.lt;omega)))) (by omega)
 clear K I H;go_wp2
 go_end0
 exact⟨rfl,S,⟨_,E,U⟩,j8.of J P⟩
theorem YH(ref reads:fa)(x y u z:Nat)(a b:fa)(v:aj)(w:af)(f:ref.size<=400)(l:reads.size<=600)
  (r:w.cell? ⟨x,0,none⟩=some (.string ref))(G:w.cell? ⟨u,0,none⟩=some (.string reads))(T:RB w y a b)(V:ZB w z v)(d:u≠y)(Z:z≠y)(H:(je ref).2=true\/(jB reads 5 0).2=true):
  ah Tryz.prog 89 #[.pointer (some ⟨x,0,none⟩),.pointer (some ⟨y,0,none⟩),.pointer (some ⟨u,0,none⟩),.pointer (some ⟨z,0,none⟩)] w fun e w'=>
   e=.panicked (m_ ((jG ref reads).1:Int) ((jG ref reads).2:Int))/\(∃a' b',RB w' y a' b')/\ZB w' z v/\j8 w w' y z:=by
 have C:=T.lt;have J:=V.lt;have Q:u<w.heap.size:=by have:=ax G;simpa using this
 by_cases R:(je ref).2=true
 ·have U:jG ref reads=(2,(je ref).1):=if_pos R;rw[U];have M:=laid R;clear H U R
  go_enter cU,cZ
  go_wp2_with fail
  refine(xD ref _ (by omega)).mono ?_;rintro e w1 ⟨N,L,K⟩;obtain rfl:=L M.out;exact⟨rfl,rfl,⟨a,b,T.at (K.block y C)⟩,V.at (K.block z J),MC K _ _⟩
 ·have O:=H.resolve_left R;have U:jG ref reads=(3,(jB reads 5 0).1):=by unfold jG;rw[if_neg R,if_pos O]
  rw[U];rw[aQ]at R;have M:=laid R;have W:=laid O;clear H U R O
  go_enter cU,cZ
  go_wp2_with fail
  refine(xD ref _ (by omega)).mono ?_;rintro e w1 ⟨N,L,K⟩;generalize str (iU ref).2=X at *;generalize nk ref=Y at *;obtain rfl:=N M.out;clear N L M;have D:RB w1 y a b:=T.at (K.block y C);have S:ZB w1 z v:=V.at (K.block z J);have q:w1.cell? ⟨u,0,none⟩=some (.string reads):=by rw[(rZ K).1 u 0 Q];exact G
  have c0:=D.c0;have c1:=D.c1;have f0:=D.fz 0;have f1:=D.fz 1;have B:=D.put Y X;have⟨_,_,A⟩:=pJ (.string Y) (.string X) c0 c1;have E:=K.size;have F:=S.at (A.block z (by omega) (by simpa using Z));have P:=gY (qc K _) A;clear K A;go_wp2_with fail
  refine(MS reads _ (by omega)).mono ?_;rintro e w3 ⟨N,L,I⟩;obtain rfl:=L W.out;exact⟨rfl,rfl,⟨Y,X,B.at (I.block y B.lt)⟩,F.at (I.block z F.lt),j8.of P (qc I _)⟩
theorem WV(ref reads:fa)(x y u z:Nat)(a b:fa)(v:aj)(w:af)(d:ref.size<=400)(l:reads.size<=600)
  (E:w.cell? ⟨x,0,none⟩=some (.string ref))(Z:w.cell? ⟨u,0,none⟩=some (.string reads))(G:RB w y a b)(W:ZB w z v)(J:u≠y)(O:z≠y)(Q:(je ref).2=false)(T:(jB reads 5 0).2=false):
  ah Tryz.prog 41 #[.func (.func 89) #[] #[.pointer (some ⟨x,0,none⟩),.pointer (some ⟨y,0,none⟩),.pointer (some ⟨u,0,none⟩),.pointer (some ⟨z,0,none⟩)]] w fun e w'=>
   e=.returned (.agg #[.int .i64 0,.int .i64 0])/\RB w' y (nk ref) (str (iU ref).2)/\(∃V,ZB w' z V/\w'.ownsRow w.heap.size 131 3 V (iF reads 5 0).length (jY (iF reads 5 0)))/\j8 w w' y z:=by
 have P:=laid Q;have S:=laid T;clear Q T;have L:x<w.heap.size:=by have:=ax E;simpa using this
 have F:u<w.heap.size:=by have:=ax Z;simpa using this
 have M:=G.lt;have N:=W.lt
 go_enter_defers bW,bX
 go_wp2_with fail
 refine(ZW ref reads x y u z a b v _ d l ?_ ?_ (G.at (aD _ _ M)) (W.at (aD _ _ N)) J O P.out S.out).mono ?_
 ·rw[az _ _ _ L];exact E
 ·rw[az _ _ _ F];exact Z
 rintro e w1 ⟨rfl,H,⟨V,D,K⟩,B⟩;have I:=B.block w.heap.size (by simp) (by omega) (by omega);rw[heap_alloc_new]at I;have n0:w1.cell? ⟨w.heap.size,0,none⟩=some (.int .i64 0):=by rw[ak _ _ _ _ _ _ I];rfl
 have n1:w1.cell? ⟨w.heap.size,1,none⟩=some (.int .i64 0):=by rw[ak _ _ _ _ _ _ I];rfl
 have z0:w1.frozen? ⟨w.heap.size,0,none⟩=false:=aO _ _ _ _ _ I;have j:w1.frozen? ⟨w.heap.size,1,none⟩=false:=aO _ _ _ _ _ I;go_wp2
 have⟨m0,X,Y⟩:=pJ (.int .i64 0) (.int .i64 0) n0 n1;have A:=H.at (Y.block y H.lt (by simp;omega));have U:=D.at (Y.block z D.lt (by simp;omega));have R:=GK (K.kept Y (Aa K w.heap.size (.inl (by simp)))) (show w.heap.size<=_ by simp);have C:=j8.new B Y;clear H D I n0 n1 z0 j B Y K;refine cj (f:=61) (args:=#[.pointer (some ⟨w.heap.size,0,none⟩)]) (by simp) (by simp[go_sem]) ?_;refine(F5 _ _).mono ?_;rintro e c q ⟨rfl,rfl,rfl⟩;refine⟨.agg #[.int .i64 0,.int .i64 0],?_,rfl,A,⟨V,U,R⟩,C⟩;simp[results,bY,go_sem,m0,X]
theorem WE(ref reads:fa)(x y u z:Nat)(a b:fa)(v:aj)(w:af)(E:ref.size<=400)(G:reads.size<=600)
  (T:w.cell? ⟨x,0,none⟩=some (.string ref))(Q:w.cell? ⟨u,0,none⟩=some (.string reads))(V:RB w y a b)(Z:ZB w z v)(F:u≠y)(N:z≠y)(K:(je ref).2=true\/(jB reads 5 0).2=true):
  ah Tryz.prog 41 #[.func (.func 89) #[] #[.pointer (some ⟨x,0,none⟩),.pointer (some ⟨y,0,none⟩),.pointer (some ⟨u,0,none⟩),.pointer (some ⟨z,0,none⟩)]] w fun e w'=>
   e=.returned (.agg #[.int .i64 ((jG ref reads).1:Int),.int .i64 ((jG ref reads).2:Int)])/\(∃a' b',RB w' y a' b')/\ZB w' z v/\j8 w w' y z:=by
 have P:=laid K;clear K;have J:x<w.heap.size:=by have:=ax T;simpa using this
 have C:u<w.heap.size:=by have:=ax Q;simpa using this
 have L:=V.lt;have M:=Z.lt
 go_enter_defers bW,bX
 go_wp2_with fail
 refine(YH ref reads x y u z a b v _ E G ?_ ?_ (V.at (aD _ _ L)) (Z.at (aD _ _ M)) F N P.out).mono ?_
 ·rw[az _ _ _ J];exact T
 ·rw[az _ _ _ C];exact Q
 rintro e w1 ⟨rfl,⟨a',b',I⟩,A,O⟩;have R:=O.block w.heap.size (by simp) (by omega) (by omega);rw[heap_alloc_new]at R;have n0:w1.cell? ⟨w.heap.size,0,none⟩=some (.int .i64 0):=by rw[ak _ _ _ _ _ _ R];rfl
 have n1:w1.cell? ⟨w.heap.size,1,none⟩=some (.int .i64 0):=by rw[ak _ _ _ _ _ _ R];rfl
 have z0:w1.frozen? ⟨w.heap.size,0,none⟩=false:=aO _ _ _ _ _ R;have q:w1.frozen? ⟨w.heap.size,1,none⟩=false:=aO _ _ _ _ _ R;refine cj (f:=61) (args:=#[.pointer (some ⟨w.heap.size,0,none⟩)]) (by simp) (by simp[go_sem]) ?_;refine(F4 _ _ _ _ _ [] _ n0 n1 z0 q).mono ?_;rintro e c W ⟨rfl,rfl,rfl⟩;have S:w.heap.size<w1.heap.size:=by have:=ax n0;simpa using this
 have⟨m0,X,Y⟩:=pJ (.int .i64 ((jG ref reads).1:Int)) (.int .i64 ((jG ref reads).2:Int)) n0 n1;have H:=I.at (Y.block y I.lt (by simp;omega));have D:=A.at (Y.block z A.lt (by simp;omega));have U:=j8.new O Y;generalize j:(w1.setCell ⟨w.heap.size,0,none⟩ (.int .i64 ((jG ref reads).1:Int))).setCell ⟨w.heap.size,1,none⟩ (.int .i64 ((jG ref reads).2:Int))=w2 at *;have B:w.heap.size<w2.heap.size:=by have:=Y.size;omega
 refine⟨.agg #[.int .i64 ((jG ref reads).1:Int),.int .i64 ((jG ref reads).2:Int)],?_,rfl,⟨a',b',H.at (aD _ _ H.lt)⟩,D.at (aD _ _ D.lt),U.alloc _⟩;simp[results,bY,go_sem,m0,X,B]
def Hr(w:af)(ref reads:fa)(E P:Int)(Y:List (fa×fa×fa))(e:Ending)(w':af):=
 ∃a b V,e=.returned (.tuple #[.agg #[.string a,.string b],V,.agg #[.int .i64 E,.int .i64 P]])/\(∃va n cap,V=.slice va n cap)/\ae w.heap.size w w'/\
  (E=0->a=nk ref/\b=str (iU ref).2/\w'.ownsRow w.heap.size 131 3 V Y.length (jY Y))
theorem FB.put{p:Int}(h:FB w m c p)(c' p':Int):FB ((w.setCell ⟨m,0,none⟩ (.int .i64 c')).setCell ⟨m,1,none⟩ (.int .i64 p')) m c' p':=by
 have Y:FB (w.setCell ⟨m,0,none⟩ (.int .i64 c')) m c' p:=by unfold FB at *;rw[bL w m 0 _ _ _ h];rfl
 unfold FB at *;rw[bL _ m 1 _ _ _ Y];rfl
theorem agP{w1:af}{o0 o1 o2 o3 o4:Obj}(h:j8 (((((w.alloc o0).alloc o1).alloc o2).alloc o3).alloc o4) w1 (w.heap.size+1+1) (w.heap.size+1+1+1)):ae w.heap.size w w1/\w1.heap[w.heap.size+1+1+1+1]?=some o4/\w.heap.size+5<=w1.heap.size:=by
 have Y:=h.below (B:=w.heap.size) (by simp;omega) (by omega) (by omega);refine⟨((((((au _ _).alloc (ai _) o0).alloc (by simp) o1).alloc (by simp;omega) o2).alloc (by simp;omega) o3).alloc (by simp;omega) o4).trans Y,?_,by have:=h.size;simp_all⟩;rw[h.block _ (by simp) (by omega) (by omega)];have e:w.heap.size+1+1+1+1=((((w.alloc o0).alloc o1).alloc o2).alloc o3).heap.size:=by simp
 rw[e,heap_alloc_new]
theorem adm(w:af)(Y o1:Obj)(o3 o4:Obj):RB (((((w.alloc Y).alloc o1).alloc (.cells #[.string ⟨#[]⟩,.string ⟨#[]⟩] 68)).alloc o3).alloc o4) (w.heap.size+1+1) ⟨#[]⟩ ⟨#[]⟩:=by
 unfold RB;rw[aD _ _ (by simp),aD _ _ (by simp)];have e:w.heap.size+1+1=((w.alloc Y).alloc o1).heap.size:=by simp
 rw[e,heap_alloc_new]
theorem adn(w:af)(Y o1 o2:Obj)(o4:Obj)(v:aj):ZB (((((w.alloc Y).alloc o1).alloc o2).alloc (.cells #[v] 90)).alloc o4) (w.heap.size+1+1+1) v:=by
 unfold ZB;rw[aD _ _ (by simp)];have e:w.heap.size+1+1+1=(((w.alloc Y).alloc o1).alloc o2).heap.size:=by simp
 rw[e,heap_alloc_new]
theorem Ab{a:Addr}{v:aj}(h:w.cell? a=some v):w.setCell a v=w:=by
 have e:(w.heap.modify a.block fun
   |.cells c Y frozen=>.cells (if a.spot.isSome then c else c.setIfInBounds a.off v) Y frozen
   |o=>o)=w.heap:=by
  apply Array.ext
  ·simp
  ·intro i R K;rw[Array.getElem_modify];split
   ·rename_i H;subst H;unfold World.cell? at h;rw[aV K]at h;generalize w.heap[a.block]=o at *;cases o with
    |cells c Y frozen=>
     simp only at h⊢;split at h
     ·simp at h
     ·rename_i D;rw[if_neg D];congr 1;apply Array.ext
      ·simp
      ·intro j I A;rw[Array.getElem_setIfInBounds];split
       ·simp_all
       ·rfl
    |_=>simp at h
   ·rfl
 exact congrArg (fun h=>({w with heap:=h})) e
theorem ado{B:Nat}{k:Nat}{v:aj}{n:Nat}{xs:List _}(h:w.ownsRow B e k v n xs):w.drew.ownsRow B e k v n xs:=h
theorem WW(ref reads:fa)(w:af)(C:ref.size<=400)(d:reads.size<=600):
  ah Tryz.prog 58 #[.string ref,.string reads] w fun e w'=>Hr w ref reads ((jG ref reads).1:Int) ((jG ref reads).2:Int) (iF reads 5 0) e w':=by
 have y:∀(fn:Fn) (first cap:Array aj) (w:af),(dj fn first cap).run Tryz.prog w=.ok (.func fn first cap) w:=fun _ _ _ _=>rfl;have Q:∀W:af,W.cell? ⟨w.heap.size,0,none⟩=some (.string ref)->W.cell? ⟨w.heap.size+1,0,none⟩=some (.string reads)->RB W (w.heap.size+1+1) ⟨#[]⟩ ⟨#[]⟩->ZB W (w.heap.size+1+1+1) (.slice none 0 0)->w.heap.size<=W.heap.size->
   ah Tryz.prog 41 #[.func (.func 89) #[] #[.pointer (some ⟨w.heap.size,0,none⟩),.pointer (some ⟨w.heap.size+1+1,0,none⟩),.pointer (some ⟨w.heap.size+1,0,none⟩),.pointer (some ⟨w.heap.size+1+1+1,0,none⟩)]] W fun e w'=>
    e=.returned (.agg #[.int .i64 ((jG ref reads).1:Int),.int .i64 ((jG ref reads).2:Int)])/\j8 W w' (w.heap.size+1+1) (w.heap.size+1+1+1)/\
    ∃a b V,RB w' (w.heap.size+1+1) a b/\ZB w' (w.heap.size+1+1+1) V/\(∃va n cap,V=.slice va n cap)/\(((jG ref reads).1:Int)=0->a=nk ref/\b=str (iU ref).2/\w'.ownsRow W.heap.size 131 3 V (iF reads 5 0).length (jY (iF reads 5 0))):=by
  intro W c0 c1 L M hW;by_cases Y:(je ref).2=true\/(jB reads 5 0).2=true
  ·refine(WE ref reads _ _ _ _ _ _ _ W C d c0 c1 L M (by omega) (by omega) Y).mono ?_;rintro e w' ⟨rfl,⟨a,b,j⟩,z,X⟩;refine⟨rfl,X,a,b,_,j,z,⟨_,_,_,rfl⟩,fun h=>?_⟩;exfalso;unfold jG at h;by_cases F:(je ref).2=true
   ·rw[if_pos F]at h;simp at h
   ·rw[if_neg F,if_pos (Y.resolve_left F)]at h;simp at h
  ·have F:(je ref).2=false:=by simpa using fun h=>Y (.inl h)
   have f:(jB reads 5 0).2=false:=by simpa using fun h=>Y (.inr h)
   have u:jG ref reads=(0,0):=by unfold jG;rw[F,f];rfl
   rw[u];refine(WV ref reads _ _ _ _ _ _ _ W C d c0 c1 L M (by omega) (by omega) F f).mono ?_;rintro e w' ⟨rfl,j,⟨V,z,X⟩,t⟩;refine⟨rfl,t,_,_,V,j,z,?_,fun _=>⟨rfl,rfl,X⟩⟩;rcases X.2 with⟨C,d⟩|⟨g,cap,p,C,_⟩
   ·exact⟨none,0,0,C⟩
   ·exact⟨_,_,cap,C⟩
 have N:=laid Q;clear Q;generalize r:((jG ref reads).1:Int)=E at *;generalize hP:((jG ref reads).2:Int)=P at *;generalize s:iF reads 5 0=T at *;clear r hP s
 go_enter cT,cY
 go_wp2_with fail
 refine(N.out _ (by simp[go_sem]) (by simp[go_sem]) (adm w _ _ _ _) (adn w _ _ _ _ _) (by simp;omega)).mono ?_;rintro e w1 ⟨rfl,S,a,b,V,L,M,⟨va,n,cap,rfl⟩,R⟩;obtain⟨D,l,m⟩:=agP S;have J:FB w1 (w.heap.size+1+1+1+1) 0 0:=l;have c:Hid (E=0->a=nk ref/\b=str (iU ref).2/\w1.ownsRow (w.heap.size+5) 131 3 (.slice va n cap) T.length (jY T)):=laid fun h=>by
  obtain⟨g1,O,B⟩:=R h;refine⟨g1,O,?_⟩;simpa using B
 clear S l R N;have f0:=J.c0;have f1:=J.c1;have G:=J.fz 0;have q:=J.fz 1;have K:=J.put E P;obtain⟨_,_,H⟩:=pJ (.int .i64 E) (.int .i64 P) f0 f1;have I:=L.at (H.block _ L.lt (by simp));have U:=M.at (H.block _ M.lt (by simp));have A:=D.grown H D.size (by intro k hk;cases hk;omega);have Z:Hid (E=0->a=nk ref/\b=str (iU ref).2/\((w1.setCell ⟨w.heap.size+1+1+1+1,0,none⟩ (.int .i64 E)).setCell ⟨w.heap.size+1+1+1+1,1,none⟩ (.int .i64 P)).ownsRow (w.heap.size+5) 131 3 (.slice va n cap) T.length (jY T)):=laid fun h=>by
  obtain⟨g1,O,B⟩:=c.out h;exact⟨g1,O,B.kept H (Aa B _ (.inl (by omega)))⟩
 have o:=H.size;clear H D c;go_wp2_with fail
 generalize(w1.setCell ⟨w.heap.size+1+1+1+1,0,none⟩ (.int .i64 E)).setCell ⟨w.heap.size+1+1+1+1,1,none⟩ (.int .i64 P)=w2 at *;clear f0 f1 G q;have a0:=I.c0;have a1:=I.c1;have b0:=U.c0;have c0:=K.c0;have c1:=K.c1;have i:=I.fz 0;have za1:=I.fz 1;have zb0:=U.fz 0;have EX:=K.fz 0;have zc1:=K.fz 1;have s1:=Ab a0;have s2:=Ab a1;have s3:=Ab b0;have s4:=Ab c0;have s5:=Ab c1;have x:=K.lt;clear L M J I U K
 go_region
 all_goals
  go_wp2
  refine bu (v:=.tuple #[.agg #[.string a,.string b],.slice va n cap,.agg #[.int .i64 E,.int .i64 P]]) ?_ rfl ?_
  ·simp[results,c7,go_sem,a0,a1,b0,c0,c1]
  ·exact⟨a,b,.slice va n cap,rfl,⟨_,_,_,rfl⟩,A.drew,fun h=>by
    obtain⟨g1,O,B⟩:=Z.out h;exact⟨g1,O,GK (ado B) (by omega)⟩⟩
theorem Xi(ref reads:fa)(w:af)(K:ref.size<=ao)(H:reads.size<=ao)(Y:400<ref.size\/600<reads.size):
  ah Tryz.prog 58 #[.string ref,.string reads] w fun e w'=>Hr w ref reads 1 0 (iF reads 5 0) e w':=by
 have I:∀(fn:Fn) (first cap:Array aj) (w:af),(dj fn first cap).run Tryz.prog w=.ok (.func fn first cap) w:=fun _ _ _ _=>rfl;unfold ao at K H;generalize D:iF reads 5 0=A at *;clear D;by_cases R:400<ref.size
 ·clear Y
  go_enter cT,cY
  go_wp2
  refine bu (v:=.tuple #[.agg #[.string ⟨#[]⟩,.string ⟨#[]⟩],.slice none 0 0,.agg #[.int .i64 1,.int .i64 0]]) ?_ rfl ?_
  ·simp[results,c7,go_sem]
  ·refine⟨_,_,_,rfl,⟨_,_,_,rfl⟩,?_,fun h=>by simp at h⟩;exact((((((au _ _).alloc (ai _) _).alloc (by simp) _).alloc (by simp;omega) _).alloc (by simp;omega) _).alloc (by simp;omega) _)
 ·have U:=Y.resolve_left R;clear Y
  go_enter cT,cY
  go_wp2
  refine bu (v:=.tuple #[.agg #[.string ⟨#[]⟩,.string ⟨#[]⟩],.slice none 0 0,.agg #[.int .i64 1,.int .i64 0]]) ?_ rfl ?_
  ·simp[results,c7,go_sem]
  ·refine⟨_,_,_,rfl,⟨_,_,_,rfl⟩,?_,fun h=>by simp at h⟩;exact((((((au _ _).alloc (ai _) _).alloc (by simp) _).alloc (by simp;omega) _).alloc (by simp;omega) _).alloc (by simp;omega) _)
theorem M9(ref reads:fa)(w:af)(D:ref.size<=ao)(R:reads.size<=ao):
  ah Tryz.prog 58 #[.string ref,.string reads] w fun e w'=>Hr w ref reads (kz ref reads) (oq ref reads) (iF reads 5 0) e w':=by
 by_cases Y:400<ref.size\/600<reads.size
 ·have K:kz ref _=1:=if_pos Y;have H:oq ref _=0:=if_pos Y;rw[K,H];exact Xi ref _ w D R Y
 ·have K:kz ref _=((jG ref _).1):=if_neg Y;have H:oq ref _=((jG ref _).2):=if_neg Y;rw[K,H];exact WW ref _ w (by omega) (by omega)
theorem XJ(ref reads:fa)(w:af)(H:ref.size<=ao)(D:reads.size<=ao):
  ah Tryz.prog 52 #[.string ref,.string reads] w fun e w'=>e=.returned (.tuple #[.int .i64 (kz ref reads),.int .i64 (oq ref reads)])/\ae w.heap.size w w':=by
 have K:=laid (M9 ref reads w H D)
 go_enter Tryz.func52,Tryz.ntmps52
 go_wp2_with fail
 refine K.out.mono ?_;rintro e w1 ⟨a,b,V,rfl,⟨va,n,cap,rfl⟩,Y,_⟩;go_wp2
 go_quiet(fail)
 go_wp2
 go_ret2
 exact⟨rfl,Go.below_drewN ((Y.alloc Y.size _).alloc (by simp;have:=Y.size;omega) _) _⟩
theorem BG(ref reads:fa)(w:af)(J:ref.size<=ao)(L:reads.size<=ao):
  ah Tryz.prog 53 #[.string ref,.string reads] w fun e w'=>e=.returned (.tuple #[.int .i64 (kz ref reads),.int .i64 (oq ref reads)])/\ae w.heap.size w w':=by
 unfold ao at J L;by_cases C:400<ref.size
 ·have H:kz ref reads=1:=if_pos (.inl C);have D:oq ref reads=0:=if_pos (.inl C);rw[H,D];clear H D
  go_enter bI,bJ
  go_wp2
  go_ret2
  exact⟨rfl,au _ _⟩
 ·by_cases F:600<reads.size
  ·have H:kz ref reads=1:=if_pos (.inr F);have D:oq ref reads=0:=if_pos (.inr F);rw[H,D];clear H D
   go_enter bI,bJ
   go_wp2
   go_ret2
   exact⟨rfl,au _ _⟩
  ·have H:kz ref reads=((jG ref reads).1:Int):=if_neg (by omega);have D:oq ref reads=((jG ref reads).2:Int):=if_neg (by omega);rw[H,D];clear H D;by_cases hr:(je ref).2=true
   ·have R:jG ref reads=(2,(je ref).1):=if_pos hr;rw[R];have I:=laid (show placeOf (iU ref).1=((je ref).1:Int) by rw[vK];exact FN hr);clear R hr
    go_enter bI,bJ
    go_wp2_with fail
    refine(qO ref _ (by omega)).mono ?_;rintro e w1 ⟨rfl,Y⟩;rw[I.out];clear I;go_wp2
    go_ret2
    exact⟨rfl,Y.alloc Y.size _⟩
   ·rw[aQ]at hr;have I:=laid (show placeOf (iU ref).1= -1 by rw[vK];exact zq hr);by_cases U:(jB reads 5 0).2=true
    ·have R:jG ref reads=(3,(jB reads 5 0).1):=by unfold jG;rw[if_neg (by simp[hr]),if_pos U]
     rw[R];have B:=laid (FN U);clear R hr U
     go_enter bI,bJ
     go_wp2_with fail
     refine(qO ref _ (by omega)).mono ?_;rintro e w1 ⟨rfl,Y⟩;rw[I.out];clear I;go_wp2_with fail
     refine(Cg reads _ (by omega)).mono ?_;rintro e w2 ⟨V,rfl,K,_⟩;rw[B.out];clear B;have A:ae w.heap.size w w2:=(Y.alloc Y.size _).trans (K.mono (by simp;have:=Y.size;omega));clear Y K;go_wp2
     go_ret2
     exact⟨rfl,A⟩
    ·rw[aQ]at U;have R:jG ref reads=(0,0):=by unfold jG;rw[hr,U];rfl
     rw[R];have B:=laid (zq U);clear R hr U
     go_enter bI,bJ
     go_wp2_with fail
     refine(qO ref _ (by omega)).mono ?_;rintro e w1 ⟨rfl,Y⟩;rw[I.out];clear I;go_wp2_with fail
     refine(Cg reads _ (by omega)).mono ?_;rintro e w2 ⟨V,rfl,K,_⟩;rw[B.out];clear B;have A:ae w.heap.size w w2:=(Y.alloc Y.size _).trans (K.mono (by simp;have:=Y.size;omega));clear Y K;go_wp2
     go_ret2
     exact⟨rfl,A⟩
def nF(len X k st b:Nat):=min (b *st+st+len+k) X
def looked(P X:fa)(k q st:Nat)(t:Int)(b:Nat):Bool:=decide (t<=0)||decide (t<=(mB P (X.extract (b *st) (nF P.size X.size k st b)) q:Int))
def jL(P X:fa)(k q st:Nat)(t:Int)
 |0=>[]
 |b+1=>if looked P X k q st t b=true then(if jL P X k q st t b=[]then gL b else jL P X k q st t b++(44::gL b))else jL P X k q st t b
theorem kY(n:Nat)(h:n<=9999):1<=(gL n).length/\(gL n).length<=4:=by
 by_cases Y:n<=9
 ·rw[vA n Y];simp
 rw[xW n Y];by_cases K:n/10<=9
 ·rw[vA _ K];simp
 rw[xW _ K];by_cases H:n/10/10<=9
 ·rw[vA _ H];simp
 rw[xW _ H,vA _ (by omega)];simp
theorem OA(P X:fa)(k q st:Nat)(t:Int):∀b,b<=9999->(jL P X k q st t b).length<=5 *b
 |0,_=>by simp[jL]
 |b+1,h=>by
  have Y:=OA P X k q st t b (by omega);have K:=kY b (by omega);simp[jL];split
  ·split
   ·omega
   ·rw[ar,aX];omega
  ·omega
def stretches(X st:Nat):=(X+st-1)/st
theorem xH(X st b:Nat)(Y:1<=st):b *st<X↔b<stretches X st:=by
 unfold stretches;rw[Nat.lt_div_iff_mul_lt (by omega)];omega
def iJ(len k q:Nat):Int:=(len:Int)-(q:Int)+1-((k *q:Nat):Int)
def Ri(ref gj:fa)(k q step:Int):=
 jL (str (gj.data.toList.map gb)) (str (iU ref).2) k.toNat q.toNat step.toNat (iJ gj.size k.toNat q.toNat) (stretches (iU ref).2.length step.toNat)
def qz(ref gj:fa)(k q step:Int):=
 if 400<ref.size\/(je ref).2=true\/gj.size<1\/30<gj.size\/gj.data.toList.all g_=false\/kS k gj.size q step=false then⟨#[]⟩else str (Ri ref gj k q step)
def mA(ref gj:fa)(k q step:Int):Int:=
 if 400<ref.size then 1 else if(je ref).2=true then 2 else if gj.size<1\/30<gj.size\/gj.data.toList.all g_=false then 5 else if kS k gj.size q step=false then 4 else 0
theorem NI(s:fa):∀f acc st,acc.length<=200->st.1<=s.size->(nz s f acc st).2.length<=200
 |0,acc,st,h,_=>h
 |f+1,acc,st,h,Y=>by
  simp[nz];split
  ·refine NI s f _ _ ?_ (rQ s _ _ Y).2;have:=CD s (200-acc.length) _ Y;have:=vN s (200-acc.length) st.1;rw[ar];omega
  omega
theorem B2(s:fa):(iU s).2.length<=200:=NI s _ _ _ (by simp) (t_ s 62 0 (by omega)).2
theorem XK(ref gj:fa)(k q step:Int)(w:af)(Y:ref.size<=ao)(K:400<ref.size):
  ah Tryz.prog 56 #[.string ref,.string gj,.int .i64 k,.int .i64 q,.int .i64 step] w fun e w'=>e=.returned (.tuple #[.string ⟨#[]⟩,.int .i64 1])/\ae w.heap.size w w':=by
 go_wp2
 go_ret2
 exact⟨rfl,au _ _⟩
theorem XL(ref gj:fa)(k q step:Int)(w:af)(H:¬400<ref.size)(hr:(je ref).2=true):
  ah Tryz.prog 56 #[.string ref,.string gj,.int .i64 k,.int .i64 q,.int .i64 step] w fun e w'=>e=.returned (.tuple #[.string ⟨#[]⟩,.int .i64 2])/\ae w.heap.size w w':=by
 have K:=laid (show placeOf (iU ref).1=((je ref).1:Int) by rw[vK];exact FN hr)
 go_enter bq,br
 go_wp2_with fail
 refine(qO ref _ (by omega)).mono ?_;rintro e w1 ⟨rfl,Y⟩;rw[K.out];go_wp2
 go_ret2
 exact⟨rfl,Y.alloc Y.size _⟩
theorem XM(ref gj:fa)(k q step:Int)(w:af)(U:gj.size<=ao)(B:¬400<ref.size)(hr:(je ref).2=false)(H:gj.size<1\/30<gj.size\/gj.data.toList.all g_=false):
  ah Tryz.prog 56 #[.string ref,.string gj,.int .i64 k,.int .i64 q,.int .i64 step] w fun e w'=>e=.returned (.tuple #[.string ⟨#[]⟩,.int .i64 5])/\ae w.heap.size w w':=by
 unfold ao at U;have K:=laid (show placeOf (iU ref).1= -1 by rw[vK];exact zq hr);clear hr;by_cases D:gj.size<1
 ·go_enter bq,br
  clear H;go_wp2_with fail
  refine(qO ref _ (by omega)).mono ?_;rintro e w1 ⟨rfl,Y⟩;rw[K.out];clear K;go_wp2
  go_ret2
  exact⟨rfl,Y.alloc Y.size _⟩
 ·by_cases R:30<gj.size
  ·clear H
   go_enter bq,br
   go_wp2_with fail
   refine(qO ref _ (by omega)).mono ?_;rintro e w1 ⟨rfl,Y⟩;rw[K.out];clear K;go_wp2
   go_ret2
   exact⟨rfl,Y.alloc Y.size _⟩
  ·have I:=laid ((H.resolve_left D).resolve_left R);clear H
   go_enter bq,br
   go_wp2_with fail
   refine(qO ref _ (by omega)).mono ?_;rintro e w1 ⟨rfl,Y⟩;rw[K.out];clear K;go_wp2_with fail
   refine(N0 gj _ (by omega) I.out).mono ?_;rintro e w2 ⟨rfl,rfl⟩;go_wp2
   go_ret2
   exact⟨rfl,Y.alloc Y.size _⟩
theorem XO(ref gj:fa)(k q step:Int)(w:af)(F:¬400<ref.size)(hr:(je ref).2=false)(B:¬gj.size<1)(C:¬30<gj.size)(D:gj.data.toList.all g_=true)(R:kS k gj.size q step=false):
  ah Tryz.prog 56 #[.string ref,.string gj,.int .i64 k,.int .i64 q,.int .i64 step] w fun e w'=>e=.returned (.tuple #[.string ⟨#[]⟩,.int .i64 4])/\ae w.heap.size w w':=by
 have A:=laid (show placeOf (iU ref).1= -1 by rw[vK];exact zq hr);have U:=laid D;have K:(str (gj.data.toList.map gb)).size=gj.size:=by rw[h_];simp
 have H:=laid K;have I:=laid R;clear hr D K R
 go_enter bq,br
 go_wp2_with fail
 refine(qO ref _ (by omega)).mono ?_;rintro e w1 ⟨rfl,Y⟩;rw[A.out];clear A;go_wp2_with fail
 refine(FU gj _ (by omega) U.out).mono ?_;rintro e w2 ⟨rfl,rfl⟩;go_wp2_with fail
 refine(B_ _ _ _ _ _).mono ?_;rintro e w3 ⟨rfl,rfl⟩;rw[H.out,I.out];go_wp2
 go_ret2
 exact⟨rfl,Y.alloc Y.size _⟩
theorem DY(s:fa)(i:Nat)(h:i<s.size):s.extract i (i+1)=str [at8 s i]:=by
 apply ByteArray.ext;apply Array.ext';rw[bB,bA];unfold str at8;have Y:=by omega
 simp only[cC];rw[cB Y,aA,aB Y];simp
def iH(s:fa)
 |0=>([],0)
 |i+1=>if i+1=s.size\/at8 s (i+1)≠at8 s i then((iH s i).1++gL ((iH s i).2+1)++[at8 s i],0)else((iH s i).1,(iH s i).2+1)
def nb(s:fa):=(iH s s.size).1
theorem CM(s:fa):∀i,i<=9000->(iH s i).2<=i/\(iH s i).1.length<=5 *i
 |0,_=>by simp[iH]
 |i+1,h=>by
  have Y:=CM s i (by omega);have hd:=kY ((iH s i).2+1) (by omega);rw[iH];split
  ·simp;omega
  ·simp only;omega
theorem Qu{s:fa}{i:Nat}(h:i+1=s.size\/at8 s (i+1)≠at8 s i):iH s (i+1)=((iH s i).1++gL ((iH s i).2+1)++[at8 s i],0):=by rw[iH,if_pos h]
theorem Rj{s:fa}{i:Nat}(h:¬(i+1=s.size\/at8 s (i+1)≠at8 s i)):iH s (i+1)=((iH s i).1,(iH s i).2+1):=by rw[iH,if_neg h]
theorem Aw(a b c:List _):str a++str b++str c=str (a++b++c):=by rw[kX,kX]
theorem toNat_ne{a b:UInt8}(h:a≠b):(a.toNat != (b.toNat:Int))=true:=by
 rw[bne_iff_ne];intro Y;exact h (UInt8.toNat.inj (by omega))
theorem toNat_eq{a b:UInt8}(h:a=b):((a.toNat:Int) != b.toNat)=false:=by simp_all
theorem B3(x:Int)(n:Nat)(K:x=n)(w:af)(Y:n<=1000000):
  ah Tryz.prog 86 #[.int .i64 x] w fun e w'=>e=.returned (.string (str (gL n)))/\w'=w:=by
 subst K;exact qd n w Y
theorem sU(a b:fa)(Y:a.size<=100000000)(K:b.size<=100000000)(w:af):(Op.stringOp .add a b).run Tryz.prog w=.ok (.string (a++b)) w:=run_string_add_sum (w:=w) a b (by omega)
theorem adp(s:fa)(w:af)(f:s.size<=1000):
  ah Tryz.prog 107 #[.string s] w fun e w'=>e=.returned (.string (str (nb s)))/\∃m,w'=w.drewN m:=by
 go_enter Tryz.func107,Tryz.ntmps107
 go_wp2
 go_loopw [3,4,5] (fun c J iv wr=>∃(i d:Nat),c=.string (str (iH s i).1)/\J=.int .i64 ((iH s i).2:Int)/\iv=.int .i64 (i:Int)/\i<=s.size/\wr=w.drewN d) (fun _ _ iv _=>s.size-(intOf iv).toNat)
 case atStart=>exact⟨0,0,rfl,rfl,rfl,ay _,rfl⟩
 case round=>
  obtain⟨i,d,rfl,rfl,rfl,E,rfl⟩:=hrel;have F:=CM s i (by omega);by_cases I:i<s.size
  ·have V:(i:Int)<(s.size:Int):=by omega
   have T:(0:Int)<=(i:Int):=by omega
   have S:=kZ s i I;have hcut:=DY s i I;have D:=laid (@Qu s i);have U:=laid (@Rj s i);have j:(str (iH s i).1).size<=100000:=by rw[h_];omega
   have C:=kY ((iH s i).2+1) (by omega);have z:(str (gL ((iH s i).2+1))).size<=100000:=by rw[h_];omega
   have M:=laid (fun W=>B3 (((iH s i).2:Int)+1) ((iH s i).2+1) (by omega) W (by omega));have N:=laid (Aw (iH s i).1 (gL ((iH s i).2+1)) [at8 s i]);have G:(iH s i).2<=1000:=by omega
   have g:=sU (str (iH s i).1) (str (gL ((iH s i).2+1))) (by rw[h_];omega) (by rw[h_];omega);have l:=sU (str (iH s i).1++str (gL ((iH s i).2+1))) (str [at8 s i]) (by rw[kX,h_,ar];omega) (by rw[h_];simp);clear F C;generalize(iH s i).1=O at *;generalize(iH s i).2=n at *;by_cases Y:i+1=s.size
   ·have B:((i:Int)+1==(s.size:Int))=true:=by simp;omega
    have H:=laid (D.out (.inl Y));clear D U Y;go_wp2_with fail
    go_quiet(fail)
    rw[bh];go_wp2_with fail
    go_quiet((go_at_call 86;refine(M.out _).mono ?_;rintro e L ⟨rfl,rfl⟩;exact⟨rfl,_,rfl⟩))
    rw[bh];go_wp2
    go_roundw
    case rel=>go_light;exact⟨i+1,_,jj (by rw[H.out];exact N.out),ib (by rw[H.out];rfl),by go_num,by omega,rfl⟩
    case measure=>go_light;simp[intOf];omega
   ·have B:((i:Int)+1==(s.size:Int))=false:=by simp;omega
    have A:i+1<s.size:=by omega
    have X:(i:Int)+1<(s.size:Int):=by omega
    have Z:(0:Int)<=(i:Int)+1:=by omega
    have P:=kZ s (i+1) A;by_cases K:at8 s (i+1)=at8 s i
    ·have q:=toNat_eq K;have H:=laid (U.out (by rintro(h|h);exact Y h;exact h K));clear D U Y K;go_wp2_with fail
     go_quiet(fail)
     rw[bh];go_wp2
     go_roundw
     case rel=>go_light;exact⟨i+1,_,jj (by rw[H.out]),ib (by rw[H.out];omega),by go_num,by omega,rfl⟩
     case measure=>go_light;simp[intOf];omega
    ·have q:=toNat_ne K;have H:=laid (D.out (.inr K));clear D U Y K;go_wp2_with fail
     go_quiet(fail)
     rw[bh];go_wp2_with fail
     go_quiet((go_at_call 86;refine(M.out _).mono ?_;rintro e L ⟨rfl,rfl⟩;exact⟨rfl,_,rfl⟩))
     rw[bh];go_wp2
     go_roundw
     case rel=>go_light;exact⟨i+1,_,jj (by rw[H.out];exact N.out),ib (by rw[H.out];rfl),by go_num,by omega,rfl⟩
     case measure=>go_light;simp[intOf];omega
  ·have R:i=s.size:=by omega
   have Q:Hid (str (iH s i).1=str (nb s)):=laid (by unfold nb;rw[R]);clear R;generalize(iH s i).1=O at *;generalize(iH s i).2=n at *;go_wp2
   go_ret
   exact⟨lZ Q.out,d,rfl⟩
structure Df where
 o:List UInt8
 i:Nat
 j:Nat
 n:Nat
def q_(p t s:fa)(x:Nat)(st:Df):Df:=
 if at8 s x=77 then(if ag (at8 p st.i) (at8 t st.j)=true then⟨st.o,st.i+1,st.j+1,st.n+1⟩else⟨st.o++gL st.n++[at8 t st.j],st.i+1,st.j+1,0⟩)
 else if at8 s x=73 then⟨st.o,st.i+1,st.j,st.n⟩
 else if x=0\/at8 s (x-1)≠68 then⟨st.o++gL st.n++[94]++[at8 t st.j],st.i,st.j+1,0⟩else⟨st.o++[at8 t st.j],st.i,st.j+1,st.n⟩
def iu(p t s:fa):Nat->Df
 |0=>⟨[],0,0,0⟩
 |x+1=>q_ p t s x (iu p t s x)
def ng(p t s:fa):=(iu p t s s.size).o++gL (iu p t s s.size).n
theorem CN(p t s:fa):∀x,x<=9000->(iu p t s x).i<=x/\(iu p t s x).j<=x/\(iu p t s x).n<=x/\(iu p t s x).o.length<=6 *x
 |0,_=>by simp[iu]
 |x+1,h=>by
  have Y:=CN p t s x (by omega);have hd:=kY (iu p t s x).n (by omega);simp only[iu,q_];split
  ·split
   ·simp only;omega
   ·simp;omega
  ·split
   ·simp only;omega
   ·split
    ·simp;omega
    ·simp only[ar,aX,bk];omega
def Fits(p t s:fa):=∀x,x<s.size->(at8 s x=77->(iu p t s x).i<p.size/\(iu p t s x).j<t.size)/\(at8 s x≠77->at8 s x≠73->(iu p t s x).j<t.size)
theorem Qv(a:UInt8)(n:Nat)(K:n<256):(a.toNat==(n:Int))=decide (a=UInt8.ofNat n):=by
 by_cases h:a=UInt8.ofNat n
 ·rw[decide_eq_true h,h];simp only[beq_iff_eq];rw[dR];omega
 ·rw[decide_eq_false h];simp;intro Y;apply h;apply UInt8.toNat.inj;rw[dR];omega
theorem adq(p t s:fa)(w:af)(hp:p.size<=1000)(ht:t.size<=1000)(hs:s.size<=1000)(L:Fits p t s):
  ah Tryz.prog 108 #[.string p,.string t,.string s] w fun e w'=>e=.returned (.string (str (ng p t s)))/\∃m,w'=w.drewN m:=by
 have Q:=laid L;clear L
 go_enter Tryz.func108,Tryz.ntmps108
 go_wp2
 go_loopw [7,8,9,10,11] (fun ov iv jv l u wr=>∃(x d:Nat),ov=.string (str (iu p t s x).o)/\iv=.int .i64 ((iu p t s x).i:Int)/\jv=.int .i64 ((iu p t s x).j:Int)/\l=.int .i64 ((iu p t s x).n:Int)/\u=.int .i64 (x:Int)/\x<=s.size/\wr=w.drewN d) (fun _ _ _ _ u _=>s.size-(intOf u).toNat)
 case atStart=>exact⟨0,0,rfl,rfl,rfl,rfl,rfl,ay _,rfl⟩
 case round=>
  obtain⟨x,d,rfl,rfl,rfl,rfl,rfl,AD,rfl⟩:=hrel;have z:=CN p t s x (by omega);by_cases V:x<s.size
  ·have rB:(x:Int)<(s.size:Int):=by omega
   have xl:(0:Int)<=(x:Int):=by omega
   have xy:=kZ s x V;have B:=Q.out x V;have U:Hid (iu p t s (x+1)=q_ p t s x (iu p t s x)):=laid rfl;generalize iu p t s x=st at *;have⟨O,I,J,N⟩:=st;simp only at *;have T:=kY N (by omega);have f:(str O).size<=100000:=by rw[h_];omega
   have g:(str (gL N)).size<=100000:=by rw[h_];omega
   have P:=laid (fun W=>qd N W (by omega));by_cases K:at8 s x=77
   ·have v:(((at8 s x).toNat:Int)==77)=true:=by rw[K];rfl
    have M:=B.1 K;have JV:(I:Int)<(p.size:Int):=by omega
    have AM:(0:Int)<=(I:Int):=by omega
    have q:(J:Int)<(t.size:Int):=by omega
    have G:(0:Int)<=(J:Int):=by omega
    have hpI:=kZ p I M.1;have Vd:=kZ t J M.2;have hcut:=DY t J M.2;have q1:=sU (str O) (str (gL N)) (by omega) (by omega);have q2:=sU (str O++str (gL N)) (str [at8 t J]) (by rw[kX,h_,ar];omega) (by rw[h_];simp);have k:=laid (Aw O (gL N) [at8 t J]);have H:Hid (iu p t s (x+1)=if ag (at8 p I) (at8 t J)=true then⟨O,I+1,J+1,N+1⟩else⟨O++gL N++[at8 t J],I+1,J+1,0⟩):=laid (by rw[U.out,q_,if_pos K]);clear K B U;go_wp2_with fail
    go_quiet((go_at_call 119;refine(Gk _ _ _).mono ?_;rintro e r ⟨rfl,rfl⟩;exact⟨rfl,_,rfl⟩))
    rw[bh];by_cases R:ag (at8 p I) (at8 t J)=true
    ·have Y:Hid (iu p t s (x+1)=⟨O,I+1,J+1,N+1⟩):=laid (by rw[H.out,if_pos R]);rw[R];clear H R;go_wp2
     go_roundw
     case rel=>go_light;exact⟨x+1,_,jj (by rw[Y.out]),ib (by rw[Y.out];simp),ib (by rw[Y.out];simp),ib (by rw[Y.out];simp),by go_num,by omega,rfl⟩
     case measure=>go_light;simp[intOf];omega
    ·have Y:Hid (iu p t s (x+1)=⟨O++gL N++[at8 t J],I+1,J+1,0⟩):=laid (by rw[H.out,if_neg R]);rw[aQ]at R;rw[R];clear H R;go_wp2_with fail
     go_quiet((go_at_call 86;refine(P.out _).mono ?_;rintro e r ⟨rfl,rfl⟩;exact⟨rfl,_,rfl⟩))
     rw[bh];go_wp2
     go_roundw
     case rel=>go_light;exact⟨x+1,_,jj (by rw[Y.out];exact k.out),ib (by rw[Y.out];simp),ib (by rw[Y.out];simp),ib (by rw[Y.out];rfl),by go_num,by omega,rfl⟩
     case measure=>go_light;simp[intOf];omega
   ·by_cases D:at8 s x=73
    ·have v:(((at8 s x).toNat:Int)==77)=false:=by rw[D];rfl
     have e2:(((at8 s x).toNat:Int)==73)=true:=by rw[D];rfl
     have Y:Hid (iu p t s (x+1)=⟨O,I+1,J,N⟩):=laid (by rw[U.out,q_,if_neg K,if_pos D]);clear K D B;go_wp2
     go_roundw
     case rel=>go_light;exact⟨x+1,d,jj (by rw[Y.out]),ib (by rw[Y.out];simp),ib (by rw[Y.out]),ib (by rw[Y.out]),by go_num,by omega,rfl⟩
     case measure=>go_light;simp[intOf];omega
    ·have v:(((at8 s x).toNat:Int)==77)=false:=by have:=Qv (at8 s x) 77 (by omega);rw[show((77:Nat):Int)=77 from rfl]at this;rw[this];exact decide_eq_false K
     have e2:(((at8 s x).toNat:Int)==73)=false:=by have:=Qv (at8 s x) 73 (by omega);rw[show((73:Nat):Int)=73 from rfl]at this;rw[this];exact decide_eq_false D
     have hJ:=B.2 K D;have q:(J:Int)<(t.size:Int):=by omega
     have G:(0:Int)<=(J:Int):=by omega
     have hcut:=DY t J hJ;have H:Hid (iu p t s (x+1)=if x=0\/at8 s (x-1)≠68 then⟨O++gL N++[94]++[at8 t J],I,J+1,0⟩else⟨O++[at8 t J],I,J+1,N⟩):=laid (by rw[U.out,q_,if_neg K,if_neg D]);have hz3:(str [at8 t J]).size<=100:=by rw[h_];simp
     have S:=laid (show str O++str (gL N)++⟨#[94]⟩++str [at8 t J]=str (O++gL N++[94]++[at8 t J]) by
      rw[kX];have:(⟨#[94]⟩:fa)=str [94]:=rfl;rw[this,kX,kX])
     have E:=laid (kX O [at8 t J]);have hz4:(str O++str (gL N)).size<=100000:=by rw[kX,h_,ar];omega
     have hz5:(str O++str (gL N)++⟨#[94]⟩).size<=100000:=by
      have:(⟨#[94]⟩:fa)=str [94]:=rfl;rw[kX,this,kX,h_,ar,ar];simp;omega
     clear K D B U T;by_cases F:x=0
     ·have Y:Hid (iu p t s (x+1)=⟨O++gL N++[94]++[at8 t J],I,J+1,0⟩):=laid (by rw[H.out,if_pos (.inl F)]);have hd:((x:Int)==0)=true:=by simp;omega
      clear H F;go_wp2_with(go_at_call 86;refine(P.out _).mono ?_;rintro e w' ⟨rfl,rfl⟩)
      go_roundw
      case rel=>go_light;exact⟨x+1,d,jj (by rw[Y.out];exact S.out),ib (by rw[Y.out]),ib (by rw[Y.out];simp),ib (by rw[Y.out];rfl),by go_num,by omega,rfl⟩
      case measure=>go_light;simp[intOf];omega
     ·obtain⟨y,Z⟩:∃y,x=y+1:=⟨x-1,by omega⟩;have c:y<s.size:=by omega
      have b:=kZ s y c;have Ve:(y:Int)<(s.size:Int):=by omega
      have vi:aH.wrap ((x:Int)-1)=(y:Int):=by rw[show(x:Int)-1=(y:Int) by omega];exact aI _ (by omega)
      have pj:(x:Int)-1=(y:Int):=by omega
      have hd:((x:Int)==0)=false:=by simp;omega
      have HXY:=laid Z;have C:Hid (iu p t s (x+1)=if at8 s y≠68 then⟨O++gL N++[94]++[at8 t J],I,J+1,0⟩else⟨O++[at8 t J],I,J+1,N⟩):=laid (by
       rw[H.out,show x-1=y by omega];by_cases h:at8 s y≠68
       ·rw[if_pos (.inr h),if_pos h]
       ·rw[if_neg (by rintro(h'|h');exact F h';exact h h'),if_neg h])
      clear Z F H;by_cases A:at8 s y=68
      ·have Y:Hid (iu p t s (x+1)=⟨O++[at8 t J],I,J+1,N⟩):=laid (by rw[C.out,if_neg (by simpa using A)]);have e3:(((at8 s y).toNat:Int) != 68)=false:=by rw[A];rfl
       clear C A;go_wp2_with(go_at_call 86;refine(P.out _).mono ?_;rintro e w' ⟨rfl,rfl⟩)
       go_roundw
       case rel=>go_light;exact⟨x+1,d,jj (by rw[Y.out];exact E.out),ib (by rw[Y.out]),ib (by rw[Y.out];simp),ib (by rw[Y.out]),by go_num,by omega,rfl⟩
       case measure=>go_light;simp[intOf];omega
      ·have Y:Hid (iu p t s (x+1)=⟨O++gL N++[94]++[at8 t J],I,J+1,0⟩):=laid (by rw[C.out,if_pos A]);have e3:(((at8 s y).toNat:Int) != 68)=true:=by have:=toNat_ne A;exact this
       clear C A;go_wp2_with(go_at_call 86;refine(P.out _).mono ?_;rintro e w' ⟨rfl,rfl⟩)
       go_roundw
       case rel=>go_light;exact⟨x+1,d,jj (by rw[Y.out];exact S.out),ib (by rw[Y.out]),ib (by rw[Y.out];simp),ib (by rw[Y.out];rfl),by go_num,by omega,rfl⟩
       case measure=>go_light;simp[intOf];omega
  ·have X:x=s.size:=by omega
   have a:Hid (str (iu p t s x).o++str (gL (iu p t s x).n)=str (ng p t s)):=laid (by unfold ng;rw[kX,X]);have T:=kY (iu p t s x).n (by omega);have P:=laid (fun W=>qd (iu p t s x).n W (by omega));have f:(str (iu p t s x).o).size<=100000:=by rw[h_];omega
   have g:(str (gL (iu p t s x).n)).size<=100000:=by rw[h_];omega
   clear X z;generalize iu p t s x=st at *;have⟨O,I,J,N⟩:=st;simp only at *;go_wp2_with(go_at_call 86;refine(P.out _).mono ?_;rintro e w' ⟨rfl,rfl⟩)
   go_ret
   exact⟨lZ a.out,d,rfl⟩
def rH(c:UInt8):=c==77||c==73
def qa(c:UInt8):=c != 73
theorem afl(l:List _)(x:Nat):at8 (str l) x=l.getD x 0:=rfl
theorem Rk(s:fa)(x:Nat)(h:x<s.size):s.data.toList.take (x+1)=s.data.toList.take x++[at8 s x]:=by
 have Y:x<s.data.toList.length:=by simpa using h
 rw[dD,aB Y];unfold at8;rw[aA,aB Y];rfl
theorem Rl(p t s:fa):∀x,x<=s.size->(iu p t s x).i=(s.data.toList.take x).countP rH/\(iu p t s x).j=(s.data.toList.take x).countP qa
 |0,_=>by simp[iu]
 |x+1,h=>by
  have R:=Rl p t s x (by omega);rw[Rk s x (by omega),aN,aN];simp only[iu,q_];by_cases K:at8 s x=77
  ·rw[if_pos K];have H:[at8 s x].countP rH=1:=by rw[K];rfl
   have D:[at8 s x].countP qa=1:=by rw[K];rfl
   split<;>simp only<;>omega
  ·rw[if_neg K];by_cases Y:at8 s x=73
   ·rw[if_pos Y];have H:[at8 s x].countP rH=1:=by rw[Y];rfl
    have D:[at8 s x].countP qa=0:=by rw[Y];rfl
    simp_all
   ·rw[if_neg Y];have H:[at8 s x].countP rH=0:=by simp[rH,K,Y]
    have D:[at8 s x].countP qa=1:=by simp[qa,Y]
    split<;>simp only<;>omega
theorem B4(p t:fa):∀(f i j:Nat),i+j<=f->(jc p t f i j).countP rH=i/\(jc p t f i j).countP qa=j
 |0,i,j,h=>by
  have U:i=0:=by omega
  have B:j=0:=by omega
  subst U B;simp[jc]
 |f+1,i,j,h=>by
  rw[jc];by_cases I:i=0/\j=0
  ·simp_all
  ·rw[if_neg I];by_cases H:mi p t i j=true
   ·rw[if_pos H];have A:=CF H;have Y:=B4 p t f (i-1) (j-1) (by omega);rw[aN,aN,Y.1,Y.2];have D:[(77:UInt8)].countP rH=1:=rfl;have R:[(77:UInt8)].countP qa=1:=rfl;omega
   ·rw[if_neg H];by_cases K:mE p t i j=true
    ·rw[if_pos K];have A:=CG K;have Y:=B4 p t f (i-1) j (by omega);rw[aN,aN,Y.1,Y.2];have D:[(73:UInt8)].countP rH=1:=rfl;have R:[(73:UInt8)].countP qa=0:=rfl;omega
    ·rw[if_neg K];have A:=Co (by simpa using K) I;have Y:=B4 p t f i (j-1) (by omega);rw[aN,aN,Y.1,Y.2];have D:[(68:UInt8)].countP rH=0:=rfl;have R:[68].countP qa=1:=rfl;omega
theorem Pp(p t:fa):Fits p t (str (iq p t)):=by
 intro x C;have J:=B4 p t _ p.size t.size (ai _);have H:=Rl p t (str (iq p t)) x (by omega);have Y:=Rk _ x C;have D:∀f,((str (iq p t)).data.toList.take (x+1)).countP f<=(iq p t).countP f:=fun f=>(List.take_sublist _ _).countP_le;have R:=D rH;have I:=D qa;have U:iq p t=jc p t _ _ _:=rfl;rw[Y,aN]at R I;rw[U]at R I;rw[H.1,H.2];rw[U]at *;refine⟨fun K=>?_,fun K A=>?_⟩
 ·rw[K]at R I;have F:[77].countP rH=1:=rfl;have B:[77].countP qa=1:=rfl;omega
 ·have B:[at8 (str (jc p t (p.size+t.size) p.size t.size)) x].countP qa=1:=by simp[qa,A]
  omega
def pY(s:fa)
 |0=>[]
 |x+1=>pY s x++[at8 s (s.size-1-x)]
def ki(s:fa):=pY s s.size
theorem Ht(s:fa):∀x,(pY s x).length=x
 |0=>rfl
 |x+1=>by rw[pY,ar,Ht s x];rfl
theorem Qw(s:fa):∀x,x<=s.size->pY s x=(s.data.toList.drop (s.size-x)).reverse
 |0,_=>by simp[pY]
 |x+1,h=>by
  rw[pY,Qw s x (by omega)];have Y:s.size-(x+1)<s.data.toList.length:=by simp;omega
  rw[cB Y,List.reverse_cons,show s.size-(x+1)+1=s.size-x by omega];unfold at8;rw[show s.size-1-x=s.size-(x+1) by omega,aA,aB Y];rfl
theorem Cy(s:fa):ki s=s.data.toList.reverse:=by
 unfold ki;rw[Qw s _ (ai _)];simp
theorem XP(s:fa)(w:af)(F:s.size<=1000):
  ah Tryz.prog 88 #[.string s] w fun e w'=>e=.returned (.string (str (ki s)))/\w'=w:=by
 go_enter Tryz.func88,Tryz.ntmps88
 go_wp2
 go_loop [3,4] (fun C iv=>∃(x:Nat) (y:Int),C=.string (str (pY s x))/\iv=.int .i64 y/\y+1+(x:Int)=(s.size:Int)/\x<=s.size) (fun _ iv=>(intOf iv+1).toNat)
 case atStart=>exact⟨0,(s.size:Int)-1,rfl,rfl,by omega,ay _⟩
 case round=>
  obtain⟨x,y,rfl,rfl,Y,J⟩:=hrel;have R:=Ht s x;have L:(str (pY s x)).size<=1000:=by rw[h_];omega
  by_cases U:0<=y
  ·obtain⟨i,rfl⟩:∃i:Nat,y=(i:Int):=⟨y.toNat,by omega⟩;have D:i<s.size:=by omega
   have hcut:=DY s i D;have I:=laid (show str (pY s x)++str [at8 s i]=str (pY s (x+1)) by rw[kX,pY,show s.size-1-x=i by omega]);have B:(str [at8 s i]).size<=1000:=by rw[h_];simp
   have K:=laid Y;clear Y;go_wp2
   go_round
   case rel=>go_light;exact⟨x+1,(i:Int)-1,jj I.out,rfl,by have:=K.out;omega,by have:=K.out;omega⟩
   case measure=>go_light;simp[intOf]
  ·have H:x=s.size:=by omega
   have A:Hid (str (pY s x)=str (ki s)):=laid (by unfold ki;rw[H]);clear H Y;go_wp2
   go_ret
   exact⟨lZ A.out,rfl⟩
def pB(C:Array _)(n k:Nat):=(Array.range C.size).map fun x=>if x<n/\(x<k\/n<=x+k)then C.getD (n-1-x) aU else C.getD x aU
theorem sN(C:Array _)(n k:Nat):(pB C n k).size=C.size:=by simp[pB]
theorem sW(C:Array _)(n k x:Nat)(h:x<C.size):(pB C n k)[x]?=some (if x<n/\(x<k\/n<=x+k)then C.getD (n-1-x) aU else C.getD x aU):=by
 simp[pB,h]
theorem adr(C:Array _)(n:Nat):pB C n 0=C:=by
 apply Array.ext
 ·exact sN C n 0
 ·intro i K Y;have:=sW C n 0 i Y;rw[aV K]at this;rw[Option.some.inj this,if_neg (by omega)];simp[Y]
theorem ads(C:Array aj)(n k:Nat)(U:n<=C.size)(hk:k+1+k<n):((pB C n k).setIfInBounds k (C.getD (n-1-k) aU)).setIfInBounds (n-1-k) (C.getD k aU)=pB C n (k+1):=by
 apply Array.ext
 ·simp[sN]
 ·intro i R K;have Y:i<C.size:=by rw[sN]at K;exact K
  have D:=sW C n (k+1) i Y;rw[aV K]at D;rw[Option.some.inj D];have H:=sW C n k i Y;by_cases a1:i=n-1-k
  ·subst a1;rw[dc,if_pos (by omega),show n-1-(n-1-k)=k by omega]
  ·rw[db (by simp_all) (fun h=>a1 h.symm)];by_cases a2:i=k
   ·subst a2;rw[dc,if_pos (by omega)]
   ·rw[db (by rw[sN];exact Y) (fun h=>a2 h.symm)];rw[aV (by rw[sN];exact Y)]at H;rw[Option.some.inj H];by_cases c:i<n/\(i<k\/n<=i+k)
    ·rw[if_pos c,if_pos (by omega)]
    ·rw[if_neg c,if_neg (by omega)]
theorem xL{k:Nat}{c:Array _}{fz:Nat×Nat}(v:aj)(h:w.heap[g]?=some (.cells c e fz)):(w.setCell ⟨g,k,none⟩ v).heap[g]?=some (.cells (c.setIfInBounds k v) e fz):=by
 have K:=(aL.1 h).1;have Y:w.heap[g]=.cells c e fz:=by simp_all
 simp only[World.setCell];rw[aV (by simp_all),Array.getElem_modify_self,Y];rfl
theorem xS{k:Nat}{c:Array _}{fz:Nat×Nat}(h:w.heap[g]?=some (.cells c e fz))(hk:¬(fz.1<=k/\k<fz.2)):w.frozen? ⟨g,k,none⟩=false:=by
 simp[World.frozen?,h];omega
theorem NJ(C:Array aj)(g n cap:Nat)(fz:Nat×Nat)(w:af)(r:n<=1000)(E:n<=C.size)(D:∀k,k<n->¬(fz.1<=k/\k<fz.2))(Q:∀x,x<n->∃z:Int,C.getD x aU=.int .u8 z)(hw:w.heap[g]?=some (.cells C 5 fz)):
  ah Tryz.prog 148 #[.slice (some ⟨g,0,none⟩) n cap] w fun e w'=>(∃v,e=.returned v)/\w'.heap[g]?=some (.cells (pB C n n) 5 fz)/\w.grownBy w' (some g):=by
 have L:=laid Q;have M:=laid D;clear D;have B:Hid (∀(W:af) (k:Nat),n<=k+1+k->W.heap[g]?=some (.cells (pB C n k) 5 fz)->W.heap[g]?=some (.cells (pB C n n) 5 fz)):=laid fun W k hk h=>by
  rw[h];congr 2;apply Array.ext
  ·simp[sN]
  ·intro i I F;have P:i<C.size:=by rw[sN]at F;exact F
   have N:=sW C n k i P;have O:=sW C n n i P;rw[aV I]at N;rw[aV F]at O;rw[Option.some.inj N,Option.some.inj O];by_cases c:i<n
   ·by_cases c2:i<k\/n<=i+k
    ·rw[if_pos ⟨c,c2⟩,if_pos ⟨c,.inl c⟩]
    ·rw[if_neg (by omega),if_pos ⟨c,.inl c⟩,show n-1-i=i by omega]
   ·rw[if_neg (by omega),if_neg (by omega)]
 have V:=laid hw;clear Q hw
 go_enter Tryz.func148,Tryz.ntmps148
 go_wp2
 go_loopw [2,3] (fun iv j wr=>∃k:Nat,iv=.int .i64 (k:Int)/\j=.int .i64 ((n:Int)-1-(k:Int))/\k<=n/\wr.heap[g]?=some (.cells (pB C n k) 5 fz)/\w.grownBy wr (some g)) (fun iv _ _=>n-(intOf iv).toNat)
 case atStart=>exact⟨0,rfl,by go_num,ay _,by rw[adr];exact V.out,World.grownBy.refl _ _⟩
 case round=>
  obtain⟨k,rfl,rfl,q,K,R⟩:=hrel;by_cases J:k+1+k<n
  ·have c1:(k:Int)<(n:Int)-1-(k:Int):=by omega
   obtain⟨m,U⟩:∃m:Nat,m=n-1-k:=⟨_,rfl⟩;have H:(n:Int)-1-(k:Int)=(m:Int):=by omega
   rw[H];rw[H]at c1;have s1:wr.cell? ⟨g,k,none⟩=some (C.getD k aU):=by
    rw[ak wr g k _ _ _ K,sW C n k k (by omega),if_neg (by omega)]
   have d:wr.cell? ⟨g,m,none⟩=some (C.getD m aU):=by
    rw[ak wr g m _ _ _ K,sW C n k m (by omega),if_neg (by omega)]
   have p:wr.frozen? ⟨g,k,none⟩=false:=xS K (M.out k (by omega));have z2:wr.frozen? ⟨g,m,none⟩=false:=xS K (M.out m (by omega));have f:(k:Int)<(n:Int):=by omega
   have l:(m:Int)<(n:Int):=by omega
   have o:aH.wrap ((m:Int)-1)=(m:Int)-1:=aI _ (by omega);obtain⟨X,hX⟩:=L.out k (by omega);obtain⟨Y,A⟩:=L.out m (by omega);have T:Hid ((((wr.setCell ⟨g,k,none⟩ (.int .u8 Y)).setCell ⟨g,m,none⟩ (.int .u8 X)).drew).heap[g]?=some (.cells (pB C n (k+1)) 5 fz)):=laid (by
    have I:=xL (k:=m) (.int .u8 X) (xL (k:=k) (.int .u8 Y) K);rw[<-hX,<-A,U,ads C n k E J]at I;rw[<-hX,<-A,U];exact I)
   rw[hX]at s1;rw[A]at d;have S:=laid U;have G:k≠m:=by omega
   clear U H hX A K B;go_wp2_with fail
   go_region
   go_wp2
   go_roundw
   case rel=>go_light;exact⟨k+1,by go_num,by have:=S.out;congr 1;omega,by omega,T.out,gY R (gY (gY (jH wr g k _) (jH _ g m _)) (jA _ 1 _))⟩
   case measure=>go_light;simp[intOf];omega
  ·have c1:¬(k:Int)<(n:Int)-1-(k:Int):=by omega
   have Z:=laid (B.out wr k (by omega) K);clear B K;go_wp2
   go_end0
   exact⟨⟨_,rfl⟩,Z.out,R⟩
theorem aby(l:List UInt8)(m:Nat):pB ((l.map bv).toArray++bN m (.int .u8 0)) l.length l.length=(l.reverse.map bv).toArray++bN m (.int .u8 0):=by
 apply Array.ext
 ·simp[sN]
 ·intro i Y D;have H:=by rw[sN]at Y;exact Y
  have K:=sW _ l.length l.length i H;rw[aV Y]at K;rw[Option.some.inj K];by_cases c:i<l.length
  ·rw[if_pos ⟨c,.inl c⟩];simp[ck,c,show l.length-1-i<l.length by omega];omega
  ·rw[if_neg (by omega)];rw[ck,dif_pos H];simp[da,c]
theorem MU(s:fa)(w:af)(N:s.size<=1000):
  ah Tryz.prog 129 #[.string s] w fun e w'=>e=.returned (.string (str (ki s)))/\ae w.heap.size w w':=by
 have L:=fun w:af=>run_bytes_of_string (P:=Tryz.prog) w 9 79 5 s bg cf dQ
 go_enter Tryz.func129,Tryz.ntmps129
 go_wp2_with fail
 have R:bytesRow s (cg w s.size 0 5)=(s.data.toList.map bv).toArray++bN (cg w s.size 0 5-s.size) (bt .u8 0):=by
  unfold bytesRow;congr 1;apply Array.ext<;>simp[bv]
 have H:s.data.toList.length=s.size:=by simp
 rw[R];have D:=fun o=>heap_alloc_new w.drew o;refine(NJ _ w.heap.size s.size _ _ _ N (by simp) (fun k hk=>by simp;omega) (fun x F=>?_) (D _)).mono ?_
 ·have U:x<s.data.size:=F;have M:x<((s.data.toList.map bv).toArray++bN (cg w s.size 0 5-s.size) (bt .u8 0)).size:=by simp;omega
  rw[ck,dif_pos M];simp[da,F,U,bv]
 rintro e w2 ⟨⟨v,rfl⟩,B,A⟩;rw[<-H,aby]at B;have I:=by
  have:=run_convert_bytes_back (P:=Tryz.prog) w2 79 9 5 ⟨w.heap.size,0,none⟩ (cg w s.size 0 5) (ki s) cf dQ bg (fun j C=>?_)
  ·rw[show(ki s).length=s.size by rw[Cy];simp]at this;exact this
  ·rw[Cy]at C;have J:(⟨w.heap.size,0,none⟩:Addr).add j=⟨w.heap.size,j,none⟩:=by unfold Addr.add;split<;>simp_all
   rw[J,ak w2 w.heap.size j _ _ _ B];have K:=C;rw[Array.getElem?_append_left (by simpa using K),List.getElem?_toArray,dy,aB K];simp only[dL,bv];congr 4;simp only[Cy]
 have Y:ae w.heap.size w w2:=by
  refine Below.grown ((Go.below_drewN (au _ _) 1).alloc (ai _) _) A (by simp) ?_;intro k e;cases e;exact ai _
 go_wp2
 go_ret
 exact⟨rfl,Y⟩
theorem IW:(Tryz.prog.info? 131).map (·.size)=some 3:=by kernel_rfl
theorem ZX(rn rb rm:fa)(w:af)(T:rb.size<=200)(V:rm.size<=1000):
  ah Tryz.prog 112 #[.agg #[.string rn,.string rb,.string rm]] w fun e w'=>e=.returned (.agg #[.string rn,.string (iL rb 0),.string (str (ki rm))])/\ae w.heap.size w w':=by
 have Q:=laid (fun W:af=>PJ rb W T);have P:=laid (fun W:af=>MU rm W V);generalize iL rb 0=OB at *;generalize str (ki rm)=O at *
 go_enter Tryz.func112,Tryz.ntmps112
 go_wp2_with fail
 obtain⟨w0,R,S⟩:∃w0:af,((w.alloc (.cells #[.string rn,.string rb,.string rm] 131)).alloc (.cells #[.string ⟨#[]⟩,.string ⟨#[]⟩,.string ⟨#[]⟩] 131))=w0/\w0.heap.size=w.heap.size+2:=⟨_,rfl,by simp⟩;have F:w0.heap[w.heap.size]?=some (.cells #[.string rn,.string rb,.string rm] 131 (0,0)):=by
  rw[<-R,aD _ _ (by simp)];exact heap_alloc_new w _
 have A:w0.heap[w.heap.size+1]?=some (.cells #[.string ⟨#[]⟩,.string ⟨#[]⟩,.string ⟨#[]⟩] 131 (0,0)):=by
  rw[<-R];have:=heap_alloc_new (w.alloc (.cells #[.string rn,.string rb,.string rm] 131)) (.cells #[.string ⟨#[]⟩,.string ⟨#[]⟩,.string ⟨#[]⟩] 131);simpa using this
 have M:ae w.heap.size w w0:=by rw[<-R];exact((au _ _).alloc (ai _) _).alloc (by simp) _
 rw[R];clear R;have a0:w0.cell? ⟨w.heap.size,0,none⟩=some (.string rn):=by rw[ak w0 _ 0 _ _ _ F];rfl
 have a1:w0.cell? ⟨w.heap.size,1,none⟩=some (.string rb):=by rw[ak w0 _ 1 _ _ _ F];rfl
 have a2:w0.cell? ⟨w.heap.size,2,none⟩=some (.string rm):=by rw[ak w0 _ 2 _ _ _ F];rfl
 have c0:w0.cell? ⟨w.heap.size+1,0,none⟩=some (.string ⟨#[]⟩):=by rw[ak w0 _ 0 _ _ _ A];rfl
 have c1:w0.cell? ⟨w.heap.size+1,1,none⟩=some (.string ⟨#[]⟩):=by rw[ak w0 _ 1 _ _ _ A];rfl
 have c2:w0.cell? ⟨w.heap.size+1,2,none⟩=some (.string ⟨#[]⟩):=by rw[ak w0 _ 2 _ _ _ A];rfl
 have f0:w0.frozen? ⟨w.heap.size+1,0,none⟩=false:=xS A (by simp);have f1:w0.frozen? ⟨w.heap.size+1,1,none⟩=false:=xS A (by simp);have f2:w0.frozen? ⟨w.heap.size+1,2,none⟩=false:=xS A (by simp);have U:w.heap.size<w0.heap.size:=by omega
 have K:w.heap.size+1<w0.heap.size:=by omega
 have I:Hid (∀W:af,ae w0.drew.heap.size w0.drew W->W.heap[w.heap.size+1]?=some (.cells #[.string ⟨#[]⟩,.string ⟨#[]⟩,.string ⟨#[]⟩] 131 (0,0))):=laid fun W H=>by rw[H.block _ K];exact A
 clear F A;have J:Hid (∀W:af,ae w0.drew.heap.size w0.drew W->W.cell? ⟨w.heap.size,0,none⟩=some (.string rn)/\W.cell? ⟨w.heap.size,1,none⟩=some (.string rb)/\W.cell? ⟨w.heap.size,2,none⟩=some (.string rm)):=laid fun W H=>⟨by rw[H.cell (p:=⟨w.heap.size,0,none⟩) U];exact a0,by rw[H.cell (p:=⟨w.heap.size,1,none⟩) U];exact a1,by rw[H.cell (p:=⟨w.heap.size,2,none⟩) U];exact a2⟩;have B:Hid (∀W:af,ae w0.drew.heap.size w0.drew W->W.cell? ⟨w.heap.size+1,0,none⟩=some (.string ⟨#[]⟩)/\W.cell? ⟨w.heap.size+1,1,none⟩=some (.string ⟨#[]⟩)/\W.cell? ⟨w.heap.size+1,2,none⟩=some (.string ⟨#[]⟩)/\W.frozen? ⟨w.heap.size+1,0,none⟩=false/\W.frozen? ⟨w.heap.size+1,1,none⟩=false/\W.frozen? ⟨w.heap.size+1,2,none⟩=false):=laid fun W H=>⟨by rw[H.cell (p:=⟨w.heap.size+1,0,none⟩) K];exact c0,by rw[H.cell (p:=⟨w.heap.size+1,1,none⟩) K];exact c1,by rw[H.cell (p:=⟨w.heap.size+1,2,none⟩) K];exact c2,by rw[H.frozen (p:=⟨w.heap.size+1,0,none⟩) K];exact f0,by rw[H.frozen (p:=⟨w.heap.size+1,1,none⟩) K];exact f1,by rw[H.frozen (p:=⟨w.heap.size+1,2,none⟩) K];exact f2⟩;clear c0 c1 c2 f0 f1 f2
 go_region_law
  (first
   |(go_simp;go_at_call 51;refine(Q.out _).mono ?_;rintro e w' ⟨rfl,Y⟩;obtain⟨X,d1,d2⟩:=J.out _ Y)
   |(go_simp;go_at_call 129;refine(P.out _).mono ?_;rintro e N ⟨rfl,D⟩;obtain⟨g0,g1,Z,E,G,q⟩:=B.out _ (Y.trans (D.mono Y.size));obtain⟨j,z,c⟩:=J.out _ (Y.trans (D.mono Y.size))))
 all_goals
  have L:Hid (ae w.heap.size w (((N.setCell ⟨w.heap.size+1,0,none⟩ (.string rn)).setCell ⟨w.heap.size+1,1,none⟩ (.string OB)).setCell ⟨w.heap.size+1,2,none⟩ (.string O))):=laid (((((Go.below_drewN M 1).trans (Y.mono (by simp;omega))).trans (D.mono (by have:=Y.size;simp at this;omega))).setCell (p:=⟨w.heap.size+1,0,none⟩) (by simp) _|>.setCell (p:=⟨w.heap.size+1,1,none⟩) (by simp) _).setCell (p:=⟨w.heap.size+1,2,none⟩) (by simp) _);have C:=xL (k:=2) (.string O) (xL (k:=1) (.string OB) (xL (k:=0) (.string rn) (I.out _ (Y.trans (D.mono Y.size)))));clear Q P J B I Y D;go_wp2
  (try simp only[Exit.inBlock,Exit.then])
  refine bu (c_ rfl _ _ (w.heap.size+1) _ _ _ _ rfl C c8 rfl IW) rfl ?_;exact⟨rfl,L.out⟩
theorem Ii(p t:fa)(k:Nat):∀n,n<=t.size+1->∀h∈i_ p t k n,h.1<=h.2.1/\h.2.1<=t.size/\h.2.2<=k
 |0,_,h,Y=>by simp[i_]at Y
 |e+1,D,h,Y=>by
  have K:=Ii p t k e (by omega);rw[i_]at Y;split at Y
  ·rename_i H;rw[bF,bm]at Y;rcases Y with Y|Y
   ·exact K h Y
   ·subst Y;have:=BE p t k e (tries p k e);exact⟨this,by simp_all,H⟩
  ·exact K h Y
def vg(xn rn p mk t Y:fa)(n s d:Nat):=
 rn.data.toList++[9]++gL n++[9]++xn.data.toList++[9]++gL (s+1)++[9]++nb Y++[9]++gL d++[9]++ng p t Y++[9]++p.data.toList++[9]++mk.data.toList++[10]
def uo(xn I rn p mk:fa)(n:Nat)(h:Nat×Nat×Nat):=
 vg xn rn p mk (I.extract h.1 h.2.1) (str (iq p (I.extract h.1 h.2.1))) n h.1 h.2.2
def nC(add:Nat)(more:Bool)(i:Nat):=if more=true\/0<i then add+256 else add
def mR(xn I rn p mk:fa)(add:Nat)(more:Bool)(L:List (Nat×Nat×Nat)):Nat->List UInt8
 |0=>[]
 |i+1=>mR xn I rn p mk add more L i++uo xn I rn p mk (nC add more i) (L.getD i (0,0,0))
def oS(xn I rn p mk:fa)(add k:Nat)(more:Bool):=mR xn I rn p mk add more (lT p I k) (lT p I k).length
theorem adt(O:List _)(xn rn p mk t Y:fa)(n s d:Nat)(RN H XN DS RU DD K:fa)(D:RN=rn)(R:H=str (gL n))(U:XN=xn)(B:DS=str (gL (s+1)))(C:RU=str (nb Y))(F:DD=str (gL d))(J:K=str (ng p t Y)):
  str O++RN++(⟨#[9]⟩)++H++(⟨#[9]⟩)++XN++(⟨#[9]⟩)++DS++(⟨#[9]⟩)++RU++(⟨#[9]⟩)++DD++(⟨#[9]⟩)++K++(⟨#[9]⟩)++p++(⟨#[9]⟩)++mk++(⟨#[10]⟩)=str (O++vg xn rn p mk t Y n s d):=by
 subst D R U B C F J;apply ByteArray.ext;apply Array.ext';simp[cw,cu,str,vg,aT]
theorem GR(s:fa)(h:s.size<=9000):(nb s).length<=5 *s.size:=(CM s _ h).2
theorem Hu(p t s:fa)(h:s.size<=9000):(ng p t s).length<=6 *s.size+4:=by
 have Y:=CN p t s _ h;have K:=kY (iu p t s s.size).n (by omega);unfold ng;rw[ar];omega
theorem Hv(xn I rn p mk:fa)(add:Nat)(more:Bool)(L:List (Nat×Nat×Nat))(D:xn.size<=1000)(H:I.size<=300)(K:rn.size<=1000)(B:p.size<=100)(Y:mk.size<=1000)(U:add<=1000)
  (R:∀h∈L,h.1<=h.2.1/\h.2.1<=I.size/\h.2.2<=1000):∀i,i<=L.length->(mR xn I rn p mk add more L i).length<=20000 *i
 |0,_=>by simp[mR]
 |i+1,S=>by
  have T:=Hv xn I rn p mk add more L D H K B Y U R i (by omega);rw[mR,ar];have Q:=R (L.getD i (0,0,0)) (by rw[aA,aB (by omega)];exact cE _);generalize L.getD i _=h at *;have J:(I.extract h.1 h.2.1).size<=300:=by rw[aW];omega
  have ga:=Cq p (I.extract h.1 h.2.1);have F:(str _).size=(iq p (I.extract h.1 h.2.1)).length:=h_ _;have C:=GR (str (iq p (I.extract h.1 h.2.1))) (by omega);have A:=Hu p (I.extract h.1 h.2.1) (str (iq p (I.extract h.1 h.2.1))) (by omega);have d1:=kY (nC add more i) (by unfold nC;split<;>omega);have d2:=kY (h.1+1) (by omega);have d3:=kY h.2.2 (by omega);unfold uo vg;simp;have M:rn.data.size=rn.size:=rfl;have N:xn.data.size=xn.size:=rfl;have O:p.data.size=p.size:=rfl;have P:mk.data.size=mk.size:=rfl;omega
theorem abz(L:List _)(i:Nat)(Y:i<L.length):(oU L)[i *3]?=some (nv (L.getD i (0,0,0)).1)/\(oU L)[i *3+1]?=some (nv (L.getD i (0,0,0)).2.1)/\(oU L)[i *3+2]?=some (nv (L.getD i (0,0,0)).2.2):=by
 induction L generalizing i with
 |nil=>simp at Y
 |cons x l K=>
  cases i with
  |zero=>exact⟨rfl,rfl,rfl⟩
  |succ i=>
   have:=K i (by simp_all);rw[show(i+1) *3=i *3+3 by omega];exact this
def TI:fa->List fa->Prop
 |_,[]=>True
 |a,b::l=>(∀w,(Op.stringOp .add a b).run Tryz.prog w=.ok (.string (a++b)) w)/\TI (a++b) l
def Fb:List fa->Nat
 |[]=>0
 |b::l=>b.size+Fb l
theorem TJ:∀l a,a.size+Fb l<=100000000->TI a l
 |[],_,_=>trivial
 |b::l,a,h=>by
  rw[Fb]at h;exact⟨sU a b (by omega) (by omega),TJ l _ (by rw[aP];omega)⟩
theorem afm(mv:Bool)(xn I xm rn rb rm p mk:fa)(add k:Nat)(w:af)(Fc:xn.size<=1000)(Bq:I.size<=300)(hrn:rn.size<=1000)(hp:p.size<=100)(T2:mk.size<=1000)(ha:add<=1000)(hk:k<=100):
  ah Tryz.prog 87 #[.agg #[.string xn,.string I,.string xm],.agg #[.string rn,.string rb,.string rm],.string p,.string mk,.int .i64 (add:Int),.int .i64 (k:Int),.bool mv] w fun e w'=>e=.returned (.string (str (oS xn I rn p mk add k mv)))/\ae w.heap.size w w':=by
 have q:=laid (show oS xn I rn p mk add k mv=mR xn I rn p mk add mv (lT p I k) (lT p I k).length from rfl);have M:∀h∈lT p I k,h.1<=h.2.1/\h.2.1<=I.size/\h.2.2<=k:=Ii p I k (I.size+1) (ai _);have LS:(lT p I k).length<=301:=by have:=BV p I k (I.size+1);unfold lT;omega
 have J:=laid M;clear M
 go_enter Tryz.func87,Tryz.ntmps87
 go_wp2_with fail
 refine(aci p I k _ hp Bq hk).mono ?_;rintro e w1 ⟨v,rfl,B,R⟩;have xl:w1.cell? ⟨w.heap.size,0,none⟩=some (.string xn):=by rw[R.cell (by simp;omega)];simp[go_sem]
 have rB:w1.cell? ⟨w.heap.size,1,none⟩=some (.string I):=by rw[R.cell (by simp;omega)];simp[go_sem]
 have Uf:w1.cell? ⟨w.heap.size+1,0,none⟩=some (.string rn):=by rw[R.cell (by simp)];simp[go_sem]
 have t:w.heap.size+1<w1.heap.size:=by have:=R.size;simp at this;omega
 have T:ae w.heap.size w w1:=(((au _ _).alloc (ai _) _).alloc (by simp) _).trans (R.mono (by simp;omega));clear R;generalize f:lT p I k=L at *;have Vf:=laid f;clear f;obtain⟨av,cap,X,U⟩:∃av cap,v=.slice av L.length cap/\(0<L.length->∃G,av=some ⟨G,0,none⟩/\G<w1.heap.size/\∀i,i<L.length->w1.cell? ⟨G,i *3,none⟩=some (nv (L.getD i (0,0,0)).1)/\w1.cell? ⟨G,i *3+1,none⟩=some (nv (L.getD i (0,0,0)).2.1)/\w1.cell? ⟨G,i *3+2,none⟩=some (nv (L.getD i (0,0,0)).2.2)):=by
  rcases B.2 with⟨X,h0⟩|⟨G,cap,cur,X,hB,hg,hc⟩
  ·exact⟨none,0,by rw[X,h0],fun h=>by omega⟩
  ·refine⟨some ⟨G,0,none⟩,cap,X,fun _=>⟨G,rfl,?_,fun i hi=>?_⟩⟩
   ·rcases aK G w1.heap.size with h'|h'
    ·exact h'
    ·rw[cm h']at hg;cases hg
   ·have hf:=abz L i hi;have hc:=B.cells (g:=G) (by rw[X];rfl);have c0:=hc _ _ hf.1;have c1:=hc _ _ hf.2.1;have c2:=hc _ _ hf.2.2;rw[sI]at c0 c1 c2;exact⟨c0,c1,c2⟩
 subst X;have P:=laid U;clear U B;go_wp2
 go_loopw [15,17] (fun ov iv wr=>∃i:Nat,iv=.int .i64 (i:Int)/\i<=L.length/\ov=.string (str (mR xn I rn p mk add mv L i))/\ae w1.heap.size w1 wr) (fun _ iv _=>L.length-(intOf iv).toNat)
 case atStart=>exact⟨0,rfl,ay _,rfl,au _ _⟩
 case round=>
  obtain⟨i,rfl,hi,rfl,K⟩:=hrel;have LU:=Hv xn I rn p mk add mv L Fc Bq hrn hp T2 ha (fun h hm=>by have:=J.out h hm;omega) i hi;by_cases y:i<L.length
  ·obtain⟨G,rfl,vj,c⟩:=P.out (by omega);have⟨g0,g1,g2⟩:=c i y;have r:=J.out (L.getD i (0,0,0)) (by rw[aA,aB y];exact cE _);have H:=laid (show mR xn I rn p mk add mv L (i+1)=mR xn I rn p mk add mv L i++uo xn I rn p mk (nC add mv i) (L.getD i (0,0,0))from rfl);generalize L.getD i (0,0,0)=h at *;have⟨s,e,d⟩:=h;simp only[nv]at g0 g1 g2 r H;rw[<-K.cell (p:=⟨G,_,none⟩) vj]at g0 g1 g2;have k0:wr.cell? ⟨w.heap.size,0,none⟩=some (.string xn):=by rw[K.cell (p:=⟨w.heap.size,0,none⟩) (by simp;omega)];exact xl
   have k1:wr.cell? ⟨w.heap.size,1,none⟩=some (.string I):=by rw[K.cell (p:=⟨w.heap.size,1,none⟩) (by simp;omega)];exact rB
   have k2:wr.cell? ⟨w.heap.size+1,0,none⟩=some (.string rn):=by rw[K.cell (p:=⟨w.heap.size+1,0,none⟩) t];exact Uf
   have hse:s<=e:=r.1;have hex:e<=I.size:=r.2.1;have hdk:d<=k:=r.2.2;have i1:(s:Int)<=(e:Int):=by omega
   have i2:(e:Int)<=(I.size:Int):=by omega
   have i3:(0:Int)<=(s:Int):=by omega
   have i4:(i:Int)<(L.length:Int):=by omega
   have i5:(0:Int)<=(i:Int):=by omega
   have i6:(0:Int)<=(e:Int):=by omega
   have a:(I.extract s e).size<=300:=by rw[aW];omega
   clear r c;go_wp2_with fail
   go_quiet(fail)
   generalize l:I.extract s e=Y at *;have j:=laid l;clear l;go_wp2_with fail
   refine(ach p Y _ hp a).mono ?_;rintro e1 w3 ⟨rfl,Q⟩;have D:ae w1.heap.size w1 (wr.drewN nq):=Go.below_drewN K nq;have S:ae w1.heap.size w1 w3:=D.trans (Q.mono D.size);have m:∀b o,b<wr.heap.size->w3.cell? ⟨b,o,none⟩=wr.cell? ⟨b,o,none⟩:=fun b o hb=>Q.cell (p:=⟨b,o,none⟩) hb;have hws:=K.size;rw[<-m _ _ (by omega)]at g0 g1 g2 k0 k1 k2;clear Q m D;have Z:=laid (Pp p Y);have aoX:=Cq p Y;have aoY:(str (iq p Y)).size<=400:=by rw[h_];omega
   have A:Hid (∀n,uo xn I rn p mk n (s,e,d)=vg xn rn p mk Y (str (iq p Y)) n s d):=laid (fun n=>by unfold uo;simp only;rw[j.out]);have HRu:=laid (fun W=>adp (str (iq p Y)) W (by omega));have HDf:=laid (fun W=>adq p Y (str (iq p Y)) W (by omega) (by omega) (by omega) Z.out);have HDs:=laid (fun W=>B3 ((s:Int)+1) (s+1) (by omega) W (by omega));have HDd:=laid (fun W=>B3 (d:Int) d rfl W (by omega));have zs:=kY (s+1) (by omega);have zd:=kY d (by omega);have zru:=GR (str (iq p Y)) (by omega);have zdf:=Hu p Y (str (iq p Y)) (by omega);have hRU:∃RU,RU=str (nb (str (iq p Y))):=⟨_,rfl⟩;have s9:(⟨#[9]⟩:fa).size=1:=rfl;have LW:(⟨#[10]⟩:fa).size=1:=rfl;have zRU:(str (nb (str (iq p Y)))).size<=10000:=by rw[h_];omega
   have zDF:(str (ng p Y (str (iq p Y)))).size<=10000:=by rw[h_];omega
   have zDS:(str (gL (s+1))).size<=10:=by rw[h_];omega
   have zDD:(str (gL d)).size<=10:=by rw[h_];omega
   have zO:(mR xn I rn p mk add mv L i).length<=10000000:=by omega
   have HB:=laid (fun(n:Nat) (N:fa) (h:N=str (gL n))=>adt (mR xn I rn p mk add mv L i) xn rn p mk Y (str (iq p Y)) n s d rn N xn (str (gL (s+1))) (str (nb (str (iq p Y)))) (str (gL d)) (str (ng p Y (str (iq p Y)))) rfl h rfl rfl rfl rfl rfl);clear hRU zs zd zru zdf LU j;generalize str (nb (str (iq p Y)))=RU at *;generalize str (ng p Y (str (iq p Y)))=DF at *;generalize hST:str (iq p Y)=ST at *;clear hST;generalize str (gL (s+1))=DS at *;generalize str (gL d)=DD at *;generalize hO:mR xn I rn p mk add mv L i=O at *;clear hO;have HQ:=laid (fun(N:fa) (h:N.size<=10)=>TJ [rn,⟨#[9]⟩,N,⟨#[9]⟩,xn,⟨#[9]⟩,DS,⟨#[9]⟩,RU,⟨#[9]⟩,DD,⟨#[9]⟩,DF,⟨#[9]⟩,p,⟨#[9]⟩,mk,⟨#[10]⟩] (str O) (by simp only[Fb,s9,LW,h_,<-Nat.add_assoc];omega));have z:(mv=true/\nC add mv i=add+256)\/(mv=false/\(0:Int)<(i:Int)/\nC add mv i=add+256)\/(mv=false/\¬(0:Int)<(i:Int)/\nC add mv i=add):=by
    unfold nC;cases mv
    ·by_cases u:0<i
     ·exact .inr (.inl ⟨rfl,by omega,if_pos (.inr u)⟩)
     ·exact .inr (.inr ⟨rfl,by omega,if_neg (by simp[u])⟩)
    ·exact .inl ⟨rfl,if_pos (.inl rfl)⟩
   have hfl:nC add mv i<=add+256:=by unfold nC;split<;>omega
   have E:Hid (mR xn I rn p mk add mv L (i+1)=O++vg xn rn p mk Y ST (nC add mv i) s d):=laid (by rw[H.out,A.out]);have C:=fun W=>B3 (nC add mv i:Int) (nC add mv i) rfl W (by omega);have zn:=kY (nC add mv i) (by omega);have V:(str (gL (nC add mv i))).size<=10:=by rw[h_];omega
   have F:=laid (HB.out (nC add mv i) _ rfl);clear zn H A HB s9 LW zRU zDF zDS zDD hfl;rcases z with⟨rfl,hn⟩|⟨rfl,LX,hn⟩|⟨rfl,LX,hn⟩
   all_goals
    rw[hn]at E C V F;clear hn;try simp only[Int.natCast_add,Int.cast_ofNat_Int]at C
    have HDn:=laid C;clear C;generalize str (gL _)=N at *;obtain⟨q1,q2,q3,q4,q5,q6,q7,q8,q9,q10,q11,q12,q13,q14,q15,q16,q17,q18,-⟩:=HQ.out N V;clear HQ V;go_wp2_with fail
    go_quiet((first
     |(go_at_call 86;first|with_reducible exact bQ (HDn.out _)|with_reducible exact bQ (HDs.out _)|with_reducible exact bQ (HDd.out _))
     |(go_at_call 107;exact di (HRu.out _))
     |(go_at_call 108;exact di (HDf.out _))))
    go_wp2
    go_roundw
    case rel=>go_light;exact⟨i+1,by go_num,by omega,jj (by rw[F.out,E.out]),Go.below_drewN S _⟩
    case measure=>go_light;simp[intOf];omega
  ·have x:i=L.length:=by omega
   have HF:Hid (str (mR xn I rn p mk add mv L i)=str (oS xn I rn p mk add k mv)):=laid (by rw[q.out,x]);clear x;generalize mR xn I rn p mk add mv L i=O at *;go_wp2
   go_ret
   exact⟨lZ HF.out,T.trans (K.mono (by omega))⟩
abbrev lE:=fa×fa×fa
def ll(xn I:fa)(k:Nat)(r:lE):=oS xn I r.1 r.2.1 r.2.2 0 k false
def mN(xn I:fa)(k:Nat)(r:lE):=oS xn I r.1 (iL r.2.1 0) (str (ki r.2.2)) 16 k (decide (ll xn I k r≠ []))
def qA(r:lE):=r.1.data.toList++[9,52,9,42,9,48,9,42,9,45,9,45,9]++r.2.1.data.toList++[9]++r.2.2.data.toList++[10]
def pI(xn I:fa)(k:Nat)(r:lE):=
 (if ll xn I k r=[]/\mN xn I k r=[]then qA r else ll xn I k r)++mN xn I k r
def uq(xn I:fa):=[64]++xn.data.toList++[9]++gL I.size++[10]
def kJ(xn I:fa)(k:Nat)(L:List lE)
 |0=>uq xn I
 |i+1=>kJ xn I k L i++pI xn I k (L.getD i (⟨#[]⟩,⟨#[]⟩,⟨#[]⟩))
def yn(ref reads:fa)(k:Nat):=
 kJ (qY ref) (str (iU ref).2) k (iF reads 5 0) (iF reads 5 0).length
def fewer(L:List lE)(k:Int):Bool:=L.all fun r=>decide (k<(r.2.1.size:Int))
def lV(ref reads:fa)(k q step wk:Int):=
 if kz ref reads≠0 then kz ref reads else if kS k 30 q step=false\/wk<1\/8<wk then 4 else if fewer (iF reads 5 0) k=false then 4 else 0
def oy(ref reads:fa)(k q step wk:Int):=if lV ref reads k q step wk=0 then str (yn ref reads k.toNat)else⟨#[]⟩
def rA(ref reads:fa):=if kz ref reads≠0 then oq ref reads else 0
theorem GU(s:fa)(st:Nat×Bool):(rk s st).size<=10:=by
 unfold rk;split
 ·decide
 ·unfold cut;have:=(nN jT (rest s st.1) 10).1;rw[h_,cH];omega
theorem XQ(s:fa)(m p:Nat):(nD s m p).size<=m:=by
 unfold nD mO;have:=vN s m p;rw[h_,bS,cH];omega
theorem abA(s:fa)(st:Nat×Bool):(uV s 30 st).size<=30:=by
 unfold uV;split
 ·decide
 ·exact XQ s 30 _
theorem abB(s:fa)(Y:Nat)(st:Nat×Bool):(r6 s Y st).size<=Y:=by
 unfold r6;split
 ·exact ay _
 ·unfold cut;have:=(nN iQ (rest s st.1) Y).1;rw[h_,cH];omega
theorem ZY(s:fa)(p:Nat):(sZ s p).1.size<=10/\(sZ s p).2.1.size<=30/\(sZ s p).2.2.size<=30:=by
 have Y:(lL s p).size<=30:=abA s _;refine⟨GU s _,Y,?_⟩;have:=abB s (lL s p).size (pZ s p);show(r6 s _ _).size<=30
 omega
theorem BA(s:fa):∀n p,∀r∈iF s n p,r.1.size<=10/\r.2.1.size<=30/\r.2.2.size<=30
 |0,_,r,h=>by simp[iF]at h
 |n+1,p,r,h=>by
  rw[iF]at h;split at h
  ·simp at h
  ·rw[List.mem_cons]at h;rcases h with rfl|h
   ·exact ZY s p
   ·split at h
    ·simp at h
    ·exact BA s n _ r h
theorem BD(s:fa):∀n p,(iF s n p).length<=n
 |0,_=>by simp[iF]
 |n+1,p=>by
  rw[iF];split
  ·simp
  ·rw[aX];split
   ·simp
   ·have:=BD s n (lh s p).1;omega
theorem OC(xn I rn p mk:fa)(add k:Nat)(more:Bool)(D:xn.size<=1000)(H:I.size<=300)(K:rn.size<=1000)(U:p.size<=100)(Y:mk.size<=1000)(R:add<=1000)(hk:k<=1000):(oS xn I rn p mk add k more).length<=7000000:=by
 have B:(lT p I k).length<=301:=by have:=BV p I k (I.size+1);unfold lT;omega
 have C:=Hv xn I rn p mk add more (lT p I k) D H K U Y R (fun h A=>by have:=Ii p I k _ (ai _) h A;omega) _ (ai _);unfold oS;omega
theorem abC(L:List lE)(i:Nat)(Y:i<L.length):(jY L)[i *3]?=some (.string (L.getD i (⟨#[]⟩,⟨#[]⟩,⟨#[]⟩)).1)/\(jY L)[i *3+1]?=some (.string (L.getD i (⟨#[]⟩,⟨#[]⟩,⟨#[]⟩)).2.1)/\(jY L)[i *3+2]?=some (.string (L.getD i (⟨#[]⟩,⟨#[]⟩,⟨#[]⟩)).2.2):=by
 induction L generalizing i with
 |nil=>simp at Y
 |cons x l K=>
  cases i with
  |zero=>exact⟨rfl,rfl,rfl⟩
  |succ i=>
   have:=K i (by simp_all);rw[show(i+1) *3=i *3+3 by omega];exact this
theorem IX{reads:fa}(h:kz ref reads=0):ref.size<=400/\reads.size<=600/\(je ref).2=false/\(jB reads 5 0).2=false:=by
 unfold kz at h;split at h
 ·omega
 ·unfold jG at h;split at h
  ·omega
  ·split at h
   ·omega
   ·simp_all
theorem Ax{b:Int}{b' c':Int}(Y:a=a')(K:b=b')(H:c=c'):Ending.returned (.tuple #[.string a,.int .i64 b,.int .i64 c])=.returned (.tuple #[.string a',.int .i64 b',.int .i64 c']):=by simp_all
theorem ZZ(ref reads:fa)(k q step wk:Int)(w:af)(H:ref.size<=ao)(D:reads.size<=ao)(R:kz ref reads≠0):
  ah Tryz.prog 57 #[.string ref,.string reads,.int .i64 k,.int .i64 q,.int .i64 step,.int .i64 wk] w fun e w'=>e=.returned (.tuple #[.string ⟨#[]⟩,.int .i64 (kz ref reads),.int .i64 (oq ref reads)])/\ae w.heap.size w w':=by
 have K:=laid (fun W=>BG ref _ W H D)
 go_enter cS,cX
 go_wp2_with fail
 refine(K.out _).mono ?_;rintro e w1 ⟨rfl,Y⟩;go_wp2
 go_ret3
 exact⟨rfl,Y⟩
def ajH(w:af)(v:aj)(L:List lE):=
 ∃Y cap,v=.slice Y L.length cap/\(0<L.length->∃G,Y=some ⟨G,0,none⟩/\G<w.heap.size/\∀i,i<L.length->w.cell? ⟨G,i *3,none⟩=some (.string (L.getD i (⟨#[]⟩,⟨#[]⟩,⟨#[]⟩)).1)/\w.cell? ⟨G,i *3+1,none⟩=some (.string (L.getD i (⟨#[]⟩,⟨#[]⟩,⟨#[]⟩)).2.1)/\w.cell? ⟨G,i *3+2,none⟩=some (.string (L.getD i (⟨#[]⟩,⟨#[]⟩,⟨#[]⟩)).2.2))
theorem Rm{B:Nat}{v:aj}{L:List lE}(Y:w.ownsRow B 118 3 v L.length (jY L)):ajH w v L:=by
 rcases Y.2 with⟨D,A⟩|⟨G,cap,R,D,U,C,K⟩
 ·exact⟨none,0,by simp_all,fun h=>by omega⟩
 ·refine⟨some _,cap,D,fun _=>⟨G,rfl,?_,fun i I=>?_⟩⟩
  ·rcases aK G _ with h'|h'
   ·omega
   ·simp_all
  ·have H:=abC L i I;have K:=Y.cells (by rw[D];rfl);have c0:=K _ _ H.1;have c1:=K _ _ H.2.1;have c2:=K _ _ H.2.2;rw[sI]at c0 c1 c2;simp_all
theorem adu{L:List lE}{k:Int}(h:fewer L k=true)(i:Nat)(Y:i<L.length):k<((L.getD i (⟨#[]⟩,⟨#[]⟩,⟨#[]⟩)).2.1.size):=by
 unfold fewer at h;rw[List.all_eq_true]at h;have:=h (L.getD i (⟨#[]⟩,⟨#[]⟩,⟨#[]⟩)) (by simp_all);simp_all
theorem abD{L:List lE}{k:Int}(h:fewer L k=false):∃i,i<L.length/\¬k<((L.getD i (⟨#[]⟩,⟨#[]⟩,⟨#[]⟩)).2.1.size):=by
 unfold fewer at h;rw[dv]at h;have⟨r,hr,hk⟩:=h;have⟨i,Y,e⟩:=cG hr;refine⟨i,Y,?_⟩;simp_all
theorem Hw{L:List lE}(Y:i<L.length):L.getD i (⟨#[]⟩,⟨#[]⟩,⟨#[]⟩)∈L:=by simp_all
theorem Z3(ref reads:fa)(k q step wk:Int)(w:af)(u:ref.size<=ao)(v:reads.size<=ao)(d:kz ref reads=0)(U:(kS k 30 q step=false\/wk<1\/8<wk)\/fewer (iF reads 5 0) k=false):
  ah Tryz.prog 57 #[.string ref,.string reads,.int .i64 k,.int .i64 q,.int .i64 step,.int .i64 wk] w fun e w'=>e=.returned (.tuple #[.string ⟨#[]⟩,.int .i64 4,.int .i64 0])/\ae w.heap.size w w':=by
 have X:=IX d;have s:=laid (fun W=>BG ref reads W u v);rw[d]at s;clear d;generalize oq ref reads=P at *;have B:=laid U;have F:=laid X.2.2.2;have g:ref.size<=1000:=by omega
 have l:reads.size<=1000:=by omega
 have n:=BD reads 5 0;have c:=laid (BA reads 5 0);clear X U u v;generalize M:iF reads 5 0=L at *;have z:=laid M;clear M
 go_enter cS,cX
 go_wp2_with fail
 refine(s.out _).mono ?_;rintro e w1 ⟨rfl,A⟩;go_wp2_with fail
 refine(qO ref _ g).mono ?_;rintro e w2 ⟨rfl,N⟩;have K:ae w.heap.size w w2:=A.trans (N.mono A.size);clear A N;generalize placeOf (iU ref).1=PL at *;generalize qY ref=XN at *;generalize str (iU ref).2=XB at *;go_wp2_with fail
 refine(Cg reads _ l).mono ?_;rintro e w3 ⟨V,rfl,O,Y⟩;have Y:=Y F.out;rw[z.out]at Y;have o:=Rm Y;have H:ae w.heap.size w w3:=(K.alloc K.size _).trans (O.mono (by simp;have:=K.size;omega));clear Y O K;generalize placeOf (jB reads 5 0)=PR at *;obtain⟨av,cap,rfl,R⟩:=o;have I:=laid R;clear R;go_wp2_with fail
 refine(B_ k 30 q step _).mono ?_;rintro e w4 ⟨rfl,rfl⟩;by_cases D:kS k 30 q step=false
 ·rw[D];clear D;go_wp2
  go_ret3
  exact⟨rfl,H⟩
 ·rw[bP]at D;have C:=laid D;rw[D];clear D;by_cases p:wk<1
  ·go_wp2
   go_ret3
   exact⟨rfl,H⟩
  ·by_cases r:8<wk
   ·go_wp2
    go_ret3
    exact⟨rfl,H⟩
   ·have Q:fewer L k=false:=by
     rcases B.out with(h|h|h)|h
     ·rw[C.out]at h;exact de h
     ·exact absurd h p
     ·exact absurd h r
     ·exact h
    have⟨j,t,T⟩:=abD Q;have E:=laid T;have a:0<=k/\k<=6:=by have:=of_decide_eq_true C.out;omega
    clear Q T;go_wp2
    go_loopw [22] (fun iv wr=>∃i:Nat,iv=.int .i64 (i:Int)/\i<=j/\wr=w4) (fun iv _=>L.length-(intOf iv).toNat)
    case atStart=>exact⟨0,rfl,ay _,rfl⟩
    case round=>
     obtain⟨i,rfl,b,rfl⟩:=hrel;have S:i<L.length:=by omega
     obtain⟨G,rfl,m,J⟩:=I.out (by omega);have⟨g0,g1,y⟩:=J i S;have AB:=(c.out _ (Hw S)).2.1;have Z:=laid (show i=j->¬k<((L.getD i (⟨#[]⟩,⟨#[]⟩,⟨#[]⟩)).2.1.size:Int)from fun e=>by subst e;have:=E.out;omega);generalize(L.getD i (⟨#[]⟩,⟨#[]⟩,⟨#[]⟩)).2.1=x at *;clear J g0 y;by_cases f:k<(x.size:Int)
     ·have pd:i<j:=by
       rcases aK i j with h|h
       ·exact h
       ·exact absurd f (Z.out (by omega))
      go_wp2
      go_roundw
      case rel=>go_light;exact⟨i+1,by go_num,by omega,by first|rfl|trivial⟩
      case measure=>go_light;simp[intOf];omega
     ·go_wp2
      go_ret3
      exact⟨rfl,H⟩
theorem Ro(mv:Bool)(xn I xm rn rb rm p mk:fa)(z:Int)(add k:Nat)(B:z=(add:Int))(w:af)(D:xn.size<=1000)(H:I.size<=300)(K:rn.size<=1000)(U:p.size<=100)(Y:mk.size<=1000)(R:add<=1000)(hk:k<=100):
  ah Tryz.prog 87 #[.agg #[.string xn,.string I,.string xm],.agg #[.string rn,.string rb,.string rm],.string p,.string mk,.int .i64 z,.int .i64 (k:Int),.bool mv] w fun e w'=>e=.returned (.string (str (oS xn I rn p mk add k mv)))/\ae w.heap.size w w':=by
 subst B;exact afm mv xn I xm rn rb rm p mk add k w D H K U Y R hk
theorem aiv(xn I:fa)(D:fa)(h:D=str (gL I.size)):(⟨#[64]⟩:fa)++xn++⟨#[9]⟩++D++⟨#[10]⟩=str (uq xn I):=by
 subst h;apply ByteArray.ext;apply Array.ext';simp only[cw,cu,str,uq]
theorem aiw(r:lE):r.1++(⟨#[9,52,9,42,9,48,9,42,9,45,9,45,9]⟩:fa)++r.2.1++⟨#[9]⟩++r.2.2++⟨#[10]⟩=str (qA r):=by
 apply ByteArray.ext;apply Array.ext';simp only[cw,cu,str,qA]
theorem Pq(xn I:fa)(k:Nat)(r:lE)(K:xn.size<=1000)(Y:I.size<=300)(hr:r.1.size<=10/\r.2.1.size<=30/\r.2.2.size<=30)(hk:k<=100):(ll xn I k r).length<=7000000:=
 OC xn I r.1 _ _ 0 k _ K Y (by omega) (by omega) (by omega) (by omega) (by omega)
theorem GV(s:fa):(str (ki s)).size=s.size:=by rw[h_,ki,Ht]
theorem Pr(xn I:fa)(k:Nat)(r:lE)(K:xn.size<=1000)(Y:I.size<=300)(hr:r.1.size<=10/\r.2.1.size<=30/\r.2.2.size<=30)(hk:k<=100):(mN xn I k r).length<=7000000:=
 OC xn I r.1 _ _ 16 k _ K Y (by omega) (by have:=zu r.2.1 0;omega) (by rw[GV];omega) (by omega) (by omega)
theorem Ps(r:lE)(hr:r.1.size<=10/\r.2.1.size<=30/\r.2.2.size<=30):(qA r).length<=1000:=by
 unfold qA;have Y:r.1.data.size=r.1.size:=rfl;have K:r.2.1.data.size=r.2.1.size:=rfl;have H:r.2.2.data.size=r.2.2.size:=rfl;simp only[ar,aX,bk,cn];omega
theorem M_(xn I:fa)(k:Nat)(r:lE)(K:xn.size<=1000)(Y:I.size<=300)(hr:r.1.size<=10/\r.2.1.size<=30/\r.2.2.size<=30)(hk:k<=100):(pI xn I k r).length<=15000000:=by
 have H:=Pq xn I k r K Y hr hk;have D:=Pr xn I k r K Y hr hk;have R:=Ps r hr;unfold pI;rw[ar];split<;>omega
theorem Ch(xn I:fa)(k:Nat)(L:List lE)(K:xn.size<=1000)(Y:I.size<=300)(H:∀r∈L,r.1.size<=10/\r.2.1.size<=30/\r.2.2.size<=30)(hk:k<=100):∀i,i<=L.length->(kJ xn I k L i).length<=2000+15000000 *i
 |0,_=>by
  have:=kY I.size (by omega);have e:xn.data.size=xn.size:=rfl;simp only[kJ,uq,ar,aX,bk,cn];omega
 |i+1,h=>by
  have D:=Ch xn I k L K Y H hk i (by omega);have hr:=M_ xn I k (L.getD i _) K Y (H _ (Hw (by omega))) hk;rw[kJ,ar];omega
theorem adv{k:Nat}{r:lE}(h:ll xn I k r≠ []):pI xn I k r=ll xn I k r++mN xn I k r:=by
 unfold pI;rw[if_neg (fun e=>h e.1)]
theorem agQ{k:Nat}{r:lE}(h:mN xn I k r≠ []):pI xn I k r=ll xn I k r++mN xn I k r:=by
 unfold pI;rw[if_neg (fun e=>h e.2)]
theorem abE{k:Nat}{r:lE}(K:ll xn I k r=[])(Y:mN xn I k r=[]):pI xn I k r=qA r:=by
 unfold pI;rw[if_pos ⟨K,Y⟩,Y,cz]
theorem YI(ref reads:fa)(k:Nat)(q step wk:Int)(w:af)(h1:ref.size<=ao)(h2:reads.size<=ao)(he:kz ref reads=0)(v:kS k 30 q step=true)(vi:1<=wk)(Lv:wk<=8)(d:fewer (iF reads 5 0) k=true):
  ah Tryz.prog 57 #[.string ref,.string reads,.int .i64 (k:Int),.int .i64 q,.int .i64 step,.int .i64 wk] w fun e w'=>e=.returned (.tuple #[.string (str (yn ref reads k)),.int .i64 0,.int .i64 0])/\ae w.heap.size w w':=by
 have yY:=IX he;have HC:=laid (fun W=>BG ref reads W h1 h2);rw[he]at HC;clear he;generalize oq ref reads=P at *;have a:=laid yY.2.2.2;have LB:ref.size<=1000:=by omega
 have Bb:reads.size<=1000:=by omega
 have LS:=BD reads 5 0;have b:=laid (BA reads 5 0);have HRI:=laid v;have y:=laid d;have hk6:k<=6:=by have:=of_decide_eq_true v;omega
 have Bq:(str (iU ref).2).size<=200:=by rw[h_];exact B2 ref
 have Fc:(qY ref).size<=10:=GU ref _;have t:=laid (show yn ref reads k=kJ (qY ref) (str (iU ref).2) k (iF reads 5 0) (iF reads 5 0).length from rfl);generalize yn ref reads k=RAW at *;clear yY h1 h2 v d;generalize Vg:iF reads 5 0=L at *;have Vf:=laid Vg;clear Vg;generalize Vh:qY ref=XN at *;generalize Vi:str (iU ref).2=Y at *;have HXN:=laid Vh;have HXB:=laid Vi;clear Vh Vi
 go_enter cS,cX
 go_wp2_with fail
 refine(HC.out _).mono ?_;rintro e w1 ⟨rfl,f⟩;go_wp2_with fail
 refine(qO ref _ LB).mono ?_;rintro e w2 ⟨rfl,vm⟩;rw[HXN.out,HXB.out];have C:ae w.heap.size w w2:=f.trans (vm.mono f.size);clear f vm;generalize placeOf (iU ref).1=PL at *;go_wp2_with fail
 refine(Cg reads _ Bb).mono ?_;rintro e w3 ⟨V,rfl,F,R⟩;have R:=R a.out;rw[Vf.out]at R;have hrd:=Rm R;have Z:ae w.heap.size w w3:=(C.alloc C.size _).trans (F.mono (by simp;have:=C.size;omega));have xl:w3.cell? ⟨w2.heap.size,0,none⟩=some (.string XN):=by rw[F.cell (by simp)];simp[go_sem]
 have rB:w3.cell? ⟨w2.heap.size,1,none⟩=some (.string Y):=by rw[F.cell (by simp)];simp[go_sem]
 have sc:w3.cell? ⟨w2.heap.size,2,none⟩=some (.string ⟨#[]⟩):=by rw[F.cell (by simp)];simp[go_sem]
 have LY:w2.heap.size<w3.heap.size:=by have:=F.size;simp at this;omega
 clear R F C;generalize w2.heap.size=bx at *;generalize placeOf (jB reads 5 0)=PR at *;obtain⟨av,cap,rfl,T⟩:=hrd;have I:=laid T;clear T;go_wp2_with fail
 refine(B_ k 30 q step _).mono ?_;rintro e w4 ⟨rfl,rfl⟩;rw[HRI.out];go_wp2
 go_loopw [22] (fun iv wr=>∃i:Nat,iv=.int .i64 (i:Int)/\i<=L.length/\wr=w4) (fun iv _=>L.length-(intOf iv).toNat)
 case atStart=>exact⟨0,rfl,ay _,rfl⟩
 case round=>
  obtain⟨i,rfl,aoZ,rfl⟩:=hrel;by_cases LZ:i<L.length
  ·obtain⟨G,rfl,vj,N⟩:=I.out (by omega);obtain⟨g0,g1,g2⟩:=N i LZ;have hkb:=adu y.out i LZ;generalize(L.getD i (⟨#[]⟩,⟨#[]⟩,⟨#[]⟩)).2.1=BB at *;clear N g0 g2;go_wp2
   go_roundw
   case rel=>go_light;exact⟨i+1,by go_num,by omega,by first|rfl|trivial⟩
   case measure=>go_light;simp[intOf];omega
  ·have q1:=sU ⟨#[64]⟩ XN (by decide) (by omega);have q2:=sU (⟨#[64]⟩++XN) ⟨#[9]⟩ (by rw[aP];have:(⟨#[64]⟩:fa).size=1:=rfl;omega) (by decide);have JX:=kY Y.size (by omega);have zD:(str (gL Y.size)).size<=10:=by rw[h_];omega
   have J:=laid (aiv XN Y _ rfl);have HD:=laid (fun W=>qd Y.size W (by omega));have s1:(⟨#[64]⟩:fa).size=1:=rfl;have s2:(⟨#[9]⟩:fa).size=1:=rfl;clear JX;generalize str (gL Y.size)=DX at *;have q3:=sU (⟨#[64]⟩++XN++⟨#[9]⟩) DX (by simp only[aP];omega) (by omega);have q4:=sU (⟨#[64]⟩++XN++⟨#[9]⟩++DX) ⟨#[10]⟩ (by simp only[aP];omega) (by decide);clear s1 s2 zD;go_wp2_with fail
   go_quiet((go_at_call 86;with_reducible exact bQ (HD.out _)))
   generalize U:wr.drewN nq=B;have y0:B.cell? ⟨bx,0,none⟩=some (.string XN):=by rw[<-U];exact xl
   have y1:B.cell? ⟨bx,1,none⟩=some (.string Y):=by rw[<-U];exact rB
   have y2:B.cell? ⟨bx,2,none⟩=some (.string ⟨#[]⟩):=by rw[<-U];exact sc
   have S:bx<B.heap.size:=by rw[<-U];exact LY
   have E:ae w.heap.size w B:=by rw[<-U];exact Go.below_drewN Z nq
   have HC5:Hid (0<L.length->∃G,av=some ⟨G,0,none⟩/\G<B.heap.size/\∀i,i<L.length->B.cell? ⟨G,i *3,none⟩=some (.string (L.getD i (⟨#[]⟩,⟨#[]⟩,⟨#[]⟩)).1)/\B.cell? ⟨G,i *3+1,none⟩=some (.string (L.getD i (⟨#[]⟩,⟨#[]⟩,⟨#[]⟩)).2.1)/\B.cell? ⟨G,i *3+2,none⟩=some (.string (L.getD i (⟨#[]⟩,⟨#[]⟩,⟨#[]⟩)).2.2)):=laid (by rw[<-U];exact I.out);clear U xl rB sc LY Z I q1 q2 q3 q4 HD;rw[J.out];clear J;go_wp2
   go_loopw [23,24] (fun ov iv wr=>∃i:Nat,iv=.int .i64 (i:Int)/\i<=L.length/\ov=.string (str (kJ XN Y k L i))/\ae B.heap.size B wr) (fun _ iv _=>L.length-(intOf iv).toNat)
   case atStart=>exact⟨0,rfl,ay _,rfl,au _ _⟩
   case round=>
    obtain⟨n,rfl,JL,rfl,K⟩:=hrel;have LU:=Ch XN Y k L (by omega) (by omega) b.out (by omega) n JL;by_cases pd:n<L.length
    ·obtain⟨G,rfl,vj,N⟩:=HC5.out (by omega);obtain⟨g0,g1,g2⟩:=N n pd;have Vj:=b.out _ (Hw pd);have H:=laid (show kJ XN Y k L (n+1)=kJ XN Y k L n++pI XN Y k (L.getD n (⟨#[]⟩,⟨#[]⟩,⟨#[]⟩))from rfl);generalize L.getD n (⟨#[]⟩,⟨#[]⟩,⟨#[]⟩)=r at *;obtain⟨rn,rb,rm⟩:=r;simp only at g0 g1 g2 Vj;obtain⟨o,s,u⟩:=Vj;rw[<-K.cell (p:=⟨G,_,none⟩) vj]at g0 g1 g2;have k0:wr.cell? ⟨bx,0,none⟩=some (.string XN):=by rw[K.cell (p:=⟨bx,0,none⟩) S];exact y0
     have k1:wr.cell? ⟨bx,1,none⟩=some (.string Y):=by rw[K.cell (p:=⟨bx,1,none⟩) S];exact y1
     have k2:wr.cell? ⟨bx,2,none⟩=some (.string ⟨#[]⟩):=by rw[K.cell (p:=⟨bx,2,none⟩) S];exact y2
     have hws:=K.size;have l:bx<wr.heap.size:=by omega
     have hGr:G<wr.heap.size:=by omega
     have i4:(n:Int)<(L.length:Int):=by omega
     have Vk:=Pq XN Y k (rn,rb,rm) (by omega) (by omega) ⟨o,s,u⟩ (by omega);have Vl:=Pr XN Y k (rn,rb,rm) (by omega) (by omega) ⟨o,s,u⟩ (by omega);have m:=laid (fun W=>Ro false XN Y ⟨#[]⟩ rn rb rm rb rm 0 0 k rfl W (by omega) (by omega) (by omega) (by omega) (by omega) (by omega) (by omega));clear N;go_wp2_with fail
     refine(m.out _).mono ?_;rintro e j ⟨rfl,D⟩;have c0:j.cell? ⟨bx,0,none⟩=some (.string XN):=by rw[D.cell (p:=⟨bx,0,none⟩) (by simp;omega),az _ _ _ l];exact k0
     have c1:j.cell? ⟨bx,1,none⟩=some (.string Y):=by rw[D.cell (p:=⟨bx,1,none⟩) (by simp;omega),az _ _ _ l];exact k1
     have c2:j.cell? ⟨bx,2,none⟩=some (.string ⟨#[]⟩):=by rw[D.cell (p:=⟨bx,2,none⟩) (by simp;omega),az _ _ _ l];exact k2
     have d0:j.cell? ⟨wr.heap.size,0,none⟩=some (.string rn):=by rw[D.cell (p:=⟨wr.heap.size,0,none⟩) (by simp),c9 _ _ _ _ rfl];rfl
     have d1:j.cell? ⟨wr.heap.size,1,none⟩=some (.string rb):=by rw[D.cell (p:=⟨wr.heap.size,1,none⟩) (by simp),c9 _ _ _ _ rfl];rfl
     have d2:j.cell? ⟨wr.heap.size,2,none⟩=some (.string rm):=by rw[D.cell (p:=⟨wr.heap.size,2,none⟩) (by simp),c9 _ _ _ _ rfl];rfl
     have UA:wr.heap.size<j.heap.size:=by have:=D.size;simp at this;omega
     have Q:ae B.heap.size B j:=(K.alloc K.size _).trans (D.mono (by simp;omega));have hot:=zu rb 0;have hbk:=GV rm;clear D k0 k1 k2 g0 g1 g2 m;rw[show oS XN Y rn rb rm 0 k false=ll XN Y k (rn,rb,rm)from rfl];have hzO:(str (kJ XN Y k L n)).size<=90000000:=by rw[h_];omega
     have hzA:(str (ll XN Y k (rn,rb,rm))).size<=7000000:=by rw[h_];exact Vk
     have hzB:(str (mN XN Y k (rn,rb,rm))).size<=7000000:=by rw[h_];exact Vl
     have ao0:(str (kJ XN Y k L n)++str (ll XN Y k (rn,rb,rm))).size<=97000000:=by rw[aP];omega
     have ajI:=qg (ll XN Y k (rn,rb,rm));have ajJ:=qg (mN XN Y k (rn,rb,rm));have X:=fun W=>Ro (decide (ll XN Y k (rn,rb,rm)≠ [])) XN Y ⟨#[]⟩ rn rb rm (iL rb 0) (str (ki rm)) 16 16 k rfl W (by omega) (by omega) (by omega) (by omega) (by omega) (by omega) (by omega);rw[show oS XN Y rn (iL rb 0) (str (ki rm)) 16 k (decide (ll XN Y k (rn,rb,rm)≠ []))=mN XN Y k (rn,rb,rm)from rfl]at X;have HOT:=laid (fun W=>OO rb W (by omega));have HBK:=laid (fun W=>XP rm W (by omega));have LC:=aiw (rn,rb,rm);have hzN:(str (qA (rn,rb,rm))).size<=1000:=by rw[h_];exact Ps (rn,rb,rm) ⟨o,s,u⟩
     have ao1:(str (kJ XN Y k L n)++str (qA (rn,rb,rm))).size<=97000000:=by rw[aP];omega
     have v1:(⟨#[9,52,9,42,9,48,9,42,9,45,9,45,9]⟩:fa).size=13:=rfl;have v2:(⟨#[9]⟩:fa).size=1:=rfl;have n1:(rn++⟨#[9,52,9,42,9,48,9,42,9,45,9,45,9]⟩).size<=1000:=by simp only[aP];omega
     have n2:(rn++⟨#[9,52,9,42,9,48,9,42,9,45,9,45,9]⟩++rb).size<=1000:=by simp only[aP];omega
     have n3:(rn++⟨#[9,52,9,42,9,48,9,42,9,45,9,45,9]⟩++rb++⟨#[9]⟩).size<=1000:=by simp only[aP];omega
     have n4:(rn++⟨#[9,52,9,42,9,48,9,42,9,45,9,45,9]⟩++rb++⟨#[9]⟩++rm).size<=1000:=by simp only[aP];omega
     simp only at LC;clear LU Vk Vl v1 v2;obtain⟨a1,a2,h,HO,M⟩:∃a1 a2 h,Hid (str (kJ XN Y k L n)++(if a2&&h then str (qA (rn,rb,rm))else str (ll XN Y k (rn,rb,rm)))++str (mN XN Y k (rn,rb,rm))=str (kJ XN Y k L (n+1)))/\decide (ll XN Y k (rn,rb,rm)≠ [])=a1/\decide (ll XN Y k (rn,rb,rm)=[])=a2/\decide (mN XN Y k (rn,rb,rm)=[])=h/\((a1=false/\a2=true/\h=true)\/(a1=false/\a2=true/\h=false)\/(a1=true/\a2=false)):=by
      refine⟨_,_,_,laid ?_,rfl,rfl,rfl,?_⟩
      ·by_cases x:ll XN Y k (rn,rb,rm)=[]
       ·by_cases z:mN XN Y k (rn,rb,rm)=[]
        ·rw[if_pos (by simp[x,z]),H.out,abE x z,Aw,z,cz]
        ·rw[if_neg (by simp[z]),H.out,agQ z,Aw,aT]
       ·rw[if_neg (by simp[x]),H.out,adv x,Aw,aT]
      ·by_cases x:ll XN Y k (rn,rb,rm)=[]<;>by_cases z:mN XN Y k (rn,rb,rm)=[]<;>simp[x,z]
     obtain⟨e1,e2,e3,M⟩:=M;rw[e1]at X;rw[e2]at ajI;rw[e3]at ajJ;clear e1 e2 e3 H;generalize ll XN Y k (rn,rb,rm)=A at *;generalize mN XN Y k (rn,rb,rm)=BB at *;generalize kJ XN Y k L n=O at *;generalize str (qA (rn,rb,rm))=NN at *;generalize str (ki rm)=BM at *;generalize iL rb 0=OB at *;have HLB:=laid X;clear X;rcases M with⟨rfl,rfl,rfl⟩|⟨rfl,rfl,rfl⟩|⟨rfl,rfl⟩
     all_goals
      go_wp2_with fail
      go_region_held3 (fun w'=>w'.cell? ⟨bx,0,none⟩=some (.string XN)/\w'.cell? ⟨bx,1,none⟩=some (.string Y)/\w'.cell? ⟨bx,2,none⟩=some (.string ⟨#[]⟩)/\w'.cell? ⟨wr.heap.size,0,none⟩=some (.string rn)/\w'.cell? ⟨wr.heap.size,1,none⟩=some (.string rb)/\w'.cell? ⟨wr.heap.size,2,none⟩=some (.string rm))
       (first|go_keep|(refine⟨?_,?_,?_,?_,?_,?_⟩<;>(rw[Vm.cell (by simp;omega)];assumption)))
       (first
        |(go_at_call 83;refine(HOT.out _).mono ?_;rintro e w' ⟨rfl,rfl⟩)
        |(go_at_call 88;refine(HBK.out _).mono ?_;rintro e w' ⟨rfl,rfl⟩)
        |(go_at_call 87;refine(HLB.out _).mono ?_;rintro e w' ⟨rfl,Vm⟩))
      have g:ae B.heap.size B w':=(Go.below_drewN Q 1).trans (Vm.mono Q.size);rename_i c;obtain⟨e0,e1,e2,f0,f1,f2⟩:=c;go_wp2
      go_roundw
      case rel=>go_light;exact⟨n+1,by go_num,by omega,jj HO.out,g⟩
      case measure=>go_light;simp[intOf];omega
    ·have yX:n=L.length:=by omega
     have HF:Hid (str (kJ XN Y k L n)=str RAW):=laid (by rw[t.out,yX]);clear yX;generalize kJ XN Y k L n=O at *;go_wp2
     go_ret3
     exact⟨Ax HF.out rfl rfl,E.trans (K.mono E.size)⟩
theorem Z4(ref reads:fa)(k q step wk:Int)(w:af)(B:ref.size<=ao)(C:reads.size<=ao):
  ah Tryz.prog 57 #[.string ref,.string reads,.int .i64 k,.int .i64 q,.int .i64 step,.int .i64 wk] w fun e w'=>
   e=.returned (.tuple #[.string (oy ref reads k q step wk),.int .i64 (lV ref reads k q step wk),.int .i64 (rA ref reads)])/\ae w.heap.size w w':=by
 by_cases K:kz ref reads≠0
 ·have Y:lV ref reads k q step wk=kz ref _:=if_pos K;have D:oy ref reads k q step wk=⟨#[]⟩:=by unfold oy;rw[Y,if_neg K]
  have U:rA ref _=oq ref _:=if_pos K;rw[Y,D,U];exact ZZ ref _ k q _ wk w B C K
 have I:=by simpa using K
 have U:rA ref _=0:=if_neg K;by_cases F:(kS k 30 q step=false\/wk<1\/8<wk)\/fewer (iF reads 5 0) k=false
 ·have Y:lV ref reads k q step wk=4:=by
   unfold lV;rw[if_neg K];by_cases H:kS k 30 q step=false\/wk<1\/8<wk
   ·simp_all
   ·simp_all
  have D:oy ref reads k q step wk=⟨#[]⟩:=by unfold oy;rw[Y];rfl
  rw[Y,D,U];exact Z3 ref _ k q _ wk w B C I F
 have H:=fun h=>F (.inl h);have R:=fun h=>F (.inr h);have A:=by simpa using fun h=>H (.inl h)
 have J:=by simpa using R
 have L:0<=k:=by have:=of_decide_eq_true A;omega
 have Y:lV ref reads k q step wk=0:=by unfold lV;rw[if_neg K,if_neg H,if_neg R]
 have D:oy ref reads k q step wk=str (yn ref reads k.toNat):=by unfold oy;rw[Y];rfl
 rw[Y,D,U];obtain⟨M,rfl⟩:=aZ L;exact YI ref _ M q _ wk w B C I A (by omega) (by omega) J
theorem OD(p s:fa)(q:Nat)(K:p.size<=900)(Y:s.size<=1000):mB p s q<=1001000:=Ng p s q _ (by omega) Y
theorem XS(ref gj:fa)(k q st:Nat)(w:af)(ha:¬400<ref.size)(hr:(je ref).2=false)(AE:¬gj.size<1)(vm:¬30<gj.size)(Z:gj.data.toList.all g_=true)
  (hk:k<=6)(hkm:k<gj.size)(W:1<=q)(hq2:q<=8)(d:1<=st)(hs2:st<=200):
  ah Tryz.prog 56 #[.string ref,.string gj,.int .i64 (k:Int),.int .i64 (q:Int),.int .i64 (st:Int)] w fun e w'=>
   e=.returned (.tuple #[.string (str (jL (str (gj.data.toList.map gb)) (str (iU ref).2) k q st (iJ gj.size k q) (stretches (iU ref).2.length st))),.int .i64 0])/\ae w.heap.size w w':=by
 have a:=laid (show placeOf (iU ref).1= -1 by rw[vK];exact zq hr);have HB:=laid Z;have Q:(str (gj.data.toList.map gb)).size=gj.size:=by rw[h_];simp
 have r:=laid (show kS k gj.size q st=true by unfold kS;rw[decide_eq_true (by omega)]);have t:=B2 ref;generalize V:str (gj.data.toList.map gb)=K at *;generalize T:str (iU ref).2=Y at *;have c:Y.size=(iU ref).2.length:=by rw[<-T,h_]
 rw[<-c]at t⊢;have p:=laid V;have s:=laid T;have F:=laid Q;clear hr Z Q V T c;obtain⟨L,hkq,ao2,l⟩:∃L:Nat,(k:Int) *(q:Int)=(L:Int)/\L<=48/\Hid (L=k *q):=⟨k *q,by rw[dk],bp hk hq2,laid rfl⟩;have ao3:0<=(k:Int) *(q:Int)/\(k:Int) *(q:Int)<=48:=by omega
 have Bo:K.size<=30:=by rw[F.out];omega
 have HT:=laid (show(K.size:Int)-(q:Int)+1-(L:Int)=iJ gj.size k q by rw[F.out,l.out];rfl);have hpz:1<=K.size:=by rw[F.out];omega
 go_enter bq,br
 go_wp2_with fail
 refine(qO ref _ (by omega)).mono ?_;rintro e w1 ⟨rfl,P⟩;rw[a.out,s.out];clear a;go_wp2_with fail
 refine(FU gj _ (by omega) HB.out).mono ?_;rintro e w2 ⟨rfl,rfl⟩;rw[p.out];go_wp2_with fail
 refine(B_ _ _ _ _ _).mono ?_;rintro e w3 ⟨rfl,rfl⟩;rw[F.out,r.out];go_wp2
 go_loop [18,19] (fun o i=>∃b:Nat,b<=stretches Y.size st/\i=.int .i64 b/\o=.string (str (jL K Y k q st (iJ gj.size k q) b))) (fun _ i=>Y.size+1-(intOf i).toNat)
 case atStart=>exact⟨0,ay _,rfl,rfl⟩
 case round=>
  obtain⟨b,hb,rfl,rfl⟩:=hrel;have O:=xH Y.size st b d;have u:b<=200:=by
   rcases Nat.eq_zero_or_pos b with h0|h0
   ·omega
   ·have h5:=(xH Y.size st (b-1) d).2 (by omega);have:b-1<=(b-1) *st:=dK _ (by omega);omega
  have x:=OA K Y k q st (iJ gj.size k q) b (by omega);have hoz:(str (jL K Y k q st (iJ gj.size k q) b)).size<=1000:=by rw[h_];omega
  obtain⟨m,hmul,S⟩:∃m:Nat,(b:Int) *(st:Int)=(m:Int)/\Hid (m=b *st):=⟨b *st,by rw[dk],laid rfl⟩;by_cases G:b<stretches Y.size st
  ·have y:m<Y.size:=by rw[S.out];exact O.2 G
   have LY:b<Y.size:=by have:b<=b *st:=dK _ (by omega);have:=S.out;omega
   have hdz:(str (gL b)).size<=4:=by rw[h_];exact(kY b (by omega)).2
   have n:0<=(b:Int) *(st:Int)/\(b:Int) *(st:Int)<=200:=by omega
   have f:Hid (∀E:Nat,E=nF K.size Y.size k st b->jL K Y k q st (iJ gj.size k q) (b+1)=if(decide (iJ gj.size k q<=0)||decide (iJ gj.size k q<=(mB K (Y.extract m E) q:Int)))=true then(if jL K Y k q st (iJ gj.size k q) b=[]then gL b else jL K Y k q st (iJ gj.size k q) b++(44::gL b))else jL K Y k q st (iJ gj.size k q) b):=by
    refine laid fun E hE=>?_;rw[hE,S.out];rfl
   have j:∀E:Nat,(Y.extract m E).size<=1000:=by intro E;rw[aW];omega
   have M:=laid j;clear O j x;have N:Hid (nF K.size Y.size k st b=min (m+st+K.size+k) Y.size):=laid (by unfold nF;rw[S.out]);clear S;generalize jL K Y k q st (iJ gj.size k q) b=o at *;by_cases hto:Y.size<m+st+K.size+k
   ·have J:=laid (f.out Y.size (by rw[N.out];omega));clear f N;by_cases z:(K.size:Int)-(q:Int)+1-(L:Int)<=0
    ·have D:=laid (show jL K Y k q st (iJ gj.size k q) (b+1)=if o=[]then gL b else o++(44::gL b) by rw[J.out,if_pos];rw[<-HT.out];simp[z]);clear J;by_cases R:o=[]
     ·have B:=(show((str o).toList.isEmpty)=true by rw[qg];simp[R]);have U:=laid (jj (show str o++str (gL b)=str (jL K Y k q st (iJ gj.size k q) (b+1)) by rw[D.out,if_pos R,kX,R];rfl));clear R;go_wp2_with fail
      refine(qd b _ (by omega)).mono ?_;rintro e w' ⟨rfl,rfl⟩;go_wp2
      go_round
      case rel=>go_light;exact⟨b+1,by omega,by go_num,U.out⟩
      case measure=>go_light;simp[intOf];omega
     ·have B:=(show((str o).toList.isEmpty)=false by rw[qg];simp[R]);have U:=laid (jj (show str o++⟨#[44]⟩++str (gL b)=str (jL K Y k q st (iJ gj.size k q) (b+1)) by rw[D.out,if_neg R,tZ,kX,aT];rfl));clear R;go_wp2_with fail
      refine(qd b _ (by omega)).mono ?_;rintro e w' ⟨rfl,rfl⟩;go_wp2
      go_round
      case rel=>go_light;exact⟨b+1,by omega,by go_num,U.out⟩
      case measure=>go_light;simp[intOf];omega
    ·have v:=OD K (Y.extract m (Y.size)) q (by omega) (M.out _);have I:Hid (iJ gj.size k q<=(mB K (Y.extract m (Y.size)) q:Int)↔(K.size:Int)-(q:Int)+1-(L:Int)<=(mB K (Y.extract m (Y.size)) q:Int)):=laid (by rw[HT.out]);have A:=laid (show¬iJ gj.size k q<=0 by rw[<-HT.out];exact z);have H:=laid (N8 K (Y.extract m (Y.size)) q);generalize mB K (Y.extract m (Y.size)) q=C at *;go_wp2_with fail
     refine(H.out _ (by omega) (M.out _) W (by omega)).mono ?_;rintro e w' ⟨rfl,rfl⟩;by_cases X:(K.size:Int)-(q:Int)+1-(L:Int)<=(C:Int)
     ·have D:=laid (show jL K Y k q st (iJ gj.size k q) (b+1)=if o=[]then gL b else o++(44::gL b) by rw[J.out,if_pos];simp[I.out.2 X]);clear J I A H;by_cases R:o=[]
      ·have B:=(show((str o).toList.isEmpty)=true by rw[qg];simp[R]);have U:=laid (jj (show str o++str (gL b)=str (jL K Y k q st (iJ gj.size k q) (b+1)) by rw[D.out,if_pos R,kX,R];rfl));clear R;go_wp2_with fail
       refine(qd b _ (by omega)).mono ?_;rintro e w' ⟨rfl,rfl⟩;go_wp2
       go_round
       case rel=>go_light;exact⟨b+1,by omega,by go_num,U.out⟩
       case measure=>go_light;simp[intOf];omega
      ·have B:=(show((str o).toList.isEmpty)=false by rw[qg];simp[R]);have U:=laid (jj (show str o++⟨#[44]⟩++str (gL b)=str (jL K Y k q st (iJ gj.size k q) (b+1)) by rw[D.out,if_neg R,tZ,kX,aT];rfl));clear R;go_wp2_with fail
       refine(qd b _ (by omega)).mono ?_;rintro e w' ⟨rfl,rfl⟩;go_wp2
       go_round
       case rel=>go_light;exact⟨b+1,by omega,by go_num,U.out⟩
       case measure=>go_light;simp[intOf];omega
     ·have D:=laid (jj (show str o=str (jL K Y k q st (iJ gj.size k q) (b+1)) by rw[J.out,if_neg];simp only[cv,decide_eq_true_eq];rintro(h|h);exact absurd h (by have:=A.out;omega);exact X (I.out.1 h)));clear J I A H;go_wp2
      go_round
      case rel=>go_light;exact⟨b+1,by omega,by go_num,D.out⟩
      case measure=>go_light;simp[intOf];omega
   ·have J:=laid (f.out (m+st+K.size+k) (by rw[N.out];omega));clear f N;by_cases z:(K.size:Int)-(q:Int)+1-(L:Int)<=0
    ·have D:=laid (show jL K Y k q st (iJ gj.size k q) (b+1)=if o=[]then gL b else o++(44::gL b) by rw[J.out,if_pos];rw[<-HT.out];simp[z]);clear J;by_cases R:o=[]
     ·have B:=(show((str o).toList.isEmpty)=true by rw[qg];simp[R]);have U:=laid (jj (show str o++str (gL b)=str (jL K Y k q st (iJ gj.size k q) (b+1)) by rw[D.out,if_pos R,kX,R];rfl));clear R;go_wp2_with fail
      refine(qd b _ (by omega)).mono ?_;rintro e w' ⟨rfl,rfl⟩;go_wp2
      go_round
      case rel=>go_light;exact⟨b+1,by omega,by go_num,U.out⟩
      case measure=>go_light;simp[intOf];omega
     ·have B:=(show((str o).toList.isEmpty)=false by rw[qg];simp[R]);have U:=laid (jj (show str o++⟨#[44]⟩++str (gL b)=str (jL K Y k q st (iJ gj.size k q) (b+1)) by rw[D.out,if_neg R,tZ,kX,aT];rfl));clear R;go_wp2_with fail
      refine(qd b _ (by omega)).mono ?_;rintro e w' ⟨rfl,rfl⟩;go_wp2
      go_round
      case rel=>go_light;exact⟨b+1,by omega,by go_num,U.out⟩
      case measure=>go_light;simp[intOf];omega
    ·have v:=OD K (Y.extract m (m+st+K.size+k)) q (by omega) (M.out _);have I:Hid (iJ gj.size k q<=(mB K (Y.extract m (m+st+K.size+k)) q:Int)↔(K.size:Int)-(q:Int)+1-(L:Int)<=(mB K (Y.extract m (m+st+K.size+k)) q:Int)):=laid (by rw[HT.out]);have A:=laid (show¬iJ gj.size k q<=0 by rw[<-HT.out];exact z);have H:=laid (N8 K (Y.extract m (m+st+K.size+k)) q);generalize mB K (Y.extract m (m+st+K.size+k)) q=C at *;go_wp2_with fail
     refine(H.out _ (by omega) (M.out _) W (by omega)).mono ?_;rintro e w' ⟨rfl,rfl⟩;by_cases X:(K.size:Int)-(q:Int)+1-(L:Int)<=(C:Int)
     ·have D:=laid (show jL K Y k q st (iJ gj.size k q) (b+1)=if o=[]then gL b else o++(44::gL b) by rw[J.out,if_pos];simp[I.out.2 X]);clear J I A H;by_cases R:o=[]
      ·have B:=(show((str o).toList.isEmpty)=true by rw[qg];simp[R]);have U:=laid (jj (show str o++str (gL b)=str (jL K Y k q st (iJ gj.size k q) (b+1)) by rw[D.out,if_pos R,kX,R];rfl));clear R;go_wp2_with fail
       refine(qd b _ (by omega)).mono ?_;rintro e w' ⟨rfl,rfl⟩;go_wp2
       go_round
       case rel=>go_light;exact⟨b+1,by omega,by go_num,U.out⟩
       case measure=>go_light;simp[intOf];omega
      ·have B:=(show((str o).toList.isEmpty)=false by rw[qg];simp[R]);have U:=laid (jj (show str o++⟨#[44]⟩++str (gL b)=str (jL K Y k q st (iJ gj.size k q) (b+1)) by rw[D.out,if_neg R,tZ,kX,aT];rfl));clear R;go_wp2_with fail
       refine(qd b _ (by omega)).mono ?_;rintro e w' ⟨rfl,rfl⟩;go_wp2
       go_round
       case rel=>go_light;exact⟨b+1,by omega,by go_num,U.out⟩
       case measure=>go_light;simp[intOf];omega
     ·have D:=laid (jj (show str o=str (jL K Y k q st (iJ gj.size k q) (b+1)) by rw[J.out,if_neg];simp only[cv,decide_eq_true_eq];rintro(h|h);exact absurd h (by have:=A.out;omega);exact X (I.out.1 h)));clear J I A H;go_wp2
      go_round
      case rel=>go_light;exact⟨b+1,by omega,by go_num,D.out⟩
      case measure=>go_light;simp[intOf];omega
  ·have y:¬m<Y.size:=by rw[S.out];exact fun h=>G (O.1 h)
   have g:=laid (show b=stretches Y.size st by omega);have n:0<=(b:Int) *(st:Int)/\(b:Int) *(st:Int)<=40000:=by
    have:b *st<=200 *200:=bp u hs2;rw[<-S.out]at this;omega
   clear O;go_wp2
   go_ret2
   exact⟨X0 (by rw[<-g.out]),P.alloc P.size _⟩
theorem YJ(ref gj:fa)(k q step:Int)(w:af)(F:ref.size<=ao)(J:gj.size<=ao):
  ah Tryz.prog 56 #[.string ref,.string gj,.int .i64 k,.int .i64 q,.int .i64 step] w fun e w'=>
   e=.returned (.tuple #[.string (qz ref gj k q step),.int .i64 (mA ref gj k q step)])/\ae w.heap.size w w':=by
 by_cases Y:400<ref.size
 ·have K:qz ref gj k q step=⟨#[]⟩:=if_pos (.inl Y);have H:mA ref gj k q step=1:=if_pos Y;rw[K,H];exact XK ref _ k q _ w F Y
 by_cases hr:(je ref).2=true
 ·have K:qz ref gj k q step=⟨#[]⟩:=if_pos (.inr (.inl hr));have H:mA ref gj k q step=2:=by unfold mA;rw[if_neg Y,if_pos hr]
  rw[K,H];exact XL ref _ k q _ w Y hr
 have R:=by simpa using hr
 by_cases D:gj.size<1\/30<gj.size\/gj.data.toList.all g_=false
 ·have K:qz ref gj k q step=⟨#[]⟩:=if_pos (.inr (.inr (by rcases D with h|h|h;exact .inl h;exact .inr (.inl h);exact .inr (.inr (.inl h)))));have H:mA ref gj k q step=5:=by unfold mA;rw[if_neg Y,if_neg hr,if_pos D]
  rw[K,H];exact XM ref _ k q _ w J Y R D
 have A:=fun h=>D (.inl h);have U:=fun h=>D (.inr (.inl h));have B:gj.data.toList.all g_=true:=by simp_all
 by_cases I:kS k gj.size q step=false
 ·have K:qz ref gj k q step=⟨#[]⟩:=if_pos (.inr (.inr (.inr (.inr (.inr I)))));have H:mA ref gj k q step=4:=by unfold mA;rw[if_neg Y,if_neg hr,if_neg D,if_pos I]
  rw[K,H];exact XO ref _ k q _ w Y R A U B I
 have K:qz ref gj k q step=str _:=if_neg (by simp_all);have H:mA ref gj k q step=0:=by unfold mA;rw[if_neg Y,if_neg hr,if_neg D,if_neg I]
 have C:=by
  rw[bP]at I;exact of_decide_eq_true I
 obtain⟨L,rfl⟩:=aZ C.1;obtain⟨M,rfl⟩:=aZ (show 0<=q by omega);obtain⟨N,rfl⟩:=aZ (show 0<=step by omega);rw[K,H];have:=XS ref _ L M N w Y R A U B (by omega) (by omega) (by omega) (by omega) (by omega) (by omega);unfold Ri;simpa only[Int.toNat_natCast]using this
end
section
open RowKit Maps
def iC(s:fa)(q i:Nat):=(s.extract i (i+q)).data.toList
def lH(x:List UInt8):=!x.contains 78
def ja(s:fa)(q:Nat)(x:List _)
 |0=>0
 |k+1=>ja s q x k+(if iC s q k=x/\lH x=true then 1 else 0)
theorem Hx(s:fa)(q:Nat)(x:List _):∀k,ja s q x k<=k
 |0=>ai _
 |k+1=>by have:=Hx s q x k;simp[ja];split<;>omega
def mb(s:fa)(q:Nat)(x:List _):=ja s q x (s.size+1-q)
theorem Ij(s:fa)(q:Nat)(x:List _):mb s q x<=s.size+1:=by
 have:=Hx s q x (s.size+1-q);unfold mb;omega
theorem OE{k:Nat}(Y:lH (iC s q k)=true):ja s q (iC s q k) (k+1)=ja s q (iC s q k) k+1:=by
 rw[ja,if_pos ⟨rfl,Y⟩]
theorem FO{k:Nat}{x:List _}(Y:¬(iC s q k=x/\lH x=true)):ja s q x (k+1)=ja s q x k:=by
 simp[ja];simp_all
def ra(D:aM Unit)(f:List UInt8->Nat):Prop:=
 IsMap D/\(∀x,D.atKey (.string x) (.lit (.int .i64 0))=.lit (.int .i64 (f x:Int)))/\∀x,has D (.string x)=true↔0<f x
theorem XT(s:fa)(q:Nat):ra (.map []) (fun x=>ja s q x 0):=⟨isMap_empty,fun x=>rfl,fun x=>by rw[has_eq];simp[ja]⟩
theorem YK{D:aM _}{k:Nat}(h:ra D (fun x=>ja s q x k))(Y:lH (iC s q k)=false):ra D (fun x=>ja s q x (k+1)):=by
 have e:(fun x=>ja s q x (k+1))=fun x=>ja s q x k:=by
  funext x;exact FO (by rintro⟨rfl,h⟩;simp_all)
 simp_all
theorem Z5{D:aM _}{k:Nat}(h:ra D (fun x=>ja s q x k))(U:lH (iC s q k)=true)
  (B:D.atKey (.string (iC s q k)) (.lit (.int .i64 0))=.lit (.int .i64 c)):ra (D.put (.string (iC s q k)) (.lit (.int .i64 (c+1)))) (fun x=>ja s q x (k+1)):=by
 have R:=h.2.1 (iC s q k);rw[B]at R;have K:=by simpa using R
 have Y:WideAt.IsKeyLit (.string (iC s q k)):=by first|trivial
 refine⟨h.1.put _ _,fun x=>?_,fun x=>?_⟩
 ·by_cases H:x=iC s q k
  ·subst H;rw[atKey_put_same h.1 Y];show _=DataW.lit (.int .i64 ((ja s q _ _)))
   rw[OE U,K];simp
  ·rw[atKey_put_other (by simp_all),h.2.1 x];show _=DataW.lit (.int .i64 ((ja s q x _)))
   rw[FO (by rintro⟨e,_⟩;simp_all)]
 ·by_cases H:x=iC s q k
  ·subst H;rw[has_put_same h.1 Y];show _↔0<ja s q _ (k+1)
   rw[OE U];simp
  ·rw[has_put_other (by simp_all),h.2.2 x];show _↔0<ja s q x (k+1)
   rw[FO (by rintro⟨e,_⟩;simp_all)]
theorem Hy{D:aM _}{f:List _->Nat}{x:List _}(h:ra D f)(K:D.atKey (.string x) (.lit (.int .i64 0))=.lit (.int .i64 c)):c=(f x):=by
 have Y:=h.2.1 x;simp_all
theorem agR(l:List _):bj l 78<0↔lH l=true:=by
 unfold lH;induction l with
 |nil=>simp[bj]
 |cons a l D=>
  simp only[bj];by_cases H:a=78
  ·simp_all
  ·have Y:¬(a==78)=true:=by simp_all
   have K:(List.contains (a::l) 78)=l.contains 78:=by
    rw[List.contains_cons];have:(78==a)=false:=by simpa using fun e=>H e.symm
    simp_all
   rw[K,if_neg Y,<-D];by_cases R:bj l 78= -1
   ·simp_all
   ·rw[if_neg (by simp_all)];omega
theorem Ay:Keyed Tryz.prog 9:=string_keyed bg
theorem SW(w:af):(zeroValue 3).run Tryz.prog w=.ok (.int .i64 0) w:=by simp
abbrev te(w:af)(b n:Nat)(D:aM Unit):=w.ownsMap Tryz.prog 9 (plainElem Tryz.prog 3) b n D
theorem WX(s:fa)(w:af):
  ah Tryz.prog 99 #[.string s,.int .u8 78] w fun e w'=>e=.returned (.int .i64 (bj s.data.toList 78))/\w'=w:=Tryz.strings_IndexByte s 78 w
theorem MV(s:fa)(q:Nat)(w:af)(r:s.size<=1000)(l:1<=q)(d:q<=1000):
  ah Tryz.prog 76 #[.string s,.int .i64 (q:Int)] w fun e w'=>e=.returned (.map (some w.heap.size))/\(∃(n:Nat) (D:aM Unit),n<=1001/\te w' w.heap.size n D/\ra D (mb s q))/\ae w.heap.size w w':=by
 have z:=@run_makeMap Tryz.prog
 go_enter Tryz.func76,Tryz.ntmps76
 go_wp2
 go_loopw [6] (fun ev wr=>∃(k:Nat) (D:aM Unit),k<=s.size+1-q/\ev=.int .i64 ((q:Int)+(k:Int))/\te wr w.heap.size k D/\Hid (ra D (fun x=>ja s q x k))/\ae w.heap.size w wr) (fun ev _=>s.size+1-(intOf ev).toNat)
 case atStart=>exact⟨0,.map [],ay _,by simp,World.ownsMap_made _ _ _ _,laid (XT s q),(au _ _).alloc (ai _) _⟩
 case round=>
  obtain⟨k,D,hk,rfl,K,J,Y⟩:=hrel;by_cases W:q+k<=s.size
  ·have f:aH.wrap ((q:Int)+(k:Int)-(q:Int))=(k:Int):=by rw[show(q:Int)+(k:Int)-(q:Int)=(k:Int) by omega];exact aI _ (by omega)
   have hX:(s.extract k (q+k)).data.toList=iC s q k:=by unfold iC;rw[Nat.add_comm q k]
   have O:(s.extract k (q+k)).size<=maxLen:=by rw[aW];unfold ao;omega
   have S:=laid hX;clear hX;have L:=laid (agR (iC s q k));have E:=Hx s q (iC s q k) k;go_wp2_with fail
   refine(WX _ _).mono ?_;rintro e w' ⟨rfl,rfl⟩;rw[S.out];generalize bj (iC s q k) 78=ix at *;by_cases C:ix<0
   ·have H:=L.out.1 C;have N:=laid H;have U:keyOf Tryz.prog 9 (.string (s.extract k (q+k)))=some (.string (iC s q k)):=by rw[<-S.out];exact WideMaps.keyOf_string_mk bg O
    have Q:=laid U;clear H U L;generalize s.extract k (q+k)=X at *;go_wp2_with(first
     |(at_lookup;refine dW _ rfl _ _ 113 rfl 9 3 .i64 Ay bZ bK (SW _) w.heap.size k D rfl K _ _ rfl Q.out ?_;intro c B g)
     |(at_mapUpdate;refine wpList_mapUpdate_own _ rfl _ _ _ 113 rfl 9 3 Ay bZ _ w.heap.size k D rfl K (by unfold ao;omega) _ _ _ rfl rfl Q.out _ [] (plainElem_int bK (wrap64_wf _)) ?_;intro w1 R A)
     |go_in)
    have Z:=Hy J.out B;have V:wrap64 (c+1)=c+1:=dp (c+1) (by omega);rw[V]at R;have I:=Z5 J.out N.out B;have P:ae w.heap.size w w1:=Y.grown A Y.size (fun j G=>by cases G;exact ai _)
    go_roundw
    case rel=>go_light;exact⟨k+1,_,by omega,ib (by omega),R,laid I,P⟩
    case measure=>go_light;simp[intOf];omega
   ·have H:lH (iC s q k)=false:=by
     rw[<-aQ,<-L.out];exact C
    have I:=YK J.out H;have M:=laid I;clear H I L;generalize s.extract k (q+k)=X at *;go_wp2
    go_roundw
    case rel=>go_light;exact⟨k+1,D,by omega,ib (by omega),K.mono (by omega),M,Y⟩
    case measure=>go_light;simp[intOf];omega
  ·have F:k=s.size+1-q:=by omega
   have T:Hid (ra D (mb s q)):=laid (by have:=J.out;unfold mb;rw[<-F];exact this);clear F;go_wp2
   go_ret
   exact⟨rfl,⟨k,D,by omega,K,T.out⟩,Y⟩
theorem Ci{b:fa}:a.data.toList=b.data.toList↔a=b:=⟨fun h=>ByteArray.ext (Array.ext' h),fun h=>by rw[h]⟩
theorem CO(r s:fa)(Y:lH r.data.toList=true):∀k,qu r s k=ja s r.size r.data.toList k
 |0=>rfl
 |k+1=>by
  simp[qu,ja];rw[CO r s Y k];by_cases h:s.extract k (k+r.size)=r
  ·rw[if_pos ((CE _ _).2 h),if_pos ⟨by unfold iC;rw[h],Y⟩]
  ·rw[if_neg (by rw[CE];exact h),if_neg (by rintro⟨e,_⟩;exact h (Ci.1 e))]
theorem Pt(r s:fa):∀k,0<qu r s k↔∃j,j<k/\s.extract j (j+r.size)=r
 |0=>by simp[qu]
 |k+1=>by
  simp[qu];have H:=Pt r s k;by_cases h:s.extract k (k+r.size)=r
  ·rw[if_pos ((CE _ _).2 h)];exact⟨fun _=>⟨k,by omega,h⟩,fun _=>by omega⟩
  ·rw[if_neg (by rw[CE];exact h),Nat.add_zero,H];constructor
   ·rintro⟨j,K,e⟩;exact⟨j,by omega,e⟩
   ·rintro⟨j,K,e⟩;rcases aK j k with Y|Y
    ·exact⟨j,Y,e⟩
    ·obtain rfl:j=k:=by omega
     simp_all
theorem TK(r:fa):0<kV ⟨#[78]⟩ r↔lH r.data.toList=false:=by
 have K:(⟨#[78]⟩:fa).size=1:=rfl;unfold kV;rw[Pt,K,Nat.add_sub_cancel];have key:∀j,j<r.size->(r.extract j (j+1)=⟨#[78]⟩↔r.data.toList[j]?=some 78):=by
  intro j Y;rw[<-Ci];have D:(r.extract j (j+1)).data.toList=(r.data.toList.drop j).take 1:=by simp
  have H:=by simpa using Y
  rw[D,cB H,aB H];simp
 unfold lH;constructor
 ·rintro⟨j,Y,e⟩;have:=(key j Y).1 e;simp only[dh,cA];exact cI this
 ·intro h;simp only[dh,cA]at h;have⟨j,Y,e⟩:=cG h;exact⟨j,by simpa using Y,(key j (by simpa using Y)).2 (by rw[aB Y,e])⟩
theorem Wt(p:fa)(n j q:Nat)(h:j+q<=n):(p.extract 0 n).extract j (j+q)=p.extract j (j+q):=by
 rw[<-Ci];simp_all
theorem Rp(p:fa)(q n:Nat)(x:List _):∀k,k+q<=n+1->ja (p.extract 0 n) q x k=ja p q x k
 |0,_=>rfl
 |k+1,h=>by
  simp[ja];rw[Rp p q n x k (by omega)];unfold iC;rw[Wt p n k q (by omega)]
theorem adw(p:fa)(q k:Nat)(h:k+q<=p.size):(p.extract k (k+q)).size=q:=by simp_all
def nS(P S:fa)(q:Nat)(x:List _):=min (mb P q x) (mb S q x)
theorem afn(P S:fa)(q k:Nat)(U:1<=q)(h:k+q<=P.size):
  yH P S q k=if ja P q (iC P q k) k=0/\lH (iC P q k)=true then nS P S q (iC P q k)else 0:=by
 have Y:=adw P q k h;unfold yH;by_cases K:lH (iC P q k)=true
 ·have A:¬0<kV ⟨#[78]⟩ (P.extract k (k+q)):=by rw[TK];show¬lH (iC P q k)=false;simp_all
  have D:kV (P.extract k (k+q)) (P.extract 0 (k+q-1))=ja P q (iC P q k) k:=by
   unfold kV;rw[CO _ _ K,Y,aW,show min _ P.size-0+1-q=k by omega];exact Rp P q _ _ k (by omega)
  have R:kV (P.extract k (k+q)) P=mb P q (iC P q k):=by
   unfold kV;rw[CO _ _ K,Y];rfl
  have I:kV (P.extract k (k+q)) S=mb S q (iC P q k):=by
   unfold kV;rw[CO _ _ K,Y];rfl
  rw[D,R,I];by_cases H:ja P q (iC P q k) k=0
  ·rw[if_neg (by omega),if_pos ⟨H,K⟩];rfl
  ·simp_all
 ·have A:0<kV ⟨#[78]⟩ (P.extract k (k+q)):=by rw[TK];show lH (iC P q k)=false;simpa using K
  simp_all
def sX(P:fa)(q:Nat)
 |0=>[]
 |k+1=>if ja P q (iC P q k) k=0/\lH (iC P q k)=true then sX P q k++[iC P q k]else sX P q k
theorem B5(P:fa)(q:Nat)(x:List _):∀k,x∈sX P q k↔0<ja P q x k
 |0=>by simp[sX,ja]
 |k+1=>by
  have K:=B5 P q x k;simp[sX,ja];by_cases h:ja P q (iC P q k) k=0/\lH (iC P q k)=true
  ·rw[if_pos h,bF,bm,K];by_cases Y:iC P q k=x
   ·simp_all
   ·rw[if_neg (fun e=>Y e.1)];exact⟨fun e=>e.elim (fun e=>by omega) (fun e=>absurd e.symm Y),fun e=>.inl (by omega)⟩
  ·rw[if_neg h,K];by_cases Y:iC P q k=x/\lH x=true
   ·have H:¬ja P q x k=0:=fun e=>h (by simp_all);omega
   ·rw[if_neg Y];omega
theorem BH(P:fa)(q:Nat):∀k,(sX P q k).Nodup
 |0=>List.nodup_nil
 |k+1=>by
  simp[sX];split
  ·refine List.nodup_append.2 ⟨BH P q k,by simp,?_⟩;intro a K b Y e;rw[bm]at Y;subst Y;subst e;have:=(B5 P q _ k).1 K;omega
  ·exact BH P q k
def jQ(f:List UInt8->Nat)(l:List _):=(l.map f).sum
theorem Pu(f:List _->Nat)(l:List _)(x:List _):jQ f (l++[x])=jQ f l+f x:=by simp[jQ]
theorem abF(f:List _->Nat){l l':List _}(h:l.Perm l'):jQ f l=jQ f l':=(h.map f).sum_nat
theorem Qx(P S:fa)(q:Nat)(Y:1<=q):∀k,k+q<=P.size+1->pP P S q k=jQ (nS P S q) (sX P q k)
 |0,_=>rfl
 |k+1,h=>by
  simp[pP,sX];rw[Qx P S q Y k (by omega),afn P S q k Y (by omega)];split
  ·rw[Pu]
  ·simp
theorem OG(P S:fa)(q:Nat)(D:1<=q)(Y:List _)(K:Y.Nodup)(H:∀x,x∈Y↔0<mb P q x):jQ (nS P S q) Y=mB P S q:=by
 unfold mB;by_cases h:q<=P.size+1
 ·rw[Qx P S q D _ (by omega)];exact abF _ ((List.perm_ext_iff_of_nodup K (BH P q _)).2 fun x=>(H x).trans (B5 P q x _).symm)
 ·have e:P.size+1-q=0:=by omega
  rw[e];have:Y=[]:=by
   cases Y with
   |nil=>rfl
   |cons a l=>
    have:=(H a).1 (by simp);unfold mb at this;rw[e]at this;simp[ja]at this
  rw[this];rfl
theorem Rq(P S:fa)(q:Nat):∀l,jQ (nS P S q) l<=l.length *(S.size+1)
 |[]=>by simp[jQ]
 |x::l=>by
  have K:=Rq P S q l;have Y:nS P S q x<=S.size+1:=bH (Nat.min_le_right _ _) (Ij S q x);have e:jQ (nS P S q) (x::l)=nS P S q x+jQ (nS P S q) l:=by simp[jQ]
  rw[e,aX,Nat.succ_mul];omega
end
section
open RowKit Maps
open Proofs (encStr)
theorem Z6{b n:Nat}{D:aM _}(h:te w b n D):Maps.size D<=n:=by
 obtain⟨es,clock,_,_,Y,rfl⟩:=h;rw[size_eq,length_sorted,bS,cn];exact Y
theorem Z7(P S:fa)(q L n1 Q n2:Nat)(J M:aM Unit)(w:af)(hq:1<=q)(hs:S.size<=1000)(L0:n1<=1001)
  (D:te w L n1 J)(R:te w Q n2 M)(Z:ra J (mb P q))(U:ra M (mb S q)):
  ah Tryz.prog 78 #[.map (some L),.map (some Q)] w fun e w'=>e=.returned (.int .i64 (mB P S q:Int))/\ae w.heap.size w w':=by
 have N:=laid Z;have o:=laid U;clear Z U;have LK:=R.lt;have AB:=Z6 D
 go_enter Tryz.func78,Tryz.ntmps78
 go_wp2_with(first
  |(at_range;refine wpList_range_own _ rfl _ 113 rfl 9 3 Ay bZ _ L n1 _ rfl D ?_;intro w0 z X b)
  |go_in)
 clear b
 go_frame
 go_loopw [5] (fun sv wr=>∃(left:Lit->Bool) (cnt:Nat) (Y:List (List UInt8)),wr.ranges Tryz.prog 9 (plainElem Tryz.prog 3) L w.heap.size n1 J left cnt/\te wr Q n2 M/\Hid (Collected J left Y)/\Y.length+cnt<=Maps.size J/\sv=.int .i64 (jQ (nS P S q) Y:Int)/\ae w.heap.size w wr)
  (fun _ wr=>wr.rangeLeft L w.heap.size)
 case atStart=>exact⟨_,_,[],z,R.kept X (by simp),laid (Collected.start J),by simp,rfl,(au _ _).grown X (ai _) (fun j s=>by cases s)⟩
 case round=>
  obtain⟨left,cnt,Y,W,how,l,E0,rfl,K⟩:=hrel;have S9:jQ (nS P S q) Y<=1002001:=by
   have h1:=Rq P S q Y;have h2:Y.length *(S.size+1)<=1001 *1001:=bp (by omega) (by omega);omega
  go_wp2_with(first
   |(at_next;refine wpList_next_ranges _ rfl _ rfl 9 Ay (plainElem Tryz.prog 3) encStr (bt .i64) (fun key kl hk=>by have⟨x,hx,_⟩:=dE bg hk;exact⟨x,hx⟩) (fun v y g=>by obtain⟨c,rfl,_⟩:=dV bK g;exact⟨c,rfl⟩) L w.heap.size n1 _ _ _ rfl W ?_ ?_)
   |go_in)
  ·intro UH u;have I:jQ (nS P S q) Y=mB P S q:=OG P S q hq Y l.out.1 fun x=>by
    rw[l.out.2 x,u,N.out.2.2 x];simp
   have O:=laid I;clear I;go_wp2
   go_ret
   exact⟨qW (by rw[O.out]),K⟩
  ·intro x c kl yd yp w2 T H G g C B m E t hen;obtain⟨x',ex,rfl,_⟩:=dE bg H;obtain rfl:x=x':=encStr_inj ex;have⟨c',a,k,_⟩:=dV bK g;obtain rfl:c=c':=by simpa using a
   have f:yd=.lit (.int .i64 c):=congrArg Prod.fst k;have Ug:c=(mb P q x:Int):=Hy N.out (by rw[C];exact f);have p:=laid (l.out.step G C);clear t g a k C f ex;have A:te w2 Q n2 M:=how.kept E (by intro e;cases e;omega);have r:ae w.heap.size w w2:=K.grown E K.size (fun j s=>by cases s;exact ai _);have i:=Ij P q x;have h:=Ij S q x;have HK:=laid H;have n:=laid B.left_eq;have d:=laid W.left_eq;clear H G;go_wp2_with(first
    |(at_lookup;refine dW _ rfl _ _ 113 rfl 9 3 .i64 Ay bZ bK (SW _) Q n2 M rfl A _ _ rfl HK.out ?_;intro c2 V ao4)
    |go_in)
   have U:=Hy o.out V;have F:wrap64 ((jQ (nS P S q) Y:Int)+min (mb P q x:Int) c2)=(jQ (nS P S q) (Y++[x]):Int):=by
    rw[Pu,U];have e:min (mb P q x:Int) (mb S q x:Int)=((nS P S q x:Nat):Int):=by unfold nS;omega
    rw[e,dp _ (by omega)];omega
   go_roundw
   case rel=>go_light;exact⟨_,T,Y++[x],B,A,p,by rw[ar];simp;omega,ib F,r⟩
   case measure=>go_light;rw[n.out,d.out];exact m
end
section
open RowKit
def nh(k q st:Int):Bool:=decide (0<=k/\k<=6/\1<=q/\q<=8/\1<=st/\st<=200)
theorem GX(k m q st:Int):kS k m q st=(nh k q st&&decide (k<m)):=by
 unfold kS nh;rw[Bool.eq_iff_iff];simp;omega
theorem GY(k q st:Int)(w:af):
  ah Tryz.prog 45 #[.agg #[.int .i64 k,.int .i64 q,.int .i64 st]] w fun e w'=>e=.returned (.bool (nh k q st))/\ae w.heap.size w w':=by
 have Y:∀o,ae w.heap.size w (w.alloc o):=fun o=>(au _ _).alloc (ai _) o;by_cases K:0<=k
 case neg=>
  go_enter a_,bc
  go_wp2
  go_ret
  exact⟨lx (by unfold nh;rw[decide_eq_false (by omega)]),Y _⟩
 by_cases H:k<=6
 case neg=>
  go_enter a_,bc
  go_wp2
  go_ret
  exact⟨lx (by unfold nh;rw[decide_eq_false (by omega)]),Y _⟩
 by_cases D:1<=q
 case neg=>
  go_enter a_,bc
  go_wp2
  go_ret
  exact⟨lx (by unfold nh;rw[decide_eq_false (by omega)]),Y _⟩
 by_cases R:q<=8
 case neg=>
  go_enter a_,bc
  go_wp2
  go_ret
  exact⟨lx (by unfold nh;rw[decide_eq_false (by omega)]),Y _⟩
 by_cases I:1<=st
 case neg=>
  go_enter a_,bc
  go_wp2
  go_ret
  exact⟨lx (by unfold nh;rw[decide_eq_false (by omega)]),Y _⟩
 by_cases A:st<=200
 case neg=>
  go_enter a_,bc
  go_wp2
  go_ret
  exact⟨lx (by unfold nh;rw[decide_eq_false (by omega)]),Y _⟩
 go_enter a_,bc
 go_wp2
 go_ret
 exact⟨lx (by unfold nh;rw[decide_eq_true (by omega)]),Y _⟩
theorem FI(k q st:Int)(S:fa)(w:af)(Y:S.size<=1000):
  ah Tryz.prog 46 #[.agg #[.int .i64 k,.int .i64 q,.int .i64 st],.string S] w fun e w'=>e=.returned (.bool (decide (k<(S.size:Int))))/\ae w.heap.size w w':=by
 go_wp2
 go_ret
 exact⟨rfl,(au _ _).alloc (ai _) _⟩
theorem agS(len k q m:Nat)(Y:(k:Int) *(q:Int)=(m:Int)):iJ len k q=(len:Int)-(q:Int)+1-(m:Int):=by
 unfold iJ;have:k *q=m:=by omega
 rw[this]
theorem Z8(k q st len:Nat)(w:af)(hk:k<=6)(H:q<=8)(D:len<=1000):
  ah Tryz.prog 75 #[.agg #[.int .i64 (k:Int),.int .i64 (q:Int),.int .i64 (st:Int)],.int .i64 (len:Int)] w fun e w'=>e=.returned (.int .i64 (iJ len k q))/\ae w.heap.size w w':=by
 obtain⟨m,Y,K⟩:∃m:Nat,(k:Int) *(q:Int)=(m:Int)/\m<=48:=⟨k *q,by simp,by have:=bp hk H;omega⟩;rw[agS len k q m Y];go_wp2
 go_ret
 exact⟨rfl,(au _ _).alloc (ai _) _⟩
theorem YL(X:fa)(k q st len b:Nat)(w:af)(hX:X.size<=1000)(hk:k<=6)(B:st<=200)(U:len<=1000)(D:b *st<=X.size)(R:b<=100000):
  ah Tryz.prog 77 #[.agg #[.int .i64 (k:Int),.int .i64 (q:Int),.int .i64 (st:Int)],.string X,.int .i64 (len:Int),.int .i64 (b:Int)] w fun e w'=>e=.returned (.string (X.extract (b *st) (nF len X.size k st b)))/\ae w.heap.size w w':=by
 have Y:nF len X.size k st b=min (b *st+st+len+k) X.size:=rfl;rw[Y];obtain⟨m,K,I⟩:∃m:Nat,b *st=m/\(b:Int) *(st:Int)=(m:Int):=⟨b *st,rfl,by simp⟩;rw[K]at D⊢;clear K Y;have H:min ((m:Int)+(st:Int)+(len:Int)+(k:Int)) (X.size:Int)=((min (m+st+len+k) X.size:Nat):Int):=by omega
 go_wp2
 go_ret
 exact⟨rfl,(au _ _).alloc (ai _) _⟩
theorem Qy(L:List _)(i:Nat)(r:fa×fa×fa)(h:L[i]?=some r):(jY L)[i *3]?=some (.string r.1)/\(jY L)[i *3+1]?=some (.string r.2.1)/\(jY L)[i *3+2]?=some (.string r.2.2):=by
 induction L generalizing i with
 |nil=>simp at h
 |cons a L Y=>
  cases i with
  |zero=>simp at h;subst h;exact⟨rfl,rfl,rfl⟩
  |succ i=>
   have:=Y i (by simp_all);rw[show(i+1) *3=i *3+1+1+1 by omega];exact this
def Fe(w:af)(b:Nat)(k q st:Int):=w.heap[b]?=some (.cells #[.int .i64 k,.int .i64 q,.int .i64 st] 75 (0,0))
def oN(k:Int)(L:List (fa×fa×fa)):Bool:=L.all fun r=>decide (k<(r.2.1.size:Int))
theorem WH(k q st:Int)(L:List (fa×fa×fa))(v:aj)(B:Nat)(w:af)(U:w.ownsRow B 131 3 v L.length (jY L))(hl:L.length<=1000)(d:∀r∈L,r.2.1.size<=1000):
  ah Tryz.prog 59 #[.agg #[.int .i64 k,.int .i64 q,.int .i64 st],v] w fun e w'=>e=.returned (.bool (oN k L))/\ae w.heap.size w w':=by
 obtain⟨p,c,b,A⟩:∃(p:Option Addr) (c:Nat),v=.slice p L.length c/\Hid (∀i (r:fa×fa×fa),L[i]?=some r->∃g,p=some ⟨g,0,none⟩/\g<w.heap.size/\w.cell? ⟨g,i *3,none⟩=some (.string r.1)/\w.cell? ⟨g,i *3+1,none⟩=some (.string r.2.1)/\w.cell? ⟨g,i *3+2,none⟩=some (.string r.2.2)):=by
  rcases U.2 with⟨rfl,O⟩|⟨g,cap,o,rfl,hB,J,s,u,x,y⟩
  ·refine⟨none,0,by rw[O],laid fun i r hr=>?_⟩;have:L=[]:=List.length_eq_zero_iff.1 O;subst this;simp at hr
  ·refine⟨some ⟨g,0,none⟩,cap,rfl,laid fun i r hr=>⟨g,rfl,(aL.1 J).1,?_⟩⟩;have h:=Qy L i r hr;have f:=U.cells (g:=g) rfl;have f0:=f _ _ h.1;have f1:=f _ _ h.2.1;have f2:=f _ _ h.2.2;rw[sI]at f0 f1 f2;exact⟨f0,f1,f2⟩
 subst b;have z:=laid d;have T:=laid (fun(S:fa) (W:af) (h:S.size<=1000)=>FI k q st S W h);clear U d
 go_enter Tryz.func59,Tryz.ntmps59
 go_wp2
 have O:Hid (Fe (w.alloc (.cells #[.int .i64 k,.int .i64 q,.int .i64 st] 75)) w.heap.size k q st):=laid (heap_alloc_new w _)
 go_loopw [9] (fun iv wr=>∃i:Nat,iv=.int .i64 (i:Int)/\i<=L.length/\Hid (oN k (L.take i)=true)/\Fe wr w.heap.size k q st/\ae w.heap.size w wr) (fun iv _=>L.length-(intOf iv).toNat)
 case atStart=>exact⟨0,rfl,ay _,laid rfl,O.out,(au _ _).alloc (ai _) _⟩
 case round=>
  obtain⟨i,rfl,n,M,C,Y⟩:=hrel;clear O;by_cases Z:i<L.length
  ·obtain⟨r,hr⟩:∃r,L[i]?=some r:=⟨L[i],aB Z⟩;obtain⟨g,rfl,J,E,G,j⟩:=A.out i r hr;have Q:=z.out r (cI hr);have I:Hid (L.take (i+1)=L.take i++[r]):=laid (by rw[dD,hr];rfl);have K:=laid (cI hr);have⟨t,rb,a⟩:=r;simp only at E G j Q;have c0:wr.cell? ⟨g,i *3,none⟩=some (.string t):=by rw[Y.cell (p:=⟨g,i *3,none⟩) J];exact E
   have c1:wr.cell? ⟨g,i *3+1,none⟩=some (.string rb):=by rw[Y.cell (p:=⟨g,i *3+1,none⟩) J];exact G
   have c2:wr.cell? ⟨g,i *3+2,none⟩=some (.string a):=by rw[Y.cell (p:=⟨g,i *3+2,none⟩) J];exact j
   have m:g<wr.heap.size:=Nat.lt_of_lt_of_le J Y.size;have X:w.heap.size<wr.heap.size:=(aL.1 C).1;have z0:wr.cell? ⟨w.heap.size,0,none⟩=some (.int .i64 k):=by rw[ak wr _ 0 _ _ _ C];rfl
   have z1:wr.cell? ⟨w.heap.size,1,none⟩=some (.int .i64 q):=by rw[ak wr _ 1 _ _ _ C];rfl
   have z2:wr.cell? ⟨w.heap.size,2,none⟩=some (.int .i64 st):=by rw[ak wr _ 2 _ _ _ C];rfl
   have b1:(i:Int)<(L.length:Int):=by omega
   have b2:(0:Int)<=(i:Int):=by omega
   have x1:aH.wrap ((i:Int)+1)=(i:Int)+1:=aI _ (by omega);have l:=laid C;clear hr E G j C;go_wp2_with fail
   refine(T.out rb _ Q).mono ?_;rintro e w2 ⟨rfl,P⟩;have H:ae wr.heap.size wr w2:=((au _ _).alloc (ai _) _).trans (P.mono (by simp));have F:Fe w2 w.heap.size k q st:=by unfold Fe;rw[H.block _ X];exact l.out
   have D:ae w.heap.size w w2:=Y.trans (H.mono Y.size);clear P H;by_cases R:k<(rb.size:Int)
   ·have N:Hid (oN k (L.take (i+1))=true):=laid (by
     rw[I.out];unfold oN;rw[List.all_append];have:=M.out;unfold oN at this;rw[this];simp[R])
    have V:=laid F;rw[decide_eq_true R];clear F I K M;go_wp2
    go_roundw
    case rel=>go_light;exact⟨i+1,by go_num,by omega,N,V.out,D⟩
    case measure=>go_light;simp[intOf];omega
   ·have N:Hid (oN k L=false):=laid (by
     unfold oN;rw[dv];exact⟨_,K.out,by simpa using R⟩)
    rw[decide_eq_false R];clear F I K M R;go_wp2
    go_ret
    exact⟨lx N.out.symm,D⟩
  ·have N:Hid (oN k L=true):=laid (by
    have:=M.out;rw[bG (by omega)]at this;exact this)
   clear M C;go_wp2
   go_ret
   exact⟨lx N.out.symm,Y⟩
end
section
open RowKit Maps
def jr(P X:fa)(k q st:Nat)(t:Int)
 |0=>[]
 |b+1=>if looked P X k q st t b=true then jr P X k q st t b++[b]else jr P X k q st t b
theorem BT(P X:fa)(k q st:Nat)(t:Int):∀n,(jr P X k q st t n).length<=n
 |0=>ai _
 |n+1=>by
  have:=BT P X k q st t n;simp[jr];split
  ·simp_all
  ·omega
theorem FP{k st:Nat}{t:Int}{b:Nat}(h:looked P X k q st t b=true):jr P X k q st t (b+1)=jr P X k q st t b++[b]:=by
 rw[jr,if_pos h]
theorem OH{k st:Nat}{t:Int}{b:Nat}(h:looked P X k q st t b=false):jr P X k q st t (b+1)=jr P X k q st t b:=by
 rw[jr,if_neg (by simp[h])]
def nG(z:Nat):Value:=.int .i64 (z:Int)
def ST(w:af)(p:Nat)(k q st:Nat):Prop:=w.heap[p]?=some (.cells #[.int .i64 (k:Int),.int .i64 (q:Int),.int .i64 (st:Int)] 75 (0,0))
theorem ST.c0{k st:Nat}(h:ST w p k q st):w.cell? ⟨p,0,none⟩=some (.int .i64 k):=by rw[ak w p 0 _ _ _ h];rfl
theorem ST.c1{k st:Nat}(h:ST w p k q st):w.cell? ⟨p,1,none⟩=some (.int .i64 q):=by rw[ak w p 1 _ _ _ h];rfl
theorem ST.c2{k st:Nat}(h:ST w p k q st):w.cell? ⟨p,2,none⟩=some (.int .i64 st):=by rw[ak w p 2 _ _ _ h];rfl
theorem ST.lt{k st:Nat}(h:ST w p k q st):p<w.heap.size:=by
 have:=ax h.c0;omega
theorem ST.below{k st B:Nat}(h:ST w p k q st)(K:ae B w w')(Y:p<B):ST w' p k q st:=by unfold ST at *;rw[K.block p Y];exact h
theorem ST.new(w:af)(k q st:Nat):ST (w.alloc (.cells #[.int .i64 k,.int .i64 q,.int .i64 st] 75)) w.heap.size k q st:=heap_alloc_new w _
theorem afo:(Tryz.prog.info? 3).map (fun i=>(i.zero,i.size,i.bytes))=some (some (.int .i64 0),1,8):=by kernel_rfl
theorem Cz{B:Nat}{v:aj}{n:Nat}{xs:List _}(h:w.ownsRow B e 1 v n xs)(Y:ae w.heap.size w w'):w'.ownsRow B e 1 v n xs:=
 h.kept (qc Y none) (by cases v.ownBlock<;>simp)
theorem YM{b n B:Nat}{D:aM _}(h:te w b n D)(K:ae B w w')(Y:b<B):te w' b n D:=by
 have⟨es,clock,H,r⟩:=h;exact⟨es,clock,by rw[K.block b Y];exact H,r⟩
theorem x6{B B':Nat}{v:aj}{n:Nat}{xs:List _}(h:w.ownsRow B e 1 v n xs)(R:B'<=B):w.ownsRow B' e 1 v n xs:=by
 refine⟨h.1,?_⟩;rcases h.2 with h'|⟨g,cap,Y,K,D,H⟩
 ·simp_all
 ·exact .inr ⟨g,cap,Y,K,by omega,H⟩
theorem Na(X P:fa)(k q st:Nat)(w:af)(hX:X.size<=200)(hP:P.size<=30)(hk:k<=6)(hq:1<=q)(yO:q<=8)(hs:1<=st)(Vn:st<=200):
  ah Tryz.prog 48 #[.string X,.string P,.agg #[.int .i64 (k:Int),.int .i64 (q:Int),.int .i64 (st:Int)]] w fun e w'=>
   ∃v,e=.returned v/\w'.ownsRow w.heap.size 3 1 v (jr P X k q st (iJ P.size k q) (stretches X.size st)).length ((jr P X k q st (iJ P.size k q) (stretches X.size st)).map nG)/\ae w.heap.size w w':=by
 have⟨i0,hi,qI,pe,pg⟩:=bM afo;have htl: -1000<=iJ P.size k q/\iJ P.size k q<=1000:=by
  unfold iJ;have:=bp hk yO;omega
 have s:=laid (fun b=>xH X.size st b hs);have hsl:stretches X.size st<=400:=by
  unfold stretches;have:=dH (X.size+st-1) st;omega
 generalize hT:iJ P.size k q=t at *;have HT:=laid hT;clear hT
 go_enter Tryz.func48,Tryz.ntmps48
 go_wp2_with fail
 refine(Z8 k q st P.size _ hk yO (by omega)).mono ?_;rintro e w1 ⟨rfl,d⟩;have F:=(ST.new w k q st).below d (by simp);have O:ae w.heap.size w w1:=((au _ _).alloc (ai _) _).trans (d.mono (by simp));clear d;rw[HT.out];clear HT;have c1:=F.c1;go_wp2_with fail
 refine(MV P q _ (by omega) hq (by omega)).mono ?_;rintro e w2 ⟨rfl,⟨n1,D1,L0,Q,G⟩,f⟩;have Z:=F.below f F.lt;have i:ae w.heap.size w w2:=O.trans (f.mono O.size);have Bp:=Z.lt;have n:=Q.lt;clear f O F c1;have HCN:=laid G;clear G;generalize w1.heap.size=b1 at *;go_wp2
 go_loopw [9,10] (fun v num wr=>∃b:Nat,num=.int .i64 (b:Int)/\b<=stretches X.size st/\wr.ownsRow w2.heap.size 3 1 v (jr P X k q st t b).length ((jr P X k q st t b).map nG)/\ae w2.heap.size w2 wr) (fun _ num _=>stretches X.size st-(intOf num).toNat)
 case atStart=>exact⟨0,rfl,ay _,⟨rfl,.inl ⟨rfl,rfl⟩⟩,au _ _⟩
 case round=>
  obtain⟨b,rfl,hb,c,C⟩:=hrel;have ga:=Z.below C Bp;have c0:=ga.c0;have c1:=ga.c1;have c2:=ga.c2;have hll:=BT P X k q st t b;have L:Hid (looked P X k q st t b=(decide (t<=0)||decide (t<=(mB P (X.extract (b *st) (nF P.size X.size k st b)) q:Int)))):=laid rfl;by_cases pd:b<stretches X.size st
  ·have N:=(s.out b).2 pd;have y:=laid (fun W=>YL X k q st P.size b W (by omega) hk Vn (by omega) (by omega) (by omega));obtain⟨m,M,hm⟩:∃m:Nat,b *st=m/\(b:Int) *(st:Int)=(m:Int):=⟨b *st,rfl,by simp⟩;rw[M]at N;have hS:(X.extract (b *st) (nF P.size X.size k st b)).size<=1000:=by rw[aW];omega
   generalize X.extract (b *st) (nF P.size X.size k st b)=S at *;clear M;go_wp2_with fail
   refine(y.out _).mono ?_;rintro e w3 ⟨rfl,l⟩;have U:=Cz c l;have Y:=C.trans (l.mono C.size);clear l y;by_cases ht0:t<=0
   ·have x:Hid (looked P X k q st t b=true):=laid (by rw[L.out,decide_eq_true ht0];rfl);clear L;go_wp2_with(first
     |(at_builtin;refine aY _ rfl _ _ 25 rfl w2.heap.size 3 i0 (.int .i64 0) 1 8 dP hi qI pe pg rfl (by decide) _ _ _ rfl (U.alloc _) ⟨w3.heap.size,0,none⟩ 1 1 [nG b] rfl rfl ?c1 ?c2 ?c3 ?c4 ?c5 ?_)
     |go_in)
    case c1=>
     intro j u J
     match j,J with
     |0,J=>simp at J;subst J;simp[Addr.add,nG]
    case c2=>intro u hu;simp at hu;subst hu;rfl
    case c3=>unfold ao;omega
    case c4=>omega
    case c5=>have:=Y.size;simp;omega
    intro v' wz K D _;have A:ae w2.heap.size w2 wz:=(Y.alloc Y.size _).grown D (by have:=Y.size;simp;omega) (fun j J=>(U.lt j J).1);have R:wz.ownsRow w2.heap.size 3 1 v' (jr P X k q st t (b+1)).length ((jr P X k q st t (b+1)).map nG):=by
     rw[FP x.out,ar,bT];exact K
    obtain⟨g,cap,n',rfl⟩:∃g cap n',v'=.slice (some ⟨g,0,none⟩) n' cap:=by
     rcases K.2 with⟨_,h0⟩|⟨g,cap,cur,hv,_⟩
     ·omega
     ·exact⟨g,cap,_,hv⟩
    clear K D;go_wp2
    go_roundw
    case rel=>go_light;exact⟨b+1,by go_num,by omega,R,A⟩
    case measure=>go_light;simp[intOf];omega
   ·have ajK:=Z.below Y Bp;have d1:=ajK.c1;clear c0 c1 c2;go_wp2_with fail
    refine(MV S q _ hS hq (by omega)).mono ?_;rintro e w4 ⟨rfl,⟨n2,D2,hn2,T,z⟩,o⟩;have I:=Y.trans (o.mono Y.size);have r:=Cz U o;have V:=YM Q I n;have E:=laid z;clear z o;go_wp2_with fail
    refine(Z7 P S q b1 n1 _ n2 D1 D2 _ hq hS L0 V T HCN.out E.out).mono ?_;rintro e w5 ⟨rfl,p⟩;have H:=I.trans (p.mono I.size);have B:=Cz r p;clear p V T E;by_cases TY:t<=(mB P S q:Int)
    ·have x:Hid (looked P X k q st t b=true):=laid (by rw[L.out,decide_eq_true TY,Bool.or_true]);clear L;go_wp2_with(first
      |(at_builtin;refine aY _ rfl _ _ 25 rfl w2.heap.size 3 i0 (.int .i64 0) 1 8 dP hi qI pe pg rfl (by decide) _ _ _ rfl (B.alloc _) ⟨w5.heap.size,0,none⟩ 1 1 [nG b] rfl rfl ?c1 ?c2 ?c3 ?c4 ?c5 ?_)
      |go_in)
     case c1=>
      intro j u J
      match j,J with
      |0,J=>simp at J;subst J;simp[Addr.add,nG]
     case c2=>intro u hu;simp at hu;subst hu;rfl
     case c3=>unfold ao;omega
     case c4=>omega
     case c5=>have:=H.size;simp;omega
     intro v' wz K D _;have A:ae w2.heap.size w2 wz:=(H.alloc H.size _).grown D (by have:=H.size;simp;omega) (fun j J=>(B.lt j J).1);have R:wz.ownsRow w2.heap.size 3 1 v' (jr P X k q st t (b+1)).length ((jr P X k q st t (b+1)).map nG):=by
      rw[FP x.out,ar,bT];exact K
     obtain⟨g,cap,n',rfl⟩:∃g cap n',v'=.slice (some ⟨g,0,none⟩) n' cap:=by
      rcases K.2 with⟨_,h0⟩|⟨g,cap,cur,hv,_⟩
      ·omega
      ·exact⟨g,cap,_,hv⟩
     clear K D;go_wp2
     go_roundw
     case rel=>go_light;exact⟨b+1,by go_num,by omega,R,A⟩
     case measure=>go_light;simp[intOf];omega
    ·have x:Hid (looked P X k q st t b=false):=laid (by rw[L.out,decide_eq_false (by omega),decide_eq_false (by omega)];rfl);clear L;have R:w5.ownsRow w2.heap.size 3 1 u9 (jr P X k q st t (b+1)).length ((jr P X k q st t (b+1)).map nG):=by
      rw[OH x.out];exact B
     go_wp2
     go_roundw
     case rel=>go_light;exact⟨b+1,by go_num,by omega,R,H⟩
     case measure=>go_light;simp[intOf];omega
  ·have a:b=stretches X.size st:=by omega
   have N:=fun h=>pd ((s.out b).1 h);obtain⟨m,M,hm⟩:∃m:Nat,b *st=m/\(b:Int) *(st:Int)=(m:Int):=⟨b *st,rfl,by simp⟩;rw[M]at N;have hmb:m<=100000:=by rw[<-M];exact bH (bp (show b<=400 by omega) Vn) (by omega)
   clear M;have hms:X.size<=m:=Nat.le_of_not_lt N;have HBE:=laid a;clear N a;go_wp2
   go_ret
   exact⟨u9,rfl,by rw[<-HBE.out];exact x6 c (by omega),i.trans (C.mono (by omega))⟩
end
section
open RowKit
theorem Z9(n:Nat):cy n=gL n:=by
 induction n using Nat.strongRecOn with
 |_ n Y=>
  by_cases h:n<10
  ·rw[cy,dif_pos h,vA n (by omega)];rfl
  ·rw[cy,dif_neg h,xW n (by omega),Y _ (by omega)];rfl
theorem CA(z:Nat)(w:af)(K:z<=9999)(Y:iK w):
  ah Tryz.prog 74 #[.int .i64 z] w fun e w'=>e=.returned (.string (str (gL z)))/\ae w.heap.size w w':=by
 refine(Tryz.strconv_Itoa _ (by omega) (by omega) w Y).mono ?_;rintro e w' ⟨rfl,k,os,rfl⟩;rw[Lib.itoa_nonneg,Z9];exact⟨rfl,Lib.below_grow _ w (ai _) k os⟩
def lW(zs:List Nat)
 |0=>[]
 |i+1=>lW zs i++((if i=0 then []else [44])++gL (zs.getD i 0))
theorem Qz(zs:List Nat)(Y:∀z∈zs,z<=9999):∀i,i<=zs.length->(lW zs i).length<=5 *i
 |0,_=>by simp[lW]
 |i+1,h=>by
  have K:=Qz zs Y i (by omega);have H:=kY (zs.getD i 0) (by rw[aA,aB (by omega)];simp_all);simp only[lW];rw[ar,ar];have D:(if i=0 then([]:List UInt8)else [44]).length<=1:=by split<;>decide
  omega
theorem NK{p:aj}{B:Nat}{bs:List _}(h:bC 102 5 B B p bs w)(R:ae w.heap.size w w'):bC 102 5 B B p bs w':=by
 have⟨D,v,I,Y,K⟩:=h;have H:=Lib.BuilderAt.lt ⟨D,v,I,Y,K⟩;exact⟨D,v,by rw[R.block B H];exact I,Cz Y R,K⟩
theorem ie.below{B:Nat}{acc:List _}(h:ie B acc w)(Y:ae w.heap.size w w'):ie B acc w':=
 h.imp (fun h=>NK h Y) (fun h=>NK h Y)
theorem afp(B:Nat)(acc:List _)(w:af)(h:ie B acc w)(R:acc.length+1<=1000000):
  ah Tryz.prog 73 #[.pointer (some ⟨B,0,none⟩),.int .u8 44] w fun e w'=>e=.returned .nilIface/\ie B (acc++[44]) w'/\ae B w w':=by
 refine(MQ B B _ 44 w h (by simp[aJ];omega) (by have:=h.lt;omega)).mono ?_;rintro e w' ⟨D,K,H⟩;have Y:aJ acc++[bt .u8 44]=aJ (acc++[44]):=by simp[aJ]
 simp_all
theorem abG(zs:List Nat)(i:Nat)(z:Nat)(Y:zs.getD i 0=z)(K:0<i):lW zs i++[44]++(str (gL z)).data.toList=lW zs (i+1):=by
 rw[lW,if_neg (by omega),Y,aT];rfl
theorem Z_(zs:List Nat)(z:Nat)(Y:zs.getD 0 0=z):lW zs 0++(str (gL z)).data.toList=lW zs (0+1):=by
 show []++_=[]++(([])++gL _)
 rw[Y];rfl
theorem WI(zs:List Nat)(g cap:Nat)(w:af)(Z:∀z∈zs,z<=9999)(d:zs.length<=400)(L:iK w)
  (B:∀i,i<zs.length->w.cell? ⟨g,i,none⟩=some (.int .i64 ((zs.getD i 0:Nat):Int)))(W:g<w.heap.size):
  ah Tryz.prog 47 #[.slice (some ⟨g,0,none⟩) zs.length cap] w fun e w'=>e=.returned (.string (str (lW zs zs.length)))/\ae w.heap.size w w':=by
 have E:=laid B;have X:=laid Z;have HT:=laid L;clear B Z L
 go_enter Tryz.func47,Tryz.ntmps47
 go_wp2
 go_loopw [8] (fun iv wr=>∃i:Nat,iv=.int .i64 (i:Int)/\i<=zs.length/\ie w.heap.size (lW zs i) wr/\ae w.heap.size w wr) (fun iv _=>zs.length-(intOf iv).toNat)
 case atStart=>exact⟨0,rfl,ay _,ie.new w,(au _ _).alloc (ai _) _⟩
 case round=>
  obtain⟨i,rfl,q,M,K⟩:=hrel;have j:=Qz zs X.out i q;by_cases P:i<zs.length
  ·have Q:wr.cell? ⟨g,i,none⟩=some (.int .i64 ((zs.getD i 0:Nat):Int)):=by rw[K.cell (p:=⟨g,i,none⟩) W];exact E.out i P
   have F:zs.getD i 0<=9999:=by rw[aA,aB P];exact X.out _ (cE _)
   have S:=kY _ F;obtain⟨z,N⟩:∃z,zs.getD i 0=z:=⟨_,rfl⟩;rw[N]at Q F S;have O:=laid N;clear N;by_cases G:0<i
   ·go_wp2_with fail
    refine(afp _ _ _ M (by omega)).mono ?_;rintro e w1 ⟨rfl,J,C⟩;have Y:=K.trans C;clear C;go_wp2_with fail
    refine(CA z _ F (HT.out.on Y)).mono ?_;rintro e w2 ⟨rfl,R⟩;have H:=J.below R;have I:=Y.trans (R.mono Y.size);clear R J;go_wp2_with fail
    refine(x5 _ _ (str (gL z)) _ H (by rw[ar,h_];simp;omega)).mono ?_;rintro e w3 ⟨rfl,D,U⟩;have A:=I.trans U;rw[abG zs i z O.out G]at D;clear U H;go_wp2
    go_roundw
    case rel=>go_light;exact⟨i+1,by go_num,by omega,D,A⟩
    case measure=>go_light;simp[intOf];omega
   ·have T:i=0:=by omega
    subst T;go_wp2_with fail
    refine(CA z _ F (HT.out.on K)).mono ?_;rintro e w2 ⟨rfl,R⟩;have H:=M.below R;have I:=K.trans (R.mono K.size);clear R;go_wp2_with fail
    refine(x5 _ _ (str (gL z)) _ H (by rw[h_];omega)).mono ?_;rintro e w3 ⟨rfl,D,U⟩;have A:=I.trans U;rw[Z_ zs z O.out]at D;clear U H;go_wp2
    go_roundw
    case rel=>go_light;exact⟨0+1,by go_num,by omega,D,A⟩
    case measure=>go_light;simp[intOf];omega
  ·have V:i=zs.length:=by omega
   subst V;go_wp2_with fail
   refine(xR _ _ _ M).mono ?_;rintro e w1 ⟨rfl,C⟩;have Y:=K.trans C;go_wp2
   go_ret
   exact⟨rfl,Y⟩
theorem WJ(w:af):
  ah Tryz.prog 47 #[.slice none 0 0] w fun e w'=>e=.returned (.string (str []))/\ae w.heap.size w w':=by
 go_wp2
 go_loopw [8] (fun iv wr=>iv=.int _ 0/\ie _ [] wr/\ae _ w wr) (fun iv _=>0)
 case atStart=>exact⟨rfl,ie.new w,(au _ _).alloc (ai _) _⟩
 case round=>
  obtain⟨rfl,D,K⟩:=hrel;go_wp2_with fail
  refine(xR _ _ _ D).mono ?_;rintro e w1 ⟨rfl,H⟩;have Y:=K.trans H;go_wp2
  go_ret
  exact⟨rfl,Y⟩
theorem WY(zs:List Nat)(v:aj)(B:Nat)(w:af)(Y:w.ownsRow B 3 1 v zs.length (zs.map nG))(F:∀z∈zs,z<=9999)(C:zs.length<=400)(K:iK w):
  ah Tryz.prog 47 #[v] w fun e w'=>e=.returned (.string (str (lW zs zs.length)))/\ae w.heap.size w w':=by
 rcases Y.2 with⟨rfl,H⟩|⟨g,cap,D,rfl,J,L,R,I,A,U⟩
 ·rw[H];exact WJ w
 ·refine WI zs g cap w F C K (fun i M=>?_) ?_
  ·have h:=(Y.cells (g:=g) rfl) i (nG (zs.getD i 0)) (by simp_all);have e:(⟨g,0,none⟩:Addr).add i=⟨g,i,none⟩:=by
    by_cases H:i=0
    ·simp[Addr.add]
    ·simp[Addr.add,H]
   rw[e]at h;exact h
  ·rcases aK g w.heap.size with h'|h'
   ·exact h'
   ·simp_all
theorem QA(B:Nat)(acc:List _)(c:UInt8)(w:af)(h:ie B acc w)(R:acc.length+1<=1000000):
  ah Tryz.prog 73 #[.pointer (some ⟨B,0,none⟩),.int .u8 c.toNat] w fun e w'=>e=.returned .nilIface/\ie B (acc++[c]) w'/\ae B w w':=by
 refine(MQ B B _ _ w h (by simp[aJ];omega) (by have:=h.lt;omega)).mono ?_;rintro e w' ⟨D,K,H⟩;have Y:aJ acc++[bt .u8 c.toNat]=aJ (acc++[c]):=by simp[aJ]
 simp_all
theorem x_(x:Int)(z:Nat)(K:x=z)(w:af)(H:z<=9999)(Y:iK w):
  ah Tryz.prog 74 #[.int .i64 x] w fun e w'=>e=.returned (.string (str (gL z)))/\ae w.heap.size w w':=by subst K;exact CA z w H Y
theorem aac(s:fa)(w:af)(hs:s.size<=1000)(Q:iK w):
  ah Tryz.prog 127 #[.string s] w fun e w'=>e=.returned (.string (str (nb s)))/\ae w.heap.size w w':=by
 have HT:=laid Q;clear Q
 go_enter Tryz.func127,Tryz.ntmps127
 go_wp2
 go_loopw [4,8] (fun k iv wr=>∃i:Nat,k=.int .i64 ((iH s i).2:Int)/\iv=.int .i64 (i:Int)/\i<=s.size/\ie w.heap.size (iH s i).1 wr/\ae w.heap.size w wr) (fun _ iv _=>s.size-(intOf iv).toNat)
 case atStart=>exact⟨0,rfl,rfl,ay _,ie.new w,(au _ _).alloc (ai _) _⟩
 case round=>
  obtain⟨i,rfl,rfl,b,J,H⟩:=hrel;have Z:=CM s i (by omega);by_cases o:i<s.size
  ·have m:(i:Int)<(s.size:Int):=by omega
   have y:(0:Int)<=(i:Int):=by omega
   have v:=kZ s i o;have d:=laid (@Qu s i);have c:=laid (@Rj s i);have x:=kY ((iH s i).2+1) (by omega);have x1:aH.wrap ((i:Int)+1)=(i:Int)+1:=aI _ (by omega);have x2:aH.wrap (((iH s i).2:Int)+1)=((iH s i).2:Int)+1:=aI _ (by omega);have E:Hid (∀W:af,ae w.heap.size w W->ah Tryz.prog 74 #[.int .i64 (((iH s i).2:Int)+1)] W fun e w'=>e=.returned (.string (str (gL ((iH s i).2+1))))/\ae W.heap.size W w'):=laid (fun W u=>x_ _ ((iH s i).2+1) (by omega) W (by omega) (HT.out.on u));have t:(iH s i).2<=1000:=by omega
   have hO:(iH s i).1.length<=5000:=by omega
   generalize(iH s i).1=O at *;generalize(iH s i).2=n at *;by_cases K:i+1=s.size\/at8 s (i+1)≠at8 s i
   ·have T:=laid (d.out K);clear d c Z;have X:((i:Int)+1==(s.size:Int))=true\/(((i:Int)+1==(s.size:Int))=false/\i+1<s.size/\(((at8 s (i+1)).toNat:Int) != ((at8 s i).toNat:Int))=true):=by
     by_cases N:i+1=s.size
     ·left;simp;omega
     ·right;refine⟨by simp;omega,by omega,?_⟩;rcases K with h|h
      ·exact absurd h N
      ·exact toNat_ne h
    clear K;rcases X with q|⟨q,P,a⟩
    ·go_wp2_with fail
     go_quiet(fail)
     have D:=J.drewN nq;have Y:=Go.below_drewN H nq;go_wp2_with fail
     refine(E.out _ Y).mono ?_;rintro e w2 ⟨rfl,U⟩;have R:=D.below U;have B:=Y.trans (U.mono Y.size);clear U J H D Y E;go_wp2_with fail
     refine(x5 _ _ (str (gL (n+1))) _ R (by rw[h_];omega)).mono ?_;rintro e w3 ⟨rfl,I,L⟩;have C:=B.trans L;clear L R;go_wp2_with fail
     refine(QA _ _ (at8 s i) _ I (by rw[ar];show _+(gL (n+1)).length+1<=_;omega)).mono ?_;rintro e w4 ⟨rfl,A,M⟩;have F:=C.trans M;have S:=laid A;clear M I A;go_wp2
     go_roundw
     case rel=>go_light;exact⟨i+1,ib (by rw[T.out];rfl),by go_num,by omega,by rw[T.out];exact S.out,F⟩
     case measure=>go_light;simp[intOf];omega
    ·have g:(i:Int)+1<(s.size:Int):=by omega
     have l:(0:Int)<=(i:Int)+1:=by omega
     have G:=kZ s (i+1) P;go_wp2_with fail
     go_quiet(fail)
     have D:=J.drewN nq;have Y:=Go.below_drewN H nq;go_wp2_with fail
     refine(E.out _ Y).mono ?_;rintro e w2 ⟨rfl,U⟩;have R:=D.below U;have B:=Y.trans (U.mono Y.size);clear U J H D Y E;go_wp2_with fail
     refine(x5 _ _ (str (gL (n+1))) _ R (by rw[h_];omega)).mono ?_;rintro e w3 ⟨rfl,I,L⟩;have C:=B.trans L;clear L R;go_wp2_with fail
     refine(QA _ _ (at8 s i) _ I (by rw[ar];show _+(gL (n+1)).length+1<=_;omega)).mono ?_;rintro e w4 ⟨rfl,A,M⟩;have F:=C.trans M;have S:=laid A;clear M I A;go_wp2
     go_roundw
     case rel=>go_light;exact⟨i+1,ib (by rw[T.out];rfl),by go_num,by omega,by rw[T.out];exact S.out,F⟩
     case measure=>go_light;simp[intOf];omega
   ·have T:=laid (c.out K);have N:i+1≠s.size:=fun h=>K (.inl h);have z:at8 s (i+1)=at8 s i:=Classical.byContradiction fun h=>K (.inr h);have q:((i:Int)+1==(s.size:Int))=false:=by simp;omega
    have P:i+1<s.size:=by omega
    have g:(i:Int)+1<(s.size:Int):=by omega
    have l:(0:Int)<=(i:Int)+1:=by omega
    have G:=kZ s (i+1) P;have a:=toNat_eq z;have p:=laid J;clear d c N z K Z E;go_wp2_with fail
    go_quiet(fail)
    have Y:=Go.below_drewN H nq;go_wp2
    go_roundw
    case rel=>go_light;exact⟨i+1,ib (by rw[T.out];simp),by go_num,by omega,by rw[T.out];exact p.out.drewN _,Y⟩
    case measure=>go_light;simp[intOf];omega
  ·have j:i=s.size:=by omega
   have r:Hid (str (iH s i).1=str (nb s)):=laid (by unfold nb;rw[j]);clear j Z;generalize(iH s i).1=O at *;generalize(iH s i).2=n at *;go_wp2_with fail
   refine(xR _ _ _ J).mono ?_;rintro e w1 ⟨rfl,f⟩;have V:=H.trans f;go_wp2
   go_ret
   exact⟨lZ r.out,V⟩
def Kp(b:Nat)(w w':af):Prop:=∀(x:Nat) (c:Array aj) (T:TypeId) (fz:Nat×Nat),x≠b->T≠5->w.heap[x]?=some (.cells c T fz)->w'.heap[x]?=some (.cells c T fz)
theorem Kp.refl(b:Nat)(w:af):Kp b w w:=fun _ _ _ _ _ _ h=>h
theorem Kp.trans{b:Nat}{w w' vk:af}(h:Kp b w w')(k:Kp b w' vk):Kp b w vk:=fun x c T fz Y K H=>k x c T fz Y K (h x c T fz Y K H)
theorem Kp.ui{b:Nat}(h:ae w.heap.size w w'):Kp b w w':=fun x c T fz H D Y=>by
 have K:=(aL.1 Y).1;rw[h.block x K];exact Y
theorem Kp.put(b k:Nat)(v:aj)(w:af):Kp b w (w.setCell ⟨b,k,none⟩ v):=fun x c T fz Y D K=>by
 have H:=(aL.1 K).1;have:=(jH w b k v).block x H (fun e=>Y (by simp_all));simp_all
theorem Kp.alloc(b:Nat)(w:af)(o:Obj):Kp b w (w.alloc o):=fun x c T fz H D Y=>by
 have K:=(aL.1 Y).1;rw[aD w _ K];exact Y
theorem Kp.row{b B n:Nat}{v:aj}{xs:List _}(D:w.ownsRow B 5 1 v n xs)(h:w.grownBy w' v.ownBlock):Kp b w w':=fun x c T fz R K Y=>by
 have H:=(aL.1 Y).1;rw[h.block x H (fun e=>xN D Y K e.symm)];exact Y
theorem NL(B b:Nat)(bs:List _)(w:af)(h:bD 102 5 B b bs w):
  ah Tryz.prog 96 #[.pointer (some ⟨b,0,none⟩)] w fun e w'=>e=.returned (.tuple #[])/\bC 102 5 B b (.pointer (some ⟨b,0,none⟩)) bs w'/\ae B w w'/\Kp b w w':=by
 rcases h with h|h
 ·refine(Mw b w h.cell0 h.shape h.frozen0).mono ?_;rintro e w' ⟨rfl,rfl⟩;exact⟨rfl,h.used _,(au B w).setCell h.1 _,Kp.put b 0 _ w⟩
 ·refine(MB b w h.cell0).mono ?_;rintro e w' ⟨rfl,rfl⟩;exact⟨rfl,h,au B _,Kp.refl b _⟩
theorem Xj(B b:Nat)(bs:List aj)(s:fa)(w:af)(h:bD 102 5 B b bs w)(Q:bs.length+s.size<=1000000000)(V:B<=w.heap.size):
  ah Tryz.prog 63 #[.pointer (some ⟨b,0,none⟩),.string s] w fun e w'=>e=.returned (.tuple #[.int .i64 (s.size:Int),.nilIface])/\bD 102 5 B b (bs++du s) w'/\ae B w w'/\Kp b w w':=by
 have⟨i0,X,J,L,M⟩:=bM Dt
 go_enter Tryz.func63,Tryz.ntmps63
 go_wp2_with(go_at_call 96;refine(NL B b bs _ h).mono ?_)
 rintro e w1 ⟨rfl,⟨O,v,I,K,C⟩,D,A⟩;have c1:w1.cell? ⟨b,1,none⟩=some v:=by rw[bR I];rfl
 go_wp2_with(at_builtin;refine Lib.wpList_append_own_string _ rfl _ _ 79 9 rfl B 5 i0 cf bg X J L M _ _ _ rfl K s rfl ?c3 ?c4 ?c5 ?_)
 case c3=>unfold ao;omega
 case c4=>omega
 case c5=>have:=D.size;omega
 intro v' w2 H Y _;have U:b<w1.heap.size:=by
  rcases aK b w1.heap.size with h'|h'
  ·exact h'
  ·simp[cm h']at I
 have R:w2.heap[b]?=some (.cells #[.pointer (some ⟨b,0,none⟩),v] 102 (0,0)):=by
  rw[Y.block b U (fun e=>C e.symm)];exact I
 have d1:w2.cell? ⟨b,1,none⟩=some v:=by rw[bR R];rfl
 have f1:w2.frozen? ⟨b,1,none⟩=false:=dt R 1;obtain⟨N,P,cap,rfl⟩:∃N P cap,v'=.slice N P cap:=by
  rcases H.2 with⟨F,_⟩|⟨g,cap,S,F,_⟩
  ·exact⟨_,_,_,F⟩
  ·exact⟨_,_,_,F⟩
 go_wp2
 go_ret2
 refine⟨rfl,.inr ?_,?_,?_⟩
 ·exact dq (T:=102) (e:=5) O R (bs':=bs++du s) (by simpa[Lib.strCells_length]using H) E_
 ·exact(D.grown Y (by have:=D.size;omega) (fun k hk=>(K.lt k hk).1)).setCell (p:=⟨b,1,none⟩) O _
 ·exact(A.trans (Kp.row K Y)).trans (Kp.put b 1 _ w2)
theorem YN(B b:Nat)(bs:List aj)(c:Int)(w:af)(h:bD 102 5 B b bs w)(O:bs.length+1<=1000000000)(V:B<=w.heap.size):
  ah Tryz.prog 73 #[.pointer (some ⟨b,0,none⟩),.int .u8 c] w fun e w'=>e=.returned .nilIface/\bD 102 5 B b (bs++[.int .u8 c]) w'/\ae B w w'/\Kp b w w':=by
 have⟨i0,S,J,L,M⟩:=bM Dt
 go_enter Tryz.func73,Tryz.ntmps73
 go_wp2_with(go_at_call 96;refine(NL B b bs _ h).mono ?_)
 rintro e w1 ⟨rfl,⟨N,v,I,K,F⟩,D,U⟩;have c1:w1.cell? ⟨b,1,none⟩=some v:=by rw[bR I];rfl
 go_wp2_with(at_builtin;refine aY _ rfl _ _ 79 rfl B 5 i0 (.int .u8 0) 1 1 cf S J L M rfl (by decide) _ _ _ rfl (K.alloc _) ⟨w1.heap.size,0,none⟩ 1 1 [.int .u8 c] rfl rfl ?c1 ?c2 ?c3 ?c4 ?c5 ?_)
 case c1=>
  intro j u A
  match j,A with
  |0,A=>simp at A;subst A;simp[Addr.add]
 case c2=>intro u P;simp at P;subst P;rfl
 case c3=>unfold ao;omega
 case c4=>omega
 case c5=>have:=D.size;simp;omega
 intro v' w2 H Y _;have C:b<w1.heap.size:=by
  rcases aK b w1.heap.size with h'|h'
  ·exact h'
  ·simp[cm h']at I
 have R:w2.heap[b]?=some (.cells #[.pointer (some ⟨b,0,none⟩),v] 102 (0,0)):=by
  rw[Y.block b (by simp;omega) (fun e=>F e.symm),Lib.alloc_old w1 _ b C];exact I
 have d1:w2.cell? ⟨b,1,none⟩=some v:=by rw[bR R];rfl
 have f1:w2.frozen? ⟨b,1,none⟩=false:=dt R 1;obtain⟨g,cap,rfl⟩:∃g cap,v'=.slice (some ⟨g,0,none⟩) (bs.length+1) cap:=by
  rcases H.2 with⟨_,Z⟩|⟨g,cap,Q,X,_⟩
  ·omega
  ·exact⟨g,cap,X⟩
 go_wp2
 go_ret
 refine⟨rfl,.inr ?_,?_,?_⟩
 ·exact dq (T:=102) (e:=5) N R (bs':=bs++[.int .u8 c]) (by simpa using H) E_
 ·exact((D.alloc (by have:=D.size;omega) _).grown Y (by have:=D.size;simp;omega) (fun k hk=>(K.lt k hk).1)).setCell (p:=⟨b,1,none⟩) N _
 ·exact((U.trans (Kp.alloc b w1 _)).trans (Kp.row (K.alloc _) Y)).trans (Kp.put b 1 _ w2)
theorem Pv(B:Nat)(acc:List _)(x:fa)(w:af)(h:ie B acc w)(R:acc.length+x.size<=1000000000):
  ah Tryz.prog 63 #[.pointer (some ⟨B,0,none⟩),.string x] w fun e w'=>e=.returned (.tuple #[.int .i64 x.size,.nilIface])/\ie B (acc++x.data.toList) w'/\ae B w w'/\Kp B w w':=by
 refine(Xj B B _ x w h (by simp[aJ];omega) (by have:=h.lt;omega)).mono ?_;rintro e w' ⟨D,Y,K,H⟩;rw[Pn]at Y;simp_all
theorem vS(B:Nat)(acc:List _)(c:UInt8)(w:af)(h:ie B acc w)(U:acc.length+1<=1000000000):
  ah Tryz.prog 73 #[.pointer (some ⟨B,0,none⟩),.int .u8 c.toNat] w fun e w'=>e=.returned .nilIface/\ie B (acc++[c]) w'/\ae B w w'/\Kp B w w':=by
 refine(YN B B _ _ w h (by simp[aJ];omega) (by have:=h.lt;omega)).mono ?_;rintro e w' ⟨R,K,H,D⟩;have Y:aJ acc++[bt .u8 c.toNat]=aJ (acc++[c]):=by simp[aJ]
 simp_all
def mS(xs:List ByteArray):=Lib.join (xs.map (·.data.toList)) [9]
def Vo(x:fa):Value:=.string x
theorem FC(B V:Nat)(acc:List UInt8)(xs:List fa)(v:aj)(w:af)(H:ie B acc w)(Y:w.ownsRow V 9 1 v xs.length (xs.map Vo))(f:1<=xs.length)(l:xs.length<=100)(d:acc.length+(mS xs).length+1<=1000000000):
  ah Tryz.prog 91 #[.pointer (some ⟨B,0,none⟩),v] w fun e w'=>e=.returned (.tuple #[])/\ie B (acc++mS xs++[10]) w'/\ae B w w'/\Kp B w w':=by
 rcases Y.2 with⟨_,z⟩|⟨g,cap,Z,rfl,G,C,L,W,M,N⟩
 ·omega
 have T:Hid (ah Tryz.prog 110 _ w fun e w'=>e=.returned (.string (str (mS xs)))/\ae w.heap.size w w'):=laid (by
  refine(Tryz.strings_Join g 0 cap xs ⟨#[9]⟩ w (fun j x q=>?_) (aL.1 C).1 (by omega) L (by unfold mS at d;show(Lib.join _ [9]).length<=_;omega)).mono ?_
  ·have h:=(Y.cells (g:=g) rfl) j (Vo x) (by rw[dy,q];rfl);rw[sI]at h;rw[Nat.zero_add];exact h
  ·rintro e w' ⟨rfl,E⟩;exact⟨rfl,E⟩)
 clear Y C M N
 go_enter Tryz.func91,Tryz.ntmps91
 go_wp2_with fail
 refine T.out.mono ?_;rintro e w1 ⟨rfl,K⟩;have I:=H.below K;have O:Kp B w w1:=Kp.ui K;have D:ae B w w1:=K.mono (by have:=H.lt;omega);clear K T H;go_wp2_with fail
 refine(Pv _ _ (str (mS xs)) _ I (by rw[h_];omega)).mono ?_;rintro e w2 ⟨rfl,A,F,P⟩;have Q:=O.trans P;have R:=D.trans F;go_wp2_with fail
 refine(vS _ _ 10 _ A (by rw[ar];show _+(mS xs).length+1<=_;omega)).mono ?_;rintro e w3 ⟨rfl,U,J,S⟩;have X:Hid (ie B (acc++mS xs++[10]) w3/\ae B w w3/\Kp B w w3):=laid ⟨U,R.trans J,Q.trans S⟩;go_wp2
 go_end0
 exact⟨rfl,X.out⟩
theorem Rr:(Tryz.prog.info? 9).map (fun i=>(i.zero,i.size,i.bytes))=some (some (.string ⟨#[]⟩),1,16):=by kernel_rfl
theorem QB:∀l m,(∀x∈l,x.length<=m)->(Lib.join l [9]).length<=l.length *(m+1)
 |[],m,_=>by simp[Lib.join]
 |[a],m,h=>by have:=h a (by simp);simp[Lib.join];omega
 |a::b::l,m,h=>by
  have K:=h a (by simp);have H:=QB (b::l) m (fun x Y=>h x (by simp[Y]));have e:Lib.join (a::b::l) [9]=a++([9]++Lib.join (b::l) [9]):=by simp[Lib.join]
  rw[e,ar,ar];simp at *;rw[Nat.add_mul _ 1 _];omega
theorem Rs(xs:List _)(m:Nat)(h:∀x∈xs,x.size<=m):(mS xs).length<=xs.length *(m+1):=by
 have:=QB _ m (fun x Y=>by
  rw[bU]at Y;obtain⟨y,K,rfl⟩:=Y;exact h y K)
 rw[bS]at this;exact this
def r5(rn rb rm:fa):Value:=.agg #[.string rn,.string rb,.string rm]
structure Pl where
 rn:fa
 rb:fa
 rm:fa
 fl:Bool
 st:Nat
 er:Nat
 lt:fa
 df:fa
def Pl.val(p:Pl):Value:=.agg #[.string p.rn,.string p.rb,.string p.rm,.bool p.fl,.int .i64 (p.st:Int),.int .i64 (p.er:Int),.string p.lt,.string p.df]
def uS(fl first:Bool):=(if fl then 16 else 0)+(if first then 0 else 256)
theorem abH(p:Pl)(w:af):
  ah Tryz.prog 241 #[p.val] w fun e w'=>e=.returned (r5 p.rn p.rb p.rm)/\ae w.heap.size w w':=by
 unfold Pl.val r5;have⟨rn,rb,rm,fl,st,er,lt,df⟩:=p;simp only;go_wp2
 refine bu (c_ rfl _ _ _ _ _ _ _ rfl (dU _ _ _) c8 rfl IW) rfl ?_;exact⟨rfl,((au _ _).alloc (ai _) _).alloc (by simp) _⟩
theorem abI(p:Pl)(first:Bool)(w:af):
  ah Tryz.prog 240 #[p.val,.bool first] w fun e w'=>e=.returned (.int .i64 (uS p.fl first:Int))/\ae w.heap.size w w':=by
 unfold Pl.val;have⟨rn,rb,rm,fl,st,er,lt,df⟩:=p;simp only;cases fl<;>cases first
 all_goals
  go_wp2
  go_ret
  exact⟨rfl,(au _ _).alloc (ai _) _⟩
theorem abJ(rn rb rm:fa)(w:af):
  ah Tryz.prog 239 #[r5 rn rb rm] w fun e w'=>e=.returned (r5 rn rb rm)/\ae w.heap.size w w':=by
 unfold r5;go_wp2
 refine bu (c_ rfl _ _ _ _ _ _ _ rfl (dU _ _ _) c8 rfl IW) rfl ?_;exact⟨rfl,((au _ _).alloc (ai _) _).alloc (by simp) _⟩
theorem abK(rn rb rm:fa)(first:Bool)(w:af):
  ah Tryz.prog 238 #[r5 rn rb rm,.bool first] w fun e w'=>e=.returned (.int .i64 4)/\ae w.heap.size w w':=by
 go_wp2
 go_ret
 exact⟨rfl,(au _ _).alloc (ai _) _⟩
theorem abL(a b c:fa)(w:af):(cx (.iface 155 (.agg #[.string a,.string b,.string c])) 136 158 true).run Tryz.prog w=.ok (.tuple #[.agg #[.string ⟨#[]⟩,.string ⟨#[]⟩,.string ⟨#[]⟩,.bool false,.int .i64 0,.int .i64 0,.string ⟨#[]⟩,.string ⟨#[]⟩],.bool false]) w:=by kernel_rfl
theorem abM(a b c:fa)(w:af):(cx (.iface 155 (.agg #[.string a,.string b,.string c])) 136 155 true).run Tryz.prog w=.ok (.tuple #[.agg #[.string a,.string b,.string c],.bool true]) w:=by kernel_rfl
theorem abN(p:Pl)(w:af):(cx (.iface 158 p.val) 136 158 true).run Tryz.prog w=.ok (.tuple #[p.val,.bool true]) w:=by kernel_rfl
theorem Wu(B:Nat)(acc:List UInt8)(XN rn rb rm:fa)(first:Bool)(w:af)(f:ie B acc w)(n:rn.size<=1000)(h2:rb.size<=1000)(h3:rm.size<=1000)(hl:acc.length<=500000000)(Z:iK w):
  ah Tryz.prog 93 #[.pointer (some ⟨B,0,none⟩),.string XN,.iface 155 (r5 rn rb rm),.bool first] w fun e w'=>e=.returned (.tuple #[])/\ie B (acc++mS [rn,str (gL 4),str [42],str [48],str [42],str [45],str [45],rb,rm]++[10]) w'/\ae B w w'/\Kp B w w':=by
 have HT:=laid Z;have p:=laid (fun W:af=>abK rn rb rm first W);have v:=laid (abJ rn rb rm w);clear Z;unfold r5 at *
 go_enter Tryz.func93,dM
 go_wp2_with fail
 refine v.out.mono ?_;rintro e w1 ⟨rfl,L⟩;have M:=f.below L;have k:Kp B w w1:=Kp.ui L;have N:ae B w w1:=L.mono (by have:=f.lt;omega);have y:=laid (HT.out.on L);clear L v f HT;go_wp2_with fail
 obtain⟨i0,hi,qI,pe,pg⟩:=bM Rr;obtain⟨w2,Q,pj,a,T,V,O,i,m⟩:∃(w2:af) (Q:Nat),w1.alloc (.cells #[.string rn,.string rb,.string rm] 131)=w2/\w1.heap.size=Q/\w2.heap[Q]?=some (.cells #[.string rn,.string rb,.string rm] 131 (0,0))/\ie B acc w2/\ae B w w2/\Kp B w w2/\iK w2:=by
  have hb:ae w1.heap.size w1 (w1.alloc (.cells #[.string rn,.string rb,.string rm] 131)):=(au _ _).alloc (ai _) _;exact⟨_,_,rfl,rfl,heap_alloc_new w1 _,M.below hb,N.trans (hb.mono (by have:=M.lt;omega)),k.trans (Kp.ui hb),y.out.on hb⟩
 rw[pj,a];clear pj a M N k y;have a0:w2.cell? ⟨Q,0,none⟩=some (.string rn):=by rw[ak w2 _ 0 _ _ _ T];rfl
 have L1:Q<w2.heap.size:=(aL.1 T).1;have s:=laid T;have q:=laid V;have c:Hid (∀W:af,ae w2.drew.heap.size w2.drew W->ah Tryz.prog 74 #[.int .i64 4] W fun e w'=>e=.returned (.string (str (gL 4)))/\ae W.heap.size W w'):=laid fun W b=>x_ 4 4 rfl W (by omega) (m.on (w':=W) ⟨b.os,b.tape,b.output,b.size,b.block⟩);obtain⟨G,d⟩:∃D,D=str (gL 4):=⟨_,rfl⟩;rw[<-d]at c;have z:=laid d;clear d T V m
 go_region_held3 (fun w'=>w'.cell? ⟨Q,0,none⟩=some (.string rn))
  (first
   |go_keep
   |(rw[S.cell (by have:=K.size;simp at this⊢;omega),K.cell (by first|omega|(simp;omega))];assumption)
   |(rw[K.cell (by first|omega|(simp;omega))];assumption))
  (first
   |(go_at_call 238;refine(p.out _).mono ?_;rintro e w' ⟨rfl,K⟩)
   |(go_at_call 74;refine(c.out _ K).mono ?_;rintro e F ⟨rfl,S⟩))
 have A:ae w2.heap.size w2 (F.alloc (.cells #[.string rn,.string G] 9)):=by
  have n:ae w2.heap.size w2 w':=⟨K.os,K.tape,K.output,K.size,K.block⟩;have h2:=n.trans (S.mono n.size);exact h2.alloc h2.size _
 have R:(F.alloc (.cells #[.string rn,.string G] 9)).ownsRow w2.heap.size 9 1 (.slice (some ⟨F.heap.size,0,none⟩) 2 2) 2 [.string rn,.string G]:=
  ⟨rfl,.inr ⟨F.heap.size,2,_,rfl,by have n:=K.size;have h2:=S.size;simp at n;omega,heap_alloc_new F _,ai _,by unfold ao;omega,rfl,rfl⟩⟩
 obtain⟨w4,tG⟩:∃w4:af,F.alloc (.cells #[.string rn,.string G] 9)=w4:=⟨_,rfl⟩;rw[tG]at A R⊢;generalize F.heap.size=g4 at *;clear tG K S c p;have l:w2.heap.size<=w4.heap.size:=A.size;have q1:=abL rn rb rm;have q2:=abM rn rb rm;clear a0;go_wp2_with(first
  |(at_builtin;refine aY _ rfl _ _ 65 rfl w2.heap.size 9 i0 (.string ⟨#[]⟩) 1 16 b_ hi qI pe pg rfl (by decide) _ _ _ rfl ((R.alloc _).alloc _) ⟨w4.heap.size+1,0,none⟩ 5 5 [.string ⟨#[42]⟩,.string ⟨#[48]⟩,.string ⟨#[42]⟩,.string ⟨#[45]⟩,.string ⟨#[45]⟩] rfl rfl ?c1 ?c2 ?c3 ?c4 ?c5 ?_)
  |go_in)
 case c1=>
  intro j u Y
  match j,Y with
  |0,Y=>simp at Y;subst Y;simp[Addr.add,go_sem]
  |1,Y=>simp at Y;subst Y;simp[Addr.add,go_sem]
  |2,Y=>simp at Y;subst Y;simp[Addr.add,go_sem]
  |3,Y=>simp at Y;subst Y;simp[Addr.add,go_sem]
  |4,Y=>simp at Y;subst Y;simp[Addr.add,go_sem]
 case c2=>intro u hu;simp at hu;rcases hu with rfl|rfl|rfl|rfl|rfl<;>rfl
 case c3=>unfold ao;omega
 case c4=>omega
 case c5=>simp;omega
 intro v5 E I H _;have U:ae w2.heap.size w2 E:=((A.alloc A.size _).alloc (by simp;omega) _).grown H (by simp;omega) (fun j Y=>(R.lt j Y).1);obtain⟨g5,DZ,rfl⟩:∃g cap,v5=.slice (some ⟨g,0,none⟩) 7 cap:=by
  rcases I.2 with⟨_,h0⟩|⟨gg,cap,cur,hv,_⟩
  ·omega
  ·exact⟨gg,cap,hv⟩
 clear H R A q1 q2 l;have P:E.heap[Q]?=some (.cells #[.string rn,.string rb,.string rm] 131 (0,0)):=by rw[U.block Q L1];exact s.out
 have a1:E.cell? ⟨Q,1,none⟩=some (.string rb):=by rw[ak E _ 1 _ _ _ P];rfl
 have a2:E.cell? ⟨Q,2,none⟩=some (.string rm):=by rw[ak E _ 2 _ _ _ P];rfl
 have l:w2.heap.size<=E.heap.size:=U.size;clear P s;go_wp2_with(first
  |(at_builtin;refine aY _ rfl _ _ 65 rfl w2.heap.size 9 i0 (.string ⟨#[]⟩) 1 16 b_ hi qI pe pg rfl (by decide) _ _ _ rfl (I.alloc _) ⟨E.heap.size,0,none⟩ 2 2 [.string rb,.string rm] rfl rfl ?c1 ?c2 ?c3 ?c4 ?c5 ?_)
  |go_in)
 case c1=>
  intro j u Y
  match j,Y with
  |0,Y=>simp at Y;subst Y;simp[Addr.add,go_sem]
  |1,Y=>simp at Y;subst Y;simp[Addr.add,go_sem]
 case c2=>intro u hu;simp at hu;rcases hu with rfl|rfl<;>rfl
 case c3=>unfold ao;omega
 case c4=>omega
 case c5=>simp;omega
 intro v6 w6 C H _;have J:ae w2.heap.size w2 w6:=(U.alloc U.size _).grown H (by simp;omega) (fun j Y=>(I.lt j Y).1);obtain⟨g6,ao5,rfl⟩:∃g cap,v6=.slice (some ⟨g,0,none⟩) 9 cap:=by
  rcases C.2 with⟨_,h0⟩|⟨gg,cap,cur,hv,_⟩
  ·omega
  ·exact⟨gg,cap,hv⟩
 have HW:=laid (FC B w2.heap.size acc [rn,G,str [42],str [48],str [42],str [45],str [45],rb,rm] _ w6 (q.out.below J) C (by simp) (by simp) (by
  have h:=Rs [rn,G,str [42],str [48],str [42],str [45],str [45],rb,rm] 1000 (fun x hx=>by
   have hd:=kY 4 (by omega);have hd4:G.size<=1000:=by rw[z.out,h_];omega
   simp at hx;rcases hx with rfl|rfl|rfl|rfl|rfl|rfl|rfl|rfl|rfl<;>first|assumption|(rw[h_];simp))
  simp at h;omega))
 have o:=laid (O.trans (J.mono (by have:=q.out.lt;omega)));have r:=laid (i.trans (Kp.ui J));clear H I U l a1 a2 C J q O i;go_wp2_with fail
 refine HW.out.mono ?_;rintro e w7 ⟨rfl,X,t,Vp⟩;have HF:Hid (ie B (acc++mS [rn,str (gL 4),str [42],str [48],str [42],str [45],str [45],rb,rm]++[10]) w7/\ae B w w7/\Kp B w w7):=laid ⟨by rw[<-z.out];exact X,o.out.trans t,r.out.trans Vp⟩;clear X t Vp o r HW z;go_wp2
 go_end0
 exact⟨rfl,HF.out⟩
theorem Wv(B:Nat)(acc:List UInt8)(XN:fa)(p:Pl)(first:Bool)(w:af)(L2:ie B acc w)(h0:XN.size<=1000)(v:p.rn.size<=1000)(n:p.rb.size<=1000)(h3:p.rm.size<=1000)(h4:p.lt.size<=10000)(h5:p.df.size<=10000)(h6:p.st<=1000)(h7:p.er<=1000)(hl:acc.length<=500000000)(b:iK w):
  ah Tryz.prog 93 #[.pointer (some ⟨B,0,none⟩),.string XN,.iface 158 p.val,.bool first] w fun e w'=>e=.returned (.tuple #[])/\ie B (acc++mS [p.rn,str (gL (uS p.fl first)),XN,str (gL (p.st+1)),p.lt,str (gL p.er),p.df,p.rb,p.rm]++[10]) w'/\ae B w w'/\Kp B w w':=by
 have HT:=laid b;have Vq:=laid (fun W:af=>abI p first W);have Vr:=laid (abH p w);have q1:=abN p;clear b;unfold r5 Pl.val at *;have hF:uS p.fl first<=272:=by unfold uS;cases p.fl<;>cases first<;>decide
 generalize hFF:uS p.fl first=F at *
 obtain⟨rn,rb,rm,fl,st,er,lt,df⟩:=p;simp only at *;clear hFF
 go_enter Tryz.func93,dM
 go_wp2_with fail
 refine Vr.out.mono ?_;rintro e w1 ⟨rfl,X⟩;have Z:=L2.below X;have Vs:Kp B w w1:=Kp.ui X;have E:ae B w w1:=X.mono (by have:=L2.lt;omega);have Vt:=laid (HT.out.on X);clear X Vr L2 HT;go_wp2_with fail
 obtain⟨i0,hi,qI,pe,pg⟩:=bM Rr;obtain⟨w2,f,pj,Fa,l,y,G,Vu,L3⟩:∃(w2:af) (f:Nat),w1.alloc (.cells #[.string rn,.string rb,.string rm] 131)=w2/\w1.heap.size=f/\w2.heap[f]?=some (.cells #[.string rn,.string rb,.string rm] 131 (0,0))/\ie B acc w2/\ae B w w2/\Kp B w w2/\iK w2:=by
  have hb:ae w1.heap.size w1 (w1.alloc (.cells #[.string rn,.string rb,.string rm] 131)):=(au _ _).alloc (ai _) _;exact⟨_,_,rfl,rfl,heap_alloc_new w1 _,Z.below hb,E.trans (hb.mono (by have:=Z.lt;omega)),Vs.trans (Kp.ui hb),Vt.out.on hb⟩
 rw[pj,Fa];clear pj Fa Z E Vs Vt;have a0:w2.cell? ⟨f,0,none⟩=some (.string rn):=by rw[ak w2 _ 0 _ _ _ l];rfl
 have L1:f<w2.heap.size:=(aL.1 l).1;have Vv:=laid l;have a:=laid y;have L4:Hid (∀W:af,ae w2.drew.heap.size w2.drew W->ah Tryz.prog 74 #[.int .i64 (F:Int)] W fun e w'=>e=.returned (.string (str (gL F)))/\ae W.heap.size W w'):=laid fun W I=>x_ (F:Int) F rfl W (by omega) (L3.on (w':=W) ⟨I.os,I.tape,I.output,I.size,I.block⟩);have L5:=laid L3;obtain⟨d,L6⟩:∃D,D=str (gL F):=⟨_,rfl⟩;rw[<-L6]at L4;have L7:=laid L6;clear L6 l y L3
 go_region_held3 (fun w'=>w'.cell? ⟨f,0,none⟩=some (.string rn))
  (first
   |go_keep
   |(rw[C.cell (by have:=Y.size;simp at this⊢;omega),Y.cell (by first|omega|(simp;omega))];assumption)
   |(rw[Y.cell (by first|omega|(simp;omega))];assumption))
  (first
   |(go_at_call 240;refine(Vq.out _).mono ?_;rintro e w' ⟨rfl,Y⟩)
   |(go_at_call 74;refine(L4.out _ Y).mono ?_;rintro e U ⟨rfl,C⟩))
 have M:ae w2.heap.size w2 (U.alloc (.cells #[.string rn,.string d] 9)):=by
  have v:ae w2.heap.size w2 w':=⟨Y.os,Y.tape,Y.output,Y.size,Y.block⟩;have n:=v.trans (C.mono v.size);exact n.alloc n.size _
 have J:(U.alloc (.cells #[.string rn,.string d] 9)).ownsRow w2.heap.size 9 1 (.slice (some ⟨U.heap.size,0,none⟩) 2 2) 2 [.string rn,.string d]:=
  ⟨rfl,.inr ⟨U.heap.size,2,_,rfl,by have v:=Y.size;have n:=C.size;simp at v;omega,heap_alloc_new U _,ai _,by unfold ao;omega,rfl,rfl⟩⟩
 obtain⟨w4,tG⟩:∃w4:af,U.alloc (.cells #[.string rn,.string d] 9)=w4:=⟨_,rfl⟩;rw[tG]at M J⊢;generalize U.heap.size=g4 at *;clear tG Y C L4 Vq;have L8:w2.heap.size<=w4.heap.size:=M.size;clear a0;go_wp2_with fail
 obtain⟨R,K,y9,s,P,L,H⟩:∃(R:af) (K:Nat),w4.alloc (.cells #[.string rn,.string rb,.string rm,.bool fl,.int .i64 (st:Int),.int .i64 (er:Int),.string lt,.string df] 158)=R/\w4.heap.size=K/\R.heap[K]?=some (.cells #[.string rn,.string rb,.string rm,.bool fl,.int .i64 (st:Int),.int .i64 (er:Int),.string lt,.string df] 158 (0,0))/\R.ownsRow w2.heap.size 9 1 (.slice (some ⟨g4,0,none⟩) 2 2) 2 [.string rn,.string d]/\ae w2.heap.size w2 R:=
  ⟨_,_,rfl,rfl,heap_alloc_new w4 _,J.alloc _,M.alloc M.size _⟩
 rw[y9,s];have ajL:w2.heap.size<=g4:=by
  rcases J.2 with⟨h,_⟩|⟨g,cap,cur,h,h',_⟩
  ·cases h
  ·cases h;exact h'
 clear y9 s J M L8 q1;have O:K<R.heap.size:=(aL.1 P).1;have p4:R.cell? ⟨K,4,none⟩=some (.int .i64 (st:Int)):=by rw[ak R _ 4 _ _ _ P];rfl
 have p5:R.cell? ⟨K,5,none⟩=some (.int .i64 (er:Int)):=by rw[ak R _ 5 _ _ _ P];rfl
 have p6:R.cell? ⟨K,6,none⟩=some (.string lt):=by rw[ak R _ 6 _ _ _ P];rfl
 have p7:R.cell? ⟨K,7,none⟩=some (.string df):=by rw[ak R _ 7 _ _ _ P];rfl
 have x1:aH.wrap ((st:Int)+1)=(st:Int)+1:=aI _ (by omega);have un:∀{W:af},ae R.drew.heap.size R.drew W->ae R.heap.size R W:=fun I=>⟨I.os,I.tape,I.output,I.size,I.block⟩;have HP:Hid (∀W:af,ae R.drew.heap.size R.drew W->W.cell? ⟨K,4,none⟩=some (.int .i64 (st:Int))/\W.cell? ⟨K,5,none⟩=some (.int .i64 (er:Int))/\W.cell? ⟨K,6,none⟩=some (.string lt)/\W.cell? ⟨K,7,none⟩=some (.string df)):=laid fun W I=>⟨by rw[(un I).cell (p:=⟨K,4,none⟩) O];exact p4,by rw[(un I).cell (p:=⟨K,5,none⟩) O];exact p5,by rw[(un I).cell (p:=⟨K,6,none⟩) O];exact p6,by rw[(un I).cell (p:=⟨K,7,none⟩) O];exact p7⟩;obtain⟨D1,L9⟩:∃D,D=str (gL (st+1)):=⟨_,rfl⟩;obtain⟨D2,L_⟩:∃D,D=str (gL er):=⟨_,rfl⟩;have k:=laid L9;have i:=laid L_;have Vw:Hid (∀W:af,W=R.drew\/ae R.drew.heap.size R.drew W->ah Tryz.prog 74 #[.int .i64 ((st:Int)+1)] W fun e w'=>e=.returned (.string D1)/\ae W.heap.size W w'):=laid fun W I=>by
  rw[L9];refine x_ _ (st+1) (by omega) W (by omega) (L5.out.on ?_);rcases I with rfl|I
  ·exact Go.below_drewN H 1
  ·exact H.trans ((un I).mono H.size)
 have Vx:Hid (∀W:af,ae R.drew.heap.size R.drew W->ah Tryz.prog 74 #[.int .i64 (er:Int)] W fun e w'=>e=.returned (.string D2)/\ae W.heap.size W w'):=laid fun W I=>by
  rw[L_];exact x_ _ er rfl W (by omega) (L5.out.on (H.trans ((un I).mono H.size)))
 have Br:Hid (∀(W:af),ae R.drew.heap.size R.drew W->∀o:Obj,(W.alloc o).ownsRow w2.heap.size 9 1 (.slice (some ⟨g4,0,none⟩) 2 2) 2 [.string rn,.string d]):=laid fun W I o=>(uj L (un I)).alloc _;have Bs:Hid (∀(W:af),ae R.drew.heap.size R.drew W->∀o:Obj,w2.heap.size<=(W.alloc o).heap.size):=laid fun W I o=>by have v:=H.size;have n:=(un I).size;simp;omega
 have t:=laid H;have Bt:Hid (∀(W1 V:af) (o:Obj),ae R.drew.heap.size R.drew W1->(W1.alloc o).grownBy V (some g4)->V.cell? ⟨K,4,none⟩=some (.int .i64 (st:Int))/\V.cell? ⟨K,5,none⟩=some (.int .i64 (er:Int))/\V.cell? ⟨K,6,none⟩=some (.string lt)/\V.cell? ⟨K,7,none⟩=some (.string df)):=laid fun W1 V o I hg=>by
  have e1:V.heap[K]?=some (.cells #[.string rn,.string rb,.string rm,.bool fl,.int .i64 (st:Int),.int .i64 (er:Int),.string lt,.string df] 158 (0,0)):=by
   have hs:=(un I).size;rw[hg.block K (by simp;omega) (fun e=>xN L P (by decide) e.symm),aD W1 _ (by omega),(un I).block K O];exact P
  exact⟨by rw[ak V _ 4 _ _ _ e1];rfl,by rw[ak V _ 5 _ _ _ e1];rfl,by rw[ak V _ 6 _ _ _ e1];rfl,by rw[ak V _ 7 _ _ _ e1];rfl⟩
 clear L9 L_ L H P un
 go_region_held3 (fun w'=>w'.cell? ⟨K,4,none⟩=some (.int .i64 (st:Int))/\w'.cell? ⟨K,5,none⟩=some (.int .i64 (er:Int))/\w'.cell? ⟨K,6,none⟩=some (.string lt)/\w'.cell? ⟨K,7,none⟩=some (.string df))
  (first
   |go_keep
   |exact Bt.out _ _ _ (Y.trans (C.mono Y.size)) A
   |exact HP.out _ (Y.trans (C.mono Y.size))
   |exact HP.out _ Y)
  (first
   |(go_at_call 74;refine(Vw.out _ (.inl rfl)).mono ?_;rintro e w' ⟨rfl,Y⟩)
   |(go_at_call 74;refine(Vx.out _ Y).mono ?_;rintro e U ⟨rfl,C⟩)
   |(refine step_append_lies _ rfl _ _ 65 rfl w2.heap.size 9 i0 (.string ⟨#[]⟩) 1 16 b_ hi qI pe pg rfl (by decide) _ 2 _ rfl (Br.out U (Y.trans (C.mono Y.size)) _) ⟨U.heap.size,0,none⟩ 5 5 [.string XN,.string D1,.string lt,.string D2,.string df] rfl rfl (World.news_of_block (heap_alloc_new U _)) (fun u hu=>by simp at hu;rcases hu with rfl|rfl|rfl|rfl|rfl<;>rfl) (by omega) (by unfold ao;omega) (by omega) (Bs.out U (Y.trans (C.mono Y.size)) _) _ rfl ?_;intro g5 DZ r c A xy Jz))
 rename_i Jj;clear Jj;have N:ae w2.heap.size w2 r:=by
  have v:ae R.heap.size R w':=⟨Y.os,Y.tape,Y.output,Y.size,Y.block⟩;have n:=t.out.trans (v.mono t.out.size);have h3:=n.trans (C.mono n.size);exact(h3.alloc h3.size _).grown A (by have:=h3.size;simp;omega) (fun j q=>by cases q;exact ajL)
 have Q:r.ownsRow w2.heap.size 9 1 (.slice (some ⟨g5,0,none⟩) 7 DZ) 7 [.string rn,.string d,.string XN,.string D1,.string lt,.string D2,.string df]:=c;simp only[Nat.reduceAdd];clear c;clear A xy Jz Y C Vw Vx Br Bs Bt HP p4 p5 p6 p7 t L5;have z:r.heap[f]?=some (.cells #[.string rn,.string rb,.string rm] 131 (0,0)):=by rw[N.block f L1];exact Vv.out
 have a1:r.cell? ⟨f,1,none⟩=some (.string rb):=by rw[ak r _ 1 _ _ _ z];rfl
 have a2:r.cell? ⟨f,2,none⟩=some (.string rm):=by rw[ak r _ 2 _ _ _ z];rfl
 have L8:w2.heap.size<=r.heap.size:=N.size;clear z Vv;go_wp2_with(first
  |(at_builtin;refine aY _ rfl _ _ 65 rfl w2.heap.size 9 i0 (.string ⟨#[]⟩) 1 16 b_ hi qI pe pg rfl (by decide) _ _ _ rfl (Q.alloc _) ⟨r.heap.size,0,none⟩ 2 2 [.string rb,.string rm] rfl rfl ?c1 ?c2 ?c3 ?c4 ?c5 ?_)
  |go_in)
 case c1=>
  intro j u q
  match j,q with
  |0,q=>simp at q;subst q;simp[Addr.add,go_sem]
  |1,q=>simp at q;subst q;simp[Addr.add,go_sem]
 case c2=>intro u hu;simp at hu;rcases hu with rfl|rfl<;>rfl
 case c3=>unfold ao;omega
 case c4=>omega
 case c5=>simp;omega
 intro v8 w8 S A _;have T:ae w2.heap.size w2 w8:=(N.alloc N.size _).grown A (by simp;omega) (fun j q=>(Q.lt j q).1);obtain⟨g8,ao6,rfl⟩:∃g cap,v8=.slice (some ⟨g,0,none⟩) 9 cap:=by
  rcases S.2 with⟨_,h0⟩|⟨gg,cap,cur,hv,_⟩
  ·omega
  ·exact⟨gg,cap,hv⟩
 have HW:=laid (FC B w2.heap.size acc [rn,d,XN,D1,lt,D2,df,rb,rm] _ w8 (a.out.below T) S (by simp) (by simp) (by
  have h:=Rs [rn,d,XN,D1,lt,D2,df,rb,rm] 10000 (fun x hx=>by
   have hd:=kY F (by omega);have hd4:d.size<=10000:=by rw[L7.out,h_];omega
   have he:=kY (st+1) (by omega);have T4:D1.size<=10000:=by rw[k.out,h_];omega
   have hf:=kY er (by omega);have hd2:D2.size<=10000:=by rw[i.out,h_];omega
   simp at hx;rcases hx with rfl|rfl|rfl|rfl|rfl|rfl|rfl|rfl|rfl<;>omega)
  simp at h;omega))
 have Vy:=laid (G.trans (T.mono (by have:=a.out.lt;omega)));have Bu:=laid (Vu.trans (Kp.ui T));clear A Q N L8 a1 a2 S T a G Vu;go_wp2_with fail
 refine HW.out.mono ?_;rintro e w9 ⟨rfl,m,Vz,VB⟩;have HF:Hid (ie B (acc++mS [rn,str (gL F),XN,str (gL (st+1)),lt,str (gL er),df,rb,rm]++[10]) w9/\ae B w w9/\Kp B w w9):=laid ⟨by rw[<-L7.out,<-k.out,<-i.out];exact m,Vy.out.trans Vz,Bu.out.trans VB⟩;clear m Vz VB Vy Bu HW L7 k i;go_wp2
 go_end0
 exact⟨rfl,HF.out⟩
def AG(w:af)(A n:Nat):Prop:=w.heap[A]?=some (.cells #[.int .i64 (n:Int)] 3 (0,0))
theorem AG.c0{n:Nat}(h:AG w A n):w.cell? ⟨A,0,none⟩=some (.int .i64 (n:Int)):=by rw[ak w A 0 _ _ _ h];rfl
theorem AG.fz{n:Nat}(h:AG w A n):w.frozen? ⟨A,0,none⟩=false:=xS h (by simp)
theorem AG.kp{B n:Nat}(h:AG w A n)(k:Kp B w w')(Y:A≠B):AG w' A n:=k A _ _ _ Y (by simp) h
theorem AG.put{n:Nat}(h:AG w A n)(m:Nat):AG (w.setCell ⟨A,0,none⟩ (.int .i64 (m:Int))) A m:=by
 exact xL _ h
theorem Pw{p:aj}{B n:Nat}{bs:List aj}{v:aj}(h:bC 102 5 B B p bs w)(C:AG w A n)(H:A≠B):bC 102 5 B B p bs (w.setCell ⟨A,0,none⟩ v):=by
 have⟨D,u,I,Y,U⟩:=h;have K:=Lib.BuilderAt.lt ⟨D,u,I,Y,U⟩;have R:=jH w A 0 v;refine⟨D,u,?_,Y.kept R (.inr (xN Y C (by simp))),U⟩;rw[R.block B K (fun e=>H (by simp_all))];exact I
theorem ie.put{B n:Nat}{acc:List UInt8}{v:aj}(h:ie B acc w)(K:AG w A n)(Y:A≠B):ie B acc (w.setCell ⟨A,0,none⟩ v):=
 h.imp (fun h=>Pw h K Y) (fun h=>Pw h K Y)
theorem Px{B:Nat}{v:aj}(h:B<=A):ae B w (w.setCell ⟨A,0,none⟩ v):=(au B w).setCell h v
theorem QC(B A n:Nat)(acc:List UInt8)(W:af)(U:ie B acc W)(R:AG W A n)(Q:B<A)(O:n<=9999)(V:acc.length+10<=1000000)(J:iK W):
  ah Tryz.prog 149 #[.pointer (some ⟨B,0,none⟩),.pointer (some ⟨A,0,none⟩)] W fun e w'=>e=.returned (.tuple #[])/\ie B (acc++gL n) w'/\AG w' A 0/\ae B W w':=by
 have c0:=R.c0;have P:=kY n O
 go_enter Tryz.func149,Tryz.ntmps149
 go_wp2_with fail
 refine(CA n _ O J).mono ?_;rintro e w2 ⟨rfl,K⟩;have C:=U.below K;have I:AG w2 A n:=R.kp (B:=B) (Kp.ui K) (by omega);have H:ae B W w2:=K.mono (by have:=U.lt;omega);clear K c0;go_wp2_with fail
 refine(Pv _ _ (str (gL n)) _ C (by rw[h_];omega)).mono ?_;rintro e w3 ⟨rfl,F,M,N⟩;have Y:=I.kp N (by omega);have D:=H.trans M;have T:=Y.fz;have S:=Y.c0;have L:Hid (ie B (acc++gL n) (w3.setCell _ (.int .i64 0))/\AG _ A 0/\ae B W (w3.setCell ⟨A,0,none⟩ (.int .i64 0))):=laid ⟨F.put Y (by omega),Y.put 0,D.trans (Px (by omega))⟩;go_wp2
 go_end0
 exact⟨rfl,L.out.1,L.out.2.1,L.out.2.2⟩
theorem WK(p t s:fa)(w:af)(hp:p.size<=1000)(ht:t.size<=1000)(hs:s.size<=1000)(v:Fits p t s)(b:∀x,x<s.size->at8 s x=77\/at8 s x=73\/at8 s x=68)(k:iK w):
  ah Tryz.prog 128 #[.string s,.string p,.string t] w fun e w'=>e=.returned (.string (str (ng p t s)))/\ae w.heap.size w w':=by
 have ajM:=laid v;have ajN:=laid b;have HT:=laid k;clear v b k
 go_enter Tryz.func128,Tryz.ntmps128
 go_wp2
 have h0:Hid (ie w.heap.size [] ((w.alloc (.cells #[.pointer none,.slice none 0 0] 102)).alloc (.cells #[.int .i64 0] 3))/\AG ((w.alloc (.cells #[.pointer none,.slice none 0 0] 102)).alloc (.cells #[.int .i64 0] 3)) (w.heap.size+1) 0/\ae w.heap.size w ((w.alloc (.cells #[.pointer none,.slice none 0 0] 102)).alloc (.cells #[.int .i64 0] 3))):=laid (by
  refine⟨(ie.new w).below ((au _ _).alloc (ai _) _),?_,((au _ _).alloc (ai _) _).alloc (by simp) _⟩;unfold AG;have:=heap_alloc_new (w.alloc (.cells #[.pointer none,.slice none 0 0] 102)) (.cells #[.int .i64 0] 3);simpa using this)
 go_loopw [8,9,16] (fun iv jv xv wr=>∃x:Nat,iv=.int .i64 ((iu p t s x).i:Int)/\jv=.int .i64 ((iu p t s x).j:Int)/\xv=.int .i64 (x:Int)/\x<=s.size/\ie w.heap.size (iu p t s x).o wr/\AG wr (w.heap.size+1) (iu p t s x).n/\ae w.heap.size w wr) (fun _ _ xv _=>s.size-(intOf xv).toNat)
 case atStart=>exact⟨0,rfl,rfl,rfl,ay _,h0.out.1,h0.out.2.1,h0.out.2.2⟩
 case round=>
  obtain⟨x,rfl,rfl,rfl,AD,S,F,K⟩:=hrel;clear h0;have hle:=CN p t s x (by omega);by_cases a:x<s.size
  ·have rB:(x:Int)<(s.size:Int):=by omega
   have xl:(0:Int)<=(x:Int):=by omega
   have xy:=kZ s x a;have r:=ajM.out x a;have hlx:=ajN.out x a;have x1:aH.wrap ((x:Int)+1)=(x:Int)+1:=aI _ (by omega);have z:Hid (iu p t s (x+1)=q_ p t s x (iu p t s x)):=laid rfl;generalize iu p t s x=st at *;have⟨O,I,J,N⟩:=st;simp only at *;have JX:=kY N (by omega);have x2:aH.wrap ((I:Int)+1)=(I:Int)+1:=aI _ (by omega);have x3:aH.wrap ((J:Int)+1)=(J:Int)+1:=aI _ (by omega);have x4:aH.wrap ((N:Int)+1)=(N:Int)+1:=aI _ (by omega);have c:Hid (∀W:af,ie w.heap.size O W->AG W (w.heap.size+1) N->ae w.heap.size w W->ah Tryz.prog 149 #[.pointer (some ⟨w.heap.size,0,none⟩),.pointer (some ⟨w.heap.size+1,0,none⟩)] W fun e w'=>e=.returned (.tuple #[])/\ie w.heap.size (O++gL N) w'/\AG w' (w.heap.size+1) 0/\ae w.heap.size W w'):=laid (fun W h1 h2 h3=>QC _ _ N O W h1 h2 (by omega) (by omega) (by omega) (HT.out.on h3));rcases hlx with u|l|d
   ·have e1:(((at8 s x).toNat:Int)==77)=true:=by rw[u];rfl
    have VC:=r.1 u;have JV:(I:Int)<(p.size:Int):=by omega
    have AM:(0:Int)<=(I:Int):=by omega
    have AH:(J:Int)<(t.size:Int):=by omega
    have JR:(0:Int)<=(J:Int):=by omega
    have hpI:=kZ p I VC.1;have Vd:=kZ t J VC.2;have T:Hid (iu p t s (x+1)=if ag (at8 p I) (at8 t J)=true then⟨O,I+1,J+1,N+1⟩else⟨O++gL N++[at8 t J],I+1,J+1,0⟩):=laid (by rw[z.out,q_,if_pos u]);clear u r z;have VD:=laid S;have f:=laid F;clear S F;go_wp2_with fail
    go_quiet((go_at_call 150;refine(HJ _ _ _).mono ?_;rintro e vk ⟨rfl,rfl⟩;exact⟨rfl,_,rfl⟩))
    have V:=Go.below_drewN K nq;have q:=VD.out.drewN nq;have L:AG (wr.drewN nq) (w.heap.size+1) N:=f.out;clear VD f;generalize wr.drewN nq=w1 at *;clear K;by_cases M:ag (at8 p I) (at8 t J)=true
    ·have A:Hid (iu p t s (x+1)=⟨O,I+1,J+1,N+1⟩):=laid (by rw[T.out,if_pos M]);rw[M];have c0:=L.c0;have f0:=L.fz;have C:Hid (ie w.heap.size O (w1.setCell ⟨w.heap.size+1,0,none⟩ (.int .i64 ((N:Int)+1)))/\AG (w1.setCell ⟨w.heap.size+1,0,none⟩ (.int .i64 ((N:Int)+1))) (w.heap.size+1) (N+1)/\ae w.heap.size w (w1.setCell ⟨w.heap.size+1,0,none⟩ (.int .i64 ((N:Int)+1)))):=laid ⟨q.put L (by omega),L.put (N+1),V.trans (Px (by omega))⟩;clear T M q L c;go_wp2
     go_roundw
     case rel=>go_light;exact⟨x+1,ib (by rw[A.out];simp),ib (by rw[A.out];simp),by go_num,by omega,by rw[A.out];exact C.out.1,by rw[A.out];exact C.out.2.1,C.out.2.2⟩
     case measure=>go_light;simp[intOf];omega
    ·have A:Hid (iu p t s (x+1)=⟨O++gL N++[at8 t J],I+1,J+1,0⟩):=laid (by rw[T.out,if_neg M]);rw[aQ]at M;rw[M];have g:=laid (c.out w1 q L V);clear T M c q L;go_wp2_with fail
     refine g.out.mono ?_;rintro e w2 ⟨rfl,H,D,P⟩;have Y:=V.trans P;clear P g;go_wp2_with fail
     refine(vS _ _ (at8 t J) _ H (by rw[ar];omega)).mono ?_;rintro e w3 ⟨rfl,U,Q,E⟩;have C:Hid (ie w.heap.size (O++gL N++[at8 t J]) w3/\AG w3 (w.heap.size+1) 0/\ae w.heap.size w w3):=laid ⟨U,D.kp E (by omega),Y.trans Q⟩;clear Q E U D H Y V;go_wp2
     go_roundw
     case rel=>go_light;exact⟨x+1,ib (by rw[A.out];simp),ib (by rw[A.out];simp),by go_num,by omega,by rw[A.out];exact C.out.1,by rw[A.out];exact C.out.2.1,C.out.2.2⟩
     case measure=>go_light;simp[intOf];omega
   ·have e1:(((at8 s x).toNat:Int)==77)=false:=by rw[l];rfl
    have e2:(((at8 s x).toNat:Int)==73)=true:=by rw[l];rfl
    have A:Hid (iu p t s (x+1)=⟨O,I+1,J,N⟩):=laid (by rw[z.out,q_,if_neg (by rw[l];decide),if_pos l]);have C:=laid (And.intro S F);clear l r z c S F;go_wp2
    go_roundw
    case rel=>go_light;exact⟨x+1,ib (by rw[A.out];simp),ib (by rw[A.out]),by go_num,by omega,by rw[A.out];exact C.out.1,by rw[A.out];exact C.out.2,K⟩
    case measure=>go_light;simp[intOf];omega
   ·have e1:(((at8 s x).toNat:Int)==77)=false:=by rw[d];rfl
    have e2:(((at8 s x).toNat:Int)==73)=false:=by rw[d];rfl
    have e3:(((at8 s x).toNat:Int)==68)=true:=by rw[d];rfl
    have Ma:at8 s x≠77:=by rw[d];decide
    have Mb:at8 s x≠73:=by rw[d];decide
    have hJ:=r.2 Ma Mb;have AH:(J:Int)<(t.size:Int):=by omega
    have JR:(0:Int)<=(J:Int):=by omega
    have Vd:=kZ t J hJ;have T:Hid (iu p t s (x+1)=if x=0\/at8 s (x-1)≠68 then⟨O++gL N++[94]++[at8 t J],I,J+1,0⟩else⟨O++[at8 t J],I,J+1,N⟩):=laid (by rw[z.out,q_,if_neg Ma,if_neg Mb]);have g:=laid (c.out wr S F K);clear d r z c Ma Mb;have m:(((x:Int)==0)=true/\Hid (iu p t s (x+1)=⟨O++gL N++[94]++[at8 t J],I,J+1,0⟩))\/∃y:Nat,((x:Int)==0)=false/\y<s.size/\aH.wrap ((x:Int)-1)=(y:Int)/\(((((at8 s y).toNat:Int) != 68)=true/\Hid (iu p t s (x+1)=⟨O++gL N++[94]++[at8 t J],I,J+1,0⟩))\/((((at8 s y).toNat:Int) != 68)=false/\Hid (iu p t s (x+1)=⟨O++[at8 t J],I,J+1,N⟩))):=by
     by_cases VE:x=0
     ·exact .inl ⟨by simp;omega,laid (by rw[T.out,if_pos (.inl VE)])⟩
     ·refine .inr ⟨x-1,by simp;omega,by omega,by rw[show(x:Int)-1=((x-1:Nat):Int) by omega];exact aI _ (by omega),?_⟩;by_cases h:at8 s (x-1)=68
      ·exact .inr ⟨by rw[h];rfl,laid (by rw[T.out,if_neg (by rintro(h'|h');exact VE h';exact h' h)])⟩
      ·exact .inl ⟨toNat_ne h,laid (by rw[T.out,if_pos (.inr h)])⟩
    clear T;rcases m with⟨hd,A⟩|⟨y,hd,VF,vi,⟨hq,A⟩|⟨hq,A⟩⟩
    ·skip
     clear S F;go_wp2_with fail
     refine g.out.mono ?_;rintro e w2 ⟨rfl,H,D,P⟩;have Y:=K.trans P;clear P g K;go_wp2_with fail
     refine(vS _ _ 94 _ H (by rw[ar];omega)).mono ?_;rintro e w3 ⟨rfl,U,Q,E⟩;have X:=D.kp E (by omega);have R:=Y.trans Q;clear Q E D H Y;go_wp2_with fail
     refine(vS _ _ (at8 t J) _ U (by rw[ar,ar];simp;omega)).mono ?_;rintro e w4 ⟨rfl,B,Z,G⟩;have C:Hid (ie w.heap.size (O++gL N++[94]++[at8 t J]) w4/\AG w4 (w.heap.size+1) 0/\ae w.heap.size w w4):=laid ⟨B,X.kp G (by omega),R.trans Z⟩;clear Z G B X U R;go_wp2
     go_roundw
     case rel=>go_light;exact⟨x+1,ib (by rw[A.out]),ib (by rw[A.out];simp),by go_num,by omega,by rw[A.out];exact C.out.1,by rw[A.out];exact C.out.2.1,C.out.2.2⟩
     case measure=>go_light;simp[intOf];omega
    ·obtain⟨ajO,Ve,hy0⟩:s[y]=at8 s y/\(y:Int)<(s.size:Int)/\(0:Int)<=(y:Int):=⟨kZ s y VF,by omega,by omega⟩;clear S F;go_wp2_with fail
     refine g.out.mono ?_;rintro e w2 ⟨rfl,H,D,P⟩;have Y:=K.trans P;clear P g K;go_wp2_with fail
     refine(vS _ _ 94 _ H (by rw[ar];omega)).mono ?_;rintro e w3 ⟨rfl,U,Q,E⟩;have X:=D.kp E (by omega);have R:=Y.trans Q;clear Q E D H Y;go_wp2_with fail
     refine(vS _ _ (at8 t J) _ U (by rw[ar,ar];simp;omega)).mono ?_;rintro e w4 ⟨rfl,B,Z,G⟩;have C:Hid (ie w.heap.size (O++gL N++[94]++[at8 t J]) w4/\AG w4 (w.heap.size+1) 0/\ae w.heap.size w w4):=laid ⟨B,X.kp G (by omega),R.trans Z⟩;clear Z G B X U R;go_wp2
     go_roundw
     case rel=>go_light;exact⟨x+1,ib (by rw[A.out]),ib (by rw[A.out];simp),by go_num,by omega,by rw[A.out];exact C.out.1,by rw[A.out];exact C.out.2.1,C.out.2.2⟩
     case measure=>go_light;simp[intOf];omega
    ·have ajO:=kZ s y VF;have Ve:(y:Int)<(s.size:Int):=by omega
     have hy0:(0:Int)<=(y:Int):=by omega
     have f:=laid F;clear F g;go_wp2_with fail
     refine(vS _ _ (at8 t J) _ S (by omega)).mono ?_;rintro e w4 ⟨rfl,B,Z,G⟩;have C:Hid (ie w.heap.size (O++[at8 t J]) w4/\AG w4 (w.heap.size+1) N/\ae w.heap.size w w4):=laid ⟨B,f.out.kp G (by omega),K.trans Z⟩;clear Z G B f S K;go_wp2
     go_roundw
     case rel=>go_light;exact⟨x+1,ib (by rw[A.out]),ib (by rw[A.out];simp),by go_num,by omega,by rw[A.out];exact C.out.1,by rw[A.out];exact C.out.2.1,C.out.2.2⟩
     case measure=>go_light;simp[intOf];omega
  ·have VG:x=s.size:=by omega
   have C:Hid (str ((iu p t s x).o++gL (iu p t s x).n)=str (ng p t s)):=laid (by unfold ng;rw[VG]);have g:=laid (QC _ _ (iu p t s x).n (iu p t s x).o wr S F (by omega) (by omega) (by omega) (HT.out.on K));clear VG hle;generalize iu p t s x=st at *;have⟨O,I,J,N⟩:=st;simp only at *;clear S F;go_wp2_with fail
   refine g.out.mono ?_;rintro e w2 ⟨rfl,H,D,P⟩;have Y:=K.trans P;clear P g D;go_wp2_with fail
   refine(xR _ _ _ H).mono ?_;rintro e w3 ⟨rfl,Q⟩;have R:=Y.trans Q;clear Q H;go_wp2
   go_ret
   exact⟨lZ C.out,R⟩
def sb(ref gj:fa):Int:=if(je ref).2=true then 2 else if gj.size<1\/30<gj.size\/gj.data.toList.all g_=false then 5 else 0
theorem aad(ref gj:fa)(x y u z:Nat)(a b:fa)(v':aj)(w:af)(k:ref.size<=400)(hr:(je ref).2=false)(r:1<=gj.size)(v:gj.size<=30)(F:gj.data.toList.all g_=true)
  (hx:w.cell? ⟨x,0,none⟩=some (.string ref))(W:w.cell? ⟨u,0,none⟩=some (.string gj))(d:RB w y a b)(f:w.cell? ⟨z,0,none⟩=some v')
  (J:w.frozen? ⟨z,0,none⟩=false)(n:u≠y)(T:z≠y):
  ah Tryz.prog 42 #[.pointer (some ⟨x,0,none⟩),.pointer (some ⟨y,0,none⟩),.pointer (some ⟨u,0,none⟩),.pointer (some ⟨z,0,none⟩)] w fun e w'=>
   e=.returned (.tuple #[])/\RB w' y (nk ref) (str (iU ref).2)/\w'.cell? ⟨z,0,none⟩=some (.string (str (gj.data.toList.map gb)))/\j8 w w' y z:=by
 have g:=laid hr;have j:=laid F;have O:=d.lt;have N:=by have:=ax W;simpa using this
 have B:=by have:=ax f;simpa using this
 generalize hX:str _=X;generalize o:nk ref=C;have c:=laid o;generalize p:str _=Y;have l:=laid hX;have m:=laid p
 go_enter cR,cW
 go_wp2_with fail
 refine(xD ref _ (by omega)).mono ?_;rintro e w1 ⟨q,t,K⟩;rw[l.out,c.out]at q;obtain rfl:=q g.out;have R:=d.at (K.block y O);have s:w1.cell? ⟨u,0,none⟩=some (.string gj):=by rw[(rZ K).1 u 0 N];exact W
 have P:w1.cell? ⟨z,0,none⟩=some v':=by rw[(rZ K).1 z 0 B];exact f
 have Z:w1.frozen? ⟨z,0,none⟩=false:=by rw[(rZ K).2 z 0 B];exact J
 have c0:=R.c0;have c1:=R.c1;have f0:=R.fz 0;have f1:=R.fz 1;have V:=R.put C X;obtain⟨_,_,D⟩:=pJ _ _ c0 c1;have L:=gY (qc K _) D;have G:=K.size;have Q:((w1.setCell ⟨y,0,none⟩ (.string C)).setCell ⟨y,1,none⟩ (.string X)).cell? ⟨z,0,none⟩=some v':=by rw[Gr D (by omega) (by simp_all)];exact P
 have A:((w1.setCell ⟨y,0,none⟩ (.string C)).setCell ⟨y,1,none⟩ (.string X)).frozen? ⟨z,0,none⟩=false:=by simp_all
 have I:z<((w1.setCell ⟨y,0,none⟩ (.string C)).setCell ⟨y,1,none⟩ (.string X)).heap.size:=by have:=D.size;omega
 go_wp2_with fail
 generalize(w1.setCell _ _).setCell _ _=w2 at *;refine(MY _ 1 30 _ (by omega) (by omega) (by omega) (by omega) j.out).mono ?_;rintro e w3 ⟨rfl,H⟩;have S:w3.cell? ⟨z,0,none⟩=some v':=by rw[(rZ H).1 z 0 I];exact Q
 have E:w3.frozen? ⟨z,0,none⟩=false:=by rw[(rZ H).2 z 0 I];exact A
 have U:=V.at (H.block y V.lt);have M:w2.grownBy (w3.setCell _ (.string Y)) _:=gY (qc H _) (jH w3 z 0 _);have D:=jH w3 z 0 (.string Y);have f1:=U.at (D.block y U.lt (by simpa using fun h=>T h.symm));have f2:(w3.setCell _ (.string Y)).cell? _=some _:=World.cell?_setCell_same _ _ _ S;go_wp2
 go_end0
 exact⟨rfl,f1,f2,j8.of L M⟩
theorem YO(ref gj:fa)(x y u z:Nat)(a b:fa)(v':aj)(w:af)(G:ref.size<=400)(V:gj.size<=ao)(R:(je ref).2=true\/gj.size<1\/30<gj.size\/gj.data.toList.all g_=false)
  (d:w.cell? ⟨x,0,none⟩=some (.string ref))(O:w.cell? ⟨u,0,none⟩=some (.string gj))(Q:RB w y a b)(f:w.cell? ⟨z,0,none⟩=some v')
  (E:u≠y):
  ah Tryz.prog 42 #[.pointer (some ⟨x,0,none⟩),.pointer (some ⟨y,0,none⟩),.pointer (some ⟨u,0,none⟩),.pointer (some ⟨z,0,none⟩)] w fun e w'=>
   (∃p,e=.panicked (m_ (sb ref gj) p))/\j8 w w' y z:=by
 have N:=Q.lt;have M:=by have:=ax O;simpa using this
 by_cases hr:(je ref).2=true
 ·have C:sb ref gj=2:=if_pos hr;rw[C];have B:=laid hr
  go_enter cR,cW
  go_wp2_with fail
  refine(xD ref _ (by omega)).mono ?_;rintro e w1 ⟨P,S,Y⟩;obtain rfl:=S B.out;exact⟨rfl,⟨_,rfl⟩,MC Y _ _⟩
 ·have I:=R.resolve_left hr;have C:sb ref gj=5:=by unfold sb;rw[if_neg hr,if_pos I]
  rw[C];rw[aQ]at hr;have B:=laid hr;have U:=laid I;have D:∀W,ah Tryz.prog 44 #[.string gj,.int .i64 1,.int .i64 30] W fun e w'=>(∃p,e=.panicked (m_ 5 p))/\ae W.heap.size W w':=by
   intro W;by_cases L:(gj.size:Int)<1\/30<(gj.size:Int)
   ·exact WN _ 1 30 W V L
   ·refine MH _ 1 30 W (by omega) (by omega) (by omega) (by omega) ?_;rcases U.out with h|h|h
    ·omega
    ·omega
    ·exact h
  have H:=laid D
  go_enter cR,cW
  go_wp2_with fail
  refine(xD ref _ (by omega)).mono ?_;rintro e w1 ⟨P,S,Y⟩;obtain rfl:=P B.out;generalize str _=X at *;generalize nk ref=T at *;have K:=Q.at (Y.block y N);have Z:w1.cell? ⟨u,0,none⟩=some (.string gj):=by rw[(rZ Y).1 u 0 M];exact O
  have c0:=K.c0;have c1:=K.c1;have f0:=K.fz 0;have f1:=K.fz 1;have⟨_,_,J⟩:=pJ (.string T) (.string X) c0 c1;have F:=gY (qc Y _) J;go_wp2_with fail
  refine(H.out _).mono ?_;rintro e w3 ⟨⟨p,rfl⟩,A⟩;exact⟨rfl,⟨p,rfl⟩,j8.of F (qc A _)⟩
theorem ME(ref gj:fa)(x y u z:Nat)(a b:fa)(v':aj)(w:af)(W:ref.size<=400)(hr:(je ref).2=false)(B:1<=gj.size)(C:gj.size<=30)(U:gj.data.toList.all g_=true)
  (Z:w.cell? ⟨x,0,none⟩=some (.string ref))(V:w.cell? ⟨u,0,none⟩=some (.string gj))(E:RB w y a b)(G:w.cell? ⟨z,0,none⟩=some v')
  (F:w.frozen? ⟨z,0,none⟩=false)(N:u≠y)(T:z≠y):
  ah Tryz.prog 41 #[.func (.func 42) #[] #[.pointer (some ⟨x,0,none⟩),.pointer (some ⟨y,0,none⟩),.pointer (some ⟨u,0,none⟩),.pointer (some ⟨z,0,none⟩)]] w fun e w'=>
   e=.returned (.agg #[.int .i64 0,.int .i64 0])/\RB w' y (nk ref) (str (iU ref).2)/\w'.cell? ⟨z,0,none⟩=some (.string (str (gj.data.toList.map gb)))/\j8 w w' y z:=by
 have X:=laid hr;have S:=laid U;clear hr U;have O:x<w.heap.size:=by have:=ax Z;simpa using this
 have P:=E.lt;have M:u<w.heap.size:=by have:=ax V;simpa using this
 have A:z<w.heap.size:=by have:=ax G;simpa using this
 go_enter_defers bW,bX
 go_wp2_with fail
 refine(aad ref gj x y u z a b v' _ W X.out B C S.out ?_ ?_ (E.at (aD _ _ P)) ?_ ?_ N T).mono ?_
 ·rw[az _ _ _ O];exact Z
 ·rw[az _ _ _ M];exact V
 ·rw[az _ _ _ A];exact G
 ·rw[World.frozen?_alloc_past _ _ _ A];exact F
 rintro e w1 ⟨rfl,H,D,J⟩;have R:=J.block w.heap.size (by simp) (by omega) (by omega);rw[heap_alloc_new]at R;have n0:w1.cell? ⟨w.heap.size,0,none⟩=some (.int .i64 0):=by rw[ak _ _ _ _ _ _ R];rfl
 have n1:w1.cell? ⟨w.heap.size,1,none⟩=some (.int .i64 0):=by rw[ak _ _ _ _ _ _ R];rfl
 have z0:w1.frozen? ⟨w.heap.size,0,none⟩=false:=aO _ _ _ _ _ R;have d:w1.frozen? ⟨w.heap.size,1,none⟩=false:=aO _ _ _ _ _ R;go_wp2
 have⟨m0,q,Y⟩:=pJ (.int .i64 0) (.int .i64 0) n0 n1;have Q:z<w1.heap.size:=by have:=ax D;simpa using this
 have I:=H.at (Y.block y H.lt (by simp;omega));have K:=D;rw[<-Gr (j:=0) Y Q (by simp;omega)]at K;have L:=j8.new J Y;clear H D R n0 n1 z0 d J Y;refine cj (f:=61) (args:=#[.pointer (some ⟨w.heap.size,0,none⟩)]) (by simp) (by simp[go_sem]) ?_;refine(F5 _ _).mono ?_;rintro e g c ⟨rfl,rfl,rfl⟩;refine⟨.agg #[.int .i64 0,.int .i64 0],?_,rfl,I,K,L⟩;simp[results,bY,go_sem,m0,q]
theorem WL(ref gj:fa)(x y u z:Nat)(a b:fa)(v':aj)(w:af)(O:ref.size<=400)(Q:gj.size<=ao)(Y:(je ref).2=true\/gj.size<1\/30<gj.size\/gj.data.toList.all g_=false)
  (J:w.cell? ⟨x,0,none⟩=some (.string ref))(F:w.cell? ⟨u,0,none⟩=some (.string gj))(L:RB w y a b)(M:w.cell? ⟨z,0,none⟩=some v')
  (U:u≠y):
  ah Tryz.prog 41 #[.func (.func 42) #[] #[.pointer (some ⟨x,0,none⟩),.pointer (some ⟨y,0,none⟩),.pointer (some ⟨u,0,none⟩),.pointer (some ⟨z,0,none⟩)]] w fun e w'=>
   (∃p,e=.returned (.agg #[.int .i64 (sb ref gj),.int .i64 p]))/\j8 w w' y z:=by
 have N:=laid Y;clear Y;have I:x<w.heap.size:=by have:=ax J;simpa using this
 have A:=L.lt;have R:u<w.heap.size:=by have:=ax F;simpa using this
 have B:z<w.heap.size:=by have:=ax M;simpa using this
 go_enter_defers bW,bX
 go_wp2_with fail
 refine(YO ref gj x y u z a b v' _ O Q N.out ?_ ?_ (L.at (aD _ _ A)) ?_ U).mono ?_
 ·rw[az _ _ _ I];exact J
 ·rw[az _ _ _ R];exact F
 ·rw[az _ _ _ B];exact M
 rintro e w1 ⟨⟨p,rfl⟩,C⟩;have K:=C.block w.heap.size (by simp) (by omega) (by omega);rw[heap_alloc_new]at K;have n0:w1.cell? ⟨w.heap.size,0,none⟩=some (.int .i64 0):=by rw[ak _ _ _ _ _ _ K];rfl
 have n1:w1.cell? ⟨w.heap.size,1,none⟩=some (.int .i64 0):=by rw[ak _ _ _ _ _ _ K];rfl
 have z0:w1.frozen? ⟨w.heap.size,0,none⟩=false:=aO _ _ _ _ _ K;have V:w1.frozen? ⟨w.heap.size,1,none⟩=false:=aO _ _ _ _ _ K;refine cj (f:=61) (args:=#[.pointer (some ⟨w.heap.size,0,none⟩)]) (by simp) (by simp[go_sem]) ?_;refine(F4 _ _ _ (sb ref gj) p [] _ n0 n1 z0 V).mono ?_;rintro e Z T ⟨rfl,rfl,rfl⟩;have P:w.heap.size<w1.heap.size:=by have:=ax n0;simpa using this
 have⟨m0,S,H⟩:=pJ (.int .i64 (sb ref gj)) (.int .i64 p) n0 n1;generalize X:(w1.setCell ⟨w.heap.size,0,none⟩ (.int .i64 (sb ref gj))).setCell ⟨w.heap.size,1,none⟩ (.int .i64 p)=w2 at *;have D:w.heap.size<w2.heap.size:=by have:=H.size;omega
 refine⟨.agg _,?_,⟨p,rfl⟩,?_⟩
 ·simp[results,bY,go_sem,m0,S,D]
 ·exact(j8.new C H).alloc _
theorem Py(zs ys:List Nat):∀i,i<=zs.length->lW (zs++ys) i=lW zs i
 |0,_=>rfl
 |i+1,h=>by
  rw[lW,lW,Py zs ys i (by omega)];have:(zs++ys).getD i 0=zs.getD i 0:=by
   rw[aA,aA,List.getElem?_append_left (by omega)]
  rw[this]
theorem afq(n:Nat):gL n≠ []:=by
 by_cases h:n<=9
 ·rw[vA n h];simp
 ·rw[xW n h];simp
theorem Hz(zs:List Nat)(i:Nat):lW zs i=[]↔i=0:=by
 cases i with
 |zero=>simp[lW]
 |succ i=>simp[lW,afq]
theorem Pz(P X:fa)(k q st:Nat)(t:Int):∀n,jL P X k q st t n=lW (jr P X k q st t n) (jr P X k q st t n).length
 |0=>rfl
 |n+1=>by
  have K:=Pz P X k q st t n;by_cases h:looked P X k q st t n=true
  ·rw[FP h,jL,if_pos h];generalize jr P X k q st t n=zs at *;rw[ar,show [n].length=1 from rfl,lW,Py zs [n] _ (ai _),K];have H:(zs++[n]).getD zs.length 0=n:=by simp
   rw[H];by_cases Y:zs.length=0
   ·rw[if_pos ((Hz zs _).2 Y),if_pos Y,(Hz zs _).2 Y];rfl
   ·rw[if_neg (fun e=>Y ((Hz zs _).1 e)),if_neg Y];rfl
  ·rw[aQ]at h;rw[OH h,jL,if_neg (by simp[h]),K]
theorem OI(P X:fa)(k q st:Nat)(t:Int):∀n,∀z∈jr P X k q st t n,z<n
 |0,z,h=>by simp[jr]at h
 |n+1,z,h=>by
  have Y:=OI P X k q st t n;simp only[jr]at h;split at h
  ·rw[bF,bm]at h;rcases h with h|h
   ·have:=Y z h;omega
   ·omega
  ·have:=Y z h;omega
theorem IY{w1:af}{o1 o2 o3 o4:Obj}(h:j8 ((((w.alloc o1).alloc o2).alloc o3).alloc o4) w1 (w.heap.size+1+1) (w.heap.size+1+1+1)):ae w.heap.size w w1:=by
 have Y:ae _ w _:=((((au _ _).alloc (ai _) o1).alloc (by simp) o2).alloc (by simp;omega) o3).alloc (by simp;omega) o4;exact Y.trans (h.below (by simp;omega) (by omega) (by omega))
theorem GZ(w:af)(Y o1:Obj)(o3:Obj):RB ((((w.alloc Y).alloc o1).alloc (.cells #[.string ⟨#[]⟩,.string ⟨#[]⟩] 68)).alloc o3) (w.heap.size+1+1) ⟨#[]⟩ ⟨#[]⟩:=by
 unfold RB;rw[aD _ _ (by simp)];have e:w.heap.size+1+1=((w.alloc Y).alloc o1).heap.size:=by simp
 rw[e,heap_alloc_new]
theorem abO(ref gj:fa)(k q step:Int)(w:af)(Y:ref.size<=ao)(K:400<ref.size):
  ah Tryz.prog 28 #[.string ref,.string gj,.int .i64 k,.int .i64 q,.int .i64 step] w fun e w'=>e=.returned (.tuple #[.string ⟨#[]⟩,.int .i64 1])/\ae w.heap.size w w':=by
 go_wp2
 go_ret2
 exact⟨rfl,((au _ _).alloc (ai _) _).alloc (by simp) _⟩
theorem QD(ref gj:fa)(k q step:Int)(w:af)(c:Int)(U:sb ref gj=c)(B:c=2\/c=5)(R:gj.size<=ao)(C:¬400<ref.size)(K:(je ref).2=true\/gj.size<1\/30<gj.size\/gj.data.toList.all g_=false):
  ah Tryz.prog 28 #[.string ref,.string gj,.int .i64 k,.int .i64 q,.int .i64 step] w fun e w'=>e=.returned (.tuple #[.string ⟨#[]⟩,.int .i64 c])/\ae w.heap.size w w':=by
 have D:=laid K;have I:=laid U
 go_enter cQ,cV
 go_wp2_with fail
 refine(WL ref _ _ _ _ _ _ _ (.string ⟨#[]⟩) _ (by omega) R D.out (by simp[go_sem]) (by simp[go_sem]) (GZ w _ _ _) (by simp[go_sem]) (by omega)).mono ?_;rintro e w1 ⟨⟨p,rfl⟩,H⟩;have Y:=IY H;go_wp2
 go_quiet(fail)
 go_wp2
 go_ret2
 exact⟨rfl,Go.below_drewN (Y.alloc Y.size _) _⟩
theorem adx(ref gj:fa)(k q step:Int)(w:af)(W:¬400<ref.size)(hr:(je ref).2=false)(J:1<=gj.size)(L:gj.size<=30)(C:gj.data.toList.all g_=true)(Q:kS k gj.size q step=false):
  ah Tryz.prog 28 #[.string ref,.string gj,.int .i64 k,.int .i64 q,.int .i64 step] w fun e w'=>e=.returned (.tuple #[.string ⟨#[]⟩,.int .i64 4])/\ae w.heap.size w w':=by
 have V:=laid hr;have P:=laid C;have S:=laid Q;have T:=laid (show(str (gj.data.toList.map gb)).size=gj.size by rw[h_];simp);clear hr C Q
 go_enter cQ,cV
 go_wp2_with fail
 refine(ME ref gj w.heap.size (w.heap.size+1+1) (w.heap.size+1) (w.heap.size+1+1+1) ⟨#[]⟩ ⟨#[]⟩ (.string ⟨#[]⟩) _ (by omega) V.out J L P.out (by simp[go_sem]) (by simp[go_sem]) (GZ w _ _ _) (by simp[go_sem]) (by simp[go_sem]) (by omega) (by omega)).mono ?_;rintro e w1 ⟨rfl,Z,M,U⟩;have R:=IY U;have N:=by have:=U.size;simp at this;omega
 clear U;generalize str (gj.data.toList.map gb)=Y at *;have G:=T.out;have I:∀o o',((w1.alloc o).alloc o').cell? ⟨w.heap.size+1+1+1,0,none⟩=some (.string Y):=fun o o'=>by
  rw[az _ _ _ (by simp;omega),az _ _ _ N];exact M
 go_wp2_with fail
 refine(GY k q step _).mono ?_;rintro e w2 ⟨rfl,K⟩;have H:ae w.heap.size w w2:=((R.alloc R.size _).alloc (by simp;omega) _).trans (K.mono (by simp;omega));by_cases F:nh k q step=false
 ·rw[F];clear K;go_wp2
  go_ret2
  exact⟨rfl,H⟩
 ·rw[bP]at F;rw[F];have E:¬k<(Y.size:Int):=by
   have h:=S.out;rw[GX,F,Bool.true_and]at h;have:=of_decide_eq_false h;omega
  have ga:w2.heap[w1.heap.size+1]?=some (.cells #[.int .i64 k,.int .i64 q,.int .i64 step] 75 (0,0)):=by
   rw[K.block _ (by simp)];have X:(w1.alloc (.cells #[.int .i64 0,.int .i64 0] 70)).heap.size=w1.heap.size+1:=by simp
   rw[<-X,heap_alloc_new]
  have c0:w2.cell? ⟨w1.heap.size+1,0,none⟩=some (.int .i64 k):=by rw[ak w2 _ 0 _ _ _ ga];rfl
  have c1:w2.cell? ⟨w1.heap.size+1,1,none⟩=some (.int .i64 q):=by rw[ak w2 _ 1 _ _ _ ga];rfl
  have c2:w2.cell? ⟨w1.heap.size+1,2,none⟩=some (.int .i64 step):=by rw[ak w2 _ 2 _ _ _ ga];rfl
  have O:w2.cell? ⟨w.heap.size+1+1+1,0,none⟩=some (.string Y):=by rw[K.cell (by simp;omega)];exact I _ _
  have B:Y.size<=1000:=by omega
  clear K I ga F;go_wp2_with fail
  refine(FI k q step Y _ B).mono ?_;rintro e w3 ⟨rfl,D⟩;rw[decide_eq_false (show¬k<(Y.size:Int) by omega)];have A:ae w.heap.size w w3:=H.trans (D.mono H.size);clear D;go_wp2
  go_ret2
  exact⟨rfl,A⟩
theorem abP(ref gj:fa)(k q st:Nat)(w:af)(L:iK w)(ha:¬400<ref.size)(hr:(je ref).2=false)(d:1<=gj.size)(f:gj.size<=30)(V:gj.data.toList.all g_=true)
  (hk:k<=6)(hkm:k<gj.size)(r:1<=q)(u:q<=8)(n:1<=st)(b:st<=200):
  ah Tryz.prog 28 #[.string ref,.string gj,.int .i64 (k:Int),.int .i64 (q:Int),.int .i64 (st:Int)] w fun e w'=>
   e=.returned (.tuple #[.string (str (jL (str (gj.data.toList.map gb)) (str (iU ref).2) k q st (iJ gj.size k q) (stretches (iU ref).2.length st))),.int .i64 0])/\ae w.heap.size w w':=by
 have HR:=laid hr;have HB:=laid V;have HI:=laid (show nh k q st=true by unfold nh;rw[decide_eq_true (by omega)]);have HL:=laid (show(str (gj.data.toList.map gb)).size=gj.size by rw[h_];simp);have HT:=laid L;have G:=B2 ref;generalize a:str (gj.data.toList.map gb)=Y at *;generalize hX:str (iU ref).2=X at *;have W:X.size=(iU ref).2.length:=by rw[<-hX,h_]
 rw[<-W]at G⊢;have s:=HL.out;rw[<-s];generalize t:str _=O;have y:=laid t;have HX:=laid hX;have HY:=laid a;clear hr V L hX a W t
 go_enter cQ,cV
 go_wp2_with fail
 refine(ME ref gj w.heap.size (w.heap.size+1+1) (w.heap.size+1) (w.heap.size+1+1+1) ⟨#[]⟩ ⟨#[]⟩ (.string ⟨#[]⟩) _ (by omega) HR.out d f HB.out (by simp[go_sem]) (by simp[go_sem]) (GZ w _ _ _) (by simp[go_sem]) (by simp[go_sem]) (by omega) (by omega)).mono ?_;rintro e w1 ⟨rfl,N,P,Q⟩;rw[HX.out]at N;rw[HY.out]at P;generalize nk ref=QN at *;have U:=IY Q;have p:w.heap.size+1+1+1<w1.heap.size:=by have:=Q.size;simp at this;omega
 clear Q;have F:∀o o',((w1.alloc o).alloc o').cell? ⟨w.heap.size+1+1+1,0,none⟩=some (.string Y):=fun o o'=>by
  rw[az _ _ _ (by simp;omega),az _ _ _ p];exact P
 have B:∀o o',((w1.alloc o).alloc o').cell? ⟨w.heap.size+1+1,1,none⟩=some (.string X):=fun o o'=>by
  rw[az _ _ _ (by simp;omega),az _ _ _ (by omega)];exact N.c1
 go_wp2_with fail
 refine(GY k q st _).mono ?_;rintro e w2 ⟨rfl,H⟩;rw[HI.out];have ga:ST w2 (w1.heap.size+1) k q st:=by
  have m:=ST.new (w1.alloc (.cells #[.int .i64 0,.int .i64 0] 70)) k q st;have e0:(w1.alloc (.cells #[.int .i64 0,.int .i64 0] 70)).heap.size=w1.heap.size+1:=by simp
  rw[e0]at m;exact m.below H (by simp)
 have J:w2.cell? ⟨w.heap.size+1+1+1,0,none⟩=some (.string Y):=by rw[H.cell (by simp;omega)];exact F _ _
 have C:w2.cell? ⟨w.heap.size+1+1,1,none⟩=some (.string X):=by rw[H.cell (by simp;omega)];exact B _ _
 have K:ae w.heap.size w w2:=((U.alloc U.size _).alloc (by simp;omega) _).trans (H.mono (by simp;omega));clear H F B P N;have c0:=ga.c0;have c1:=ga.c1;have c2:=ga.c2;have T:Y.size<=30:=by omega
 have l:(k:Int)<(Y.size:Int):=by omega
 go_wp2_with fail
 refine(FI k q st Y _ (by omega)).mono ?_;rintro e S ⟨rfl,D⟩;rw[decide_eq_true l];clear c0 c1 c2;have I:=ga.below D ga.lt;have g:S.cell? ⟨w.heap.size+1+1+1,0,none⟩=some (.string Y):=by rw[D.cell (by have:=ga.lt;simp;omega)];exact J
 have c:S.cell? ⟨w.heap.size+1+1,1,none⟩=some (.string X):=by rw[D.cell (by have:=ga.lt;simp;omega)];exact C
 replace K:ae w.heap.size w S:=K.trans (D.mono K.size);clear D ga J C;have c0:=I.c0;have c1:=I.c1;have c2:=I.c2;clear I;go_wp2_with fail
 refine(Na X Y k q st _ G T hk r u n b).mono ?_;rintro e w3 ⟨v,rfl,E,A⟩;have R:ae w.heap.size w w3:=K.trans (A.mono K.size);clear A;have i:=BT Y X k q st (iJ Y.size k q) (stretches X.size st);have hsl:stretches X.size st<=400:=by
  unfold stretches;have:=dH (X.size+st-1) st;omega
 have x:=laid (Pz Y X k q st (iJ Y.size k q) (stretches X.size st));have HZ:=laid (fun z h=>bH (Nat.le_of_lt (OI Y X k q st (iJ Y.size k q) (stretches X.size st) z h)) (by omega:stretches X.size st<=9999));have j:=laid (show str (lW _ _)=O by rw[<-x.out];exact y.out);clear x y;generalize jr Y X k q st (iJ Y.size k q) (stretches X.size st)=zs at *;go_wp2_with fail
 refine(WY zs v _ _ E HZ.out (by omega) (HT.out.on R)).mono ?_;rintro e w4 ⟨rfl,Z⟩;rw[j.out];have M:ae w.heap.size w w4:=R.trans (Z.mono R.size);clear Z;go_wp2
 go_ret2
 exact⟨rfl,M⟩
theorem ady(ref gj:fa)(k q step:Int)(w:af)(U:iK w)(F:ref.size<=ao)(C:gj.size<=ao):
  ah Tryz.prog 28 #[.string ref,.string gj,.int .i64 k,.int .i64 q,.int .i64 step] w fun e w'=>
   e=.returned (.tuple #[.string (qz ref gj k q step),.int .i64 (mA ref gj k q step)])/\ae w.heap.size w w':=by
 by_cases Y:400<ref.size
 ·have K:qz ref gj k q step=⟨#[]⟩:=if_pos (.inl Y);have H:mA ref gj k q step=1:=if_pos Y;rw[K,H];exact abO ref _ k q _ w F Y
 by_cases hr:(je ref).2=true
 ·have K:qz ref gj k q step=⟨#[]⟩:=if_pos (.inr (.inl hr));have H:mA ref gj k q step=2:=by unfold mA;rw[if_neg Y,if_pos hr]
  rw[K,H];exact QD ref _ k q _ w 2 (if_pos hr) (.inl rfl) C Y (.inl hr)
 have A:=by simpa using hr
 by_cases D:gj.size<1\/30<gj.size\/gj.data.toList.all g_=false
 ·have K:qz ref gj k q step=⟨#[]⟩:=if_pos (.inr (.inr (by rcases D with h|h|h;exact .inl h;exact .inr (.inl h);exact .inr (.inr (.inl h)))));have H:mA ref gj k q step=5:=by unfold mA;rw[if_neg Y,if_neg hr,if_pos D]
  rw[K,H];exact QD ref _ k q _ w 5 (by unfold sb;rw[if_neg hr,if_pos D]) (.inr rfl) C Y (.inr D)
 have I:gj.data.toList.all g_=true:=by simp_all
 by_cases R:kS k gj.size q step=false
 ·have K:qz ref gj k q step=⟨#[]⟩:=if_pos (.inr (.inr (.inr (.inr (.inr R)))));have H:mA ref gj k q step=4:=by unfold mA;rw[if_neg Y,if_neg hr,if_neg D,if_pos R]
  rw[K,H];exact adx ref _ k q _ w Y A (by omega) (by omega) I R
 have K:qz ref gj k q step=str _:=if_neg (by simp_all);have H:mA ref gj k q step=0:=by unfold mA;rw[if_neg Y,if_neg hr,if_neg D,if_neg R]
 have B:=by
  rw[bP]at R;exact of_decide_eq_true R
 obtain⟨J,rfl⟩:=aZ B.1;obtain⟨L,rfl⟩:=aZ (show 0<=q by omega);obtain⟨M,rfl⟩:=aZ (show 0<=step by omega);rw[K,H];exact abP ref _ J L M w U Y A (by omega) (by omega) I (by omega) (by omega) (by omega) (by omega) (by omega) (by omega)
end
section
open RowKit Maps Go.Sort Shelf
theorem adz(m:Nat):AnyZI.SortsIn Tryz.prog Tryz.NB Fence.wide m:=
 ⟨fun blk off cap D W H Y K=>callsIn_wide.2 (AnyM.slices_Sort_int Tryz.SU blk off cap D W H Y K),
  fun p cap W=>callsIn_wide.2 (AnyM.slices_Sort_int_none Tryz.SU p cap W)⟩
theorem YP(Y:Option Nat)(W:af):
  ah Tryz.prog 124 #[.map Y] W fun e w'=>e=.returned (.func (.func 143) #[] #[.pointer (some ⟨W.heap.size,0,none⟩)])/\w'=W.alloc (.cells #[.map Y] 166):=by
 refine(dS (n:=5)).1 ?_;exact AnyZI.keys_in Tryz.SQ _ 5 trivial rfl Y W
theorem Xk{H:Type}(b C:Nat)(D0:aM H)(R:aj->Option _)(w:af)(Y:w.ownsMap Tryz.prog 3 R b C D0)(O:Maps.size D0<=10000):
  ah Tryz.prog 123 #[.func (.func 143) #[] #[.pointer (some ⟨w.heap.size,0,none⟩)]] (w.alloc (.cells #[.map (some b)] 166)) fun e w'=>∃(v:aj) (U:List Int),e=.returned v/\U.Perm (intKeys D0)/\
   w'.ownsRow w.heap.size 3 1 v U.length ((U.mergeSort (fun x y=>decide (x<=y))).map encZ)/\ae w.heap.size w w':=by
 refine(dS (n:=5)).1 ?_;have A:=Y.lt;have D:SeqGives Fence.wide 2 _ 143 _ _ _ _ (w.alloc (.cells #[.map (some b)] 166)):=
  AnyZI.keys_gives {Tryz.SQ with} _ _ trivial rfl (by omega) w.heap.size b C D0 _ (by simp) (by simp) (by
   have⟨es,clock,I,F,N,L⟩:=Y;exact⟨es,clock,(bO _ _ b A).trans I,F,N,L⟩)
 have J:=AnyZI.sorted_in Tryz.aff _ 5 trivial trivial trivial trivial rfl (by omega) (adz _) (enters_of Tryz.func142 (by kernel_rfl) rfl) 143 _ trivial (enters_of Tryz.func143 (by kernel_rfl) rfl) _ _ (by unfold ao;omega) (by omega) _ D;refine J.mono ?_;rintro e w' ⟨v,U,rfl,M,K,B,I⟩;exact⟨v,U,rfl,M,ownsRow_base_a K (by simp),((au _ w).alloc (ai _) _).trans (I.mono (by simp))⟩
end
section
structure Good(q:Nat)(p t:fa)(i j:Nat)(l:List (Nat×Nat)):Prop where
 Ff:∀w∈l,w.1+q<=i/\w.2+q<=j/\∀u,u<q->ag (at8 p (w.1+u)) (at8 t (w.2+u))=true
 up:l.Pairwise fun a b=>a.1<b.1/\a.2<b.2
theorem Good.nil(q:Nat)(p t:fa)(i j:Nat):Good q p t i j []:=⟨fun _ h=>by simp at h,List.Pairwise.nil⟩
theorem Good.mono{p t:fa}{i' j':Nat}{l:List _}(h:Good q p t i j l)(Y:i<=i')(K:j<=j'):Good q p t i' j' l:=
 ⟨fun w hw=>by have:=h.Ff w hw;exact⟨by omega,by omega,this.2.2⟩,h.up⟩
structure rI(p t:fa)(i j r:Nat):Prop where
 li:r<=i
 lj:r<=j
 all:∀u,u<r->ag (at8 p (i-1-u)) (at8 t (j-1-u))=true
theorem rI.zero(p t:fa)(i j:Nat):rI p t i j 0:=⟨ay _,ay _,fun u h=>by omega⟩
theorem rI.succ{p t:fa}{r:Nat}(h:rI p t i j r)(Y:ag (at8 p i) (at8 t j)=true):rI p t (i+1) (j+1) (r+1):=
 ⟨by have:=h.li;omega,by have:=h.lj;omega,fun u K=>by
  cases u with
  |zero=>simpa using Y
  |succ u=>
   have:=h.all u (by omega);rw[show i+1-1-(u+1)=i-1-u by omega,show j+1-1-(u+1)=j-1-u by omega];omega⟩
theorem B6(q:Nat)(R:1<=q)(p t:fa):∀i j,∃l r,Good q p t i j l/\rI p t i j r/\i+(q-1-min r (q-1))<=l.length+q *dT p t i j+(q-1)
 |0,j=>⟨[],0,Good.nil _ _ _ _ _,rI.zero _ _ _ _,by
   have:0<=q *dT p t 0 j:=ay _;simp only[bk];omega⟩
 |i+1,0=>⟨[],0,Good.nil _ _ _ _ _,rI.zero _ _ _ _,by
   rw[dT];have:i+1<=q *(i+1):=Nat.le_mul_of_pos_left _ R;simp only[bk];omega⟩
 |i+1,j+1=>by
  have D:dT p t (i+1) (j+1)=dT p t i j+cost p t i j\/dT p t (i+1) (j+1)=dT p t i (j+1)+1\/dT p t (i+1) (j+1)=dT p t (i+1) j+1:=by rw[dT];omega
  rcases D with h|h|h
  ·have⟨l,r,K,hr,H⟩:=B6 q R p t i j;by_cases I:ag (at8 p i) (at8 t j)=true
   ·have U:cost p t i j=0:=if_pos I;have h:dT p t (i+1) (j+1)=dT p t i j:=by rw[h,U];rfl
    rw[h];have Y:=hr.succ I;by_cases C:q<=r+1
    ·refine⟨l++[(i+1-q,j+1-q)],r+1,⟨fun w hw=>?_,?_⟩,Y,?_⟩
     ·rw[bF,bm]at hw;rcases hw with hw|hw
      ·have:=K.Ff w hw;exact⟨by omega,by omega,this.2.2⟩
      ·subst hw;have F:=Y.li;have J:=Y.lj;refine⟨by simp only;omega,by simp only;omega,fun u L=>?_⟩;have:=Y.all (q-1-u) (by omega);simp only;rw[show i+1-q+u=i+1-1-(q-1-u) by omega,show j+1-q+u=j+1-1-(q-1-u) by omega];exact this
     ·refine dB.2 ⟨K.up,List.pairwise_singleton _ _,fun a A b B=>?_⟩;rw[bm]at B;subst B;have:=K.Ff a A;simp only;omega
     ·rw[ar];simp only[aX,bk];omega
    ·exact⟨l,r+1,K.mono (by omega) (by omega),Y,by omega⟩
   ·have U:cost p t i j=1:=if_neg I;rw[U]at h;rw[h,cO];exact⟨l,0,K.mono (by omega) (by omega),rI.zero _ _ _ _,by omega⟩
  ·have⟨l,r,K,hr,H⟩:=B6 q R p t i (j+1);rw[h,cO];exact⟨l,0,K.mono (by omega) (by omega),rI.zero _ _ _ _,by omega⟩
  ·have⟨l,r,K,hr,H⟩:=B6 q R p t (i+1) j;rw[h,cO];exact⟨l,0,K.mono (by omega) (by omega),rI.zero _ _ _ _,by omega⟩
theorem Cj(P:Nat->Bool):∀k (xs:List Nat),xs.Nodup->(∀x∈xs,x<k/\P x=true)->xs.length<=((List.range k).countP P)
 |0,xs,_,h=>by
  cases xs with
  |nil=>simp
  |cons a l=>have:=(h a (by simp)).1;omega
 |k+1,xs,K,h=>by
  rw[dC,aN];by_cases hk:k∈xs
  ·have R:=(h k hk).2;have D:=Cj P k _ (K.erase k) (fun x Y=>by
    have H:=(K.mem_erase_iff).1 Y;have:=h x H.2;exact⟨by omega,this.2⟩)
   simp_all
  ·have D:=Cj P k xs K (fun x Y=>by
    have:x≠k:=fun e=>hk (e▸Y);have:=h x Y;exact⟨by omega,this.2⟩)
   omega
theorem Ck(s:fa)(q:Nat)(z:List _)(Y:lH z=true):∀k,ja s q z k=(List.range k).countP (fun x=>decide (iC s q x=z))
 |0=>rfl
 |k+1=>by
  rw[ja,Ck s q z Y k,dC,aN];simp_all
theorem PA(f:Nat×Nat->List _)(Y:List _):∀(l:List _),(∀w∈l,f w∈Y)->l.length<=jQ (fun z=>l.countP (fun w=>decide (f w=z))) Y
 |[],_=>ay _
 |w::l,h=>by
  have I:=PA f Y l (fun w' U=>h w' (by simp_all));have H:1<=jQ (fun z=>if f w=z then 1 else 0) Y:=by
   have A:=h w (by simp);clear I h;induction Y with
   |nil=>simp at A
   |cons a Y D=>
    have e:jQ (fun z=>if f w=z then 1 else 0) (a::Y)=(if f w=a then 1 else 0)+jQ (fun z=>if f w=z then 1 else 0) Y:=by simp[jQ]
    rw[e];by_cases B:f w=a
    ·simp_all
    ·simp_all
  have K:jQ (fun z=>(w::l).countP (fun w=>decide (f w=z))) Y=jQ (fun z=>l.countP (fun w=>decide (f w=z))) Y+jQ (fun z=>if f w=z then 1 else 0) Y:=by
   clear I H h;induction Y with
   |nil=>rfl
   |cons a Y D=>
    have R:∀g,jQ g (a::Y)=g a+jQ g Y:=fun g=>by simp[jQ]
    rw[R,R,R,D];have:(w::l).countP (fun w=>decide (f w=a))=l.countP (fun w=>decide (f w=a))+(if f w=a then 1 else 0):=by
     rw[List.countP_cons];simp
    omega
  rw[K,aX];omega
theorem adA(f g:List _->Nat)(Y:List _)(h:∀z∈Y,f z<=g z):jQ f Y<=jQ g Y:=by
 induction Y with
 |nil=>exact ai _
 |cons a Y D=>
  have K:∀g,jQ g (a::Y)=g a+jQ g Y:=fun g=>by simp[jQ]
  rw[K,K];have:=D (fun z H=>h z (by simp[H]));have:=h a (by simp);omega
theorem YQ(p S:fa)(q:Nat)(F:1<=q)(l:List (Nat×Nat))(B:l.Pairwise fun a b=>a.1<b.1/\a.2<b.2)
  (H:∀w∈l,w.1+q<=p.size/\w.2+q<=S.size/\iC p q w.1=iC S q w.2/\lH (iC p q w.1)=true):l.length<=mB p S q:=by
 have U:=BH p q (p.size+1-q);have Y:=fun z=>B5 p q z (p.size+1-q);rw[<-OG p S q F _ U Y];refine bH (PA (fun w=>iC p q w.1) _ l (fun w hw=>?_)) (adA _ _ _ (fun z J=>?_))
 ·have h:=H w hw;rw[Y,Ck p q _ h.2.2.2];refine List.countP_pos_iff.2 ⟨w.1,by rw[List.mem_range];omega,by simp⟩
 ·have L:=(Y z).1 J;have R:lH z=true:=by
   cases A:lH z with
   |true=>rfl
   |false=>
    have:∀k,ja p q z k=0:=fun k=>by
     induction k with
     |zero=>rfl
     |succ k M=>rw[ja,M,if_neg (fun e=>by simp_all)]
    simp_all
  have I:l.countP _=(l.filter (fun w=>decide (iC p q w.1=z))).length:=List.countP_eq_length_filter;have C:(l.filter (fun w=>decide (iC p q w.1=z))).Pairwise _:=B.filter _;have K:∀w∈l.filter (fun w=>decide (iC p q w.1=z)),w.1+q<=p.size/\w.2+q<=S.size/\iC p q w.1=z/\iC S q w.2=z:=fun w hw=>by
   rw[List.mem_filter]at hw;have h:=H w hw.1;simp_all
  generalize l.filter (fun w=>decide (iC p q w.1=z))=m at *;have N:m.length<=mb p q z:=by
   unfold mb;rw[Ck p q z R];have A:(m.map (·.1)).Nodup:=cJ.2 (C.imp fun h=>by omega);have:=Cj (fun x=>decide (iC p q x=z)) (p.size+1-q) _ A (fun x D=>by
    rw[bU]at D;obtain⟨w,hw,rfl⟩:=D;have:=K w hw;exact⟨by omega,decide_eq_true this.2.2.1⟩)
   simpa using this
  have O:m.length<=mb S q z:=by
   unfold mb;rw[Ck S q z R];have A:(m.map (·.2)).Nodup:=cJ.2 (C.imp fun h=>by omega);have:=Cj (fun x=>decide (iC S q x=z)) (S.size+1-q) (m.map (·.2)) A (fun x D=>by
    rw[bU]at D;obtain⟨w,hw,rfl⟩:=D;have:=K w hw;exact⟨by omega,decide_eq_true this.2.2.2⟩)
   simpa using this
  unfold nS;omega
theorem xJ(X:fa)(a c i:Nat)(Y:c<=X.size)(K:a+i<c):at8 (X.extract a c) i=at8 X (a+i):=by
 unfold at8;rw[bB,bA];simp only[aA];rw[List.getElem?_take,if_pos (by omega),cD]
theorem SX{a b:UInt8}(h:ag a b=true):a=b/\a≠78:=by
 unfold ag at h;simp at h;exact h
theorem Ik(s:fa)(q x:Nat)(h:x+q<=s.size):(iC s q x).length=q:=by
 show(s.extract x _).size=q;simp_all
theorem Il(s:fa)(q x u:Nat)(h:x+q<=s.size)(H:u<q):(iC s q x)[u]?=some (at8 s (x+u)):=by
 have Y:=xJ s x _ u h (by omega);unfold at8 at Y;unfold iC;have K:u<(s.extract x (x+q)).data.toList.length:=by
  show u<(s.extract x _).size;simp_all
 rw[aA,aB K]at Y;rw[aB K];simp only[Option.getD_some]at Y;rw[Y];rfl
theorem afr{p:fa}(K:x+q<=p.size)(H:y+q<=S.size)(h:∀u,u<q->at8 p (x+u)=at8 S (y+u)):iC p q x=iC S q y:=by
 apply List.ext_getElem?;intro u;by_cases Y:u<q
 ·rw[Il p q x u K Y,Il S q y u H Y,h u Y]
 ·rw[dx (by rw[Ik p q x K];omega),dx (by rw[Ik S q y H];omega)]
theorem agT{p:fa}(Y:x+q<=p.size)(h:∀u,u<q->at8 p (x+u)≠78):lH (iC p q x)=true:=by
 unfold lH;rw[Bool.not_eq_true',<-aQ,cA];intro H;have⟨u,D,e⟩:=cG H;have R:=Ik p q x Y;have K:=Il p q x u Y (by omega);rw[aB D,e]at K;exact h u (by omega) (by simp_all)
theorem WZ(p X:fa)(k q a c s e:Nat)(U:1<=q)(has:a<=s)(J:s<=e)(B:e<=c)(K:c<=X.size)(hd:iX p (X.extract s e)<=k):
  iJ p.size k q<=(mB p (X.extract a c) q:Int):=by
 have⟨l,r,I,hr,F⟩:=B6 q U p (X.extract s e) p.size (X.extract s e).size;have Y:(X.extract s e).size=e-s:=by rw[aW];omega
 have R:(X.extract a c).size=c-a:=by simp_all
 have A:l.length<=mB p (X.extract a c) q:=by
  have C:(l.map fun w=>(w.1,w.2+(s-a))).length=l.length:=bS ..;rw[<-C];refine YQ p (X.extract a c) q U _ (cJ.2 (I.up.imp fun h=>by simp only;omega)) (fun w hw=>?_);rw[bU]at hw;obtain⟨v,L,rfl⟩:=hw;have h:=I.Ff v L;rw[Y]at h;refine⟨h.1,by rw[R];simp only;omega,afr h.1 (by rw[R];simp only;omega) (fun u H=>?_),agT h.1 (fun u H=>(SX (h.2.2 u H)).2)⟩;have D:=(SX (h.2.2 u H)).1;rw[xJ X s e _ (by omega) (by omega)]at D;simp only;rw[xJ X a c _ K (by omega),D];congr 1;omega
 unfold iX at hd;have M:=Nat.mul_le_mul_left q hd;unfold iJ;rw[cP k q];omega
theorem Du(p t:fa):∀i j,j<=i+dT p t i j/\i<=j+dT p t i j
 |0,j=>by simp[dT]
 |i+1,0=>by simp[dT]
 |i+1,j+1=>by
  have Y:=Du p t i j;have K:=Du p t i (j+1);have H:=Du p t (i+1) j;rw[dT];omega
theorem HA(p X:fa)(k s e:Nat)(H:s<=e)(K:e<=X.size)(hd:iX p (X.extract s e)<=k):e<=s+p.size+k:=by
 have h:=(Du p (X.extract s e) p.size (X.extract s e).size).1;have Y:(X.extract s e).size=e-s:=by simp_all
 unfold iX at hd;omega
theorem aae(p X:fa)(k q st s e:Nat)(R:1<=q)(ga:1<=st)(Y:s<=e)(K:e<=X.size)(hd:iX p (X.extract s e)<=k):
  looked p X k q st (iJ p.size k q) ((e-(p.size+k))/st)=true:=by
 have H:=HA p X k s e Y K hd;have I:(e-(p.size+k))/st *st<=e-(p.size+k):=dI _ _;have D:e-(p.size+k)<(e-(p.size+k))/st *st+st:=by
  have:=dG (e-(p.size+k)) st;have A:=Nat.mod_lt (e-(p.size+k)) (show 0<st by omega);rw[cP]at this;omega
 unfold looked;rw[cv];right;refine decide_eq_true ?_;refine WZ p X k q _ _ s e R (by omega) Y ?_ ?_ hd
 ·unfold nF;omega
 ·unfold nF;omega
theorem zJ{p t p' t':fa}:∀i j,(∀x,x<i->at8 p x=at8 p' x)->(∀y,y<j->at8 t y=at8 t' y)->dT p t i j=dT p' t' i j
 |0,j,_,_=>by simp[dT]
 |i+1,0,_,_=>by simp[dT]
 |i+1,j+1,Y,K=>by
  rw[dT,dT,zJ i j (fun x h=>Y x (by omega)) (fun y h=>K y (by omega)),zJ i _ (fun x h=>Y x (by omega)) K,zJ _ j Y (fun y h=>K y (by omega))];unfold cost;simp_all
def dF(p t:fa)(s i j:Nat):=dT p (t.extract s t.size) i (j-s)
theorem aix(p t:fa)(s e i:Nat)(K:s<=e)(Y:e<=t.size):dT p (t.extract s e) i (e-s)=dF p t s i e:=by
 refine zJ i _ (fun _ _=>rfl) (fun y H=>?_);rw[xJ t s e y Y (by omega),xJ t s _ y (ai _) (by omega)]
theorem QE(p t:fa)(s e:Nat)(K:s<=e)(Y:e<=t.size):iX p (t.extract s e)=dF p t s p.size e:=by
 have h:(t.extract s e).size=e-s:=by simp_all
 unfold iX;rw[h];exact aix p t s e _ K Y
theorem x7(p t:fa)(s i:Nat):dF p t s i s=i:=by
 unfold dF;cases i<;>simp[dT]
theorem CP(p t:fa)(s i j:Nat)(K:s<=j)(Y:j<t.size):dF p t s (i+1) (j+1)=min (min (dF p t s i j+cost p t i j) (dF p t s i (j+1)+1)) (dF p t s (i+1) j+1):=by
 unfold dF;rw[show j+1-s=(j-s)+1 by omega,dT];have:cost p (t.extract s t.size) i (j-s)=cost p t i j:=by
  unfold cost;rw[xJ t s _ _ (ai _) (by omega),show s+(j-s)=j by omega]
 omega
def sT(p t:fa)
 |0,_=>0
 |i+1,0=>i+1
 |i+1,j+1=>min (min (sT p t i j+cost p t i j) (sT p t i (j+1)+1)) (sT p t (i+1) j+1)
theorem Im(p t:fa):∀i j,sT p t i j<=i
 |0,j=>by simp[sT]
 |i+1,0=>by simp[sT]
 |i+1,j+1=>by have:=Im p t i (j+1);rw[sT];omega
theorem Am(p t:fa):∀i j,j<=t.size->∀s,s<=j->sT p t i j<=dF p t s i j
 |0,j,_,s,_=>by simp[sT]
 |i+1,0,_,s,Y=>by
  have:s=0:=by omega
  subst this;rw[x7];exact Im p t _ _
 |i+1,j+1,K,s,Y=>by
  rcases aK j s with h|h
  ·have:s=j+1:=by omega
   subst this;rw[x7];exact Im p t _ _
  ·have H:=Am p t i j (by omega) s h;have D:=Am p t i (j+1) K s Y;have R:=Am p t (i+1) j (by omega) s h;rw[sT,CP p t s i j h (by omega)];omega
theorem Dv(p t:fa):∀i j,j<=t.size->∃s,s<=j/\dF p t s i j=sT p t i j
 |0,j,_=>⟨j,ai _,by rw[x7,sT]⟩
 |i+1,0,_=>⟨0,ai _,by rw[x7,sT]⟩
 |i+1,j+1,D=>by
  have key:∃s,s<=j+1/\dF p t s (i+1) (j+1)<=sT p t (i+1) (j+1):=by
   have K:sT p t (i+1) (j+1)=sT p t i j+cost p t i j\/sT p t (i+1) (j+1)=sT p t i (j+1)+1\/sT p t (i+1) (j+1)=sT p t (i+1) j+1:=by rw[sT];omega
   rcases K with h|h|h
   ·obtain⟨s,Y,e⟩:=Dv p t i j (by omega);exact⟨s,by omega,by rw[CP p t s i j Y (by omega),h];omega⟩
   ·have⟨s,Y,e⟩:=Dv p t i (j+1) D;rcases aK j s with h'|h'
    ·have:s=j+1:=by omega
     subst this;rw[x7]at e;exact⟨j+1,ai _,by rw[x7,h];omega⟩
    ·exact⟨s,Y,by rw[CP p t s i j h' (by omega),h];omega⟩
   ·obtain⟨s,Y,e⟩:=Dv p t (i+1) j (by omega);exact⟨s,by omega,by rw[CP p t s i j Y (by omega),h];omega⟩
  have⟨s,Y,H⟩:=key;exact⟨s,Y,dJ H (Am p t (i+1) (j+1) D s Y)⟩
theorem NP(p t:fa)(k e:Nat):∀c,c<=e+1->
  (∀x,x<c->(iZ p t k e c).1<=iX p (t.extract (e-x) e))/\
  ((iZ p t k e c).1<=k->∃x,x<c/\(iZ p t k e c).2=e-x/\iX p (t.extract (e-x) e)=(iZ p t k e c).1/\∀y,y<x->(iZ p t k e c).1<iX p (t.extract (e-y) e))
 |0,_=>⟨fun x h=>by omega,fun h=>by simp[iZ]at h;omega⟩
 |c+1,I=>by
  obtain⟨K,D⟩:=NP p t k e c (by omega);by_cases h:iX p (t.extract (e-c) e)<(iZ p t k e c).1
  ·rw[iZ,if_pos h];refine⟨fun x H=>?_,fun hk=>⟨c,by omega,rfl,rfl,fun y R=>?_⟩⟩
   ·rcases aK x c with Y|Y
    ·have:=K x Y;omega
    ·have:x=c:=by omega
     simp_all
   ·have:=K y R;omega
  ·rw[iZ,if_neg h];refine⟨fun x H=>?_,fun hk=>?_⟩
   ·rcases aK x c with Y|Y
    ·simp_all
    ·have:x=c:=by omega
     subst this;omega
   ·have⟨x,H,a,b,d⟩:=D hk;exact⟨x,by omega,a,b,d⟩
theorem Cl(p t:fa)(k e:Nat)(K:e<=t.size):
  (∀s,s<=e->iX p (t.extract s e)<=k->(il p t k e).1<=iX p (t.extract s e))/\
  ((il p t k e).1<=k->(il p t k e).2<=e/\iX p (t.extract (il p t k e).2 e)=(il p t k e).1/\(∀s,s<=e->(il p t k e).1<=iX p (t.extract s e))/\∀s,(il p t k e).2<s->s<=e->(il p t k e).1<iX p (t.extract s e)):=by
 have U:tries p k e=min e _+1:=rfl;obtain⟨D,R⟩:=NP p t k e (tries p k e) (by omega);have H:=fun s Y hd=>by
  have B:=HA p t k s e Y K hd;have:=D (e-s) (by omega);rw[show e-(e-s)=s by omega]at this;exact this
 refine⟨H,fun hk=>?_⟩;have⟨x,C,a,b,d⟩:=R hk;refine⟨BE p t k e _,by unfold il;rw[a];exact b,fun s Y=>?_,fun s Y A=>?_⟩
 ·rcases aK k (iX p (t.extract s e))with h|h
  ·omega
  ·exact H s Y h
 ·have I:(il p t k e).2=e-x:=a;have:=d (e-s) (by omega);rw[show e-(e-s)=s by omega]at this;exact this
theorem MF(X:fa)(a c s e:Nat)(has:a<=s)(H:s<=e)(K:e<=c)(Y:c<=X.size):(X.extract a c).extract (s-a) (e-a)=X.extract s e:=by
 rw[<-Ci];simp only[bB,bA,cC];rw[List.drop_take,List.drop_drop,List.take_take,show a+(s-a)=s by omega];congr 1;omega
theorem aaf(p X:fa)(a c s e:Nat)(has:a<=s)(H:s<=e)(K:e<=c)(Y:c<=X.size):sT p (X.extract a c) p.size (e-a)<=iX p (X.extract s e):=by
 have D:(X.extract a c).size=c-a:=by simp_all
 have:=Am p (X.extract a c) p.size (e-a) (by omega) (s-a) (by omega);rw[<-QE p _ _ _ (by omega) (by omega),MF X a c s e has H K Y]at this;omega
theorem aag(p X:fa)(a c e:Nat)(H:a<=e)(K:e<=c)(Y:c<=X.size):∃s,a<=s/\s<=e/\iX p (X.extract s e)=sT p (X.extract a c) p.size (e-a):=by
 have R:(X.extract a c).size=c-a:=by simp_all
 obtain⟨s,D,h⟩:=Dv p (X.extract a c) _ (e-a) (by omega);rw[<-QE p _ s _ D (by omega)]at h;have:=MF X a c (a+s) e (by omega) (by omega) K Y;rw[show a+s-a=s by omega]at this;rw[this]at h;exact⟨a+s,by omega,by omega,h⟩
theorem Mx(p X:fa)(k a c e:Nat)(Y:a<=e)(H:e<=c)(K:c<=X.size)(hk:sT p (X.extract a c) p.size (e-a)<=k):(il p X k e).1<=sT p (X.extract a c) p.size (e-a):=by
 have⟨s,has,D,h⟩:=aag p X a c e Y H K;rw[<-h]at hk⊢;exact(Cl p X k e (by omega)).1 s D hk
theorem XU(p X:fa)(k st e:Nat)(ga:1<=st)(H:e<=X.size)(hk:(il p X k e).1<=k):
  (e-(p.size+k))/st *st<=e/\e<=nF p.size X.size k st ((e-(p.size+k))/st)/\sT p (X.extract ((e-(p.size+k))/st *st) (nF p.size X.size k st ((e-(p.size+k))/st))) p.size (e-(e-(p.size+k))/st *st)=(il p X k e).1:=by
 have⟨R,A,B,C⟩:=(Cl p X k e H).2 hk;have I:=HA p X k _ e R H (by omega);have F:(e-(p.size+k))/st *st<=e-(p.size+k):=dI _ _;have U:e-(p.size+k)<(e-(p.size+k))/st *st+st:=by
  have:=dG (e-(p.size+k)) st;have J:=Nat.mod_lt (e-(p.size+k)) (show 0<st by omega);rw[cP]at this;omega
 have Y:e<=nF p.size X.size k st ((e-(p.size+k))/st):=by unfold nF;omega
 have K:nF p.size X.size k st ((e-(p.size+k))/st)<=X.size:=by unfold nF;omega
 refine⟨by omega,Y,?_⟩;have D:=aaf p X _ _ _ e (show(e-(p.size+k))/st *st<=(il p X k e).2 by omega) R Y K;rw[A]at D;exact dJ D (Mx p X k _ _ e (by omega) Y K (by omega))
inductive Ed:List UInt8->List UInt8->Nat->Prop
 |nil:Ed [] [] 0
 |sub {x y:List UInt8} {n:Nat} (a b:UInt8):Ed x y n->Ed (x++[a]) (y++[b]) (n+co a b)
 |del {x y:List UInt8} {n:Nat} (a:UInt8):Ed x y n->Ed (x++[a]) y (n+1)
 |ins {x y:List UInt8} {n:Nat} (b:UInt8):Ed x y n->Ed x (y++[b]) (n+1)
theorem Ed.ajP{x y:List _}{n:Nat}(a b:UInt8)(h:Ed x y n):Ed (a::x) (b::y) (n+co a b):=by
 induction h with
 |nil=>simpa using Ed.sub a b Ed.nil
 |@sub x y n c d _ Y=>have:=Ed.sub c d Y;rw[show n+co c d+co a b=n+co a b+co c d by omega];exact this
 |@del x y n c _ Y=>have:=Ed.del c Y;rw[show n+1+co a b=n+co a b+1 by omega];exact this
 |@ins x y n d _ Y=>have:=Ed.ins d Y;rw[show n+1+co a b=n+co a b+1 by omega];exact this
theorem Ed.ajQ{x y:List _}{n:Nat}(a:UInt8)(h:Ed x y n):Ed (a::x) y (n+1):=by
 induction h with
 |nil=>simpa using Ed.del a Ed.nil
 |@sub x y n c d _ Y=>have:=Ed.sub c d Y;rw[show n+co c d+1=n+1+co c d by omega];exact this
 |@del x y n c _ Y=>exact Ed.del c Y
 |@ins x y n d _ Y=>exact Ed.ins d Y
theorem Ed.ajR{x y:List _}{n:Nat}(b:UInt8)(h:Ed x y n):Ed x (b::y) (n+1):=by
 induction h with
 |nil=>simpa using Ed.ins b Ed.nil
 |@sub x y n c d _ Y=>have:=Ed.sub c d Y;rw[show n+co c d+1=n+1+co c d by omega];exact this
 |@del x y n c _ Y=>exact Ed.del c Y
 |@ins x y n d _ Y=>exact Ed.ins d Y
theorem Ed.rev{x y:List _}{n:Nat}(h:Ed x y n):Ed x.reverse y.reverse n:=by
 induction h with
 |nil=>exact .nil
 |sub a b _ Y=>rw[bV,bV];exact Y.ajP a b
 |del a _ Y=>rw[bV];exact Y.ajQ a
 |ins b _ Y=>rw[bV];exact Y.ajR b
theorem vC(s:fa)(i:Nat)(h:i<s.size):s.data.toList.take (i+1)=s.data.toList.take i++[at8 s i]:=by
 rw[List.take_succ_eq_append_getElem _];unfold at8;rw[aA,aB (by simp_all)];rfl
theorem IZ(p t:fa)(i:Nat):dT p t i 0=i:=by
 cases i with
 |zero=>rw[dT]
 |succ i=>rw[dT]
theorem Ed.yA(p t:fa):∀i j,i<=p.size->j<=t.size->Ed (p.data.toList.take i) (t.data.toList.take j) (dT p t i j)
 |0,0,_,_=>by simpa[dT]using Ed.nil
 |0,j+1,Y,K=>by
  have:=Ed.ins (at8 t j) (Ed.yA p t 0 j Y (by omega));rw[<-vC t j (by omega)]at this;simpa[dT]using this
 |i+1,0,Y,K=>by
  have I:dT p t i 0=i:=IZ p t i;have:=Ed.del (at8 p i) (Ed.yA p t i 0 (by omega) K);rw[<-vC p i (by omega),I]at this;simpa[dT]using this
 |i+1,j+1,Y,K=>by
  have H:=Ed.sub (at8 p i) (at8 t j) (Ed.yA p t i j (by omega) (by omega));have R:=Ed.del (at8 p i) (Ed.yA p t i (j+1) (by omega) K);have D:=Ed.ins (at8 t j) (Ed.yA p t (i+1) j Y (by omega));rw[<-vC p i (by omega),<-vC t j (by omega)]at H;rw[<-vC p i (by omega)]at R;rw[<-vC t j (by omega)]at D;have A:co (at8 p i) (at8 t j)=cost p t i j:=rfl;rw[A]at H;rw[dT];rcases cK (dT p t i j+cost p t i j) (dT p t i (j+1)+1)with a|a
  ·rw[cL a];rcases cK (dT p t i j+cost p t i j) (dT p t (i+1) j+1)with b|b
   ·rw[cL b];exact H
   ·rw[cM b];exact D
  ·rw[cM a];rcases cK (dT p t i (j+1)+1) (dT p t (i+1) j+1)with b|b
   ·rw[cL b];exact R
   ·rw[cM b];exact D
theorem CB{x:List _}{a:UInt8}(H:(x++[a]).length<=s.size)(h:x++[a]=s.data.toList.take (x++[a]).length):x.length<s.size/\x=s.data.toList.take x.length/\a=at8 s x.length:=by
 have Y:=by simp at H;omega
 rw[ar,bE,vC s _ Y]at h;have:=List.append_inj h (by simp;omega);refine⟨Y,this.1,?_⟩;have K:=this.2;simpa using K
theorem Ed.le{x y:List UInt8}{n:Nat}(h:Ed x y n)(p t:fa):x.length<=p.size->y.length<=t.size->x=p.data.toList.take x.length->y=t.data.toList.take y.length->dT p t x.length y.length<=n:=by
 induction h with
 |nil=>simp[dT]
 |@sub x y n a b _ R=>
  intro Y K H D;obtain⟨a1,a2,a3⟩:=CB Y H;obtain⟨C,I,A⟩:=CB K D;have:=R (by omega) (by omega) a2 I;rw[ar,ar,bE,bE,dT,a3,A];have J:co _ _=cost p t x.length y.length:=rfl;omega
 |@del x y n a _ R=>
  intro Y K H D;obtain⟨a1,a2,a3⟩:=CB Y H;have:=R (by omega) K a2 D;rw[ar,bE];cases B:y.length with
  |zero=>
   rw[B]at this;have F:dT p t _ 0=x.length:=IZ p t _;rw[dT];omega
  |succ j=>rw[B]at this;rw[dT];omega
 |@ins x y n b _ R=>
  intro Y K H D;obtain⟨C,I,A⟩:=CB K D;have:=R Y (by omega) H I;rw[ar,bE];cases U:x.length with
  |zero=>rw[U]at this;simp[dT]at this⊢;omega
  |succ i=>rw[U]at this;rw[dT];omega
def rev8(s:fa):=str s.data.toList.reverse
theorem vL(s:fa):(rev8 s).size=s.size:=by unfold rev8;rw[h_];simp
theorem Cm(s:fa):(rev8 s).data.toList=s.data.toList.reverse:=by simp[rev8,str]
theorem NQ(p t:fa):iX (rev8 p) (rev8 t)<=iX p t:=by
 have h:=(Ed.yA p t _ _ (ai _) (ai _)).rev;have Y:p.data.toList.take p.size=p.data.toList:=bG (by simp);have K:t.data.toList.take t.size=t.data.toList:=bG (by simp);rw[Y,K]at h;have:=h.le (rev8 p) (rev8 t) (by rw[vL];simp) (by rw[vL];simp) (by rw[Cm,bG (by simp)]) (by rw[Cm,bG (by simp)]);unfold iX;rw[vL,vL];simp_all
theorem PB(s:fa):rev8 (rev8 s)=s:=by
 simp[rev8,str]
theorem adB(p t:fa):iX (rev8 p) (rev8 t)=iX p t:=by
 have K:=NQ p t;have Y:=NQ (rev8 p) (rev8 t);rw[PB,PB]at Y;omega
def ns(X o:fa)(e:Nat)
 |0=>id
 |c+1=>mD (ns X o e c) (c+1) (at8 X (e-(c+1))) o
theorem afs(a b:UInt8):co a b=co b a:=by
 unfold co ag;by_cases h:a=b
 ·simp_all
 ·have Y:(a==b)=false:=by simp_all
  have K:(b==a)=false:=by simpa using fun e=>h e.symm
  simp_all
theorem Rt(X:fa)(e c:Nat)(H:e<=X.size)(K:c<e):at8 (rev8 (X.extract 0 e)) c=at8 X (e-(c+1)):=by
 unfold at8;rw[Cm];have Y:(X.extract 0 e).data.toList.length=e:=by simp;omega
 rw[aA,dz (by omega),aA,Y];congr 1;simp only[bB,bA];rw[dA (by omega),cD];congr 1;omega
theorem C7(X o:fa)(e:Nat)(Y:e<=X.size):∀c,c<=e->∀j,ns X o e c j=dT o (rev8 (X.extract 0 e)) j c
 |0,_,j=>by rw[IZ];rfl
 |c+1,K,0=>by rw[dT];rfl
 |c+1,K,j+1=>by
  have H:=C7 X o e Y c (by omega) j;have i2:=C7 X o e Y c (by omega) (j+1);have i3:=C7 X o e Y (c+1) K j;rw[dT];show min _ (ns X o e (c+1) j+1)=_
  rw[H,i2,i3,afs,<-Rt X e c Y (by omega)];have K:co _ _=cost o (rev8 (X.extract 0 e)) j c:=rfl;omega
theorem QF(X P:fa)(e c:Nat)(Y:e<=X.size)(K:c<=e):ns X (rev8 P) e c P.size=iX P (X.extract (e-c) e):=by
 rw[C7 X (rev8 P) e Y c K,<-adB P (X.extract (e-c) e)];unfold iX;have D:(rev8 (X.extract (e-c) e)).size=c:=by rw[vL,aW];omega
 rw[vL,D];refine zJ _ _ (fun _ _=>rfl) fun y R=>?_;rw[Rt X e y Y (by omega)];unfold at8;rw[Cm];have H:(X.extract (e-c) e).data.toList.length=c:=by simp;omega
 rw[aA,aA,dz (by omega),H];congr 1;simp only[bB,bA];rw[cC];rw[dA (by omega),cD];congr 1;omega
def pS(p t:fa)(k n:Nat):=(i_ p t k n).map (·.2.1)
def jg(p t:fa)(k:Nat):=(lT p t k).map (·.2.1)
theorem G0(p t:fa)(k e:Nat):∀n,e∈pS p t k n↔e<n/\(il p t k e).1<=k
 |0=>by simp[pS,i_]
 |n+1=>by
  have Y:=G0 p t k e n;unfold pS at *;rw[i_];split
  ·rw[bT,bF,Y];simp;constructor
   ·rintro(⟨a,b⟩|rfl)
    ·omega
    ·omega
   ·omega
  ·rename_i h;rw[Y];constructor
   ·omega
   ·rintro⟨a,b⟩;by_cases K:e<n
    ·omega
    ·have:e=n:=by omega
     subst this;omega
theorem OJ(p t:fa)(k:Nat):∀n,(pS p t k n).Pairwise (· < ·)
 |0=>by simp[pS,i_]
 |n+1=>by
  have K:=OJ p t k n;have Y:=fun e=>G0 p t k e n;unfold pS at *;rw[i_];split
  ·rw[bT,dB];simp_all
  ·omega
theorem G2(p t:fa)(k e:Nat):e∈jg p t k↔e<=t.size/\(il p t k e).1<=k:=by
 have:=G0 p t k e (t.size+1);unfold pS at this;unfold jg lT;rw[this];omega
theorem aah(p t:fa)(k:Nat):(jg p t k).Pairwise (· < ·):=OJ p t k _
theorem PD(p t:fa)(k:Nat):∀n,(pS p t k n).length<=n
 |0=>by simp[pS,i_]
 |n+1=>by
  have Y:=PD p t k n;unfold pS at *;rw[i_];split
  ·simp_all
  ·omega
theorem zE(p t:fa)(k:Nat):(jg p t k).length<=t.size+1:=PD p t k _
theorem NR(p t:fa)(k e:Nat)(h:e∈jg p t k):e<=t.size/\(il p t k e).1<=k/\(il p t k e).2<=e/\iX p (t.extract (il p t k e).2 e)<=(il p t k e).1/\∀c,c<e-(il p t k e).2->(il p t k e).1<iX p (t.extract (e-c) e):=by
 have⟨Y,K⟩:=(G2 p t k e).1 h;have⟨H,D,R,b4⟩:=(Cl p t k e Y).2 K;exact⟨Y,K,H,by omega,fun c I=>b4 _ (by omega) (by omega)⟩
end
end Go.Proofs.YtdcjnhipenbcfaaGreatDoor
