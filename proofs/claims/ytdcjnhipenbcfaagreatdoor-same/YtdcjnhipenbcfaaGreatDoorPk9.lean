/-
  Own text. Part 9 of what the claim rests on.
-/
import Derived.Test.YtdcjnhipenbcfaaGreatDoorPk8
import Derived.Maps.Range
import Derived.Conc.CompanyDraw
set_option linter.unusedVariables false
set_option linter.unusedSectionVars false
set_option linter.unusedSimpArgs false
set_option maxRecDepth 100000
set_option maxHeartbeats 16000000
open Array renaming getElem?_eq_getElem->ajc,getElem?_setIfInBounds->ajl,replicate->ajm,all_eq_true_iff_forall_mem->ajn,getElem?_eq_some_iff->ajq,getD->aju,getElem?_eq_none->ajw,getD_eq_getD_getElem?->ajH,getElem?_toList->ajQ,map_congr_left->ajS,all_eq_true->aj1
open Bool renaming toNat_le->aje,and_eq_true->ajB,not_eq_true'->aj2
open Classical renaming byContradiction->ajL
open Go.Exit renaming normal->aj4
open Go.Frame renaming eval_at'->ajt,eval_at->ajU
open Go.Instr renaming loadAt->ajj,indexAt->ajI,buildSlice->aj8
open Go.IntKind renaming i64->ajP
open Go.Proofs.Tryz renaming f92->ajg,func60->ajy,func92->ajG,f111->ajW,func111->ajY,func16->aj5,f39->aj9,f16->aj_
open Go.Proofs.YtdcjnhipenbcfaaGreatDoor.Ph.aH renaming aM->ajp,alloc->ajA
open Go.Proofs.YtdcjnhipenbcfaaGreatDoor.Ren.aH renaming tree->akd
open Go.Region renaming binds->ajs,schedule->ajM,Mode->aj3
open Go.World renaming cell?->aja,frozen?->ajz
open List renaming getD_eq_getElem?_getD->ajb,all_eq_true->ajh,getElem?_eq_getElem->ajk,length_pos_iff->ajo,length_append->ajr,append_assoc->ajv,reverse_singleton->ajx,singleton_append->ajD,mem_of_getElem?->ajF,getElem?_map->ajJ,map_append->ajN,mem_range->ajR,mem_cons_of_mem->ajT,mem_map->ajV,map_map->ajX,pairwise_map->ajZ,mem_flatMap->aj6,getElem_mem->aj7,mem_append->aka,append_nil->akb,nil_append->akc
open Nat renaming le_trans->ajd,le_refl->ajf,lt_of_lt_of_le->aji,zero_add->ajE
open Option renaming getD_some->ajC,isNone_iff_eq_none->ajK,map_some->ajO
open Option.some renaming injEq->aj0
namespace Go.Proofs.YtdcjnhipenbcfaaGreatDoor
noncomputable section
variable {listed:Array Bool}{a' args:Array Value}{fl:Bool}{X XN ref rm rn:ByteArray}{fn:FuncId}{l:List Frame}{site:List Item}{ao ks:List Nat}{WL:List UInt8}{xs:List Value}{Z Z' Z1:Loc->Prop}{By Fd Fp Mp Rf Sg b4 b5 b6 cap j m n:Nat}{X':Nat->Prop}{u:Nat->Value}{PP:Program}{e t':TypeId}{x x' y z z0 z1:Value}{v v' v0 v1 w w' w0:World}
namespace Ph
open Conc Ren
open Lock (Word PC)
theorem ES:pW PR (isAgg 9)=some false:=by kernel_rfl
theorem Sw:pW PR (isAgg 166)=some false:=by kernel_rfl
theorem gh:(PR.funcs[122]?).any (·.norace)=false:=by kernel_rfl
theorem OO:(PR.info? 182).map (·.zero)=some (some (.pointer none)):=by kernel_rfl
theorem OP:(PR.info? 182).map (·.size)=some 1:=by kernel_rfl
theorem OQ:(PR.info? 212).map (·.zero)=some (some (.agg #[.int .u64 0,.int .u32 0])):=by kernel_rfl
section
variable{X P:ByteArray}{k q st n Rf Sg By Mp Fd Fp:Nat}{J:Nat->Value}{c:Frame}{cs:List Frame}
theorem Sx:aQ PR 4 ((eF sE7 (mT (aE X P k q st n) Rf Sg By Fp) J).finish (.map (some Mp))) (c::cs)=(c.finish (.map (some Mp)),cs):=by kernel_rfl
end
theorem rT{P:ByteArray}{k q st:Nat}{t:Int}{x:Nat}:∀n,x∈a_ P X k q st t n->x<n
 |0,h=>by cases h
 |n+1,h=>by
  have Y:x∈a_ P X k q st t n->x<n:=rT n;rw[a_]at h;split at h
  ·rcases aka.1 h with y|y
   ·have:=Y y;omega
   ·simp at y;omega
  ·have:=Y h;omega
structure Lay(Z:Loc->Prop)(w0:World)(X P:ByteArray)(k q st Rf Sg By Mp Fd Fp:Nat)(w:World):Prop where
 rf:w.heap[Rf]?=some (.cells #[.string X] 9)
 sg:w.heap[Sg]?=some (.cells #[.string P] 9)
 by_:w.heap[By]?=some (.cells #[iv k,iv q,iv st] 75)
 mp:w.heap[Mp]?=some (.map #[] 0)
 fd:w.heap[Fd]?=some (.cells #[.int .i32 0,.int .u32 0,.map (some Mp)] 191)
 fp:w.heap[Fp]?=some (.cells #[ptr Fd] 182)
 orf:jl Z Rf
 osg:jl Z Sg
 oby:jl Z By
 omp:jl Z Mp
 ofd:jl Z Fd
 Yj:jl Z Fp
 o1:w0.heap.size<=Rf
 o2:Rf<Sg
 o3:Sg<By
 o4:By<Mp
 o5:Mp<Fd
 o6:Fd<Fp
 o7:Fp<w.heap.size
 oA:aZ Z w0 w
theorem Lay.on{P:ByteArray}{k q st:Nat}(h:Lay Z w0 X P k q st Rf Sg By Mp Fd Fp w)(g:aZ Z w w'):Lay Z w0 X P k q st Rf Sg By Mp Fd Fp w':=
 ⟨g.at h.rf h.orf,g.at h.sg h.osg,g.at h.by_ h.oby,g.at h.mp h.omp,g.at h.fd h.ofd,g.at h.fp h.Yj,h.orf,h.osg,h.oby,h.omp,h.ofd,h.Yj,h.o1,h.o2,h.o3,h.o4,h.o5,h.o6,aji h.o7 g.grow,h.oA.trans g⟩
section
variable{Qq:QT}{Z:Loc->Prop}{w:World}{c:Frame}{cs:List Frame}{X P:ByteArray}{k q st n:Nat}
theorem Sy(kk:∀Rf Sg By Mp Fd Fp J w',Lay Z w X P k q st Rf Sg By Mp Fd Fp w'->aH PR Qq Z ((eF TJ (mT (aE X P k q st n) Rf Sg By Fp++[(12,ptr Fd)]) J).finish undef) (c::cs) w'):
  aH PR Qq Z (Frame.enter PR 122 #[.string X,.string P,lT k q st,iv n] .normal) (c::cs) w:=by
 refine ajp 60 (EB0 X P k q st n (c::cs)) rfl eb0 rfl fun b w1 g1 _ _ _ _=>?_;refine ajA (F:=fun B=>(eF VT (aE X P k q st n) b).finish (ptr B)) (o:=.cells #[.string X] 9) (fun w2=>iM V2 rfl rfl w2) fun Rf w2 l1 u1 W M g2=>?_;refine ajp 60 (EB1 X P k q st n Rf b (c::cs)) rfl eb1 rfl fun h w3 g3 _ _ _ _=>?_;refine ajA (F:=fun B=>(eF VU (VQ (aE X P k q st n) Rf) h).finish (ptr B)) (o:=.cells #[.string P] 9) (fun w2=>iM V3 rfl rfl w2) fun Sg w4 l2 u2 j N g4=>?_;refine ajp 60 _ rfl eb2 rfl fun e w5 g5 _ _ _ _=>?_;refine ajA (F:=fun B=>(eF VV (VS (aE X P k q st n) Rf Sg) e).finish (ptr B)) (o:=.cells #[iv k,iv q,iv st] 75) (fun w2=>iM V4 rfl rfl w2) fun By w6 l3 u3 T U g6=>?_;refine ajp 60 _ rfl emm rfl fun t w7 g7 _ _ _ _=>?_;refine ajA (F:=fun B=>(eF VX _ t).finish (.map (some B))) (o:=.map #[] 0) (fun w2=>Og V5 w2) fun Mp w8 l4 u4 G L g8=>?_;refine ajp 60 (EB3 X P k q st n Rf Sg By Mp t (c::cs)) rfl eb3 rfl fun J5 w9 g9 _ _ _ _=>?_;refine ajA (F:=fun B=>(eF VY _ J5).finish (ptr B)) (fun w2=>iM V6 rfl rfl w2) fun Fd wA l5 u5 V C gA=>?_;refine ajp 60 _ rfl eal rfl fun J6 wB R _ _ _ _=>?_;refine ajA (F:=fun B=>(eF VZ (F3 (aE X P k q st n) Rf Sg By++[(12,ptr Fd)]) J6).finish (ptr B)) (o:=.cells #[.pointer none] 182) (fun w2=>BB V7 OO rfl w2) fun Fp wC l6 u6 E D I=>?_;refine ajp 60 _ rfl efs rfl fun J7 wD H _ _ _ _=>?_;have O:=((((((((((g3.trans g4).trans g5).trans g6).trans g7).trans g8).trans g9).trans gA).trans R).trans I).trans H);have m:=((((((((g5.trans g6).trans g7).trans g8).trans g9).trans gA).trans R).trans I).trans H);have u:=((((((g7.trans g8).trans g9).trans gA).trans R).trans I).trans H);have y:=((((g9.trans gA).trans R).trans I).trans H);have x:=((R.trans I).trans H);have s0:=g1.grow;have s2:=g3.grow;have s4:=g5.grow;have s6:=g7.grow;have s8:=g9.grow;have s10:=R.grow;have s12:=H.grow;refine aH.write (v:=ptr Fd) (i:=0) (H.at E D) (fun w2 z=>Oi V8 rfl rfl z (by simp) gh OP) D fun wE A K S s Q d=>?_;have p:=(K Rf (by omega) (by omega)).trans (O.at W M);have r:=(K Sg (by omega) (by omega)).trans (m.at j N);have f:=(K By (by omega) (by omega)).trans (u.at T U);have l:=(K Mp (by omega) (by omega)).trans (y.at G L);have g:=(K Fd (by omega) (by omega)).trans (x.at V C);have Y:=(g1.trans g2).trans O;exact kk Rf Sg By Mp Fd Fp J7 wE ⟨p,r,f,l,g,A,M,N,U,L,C,D,by omega,by omega,by omega,by omega,by omega,by omega,by omega,⟨fun a ha ho=>(K a (by have:=Y.grow;omega) (by omega)).trans (Y.old a ha ho),ajd Y.grow S,s.trans Y.tape,Q.trans Y.env,d.trans Y.output⟩⟩
def qS(Z:Loc->Prop)(B:Nat)(ao:List Nat)(b:Option Addr)(w:World):Prop:=∀i x:Nat,ao[i]?=some x->∃Nb cur,b=some ⟨Nb,0,none⟩/\B<=Nb/\Nb<w.heap.size/\w.heap[Nb]?=some (.cells cur 3)/\cur[i]?=some (.int .i64 (x:Int))/\jl Z Nb
theorem qS.on{B:Nat}{b:Option _}(h:qS Z B ao b w)(g:aZ Z w w'):qS Z B ao b w':=fun i x A=>by
 obtain⟨Nb,cur,K,H,D,R,I,Y⟩:=h i x A;exact⟨Nb,cur,K,H,aji D g.grow,g.at R Y,I,Y⟩
theorem Sz(hX:X.size<=200)(hP:P.size<=30)(hk:k<=6)(m:1<=q)(O:q<=8)(t:1<=st)(S:st<=200)(D:PR.globals.size<=w.heap.size)(j:Lay Z w0 X P k q st Rf Sg By Mp Fd Fp w)(p:Nat->Value)
  (kk:∀b cap J w',Lay Z w0 X P k q st Rf Sg By Mp Fd Fp w'->qS Z w.heap.size (bC X P k q st) b w'->aH PR Qq Z ((eF Se (mT (aE X P k q st n) Rf Sg By Fp++[(13,.string X),(14,.string P),(15,lT k q st)]) J).finish (bZ b (bC X P k q st).length cap)) (c::cs) w'):
  aH PR Qq Z ((eF TJ (mT (aE X P k q st n) Rf Sg By Fp++[(12,ptr Fd)]) p).finish undef) (c::cs) w:=by
 obtain⟨T,V,Q,rMp,rFd,rFp,U,B,A,oMp,oFd,oFp,o1,o2,o3,o4,o5,o6,o7,gw⟩:=id j;refine ajp 60 _ rfl ee1 rfl fun J8 wF F _ _ ld _=>?_;refine aH.read (fun w2 H=>dL ld ES H gh) (by rw[cell_of_row _ Rf 0 _ _ _ (F.at T U)];rfl) U fun wG gG=>?_;refine ajp 60 _ rfl ee2 rfl fun J9 wH gH _ _ ld _=>?_;refine aH.read (fun w2 H=>dL ld ES H gh) (by rw[cell_of_row _ Sg 0 _ _ _ (((F.trans gG).trans gH).at V B)];rfl) B fun wI l=>?_;refine ajp 60 _ rfl ee3 rfl fun JA wJ o _ _ ld _=>?_;have K:=(((F.trans gG).trans gH).trans l).trans o;have au:∀w2:World,w2.heap[By]?=some (.cells #[iv k,iv q,iv st] 75)->stepG PR true (G _ (c::cs)) w2=.go _ w2 _:=fun w2 H=>Oj ld H gh;have M:∀e∈(#[⟨.cell ⟨By,0,none⟩,false,false⟩,⟨.cell ⟨By,1,none⟩,false,false⟩,⟨.cell ⟨By,2,none⟩,false,false⟩]:Array Event),∃a:Addr,e=⟨.cell a,false,false⟩/\a.block=By:=by simp
 refine aH.reads (K.at Q A) au M A fun wK r=>?_;refine ajp 60 _ rfl ee4 rfl fun f wL s _ ca _ _=>?_;refine aH.pure 1 fun wM h=>?_;rw[V0];have u:aZ Z wL wM:=aZ.of h;have Y:=((K.trans r).trans s).trans u;refine aH.El fun N=>?_;refine B_ hX hP hk m O t S (ajd D Y.grow) fun nv d I v=>?_;obtain⟨b,cap,rfl,R⟩:∃(b:Option Addr) (cap:Nat),nv=bZ b (bC X P k q st).length cap/\qS Z w.heap.size (bC X P k q st) b d:=by
  rcases I.2 with⟨L,C⟩|⟨g,cap,cur,L,C,W,h4,h5,h6,y⟩
  ·refine⟨none,0,by rw[L,C];rfl,fun i x z=>?_⟩;simp_all
  ·refine⟨some _,cap,L,fun i x z=>⟨g,cur,rfl,ajd Y.grow C,ax W,W,?_,N.off C⟩⟩;have E:((bC X P k q st).map ox)[i]?=some (ox x):=by simp_all
   rw[<-y,List.getElem?_take_of_lt (by have:=(List.getElem?_eq_some_iff.1 z).1;omega),ajQ]at E;exact E
 exact kk b cap f d (j.on (Y.trans v)) R
theorem SA(hX:X.size<=200)(hP:P.size<=30)(hk:k<=6)(hs:1<=st)(G:st<=200)(hn:1<=n)(N:n<=8)(M:PR.globals.size<=w.heap.size){w1:World}(hL:Lay Z w0 X P k q st Rf Sg By Mp Fd Fp w){b:Option Addr}(ag6:Fp<w1.heap.size)(hN:qS Z w1.heap.size (bC X P k q st) b w)(JB:Nat->Value)
  (kk:∀Wg J w',az (iV Fd Mp Wg X P k st).U (fun a=>a<w.heap.size/\a≠Mp/\jl Z a) w w'->w.heap.size<=Wg->Wg<w'.heap.size->kq (gX X P k st (bC X P k q st)) (w'.heap[Mp]?)->w'.heap[Fd]?=some (.cells #[.int .i32 0,.int .u32 0,.map (some Mp)] 191)->w'.tape=w.tape->w'.output=w.output->Mp<w'.heap.size->aH PR Qq (fun l=>Z l\/tN (iV Fd Mp Wg X P k st) l) ((eF TK (mT (aE X P k q st n) Rf Sg By Fp++[(16,bZ b (bC X P k q st).length cap),(17,iv n),(18,cM By Rf Sg Fp)]) J).finish unit) (c::cs) w'):
  aH PR Qq Z ((eF Se (mT (aE X P k q st n) Rf Sg By Fp++[(13,.string X),(14,.string P),(15,lT k q st)]) JB).finish (bZ b (bC X P k q st).length cap)) (c::cs) w:=by
 refine ajp 60 _ rfl ee5 rfl fun JC wO y _ _ _ _=>?_;refine aH.pure 1 fun wP kP=>?_;rw[V1];have m:aZ Z wO wP:=aZ.of kP;refine ajp 60 (RA0 (bZ b (bC X P k q st).length cap) n (cM By Rf Sg Fp) _) rfl ra0 rfl fun s wQ gQ _ _ _ _=>?_;refine ajA (F:=fun B=>(dF V9 (V_ (bZ b (bC X P k q st).length cap) n (cM By Rf Sg Fp)) s).finish (ptr B)) (o:=.cells #[.int .u64 0,.int .u32 0] 212) (fun w2=>BB Wb OQ rfl w2) fun Wg wR l7 u7 I j t=>?_;refine ajp 60 (RA1 (bZ b (bC X P k q st).length cap) n Wg (cM By Rf Sg Fp) s _) rfl ra1 rfl fun u wS O _ _ _ _=>?_;refine ajA (F:=fun B=>(dF X9 (X_ (bZ b (bC X P k q st).length cap) n (cM By Rf Sg Fp) Wg) u).finish (IV B n)) (o:=.cells (oj [] n) 214) (fun w2=>Oh Wc N rfl rfl w2) fun Gv wT l8 u8 D W Q=>?_;refine ajp 60 (Wa b (bC X P k q st).length cap n Wg Gv (cM By Rf Sg Fp) u _) rfl aap rfl fun JF wU H _ _ _ C=>?_;have gA:=y.trans (m.trans gQ);have K:=(gA.trans t).trans (O.trans (Q.trans H));have A:=((O.trans Q).trans H).at I j;have R:=H.at D W;have s5:=gA.grow;have s7:=O.grow;have s9:=H.grow;have S:=hL.on K;have hNU:=hN.on K;have sB:=K.grow;have a1:=hL.o7;clear y m gQ t O Q H gA kP I D;obtain⟨p,r,z,g,d,f,oRf,oSg,oBy,oMp,oFd,oFp,o1,o2,o3,o4,o5,o6,o7,gw⟩:=id S;have hG:sa Z Fd Mp Wg Gv By Rf Sg Fp k q st n X P b (bC X P k q st) wU:={
  cin:=⟨z,p,r,f,ajd M K.grow⟩
  fd:=d
  mp:=g
  wg:=A
  gv:=R
  num:=fun i x E=>by
   obtain⟨Nb,cur,h,e,h3,h4,h5,h6⟩:=hN i x E;refine⟨Nb,0,h,?_,by omega,by omega,by omega,by omega,h6⟩;rw[cell_of_row _ Nb (0+i) _ _ _ (K.at h4 h6),ajE];exact h5
  off:=fun a Y=>by
   rcases Y with rfl|rfl|rfl|rfl|(rfl|rfl|rfl|rfl)<;>assumption
  fm:=by omega
  fw:=by omega
  fg:=by omega
  mw:=by omega
  mg:=by omega
  X7:=by omega
  kp:=fun a Y=>by
   rcases Y with rfl|rfl|rfl|rfl<;>(refine⟨?_,?_,?_,?_⟩<;>omega)
  n0:=hn
  n8:=N
  len:=by
   have:=lZ P X k q st (Ep P.size k q) (stretches X.size st);have e:stretches X.size st<=400:=by
    unfold stretches;have:=Nat.div_le_self (X.size+st-1) st;omega
   unfold bC;omega
  hX:=hX
  hP:=hP
  hk:=hk
  au:=G
  ok:=fun x E=>by
   have h:=(ie X.size st x hs).2 (rT _ E);have e:x<=x *st:=Nat.le_mul_of_pos_right x hs;omega}
 refine hG.phase (cap:=cap) (C.less fun i v hv=>oi (b:=[(18,.bool (decide ((0:Int)<(n:Int))))]) hv) ((C.slot 18 _ rfl).trans (by congr 1;simp)) fun w' hr hm V ht ho T=>?_;have L:∀a,a<w.heap.size/\a≠Mp/\jl Z a->fP Z Mp Gv wU.heap.size a:=fun a Y=>⟨by omega,Y.2.1,by omega,Y.2.2⟩;refine kk Wg JC w' ⟨fun a Y=>?_,ajd sB hr.grow,hr.env.trans K.env⟩ (by omega) (by have:=hr.grow;omega) hm V (ht.trans K.tape) (ho.trans K.output) T;have:=hr.kept a (L a Y);rw[K.old a Y.1 Y.2.2]at this;exact this
theorem aH.Wv{f f1:Frame}{l:List _}{a:Addr}{v:Value}(au:∀w2,w2.cell? a=some v->stepG PP true (G f l) w2=.go (G f1 l) w2 #[⟨.cell a,false,false⟩])(Y:w.cell? a=some v)(D:jl Z a.block)(k:∀w',aZ Z w w'->(∀b,b<w.heap.size->w'.heap[b]?=w.heap[b]?)->aH PP Qq Z f1 l w'):aH PP Qq Z f l w:=by
 have H:a.block<w.heap.size:=Nat.lt_of_not_le fun y=>by simp[aja,ajw y]at Y
 refine akd (U:=fun _ _=>False) (S:=fun b=>b=a.block) (X:=fun _=>False) (Done:=fun S X f' l' w'=>X=(fun _=>False)/\f'=f1/\l'=l) (Tr.one fun w2 hr=>?_) (fun b h=>by simp_all) fun S' X' f' l' w' hd hk=>?_
 ·have K:w2.cell? a=some v:=by
   simp[aja]at Y⊢;rw[(hr.kept _ rfl).eq (fun i y=>y)];exact Y
  exact⟨_,_,_,_,_,_,au w2 K,(gO (U:=fun _ _=>False) (S:=fun b=>b=a.block) rfl id).toDid,.stop ⟨rfl,rfl,rfl⟩⟩
 ·obtain⟨rfl,rfl,rfl⟩:=hd;exact k w' (aZ.of hk) fun b hb=>hk.kept b hb id
theorem Ca{Wg:Nat}{a:Nat}(h:jl Z a)(H:a≠Fd)(D:a≠Wg):jl (fun l=>Z l\/tN (iV Fd Mp Wg X P k st) l) a:=by
 intro l Y y;rcases y with y|y
 ·exact h l Y y
 ·cases l with
  |cell ad=>
   have:=Y;rcases y.1 with e|e
   ·exact H (this.symm.trans e)
   ·exact D (this.symm.trans e)
  |_=>exact y.elim
theorem u_(hX:X.size<=200)(hP:P.size<=30)(hk:k<=6)(hq:1<=q)(j:q<=8)(m:1<=st)(F:st<=200)(hn:1<=n)(W:n<=8)(D:PR.globals.size<=w.heap.size)
  (kk:∀Z' Mp w',(∀l,Z l->Z' l)->(∀l,Z' l->Z l\/∃a:Addr,l=.cell a/\w.heap.size<=a.block)->aZ Z w w'->w.heap.size<=Mp->jl Z' Mp->kq (gX X P k st (bC X P k q st)) (w'.heap[Mp]?)->Mp<w'.heap.size->aH PR Qq Z' (c.finish (.map (some Mp))) cs w'):
  aH PR Qq Z (Frame.enter PR 122 #[.string X,.string P,lT k q st,iv n] .normal) (c::cs) w:=by
 refine Sy fun Rf Sg By Mp Fd Fp v w1 L=>?_;refine Sz hX hP hk hq j m F (ajd D L.oA.grow) L v fun b cap x w2 Y hN=>?_;refine SA hX hP hk m F hn W (ajd D Y.oA.grow) Y L.o7 hN x fun Wg J3 w3 T hW1 hW2 hM hF ht ho Rs=>?_;have o1:=Y.o1;have o2:=Y.o2;have o3:=Y.o3;have o4:=Y.o4;have o5:=Y.o5;have o6:=Y.o6;have o7:=Y.o7;have s3:=T.grow;have key:=fun a s u h A=>(T.kept a ⟨s,u,h⟩).eq (uo A (by omega));have g:w3.heap[Fp]?=some (.cells #[ptr Fd] 182):=(key Fp o7 (by omega) Y.Yj (by omega)).trans Y.fp;have g13:aZ Z w w3:=⟨fun a I R=>(key a (by omega) (by omega) R (by omega)).trans (Y.oA.old a I R),ajd Y.oA.grow s3,ht.trans Y.oA.tape,T.env.trans Y.oA.env,ho.trans Y.oA.output⟩;have J:jl (fun l=>Z l\/tN (iV Fd Mp Wg X P k st) l) Fp:=Ca Y.Yj (by omega) (by omega);have f:jl (fun l=>Z l\/tN (iV Fd Mp Wg X P k st) l) Mp:=Ca Y.omp (by omega) (by omega);clear key;refine ajp 60 _ rfl ee6 rfl fun t w4 g4 A _ ld _=>?_;refine aH.Wv (a:=⟨Fp,0,none⟩) (fun w2 V=>dL ld KO V gh) (by rw[cell_of_row _ Fp 0 _ _ _ (g4.at g J)];rfl) J fun w5 g5 M=>?_;refine ajp 60 (EE7 X P k q st n Rf Sg By Fd Fp t (c::cs)) rfl ee7 rfl fun i w6 g6 N _ d _=>?_;have B:=(N Fd (by have:=g4.grow;have:=g5.grow;omega)).trans ((M Fd (by have:=g4.grow;omega)).trans ((A Fd (by omega)).trans hF));have O:w6.heap[Mp]?=w3.heap[Mp]?:=(N Mp (by have:=g4.grow;have:=g5.grow;omega)).trans ((M Mp (by have:=g4.grow;omega)).trans (A Mp (by omega)));have H:=(g4.trans g5).trans g6;have s36:=H.grow;refine aH.tz (U:=(iV Fd Mp Wg X P k st).U) (S:=fun a=>a=Fd) (X:=fun _=>False) (Done:=fun S' X' r w'=>X'=(fun _=>False)/\r=G ((eF sE7 (mT (aE X P k q st n) Rf Sg By Fp) i).finish (.map (some Mp))) (c::cs)) (Tz.one rfl fun o E=>?_) (fun hlo a I=>?_) fun S' X' r o hd hk=>?_
 ·have V:o.cell? ⟨Fd,2,none⟩=some (.map (some Mp)):=cI (U:=(iV Fd Mp Wg X P k st).U) (S:=fun a=>a=Fd) rfl (fun y=>by have:=y.2;omega) (by rw[cell_of_row _ Fd 2 _ _ _ B];rfl) E;exact⟨_,o,_,_,_,dL d Sw V gh,gO rfl (fun y=>by have u:(2:Nat)<2:=y.2;omega),.stop ⟨rfl,rfl⟩⟩
 ·subst I;refine⟨ax B,fun l C R=>?_⟩;rcases R with y|y
  ·exact absurd y (Y.ofd l C)
  ·cases l with
   |cell ad=>exact⟨ad,rfl,y⟩
   |_=>exact y.elim
 ·obtain⟨rfl,rfl⟩:=hd;refine⟨_,_,rfl,aH.pure 4 fun p K=>?_⟩;rw[Sx];have Q:p.heap[Mp]?=w3.heap[Mp]?:=(K.kept Mp (by have:=hk.grow;omega) id).trans ((hk.kept Mp (by omega) id).trans O);have s8:=K.grow;have s7:=hk.grow;refine kk _ Mp p (fun l C=>.inl C) (fun l C=>?_) ?_ (by omega) f (by rw[Q];exact hM) (by omega)
  ·rcases C with y|y
   ·exact .inl y
   ·cases l with
    |cell ad=>
     refine .inr ⟨ad,rfl,?_⟩;have:=Y.oA.grow;rcases y.1 with e|e
     ·rw[e];exact ajd (by omega) (ajf Fd)
     ·rw[e];exact ajd (by omega) (ajf Wg)
    |_=>exact y.elim
  ·have z:∀a,a<w.heap.size->jl Z a->p.heap[a]?=w3.heap[a]?:=fun a I R=>by
    have s:=Y.oA.grow;exact(K.kept a (by omega) id).trans ((hk.kept a (by omega) id).trans ((N a (by have:=g4.grow;have:=g5.grow;omega)).trans ((M a (by have:=g4.grow;omega)).trans (A a (by omega)))))
   exact⟨fun a I R=>(z a I R).trans (g13.old a I R),by have:=g13.grow;omega,K.tape.trans (hk.tape.trans (H.tape.trans g13.tape)),K.env.trans (hk.env.trans (H.env.trans g13.env)),K.output.trans (hk.output.trans (H.output.trans g13.output))⟩
end
end Ph
namespace Ph
open Conc Ren
theorem gD{a:Nat}(H:∀l,Z' l->Z l\/∃a:Addr,l=.cell a/\w.heap.size<=a.block)(h:jl Z a)(D:a<w.heap.size):jl Z' a:=by
 intro l Y y;rcases H l y with y|⟨ad,rfl,hb⟩
 ·exact h l Y y
 ·have:ad.block=a:=Y;omega
end Ph
namespace Ph
open Conc Ren
open Maps (Keyed IsMap Tidy has)
theorem LZ{g:wu}{b:Nat}(h:kq g (w.heap[b]?)):∃I l,w.ownsMap PR 3 (plainElem PR 3) b I (.map l)/\Bz l g/\l.Pairwise (fun p q=>p.1≠q.1):=by
 obtain⟨es,clock,l,K,F,H,D⟩:=h;have Y:w.ownsMap PR 3 _ b _ (.map l):=⟨es,clock,K,F,ajf _,by rw[H]⟩;refine⟨es.size,l,Y,D,?_⟩;obtain⟨l',R,A,_⟩:=Y.entries VI;simp_all
theorem L0{g:wu}{b B:Nat}{l:List _}(D:w.ownsMap PR 3 (plainElem PR 3) b B (.map l))(H:Bz l g){e d:Nat}(U:g e=some d)(he:e<1000000):(Instr.lookup 166 (.map (some b)) (.int .i64 e) false).run PR w=.ok (.int .i64 d) w:=by
 have Y:keyOf PR 3 (.int .i64 e)=some (.int .i64 e):=by
  unfold keyOf;simp[mapKey,uk he]
 obtain⟨c,K,R,I⟩:=D.lookup_int VI u166 u3 (Qf w) Y;have:=H.at_ e;simp_all
theorem Cb{g:wu}{l:List _}(H:Bz l g)(B:l.Pairwise (fun p q=>p.1≠q.1))(L:List Nat)(U:L.Pairwise (· < ·))(hm:∀e,e∈L↔(g e).isSome=true):
  (∀I:List Int,I.Perm (intKeys (.map l))->I.mergeSort (fun x y=>decide (x<=y))=L.map (fun e=>((e:Nat):Int)))/\l.length=L.length:=by
 have Y:(L.map (fun e=>((e:Nat):Int))).Perm (intKeys (.map l)):=by
  refine perm_intKeys B (fun p K=>by obtain⟨e,_,h⟩:=H.keys p K;simp_all) ?_ fun x=>?_
  ·show List.Pairwise _ _
   rw[ajZ];exact U.imp fun h e=>by omega
  ·rw[ajV];constructor
   ·rintro⟨e,he,rfl⟩;rw[H.has e];simp_all
   ·intro h;have h':=h;rw[Go.Maps.has_eq,List.any_eq_true]at h';obtain⟨p,K,D⟩:=h';obtain⟨e,_,A⟩:=H.keys p K;rw[A]at D;have C:=by simpa[Lit.sameKey]using D
    subst C;rw[H.has e]at h;exact⟨e,(hm e).2 h,rfl⟩
 refine⟨fun I D=>?_,?_⟩
 ·have R:=mergeSort_of_perm_i (D.trans Y.symm);rw[R];refine List.mergeSort_of_pairwise ?_;rw[ajZ];exact U.imp fun h=>by simp;omega
 ·have:=Y.length_eq;simp[intKeys]at this;omega
end Ph
namespace Ph
theorem rU(e:Nat):∀(L:List (Nat×Nat)) (g:wu),(∀d,L.foldl better g e=some d->g e=some d\/(e,d)∈L)/\(∀d',(e,d')∈L->∃d,L.foldl better g e=some d/\d<=d')/\(∀d',g e=some d'->∃d,L.foldl better g e=some d/\d<=d')
 |[],g=>⟨fun d h=>.inl h,(fun d' h=>by cases h),fun d' h=>⟨d',h,ajf _⟩⟩
 |(x,y)::L,g=>by
  obtain⟨U,B,I⟩:=rU e L (better g (x,y));by_cases A:e=x
  ·subst A;have H:g e=none->better g (e,y) e=some y:=fun h=>by simp[better,h]
   have Y:∀z,g e=some z->better g (e,y) e=some (min z y):=fun z h=>by simp[better,h]
   refine⟨fun d hd=>?_,fun d' K=>?_,fun d' K=>?_⟩
   ·rcases U d hd with h|h
    ·cases D:g e with
     |none=>rw[H D]at h;simp_all
     |some z=>
      rw[Y z D]at h;simp only[aj0]at h;rcases Nat.le_total z y with C|C
      ·simp_all
      ·simp_all
    ·simp_all
   ·rcases List.mem_cons.1 K with h|h
    ·cases h;have:∃z,better g (e,y) e=some z/\z<=y:=by
      cases D:g e with
      |none=>exact⟨y,H D,ajf _⟩
      |some z=>exact⟨min z y,Y z D,Nat.min_le_right _ _⟩
     obtain⟨z,F,J⟩:=this;obtain⟨d,hd,R⟩:=I z F;exact⟨d,hd,by omega⟩
    ·exact B d' h
   ·have:=Y d' K;obtain⟨d,hd,R⟩:=I _ this;exact⟨d,hd,by omega⟩
  ·have hb:better g (x,y) e=g e:=by simp[better,A]
   simp_all
theorem rV(X P:ByteArray)(k st:Nat):∀(ao:List Nat) g,ao.foldl (fun g x=>(rC X P k st x).foldl better g) g=(ao.flatMap (rC X P k st)).foldl better g
 |[],g=>rfl
 |x::l,g=>by simp;exact rV X P k st l _
theorem Cc(X P:ByteArray)(k q st:Nat)(U:1<=q)(au:1<=st)(H:k<P.size)(e:Nat):gX X P k st (bC X P k q st) e=if e<=X.size/\(bA P X k e).1<=k then some (bA P X k e).1 else none:=by
 unfold gX;rw[rV];obtain⟨R,I,_⟩:=rU e ((bC X P k q st).flatMap (rC X P k st)) _;have ge:∀d,(e,d)∈(bC X P k q st).flatMap (rC X P k st)->e<=X.size/\d<=k/\(bA P X k e).1<=d:=by
  intro d hd;obtain⟨x,K,hm⟩:=aj6.1 hd;have D:=(mc _).1 K;have:=(ie _ st x au).2 D.1;exact LU X P k q st x e d (by omega) hm
 by_cases Y:e<=X.size/\(bA P X k e).1<=k
 ·rw[if_pos Y];obtain⟨x,K,hm⟩:=EO X P k q st e U au Y.1 Y.2 H;obtain⟨d,hd,hle⟩:=I _ (aj6.2 ⟨x,K,hm⟩);rw[hd];rcases R d hd with h|h
  ·cases h
  ·have:=ge d h;congr 1;omega
 ·rw[if_neg Y];cases hr:((bC X P k q st).flatMap _).foldl better _ e with
  |none=>rfl
  |some d=>
   rcases R d hr with h|h
   ·cases h
   ·have:=ge d h;omega
end Ph
namespace Ph
open Conc Ren
def iR(w:World):Prop:=∀g,g=0\/g=2\/g=3->∃(c:Array Value) (t:TypeId) (fz:Nat×Nat),w.heap[g]?=some (.cells c t fz)/\∀x∈c,∃k n,x=Value.int k n
theorem iR.same(h:iR w)(e:∀g,g=0\/g=2\/g=3->w'.heap[g]?=w.heap[g]?):iR w':=fun g Y=>by rw[e g Y];exact h g Y
theorem iS(h:bu w)(e:w'.heap[0]?=w.heap[0]?):bu w':=by
 have Y:Program.globalNamed Tryz.prog "internal/strconv.uint64pow10"=some 0:=by kernel_rfl
 unfold bu Lib.TabIs World.var? at *;simp_all
theorem ye{i:Nat}{v:Value}:∀{al:List _},al.lookup i=some v->∃p∈al,p.2=v
 |[],h=>by cases h
 |(a,b)::al,h=>by
  rw[List.lookup_cons]at h;split at h
  ·simp_all
  ·obtain⟨p,Y,e⟩:=ye h;exact⟨p,by simp[Y],e⟩
theorem SB:eg K0 PR false Qn=true:=by decide+kernel
def bH(X P rn rm:ByteArray)(fl:Bool)(k:Nat):=(bE P X k).map fun e=>si (pL X P rn rm fl (fun e=>(bA P X k e).2) (fun e=>(bA P X k e).1) e)
def uM (X P:ByteArray) (k q st n b5 b6 Mp:Nat) (i:Nat):Value:=(([(19,IX b5 1),(20,.string X),(21,IX b6 1),(22,.string P),(23,lT k q st),(24,iv n),(25,.map (some Mp))]:List (Nat×Value)).lookup i).getD undef
section
variable{Qq:QT}{Z:Loc->Prop}{w:World}{c:Frame}{cs:List Frame}{XN X rn P rm:ByteArray}{fl:Bool}{k q st n:Nat}
theorem OS(hX:X.size<=200)(hP:P.size<=30)(hk:k<=6)(M:k<P.size)(d:1<=q)(g:1<=st){w1:World}{b8:Nat}(I:w1.heap[b5]?=some (.cells #[.string XN,.string X] 68))(U:w1.heap[b6]?=some (.cells #[.string rn,.string P,.string rm] 131))(G:kq (gX X P k st (bC X P k q st)) (w1.heap[Mp]?))(N:Mp<w1.heap.size)(j:bu w1)(T:Nat->Question->Nat):
  Qn.wp PR (bodyPost PR ajW fun e v=>∃y,e=.returned y/\v.ownsRow w1.heap.size 136 1 y (bE P X k).length (bH X P rn rm fl k)/\(bE P X k=[]->y=.slice none 0 0)/\∀a,a<w1.heap.size->v.heap[a]?=w1.heap[a]?) ⟨Yi (pM XN X) (CK rn P rm) (lT k q st) (iv n) fl b5 b6 b8 Mp (uM X P k q st n b5 b6 Mp),[]⟩ (tp w1 T):=by
 obtain⟨Q,l,R,L,J⟩:=LZ G;have z:=Cc X P k q st d g M;have hm:∀e,e∈bE P X k↔(gX X P k st (bC X P k q st) e).isSome=true:=by
  intro e;rw[qR,z e];simp_all
 obtain⟨D,hlen⟩:=Cb L J _ (EM P X k) hm;have E:=jP P X k;have Y:∀W:World,W.heap[Mp]?=w1.heap[Mp]?->W.ownsMap PR 3 (plainElem PR 3) Mp Q (.map l):=by
  intro W hW;obtain⟨es,clock,hb,r⟩:=R;exact⟨es,clock,hW.trans hb,r⟩
 refine wp_mono (Iv X P rn rm XN fl (bE P X k) (fun e=>(bA P X k e).2) (fun e=>(bA P X k e).1) _ _ _ _ b5 b6 b8 Mp _ _ hX hP (by omega) (by omega) I U ?_ ?_ N ?_ (iS j rfl)) ?_
 ·refine(wV Mp Q _ _ (tp w1 T) (Y _ rfl) (by show l.length<=_;omega)).mono ?_;rintro e w' ⟨v,S,rfl,O,K,hb⟩;refine⟨v,rfl,?_,hb⟩;have V:=D S O;rw[V]at K;have Z:S.length=(bE P X k).length:=by
   have:=O.length_eq;simp[intKeys]at this;omega
  rw[Z,ajX]at K;exact K
 ·intro W hW e he;have hd:gX X P k st (bC X P k q st) e=some (bA P X k e).1:=by simp_all
  exact L0 (Y W hW) L hd (by have:=((qR P X k e).1 he).1;omega)
 ·intro e he;obtain⟨a1,a2,a3,a4,a5⟩:=rS P X k e he;exact⟨a1,by omega,a3,a4,a5⟩
 ·intro e a v hb;cases e with
  |normal=>obtain⟨A,y,B,v',H,C,I,U⟩:=hb;exact⟨A,y,B,v',H,C,U,fun a F=>I.block a F⟩
  |ret=>obtain⟨A,y,B,v',H,C,I,U⟩:=hb;exact⟨A,y,B,v',H,C,U,fun a F=>I.block a F⟩
  |panic ch=>obtain⟨A,v',H,_⟩:=hb;cases H
  |outgrown=>obtain⟨v',H,_⟩:=hb;cases H
  |exit id=>exact hb
  |goto l=>exact hb
end
end Ph
namespace Ph
open Conc Ren
open WideElems (Fit rd rg rd_val)
theorem ET{g:wu}{es:Array _}{clock:Nat}(h:kq g (some (.map es clock))):∀x∈es,∃a b,x.key=.int .i64 a/\x.val=.int .i64 b:=by
 obtain⟨gR,K,l,H,F,_⟩:=h;cases H;intro x A;have Y:x∈es.toList:=by simp_all
 obtain⟨a,I⟩:=ui F x Y;obtain⟨y,D⟩:=F.reads x Y;obtain⟨z,R,_⟩:=rd_val D;obtain⟨b,hb,_⟩:=plainElem_int_inv u3 R;simp_all
theorem Iw[aj]{r:Rn}{c c':Array _}(h:VA r c c')(D:∀x∈c,∃k n,x=Value.int k n):c'=c:=by
 apply Array.ext
 ·exact h.size.symm
 ·intro i H Y;have K:=h.at_ i _ _ (ajc Y) (ajc H);obtain⟨k,n,e⟩:=D _ (Array.getElem_mem Y);rw[e]at K⊢;exact yc K
end Ph
namespace Ph
open Conc Ren
@[reducible] def gv:aj:=K0.dY PR Bv oe oz pN
@[reducible] def gr(k:List Item):aj:=K0.dY PR Bv oe (fun x=>x=k) pN
theorem SC(k:List Item):TT gv (gr k):=⟨rfl,fun _ h=>h,fun _ h=>h,fun _ h=>h,fun _=>Iff.rfl,fun _ _ h=>h⟩
theorem SD(k:List Item):TT (gr k) gv:=⟨rfl,fun _ h=>h,fun _ h=>h,fun _ h=>h,fun _=>Iff.rfl,fun _ _ h=>h⟩
abbrev RN:=@Rn gv
structure Al(Z:Loc->Prop)(r:RN)(v w:World):Prop where
 w:@Ren.W gv r 0 v w
 gi:@GI gv r
 off:∀a,@Rd gv r a->jl Z a
structure Ke(w w':World):Prop where
 tape:w'.tape=w.tape
 env:j8 w'.os w.os
 output:w'.output=w.output
 grow:w.heap.size<=w'.heap.size
theorem Ke.trans{w w1 w2:World}(h:Ke w w1)(k:Ke w1 w2):Ke w w2:=⟨k.tape.trans h.tape,k.env.trans h.env,k.output.trans h.output,ajd h.grow k.grow⟩
theorem Ke.of{X:Nat->Prop}(h:Kept X X' w w'):Ke w w':=⟨h.tape,h.env,h.output,h.grow⟩
section
variable{tb:Bool}{Q:QT}{R:Value->World->Prop}{Z:Loc->Prop}{r:RN}{v w w':World}{fn:FuncId}{k k':List Item}{a:Array Value}
theorem Al.low(h:Al Z r v w){b:Nat}(hb:@Rd gv r b):b<w.heap.size:=by
 letI:=gv
 obtain⟨c,Y⟩:=hb;exact(h.w.lt Y).2
theorem Al.on(h:Al Z r v w)(hk:∀b,@Rd gv r b->w'.heap[b]?=w.heap[b]?)(Y:Ke w w'):Al Z r v w':=
 ⟨@W.rely gv (fun _ _=>False) r 0 v w w' h.w (fun _ _ _ _ y=>y.elim) ⟨fun b hb=>.inl (hk b hb),Y.grow,Y.env⟩,h.gi,h.off⟩
theorem Al.quiet(h:Al Z r v w)(hk:Kept (fun _=>False) X' w w'):Al Z r v w':=h.on (fun b hb=>hk.kept b (h.low hb) id) (.of hk)
structure Kz(Z:Loc->Prop)(r:RN)(w:World)(Z':Loc->Prop)(r':RN)(w':World):Prop where
 ke:Ke w w'
 kept:∀b,b<w.heap.size->¬ @Rd gv r b->jl Z b->w'.heap[b]?=w.heap[b]?
 may:∀b,b<w.heap.size-> @Rd gv r' b-> @Rd gv r b
 more:∀l,Z l->Z' l
 only:∀l,Z' l->Z l\/∃a:Addr,l=.cell a/\w.heap.size<=a.block
theorem Kz.trans{Z1 H:Loc->Prop}{r1 r2:RN}{w1 w2:World}(h:Kz Z r w Z1 r1 w1)(k:Kz Z1 r1 w1 H r2 w2):Kz Z r w H r2 w2:=
 have g:=h.ke.grow
 ⟨h.ke.trans k.ke,fun b hb Y K=>(k.kept b (by omega) (fun y=>Y (h.may b hb y)) (gD h.only K hb)).trans (h.kept b hb Y K),fun b hb y=>h.may b hb (k.may b (by omega) y),fun l y=>k.more l (h.more l y),fun l y=>(k.only l y).elim (h.only l) fun⟨a,e,q⟩=>.inr ⟨a,e,by omega⟩⟩
theorem Kz.of{X:Nat->Prop}{r':RN}(h:Kept X X' w w')(Y:∀a,X a-> @Rd gv r a)(H:∀a,@Rd gv r' a->X' a):Kz Z r w Z r' w':=
 ⟨.of h,fun b hb K _=>h.kept b hb fun y=>K (Y b y),fun b hb y=>(h.may b (H b y)).elim (Y b) fun q=>by omega,fun _ y=>y,fun _ y=>.inl y⟩
theorem Kz.qt(h:Kept (fun _=>False) X' w w'):Kz Z r w Z r w':=⟨.of h,fun b hb _ _=>h.kept b hb id,fun _ _ y=>y,fun _ y=>y,fun _ y=>.inl y⟩
theorem Al.fin{r':RN}(Y:Al Z r v w)(U:qj Z w.heap.size)(D:@Le gv r r')(I:@Ren.W gv r' 0 v' w')(H:Kept (@Wr gv r) (@Wr gv r') w w'):Al Z r' v' w'/\Kz Z r w Z r' w':=by
 letI:=gv
 exact⟨⟨I,Y.gi.mono D,fun b ⟨b0,hb⟩=>(H.may b ⟨b0,hb,id⟩).elim (fun⟨b1,h,_⟩=>Y.off b ⟨b1,h⟩) U.off⟩,.of H (fun _ ⟨b,e,_⟩=>⟨b,e⟩) fun _ ⟨b,e⟩=>⟨b,e,id⟩⟩
def abg(Q:QT)(Z:Loc->Prop)(x:Value)(l:List Frame)(w:World):Prop:=match l with
 |c::cs=>aH PR Q Z (c.finish x) cs w
 |[]=>∀f,(∀u,stepG PR true (G f []) u=.ended (.done x) u #[])->aH PR Q Z f [] w
theorem sI(h:l.isEmpty=false):∃c cs,l=c::cs:=by
 cases l with
 |nil=>cases h
 |cons c cs=>exact⟨c,cs,rfl⟩
def Kt(Q:QT)(R:Value->World->Prop)(r:RN)(Z:Loc->Prop)(w:World)(l:List Frame):Prop:=
 ∀(r':RN) (Z':Loc->Prop) (x x':Value) (v' w':World),@Le gv r r'-> @V gv r' x x'->Al Z' r' v' w'->Kz Z r w Z' r' w'->R x v'->abg Q Z' x' l w'
theorem Kt.on{r':RN}(h:Kt Q R r Z w l)(hr:@Le gv r r')(hw:Kz Z r w Z1 r' w'):Kt Q R r' Z1 w' l:=
 fun r2 Z' x x' v' w2 Y K H D I=>h r2 Z' x x' v' w2 (@Le.trans gv r r' r2 hr Y) K H (hw.trans D) I
def aL(Q:QT)(g:FuncId)(args:Array Value)(v:World)(R:Value->World->Prop):Prop:=
 ∀(r:RN) (Z:Loc->Prop) (w:World) (Y:Array Value) (c:Frame) (cs:List Frame),@VA gv r args Y->Al Z r v w->Kt Q R r Z w (c::cs)->aH PR Q Z (Frame.enter PR g Y .normal) (c::cs) w
abbrev bf(fn:FuncId):Frame:=⟨fn,#[],[],[],.run,.normal,none⟩
def GW(tb:Bool)(Q:QT)(R:Value->World->Prop)(fn:FuncId)(k:List Item)(a:Array Value)(v:World):Prop:=
 ∀(r:RN) (Z:Loc->Prop) (w:World) (t:Array Value) (l:List Frame),l.isEmpty=tb-> @VA gv r a t->Al Z r v w->Kt Q R r Z w l->aH PR Q Z ((bf fn).at ⟨t,[]⟩ k) l w
theorem GW.run(n:Nat)(g:GW tb Q R fn k' a v)(h:∀t l,aQ PR n ((bf fn).at ⟨t,[]⟩ k) l=((bf fn).at ⟨t,[]⟩ k',l):=by intro t l;kernel_rfl):GW tb Q R fn k a v:=by
 intro r Z w t l K H Y D;refine aH.pure n fun w' hk=>?_;rw[h];exact g r Z w' t l K H (Y.quiet hk) (D.on (fun _ _ e=>e) (.qt hk))
theorem Ww(Y:∃F,PR.funcs[fn]?=some F){t:Array Value}(H:@VA gv r a t):@FR gv PR r true ((bf fn).at ⟨a,[]⟩ []) ((bf fn).at ⟨t,[]⟩ []):=by
 letI:=gv
 exact⟨rfl,H,.nil,.nil,.run,rfl,.inl rfl,.none,fun _=>Y⟩
theorem na(Y:∃F,PR.funcs[fn]?=some F){t:Array Value}(D:@VA gv r a t)(H:@GI gv r){x:Operand}(I:@bQ gv x):@V gv r (Act.eval ⟨a,[]⟩ x) (Act.eval ⟨t,[]⟩ x):=by
 letI:=gv
 have:=(Ww Y D).eval H x I
 rwa [ajU,ajU]at this
theorem GW.cond(Y:∃F,PR.funcs[fn]?=some F){x:Operand}{p q:Code}{t:Bool}(U:@bQ gv x)(he:Act.eval ⟨a,[]⟩ x=.bool t)(g:GW tb Q R fn (.code (if t then p else q)::k) a v):GW tb Q R fn (.code (.cond x p q)::k) a v:=by
 intro r Z w u l I H K A;have hb:Act.eval ⟨u,[]⟩ x=.bool t:=by
  have:=na Y H K.gi U;rw[he]at this;generalize Act.eval ⟨u,[]⟩ x=y at this;cases this;rfl
 refine aH.pure 1 fun w' hk=>?_;have e:aQ PR 1 ((bf fn).at ⟨u,[]⟩ (.code (.cond x p q)::k)) l=((bf fn).at ⟨u,[]⟩ (.code (if t then p else q)::k),l):=by
  have D:Frame.eval ⟨fn,u,.code (.cond x p q)::k,[],.run,.normal,none⟩ x=.bool t:=(ajU (bf fn) ⟨u,[]⟩ _ x).trans hb;simp only[aQ,Cr,Frame.at,prun,D]
 rw[e];exact g r Z w' u l I H (K.quiet hk) (A.on (fun _ _ e=>e) (.qt hk))
theorem GW.piece(S:∃F,PR.funcs[fn]?=some F){p:Code}(m:eg K0 PR false p=true){R1:Array Value->World->Prop}(hk:tg k=true)(j:∀T,p.wp PR (fun e a' v'=>e=.normal/\a'.defers=[]/\R1 a'.tmps v') ⟨a,[]⟩ (tp v T))
  (g:∀a' v',R1 a' v'->GW tb Q R fn k a' v'):GW tb Q R fn (.code p::k) a v:=by
 intro r Z w t l f s Y u;refine aH.El fun K=>?_;have A:=SC k;have I:=SD k
 letI:=gr k
 have H:cH PR false p:=ga (fun _ _ h=>h) m;have z:FR PR (iE A r) true ((bf fn).at ⟨a,[]⟩ (.code p::oX)) ((bf fn).at ⟨t,[]⟩ (.code p::k)):=by
  refine⟨rfl,lF A s,?_,.nil,.run,rfl,.inl rfl,.none,fun _=>S⟩;show IL PR _ false true (.code p::oX) (.code p::k)
  exact .cons (.code H) (.rest rfl rfl rfl hk)
 have o:=ts (main:=true) (U:=fun _ _=>False) (Bw (fun x=>x=k) pN) (fun ops h=>by cases h) (r0:=iE A r) (fun g P=>Y.gi g P) j rfl H z (bS:=l) (Jx A Y.w) (fun _ _ _ _ h=>h.elim) (fun _ _ h=>h.elim);refine akd (U:=fun _ _=>False) o (fun b hb=>⟨Y.off b hb,Y.low hb⟩) fun S' X' f' l' w' hd X=>?_;obtain⟨rfl,r',a',v',V,W,E,G,⟨N,q⟩,_,_,D,f1,f2,f3,f4,f5,f6⟩:=xw (kr:=k) (fun k h=>h) hd;subst E G;obtain⟨J,tmps,todo,defers,mode,kind,ro⟩:=f';simp only at f1 f2 f3 f4 f5 f6 D;rw[N]at f6;have O:defers=[]:=by
  generalize defers=d at f6;cases f6 with
  |nil=>rfl
  |rest _ h=>exact h.elim
 subst O f3 f4 f5;have B:J=fn:=f1;have C:kind=.normal:=f2;subst B C;have L:Al Z (iE I r') v' w':=⟨Jx I W,fun g P=>V _ _ (Y.gi g P),fun b hb=>?_⟩
 ·exact g a'.tmps v' q (iE I r') Z w' tmps _ f (lF I D) L (u.on (fun b c e=>V b c e) (.of X (fun _ ⟨b,e,_⟩=>⟨b,e⟩) fun _ ⟨b,e⟩=>⟨b,e,id⟩))
 ·rcases X.may b ⟨_,hb.choose_spec,fun h=>h⟩with y|y
  ·obtain⟨b0,M,_⟩:=y;exact Y.off b ⟨b0,M⟩
  ·exact K.off y
theorem GW.rest{F:Func}(Y:PR.funcs[fn]?=some F){p:Code}(N:eg K0 PR false p=true)(M:∀T,p.wp PR (bodyPost PR F fun e v'=>∃x,e=.returned x/\R x v') ⟨a,[]⟩ (tp v T)):GW false Q R fn [.code p] a v:=by
 intro r Z w t l L O H P;obtain⟨c,cs,rfl⟩:=sI L;refine aH.El fun K=>?_
 letI:=gv
 have D:cH PR false p:=ga (fun _ _ h=>h) N;refine aH.rest (Bw oz pN) (fun _ h=>by cases h) (fun _ h=>h) H.gi (b:=bf fn) Y rfl M (fun e u h=>h.imp fun x y=>y.1) (f':=(bf fn).at ⟨t,[]⟩ [.code p]) ⟨rfl,O,.cons (.code D) .nil,.nil,.run,rfl,.inl rfl,.none,fun _=>⟨_,Y⟩⟩ H.w H.off fun r' v' x x' w' I A U B C=>?_;obtain⟨y,e,J⟩:=B;cases e;have z:=H.fin K I U C;exact P r' Z x x' v' w' I A z.1 z.2 J
end
theorem L1{U:Nat->Nat->Prop}(S X:Nat->Prop)(w:World):fj U S X w {w with drawn:=w.drawn+1} #[] S X:=⟨⟨fun _ _ _=>rfl,ajf _,fun a=>⟨.inl,fun h=>h.resolve_right fun y=>by have:=y.2;simp at this;omega⟩,fun a=>⟨.inl,fun h=>h.resolve_right fun y=>by have:=y.2;simp at this;omega⟩,fun e he=>by simp_all,rfl,.refl _,rfl⟩,fun e he=>by simp_all⟩
section
variable{P:Program}{Q:QT}{Z:Loc->Prop}{w:World}{cs:List Frame}
theorem aH.pick{b:Frame}{a:Act}{k:List Item}{id:Nat}{ops:Array Oper}(h:∀t w',aZ Z w w'->(∀b,b<w.heap.size->w'.heap[b]?=w.heap[b]?)->aH P Q Z (b.at a (.inRegion ops (ajM (P.follows .mixedOrders) ops t)::k)) cs w'):aH P Q Z (b.at a (.code (.region id ops true)::k)) cs w:=by
 refine akd (U:=fun _ _=>False) (S:=fun _=>False) (Done:=fun S X f' l' w'=>X=(fun _=>False)/\l'=cs/\∃t,f'=b.at a (.inRegion ops (ajM _ ops t)::k)) (Tr.one fun w2 hr=>⟨_,_,_,_,_,_,stepG_region_draw,(L1 (U:=fun _ _=>False) _ _ w2).toDid,.stop ⟨rfl,rfl,_,rfl⟩⟩) (fun b h=>h.elim) fun S' X' f' l' w' hd hk=>?_;obtain⟨rfl,rfl,t,rfl⟩:=hd;exact h t w' (aZ.of hk) fun b hb=>hk.kept b hb (fun y=>y)
end
theorem mixed:PR.follows .mixedOrders=true:=by kernel_rfl
theorem sched{ops:Array Oper}(t:Nat):ajM (PR.follows .mixedOrders) ops t=Region.linearise.go .any ops ops.size t (ajm ops.size false) []:=by
 rfl
theorem zE{md:aj3}{ops:Array Oper}{i:Nat}(h:Region.ready md ops listed=[i])(fuel t:Nat):Region.linearise.go md ops (fuel+1) t listed []=i::Region.linearise.go md ops fuel (t/1) (listed.setIfInBounds i true) []:=by
 change(match(Region.ready md ops _)[t%(Region.ready md ops _).length]? with
   |some i=>Region.linearise.go md ops _ (t/(Region.ready md ops _).length) _ [i]
   |none=>[].reverse)=_
 rw[h];simp only[List.length_singleton,Nat.mod_one,List.getElem?_cons_zero];rw[linearise_go_acc,ajx,ajD]
def ab:List Bool:=[false,true]
theorem bX{f:Bool->Bool}(h:ab.all f=true)(d:Bool):f d=true:=ajh.1 h d (by cases d<;>simp[ab])
def rW:Nat->Value->Bool
 |_,.bool _|_,.int .. |_,.string _|_,.pointer none|_,.slice none _ _|_,.nilFunc|_,.nilIface=>true
 |n+1,.agg c=>c.all (rW n)
 |n+1,.iface _ v=>rW n v
 |_,_=>false
theorem Cd[aj]{r:Rn}:∀{n:Nat} {v y:Value},rW n v=true->V r v y->y=v:=by
 intro n;induction n with
 |zero=>
  intro v y h K;cases K<;>first|rfl|(simp[rW]at h)
 |succ n D=>
  intro v y h K;cases K with
  |agg I R=>
   congr 1;apply Array.ext
   ·omega
   ·intro i Y H;exact D (aj1.1 h i H) (R i _ _ (ajc H) (ajc Y))
  |iface t Y=>exact congrArg _ (D h Y)
  |_=>first|rfl|(simp[rW]at h)
def gj(d:Option Nat)(x:Value)(a:Array Value):Array Value:=match d with
 |some i=>a.setIfInBounds i x
 |none=>a
theorem L2(d:Option Nat)(x:Value)(a:Array Value):Act.put ⟨a,[]⟩ d x=⟨gj d x a,[]⟩:=by cases d<;>rfl
section
variable{tb:Bool}{Q:QT}{R R1:Value->World->Prop}{Z:Loc->Prop}{r:RN}{v v1 w w':World}{fn f:FuncId}{k:List Item}{a args:Array Value}{ops:Array Oper}{i:Nat}{is:List Nat}{o:Oper}{x:Value}
theorem L3{r':RN}{t:Array Value}(h:@VA gv r a t)(hr:@Le gv r r')(Y:@V gv r' x x')(d:Option Nat):@VA gv r' (gj d x a) (gj d x' t):=by
 letI:=gv
 cases d with
 |none=>exact h.mono hr
 |some i=>exact(h.mono hr).set i Y
theorem Qp(H:ops[i]?=some o)(Y:o.guard=none)(t:Array Value):opAt ((bf fn).at ⟨t,[]⟩ (.inRegion ops (i::is)::k))=some o:=by
 simp[opAt,Frame.at,H,Region.wanted,Y]
theorem fin_at(Y:ops[i]?=some o)(t:Array Value)(y:Value):((bf fn).at ⟨t,[]⟩ (.inRegion ops (i::is)::k)).finish y=(bf fn).at ⟨gj o.dst y t,[]⟩ (.inRegion ops is::k):=by
 rw[Frame.finish_at,Y];simp only[Option.bind_some];rw[L2]
theorem GW.op(O:∃F,PR.funcs[fn]?=some F)(M:ops[i]?=some o)(j:o.guard=none)(hb:y_ K0 PR o.op=true)(T:∀c,o.op=.call c->c.callee≠.builtin .recover)(hd:v1.drawn=v.drawn){n:Next}(hr:(execOp (Act.eval ⟨a,[]⟩) o).run PR v=.ok n v1)(hn:n=.value x\/n=.skip/\x=undef)
  (g:GW tb Q R fn (.inRegion ops is::k) (gj o.dst x a) v1):GW tb Q R fn (.inRegion ops (i::is)::k) a v:=by
 intro r Z w t l hl q A kk;refine aH.El fun B=>?_
 letI:=gv
 have F:=Bw oz pN;have E:MX PR o.op:=Bn (fun _ _ h=>h) hb;have G:SR PR (NX true) r (execOp (Act.eval ⟨a,[]⟩) o) (execOp (Act.eval ⟨t,[]⟩) o):=xr F.toFit (fun y hy=>na O q A.gi hy) (fun y=>⟨rfl,rfl⟩) o E (fun c e d=>absurd d (T c e));refine akd (U:=fun _ _=>False) (S:=Rd r) (X:=Wr r) (Done:=fun S X f' l' w'=>∃(r':Rn) (x':Value),Le r r'/\V r' x x'/\Ren.W r' 0 v1 w'/\S=Rd r'/\X=Wr r'/\f'=(bf fn).at ⟨gj o.dst x' t,[]⟩ (.inRegion ops is::k)/\l'=l) (Tr.one fun w2 hrel=>?_) (fun b hb=>⟨A.off b hb,A.low hb⟩) fun S' X' f' l' w' hd m=>?_
 ·have H:Ren.W r 0 v w2:=A.w.rely (U:=fun _ _=>False) (fun _ _ _ _ y=>y.elim) hrel;have h:=SR.run F.vT G #[] H;rw[hr]at h;generalize D:(execOp (Act.eval ⟨t,[]⟩) o).runT PR w2 #[]=y at h;cases h with
  |@ok _ a' _ w1 fs r1 c1 out C N=>
   have L:c1=0:=by have:=out.drew;omega
   subst L;rw[Sem.runT_eq]at D;have K:(execOp (Act.eval ⟨t,[]⟩) o).run PR w2=.ok a' w1:=congrArg Prod.fst D;have Y:(execOp (Act.eval ⟨t,[]⟩) o).events PR w2 #[]=fs:=congrArg Prod.snd D;have I:∀p e,e∈seen PR p fs->vo r w2 w1.heap.size e:=fun p e he=>(N e (mem_seen _ _ e he)).elim (fun z=>by simp at z) id;rcases hn with rfl|⟨rfl,rfl⟩
   ·cases C with
    |@value _ x' hV=>
     have au:=bG (P:=PR) (main:=true) (f:=(bf fn).at ⟨t,[]⟩ (.inRegion ops (i::is)::k)) (cs:=l) (w:=w2) (w':=w1) (Qp M j t) (v:=x') (by rw[ajt];exact K);rw[ajt,Y,fin_at M]at au;exact⟨_,_,_,_,_,_,au,out.did H (I _),.stop ⟨r1,x',out.le,hV,out.wl,rfl,rfl,rfl,rfl⟩⟩
   ·cases C with
    |skip=>
     have au:=step_skip (P:=PR) (main:=true) (f:=(bf fn).at ⟨t,[]⟩ (.inRegion ops (i::is)::k)) (cs:=l) (w:=w2) (w':=w1) (Qp M j t) (by rw[ajt];exact K);rw[ajt,Y,fin_at M]at au;exact⟨_,_,_,_,_,_,au,out.did H (I _),.stop ⟨r1,undef,out.le,.tuple rfl (fun i x x' e=>by simp at e),out.wl,rfl,rfl,rfl,rfl⟩⟩
  |sx hf _=>have:(Result.ok n v1).world.drawn=v1.drawn:=rfl;omega
 ·obtain⟨r',x',J,s,u,rfl,rfl,rfl,rfl⟩:=hd;have z:=A.fin B J u m;exact g r' Z w' _ _ hl (L3 q J s o.dst) z.1 (kk.on J z.2)
def oB(ops:Array Oper)(i:Nat):Option Nat:=ops[i]?.bind (·.dst)
def MC(ops:Array Oper)(i:Nat):Array Operand:=match ops[i]?.map (fun o=>o.op)with
 |some (Op.call c)=>c.args
 |_=>#[]
def Ms (ops:Array Oper) (i:Nat) (t:Array Value):Option (FuncId×Array Value):=match ops[i]? with
 |some o=>if o.guard.isNone then match pW PR (execOp (Act.eval ⟨t,[]⟩) o)with
  |some (.enter f zs)=>some (f,zs)
  |_=>none else none
 |none=>none
theorem L4{t zs:Array Value}(h:Ms ops i t=some (f,zs)):∃o,ops[i]?=some o/\o.guard=none/\pW PR (execOp (Act.eval ⟨t,[]⟩) o)=some (.enter f zs):=by
 unfold Ms at h;split at h
 ·rename_i o Y;split at h
  ·rename_i hb;split at h
   ·rename_i g K he;cases h;exact⟨o,Y,ajK.1 hb,he⟩
   ·cases h
  ·cases h
 ·cases h
theorem GW.call(H:∃F,PR.funcs[fn]?=some F)(M:aL Q f args v R1)(g:∀x v',R1 x v'->GW tb Q R fn (.inRegion ops is::k) (gj (oB ops i) x a) v')(Y:(MC ops i).map (Act.eval ⟨a,[]⟩)=args:=by kernel_rfl)(h:∀t,Ms ops i t=some (f,(MC ops i).map (Act.eval ⟨t,[]⟩)):=by intro t;kernel_rfl)(I:(MC ops i).all (fI K0)=true:=by kernel_rfl):GW tb Q R fn (.inRegion ops (i::is)::k) a v:=by
 intro r Z w t l O U A S
 letI:=gv
 refine aH.pure 1 fun w1 hk=>?_;obtain⟨o,D,N,aM⟩:=L4 (h t);have e:aQ PR 1 ((bf fn).at ⟨t,[]⟩ (.inRegion ops (i::is)::k)) l=(Frame.enter PR f ((MC ops i).map (Act.eval ⟨t,[]⟩)) .normal,(bf fn).at ⟨t,[]⟩ (.inRegion ops (i::is)::k)::l):=by
  have K:Frame.eval ⟨fn,t,.inRegion ops (i::is)::k,[],.run,.normal,none⟩=Act.eval ⟨t,[]⟩:=ajt (bf fn) ⟨t,[]⟩ _;simp only[aQ,Cr,Frame.at,prun,D,Region.wanted,N,pop,K,aM];simp
 rw[e];refine M r Z w1 _ _ _ ?_ (A.quiet hk) fun r' Z' x x' v' w' K B C J L=>?_
 ·rw[<-Y];exact VA.mapOf fun y P=>na H U A.gi (e_ (ajn.1 I y P))
 ·have e:oB ops i=o.dst:=by simp[oB,D]
  rw[e]at g;change aH PR Q Z' (((bf fn).at ⟨t,[]⟩ (.inRegion ops (i::is)::k)).finish x') l w';rw[fin_at D];exact g x v' L r' Z' w' _ l O (L3 U K B o.dst) C (S.on K ((Kz.qt hk).trans J))
theorem aL.bN(D:K0.bN f=true)(M:∀T,Calls PR f args (tp v T) fun e v'=>∃x,e=.returned x/\R x v'):aL Q f args v R:=by
 intro r Z w H c cs J K L;refine aH.El fun Y=>?_
 letI:=gv
 refine aH.call (Bw oz pN) (fun _ h=>by cases h) (fun _ h=>h) K.gi M (fun e u h=>h.imp fun x y=>y.1) D J K.w K.off fun r' v' x x' w' I A U B C=>?_;obtain⟨y,e,F⟩:=B;cases e;have z:=K.fin Y I U C;exact L r' Z x x' v' w' I A z.1 z.2 F
theorem aL.of{F:Func}(H:PR.funcs[fn]?=some F){p:Code}(U:F.body=some p)(I:F.ntmps=n)(h:GW false Q R fn [.code p] (args++ajm (n-args.size) undef) v):aL Q fn args v R:=by
 intro r Z w Y c cs K D A
 letI:=gv
 have e:Frame.enter PR fn Y .normal=(bf fn).at ⟨Y++ajm (n-args.size) undef,[]⟩ [.code p]:=by
  simp[Frame.enter,H,U,I,Frame.at,K.size]
 rw[e];exact h r Z w _ (c::cs) rfl (K.append (.rep _ (.tuple rfl (fun i x x' e=>by simp at e)))) D A
theorem GW.draw{id:Nat}(h:∀t,GW tb Q R fn (.inRegion ops (Region.linearise.go .any ops ops.size t (ajm ops.size false) [])::k) a v):GW tb Q R fn (.code (.region id ops true)::k) a v:=by
 intro r Z w t l I A K U;refine aH.pick fun u w' Y D=>?_;rw[sched];have H:Ke w w':=⟨Y.tape,Y.env,Y.output,Y.grow⟩;exact h u r Z w' t l I A (K.on (fun b hb=>D b (K.low hb)) H) (U.on (fun _ _ e=>e) ⟨H,fun b hb _ _=>D b hb,fun _ _ y=>y,fun _ y=>y,fun _ y=>.inl y⟩)
theorem GW.Qr{md:aj3}(mk:Array Bool->Array Value)(Inv:Nat->Array Bool->World->Prop)
  (H:∀listed i fuel t v,Inv (fuel+1) listed v->i∈Region.ready md ops listed->(∀v',Inv fuel (listed.setIfInBounds i true) v'->GW tb Q R fn (.inRegion ops (Region.linearise.go md ops fuel t (listed.setIfInBounds i true) [])::k) (mk (listed.setIfInBounds i true)) v')->GW tb Q R fn (.inRegion ops (i::Region.linearise.go md ops fuel t (listed.setIfInBounds i true) [])::k) (mk listed) v)
  (Y:∀fuel listed v,Inv fuel listed v->fuel=0\/Region.ready md ops listed=[]->GW tb Q R fn (.inRegion ops []::k) (mk listed) v):
  ∀fuel t listed v,Inv fuel listed v->GW tb Q R fn (.inRegion ops (Region.linearise.go md ops fuel t listed [])::k) (mk listed) v:=by
 intro fuel;induction fuel with
 |zero=>intro t listed v h;exact Y 0 listed v h (.inl rfl)
 |succ fuel A=>
  intro t listed v h;simp only[Region.linearise.go];change GW tb Q R fn (.inRegion ops (match(Region.ready md ops listed)[t%(Region.ready md ops listed).length]? with
   |some i=>Region.linearise.go md ops fuel (t/(Region.ready md ops listed).length) (listed.setIfInBounds i true) [i]
   |none=>[].reverse)::k) (mk listed) v
  cases D:(Region.ready md ops listed)[t%(Region.ready md ops listed).length]? with
  |none=>
   have K:Region.ready md ops listed=[]:=by
    cases hr:Region.ready md ops listed with
    |nil=>rfl
    |cons x xs=>
     rw[hr]at D;have I:t%(x::xs).length<(x::xs).length:=Nat.mod_lt _ (by simp);simp at D;simp at I;omega
   exact Y (fuel+1) listed v h (.inr K)
  |some i=>
   simp only[];rw[linearise_go_acc,ajx,ajD];exact H listed i fuel _ v h (ajF D) fun v' h'=>A _ _ v' h'
end
end Ph
namespace Ph
open Conc Ren RowKit
section
variable{Q:QT}{Z Z':Loc->Prop}{r:RN}{v w w':World}
theorem Ke.oA(h:aZ Z w w'):Ke w w':=⟨h.tape,h.env,h.output,h.grow⟩
theorem Al.oA(h:Al Z r v w)(H:∀l,Z' l->Z l\/∃a:Addr,l=.cell a/\w.heap.size<=a.block)(Y:aZ Z w w'):Al Z' r v w':=
 have k:=h.on (fun b hb=>Y.old b (h.low hb) (h.off b hb)) (.oA Y)
 ⟨k.w,k.gi,fun b hb=>gD H (h.off b hb) (h.low hb)⟩
theorem SE(h:Al Z r v w){B:Nat}{D:∀x,r x≠some B}{Y:gv.size<=v.heap.size}{H:gv.size<=B}:@Le gv r (@ext gv r v.heap.size B D Y H):=fun b a e=>by
 letI:=gv
 have:=(h.w.lt e).1;show(if b=v.heap.size then some B else r b)=some a
 rw[if_neg (by omega)];exact e
theorem zF{B:Nat}{D:∀x,r x≠some B}{Y:gv.size<=n}{H:gv.size<=B}{b b':Nat}(e:@ext gv r n B D Y H b=some b'):(b=n/\b'=B)\/r b=some b':=by
 have e:(if b=n then some B else r b)=some b':=e;split at e
 ·simp_all
 ·simp_all
theorem Al.new(h:Al Z r v w)(S:∀l,Z' l->Z l\/∃a:Addr,l=.cell a/\w.heap.size<=a.block)(M:aZ Z w w'){B:Nat}(I:w.heap.size<=B)(U:jl Z' B){o o':Obj}(N:w'.heap[B]?=some o')(F:∀r':RN,@Le gv r r'-> @O gv r' o o'):
  ∃r':RN,@Le gv r r'/\r' v.heap.size=some B/\Al Z' r' (v.alloc o) w'/\∀b,@Rd gv r' b->b=B\/ @Rd gv r b:=by
 letI:=gv
 have K:=h.oA S M;have R:∀x,r x≠some B:=fun x e=>by have:=h.low ⟨x,e⟩;omega
 have hle:Le r (ext r _ B R h.w.gv (ajd h.w.gw I)):=SE h;have H:ext r _ B R h.w.gv (ajd h.w.gw I) _=some B:=if_pos rfl;refine⟨_,hle,H,⟨⟨fun b b' e=>?_,ajd h.w.gv (by simp),K.w.gw,fun b hb=>absurd hb id,fun i q L=>by omega,K.w.env⟩,h.gi.mono hle,fun b hb=>?_⟩,fun b hb=>?_⟩
 ·rcases zF e with⟨rfl,rfl⟩|e
  ·exact⟨o,o',heap_alloc_new v o,N,.same id (F _ hle)⟩
  ·obtain⟨q,J,D,A,C⟩:=K.w.obj b b' e;refine⟨q,J,?_,A,C.mono hle⟩;rw[<-D];exact((Below.refl _ v).alloc (ajf _) o).block b (ax D)
 ·obtain⟨b0,Y⟩:=hb;rcases zF Y with⟨_,rfl⟩|e
  ·omega
  ·exact K.off b ⟨b0,e⟩
 ·obtain⟨b0,Y⟩:=hb;rcases zF Y with⟨_,rfl⟩|e
  ·simp
  ·exact .inr ⟨b0,e⟩
theorem OT{a b:Array Value}(h:@VA gv r a b)(H:a.all (rW 3)=true):b=a:=by
 letI:=gv
 apply Array.ext
 ·exact h.size.symm
 ·intro i K Y;exact Cd (aj1.1 H i Y) (h.at_ i _ _ (ajc Y) (ajc K))
theorem Al.tabs(h:Al Z r v w)(I:iR v)(g:Nat)(H:g=0\/g=2\/g=3):w.heap[g]?=v.heap[g]?:=by
 letI:=gv
 obtain⟨U,t,fz,e,A⟩:=I g H;obtain⟨o,o',K,D,Y⟩:=h.w.obj g g (h.gi g (by rcases H with rfl|rfl|rfl<;>first|exact rfl|exact rfl|exact rfl));rw[e]at K;cases K;have Y:=OB.plain Y (fun _ h=>h);cases Y with
 |cells _ _ R=>rw[D,Iw R A,<-e]
theorem OU{P:ByteArray}{k q st:Nat}(hX:X.size<=200)(hP:P.size<=30)(hk:k<=6)(W:1<=q)(B:q<=8)(j:1<=st)(C:st<=200)(G:1<=n)(U:n<=8):
  aL Q 122 #[.string X,.string P,lT k q st,iv n] v fun x v'=>x=.map (some v.heap.size)/\∃o,v'=v.alloc o/\kq (gX X P k st (bC X P k q st)) (some o):=by
 intro r Z w D c cs E F z;obtain rfl:=OT E (by simp[rW])
 letI:=gv
 refine u_ hX hP hk W B j C G U F.w.gw fun Z' Mp w' A K I R Y H T=>?_;obtain⟨es,clock,l,he,hF⟩:=id H;rw[he]at H;obtain⟨r',J,L,M,N⟩:=F.new K I R Y he fun r' _=>.map _ rfl fun i x x' e e'=>by
  obtain rfl:=Option.some.inj (e.symm.trans e');obtain⟨a,b,O,S⟩:=ET H x (Array.mem_of_getElem? e);exact⟨by rw[O];exact .int _ _,by rw[S];exact .int _ _,rfl⟩
 exact z r' Z' _ _ _ w' J (.map L) M ⟨.oA I,fun b hb _ V=>I.old b hb V,fun b hb y=>(N b y).resolve_left (by omega),A,K⟩ ⟨rfl,_,rfl,H⟩
end
section
variable{tb:Bool}{Q:QT}{R:Value->World->Prop}{v v1:World}{fn:FuncId}{k:List Item}{a:Array Value}{ops:Array Oper}{i:Nat}{is:List Nat}{x:Value}
def Kw(v v1:World):Prop:=∀a,a<v.heap.size->v1.heap[a]?=v.heap[a]?
theorem Kw.size(h:Kw v v1):v.heap.size<=v1.heap.size:=by
 cases e:v.heap.size with
 |zero=>exact Nat.zero_le _
 |succ n=>
  have:=h n (by omega);rw[ajc (by omega:n<v.heap.size)]at this;exact ax this
theorem Kw.refl(v:World):Kw v v:=fun _ _=>rfl
theorem Kw.trans{v v1 v2:World}(h:Kw v v1)(k:Kw v1 v2):Kw v v2:=fun a Y=>(k a (aji Y h.size)).trans (h a Y)
theorem Kw.at(h:Kw v v1){a:Nat}{o:Obj}(Y:v.heap[a]?=some o):v1.heap[a]?=some o:=(h a (ax Y)).trans Y
theorem Kw.alloc(v:World)(o:Obj):Kw v (v.alloc o):=fun a Y=>((Below.refl _ v).alloc (ajf _) o).block a Y
theorem Kw.mh(h:Kw v v1)(Y:iR v)(k:bu v):bu v1:=by
 obtain⟨_,_,_,e,_⟩:=Y 0 (.inl rfl);exact iS k (h 0 (ax e))
theorem Kw.tabs(h:Kw v v1)(Y:iR v):iR v1:=Y.same fun g K=>by
 obtain⟨_,_,_,e,_⟩:=Y g K;exact h g (ax e)
def L5:Op->Bool
 |.call c=>match c.callee with
  |.builtin .recover=>false
  |_=>true
 |_=>true
def zR (ops:Array Oper) (i:Nat) (a:Array Value):Option (Sem Next):=match ops[i]? with
 |some o=>if o.guard.isNone&&y_ K0 PR o.op&&L5 o.op then some (execOp (Act.eval ⟨a,[]⟩) o)else none
 |none=>none
theorem GW.ex(Y:∃F,PR.funcs[fn]?=some F){s:Sem Next}{n:Next}(h:zR ops i a=some s)(hr:s.run PR v=.ok n v1)(D:n=.value x\/n=.skip/\x=undef)(hd:v1.drawn=v.drawn)(g:GW tb Q R fn (.inRegion ops is::k) (gj (oB ops i) x a) v1):GW tb Q R fn (.inRegion ops (i::is)::k) a v:=by
 unfold zR at h;split at h
 ·rename_i o K;split at h
  ·rename_i hb;simp only[ajB,ajK]at hb;cases h;have e:oB ops i=o.dst:=by simp[oB,K]
   rw[e]at g;exact GW.op Y K hb.1.1 hb.1.2 (fun c e H=>by rw[e]at hb;simp[L5,H]at hb) hd hr D g
  ·cases h
 ·cases h
def zG(s:Sem Value):Sem Next:=do pure (.value (<-s))
def OV(s:Sem Unit):Sem Next:=do s;pure .skip
theorem GW.vl(Y:∃F,PR.funcs[fn]?=some F){s:Sem Value}(h:zR ops i a=some (zG s))(hr:s.run PR v=.ok x v1)(hd:v1.drawn=v.drawn)(g:GW tb Q R fn (.inRegion ops is::k) (gj (oB ops i) x a) v1):GW tb Q R fn (.inRegion ops (i::is)::k) a v:=
 GW.ex Y h (by simp[zG,hr]) (.inl rfl) hd g
def SG (ops:Array Oper) (i:Nat) (a:Array Value):Option (Array Value):=match zR ops i a with
 |some s=>match pW PR s with
  |some (.value x)=>some (gj (oB ops i) x a)
  |_=>none
 |none=>none
theorem GW.pu(Y:∃F,PR.funcs[fn]?=some F)(h:SG ops i a=some a')(g:GW tb Q R fn (.inRegion ops is::k) a' v):GW tb Q R fn (.inRegion ops (i::is)::k) a v:=by
 unfold SG at h;split at h
 ·rename_i s K;split at h
  ·rename_i x he;cases h;exact GW.ex Y K (eD he v) (.inl rfl) rfl g
  ·cases h
 ·cases h
def TL (ops:Array Oper):List Nat->Array Value->Option (Array Value)
 |[],a=>some a
 |i::l,a=>(SG ops i a).bind (TL ops l)
theorem GW.Wx(Y:∃F,PR.funcs[fn]?=some F):∀(l:List Nat) {a:Array Value},(TL ops l a).isSome=true->GW tb Q R fn (.inRegion ops is::k) ((TL ops l a).getD #[]) v->GW tb Q R fn (.inRegion ops (l++is)::k) a v
 |[],a,_,g=>g
 |i::l,a,h,g=>by
  simp only[TL]at h g;cases e:SG ops i a with
  |none=>rw[e]at h;cases h
  |some a'=>
   rw[e]at h g;exact GW.pu Y e (GW.Wx Y l h g)
theorem GW.fh(Y:∃F,PR.funcs[fn]?=some F)(l:List Nat)(g:GW tb Q R fn (.inRegion ops is::k) ((TL ops l a).getD #[]) v)(h:(TL ops l a).isSome=true:=by kernel_rfl):GW tb Q R fn (.inRegion ops (l++is)::k) a v:=GW.Wx Y l h g
theorem GW.bx(Y:∃F,PR.funcs[fn]?=some F){t:TypeId}(g:∀v1,Kw v v1->v.heap.size<v1.heap.size->v1.heap[v.heap.size]?=some (.cells y.cells t)->GW tb Q R fn (.inRegion ops is::k) (gj (oB ops i) (ptr v.heap.size) a) v1)(h:zR ops i a=some (zG (Instr.box t y)):=by kernel_rfl):GW tb Q R fn (.inRegion ops (i::is)::k) a v:=
 GW.vl (v1:=v.alloc (.cells y.cells t)) Y h (by simp[go_sem];rfl) rfl (g _ (.alloc v _) (by simp) (heap_alloc_new v _))
theorem GW.ld(Y:∃F,PR.funcs[fn]?=some F){t:TypeId}(H:(ajj t y).run PR v=.ok x v)(g:GW tb Q R fn (.inRegion ops is::k) (gj (oB ops i) x a) v)(h:zR ops i a=some (zG (ajj t y)):=by kernel_rfl):GW tb Q R fn (.inRegion ops (i::is)::k) a v:=
 GW.vl Y h H rfl g
theorem vb{α:Type}{f:TypeInfo->α}{t:TypeId}{z:α}(Y:(PR.info? t).map f=some z):∃inf,PR.info? t=some inf/\f inf=z:=Option.map_eq_some_iff.1 Y
theorem GW.al(Y:∃F,PR.funcs[fn]?=some F){t:TypeId}(D:(PR.info? t).map (·.zero)=some (some z))(g:∀v1,v1=v.alloc (.cells z.cells t)->Kw v v1->v.heap.size<v1.heap.size->v1.heap[v.heap.size]?=some (.cells z.cells t)->GW tb Q R fn (.inRegion ops is::k) (gj (oB ops i) (ptr v.heap.size) a) v1)(h:zR ops i a=some (zG (Instr.alloc t true (.tuple #[]))):=by kernel_rfl):GW tb Q R fn (.inRegion ops (i::is)::k) a v:=by
 obtain⟨inf,K,H⟩:=vb D;exact GW.vl (v1:=v.alloc (.cells z.cells t)) Y h (by simp[go_sem,Instr.alloc,zeroValue,typeInfo,K,H];rfl) rfl (g _ rfl (.alloc v _) (by simp) (heap_alloc_new v _))
theorem GW.ix(H:∃F,PR.funcs[fn]?=some F){t:TypeId}{B off z:Nat}(C:j<n)(hu:PR.underlying t=some (.slice (PR.elem t)))(U:(PR.info? (PR.elem t)).map (·.size)=some z)
  (g:GW tb Q R fn (.inRegion ops is::k) (gj (oB ops i) (.pointer (some ⟨B,off+j *z,none⟩)) a) v)(h:zR ops i a=some (zG (ajI t (.slice (some ⟨B,off,none⟩) n cap) (.int .i64 (j:Int)))):=by kernel_rfl):GW tb Q R fn (.inRegion ops (i::is)::k) a v:=by
 obtain⟨inf,K,rfl⟩:=vb U;have I:(0:Int)<=(j:Int)/\(j:Int)<(n:Int):=by omega
 have Y:(⟨B,off,none⟩:Addr).add (j *inf.size)=⟨B,off+j *inf.size,none⟩:=by
  by_cases D:j *inf.size=0
  ·rw[D];simp[Addr.add]
  ·simp only[Addr.add,D];simp
 refine GW.vl H h ?_ rfl g;simp[ajI,run_underlying hu,asIntOf,I,sizeOf,typeInfo,K,Y];intro A;omega
theorem GW.to(a':Array Value)(g:GW tb Q R fn k a' v)(h:a=a':=by kernel_rfl):GW tb Q R fn k a v:=h▸g
theorem GW.mono{R1:Value->World->Prop}(h:∀x v',R1 x v'->R x v')(g:GW tb Q R1 fn k a v):GW tb Q R fn k a v:=
 fun r Z w t l U B A C=>g r Z w t l U B A fun r' Z' x x' v' w' Y K H D I=>C r' Z' x x' v' w' Y K H D (h _ _ I)
theorem GW.EU{F:Func}(Y:PR.funcs[fn]?=some F){p:Code}(S:eg K0 PR false p=true)(O:(is.all fun i=>match ops[i]? with|some o=>Bl K0 PR false o|none=>true)=true)
  (M:∀T,wpOps PR ops (fun e a' w'=>e=.normal/\p.wp PR (bodyPost PR F fun e v'=>∃x,e=.returned x/\R x v') a' w') is ⟨a,[]⟩ (tp v T)):GW false Q R fn [.inRegion ops is,.code p] a v:=by
 intro r Z w t l D V H X;obtain⟨c,cs,rfl⟩:=sI D;refine aH.El fun K=>?_
 letI:=gv
 have I:cH PR false p:=ga (fun _ _ h=>h) S;refine aH.lone (Bw oz pN) (fun _ h=>by cases h) (fun _ h=>h) H.gi (R:=fun e v'=>∃x,e=.returned x/\R x v') (b:=bf fn) (a:=⟨a,[]⟩) (its:=[.inRegion ops is,.code p]) Y rfl (fun T=>AK Y rfl (by rintro u ⟨x,e,_⟩;cases e) (M T) [dQ]) (fun e u h=>h.imp fun x y=>y.1) (f':=(bf fn).at ⟨t,[]⟩ [.inRegion ops is,.code p]) ⟨rfl,V,.cons (.inRegion _ fun i N o P=>?_) (.cons (.code I) .nil),.nil,.run,rfl,.inl rfl,.none,fun _=>⟨_,Y⟩⟩ H.w H.off fun r' v' x x' w' A U B C J=>?_
 ·have:=ajh.1 O i N;rw[P]at this;exact tZ (fun _ _ h=>h) this
 ·obtain⟨y,e,L⟩:=C;cases e;have z:=H.fin K A B J;exact X r' Z x x' v' w' A U z.1 z.2 L
theorem wY(j:Nat){t:TypeId}{b:Nat}{c:Array Value}{fz:Nat×Nat}(D:pW PR (isAgg t)=some false)(h:v.heap[b]?=some (.cells c e fz))(H:c[j]?=some x):(ajj t (IX b j)).run PR v=.ok x v:=by
 have Y:v.cell? ⟨b,j,none⟩=some x:=by simp[aja,h,H]
 have:=eD D v;simp[ajj,IX,this,Y,go_sem]
end
section
variable{v:World}{b:Nat}{x y z:Value}{e:TypeId}{fz:Nat×Nat}
theorem Ce(h:v.heap[b]?=some (.cells #[x,y,z] e fz)):(ajj 75 (ptr b)).run PR v=.ok (.agg #[x,y,z]) v:=by
 have c0:v.cell? ⟨b,0,none⟩=some x:=by simp[aja,h]
 have c1:v.cell? ⟨b,1,none⟩=some y:=by simp[aja,h]
 have c2:v.cell? ⟨b,2,none⟩=some z:=by simp[aja,h]
 simp[ptr,go_sem,c0,c1,c2]
end
noncomputable def pl0:Array Oper:=match ajW.body with
 |some (.seq (.region _ o _) _)=>o
 |_=>#[]
noncomputable def pl1:Array Oper:=match ajW.body with
 |some (.seq _ (.seq (.region _ o _) _))=>o
 |_=>#[]
theorem Wy:ajW.body=some (.seq (.region 0 pl0 false) (.seq (.region 1 pl1 false) Qn)):=by kernel_rfl
section
variable{Q:QT}{XN X rn P rm:ByteArray}{fl:Bool}{k q st n:Nat}{v:World}
theorem Cf(hX:X.size<=200)(hP:P.size<=30)(hk:k<=6)(I:k<P.size)(M:1<=q)(B:q<=8)(N:1<=st)(C:st<=200)(G:1<=n)(U:n<=8)(D:iR v)(S:bu v):
  aL Q 111 #[pM XN X,CK rn P rm,.bool fl,lT k q st,iv n] v fun x v'=>v'.ownsRow v.heap.size 136 1 x (bE P X k).length (bH X P rn rm fl k)/\(bE P X k=[]->x=.slice none 0 0)/\∀a,a<v.heap.size->v'.heap[a]?=v.heap[a]?:=by
 have Y:∃F,PR.funcs[111]?=some F:=⟨_,ajY⟩;refine aL.of (n:=73) ajY Wy (by kernel_rfl) ?_;refine GW.run 2 (k':=[.inRegion pl0 [0,1,2,3],.code (.seq (.region 1 pl1 false) Qn)]) ?_;refine GW.bx Y (t:=68) (y:=pM XN X) fun v1 k1 l1 c5=>?_;refine GW.bx Y (t:=131) (y:=CK rn P rm) fun v2 R l2 c6=>?_;refine GW.bx Y (t:=75) (y:=lT k q st) fun v3 K V L=>?_;refine GW.fh Y [3] ?_;refine GW.run 3 (k':=[.inRegion pl1 [0,1,2,3,4,5,6,7],.code Qn]) ?_;refine GW.fh Y [0] ?_;refine GW.ld Y (wY 1 ES (K.at (R.at c5)) rfl) ?_;refine GW.fh Y [2] ?_;refine GW.ld Y (wY 1 ES (K.at c6) rfl) ?_;refine GW.ld Y (Ce L) ?_;refine GW.fh Y [5] ?_;refine GW.call Y (OU hX hP hk M B N C G U) ?_;rintro x v4 ⟨rfl,o,rfl,O⟩;refine GW.fh Y [7] ?_;refine GW.run 1 (k':=[.code Qn]) ?_;have A:=Kw.alloc v3 o;have K3:Kw v v3:=(k1.trans R).trans K;have K4:=K3.trans A;have H:kq (gX X P k st (bC X P k q st)) ((v3.alloc o).heap[v3.heap.size]?):=by rw[heap_alloc_new];exact O
 have hr:=fun T=>OS (rn:=rn) (rm:=rm) (XN:=XN) (fl:=fl) (n:=n) (b8:=v2.heap.size) hX hP hk I M N (A.at (K.at (R.at c5))) (A.at (K.at c6)) H (by simp) (K4.mh D S) T;refine GW.to (Yi (pM XN X) (CK rn P rm) (lT k q st) (iv n) fl v.heap.size v1.heap.size v2.heap.size v3.heap.size (uM X P k q st n v.heap.size v1.heap.size v3.heap.size)) ?_;exact GW.mono (fun x v' h=>⟨jM h.1 K4.size,h.2.1,fun a J=>(h.2.2 a (aji J K4.size)).trans (K4 a J)⟩) (GW.rest ajY SB hr)
end
section
variable{main:Bool}{f:Frame}{cs:List Frame}
theorem L6{t:TypeId}{x y:Operand}(h:(opAt f).map (fun o=>o.op)=some (.indexAddr t x y)){B o i z:Nat}(I:f.eval x=.slice (some ⟨B,o,none⟩) n cap)(U:f.eval y=.int .i64 (i:Int))(D:i<n)(hu:PR.underlying t=some (.slice (PR.elem t)))(C:(PR.info? (PR.elem t)).map (·.size)=some z)(w:World):
  stepG PR main (G f cs) w=.go (G (f.finish (.pointer (some ⟨B,o+i *z,none⟩))) cs) w #[]:=by
 obtain⟨op,R,aM⟩:=ny h;have A:∃inf,PR.info? (PR.elem t)=some inf/\inf.size=z:=by simp_all
 obtain⟨inf,K,rfl⟩:=A;have Y:(⟨B,o,none⟩:Addr).add (i *inf.size)=⟨B,o+i *inf.size,none⟩:=by
  by_cases H:i *inf.size=0
  ·rw[H];simp[Addr.add]
  ·simp only[Addr.add,H];simp
 have hr:(execOp f.eval op).run PR w=.ok (.value (.pointer (some ⟨B,o+i *inf.size,none⟩))) w:=by
  unfold execOp;simp only[aM,I,U];simp[ajI,run_underlying hu,asIntOf,D,sizeOf,typeInfo,K,Y]
 have he:(execOp f.eval op).events PR w #[]=#[]:=by
  unfold execOp;simp only[aM,I,U];simp[ajI,run_underlying hu,asIntOf,D,sizeOf,typeInfo,K]
 rw[bG R hr,he,seen_none]
end
end Ph
section
open RowKit
noncomputable def dI:=match ajg.body with
 |some (.seq _ (.seq _ (.seq (.region _ ops _) _)))=>ops
 |_=>#[]
noncomputable def Ct:=match ajg.body with
 |some (.seq _ (.seq _ (.seq _ c)))=>c
 |_=>.skip
def SH(a0 a1 a2 a3 v1 v2:Value)(b4 b5 b6:Nat)(u:Nat->Value):=#[a0,a1,a2,a3,pt b4,pt b5,pt b6,u 7,.slice none 0 0,v1,u 10,u 11,u 12,u 13,u 14,v1,u 16,u 17,u 18,u 19,u 20,v2,u 22,u 23,u 24,u 25,u 26,u 27,u 28,u 29,u 30]
def vd(rn rb rm:ByteArray):Value:=.iface 155 (nJ rn rb rm)
theorem mi{P:Program}{H o1 o2 o3 o4 o5 o6 o7 Y:Oper}{Q:Exit->Act->World->Prop}:wpOps P #[H,o1,o2,o3,o4,o5,o6,o7,Y] Q [7,8]=wpList P #[H,o1,o2,o3,o4,o5,o6,o7,Y] Q [o7,Y]:=by
 have:=wpOps_eq_wpList (P:=P) (ops:=#[H,o1,o2,o3,o4,o5,o6,o7,Y]) (Q:=Q) [o7,Y] 7 (fun j=>by
  match j with
  |0=>rfl
  |1=>rfl
  |j+2=>rw[ajw (by simp;omega)];rfl)
 exact this
theorem Ix(H Y:List Value)(rn rb rm:ByteArray)(a0 a1 a2 a3 v1:Value)(g2 c2 b4 b5 b6 B:Nat)(u:Nat->Value)(w:World)(d:H.length<=1000)(p:Y.length<=1000)(W:0<Y.length)(G:∀x∈Y,x.oneCell'=true)
  (r1:w.ownsRow B 136 1 v1 H.length H)(r2:w.ownsRow B 136 1 (.slice (some ⟨g2,0,none⟩) Y.length c2) Y.length Y)(S:B<=w.heap.size):
  wpOps Tryz.prog dI (fun e a' w'=>e=.normal/\Ct.wp Tryz.prog (bodyPost Tryz.prog ajg fun e w'=>∃v,e=.returned v/\w'.ownsRow B 136 1 v (H++Y).length (H++Y)/\∀a,a<B->w'.heap[a]?=w.heap[a]?) a' w') [7,8] ⟨SH a0 a1 a2 a3 v1 (.slice (some ⟨g2,0,none⟩) Y.length c2) b4 b5 b6 u,[]⟩ w:=by
 obtain⟨i0,T,C,F,J⟩:=info_parts Gk;have P:=fun j u V=>(r2.cells (g:=g2) rfl) j u V;obtain⟨Q,U⟩:∃Q,Q=(fun e a' w'=>e=aj4/\Ct.wp Tryz.prog (bodyPost Tryz.prog ajg fun e w'=>∃v,e=.returned v/\w'.ownsRow B 136 1 v (H++Y).length (H++Y)/\∀a,a<B->w'.heap[a]?=w.heap[a]?) a' w'):=⟨_,rfl⟩;rw[<-U];have L:=laid U;clear U;unfold dI ajg SH;rw[mi];refine wpList_append_own _ rfl _ _ 133 rfl B 136 i0 .nilIface 1 16 Tryz.underlying133 T C F J rfl (by decide) _ _ _ rfl r1 _ Y.length c2 Y rfl (by omega) P G (by unfold maxLen;omega) (by omega) S ?_;intro v' N K R _;obtain⟨A,cap,rfl⟩:∃A cap,v'=.slice _ _ cap:=by
  rcases K.2 with⟨_,h⟩|⟨A,cap,cur,X,_⟩
  ·omega
  ·exact⟨A,cap,X⟩
 have O:Hid (N.ownsRow B 136 1 _ (H++Y).length (H++Y)/\∀a,a<B->N.heap[a]?=w.heap[a]?):=laid ⟨by rw[ajr];exact K,fun a Z=>R.block a (by omega) (fun e=>by have:=(r1.lt a e.symm).1;omega)⟩;go_wp2
 rw[L.out];obtain⟨M,D⟩:∃M,M=(bodyPost Tryz.prog ajg fun e w'=>∃v,e=.returned v/\w'.ownsRow B 136 1 v (H++Y).length (H++Y)/\∀a,a<B->w'.heap[a]?=w.heap[a]?):=⟨_,rfl⟩;rw[<-D];have I:=laid D;clear D L;unfold Ct ajg;go_wp2
 rw[I.out];refine bodyPost_ret (results_tmp rfl _ _ _) rfl ?_;exact⟨_,rfl,O.out⟩
theorem EV(Y:List Value)(rn rb rm:ByteArray)(a0 a1 a2 a3:Value)(g1 c1 b4 b5 b6 B:Nat)(u:Nat->Value)(w:World)(M:Y.length<=1000)(F:0<Y.length)
  (r1:w.ownsRow B 136 1 (.slice (some ⟨g1,0,none⟩) Y.length c1) Y.length Y):
  wpOps Tryz.prog dI (fun e a' w'=>e=.normal/\Ct.wp Tryz.prog (bodyPost Tryz.prog ajg fun e w'=>∃v,e=.returned v/\w'.ownsRow B 136 1 v Y.length Y/\∀a,a<B->w'.heap[a]?=w.heap[a]?) a' w') [7,8] ⟨SH a0 a1 a2 a3 (.slice (some ⟨g1,0,none⟩) Y.length c1) (.slice none 0 0) b4 b5 b6 u,[]⟩ w:=by
 obtain⟨Q,D⟩:∃Q,Q=(fun e a' w'=>e=aj4/\Ct.wp Tryz.prog (bodyPost Tryz.prog ajg fun e w'=>∃v,e=.returned v/\w'.ownsRow B 136 1 v Y.length Y/\∀a,a<B->w'.heap[a]?=w.heap[a]?) a' w'):=⟨_,rfl⟩;rw[<-D];have R:=laid D;clear D;unfold dI ajg SH;dsimp only;simp only[pt];rw[mi];have A:Y.length<=c1:=by
  rcases r1.2 with⟨h,_⟩|⟨g,cap,cur,h,_,_,C,_⟩
  ·cases h
  ·cases h;exact C
 have U:=laid r1;clear r1;go_wp2
 rw[R.out];refine⟨rfl,?_⟩;obtain⟨I,K⟩:∃I,I=(bodyPost Tryz.prog ajg fun e w'=>∃v,e=.returned v/\w'.ownsRow B 136 1 v Y.length Y/\∀a,a<B->w'.heap[a]?=w.heap[a]?):=⟨_,rfl⟩;rw[<-K];have H:=laid K;clear K R;unfold Ct ajg;dsimp only;go_wp2
 rw[H.out];refine bodyPost_ret (results_tmp rfl _ _ _) rfl ?_;exact⟨_,rfl,U.out,fun _ _=>rfl⟩
theorem Iy(rn rb rm:ByteArray)(a0 a1 a2 a3:Value)(b4 b5 b6 B:Nat)(u:Nat->Value)(w:World)(U:B<=w.heap.size)(H:w.heap[b5]?=some (.cells #[.string rn,.string rb,.string rm] 131 (0,0))):
  wpOps Tryz.prog dI (fun e a' w'=>e=.normal/\Ct.wp Tryz.prog (bodyPost Tryz.prog ajg fun e w'=>∃v,e=.returned v/\w'.ownsRow B 136 1 v 1 [vd rn rb rm]/\∀a,a<B->w'.heap[a]?=w.heap[a]?) a' w') [7,8] ⟨SH a0 a1 a2 a3 (.slice none 0 0) (.slice none 0 0) b4 b5 b6 u,[]⟩ w:=by
 obtain⟨Q,D⟩:∃Q,Q=(fun e a' w'=>e=aj4/\Ct.wp Tryz.prog (bodyPost Tryz.prog ajg fun e w'=>∃v,e=.returned v/\w'.ownsRow B 136 1 v 1 [vd rn rb rm]/\∀a,a<B->w'.heap[a]?=w.heap[a]?) a' w'):=⟨_,rfl⟩;rw[<-D];have R:=laid D;clear D;have c0:w.cell? ⟨b5,0,none⟩=some (.string rn):=by rw[cell_of_row w _ 0 _ _ _ H];rfl
 have c1:w.cell? ⟨b5,1,none⟩=some (.string rb):=by rw[cell_of_row w _ 1 _ _ _ H];rfl
 have c2:w.cell? ⟨b5,2,none⟩=some (.string rm):=by rw[cell_of_row w _ 2 _ _ _ H];rfl
 clear H;unfold dI ajg SH;dsimp only;simp only[pt];rw[mi];go_wp2
 rw[R.out];refine⟨rfl,?_⟩;obtain⟨I,Y⟩:∃I,I=(bodyPost Tryz.prog ajg fun e w'=>∃v,e=.returned v/\w'.ownsRow B 136 1 v 1 [vd rn rb rm]/\∀a,a<B->w'.heap[a]?=w.heap[a]?):=⟨_,rfl⟩;rw[<-Y];have K:=laid Y;clear Y R;unfold Ct ajg;dsimp only;go_wp2
 rw[K.out];refine bodyPost_ret (results_tmp rfl _ _ _) rfl ?_;refine⟨_,rfl,⟨rfl,.inr ⟨w.heap.size,1,_,rfl,U,heap_alloc_new w _,ajf _,by unfold maxLen;omega,rfl,rfl⟩⟩,fun a A=>heap_alloc_old w _ (by omega)⟩
end
namespace Ph
open Conc Ren RowKit
noncomputable def Wz:Array Oper:=match ajg.body with
 |some (.seq (.region _ o _) _)=>o
 |_=>#[]
noncomputable def SI:Array Oper:=match ajg.body with
 |some (.seq _ (.seq (.region _ o _) _))=>o
 |_=>#[]
theorem WA:ajg.body=some (.seq (.region 0 Wz false) (.seq (.region 1 SI false) (.seq (.region 2 dI true) Ct))):=by kernel_rfl
theorem zH:eg K0 PR false Ct=true:=by decide+kernel
theorem OW:dI.size=9:=by kernel_rfl
theorem WB:(ab.all fun d0=>ab.all fun d1=>ab.all fun d2=>ab.all fun d3=>ab.all fun d4=>ab.all fun d5=>(Region.ready .any dI #[d0,d1,d2,d3,d4,d5,false,false,false]).all fun i=>(i==0&&!d0)||(i==1&&!d1)||(i==2&&!d2)||(i==3&&(!d3&&d2))||(i==4&&!d4)||(i==5&&!d5)||(i==6&&(d1&&(d3&&(d4&&d5)))))=true:=by decide+kernel
theorem Yk(d0 d1 d2 d3 d4 d5:Bool)(i:Nat)(Y:i∈Region.ready .any dI #[d0,d1,d2,d3,d4,d5,false,false,false]):(i=0/\d0=false)\/(i=1/\d1=false)\/(i=2/\d2=false)\/(i=3/\d3=false/\d2=true)\/(i=4/\d4=false)\/(i=5/\d5=false)\/(i=6/\d1=true/\d3=true/\d4=true/\d5=true):=by
 have h:=ajh.1 (bX (bX (bX (bX (bX (bX WB d0) d1) d2) d3) d4) d5) i Y;simpa[or_assoc]using h
theorem WC:(ab.all fun d0=>ab.all fun d1=>ab.all fun d2=>ab.all fun d3=>ab.all fun d4=>ab.all fun d5=>(d3&&!d2)||!(Region.ready .any dI #[d0,d1,d2,d3,d4,d5,false,false,false]).isEmpty)=true:=by decide+kernel
theorem SJ(d0 d1 d2 d3 d4 d5:Bool)(Y:d3=true->d2=true):Region.ready .any dI #[d0,d1,d2,d3,d4,d5,false,false,false]≠ []:=by
 have h:=bX (bX (bX (bX (bX (bX WC d0) d1) d2) d3) d4) d5;intro e;rw[e]at h;simp at h;rw[Y h.1]at h;simp at h
theorem WE:Region.ready .any dI #[false,true,true,true,true,true,true,false,false]=[0]:=by decide+kernel
theorem WH:Region.ready .any dI #[true,true,true,true,true,true,true,false,false]=[7]:=by decide+kernel
theorem WI:Region.ready .any dI #[true,true,true,true,true,true,true,true,false]=[8]:=by decide+kernel
theorem L7(t:Nat):Region.linearise.go .any dI 2 t #[true,true,true,true,true,true,true,false,false] []=[7,8]:=by
 rw[zE WH];show 7::Region.linearise.go .any dI 1 _ #[true,true,true,true,true,true,true,true,false] []=_
 rw[zE WI];rfl
theorem SK(t:Nat):Region.linearise.go .any dI 3 t #[false,true,true,true,true,true,true,false,false] []=[0,7,8]:=by
 rw[zE WE];show 0::Region.linearise.go .any dI 2 _ #[true,true,true,true,true,true,true,false,false] []=_
 rw[L7]
abbrev tdV(rn P rm:ByteArray):Value:=CK rn (bL P 0) (str (cU rm))
def pk(b:Bool)(x:Value):Value:=if b then x else undef
def pO(X P rn rm:ByteArray)(k:Nat):List Value:=if bE P X k=[]/\bE (bL P 0) X k=[]then [vd rn P rm]else bH X P rn rm false k++bH X (bL P 0) rn (str (cU rm)) true k
theorem eh{P:ByteArray}{k:Nat}:(bH X P rn rm fl k).length=(bE P X k).length:=by unfold bH;simp
theorem EW{P:ByteArray}{k:Nat}:∀u∈bH X P rn rm fl k,u.oneCell'=true:=by
 intro u hu;unfold bH at hu;obtain⟨e,_,rfl⟩:=ajV.1 hu;rfl
def TM(XN X rn P rm:ByteArray)(k q st n b4 b5 b6:Nat)(y z:Value)(d0 d1 d2 d3 d4 d5:Bool):Array Value:=
 #[pM XN X,CK rn P rm,lT k q st,iv n,ptr b4,ptr b5,ptr b6,undef,.slice none 0 0,y,pM XN X,CK rn P rm,lT k q st,iv n,y,pk d0 y,pk d1 (pM XN X),pk d2 (CK rn P rm),pk d3 (tdV rn P rm),pk d4 (lT k q st),pk d5 (iv n),z,undef,undef,undef,undef,undef,undef,undef,undef,undef]
theorem Gl{b:Nat}{fz:Nat×Nat}(h:v.heap[b]?=some (.cells #[x,y] e fz)):(ajj 68 (ptr b)).run PR v=.ok (.agg #[x,y]) v:=by
 have c0:v.cell? ⟨b,0,none⟩=some x:=by simp[aja,h]
 have c1:v.cell? ⟨b,1,none⟩=some y:=by simp[aja,h]
 simp[ptr,go_sem,c0,c1]
theorem EX{b:Nat}{fz:Nat×Nat}(h:v.heap[b]?=some (.cells #[x,y,z] e fz)):(ajj 131 (ptr b)).run PR v=.ok (.agg #[x,y,z]) v:=by
 have c0:v.cell? ⟨b,0,none⟩=some x:=by simp[aja,h]
 have c1:v.cell? ⟨b,1,none⟩=some y:=by simp[aja,h]
 have c2:v.cell? ⟨b,2,none⟩=some z:=by simp[aja,h]
 simp[ptr,go_sem,c0,c1,c2]
theorem zI{B:Nat}{z:Nat}(h:v.ownsRow B e z x n xs)(k:Kw v v'):v'.ownsRow B e z x n xs:=by
 refine⟨h.1,?_⟩;rcases h.2 with h'|⟨Y,cap,cur,rfl,K,H,D⟩
 ·exact .inl h'
 ·exact .inr ⟨Y,cap,cur,rfl,K,k.at H,D⟩
theorem zJ:([7,8].all fun i=>match dI[i]? with|some o=>Bl K0 PR false o|none=>true)=true:=by decide+kernel
section
variable{Q:QT}{XN X rn P rm:ByteArray}{k q st n:Nat}{v:World}
theorem Cg{R:Value->World->Prop}(hX:X.size<=200)(M:b4<=v.heap.size)(c5:v.heap[b5]?=some (.cells #[.string rn,.string P,.string rm] 131))(D:v.ownsRow b4 136 1 y (bE P X k).length (bH X P rn rm false k))(B:bE P X k=[]->y=.slice none 0 0)(C:v.ownsRow b4 136 1 z (bE (bL P 0) X k).length (bH X (bL P 0) rn (str (cU rm)) true k))(F:bE (bL P 0) X k=[]->z=.slice none 0 0)
  (H:∀x v',v'.ownsRow b4 136 1 x (pO X P rn rm k).length (pO X P rn rm k)->(∀a,a<b4->v'.heap[a]?=v.heap[a]?)->R x v'):GW false Q R 92 [.inRegion dI [7,8],.code Ct] (TM XN X rn P rm k q st n b4 b5 b6 y z true true true true true true) v:=by
 refine GW.to (SH (pM XN X) (CK rn P rm) (lT k q st) (iv n) y z b4 b5 b6 fun i=>(TM XN X rn P rm k q st n b4 b5 b6 y z true true true true true true).getD i undef) ?_;generalize(fun i=>(TM XN X rn P rm k q st n b4 b5 b6 y z true true true true true true).getD i undef)=J;have N:=jP P X k;have O:=jP (bL P 0) X k;by_cases K:bE (bL P 0) X k=[]
 ·obtain rfl:=F K;by_cases I:bE P X k=[]
  ·obtain rfl:=B I;have Y:pO X P rn rm k=[vd rn P rm]:=by unfold pO;rw[if_pos ⟨I,K⟩]
   rw[Y]at H;exact GW.mono (R1:=fun x v'=>v'.ownsRow b4 136 1 x 1 [vd rn P rm]/\∀a,a<b4->v'.heap[a]?=v.heap[a]?) (fun x v' h=>H x v' h.1 h.2) (GW.EU ajG zH zJ fun T=>Iy rn P rm _ _ _ _ b4 b5 b6 b4 J (tp v T) M c5)
  ·have Y:pO X P rn rm k=bH X P rn rm false k:=by
    unfold pO;rw[if_neg (fun h=>I h.1)];simp[bH,K]
   rw[Y]at H;rw[<-eh (rn:=rn) (rm:=rm) (fl:=false)]at D;have A:0<(bH X P rn rm false k).length:=by rw[eh];exact ajo.2 I
   have U:(bH X P rn rm false k).length<=1000:=by rw[eh];omega
   obtain⟨g,cap,rfl⟩:∃g cap,y=.slice (some ⟨g,0,none⟩) (bH X P rn rm false k).length cap:=by
    rcases D.2 with⟨_,h⟩|⟨g,cap,_,h,_⟩
    ·omega
    ·exact⟨g,cap,h⟩
   exact GW.mono (R1:=fun x v'=>v'.ownsRow b4 136 1 x (bH X P rn rm false k).length (bH X P rn rm false k)/\∀a,a<b4->v'.heap[a]?=v.heap[a]?) (fun x v' h=>H x v' h.1 h.2) (GW.EU ajG zH zJ fun T=>EV _ rn P rm _ _ _ _ g cap b4 b5 b6 b4 J (tp v T) U A D)
 ·have Y:pO X P rn rm k=bH X P rn rm false k++bH X (bL P 0) rn (str (cU rm)) true k:=by unfold pO;rw[if_neg (fun h=>K h.2)]
  rw[Y]at H;rw[<-eh (rn:=rn) (rm:=rm) (fl:=false)]at D;rw[<-eh (rn:=rn) (rm:=str (cU rm)) (fl:=true)]at C;have A:0<(bH X (bL P 0) rn (str (cU rm)) true k).length:=by rw[eh];exact ajo.2 K
  have U:(bH X P rn rm false k).length<=1000:=by rw[eh];omega
  have L:(bH X (bL P 0) rn (str (cU rm)) true k).length<=1000:=by rw[eh];omega
  obtain⟨g,cap,rfl⟩:∃g cap,z=.slice (some ⟨g,0,none⟩) (bH X (bL P 0) rn (str (cU rm)) true k).length cap:=by
   rcases C.2 with⟨_,h⟩|⟨g,cap,_,h,_⟩
   ·omega
   ·exact⟨g,cap,h⟩
  exact GW.mono (R1:=fun x v'=>v'.ownsRow b4 136 1 x (bH X P rn rm false k++bH X (bL P 0) rn (str (cU rm)) true k).length (bH X P rn rm false k++bH X (bL P 0) rn (str (cU rm)) true k)/\∀a,a<b4->v'.heap[a]?=v.heap[a]?) (fun x v' h=>H x v' h.1 h.2) (GW.EU ajG zH zJ fun T=>Ix _ _ rn P rm _ _ _ _ y g cap b4 b5 b6 b4 J (tp v T) U L A EW D C M)
theorem Iz(hX:X.size<=200)(hP:P.size<=30)(hm:rm.size<=1000)(hk:k<=6)(G:k<P.size)(M:k<(bL P 0).size)(p:1<=q)(O:q<=8)(m:1<=st)(S:st<=200)(g:1<=n)(N:n<=8)(I:iR v)(d:bu v):
  aL Q 92 #[pM XN X,CK rn P rm,lT k q st,iv n] v fun x v'=>v'.ownsRow v.heap.size 136 1 x (pO X P rn rm k).length (pO X P rn rm k)/\Kw v v':=by
 have Y:∃F,PR.funcs[92]?=some F:=⟨_,ajG⟩;refine aL.of (n:=31) ajG WA (by kernel_rfl) ?_;refine GW.run 2 (k':=[.inRegion Wz [0,1,2,3],.code (.seq (.region 1 SI false) (.seq (.region 2 dI true) Ct))]) ?_;refine GW.bx Y (t:=68) (y:=pM XN X) fun v1 k1 l1 c4=>?_;refine GW.bx Y (t:=131) (y:=CK rn P rm) fun v2 c l2 c5=>?_;refine GW.bx Y (t:=75) (y:=lT k q st) fun v3 j l3 c6=>?_;refine GW.fh Y [3] ?_;refine GW.run 3 (k':=[.inRegion SI [0,1,2,3,4,5],.code (.seq (.region 2 dI true) Ct)]) ?_;have K3:Kw v v3:=(k1.trans c).trans j;have c4:=j.at (c.at c4);have c5:=j.at c5;refine GW.ld Y (Gl c4) ?_;refine GW.ld Y (EX c5) ?_;refine GW.ld Y (Ce c6) ?_;refine GW.fh Y [3] ?_;refine GW.call Y (Cf (XN:=XN) (rn:=rn) (rm:=rm) (fl:=false) hX hP hk G p O m S g N (K3.tabs I) (K3.mh I d)) ?_;rintro y v4 ⟨L,E,C⟩;have C:Kw v3 v4:=C;refine GW.fh Y [5] ?_;refine GW.run 2 (k':=[.code (.region 2 dI true),.code Ct]) ?_;refine GW.to (TM XN X rn P rm k q st n v.heap.size v1.heap.size v2.heap.size y undef false false false false false false) ?_;have c4:=C.at c4;have c5:=C.at c5;have c6:=C.at c6;have K4:=K3.trans C;have L:v4.ownsRow v.heap.size 136 1 y (bE P X k).length (bH X P rn rm false k):=jM L K3.size;have U:v.heap.size<=v4.heap.size:=K4.size;generalize r:v.heap.size=b4 at L U c4⊢;generalize v1.heap.size=b5 at c5⊢;generalize v2.heap.size=b6 at c6⊢;refine GW.draw fun t=>?_;rw[OW];refine GW.Qr (md:=.any) (fun D=>TM XN X rn P rm k q st n b4 b5 b6 y undef (D.getD 0 false) (D.getD 1 false) (D.getD 2 false) (D.getD 3 false) (D.getD 4 false) (D.getD 5 false)) (fun fuel D u=>∃d0 d1 d2 d3 d4 d5:Bool,D=#[d0,d1,d2,d3,d4,d5,false,false,false]/\(d3=true->d2=true)/\fuel+(d0.toNat+d1.toNat+d2.toNat+d3.toNat+d4.toNat+d5.toNat)=9/\Kw v4 u) ?_ ?_ 9 t (ajm 9 false) v4 ⟨false,false,false,false,false,false,rfl,(by simp),rfl,.refl _⟩
 ·rintro D i fuel t u ⟨d0,d1,d2,d3,d4,d5,rfl,H,A,K⟩ s B;rcases Yk d0 d1 d2 d3 d4 d5 i s with⟨rfl,rfl⟩|⟨rfl,rfl⟩|⟨rfl,rfl⟩|⟨rfl,rfl,rfl⟩|⟨rfl,rfl⟩|⟨rfl,rfl⟩|⟨rfl,rfl,rfl,rfl,rfl⟩
  ·exact GW.fh Y [0] (GW.to _ (B u ⟨true,d1,d2,d3,d4,d5,rfl,H,by simp at A⊢;omega,K⟩))
  ·exact GW.ld Y (Gl (K.at c4)) (GW.to _ (B u ⟨d0,true,d2,d3,d4,d5,rfl,H,by simp at A⊢;omega,K⟩))
  ·exact GW.ld Y (EX (K.at c5)) (GW.to _ (B u ⟨d0,d1,true,d3,d4,d5,rfl,fun _=>rfl,by simp at A⊢;omega,K⟩))
  ·refine GW.call Y (aL.bN (R:=fun x v'=>x=tdV rn P rm/\Kw u v') (by decide) fun T=>(Eu rn P rm (tp u T) (by omega) hm).mono fun e w' h=>⟨_,h.1,rfl,fun a V=>h.2.block a V⟩) ?_;rintro x w ⟨rfl,f⟩;exact GW.to _ (B w ⟨d0,d1,true,true,d4,d5,rfl,fun _=>rfl,by simp at A⊢;omega,K.trans f⟩)
  ·exact GW.ld Y (Ce (K.at c6)) (GW.to _ (B u ⟨d0,d1,d2,d3,true,d5,rfl,H,by simp at A⊢;omega,K⟩))
  ·exact GW.fh Y [5] (GW.to _ (B u ⟨d0,d1,d2,d3,d4,true,rfl,H,by simp at A⊢;omega,K⟩))
  ·clear B;obtain rfl:=H rfl;refine GW.call Y (Cf (XN:=XN) (rn:=rn) (rm:=str (cU rm)) (fl:=true) hX (by have:=nM P 0;omega) hk M p O m S g N ((K4.trans K).tabs I) ((K4.trans K).mh I d)) ?_;rintro z u2 ⟨b,W,J⟩;have J:Kw u u2:=J;have fin:GW false Q (fun x v'=>v'.ownsRow b4 136 1 x (pO X P rn rm k).length (pO X P rn rm k)/\Kw v v') 92 [.inRegion dI [7,8],.code Ct] (TM XN X rn P rm k q st n b4 b5 b6 y z true true true true true true) u2:=
    Cg hX (ajd U (K.trans J).size) ((K.trans J).at c5) (zI L (K.trans J)) E (jM b (ajd U K.size)) W fun x v' l o=>⟨l,fun a V=>(o a (by omega)).trans (((K4.trans K).trans J) a V)⟩
   cases d0 with
   |true=>
    obtain rfl:fuel=2:=by simp at A;omega
    rw[show(#[true,true,true,true,true,true,false,false,false]:Array Bool).setIfInBounds 6 true=#[true,true,true,true,true,true,true,false,false]from rfl,L7];exact GW.to _ fin
   |false=>
    obtain rfl:fuel=3:=by simp at A;omega
    rw[show(#[false,true,true,true,true,true,false,false,false]:Array Bool).setIfInBounds 6 true=#[false,true,true,true,true,true,true,false,false]from rfl,SK];exact GW.fh Y [0] (GW.to _ fin)
 ·rintro fuel D u ⟨d0,d1,d2,d3,d4,d5,rfl,H,A,K⟩ Z;exfalso;rcases Z with rfl|Z
  ·have:=aje d0;have:=aje d1;have:=aje d2;have:=aje d3;have:=aje d4;have:=aje d5;omega
  ·exact SJ d0 d1 d2 d3 d4 d5 H Z
end
end Ph
section
inductive Rc where
 |hit (p:Pl)
 |no (rn rb rm:ByteArray)
def Rc.val:Rc->Value
 |.hit p=>si p
 |.no rn rb rm=>vd rn rb rm
def Rc.text(Y:ByteArray):Rc->Bool->List UInt8
 |.hit p,first=>kH [p.rn,str (br (rP p.fl first)),Y,str (br (p.st+1)),p.lt,str (br p.er),p.df,p.rb,p.rm]++[10]
 |.no rn rb rm,_=>kH [rn,str (br 4),str [42],str [48],str [42],str [45],str [45],rb,rm]++[10]
def L8:Rc:=.no ⟨#[]⟩ ⟨#[]⟩ ⟨#[]⟩
def cY(X P rn rm:ByteArray)(fl:Bool)(k:Nat):List Rc:=(bE P X k).map fun e=>.hit (pL X P rn rm fl (fun e=>(bA P X k e).2) (fun e=>(bA P X k e).1) e)
def jQ(X P rn rm:ByteArray)(k:Nat):=if bE P X k=[]/\bE (bL P 0) X k=[]then [.no rn P rm]else cY X P rn rm false k++cY X (bL P 0) rn (str (cU rm)) true k
def nh(Y:ByteArray)(n:Nat)(L:List Rc)
 |0=>[]
 |i+1=>nh Y n L i++(L.getD i L8).text Y (decide (n+i=0))
theorem Ch(H:ByteArray)(n:Nat)(Y D:List Rc):∀i,i<=Y.length->nh H n (Y++D) i=nh H n Y i
 |0,_=>rfl
 |i+1,h=>by
  rw[nh,nh,Ch H n Y D i (by omega)];rw[ajb,ajb,List.getElem?_append_left (by omega)]
theorem Gm(H:ByteArray)(n:Nat)(Y D:List Rc):∀i,nh H n (Y++D) (Y.length+i)=nh H n Y Y.length++nh H (n+Y.length) D i
 |0=>by rw[Nat.add_zero,Ch H n Y D _ (ajf _)];simp[nh]
 |i+1=>by
  rw[<-Nat.add_assoc,nh,nh,Gm H n Y D i,ajv];congr 3
  ·rw[ajb,ajb,List.getElem?_append_right (by omega)];simp_all
  ·congr 1;simp only[eq_iff_iff];omega
theorem ve(p t:ByteArray)(k:Nat):∀n,c8 p t k n=(jO p t k n).map fun e=>((bA p t k e).2,e,(bA p t k e).1)
 |0=>by simp[c8,jO]
 |n+1=>by
  have Y:=ve p t k n;unfold jO at *;rw[c8];split
  ·rw[ajN,ajN,<-Y];rfl
  ·omega
theorem oC(p t:ByteArray)(k:Nat):iB p t k=(bE p t k).map fun e=>((bA p t k e).2,e,(bA p t k e).1):=ve p t k _
theorem WJ(a b c d e f g h i:List _):Lib.join [a,b,c,d,e,f,g,h,i] [9]=a++[9]++b++[9]++c++[9]++d++[9]++e++[9]++f++[9]++g++[9]++h++[9]++i:=by
 unfold Lib.join;simp
theorem SM(l:List _):(str l).data.toList=l:=by unfold str;simp
theorem L9(Y X P rn rm:ByteArray)(fl first:Bool)(k e n:Nat)(H:rP fl first=n):
  Rc.text Y (.hit (pL X P rn rm fl (fun e=>(bA P X k e).2) (fun e=>(bA P X k e).1) e)) first=pG Y X rn P rm n ((bA P X k e).2,e,(bA P X k e).1):=by
 subst H;unfold Rc.text pL pG Ls kH;simp;rw[WJ];simp[SM]
theorem OX(Y rn rb rm:ByteArray)(first:Bool):Rc.text Y (.no rn rb rm) first=xS (rn,rb,rm):=by
 unfold Rc.text xS kH;simp;rw[WJ];simp[SM];have:br 4=[52]:=by decide+kernel
 simp_all
theorem kL(Y X P rn rm:ByteArray)(fl:Bool)(k n:Nat):∀i,i<=(bE P X k).length->nh Y n (cY X P rn rm fl k) i=uI Y X rn P rm (if fl then 16 else 0) (decide (0<n)) (iB P X k) i
 |0,_=>rfl
 |i+1,h=>by
  rw[nh,uI,kL Y X P rn rm fl k n i (by omega)];congr 1;rw[oC];unfold cY;rw[ajb,ajb,ajJ,ajJ,ajk (by omega)];simp only[ajO,ajC];refine L9 Y X P rn rm fl _ k _ _ ?_;unfold rP BL;by_cases H:n+i=0
  ·have K:¬(decide (0<n)=true\/0<i):=by simp;omega
   rw[if_neg K,decide_eq_true H];cases fl<;>rfl
  ·have K:decide (0<n)=true\/0<i:=by simp;omega
   rw[if_pos K,decide_eq_false H];cases fl<;>rfl
theorem Gn(H Y rn p mk:ByteArray)(add:Nat)(more:Bool)(L:List _)(i:Nat)(h:0<i):uI H Y rn p mk add more L i≠ []:=by
 cases i with
 |zero=>omega
 |succ i=>
  rw[uI];intro e;have:=congrArg List.length e;unfold pG Ls at this;simp_all
theorem IA(Y X P rn rm:ByteArray)(k:Nat):nh Y 0 (jQ X P rn rm k) (jQ X P rn rm k).length=cO Y X k (rn,P,rm):=by
 have l1:(iB P X k).length=(bE P X k).length:=by rw[oC];simp
 have l2:(iB (bL P 0) X k).length=(bE (bL P 0) X k).length:=by rw[oC];simp
 have R:nG Y X k (rn,P,rm)=nh Y 0 (cY X P rn rm false k) (bE P X k).length:=by
  rw[kL Y X P rn rm _ k 0 _ (ajf _)];unfold nG kv;simp_all
 have D:nG Y X k (rn,P,rm)=[]↔bE P X k=[]:=by
  constructor
  ·intro h;apply ajL;intro H;unfold nG kv at h;rw[l1]at h;exact Gn _ _ _ _ _ _ _ _ _ (ajo.2 H) h
  ·intro h;rw[R,h];rfl
 have I:rL Y X k (rn,P,rm)=nh Y (bE P X k).length (cY X (bL P 0) rn (str (cU rm)) true k) (bE (bL P 0) X k).length:=by
  rw[kL Y X _ rn _ _ k _ _ (ajf _)];unfold rL kv;rw[l2];have:decide (nG Y X k (rn,P,rm)≠ [])=decide (0<(bE P X k).length):=by
   rw[decide_eq_decide,ajo];simp_all
  simp_all
 have K:rL Y X k (rn,P,rm)=[]↔bE (bL P 0) X k=[]:=by
  constructor
  ·intro h;apply ajL;intro H;unfold rL kv at h;rw[l2]at h;exact Gn _ _ _ _ _ _ _ _ _ (ajo.2 H) h
  ·intro h;rw[I,h];rfl
 unfold cO;by_cases h:bE P X k=[]/\bE (bL P 0) X k=[]
 ·rw[if_pos ⟨D.2 h.1,K.2 h.2⟩,K.2 h.2,akb];have:jQ X P rn rm k=[.no rn P rm]:=by unfold jQ;simp_all
  rw[this];show nh Y 0 _ 1=_
  rw[nh,nh,akc];exact OX Y rn P rm _
 ·rw[if_neg (fun e=>h ⟨D.1 e.1,K.1 e.2⟩)];have:jQ X P rn rm k=cY X P rn rm false k++cY X (bL P 0) rn (str (cU rm)) true k:=by unfold jQ;simp_all
  rw[this,ajr,Gm,R,I,ajE];have A:(cY X P rn rm false k).length=(bE P X k).length:=by unfold cY;simp
  have U:(cY X (bL P 0) rn (str (cU rm)) true k).length=(bE (bL P 0) X k).length:=by unfold cY;simp
  rw[A,U]
theorem yf(Y X:ByteArray):kH [⟨#[64]⟩++Y,str (br X.size)]++[10]=eA Y X:=by
 unfold kH eA Lib.join;simp[SM]
end
namespace Ph
open Conc Ren RowKit
def cp:List Nat->Code->Code
 |1::p,.seq a _|1::p,.block _ a|1::p,.loop a|1::p,.cond _ a _|2::p,.seq _ a|2::p,.cond _ _ a=>cp p a
 |_,c=>c
def opsOf:Code->Array Oper
 |.region _ o _=>o
 |_=>#[]
section
variable{tb:Bool}{Q:QT}{R:Value->World->Prop}{v:World}{fn:FuncId}{k:List Item}{a:Array Value}
theorem GW.any(f:(Nat->Value)->Array Value)(h:a=f fun i=>a.getD i undef)(g:∀u,GW tb Q R fn k (f u) v):GW tb Q R fn k a v:=by
 rw[h];exact g _
end
theorem SN{B:Nat}{acc:List UInt8}(h:eP B acc v)(k:Kw v v'):eP B acc v':=by
 have hb:Below _ v {v' with os:=v.os,tape:=v.tape,output:=v.output}:=⟨rfl,rfl,rfl,k.size,k⟩;have Y:=h.below hb;exact Y
noncomputable def L_:Code:=Tryz.f60.body.getD .skip
def tB:Code:=cp [2,2,2,1,2,1,1] L_
def tI:Code:=cp [2,2,1,1,2,2,1,1] tB
def tE:Code:=cp [2,2,2,2] L_
def kB:List Item:=[.inLoop tB,.inBlock 0,.code tE]
def kI:List Item:=.inBlock 1:: .code (cp [2,2,2] tB)::kB
def Rc.ok:Rc->Prop
 |.hit p=>p.rn.size<=1000/\p.rb.size<=1000/\p.rm.size<=1000/\p.lt.size<=10000/\p.df.size<=10000/\p.st<=1000/\p.er<=1000
 |.no rn rb rm=>rn.size<=1000/\rb.size<=1000/\rm.size<=1000
theorem IB(B:Nat)(acc:List UInt8)(XN:ByteArray)(x:Rc)(first:Bool)(v:World)(C:Rc.ok x)(D:XN.size<=1000)(hb:eP B acc v)(I:acc.length<=500000000)(U:bu v):
  Calls PR 93 #[ptr B,.string XN,x.val,.bool first] v fun e v'=>∃y,e=.returned y/\eP B (acc++x.text XN first) v'/\(∀g,g<B->v'.heap[g]?=v.heap[g]?)/\Go.Proofs.YtdcjnhipenbcfaaGreatDoor.Kp B v v':=by
 cases x with
 |hit p=>
  obtain⟨Y,K,H,A,F,J,L⟩:=C;refine(qP B acc XN p _ v hb D Y K H A F J L I U).mono fun e v' h=>⟨_,h.1,?_,fun g R=>h.2.2.1.block g R,h.2.2.2⟩;have:=h.2.1;rw[ajv]at this;exact this
 |no rn rb rm=>
  obtain⟨Y,K,H⟩:=C;refine(qO B acc XN rn rb rm _ v hb Y K H I U).mono fun e v' h=>⟨_,h.1,?_,fun g R=>h.2.2.1.block g R,h.2.2.2⟩;have:=h.2.1;rw[ajv]at this;exact this
theorem SP:pW PR (isAgg 136)=some false:=by kernel_rfl
theorem SQ:PR.underlying 133=some (.slice (PR.elem 133)):=by kernel_rfl
theorem OY:(PR.info? (PR.elem 133)).map (·.size)=some 1:=by kernel_rfl
def ME(XN X:ByteArray)(k q st n b4 b6 b9:Nat)(sl:Value)(len:Nat)(i y z j:Value)(u:Nat->Value):Array Value:=
 #[pM XN X,sl,lT k q st,iv n,ptr b4,u 5,ptr b6,u 7,.string ⟨#[]⟩,ptr b9,u 10,u 11,u 12,u 13,u 14,u 15,u 16,u 17,u 18,u 19,u 20,u 21,u 22,sl,iv len,i,u 26,u 27,u 28,u 29,u 30,u 31,u 32,y,z,j,u 36,u 37,u 38,u 39,u 40,u 41,u 42,u 43,u 44,u 45,u 46,u 47,u 48]
structure TV(v0:World)(XN X:ByteArray)(k q st b4 b6 b9:Nat)(acc:List UInt8)(v:World):Prop where
 c4:v.heap[b4]?=some (.cells #[.string XN,.string X] 68)
 c6:v.heap[b6]?=some (.cells #[iv k,iv q,iv st] 75)
 WK:eP b9 acc v
 old:Kw v0 v
 l4:b4<b9
 l6:b6<b9
 l0:v0.heap.size<=b9
theorem TV.on{k q st b9:Nat}{acc:List UInt8}(h:TV v0 XN X k q st b4 b6 b9 acc v)(kk:Kw v v'):TV v0 XN X k q st b4 b6 b9 acc v':=⟨kk.at h.c4,kk.at h.c6,SN h.WK kk,h.old.trans kk,h.l4,h.l6,h.l0⟩
theorem TV.wrote{k q st b9:Nat}{acc:List UInt8}(h:TV v0 XN X k q st b4 b6 b9 acc v)(hb:eP b9 WL v')(kk:∀g,g<b9->v'.heap[g]?=v.heap[g]?):TV v0 XN X k q st b4 b6 b9 WL v':=
 ⟨(kk _ h.l4).trans h.c4,(kk _ h.l6).trans h.c6,hb,fun a Y=>(kk a (aji Y h.l0)).trans (h.old a Y),h.l4,h.l6,h.l0⟩
section
variable{Q:QT}{R:Value->World->Prop}{v0:World}{XN X:ByteArray}{k q st n b4 b6 b9 len:Nat}{sl i:Value}{acc:List UInt8}{L:List Rc}{b:Option Addr}{cq:Nat}
theorem OZ(G:XN.size<=1000)(S:iR v0)(hT:bu v0)(hL:∀x∈L,Rc.ok x)(hn:L.length<=100000)(hlen:∀j,j<=L.length->(acc++nh XN 0 L j).length<=500000000)
  (kk:∀j u v,TV v0 XN X k q st b4 b6 b9 (acc++nh XN 0 L L.length) v->GW false Q R 60 kI (ME XN X k q st n b4 b6 b9 sl len i (.slice b L.length cq) (iv L.length) j u) v):
  ∀m j,j+m=L.length->∀u v,TV v0 XN X k q st b4 b6 b9 (acc++nh XN 0 L j) v->v.ownsRow b9 136 1 (.slice b L.length cq) L.length (L.map Rc.val)->(∀g,(Value.slice b L.length cq).ownBlock=some g->b9<g)->
   GW false Q R 60 (.code tI:: .inLoop tI:: .inBlock 2::kI) (ME XN X k q st n b4 b6 b9 sl len i (.slice b L.length cq) (iv L.length) (iv j) u) v:=by
 have Y:∃F,PR.funcs[60]?=some F:=⟨_,ajy⟩;intro m;induction m with
 |zero=>
  intro j hj u v I K V;obtain rfl:j=L.length:=by omega
  refine GW.run 2 (k':=.inRegion (opsOf (cp [1] tI)) [0]:: .code (cp [2] tI):: .inLoop tI:: .inBlock 2::kI) ?_;refine GW.fh Y [0] ?_;refine GW.run 2 (k':=.code (.cond (.tmp 36) .skip (.exit 2)):: .code (cp [2,2] tI):: .inLoop tI:: .inBlock 2::kI) ?_;refine GW.cond Y (t:=decide ((L.length:Int)<(L.length:Int))) trivial (by kernel_rfl) ?_;rw[show decide ((L.length:Int)<(L.length:Int))=false from decide_eq_false (by omega)];refine GW.run 1 (k':=kI) ?_;exact GW.any (fun u=>ME XN X k q st n b4 b6 b9 sl len i (.slice b L.length cq) (iv L.length) (iv L.length) u) (by kernel_rfl) fun f=>kk _ f v I
 |succ m ih=>
  intro j hj u v I K V;have D:j<L.length:=by omega
  obtain⟨g,cur,hb,H,a,z⟩:∃g cur,b=some ⟨g,0,none⟩/\v.heap[g]?=some (.cells cur 136 (0,0))/\cur.size=cq *1/\cur.toList.take (L.length *1)=L.map Rc.val:=by
   rcases K.2 with⟨_,h⟩|⟨g,cap,cur,I,_,r,h4,h5,s,y⟩
   ·omega
   ·cases I;exact⟨g,cur,rfl,r,s,y⟩
  subst hb;have w:b9<g:=V g rfl;have P:cur[0+j *1]?=some (L.getD j L8).val:=by
   have p:(cur.toList.take (L.length *1))[j]?=cur.toList[j]?:=by rw[List.getElem?_take,if_pos (by omega)]
   rw[z,ajJ,ajk D]at p;rw[show 0+j *1=j by omega,<-ajQ,<-p,ajb,ajk D];rfl
  have C:L.getD j L8∈L:=by rw[ajb,ajk D];exact aj7 _
  have c:acc++nh XN 0 L (j+1)=(acc++nh XN 0 L j)++(L.getD j L8).text XN (decide ((j:Int)=0)):=by
   rw[nh,<-ajv];congr 2;rw[decide_eq_decide];omega
  have E:=hlen j (by omega);generalize L.getD j L8=e at *;refine GW.run 2 (k':=.inRegion (opsOf (cp [1] tI)) [0]:: .code (cp [2] tI):: .inLoop tI:: .inBlock 2::kI) ?_;refine GW.fh Y [0] ?_;refine GW.run 2 (k':=.code (.cond (.tmp 36) .skip (.exit 2)):: .code (cp [2,2] tI):: .inLoop tI:: .inBlock 2::kI) ?_;refine GW.cond Y (t:=decide ((j:Int)<(L.length:Int))) trivial (by kernel_rfl) ?_;rw[show decide ((j:Int)<(L.length:Int))=true from decide_eq_true (by omega)];refine GW.run 5 (k':=.inRegion (opsOf (cp [2,2,1,1,1] tI)) [0,1,2,3,4]:: .code (cp [2,2,1,1,2] tI):: .inBlock 3:: .code (cp [2,2,2] tI):: .inLoop tI:: .inBlock 2::kI) ?_;refine GW.fh Y [0] ?_;refine GW.ix Y (B:=g) (off:=0) (cap:=cq) D SQ OY ?_;refine GW.ld Y (wY (0+j *1) SP H P) ?_;refine GW.fh Y [3,4] ?_;refine GW.run 2 (k':=.inRegion (opsOf (cp [2,2,1,1,2] tI)) [0,1,2,3,4,5]:: .inBlock 3:: .code (cp [2,2,2] tI):: .inLoop tI:: .inBlock 2::kI) ?_;refine GW.fh Y [0] ?_;refine GW.ld Y (wY 0 ES I.c4 rfl) ?_;refine GW.fh Y [2,3,4] ?_;refine GW.call Y (aL.bN (R:=fun _ v'=>eP b9 (acc++nh XN 0 L j++e.text XN (decide ((j:Int)=0))) v'/\(∀g,g<b9->v'.heap[g]?=v.heap[g]?)/\Go.Proofs.YtdcjnhipenbcfaaGreatDoor.Kp b9 v v') (by decide) fun T=>IB b9 (acc++nh XN 0 L j) XN e (decide ((j:Int)=0)) (tp v T) (hL _ C) G I.WK E (I.old.mh S hT)) ?_;rintro x v' ⟨U,Z,W⟩;rw[<-c]at U;refine GW.run 3 (k':=.inRegion (opsOf (cp [2,2,2] tI)) [0,1]:: .inLoop tI:: .inBlock 2::kI) ?_;refine GW.fh Y [0,1] ?_;refine GW.run 2 (k':=.code tI:: .inLoop tI:: .inBlock 2::kI) ?_;refine GW.any (fun u=>ME XN X k q st n b4 b6 b9 sl len i (.slice (some ⟨g,0,none⟩) L.length cq) (iv L.length) (.int .i64 (ajP.wrap ((j:Int)+1))) u) (by kernel_rfl) fun f=>?_;rw[lQ (by omega)];refine ih (j+1) (by omega) f v' (I.wrote U Z) ⟨K.1,.inr ⟨g,cq,cur,rfl,by omega,W g cur 136 (0,0) (by omega) (by decide) H,?_⟩⟩ V;rcases K.2 with⟨h,_⟩|⟨g',l,o,d,_,A,J,M,N,O⟩
  ·cases h
  ·cases d;rw[H]at A;cases A;exact⟨J,M,N,O⟩
end
section
variable{tb:Bool}{Q:QT}{R:Value->World->Prop}{v:World}{fn:FuncId}{k:List Item}{a:Array Value}{ops:Array Oper}{i:Nat}{is:List Nat}
theorem O0:(PR.info? 131).map (·.size)=some 3:=by kernel_rfl
theorem GW.sk(Y:∃F,PR.funcs[fn]?=some F){s:Sem Unit}(h:zR ops i a=some (OV s))(hr:s.run PR v=.ok () v1)(hd:v1.drawn=v.drawn)(g:GW tb Q R fn (.inRegion ops is::k) (gj (oB ops i) undef a) v1):GW tb Q R fn (.inRegion ops (i::is)::k) a v:=
 GW.ex Y h (by simp[OV,hr]) (.inr ⟨rfl,rfl⟩) hd g
theorem GW.sn3(H:∃F,PR.funcs[fn]?=some F){t:TypeId}(M:(PR.info? t).map (·.size)=some 3){B:Nat}{z2:Value}(Y:v.heap[B]?=some (.cells #[z0,z1,z2] t'))
  (g:∀v1,v1.heap[B]?=some (.cells #[x,y,z] t')->(∀b,b≠B->v1.heap[b]?=v.heap[b]?)->v1.heap.size=v.heap.size->GW tb Q R fn (.inRegion ops is::k) (gj (oB ops i) undef a) v1)(h:zR ops i a=some (OV (Instr.storeAt t (ptr B) (.agg #[x,y,z]))):=by kernel_rfl)(I:x.oneCell'=true:=by rfl)(U:y.oneCell'=true:=by rfl)(C:z.oneCell'=true:=by rfl):GW tb Q R fn (.inRegion ops (i::is)::k) a v:=by
 obtain⟨inf,K,D⟩:=vb M;have r0:=cx (i:=0) (v:=x) Y;have r1:=cx (i:=1) (v:=y) r0;have A:v.cell? ⟨B,0,none⟩=some z0:=by simp[aja,Y]
 have f0:v.frozen? ⟨B,0,none⟩=false:=by simp[ajz,Y]
 have J:(v.setCell ⟨B,0,none⟩ x).cell? ⟨B,1,none⟩=some z1:=by simp[aja,r0]
 have f1:(v.setCell ⟨B,0,none⟩ x).frozen? ⟨B,1,none⟩=false:=by simp[ajz,r0]
 have L:((v.setCell ⟨B,0,none⟩ x).setCell ⟨B,1,none⟩ y).cell? ⟨B,2,none⟩=some z2:=by simp[aja,r1]
 have f2:((v.setCell ⟨B,0,none⟩ x).setCell ⟨B,1,none⟩ y).frozen? ⟨B,2,none⟩=false:=by simp[ajz,r1]
 have he:=abb (a:=x) (b:=y) (c:=z) v Y;refine GW.sk (v1:=OL B x y z v) H h ?_ rfl (g _ he.2 (fun b hb=>he.1.heap b hb) he.1.size);simp[go_sem,storeVar,storeCells,sizeOf,typeInfo,K,D,Value.cells,run_store PR _ _ x _ I,run_store PR _ _ y _ U,run_store PR _ _ z _ C,A,f0,J,f1,L,f2,ptr,Addr.add,OL]
end
theorem O1:(PR.info? 131).map (·.zero)=some (some (.agg #[.string ⟨#[]⟩,.string ⟨#[]⟩,.string ⟨#[]⟩])):=by kernel_rfl
theorem WM:PR.underlying 90=some (.slice (PR.elem 90)):=by kernel_rfl
theorem SS:(PR.info? (PR.elem 90)).map (·.size)=some 3:=by kernel_rfl
theorem O2{b o:Nat}(c0:v.cell? ⟨b,o,none⟩=some x)(c1:v.cell? ⟨b,o+1,none⟩=some y)(c2:v.cell? ⟨b,o+2,none⟩=some z):(ajj 131 (IX b o)).run PR v=.ok (.agg #[x,y,z]) v:=by
 simp[IX,go_sem,Addr.add,c0,c1,c2]
theorem Ma(X P rn rm:ByteArray)(k:Nat):pO X P rn rm k=(jQ X P rn rm k).map Rc.val:=by
 unfold pO jQ;split
 ·rfl
 ·rw[ajN];unfold bH cY;rw[ajX,ajX];rfl
theorem yg(X P rn rm:ByteArray)(fl:Bool)(k:Nat)(hX:X.size<=200)(hP:P.size<=30)(hk:k<=6)(H:rn.size<=1000)(D:rm.size<=1000):∀x∈cY X P rn rm fl k,Rc.ok x:=by
 intro x Y;unfold cY at Y;obtain⟨e,he,rfl⟩:=ajV.1 Y;obtain⟨a1,a2,a3,a4,a5⟩:=rS P X k e he;have U:(X.extract (bA P X k e).2 e).size<=200:=by rw[ByteArray.size_extract];omega
 have R:=sW P (X.extract (bA P X k e).2 e);have A:(str (cu P (X.extract (bA P X k e).2 e))).size=(cu P (X.extract (bA P X k e).2 e)).length:=ak _;have I:=xR (str (cu P (X.extract (bA P X k e).2 e))) (by omega);have K:=BM P (X.extract (bA P X k e).2 e) (str (cu P (X.extract (bA P X k e).2 e))) (by omega);refine⟨H,(show P.size<=1000 by omega),D,?_,?_,(show(bA P X k e).2<=1000 by omega),(show(bA P X k e).1<=1000 by omega)⟩
 ·show(str (nE (str (cu P (X.extract (bA P X k e).2 e))))).size<=10000
  rw[ak];omega
 ·show(str (uH P (X.extract (bA P X k e).2 e) (str (cu P (X.extract (bA P X k e).2 e))))).size<=10000
  rw[ak];omega
theorem O3(X P rn rm:ByteArray)(k:Nat)(hX:X.size<=200)(hP:P.size<=30)(hk:k<=6)(H:rn.size<=1000)(D:rm.size<=1000):∀x∈jQ X P rn rm k,Rc.ok x:=by
 intro x Y;unfold jQ at Y;split at Y
 ·simp at Y;subst Y;exact⟨H,(show P.size<=1000 by omega),D⟩
 ·rcases aka.1 Y with Y|Y
  ·exact yg X P rn rm false k hX hP hk H D x Y
  ·exact yg X (bL P 0) rn (str (cU rm)) true k hX (by have:=nM P 0;omega) hk H (by rw[xU];exact D) x Y
theorem Mb(X P rn rm:ByteArray)(k:Nat)(hX:X.size<=200):(jQ X P rn rm k).length<=402:=by
 have Y:=jP P X k;have K:=jP (bL P 0) X k;unfold jQ cY;split
 ·simp
 ·simp;omega
theorem Ci(Y:ByteArray)(n:Nat)(L:List Rc):∀j d,(nh Y n L j).length<=(nh Y n L (j+d)).length
 |j,0=>ajf _
 |j,d+1=>by
  have:=Ci Y n L j d;rw[<-Nat.add_assoc,nh,ajr];omega
theorem EY(s:ByteArray):(bL s 0).size=s.size:=by
 unfold bL;rw[ak];simp
section
variable{Q:QT}{R:Value->World->Prop}{v0:World}{XN X:ByteArray}{k q st n b4 b6 b9 cap:Nat}{a:Option Addr}{RL:List ky}
theorem Mc(hX:X.size<=200)(C:XN.size<=1000)(hk:k<=6)(hq:1<=q)(T:q<=8)(hs:1<=st)(G:st<=200)(hn:1<=n)(S:n<=8)(p:∀r∈RL,(r.1.size<=10/\r.2.1.size<=30/\r.2.2.size<=30)/\k<r.2.1.size)(hRL:RL.length<=5)(U:iR v0)(hT:bu v0)
  (rows:v0.ownsRow 0 131 3 (.slice a RL.length cap) RL.length (dX RL))
  (kk:∀y z j u v,TV v0 XN X k q st b4 b6 b9 (fQ XN X k RL RL.length) v->GW false Q R 60 [.code tE] (ME XN X k q st n b4 b6 b9 (.slice a RL.length cap) RL.length (iv RL.length) y z j u) v):
  ∀m i,i+m=RL.length->∀y z j u v,TV v0 XN X k q st b4 b6 b9 (fQ XN X k RL i) v->GW false Q R 60 (.code tB::kB) (ME XN X k q st n b4 b6 b9 (.slice a RL.length cap) RL.length (iv i) y z j u) v:=by
 have Y:∃F,PR.funcs[60]?=some F:=⟨_,ajy⟩;intro m;induction m with
 |zero=>
  intro i w y z j u v I;obtain rfl:i=RL.length:=by omega
  refine GW.run 2 (k':=.inRegion (opsOf (cp [1] tB)) [0]:: .code (cp [2] tB)::kB) ?_;refine GW.fh Y [0] ?_;refine GW.run 2 (k':=.code (.cond (.tmp 26) .skip (.exit 0)):: .code (cp [2,2] tB)::kB) ?_;refine GW.cond Y (t:=decide ((RL.length:Int)<(RL.length:Int))) trivial (by kernel_rfl) ?_;rw[show decide ((RL.length:Int)<(RL.length:Int))=false from decide_eq_false (by omega)];refine GW.run 1 (k':=[.code tE]) ?_;exact GW.any (fun u=>ME XN X k q st n b4 b6 b9 (.slice a RL.length cap) RL.length (iv RL.length) y z j u) (by kernel_rfl) fun W=>kk _ _ _ W v I
 |succ m ih=>
  intro i w y z j u v I;have M:i<RL.length:=by omega
  obtain⟨g,rfl⟩:∃g,a=some ⟨g,0,none⟩:=by
   rcases rows.2 with⟨_,h⟩|⟨g,cap,cur,I,_⟩
   ·omega
   ·cases I;exact⟨g,rfl⟩
  obtain⟨rn,P,rm,A⟩:∃rn P rm,RL[i]?=some (rn,P,rm):=⟨RL[i].1,RL[i].2.1,RL[i].2.2,ajk M⟩;have J:RL.getD i (⟨#[]⟩,⟨#[]⟩,⟨#[]⟩)=(rn,P,rm):=by rw[ajb,A];rfl
  obtain⟨⟨s1,s2,l⟩,E⟩:=p _ (ajF A);simp only at s1 s2 l E;obtain⟨f1,f2,f3⟩:=BU RL i _ A;simp only at f1 f2 f3;have lg:g<v0.heap.size:=(rows.lt g rfl).2;have cells:∀j x,(dX RL)[j]?=some x->v.cell? ⟨g,j,none⟩=some x:=fun j x f=>by
   have:=rows.cells (g:=g) rfl j x f;rw[jy]at this;rw[<-this];simp only[aja,I.old g lg]
  refine GW.run 2 (k':=.inRegion (opsOf (cp [1] tB)) [0]:: .code (cp [2] tB)::kB) ?_;refine GW.fh Y [0] ?_;refine GW.run 2 (k':=.code (.cond (.tmp 26) .skip (.exit 0)):: .code (cp [2,2] tB)::kB) ?_;refine GW.cond Y (t:=decide ((i:Int)<(RL.length:Int))) trivial (by kernel_rfl) ?_;rw[show decide ((i:Int)<(RL.length:Int))=true from decide_eq_true (by omega)];refine GW.run 5 (k':=.inRegion (opsOf (cp [2,2,1,1,1] tB)) [0,1,2,3]:: .code (cp [2,2,1,1,2] tB)::kI) ?_;refine GW.ix Y (B:=g) (off:=0) (cap:=cap) M WM SS ?_;refine GW.ld Y (y:=IX g (0+i *3)) (O2 (by rw[ajE];exact cells _ _ f1) (by rw[ajE];exact cells _ _ f2) (by rw[ajE];exact cells _ _ f3)) ?_;refine GW.al Y O1 fun v1 _ k1 l1 c1=>?_;refine GW.sn3 Y O0 (x:=.string rn) (y:=.string P) (z:=.string rm) c1 fun v2 c2 k2 l2=>?_;have K2:Kw v v2:=fun b hb=>(k2 b (by omega)).trans (k1 b hb);have D:=I.on K2;refine GW.run 3 (k':=.inRegion (opsOf (cp [2,2,1,1,2,1] tB)) [0,1,2,3,4,5,6]:: .code (cp [2,2,1,1,2,2] tB)::kI) ?_;refine GW.ld Y (Gl D.c4) ?_;refine GW.ld Y (EX c2) ?_;refine GW.ld Y (Ce D.c6) ?_;refine GW.fh Y [3] ?_;refine GW.call Y (Iz (XN:=XN) (rn:=rn) (rm:=rm) hX s2 (by omega) hk E (by rw[EY];exact E) hq T hs G hn S (D.old.tabs U) (D.old.mh U hT)) ?_;rintro x v3 ⟨K,k3⟩;have V:=D.on k3;rw[Ma,List.length_map]at K;obtain⟨L,N⟩:∃L,L=jQ X P rn rm k:=⟨_,rfl⟩;rw[<-N]at K;obtain⟨b,cq,rfl⟩:∃b cq,x=.slice b L.length cq:=by
   rcases K.2 with⟨hy,o⟩|⟨d,c,cur,I,_⟩
   ·exact⟨none,0,by rw[o];exact hy⟩
   ·exact⟨_,_,I⟩
  have s:L.length<=402:=by rw[N];exact Mb X P rn rm k hX
  have H:nh XN 0 L L.length=cO XN X k (rn,P,rm):=by rw[N];exact IA XN X P rn rm k
  have O:∀r∈RL,r.1.size<=10/\r.2.1.size<=30/\r.2.2.size<=30:=fun r hr=>(p r hr).1;have l9:b9<v.heap.size:=I.WK.lt;refine GW.fh Y [5,6] ?_;refine GW.run 3 (k':=.code tI:: .inLoop tI:: .inBlock 2::kI) ?_;refine GW.any (fun u=>ME XN X k q st n b4 b6 b9 (.slice (some ⟨g,0,none⟩) RL.length cap) RL.length (iv i) (.slice b L.length cq) (iv L.length) (iv 0) u) (by kernel_rfl) fun W=>?_;refine OZ (acc:=fQ XN X k RL i) (L:=L) C U hT (by rw[N];exact O3 X P rn rm k hX s2 hk (by omega) (by omega)) (by omega) (fun j f=>?_) (fun j' u2 v4 Z=>?_) L.length 0 (by omega) W v3 (by rw[nh,akb];exact V) (jM K (by omega)) (fun d e=>by have:=(K.lt d e).1;omega)
  ·have m1:=Ci XN 0 L j (L.length-j);rw[show j+(L.length-j)=L.length by omega,H]at m1;have m2:=kz XN X k (rn,P,rm) C (by omega) ⟨s1,s2,l⟩ (by omega);have m3:=qJ XN X k RL C (by omega) O (by omega) i (by omega);rw[ajr];omega
  ·refine GW.run 2 (k':=.inRegion (opsOf (cp [2,2,2] tB)) [0,1]::kB) ?_;refine GW.fh Y [0,1] ?_;refine GW.run 2 (k':=.code tB::kB) ?_;refine GW.any (fun u=>ME XN X k q st n b4 b6 b9 (.slice (some ⟨g,0,none⟩) RL.length cap) RL.length (.int .i64 (ajP.wrap ((i:Int)+1))) (.slice b L.length cq) (iv L.length) j' u) (by kernel_rfl) fun u3=>?_;rw[lQ (by omega)];refine ih (i+1) (by omega) _ _ _ u3 v4 ?_;have:fQ XN X k RL (i+1)=fQ XN X k RL i++nh XN 0 L L.length:=by rw[fQ,J,H]
   rw[this];exact Z
end
def tH:Array Oper:=opsOf (cp [2,2,1] L_)
theorem O4:tH.size=9:=by kernel_rfl
theorem WN:(ab.all fun d0=>ab.all fun d1=>ab.all fun d2=>ab.all fun d3=>ab.all fun d4=>ab.all fun d5=>ab.all fun d6=>(Region.ready .any tH #[d0,d1,d2,d3,d4,d5,d6,false,false]).all fun i=>(i==0&&!d0)||(i==1&&(!d1&&d0))||(i==2&&(!d2&&d1))||(i==3&&!d3)||(i==4&&(!d4&&d3))||(i==5&&(!d5&&d4))||(i==6&&(!d6&&d5))||(i==7&&(d2&&d6)))=true:=by decide+kernel
theorem tdy(d0 d1 d2 d3 d4 d5 d6:Bool)(i:Nat)(Y:i∈Region.ready .any tH #[d0,d1,d2,d3,d4,d5,d6,false,false]):(i=0/\d0=false)\/(i=1/\d1=false/\d0=true)\/(i=2/\d2=false/\d1=true)\/(i=3/\d3=false)\/(i=4/\d4=false/\d3=true)\/(i=5/\d5=false/\d4=true)\/(i=6/\d6=false/\d5=true)\/(i=7/\d2=true/\d6=true):=by
 have h:=ajh.1 (bX (bX (bX (bX (bX (bX (bX WN d0) d1) d2) d3) d4) d5) d6) i Y;simpa[or_assoc]using h
theorem WO:(ab.all fun d0=>ab.all fun d1=>ab.all fun d2=>ab.all fun d3=>ab.all fun d4=>ab.all fun d5=>ab.all fun d6=>(d1&&!d0)||(d2&&!d1)||(d4&&!d3)||(d5&&!d4)||(d6&&!d5)||!(Region.ready .any tH #[d0,d1,d2,d3,d4,d5,d6,false,false]).isEmpty)=true:=by decide+kernel
theorem WQ:Region.ready .any tH #[true,true,true,true,true,true,true,true,false]=[8]:=by decide+kernel
section
variable{tb:Bool}{Q:QT}{R:Value->World->Prop}{v:World}{fn:FuncId}{k:List Item}{a:Array Value}{ops:Array Oper}{i:Nat}{is:List Nat}
theorem GW.cat(Y:∃F,PR.funcs[fn]?=some F)(p q:Operand){x y:ByteArray}(H:x.size+y.size<=100000000)(g:GW tb Q R fn (.inRegion ops is::k) (gj (oB ops i) (.string (x++y)) a) v)(h:zR ops i a=some (zG (do eqGuard .add 9 p q (.string x) (.string y);binOp .add 9 (.string x) (.string y))):=by kernel_rfl):GW tb Q R fn (.inRegion ops (i::is)::k) a v:=
 GW.vl Y h (by simp[go_sem,run_string_add_sum (P:=PR) (w:=v) x y (by omega)]) rfl g
theorem GW.bs(Y:∃F,PR.funcs[fn]?=some F){x y:ByteArray}(g:∀v1,Kw v v1->v1.heap[v.heap.size]?=some (.cells #[.string x,.string y] 9)->GW tb Q R fn (.inRegion ops is::k) (gj (oB ops i) (.slice (some ⟨v.heap.size,0,none⟩) 2 2) a) v1)(h:zR ops i a=some (zG (aj8 65 2 #[(0,.string x),(1,.string y)])):=by kernel_rfl):GW tb Q R fn (.inRegion ops (i::is)::k) a v:=by
 have hu:PR.underlying 65=some (.slice 9):=by kernel_rfl
 obtain⟨inf,H,K⟩:=vb (f:=fun i=>(i.zero,i.size)) (z:=(some (.string ⟨#[]⟩),1)) (t:=9) (by kernel_rfl);simp only[Prod.mk.injEq]at K;exact GW.vl (v1:=v.alloc (.cells #[.string x,.string y] 9)) Y h (by simp[go_sem,aj8,run_underlying hu,sizeOf,typeInfo,zeroValue,H,K]) rfl (g _ (.alloc v _) (heap_alloc_new v _))
end
def Yl(XN X:ByteArray)(k q st n b4 b6 b9:Nat)(sl:Value)(d0 d1 d2 d3 d4 d5 d6:Bool):Array Value:=
 #[pM XN X,sl,lT k q st,iv n,ptr b4,undef,ptr b6,undef,.string ⟨#[]⟩,ptr b9,undef,undef,undef,undef,pk d0 (IX b4 0),pk d1 (.string XN),pk d2 (.string (⟨#[64]⟩++XN)),pk d3 (IX b4 1),pk d4 (.string X),pk d5 (.int .i64 (X.size:Int)),pk d6 (.string (str (br X.size))),undef,undef,undef,undef,undef,undef,undef,undef,undef,undef,undef,undef,undef,undef,undef,undef,undef,undef,undef,undef,undef,undef,undef,undef,undef,undef,undef,undef]
section
variable{Q:QT}{R:Value->World->Prop}{v0 v:World}{XN X:ByteArray}{k q st n b4 b6 b9 cap len:Nat}{sl:Value}{K:List Item}
theorem IC(hX:X.size<=200)(O:XN.size<=1000)(N:iR v0)(G:bu v0)(j:TV v0 XN X k q st b4 b6 b9 [] v)
  (kk:∀z x v',TV v0 XN X k q st b4 b6 b9 (eA XN X) v'->GW false Q R 60 (.inRegion tH []::K) (gj (some 22) x (gj (some 21) z (Yl XN X k q st n b4 b6 b9 sl true true true true true true true))) v'):
  GW false Q R 60 (.code (.region 2 tH true)::K) (Yl XN X k q st n b4 b6 b9 sl false false false false false false false) v:=by
 have Y:∃F,PR.funcs[60]?=some F:=⟨_,ajy⟩;refine GW.draw fun t=>?_;rw[O4];refine GW.Qr (md:=.any) (fun D=>Yl XN X k q st n b4 b6 b9 sl (D.getD 0 false) (D.getD 1 false) (D.getD 2 false) (D.getD 3 false) (D.getD 4 false) (D.getD 5 false) (D.getD 6 false)) (fun fuel D u=>∃d0 d1 d2 d3 d4 d5 d6:Bool,D=#[d0,d1,d2,d3,d4,d5,d6,false,false]/\(d1=true->d0=true)/\(d2=true->d1=true)/\(d4=true->d3=true)/\(d5=true->d4=true)/\(d6=true->d5=true)/\fuel+(d0.toNat+d1.toNat+d2.toNat+d3.toNat+d4.toNat+d5.toNat+d6.toNat)=9/\TV v0 XN X k q st b4 b6 b9 [] u) ?_ ?_ 9 t (ajm 9 false) v ⟨false,false,false,false,false,false,false,rfl,nofun,nofun,nofun,nofun,nofun,rfl,j⟩
 ·rintro D i fuel t u ⟨d0,d1,d2,d3,d4,d5,d6,rfl,A,U,B,C,J,I,T⟩ E H;rcases tdy d0 d1 d2 d3 d4 d5 d6 i E with⟨rfl,rfl⟩|⟨rfl,rfl,rfl⟩|⟨rfl,rfl,rfl⟩|⟨rfl,rfl⟩|⟨rfl,rfl,rfl⟩|⟨rfl,rfl,rfl⟩|⟨rfl,rfl,rfl⟩|⟨rfl,rfl,rfl⟩
  ·exact GW.fh Y [0] (GW.to _ (H u ⟨true,d1,d2,d3,d4,d5,d6,rfl,fun _=>rfl,U,B,C,J,by simp at I⊢;omega,T⟩))
  ·exact GW.ld Y (wY 0 ES T.c4 rfl) (GW.to _ (H u ⟨true,true,d2,d3,d4,d5,d6,rfl,fun _=>rfl,fun _=>rfl,B,C,J,by simp at I⊢;omega,T⟩))
  ·exact GW.cat Y (.const (.string ⟨#[64]⟩)) (.tmp 15) (x:=⟨#[64]⟩) (y:=XN) (by show 1+XN.size<=_;omega) (GW.to _ (H u ⟨d0,true,true,d3,d4,d5,d6,rfl,A,fun _=>rfl,B,C,J,by simp at I⊢;omega,T⟩))
  ·exact GW.fh Y [3] (GW.to _ (H u ⟨d0,d1,d2,true,d4,d5,d6,rfl,A,U,fun _=>rfl,C,J,by simp at I⊢;omega,T⟩))
  ·exact GW.ld Y (wY 1 ES T.c4 rfl) (GW.to _ (H u ⟨d0,d1,d2,true,true,d5,d6,rfl,A,U,fun _=>rfl,fun _=>rfl,J,by simp at I⊢;omega,T⟩))
  ·exact GW.fh Y [5] (GW.to _ (H u ⟨d0,d1,d2,d3,true,true,d6,rfl,A,U,B,fun _=>rfl,fun _=>rfl,by simp at I⊢;omega,T⟩))
  ·refine GW.call Y (aL.bN (R:=fun x v'=>x=.string (str (br X.size))/\Kw u v') (by decide) fun M=>(mW _ X.size rfl (tp u M) (by omega) (T.old.mh N G)).mono fun e w' h=>⟨_,h.1,rfl,fun a P=>h.2.block a P⟩) ?_;rintro x c ⟨rfl,Z⟩;exact GW.to _ (H c ⟨d0,d1,d2,d3,d4,true,true,rfl,A,U,B,C,fun _=>rfl,by simp at I⊢;omega,T.on Z⟩)
  ·clear H;obtain rfl:=U rfl;obtain rfl:=A rfl;obtain rfl:=J rfl;obtain rfl:=C rfl;obtain rfl:=B rfl;obtain rfl:fuel=1:=by simp at I;omega
   refine GW.bs Y (x:=⟨#[64]⟩++XN) (y:=str (br X.size)) fun u1 k1 c1=>?_;rw[show(#[true,true,true,true,true,true,true,false,false]:Array Bool).setIfInBounds 7 true=#[true,true,true,true,true,true,true,true,false]from rfl,zE WQ];have V:=T.on k1;have L:u1.ownsRow u.heap.size 9 1 (.slice (some ⟨u.heap.size,0,none⟩) 2 2) 2 [.string (⟨#[64]⟩++XN),.string (str (br X.size))]:=⟨rfl,.inr ⟨u.heap.size,2,_,rfl,ajf _,c1,ajf _,by unfold maxLen;omega,rfl,rfl⟩⟩;have W:(kH [(⟨#[64]⟩:ByteArray)++XN,str (br X.size)]++[10]).length<=100000:=by
    rw[yf];have:=qJ XN X 0 [] O (by omega) (by simp) (by omega) 0 (by simp);simp only[fQ]at this;omega
   refine GW.call Y (aL.bN (R:=fun x v'=>eP b9 (eA XN X) v'/\∀g,g<b9->v'.heap[g]?=u1.heap[g]?) (by decide) fun M=>(js b9 u.heap.size [] [(⟨#[64]⟩:ByteArray)++XN,str (br X.size)] (.slice (some ⟨u.heap.size,0,none⟩) 2 2) (tp u1 M) V.WK L (by simp) (by simp) (by simp at W⊢;omega)).mono fun e w' h=>⟨_,h.1,by have:=h.2.1;rw[akc,yf]at this;exact this,fun a P=>h.2.2.1.block a P⟩) ?_;rintro x u2 ⟨hb,kb⟩;exact GW.to _ (kk (.slice (some ⟨u.heap.size,0,none⟩) 2 2) x u2 (V.wrote hb kb))
 ·rintro fuel D u ⟨d0,d1,d2,d3,d4,d5,d6,rfl,A,U,B,C,J,I,T⟩ S;exfalso;rcases S with rfl|S
  ·have:=aje d0;have:=aje d1;have:=aje d2;have:=aje d3;have:=aje d4;have:=aje d5;have:=aje d6;omega
  ·have h:=bX (bX (bX (bX (bX (bX (bX WO d0) d1) d2) d3) d4) d5) d6;rw[S]at h;cases d0<;>cases d1<;>cases d2<;>cases d3<;>cases d4<;>cases d5<;>cases d6<;>simp_all
end
section
variable{tb:Bool}{Q:QT}{R:Value->World->Prop}{v:World}{fn:FuncId}{a:Array Value}
theorem GW.abj{F:Func}(Y:PR.funcs[fn]?=some F){d:Nat}(hr:F.results=#[.tmp d])(H:a.getD d undef=x)(h:∀T,R x (tp v T)):GW false Q R fn [.code .ret] a v:=
 GW.rest Y rfl fun T=>wp_ret (bodyPost_ret (results_tmp hr _ _ _) rfl ⟨_,rfl,by have:=h T;rw[<-H]at this;exact this⟩)
end
theorem O5:(PR.info? 102).map (·.zero)=some (some (.agg #[.pointer none,.slice none 0 0])):=by kernel_rfl
theorem WR:Tryz.f60.body=some L_:=by kernel_rfl
section
variable{Q:QT}{v:World}{XN X:ByteArray}{k q st n cap:Nat}{a:Option Addr}{RL:List ky}
theorem SU(hX:X.size<=200)(D:XN.size<=1000)(hk:k<=6)(W:1<=q)(C:q<=8)(p:1<=st)(M:st<=200)(G:1<=n)(B:n<=8)(S:∀r∈RL,(r.1.size<=10/\r.2.1.size<=30/\r.2.2.size<=30)/\k<r.2.1.size)(U:RL.length<=5)(H:iR v)(N:bu v)(rows:v.ownsRow 0 131 3 (.slice a RL.length cap) RL.length (dX RL)):
  aL Q 60 #[pM XN X,.slice a RL.length cap,lT k q st,iv n] v fun x v'=>x=.string (str (fQ XN X k RL RL.length))/\Kw v v':=by
 have Y:∃F,PR.funcs[60]?=some F:=⟨_,ajy⟩;refine aL.of (n:=49) ajy WR (by kernel_rfl) ?_;refine GW.run 2 (k':=[.inRegion (opsOf (cp [1] L_)) [0,1,2],.code (cp [2] L_)]) ?_;refine GW.bx Y (t:=68) (y:=pM XN X) fun v1 k1 l1 c4=>?_;refine GW.bx Y (t:=75) (y:=lT k q st) fun v2 O l2 c6=>?_;refine GW.fh Y [2] ?_;refine GW.run 3 (k':=[.inRegion (opsOf (cp [2,1] L_)) [0],.code (cp [2,2] L_)]) ?_;refine GW.al Y O5 fun v3 P J E _=>?_;have hb:eP v2.heap.size [] v3:=by rw[P];exact eP.new v2
 have I:TV v XN X k q st v.heap.size v1.heap.size v2.heap.size [] v3:=⟨J.at (O.at c4),J.at c6,hb,(k1.trans O).trans J,by omega,by omega,by omega⟩;refine GW.run 2 (k':=[.code (.region 2 tH true),.code (cp [2,2,2] L_)]) ?_;refine GW.to (Yl XN X k q st n v.heap.size v1.heap.size v2.heap.size (.slice a RL.length cap) false false false false false false false) ?_;generalize v.heap.size=b4 at I⊢;generalize v1.heap.size=b6 at I⊢;generalize v2.heap.size=b9 at I⊢;refine IC hX D H N I fun z x v4 A=>?_;refine GW.run 4 (k':=[.inRegion (opsOf (cp [2,2,2,1,1] L_)) [0,1,2],.code (cp [2,2,2,1,2] L_),.code tE]) ?_;refine GW.fh Y [0,1,2] ?_;refine GW.run 3 (k':=.code tB::kB) ?_;refine GW.any (fun u=>ME XN X k q st n b4 b6 b9 (.slice a RL.length cap) RL.length (iv 0) (u 33) (u 34) (u 35) u) (by kernel_rfl) fun u=>?_;refine Mc hX D hk W C p M G B S U H N rows (fun y z j u v5 K=>?_) RL.length 0 (by omega) _ _ _ u v4 A;refine GW.run 2 (k':=[.inRegion (opsOf (cp [1] tE)) [0,1],.code .ret]) ?_;refine GW.call Y (aL.bN (R:=fun x v'=>x=.string (str (fQ XN X k RL RL.length))/\∀g,g<b9->v'.heap[g]?=v5.heap[g]?) (by decide) fun T=>(mU b9 _ (tp v5 T) K.WK).mono fun e w' h=>⟨_,h.1,rfl,fun a V=>h.2.block a V⟩) ?_;rintro x v6 ⟨rfl,Z⟩;refine GW.fh Y [1] ?_;refine GW.run 1 (k':=[.code .ret]) ?_;exact GW.abj (d:=8) ajy (by kernel_rfl) (x:=.string (str (fQ XN X k RL RL.length))) (by kernel_rfl) fun T=>⟨rfl,fun g L=>(Z g (aji L K.l0)).trans (K.old g L)⟩
end
section
variable{tb:Bool}{Q:QT}{R:Value->World->Prop}{v:World}{fn:FuncId}{k:List Item}{a:Array Value}{ops:Array Oper}{i:Nat}{is:List Nat}
theorem GW.st2(H:∃F,PR.funcs[fn]?=some F){t:TypeId}(M:(PR.info? t).map (·.size)=some 2){B:Nat}(Y:v.heap[B]?=some (.cells #[z0,z1] t'))
  (g:∀v1,v1.heap[B]?=some (.cells #[x,y] t')->(∀b,b≠B->v1.heap[b]?=v.heap[b]?)->v1.heap.size=v.heap.size->GW tb Q R fn (.inRegion ops is::k) (gj (oB ops i) undef a) v1)(h:zR ops i a=some (OV (Instr.storeAt t (ptr B) (.agg #[x,y]))):=by kernel_rfl)(I:x.oneCell'=true:=by rfl)(U:y.oneCell'=true:=by rfl):GW tb Q R fn (.inRegion ops (i::is)::k) a v:=by
 obtain⟨inf,K,D⟩:=vb M;have r0:=cx (i:=0) (v:=x) Y;have A:v.cell? ⟨B,0,none⟩=some z0:=by simp[aja,Y]
 have f0:v.frozen? ⟨B,0,none⟩=false:=by simp[ajz,Y]
 have C:(v.setCell ⟨B,0,none⟩ x).cell? ⟨B,1,none⟩=some z1:=by simp[aja,r0]
 have f1:(v.setCell ⟨B,0,none⟩ x).frozen? ⟨B,1,none⟩=false:=by simp[ajz,r0]
 have he:=abd (a:=x) (b:=y) v Y;refine GW.sk (v1:=OM B x y v) H h ?_ rfl (g _ he.2 (fun b hb=>he.1.heap b hb) he.1.size);simp[go_sem,storeVar,storeCells,sizeOf,typeInfo,K,D,Value.cells,run_store PR _ _ x _ I,run_store PR _ _ y _ U,A,f0,C,f1,ptr,Addr.add,OM]
theorem GW.SV(Y:∃F,PR.funcs[fn]?=some F)(x y z:Nat)(h:∀t c cs,aQ PR 2 ((bf fn).at ⟨t,[]⟩ (.code .ret::k)) (c::cs)=(c.finish (.tuple #[t.getD x undef,t.getD y undef,t.getD z undef]),cs))(hr:R (.tuple #[a.getD x undef,a.getD y undef,a.getD z undef]) v):GW false Q R fn (.code .ret::k) a v:=by
 intro r Z w t l H D K I;obtain⟨c,cs,rfl⟩:=sI H;refine aH.pure 2 fun w' hk=>?_;rw[h];have ev:∀n:Nat,@V gv r (a.getD n undef) (t.getD n undef):=fun n=>na Y D K.gi (x:=.tmp n) trivial;refine I r Z _ _ v w' (fun _ _ e=>e) ?_ (K.quiet hk) (.qt hk) hr
 letI:=gv
 refine .tuple rfl fun i p p' e e'=>?_;have A:i<3:=by
  have:=(ajq.1 e).1;simpa using this
 have:i=0\/i=1\/i=2:=by omega
 rcases this with rfl|rfl|rfl<;>cases e<;>cases e'<;>exact ev _
end
noncomputable def qT:Code:=aj9.body.getD .skip
abbrev i6(n:Int):Value:=.int .i64 n
def O6(ref reads:ByteArray)(k q st wk:Int)(O7:Nat)(V:Value)(IY:Nat)(x18:Value)(u:Nat->Value):Array Value:=
 #[.string ref,.string reads,i6 k,i6 q,i6 st,i6 wk,u 6,u 7,u 8,u 9,u 10,u 11,.string ⟨#[]⟩,i6 0,i6 0,ptr O7,V,ptr IY,x18,u 19,u 20,u 21,u 22,u 23,u 24,u 25,u 26,u 27,u 28,u 29,u 30,u 31,u 32,u 33,u 34,u 35,u 36,u 37,u 38,u 39,u 40,u 41,u 42,u 43,u 44,u 45,u 46,u 47,u 48,u 49,u 50,u 51,u 52,u 53,u 54,u 55,u 56,u 57,u 58]
section
variable{v:World}{ref reads:ByteArray}{k q st wk E Pl:Int}{V x18:Value}{O7 IY ID:Nat}{u:Nat->Value}
theorem WT(h:w.heap[IY]?=some (.cells #[i6 E,i6 Pl] 70)):(cp [2,2,1,2,1,1] qT).wp PR (fun e a' v'=>e=.normal/\a'.defers=[]/\(a'.tmps.getD 12 undef=.string ⟨#[]⟩/\a'.tmps.getD 13 undef=i6 E/\a'.tmps.getD 14 undef=i6 Pl)/\v'.heap=w.heap) ⟨O6 ref reads k q st wk O7 V IY x18 u,[]⟩ w:=by
 have c0:w.cell? ⟨IY,0,none⟩=some (i6 E):=by simp[aja,h]
 have c1:w.cell? ⟨IY,1,none⟩=some (i6 Pl):=by simp[aja,h]
 obtain⟨Q,Y⟩:∃Q:Exit->Act->World->Prop,Q=(fun e a' v'=>e=.normal/\a'.defers=[]/\(a'.tmps.getD 12 undef=.string ⟨#[]⟩/\a'.tmps.getD 13 undef=i6 E/\a'.tmps.getD 14 undef=i6 Pl)/\v'.heap=w.heap):=⟨_,rfl⟩;rw[<-Y];have K:=laid Y;unfold qT aj9 O6;simp only[ptr]
 go_quiet(fail)
 rw[K.out];exact⟨rfl,rfl,⟨rfl,rfl,rfl⟩,rfl⟩
theorem WU{L:List ky}{B:Nat}(h:w.heap[ID]?=some (.cells #[i6 k,i6 q,i6 st] 75))(D:w.ownsRow B 131 3 V L.length (dX L))(N:L.length<=1000)(O:∀r∈L,r.2.1.size<=1000):(cp [2,2,2,2,1,1] qT).wp PR (fun e a' v'=>e=.normal/\a'.defers=[]/\(a'.tmps=O6 ref reads k q st wk O7 V IY (ptr ID) (fun n=>a'.tmps.getD n undef)/\a'.tmps.getD 53 undef=.bool (!ov k q st||!b_ k L||decide (wk<1)||decide (8<wk)))/\∀g,g<w.heap.size->v'.heap[g]?=w.heap[g]?) ⟨O6 ref reads k q st wk O7 V IY (ptr ID) u,[]⟩ w:=by
 have H:=laid h;have J:=laid D;have M:=laid O;have c0:w.cell? ⟨ID,0,none⟩=some (i6 k):=by simp[aja,h]
 have c1:w.cell? ⟨ID,1,none⟩=some (i6 q):=by simp[aja,h]
 have c2:w.cell? ⟨ID,2,none⟩=some (i6 st):=by simp[aja,h]
 obtain⟨Q,C⟩:∃Q:Exit->Act->World->Prop,Q=(fun e a' v'=>e=.normal/\a'.defers=[]/\(a'.tmps=O6 ref reads k q st wk O7 V IY (ptr ID) (fun n=>a'.tmps.getD n undef)/\a'.tmps.getD 53 undef=.bool (!ov k q st||!b_ k L||decide (wk<1)||decide (8<wk)))/\∀g,g<w.heap.size->v'.heap[g]?=w.heap[g]?):=⟨_,rfl⟩;rw[<-C];have R:=laid C;clear C;unfold qT aj9 O6;simp only[ajC,cp];simp only[ptr];go_wp2_with fail
 refine(Ii k q st _).mono ?_;rintro e w1 ⟨rfl,Y⟩;cases hm:ov k q st
 ·go_wp2
  rw[R.out];exact⟨rfl,rfl,⟨by kernel_rfl,by rw[hm];rfl⟩,fun g K=>Y.block g K⟩
 ·have I:=(Y.block ID (ax H.out)).trans H.out;have d0:w1.cell? ⟨ID,0,none⟩=some (i6 k):=by simp[aja,I]
  have d1:w1.cell? ⟨ID,1,none⟩=some (i6 q):=by simp[aja,I]
  have d2:w1.cell? ⟨ID,2,none⟩=some (i6 st):=by simp[aja,I]
  clear I;have U:=laid (zI J.out fun g K=>Y.block g K);go_wp2_with fail
  refine(sd k q st L V B w1 U.out N M.out).mono ?_;rintro e w2 ⟨rfl,F⟩;have A:=laid fun g K=>(F.block g (aji K Y.size)).trans (Y.block g K);cases P:b_ k L
  ·go_wp2
   rw[R.out];exact⟨rfl,rfl,⟨by kernel_rfl,by rw[hm,P];rfl⟩,A.out⟩
  ·by_cases hw:wk<1
   ·go_wp2
    rw[R.out];exact⟨rfl,rfl,⟨by kernel_rfl,by simp_all⟩,A.out⟩
   ·go_wp2
    rw[R.out];exact⟨rfl,rfl,⟨by kernel_rfl,by simp_all⟩,A.out⟩
end
theorem SW:(PR.info? 68).map (·.zero)=some (some (.agg #[.string ⟨#[]⟩,.string ⟨#[]⟩])):=by kernel_rfl
theorem SX:(PR.info? 70).map (·.zero)=some (some (.agg #[i6 0,i6 0])):=by kernel_rfl
theorem SY:(PR.info? 75).map (·.zero)=some (some (.agg #[i6 0,i6 0,i6 0])):=by kernel_rfl
theorem SZ:(PR.info? 68).map (·.size)=some 2:=by kernel_rfl
theorem S0:(PR.info? 70).map (·.size)=some 2:=by kernel_rfl
theorem S5:(PR.info? 75).map (·.size)=some 3:=by kernel_rfl
theorem Gp{reads:ByteArray}(h:bV ref reads=0):H3 ref=jU ref:=by
 have Y:=(Sk h).2.2.1;unfold ji at Y;obtain⟨K,_⟩:=cR Y;exact(QM ref K).symm
theorem vf{reads:ByteArray}{k q st wk:Int}(h:bV ref reads≠0):jq ref reads k q st wk=bV ref reads:=by unfold jq;rw[if_pos h]
theorem vg{reads:ByteArray}{k q st wk:Int}(h:bV ref reads=0)(Y:jW k 30 q st=false\/wk<1\/8<wk):jq ref reads k q st wk=4:=by unfold jq;rw[if_neg (by rw[h];simp),if_pos Y]
theorem Me{reads:ByteArray}{k q st wk:Int}(h:bV ref reads=0)(Y:fewer (ai reads 5 0) k=false):jq ref reads k q st wk=4:=by
 unfold jq;rw[if_neg (by rw[h];simp)];split
 ·rfl
 ·first
   |rfl
   |rw[if_pos Y]
theorem O8{reads:ByteArray}{k q st wk:Int}(h:bV ref reads=0)(Y:¬(jW k 30 q st=false\/wk<1\/8<wk))(H:fewer (ai reads 5 0) k=true):jq ref reads k q st wk=0:=by
 unfold jq;rw[if_neg (by rw[h];simp),if_neg Y,if_neg (by rw[H];simp)]
theorem Cj{reads:ByteArray}{k q st wk:Int}(h:jq ref reads k q st wk≠0):ot ref reads k q st wk=⟨#[]⟩:=by unfold ot;rw[if_neg h]
theorem O9{B:Nat}{z:Nat}{v:Value}(h:w.ownsRow B e z v n xs):w.ownsRow 0 e z v n xs:=by
 refine⟨h.1,?_⟩;rcases h.2 with h'|⟨g,cap,cur,Y,H,K⟩
 ·exact .inl h'
 ·exact .inr ⟨g,cap,cur,Y,Nat.zero_le _,K⟩
theorem WV:aj9.body=some qT:=by kernel_rfl
theorem WW:pW PR (isAgg 35)=some false:=by kernel_rfl
section
variable{Q:QT}{v:World}{ref reads:ByteArray}{k q st wk:Int}
theorem Mf(h1:ref.size<=maxLen)(h2:reads.size<=maxLen)(p:iR v)(hT:bu v):
  aL Q 39 #[.string ref,.string reads,i6 k,i6 q,i6 st,i6 wk] v fun x v'=>x=.tuple #[.string (ot ref reads k q st wk),i6 (jq ref reads k q st wk),i6 (BO ref reads)]/\Kw v v':=by
 have Y:∃F,PR.funcs[39]?=some F:=⟨_,Tryz.func39⟩;obtain⟨L,I⟩:∃L,L=ai reads 5 0:=⟨_,rfl⟩;obtain⟨E,G⟩:∃E,E=bV ref reads:=⟨_,rfl⟩;obtain⟨Pl,d⟩:∃Pl,Pl=qI ref reads:=⟨_,rfl⟩;refine aL.of (n:=59) Tryz.func39 WV (by kernel_rfl) ?_;refine GW.run 2 (k':=[.inRegion (opsOf (cp [1] qT)) [0,1,2],.code (cp [2] qT)]) ?_;refine GW.fh Y [0,1,2] ?_;refine GW.run 3 (k':=[.inRegion (opsOf (cp [2,1] qT)) [0,1,2,3,4,5,6,7,8,9,10,11],.code (cp [2,2] qT)]) ?_;refine GW.fh Y [0,1] ?_;refine GW.call Y (aL.bN (R:=fun x v'=>∃a b V,x=.tuple #[.agg #[.string a,.string b],V,.agg #[i6 E,i6 Pl]]/\Kw v v'/\(E=0->a=H3 ref/\b=str (dy ref).2/\v'.ownsRow v.heap.size 131 3 V L.length (dX L))) (by decide) fun T=>(zo ref reads (tp v T) h1 h2).mono fun e v' ⟨a,b,V,e1,e2,S,e4⟩=>⟨_,by rw[e1,<-G,<-d],a,b,V,rfl,fun g N=>S.block g N,by rw[G,I];exact e4⟩) ?_;rintro x v1 ⟨a,b,V,rfl,k1,ZW⟩;refine GW.fh Y [3,4,5,6] ?_;refine GW.al Y SW fun v2 e2 k2 l2 H=>?_;refine GW.al Y SX fun v3 S k3 l3 A=>?_;refine GW.st2 Y SZ (x:=.string a) (y:=.string b) (k3.at H) fun v4 H o4 s4=>?_;refine GW.fh Y [10] ?_;refine GW.st2 Y S0 (x:=i6 E) (y:=i6 Pl) ((o4 _ (by omega)).trans A) fun v5 A o5 s5=>?_;have H:=(o5 v1.heap.size (by omega)).trans H;have K5:Kw v1 v5:=fun g N=>by
  have:=k2.size;rw[o5 g (by omega),o4 g (by omega),k3 g (by omega),k2 g N]
 have n17:v1.heap.size<=v2.heap.size:=k2.size;have s45:v3.heap.size=v5.heap.size:=by omega
 have l17:v2.heap.size<v5.heap.size:=by omega
 clear o4 o5 e2 S;have K05:=k1.trans K5;refine GW.run 4 (k':=[.inRegion (opsOf (cp [2,2,1,1] qT)) [0,1,2],.code (cp [2,2,1,2] qT),.code (cp [2,2,2] qT)]) ?_;refine GW.fh Y [0] ?_;refine GW.ld Y (wY 0 WW A rfl) ?_;refine GW.fh Y [2] ?_;refine GW.run 1 (k':=[.code (.cond (.tmp 28) (cp [2,2,1,2,1] qT) .skip),.code (cp [2,2,2] qT)]) ?_;refine GW.cond Y (t:=!(decide (E=0))) trivial (by kernel_rfl) ?_;refine GW.any (fun u=>O6 ref reads k q st wk v1.heap.size V v2.heap.size (u 18) u) (by kernel_rfl) fun u=>?_;generalize v2.heap.size=IY at *;generalize v1.heap.size=O7 at *;by_cases D:E=0
 ·rw[decide_eq_true D];obtain⟨ea,eb,C⟩:=ZW D;have K:bV ref reads=0:=by rw[<-G];exact D
  have j:BO ref reads=0:=by unfold BO;rw[if_neg (by rw[K];simp)]
  have hLl:L.length<=5:=by rw[I];exact nH reads 5 0
  have W:∀r∈L,r.1.size<=10/\r.2.1.size<=30/\r.2.2.size<=30:=by rw[I];exact lW reads 5 0
  have l:b_ k L=fewer (ai reads 5 0) k:=by rw[I];rfl
  refine GW.run 3 (k':=[.inRegion (opsOf (cp [2,2,2,1] qT)) [0,1,2,3,4,5],.code (cp [2,2,2,2] qT)]) ?_;refine GW.fh Y [0,1,2,3] ?_;refine GW.al Y SY fun v6 e6 k6 l6 U=>?_;refine GW.sn3 Y S5 (x:=i6 k) (y:=i6 q) (z:=i6 st) U fun v7 U o7 s7=>?_;have K7:Kw v5 v7:=fun g N=>(o7 g (by omega)).trans (k6 g N);have H:=K7.at H;have M:=K5.trans K7;have O:=k1.trans M;refine GW.run 3 (k':=[.code (cp [2,2,2,2,1,1] qT),.code (cp [2,2,2,2,1,2] qT),.code (cp [2,2,2,2,2] qT)]) ?_;refine GW.any (fun u=>O6 ref reads k q st wk O7 V IY (ptr v5.heap.size) u) (by kernel_rfl) fun u=>?_;generalize v5.heap.size=ID at *;refine GW.piece Y (by kernel_rfl) (R1:=fun a' v'=>(a'=O6 ref reads k q st wk O7 V IY (ptr ID) (fun n=>a'.getD n undef)/\a'.getD 53 undef=.bool (!ov k q st||!b_ k L||decide (wk<1)||decide (8<wk)))/\Kw v7 v') rfl (fun T=>WU (w:=tp v7 T) U (zI C M) (by omega) fun r hr=>by have:=W r hr;omega) ?_;rintro a' v8 ⟨⟨Z,X⟩,i⟩;refine GW.run 0 (k':=[.code (.cond (.tmp 53) (cp [2,2,2,2,1,2,1] qT) .skip),.code (cp [2,2,2,2,2] qT)]) ?_;refine GW.cond Y trivial X ?_;refine GW.to _ ?_ Z;generalize(fun n=>a'.getD n undef)=u';clear Z X;cases hb:(!ov k q st||!b_ k L||decide (wk<1)||decide (8<wk))with
  |true=>
   have h4:jq ref reads k q st wk=4:=by
    simp only[Bool.or_eq_true,aj2,decide_eq_true_eq]at hb;rcases hb with((h|h)|h)|h
    ·exact vg K (.inl (by rw[xZ,h];rfl))
    ·exact Me K (by rw[<-l];exact h)
    ·exact vg K (.inr (.inl h))
    ·exact vg K (.inr (.inr h))
   refine GW.run 2 (k':=[.inRegion (opsOf (cp [2,2,2,2,1,2,1,1] qT)) [0,1,2],.code .ret,.code (cp [2,2,2,2,2] qT)]) ?_;refine GW.fh Y [0,1,2] ?_;refine GW.run 1 (k':=[.code .ret,.code (cp [2,2,2,2,2] qT)]) ?_;refine GW.SV Y 12 13 14 (fun t c cs=>by kernel_rfl) ⟨?_,O.trans i⟩;rw[Cj (by rw[h4];decide),h4,j];kernel_rfl
  |false=>
   simp only[Bool.or_eq_false_iff,Bool.not_eq_false',decide_eq_false_iff_not]at hb;obtain⟨⟨⟨B,m⟩,hw1⟩,hw8⟩:=hb;have hm:=of_decide_eq_true B;obtain⟨kn,rfl⟩:∃n:Nat,k=(n:Int):=⟨k.toNat,by omega⟩;obtain⟨qn,rfl⟩:∃n:Nat,q=(n:Int):=⟨q.toNat,by omega⟩;obtain⟨sn,rfl⟩:∃n:Nat,st=(n:Int):=⟨st.toNat,by omega⟩;obtain⟨wn,rfl⟩:∃n:Nat,wk=(n:Int):=⟨wk.toNat,by omega⟩;have s:=O9 (zI C (M.trans i));obtain⟨va',P,rfl⟩:∃va' P,V=.slice va' L.length P:=by
    rcases s.2 with⟨hy,h0⟩|⟨g',Ou,cur,hv,_⟩
    ·exact⟨none,0,by rw[h0];exact hy⟩
    ·exact⟨_,_,hv⟩
   have hxb:b.size<=200:=by rw[eb,ak];exact Er ref
   have hxn:a.size<=1000:=by rw[ea,Gp K];have:=xT ref (aI ref 62 0);show(vt ref (aI ref 62 0)).size<=1000;omega
   have f:∀r∈L,(r.1.size<=10/\r.2.1.size<=30/\r.2.2.size<=30)/\kn<r.2.1.size:=fun r hr=>⟨W r hr,by
    have:=of_decide_eq_true (ajh.1 m r hr);omega⟩
   have o:jq ref reads kn qn sn wn=0:=O8 K (by
    rintro(h|h|h)
    ·rw[xZ,B]at h;have:decide ((kn:Int)<30)=true:=decide_eq_true (by omega);rw[this]at h;cases h
    ·omega
    ·omega) (by rw[<-l];exact m)
   have hS:ot ref reads kn qn sn wn=str (fQ a b kn L L.length):=by
    unfold ot fK;rw[if_pos o,ea,eb,Gp K,I];rfl
   refine GW.run 3 (k':=[.inRegion (opsOf (cp [2,2,2,2,2,1] qT)) [0,1,2,3,4,5,6,7],.code .ret]) ?_;refine GW.ld Y (Gl (i.at H)) ?_;refine GW.fh Y [1] ?_;refine GW.ld Y (Ce (i.at U)) ?_;refine GW.fh Y [3] ?_;have J:=O.trans i;refine GW.call Y (SU (q:=qn) (st:=sn) (n:=wn) hxb hxn (by omega) (by omega) (by omega) (by omega) (by omega) (by omega) (by omega) f hLl (J.tabs p) (J.mh p hT) s) ?_;rintro x v9 ⟨rfl,k9⟩;refine GW.fh Y [5,6,7] ?_;refine GW.run 1 (k':=[.code .ret]) ?_;refine GW.SV Y 12 13 14 (fun t c cs=>by kernel_rfl) ⟨?_,J.trans k9⟩;rw[hS,o,j];kernel_rfl
 ·rw[decide_eq_false D];refine GW.run 1 (k':=[.code (cp [2,2,1,2,1,1] qT),.code .ret,.code (cp [2,2,2] qT)]) ?_;refine GW.piece Y (by kernel_rfl) (R1:=fun a' v'=>(a'.getD 12 undef=.string ⟨#[]⟩/\a'.getD 13 undef=i6 E/\a'.getD 14 undef=i6 Pl)/\v'.heap=v5.heap) rfl (fun T=>WT (w:=tp v5 T) A) ?_;rintro a' v' ⟨⟨e1,e2,S⟩,hh⟩;refine GW.SV Y 12 13 14 (fun t c cs=>by kernel_rfl) ?_;have K:bV ref reads≠0:=by rw[<-G];exact D
  rw[e1,e2,S,Cj (by rw[vf K];exact K),vf K,show BO ref reads=qI ref reads by unfold BO;rw[if_pos K],<-G,<-d];exact⟨rfl,fun g N=>by rw[hh];exact K05 g N⟩
end
theorem S6{i:Nat}(h:i+1<=maxLen):ajP.wrap ((i:Int)+1)=((i+1:Nat):Int):=by
 unfold maxLen at h;rw[Go.IntWalk.i64_in _ (by omega)];omega
abbrev ii(n:Int):Value:=.int .i64 n
section
variable{P:Program}{Q:QT}{Z:Loc->Prop}{f:Frame}{l:List Frame}{w:World}
theorem aH.S7(m:Nat)(r:Frame×List Frame)(hr:aQ P m f l=r){al:List (Nat×Value)}{call:Option (FuncId×Array Value)}{load:Option (TypeId×Value)}(h:look ks r=aP fn n l site al call load)(hk:al.map (·.1)=ks)
  (k:∀J w',aZ Z w w'->(∀b,b<w.heap.size->w'.heap[b]?=w.heap[b]?)->ahead (ru fn n site (sA al) J)=call->gS (ru fn n site (sA al) J)=load->pY fn n site (sA al) (ru fn n site (sA al) J)->aH P Q Z (ru fn n site (sA al) J) l w'):aH P Q Z f l w:=by
 subst hr;refine aH.pure m fun w' R=>?_;have Y:=bt h hk;have K:=Y.call;have H:=Y.load;have D:=Y.fr;rw[Y.fr.eq]at K H;rw[Y.fr.eq]at D;rw[Y.callers,Y.fr.eq];exact k _ w' (aZ.of R) (fun b hb=>R.kept b hb (fun y=>y)) K H D
theorem aH.Mg{al ex:List (Nat×Value)}{u:Nat}{a b:Code}{k:List Item}(t:Bool)(Y:pY fn n site (sA (al++ex)) f)(H:site=.code (.cond (.tmp u) a b)::k)(D:sA (al++ex) u=some (.bool t))
  (kk:∀J w',aZ Z w w'->(∀a,a<w.heap.size->w'.heap[a]?=w.heap[a]?)->aH P Q Z (ru fn n (.code (if t then a else b)::k) (sA al) J) l w'):aH P Q Z f l w:=by
 refine aH.still (fun w2=>kj Y.mode Y.round (by rw[Y.kind];nofun) (Y.todo.trans H) (Y.slot u _ D)) fun w' g h=>?_;have K:pY fn n _ _ {f with todo:=.code (if t then a else b)::k}:=⟨Y.fn,rfl,Y.defers,Y.mode,Y.kind,Y.round,Y.size,fun i v e=>Y.slot i v (oi e)⟩;rw[K.eq];exact kk _ w' g h
end
def IE:Op->Option (List Operand)
 |.move x|.assign x|.load _ x|.fieldAddr _ x _|.extract x _|.unOp _ _ x=>some [x]
 |.binOp _ _ x y _=>some [x,y]
 |.call c=>match c.callee with
  |.value f=>some (f::c.args.toList)
  |.builtin _=>some c.args.toList
  |_=>none
 |_=>none
theorem execOp_congr{H Y:Operand->Value}{o:Oper}{l:List Operand}(h:IE o.op=some l)(e:∀x∈l,H x=Y x):execOp H o=execOp Y o:=by
 unfold execOp;generalize o.op=p at h;cases p<;>simp only[IE]at h<;>first|(cases h;done)|skip
 case call c=>
  obtain⟨K,args,ty⟩:=c;have R:∀l',(∀x∈l',H x=Y x)->l'=args.toList->args.map H=args.map Y:=fun l' I A=>ajS fun x D=>I x (by rw[A];simpa using D);cases K with
  |builtin b=>cases h;simp only[resolve,R _ e rfl]
  |value f=>cases h;simp only[resolve,R _ (fun x D=>e x (ajT _ D)) rfl,e f (by simp)]
  |invoke r n=>cases h
 all_goals(cases h;simp at e;simp only[e])
def Ym:Operand->List Nat
 |.tmp j=>[j]
 |_=>[]
def WX(ops:Array Oper):Bool:=(List.range ops.size).all fun i=>match ops[i]? with
 |some o=>(o.after.all fun e=>!ajs .any e||decide (e.on<i))&&match IE o.op with
  |some l=>l.all fun x=>(Ym x).all fun j=>(List.range ops.size).all fun m=>!(oB ops m==some j)||o.after.any fun e=>e.on==m&&ajs .any e
  |none=>false
 |none=>false
def Agr(ops:Array Oper)(listed:Array Bool)(A a:Array Value):Prop:=a.size=A.size/\∀j,(∀m,oB ops m=some j->listed.getD m false=true)->a[j]?=A[j]?
def dv(ops:Array Oper)(A:Array Value)(i:Nat):Value:=match oB ops i with
 |some j=>A.getD j undef
 |none=>undef
section
variable{tb:Bool}{Q:QT}{R:Value->World->Prop}{v:World}{fn:FuncId}{k:List Item}{a A:Array Value}{ops:Array Oper}{Inv:World->Prop}{i:Nat}
def Mh(ops:Array Oper)(i:Nat)(A a:Array Value):Prop:=a.size=A.size/\∃o l,ops[i]?=some o/\IE o.op=some l/\∀x∈l,Act.eval ⟨a,[]⟩ x=Act.eval ⟨A,[]⟩ x
theorem Mh.ex(h:Mh ops i A a):zR ops i a=zR ops i A:=by
 obtain⟨_,o,l,K,Y,e⟩:=h;simp only[zR,K,execOp_congr Y e]
theorem Mh.os(h:Mh ops i A a):(MC ops i).map (Act.eval ⟨a,[]⟩)=(MC ops i).map (Act.eval ⟨A,[]⟩):=by
 obtain⟨_,o,l,D,Y,e⟩:=h;unfold MC;rw[D];simp only[ajO];split
 ·rename_i c H;rw[Option.some.inj H]at Y;simp only[IE]at Y;refine ajS fun x R=>e x ?_;have K:x∈c.args.toList:=by simpa using R
  split at Y
  ·cases Y;exact ajT _ K
  ·cases Y;exact K
  ·cases Y
 ·simp
def Stp(tb:Bool)(Q:QT)(R:Value->World->Prop)(fn:FuncId)(k:List Item)(ops:Array Oper)(A:Array Value)(Inv:World->Prop)(i:Nat):Prop:=
 ∀is a v,Inv v->Mh ops i A a->(∀v',Inv v'->GW tb Q R fn (.inRegion ops is::k) (gj (oB ops i) (dv ops A i) a) v')->GW tb Q R fn (.inRegion ops (i::is)::k) a v
theorem Stp.pu(H:∃F,PR.funcs[fn]?=some F)(h:SG ops i A=some A):Stp tb Q R fn k ops A Inv i:=by
 intro is a v I D g;have e:=D.ex;unfold SG at h;cases U:zR ops i A with
 |none=>rw[U]at h;cases h
 |some s=>
  rw[U]at h e;simp only at h;split at h
  ·rename_i x he;refine GW.ex H e (eD he v) (.inl rfl) rfl ?_;have K:=Option.some.inj h;cases hd:oB ops i with
   |none=>have:=g v I;rw[hd]at this;exact this
   |some j=>
    have Y:=g v I;rw[hd]at K Y;simp only[gj,dv,hd]at K Y⊢;by_cases B:j<A.size
    ·have:A.getD j undef=x:=by rw[<-K];simp[aju,B]
     rw[this]at Y;exact Y
    ·rw[Array.setIfInBounds_eq_of_size_le (by rw[D.1];omega)]at Y⊢;exact Y
  ·cases h
theorem Stp.ld(Y:∃F,PR.funcs[fn]?=some F){t:TypeId}(H:∀v,Inv v->(ajj t y).run PR v=.ok x v)(h:zR ops i A=some (zG (ajj t y)):=by kernel_rfl)(I:dv ops A i=x:=by kernel_rfl):Stp tb Q R fn k ops A Inv i:=
 fun is a v K D g=>GW.vl Y (D.ex.trans h) (H v K) rfl (I▸g v K)
theorem Stp.call(H:∃F,PR.funcs[fn]?=some F){f:FuncId}(I:∀v,Inv v->aL Q f args v fun y v'=>y=x/\Inv v')(Y:(MC ops i).map (Act.eval ⟨A,[]⟩)=args:=by kernel_rfl)(h:∀t,Ms ops i t=some (f,(MC ops i).map (Act.eval ⟨t,[]⟩)):=by intro t;kernel_rfl)(D:(MC ops i).all (fI K0)=true:=by kernel_rfl)(C:dv ops A i=x:=by kernel_rfl):Stp tb Q R fn k ops A Inv i:=
 fun is a v B U g=>GW.call H (I v B) (fun y v' K=>by rw[K.1,<-C];exact g v' K.2) (U.os.trans Y) h D
theorem GW.S8{md:aj3}(I:Nat->Array Bool->Array Value->World->Prop)
  (H:∀listed i fuel t a v,I (fuel+1) listed a v->i∈Region.ready md ops listed->(∀a' v',I fuel (listed.setIfInBounds i true) a' v'->GW tb Q R fn (.inRegion ops (Region.linearise.go md ops fuel t (listed.setIfInBounds i true) [])::k) a' v')->GW tb Q R fn (.inRegion ops (i::Region.linearise.go md ops fuel t (listed.setIfInBounds i true) [])::k) a v)
  (Y:∀fuel listed a v,I fuel listed a v->fuel=0\/Region.ready md ops listed=[]->GW tb Q R fn (.inRegion ops []::k) a v):
  ∀fuel t listed a v,I fuel listed a v->GW tb Q R fn (.inRegion ops (Region.linearise.go md ops fuel t listed [])::k) a v:=by
 intro fuel;induction fuel with
 |zero=>intro t listed a v h;exact Y 0 listed a v h (.inl rfl)
 |succ fuel U=>
  intro t listed a v h;simp only[Region.linearise.go];change GW tb Q R fn (.inRegion ops (match(Region.ready md ops listed)[t%(Region.ready md ops listed).length]? with
   |some i=>Region.linearise.go md ops fuel (t/(Region.ready md ops listed).length) (listed.setIfInBounds i true) [i]
   |none=>[].reverse)::k) a v
  cases D:(Region.ready md ops listed)[t%(Region.ready md ops listed).length]? with
  |none=>
   have K:Region.ready md ops listed=[]:=by
    cases hr:Region.ready md ops listed with
    |nil=>rfl
    |cons x xs=>
     rw[hr]at D;have A:t%(x::xs).length<(x::xs).length:=Nat.mod_lt _ (by simp);simp at D;simp at A;omega
   exact Y (fuel+1) listed a v h (.inr K)
  |some i=>
   simp only[];rw[linearise_go_acc,ajx,ajD];exact H listed i fuel _ a v h (ajF D) fun a' v' h'=>U _ _ a' v' h'
theorem Mi(h:Agr ops listed A a){x:Operand}(Y:∀j∈Ym x,∀m,oB ops m=some j->listed.getD m false=true):Act.eval ⟨a,[]⟩ x=Act.eval ⟨A,[]⟩ x:=by
 cases x with
 |tmp j=>
  have:=h.2 j (Y j (by simp[Ym]));show a.getD j undef=A.getD j undef
  simp only[ajH,this]
 |_=>rfl
theorem getD_set_ne{l:Array Bool}{i:Nat}(h:m≠i):(l.setIfInBounds i true).getD m false=l.getD m false:=by
 simp only[ajH,ajl,if_neg (Ne.symm h)]
theorem Qs(h:oB ops m=some j):m<ops.size:=by
 unfold oB at h;cases e:ops[m]? with
 |none=>rw[e]at h;cases h
 |some o=>exact(ajq.1 e).1
def WY(ops:Array Oper)(A:Array Value):Nat->Array Value->Array Value
 |0,a=>a
 |m+1,a=>gj (oB ops m) (dv ops A m) (WY ops A m a)
theorem S9(n:Nat)(h:∀m,oB ops m≠some j):(WY ops A n a)[j]?=a[j]?/\(WY ops A n a).size=a.size:=by
 induction n with
 |zero=>exact⟨rfl,rfl⟩
 |succ n Y=>
  unfold WY gj;cases hd:oB ops n with
  |none=>exact Y
  |some d=>simp only[ajl,Array.size_setIfInBounds];rw[if_neg (by rintro rfl;exact h n hd)];exact Y
theorem GW.S_{id:Nat}(Inv:World->Prop)(T:Inv v)(L:List Nat)(hM:∀i,i<ops.size->i∉L->Stp tb Q R fn k ops A Inv i)(g:∀v',Inv v'->GW tb Q R fn (.inRegion ops []::k) A v')(G:∃F,PR.funcs[fn]?=some F)
  (hL:L.map (fun i=>SG ops i A)=L.map (fun _=>some A):=by kernel_rfl)(hB:WX ops=true:=by kernel_rfl)(hA:WY ops A ops.size a=A:=by kernel_rfl)(W:a.size=A.size:=by kernel_rfl):GW tb Q R fn (.code (.region id ops true)::k) a v:=by
 have st:∀i,i<ops.size->Stp tb Q R fn k ops A Inv i:=fun i I=>by
  by_cases h:i∈L
  ·exact .pu G (jF hL h)
  ·exact hM i I h
 have O:∀i,i<ops.size->∃o l,ops[i]?=some o/\(∀e∈o.after,ajs .any e=true->e.on<i)/\IE o.op=some l/\∀x∈l,∀j∈Ym x,∀m,oB ops m=some j->∃e∈o.after,e.on=m/\ajs .any e=true:=by
  intro i I;have h:=ajh.1 hB i (ajR.2 I);split at h
  ·rename_i o C;simp only[ajB]at h;obtain⟨M,B⟩:=h;split at B
   ·rename_i l V;refine⟨o,l,C,fun e he hb=>by simpa[hb]using ajn.1 M e he,V,fun x q j U m hm=>?_⟩;have N:=ajh.1 (ajh.1 (ajh.1 B x q) j U) m (ajR.2 (Qs hm));rw[hm]at N;simp only[beq_self_eq_true,Bool.not_true,Bool.false_or]at N;obtain⟨e,he,f⟩:=Array.any_eq_true'.1 N;simp only[ajB,beq_iff_eq]at f;exact⟨e,he,f⟩
   ·cases B
  ·cases h
 have Yk:∀(listed:Array Bool) i,i∈Region.ready .any ops listed↔i<ops.size/\listed.getD i true=false/\∃o,ops[i]?=some o/\∀e∈o.after,ajs .any e=true->listed.getD e.on false=true:=by
  intro listed i;unfold Region.ready;simp only[List.mem_filter,ajR,ajB,aj2];refine and_congr_right fun I=>and_congr_right fun _=>?_;rw[ajc I];simp only[ajO,ajC,aj0,exists_eq_left',ajn];refine forall_congr' fun e=>forall_congr' fun he=>?_;cases ajs .any e<;>simp
 refine GW.draw fun t=>GW.S8 (fun fuel listed a v=>listed.size=ops.size/\listed.toList.countP (fun b=>!b)<=fuel/\Agr ops listed A a/\Inv v) ?_ ?_ _ t _ a v ⟨by simp,?_,⟨W,?_⟩,T⟩
 ·rintro listed i fuel t a v ⟨c,z2,ag,T⟩ I s;obtain⟨M,B,o,C,N⟩:=(Yk listed i).1 I;obtain⟨o',l,Z,_,V,q⟩:=O i M;obtain rfl:=Option.some.inj (C.symm.trans Z);refine st i M _ a v T ⟨ag.1,o,l,C,V,fun x z=>Mi ag fun j U m hm=>?_⟩ fun v' E=>s _ v' ⟨by simpa using c,?_,?_,E⟩
  ·obtain⟨e,he,rfl,hb⟩:=q x z j U m hm;exact N e he hb
  ·have Y:i<listed.toList.length:=by simpa[c]using M
   have hb:listed.toList[i]=false:=by
    have:listed.getD i true=listed[i]'(by simpa using Y):=by simp[aju,show i<listed.size by simpa using Y]
    rw[this]at B;simpa using B
   have u:0<listed.toList.countP (fun b=>!b):=List.countP_pos_iff.2 ⟨_,aj7 Y,by rw[hb];rfl⟩;rw[Array.toList_setIfInBounds,List.countP_set Y,hb];show listed.toList.countP (fun b=>!b)-1+0<=fuel
   omega
  ·refine⟨by rw[<-ag.1];unfold gj;split<;>simp,fun j U=>?_⟩;have other:oB ops i≠some j->a[j]?=A[j]?:=fun X=>ag.2 j fun m hm=>by
    have:=U m hm
    rwa [getD_set_ne (by rintro rfl;exact X hm)]at this
   unfold gj dv;cases hd:oB ops i with
   |none=>exact other (by rw[hd];simp)
   |some d=>
    simp only;by_cases D:d=j
    ·subst D;rw[ajl,if_pos rfl];by_cases K:d<a.size
     ·rw[if_pos K,ajc (by rw[<-ag.1];exact K)];simp[aju,show d<A.size by rw[<-ag.1];exact K]
     ·rw[if_neg K,ajw (by rw[<-ag.1];omega)]
    ·rw[ajl,if_neg D];exact other (by rw[hd];simpa using D)
 ·rintro fuel listed a v ⟨c,z2,ag,T⟩ S;have all:∀m,m<ops.size->listed.getD m false=true:=by
   rcases S with J|J
   ·subst J;have J:=List.countP_eq_zero.1 (Nat.le_zero.1 z2);intro m hm;have H:m<listed.size:=by omega
    have:=J listed[m] (by simp);simp[aju,H];simpa using this
   ·intro m;induction m using Nat.strongRecOn with
    |ind m r=>
     intro hm;have H:m<listed.size:=by omega
     cases hb:listed[m]with
     |true=>simp[aju,H,hb]
     |false=>
      exfalso;obtain⟨o,l,C,P,_,_⟩:=O m hm;have:m∈Region.ready .any ops listed:=(Yk listed m).2 ⟨hm,by simp[aju,H,hb],o,C,fun e he hb=>r e.on (P e he hb) (by have:=P e he hb;omega)⟩;rw[J]at this;cases this
  have:a=A:=by
   apply Array.ext_getElem?;intro j;exact ag.2 j fun m hm=>all m (Qs hm)
  rw[this];exact g v T
 ·have:=List.countP_le_length (p:=fun b=>!b) (l:=(ajm ops.size false).toList);simpa using this
 ·intro j U;have:=(S9 (ops:=ops) (A:=A) (a:=a) ops.size (j:=j) fun m e=>by
   have:=U m e;simp[aju]at this).1
  rwa [hA,eq_comm]at this
end
section
variable{Q:QT}{R:Value->World->Prop}{v:World}{fn:FuncId}{k:List Item}{a:Array Value}
theorem GW.abl(Y:∃F,PR.funcs[fn]?=some F)(x y:Nat)(hr:R (.tuple #[a.getD x undef,a.getD y undef]) v)(h:∀t c cs,aQ PR 2 ((bf fn).at ⟨t,[]⟩ (.code .ret::k)) (c::cs)=(c.finish (.tuple #[t.getD x undef,t.getD y undef]),cs):=by intro t c cs;kernel_rfl):GW false Q R fn (.code .ret::k) a v:=by
 intro r Z w t l H D K I;obtain⟨c,cs,rfl⟩:=sI H;refine aH.pure 2 fun w' hk=>?_;rw[h];have ev:∀n:Nat,@V gv r (a.getD n undef) (t.getD n undef):=fun n=>na Y D K.gi (x:=.tmp n) trivial;refine I r Z _ _ v w' (fun _ _ e=>e) ?_ (K.quiet hk) (.qt hk) hr
 letI:=gv
 refine .tuple rfl fun i p p' e e'=>?_;have A:i<2:=by
  have:=(ajq.1 e).1;simpa using this
 have:i=0\/i=1:=by omega
 rcases this with rfl|rfl<;>cases e<;>cases e'<;>exact ev _
end
theorem aL.mono{Q:QT}{R H:Value->World->Prop}{f:FuncId}(g:aL Q f args v R)(h:∀x v',R x v'->H x v'):aL Q f args v H:=
 fun r Z w Y c cs C B F=>g r Z w Y c cs C B fun r' Z' x x' v' w' K D I A U=>F r' Z' x x' v' w' K D I A (h _ _ U)
def lb(c:Int)(n:Nat):Int:=ajP.wrap (1+(cD c n:Nat))
theorem Ta{c:Int}(h:0<n)(Y:n<=1000):lb c n=1+(cD c n:Nat):=by
 have:=jL c h;unfold lb;rw[Go.IntWalk.i64_in _ (by omega)]
theorem qU{Q:QT}{c:Int}(D:du c)(Y:1<=n)(H:n<=1000)(K:Kw v1 v):aL Q 19 #[i6 c,i6 n] v fun y v'=>y=i6 (cD c n:Nat)/\Kw v1 v':=
 aL.bN (R:=fun y v'=>y=i6 (cD c n:Nat)/\Kw v1 v') (by decide) fun T=>(Lw c n (tp v T) D Y H).mono fun e w' h=>⟨_,h.1,rfl,by rw[h.2];exact K⟩
noncomputable def TP:Code:=Tryz.f22.body.getD .skip
theorem WZ:Tryz.f22.body=some TP:=by kernel_rfl
def kmR:Array Oper:=opsOf (cp [2,1] TP)
theorem Mj:kmR.size=23:=by kernel_rfl
def slK(ref reads:ByteArray)(k q s wk:Int)(B:Nat)(S:ByteArray)(E P:Int):Array Value:=
 #[.string ref,.string reads,i6 k,.agg #[i6 q,i6 s,i6 wk],undef,undef,undef,ptr B,.string ⟨#[]⟩,i6 0,.string S,i6 E,i6 P,.tuple #[.string S,i6 E,i6 P],.string ref,.string reads,i6 k,
  IX B 0,i6 q,i6 (cD q 8:Nat),i6 (lb q 8),IX B 1,i6 s,i6 (cD s 200:Nat),i6 (lb s 200),IX B 2,i6 wk,i6 (cD wk 8:Nat),i6 (lb wk 8),.tuple #[.string S,i6 E,i6 P],.string S,i6 E,i6 P,undef,undef]
section
variable{Q:QT}{v:World}{ref reads:ByteArray}{k q s wk:Int}
theorem Ck(D:ref.size<=maxLen)(I:reads.size<=maxLen)(C:du q)(M:du s)(hw:du wk)(H:iR v)(U:bu v):
  aL Q 22 #[.string ref,.string reads,i6 k,.agg #[i6 q,i6 s,i6 wk]] v fun x v'=>x=.tuple #[.string (ot ref reads k (lb q 8) (lb s 200) (lb wk 8)),i6 (jq ref reads k (lb q 8) (lb s 200) (lb wk 8))]/\Kw v v':=by
 have Y:∃F,PR.funcs[22]?=some F:=⟨_,Tryz.func22⟩;refine aL.of (n:=35) Tryz.func22 WZ (by kernel_rfl) ?_;refine GW.run 2 (k':=[.inRegion (opsOf (cp [1] TP)) [0,1,2],.code (cp [2] TP)]) ?_;refine GW.bx Y (t:=28) (y:=.agg #[i6 q,i6 s,i6 wk]) fun v1 k1 l1 c1=>?_;replace c1:v1.heap[v.heap.size]?=some (.cells #[i6 q,i6 s,i6 wk] 28):=c1;refine GW.fh Y [1,2] ?_;refine GW.run 2 (k':=[.code (.region 1 kmR true),.code (cp [2,2] TP)]) ?_;refine GW.S_ (A:=slK ref reads k q s wk v.heap.size (ot ref reads k (lb q 8) (lb s 200) (lb wk 8)) (jq ref reads k (lb q 8) (lb s 200) (lb wk 8)) (BO ref reads)) (Kw v1) (.refl v1) [0,1,2,3,6,7,10,11,14,16,17,18,19,20,21,22] ?_ ?_ Y
 ·intro i R B;rw[Mj]at R;have:i=4\/i=8\/i=12\/i=5\/i=9\/i=13\/i=15:=by simp at B;omega
  rcases this with rfl|rfl|rfl|rfl|rfl|rfl|rfl
  ·exact .ld Y fun u K=>wY 0 K_ (K.at c1) rfl
  ·exact .ld Y fun u K=>wY 1 K_ (K.at c1) rfl
  ·exact .ld Y fun u K=>wY 2 K_ (K.at c1) rfl
  ·exact .call Y fun u K=>qU (n:=8) C (by omega) (by omega) K
  ·exact .call Y fun u K=>qU (n:=200) M (by omega) (by omega) K
  ·exact .call Y fun u K=>qU (n:=8) hw (by omega) (by omega) K
  ·exact .call Y fun u K=>aL.mono (Mf (k:=k) (q:=lb q 8) (st:=lb s 200) (wk:=lb wk 8) D I ((k1.trans K).tabs H) ((k1.trans K).mh H U)) fun y v' h=>⟨h.1,K.trans h.2⟩
 ·intro v2 K;refine GW.run 3 (k':=[.inRegion (opsOf (cp [2,2,1] TP)) [0,1,2,3],.code .ret]) ?_;refine GW.fh Y [0,1,2,3] ?_;refine GW.run 1 (k':=[.code .ret]) ?_;exact GW.abl Y 8 9 ⟨by kernel_rfl,k1.trans K⟩
end
noncomputable def MF:Code:=aj_.body.getD .skip
theorem W3:aj_.body=some MF:=by kernel_rfl
def slW(S T:ByteArray)(p q:Int)(u:Nat->Value):Array Value:=
 #[.bool false,.string S,i6 0,i6 p,.string T,i6 0,i6 q,u 7,u 8,u 9,u 10,u 11,u 12,u 13,u 14,u 15,u 16,u 17,u 18,u 19,u 20,u 21,u 22,u 23,u 24,u 25,u 26,u 27,u 28,u 29,u 30,u 31,u 32]
section
variable{Q:QT}{v:World}
theorem W4{p q:Int}(K:Kw v w):(cp [2,2,2] MF).wp PR (bodyPost PR aj_ fun e v'=>∃x,e=.returned x/\x=.bool true/\Kw v v') ⟨slW exS exT p q u,[]⟩ w:=by
 unfold MF aj_ slW;simp only[ajC,cp];go_wp2
 go_ret
 exact⟨_,rfl,rfl,K⟩
theorem O_(H:iR v)(D:bu v):aL Q 16 #[] v fun x v'=>x=.bool true/\Kw v v':=by
 have Y:∃F,PR.funcs[16]?=some F:=⟨_,aj5⟩;refine aL.of (n:=33) aj5 W3 (by kernel_rfl) ?_;refine GW.run 2 (k':=[.inRegion (opsOf (cp [1] MF)) [0],.code (cp [2] MF)]) ?_;refine GW.fh Y [0] ?_;refine GW.run 3 (k':=[.inRegion (opsOf (cp [2,1] MF)) [0,1,2,3,4,5,6,7],.code (cp [2,2] MF)]) ?_;refine GW.call Y (Mf (ref:=Qk) (reads:=Ye) (k:=0) (q:=2) (st:=4) (wk:=3) (by decide) (by decide) H D) ?_;rintro x v1 ⟨rfl,k1⟩;refine GW.fh Y [1,2,3,4,5,6,7] ?_;refine GW.run 3 (k':=[.inRegion (opsOf (cp [2,2,1] MF)) [0,1,2,3,4,5,6,7],.code (cp [2,2,2] MF)]) ?_;refine GW.call Y (Mf (ref:=Qk) (reads:=OC) (k:=1) (q:=1) (st:=3) (wk:=2) (by decide) (by decide) (k1.tabs H) (k1.mh H D)) ?_;rintro x v2 ⟨rfl,K⟩;refine GW.fh Y [1,2,3,4,5,6,7] ?_;refine GW.run 1 (k':=[.code (cp [2,2,2] MF)]) ?_;rw[aax,Wj,aay,Wk];refine GW.any (fun u=>slW exS exT (BO Qk Ye) (BO Qk OC) u) (by kernel_rfl) fun u=>?_;exact GW.rest aj5 (by kernel_rfl) fun T=>W4 (k1.trans K)
end
end Ph
end
end Go.Proofs.YtdcjnhipenbcfaaGreatDoor
