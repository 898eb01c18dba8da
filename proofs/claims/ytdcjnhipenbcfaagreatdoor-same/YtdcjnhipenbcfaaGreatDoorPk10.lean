/-
  Own text. Part 10 of what the claim rests on.
-/
import Derived.Test.YtdcjnhipenbcfaaGreatDoorPk9
import Derived.Conc.HoldsTime
import Derived.ProofKit
import Derived.OpenShut
import Derived.ShutString
import Derived.ChangeOld
import Derived.Deep.Slices
set_option linter.unusedVariables false
set_option linter.unusedSectionVars false
set_option linter.unusedSimpArgs false
set_option maxRecDepth 100000
set_option maxHeartbeats 16000000
open Array renaming mem_of_getElem?->akn
open Go.DataW renaming trod_int->ako,Trod->akw,trod->akx
open Go.Lib renaming tabData->akm
open Go.OpenSpec renaming ofChange->aki
open Go.Proofs.Tryz renaming underlying3->akf,underlying25->akr,underlying28->aks,underlying5->aku
open Go.Proofs.YtdcjnhipenbcfaaGreatDoor.Ph.aH renaming aM->akq
open Go.Value renaming okWide->akk,cells->akt
open Go.World renaming cell?->akg
open List renaming mem_cons->akh,length_cons->akl,not_mem_nil->akv,length_nil->aky
open Nat renaming le_trans->ake,lt_of_lt_of_le->akp
open Option renaming getD_some->akj
namespace Go.Proofs.YtdcjnhipenbcfaaGreatDoor
noncomputable section
variable {args:Array Value}{main:Bool}{S s:ByteArray}{f fn:FuncId}{E q:Int}{cs:List Frame}{site:List Item}{Z:Loc->Prop}{g:Nat}{a:Option Addr}{e:TypeId}{v1 w0:World}
namespace Ph
open Conc Ren RowKit
def yh(f:FuncId)(args:Array Value)(y:Value):Prop:=∀(Qq:QT) (Z:Loc->Prop) (w:World) (c:Frame) (cs:List Frame),PR.globals.size<=w.heap.size->iR w->bu w->(∀g,g=0\/g=2\/g=3->jl Z g)->
 (∀Z' w',(∀l,Z l->Z' l)->(∀l,Z' l->Z l\/∃a:Addr,l=.cell a/\w.heap.size<=a.block)->aZ Z w w'->aH PR Qq Z' (c.finish y) cs w')->aH PR Qq Z (Frame.enter PR f args .normal) (c::cs) w
theorem zK{y:Value}(hb:args.all (fH 3)=true)(S:rW 1 y=true)(h:∀Q v,iR v->bu v->aL Q f args v fun x v'=>x=y/\Kw v v'):yh f args y:=by
 intro Qq Z w c cs D A H B V
 letI:=gv
 obtain⟨K,R⟩:∃K:Nat->Prop,∀a,K a↔(a=0\/a=2\/a=3):=⟨_,fun _=>Iff.rfl⟩;have I:GI (jD K):=fun g N=>gu ((R g).2 (by
  have:([0,2,3].contains g)=true:=N;simpa using this))
 have C:∀b,¬aj.ro b:=fun b h=>h;have U:W (jD K) 0 w w:=Dc C D fun b hb=>by
  obtain⟨X,t,fz,h,O⟩:=A b ((R b).1 hb);exact⟨_,h,yL _ _ fun x P=>by obtain⟨k,n,rfl⟩:=O x P;exact .int _ _⟩
 refine h Qq w A H (jD K) Z w args c cs ⟨rfl,fun i z G e e'=>?_⟩ ⟨U,I,fun a y=>B a ((R a).1 (mD.1 y))⟩ fun r' Z' x x' v' w' E J L Y M=>?_
 ·obtain rfl:=Option.some.inj (e.symm.trans e');exact iK (Array.all_eq_true_iff_forall_mem.1 hb _ (akn e))
 ·obtain⟨rfl,hk⟩:=M;obtain rfl:=Cd S J;refine V Z' w' Y.more Y.only ⟨fun a F T=>?_,Y.ke.grow,Y.ke.tape,Y.ke.env,Y.ke.output⟩;by_cases y:K a
  ·exact(L.tabs (Kw.tabs hk A) a ((R a).1 y)).trans (hk a F)
  ·exact Y.kept a F (fun z=>y (mD.1 z)) T
theorem Cl:yh 16 #[] (.bool true):=zK (by kernel_rfl) rfl fun Q v Y K=>O_ Y K
theorem Pa{c:Int}{n:Nat}(D:du c)(Y:1<=n)(K:n<=1000):yh 19 #[ii c,ii n] (ii (cD c n:Nat)):=zK (by kernel_rfl) rfl fun Q v _ _=>qU D Y K (.refl v)
abbrev mJ(site:List Item)(al:List (Nat×Value))(J:Nat->Value):Frame:=ru 18 35 site (sA al) J
def mb(sl:Value)(m i:Int)(s:ByteArray):List (Nat×Value):=[(0,sl),(1,ii m),(5,.string s),(6,ii i)]
def zm:List (Nat×Value):=mb (.slice none 0 0) 0 0 ⟨#[]⟩
abbrev uV:Nat->Value:=fun _=>undef
def mH:List Item:=(aQ PR 22 (Frame.enter PR 18 #[.slice none 0 0,ii 0] .normal) []).1.todo
abbrev mgS (site:List Item) (al:List (Nat×Value)):List Item:=(aY PR 60 (mJ site al uV) []).1.todo
abbrev msS (site:List Item) (al:List (Nat×Value)) (v:Value):List Item:=(aY PR 60 ((mJ site al uV).finish v) []).1.todo
def mC:List Item:=mgS mH (zm++[(11,.bool false)])
def Pb:List Item->Code
 |.code (.cond _ a _)::_=>a
 |_=>.skip
def IF:List Item->Code
 |.code (.cond _ _ b)::_=>b
 |_=>.skip
def mI:List Item:=mgS (.code (Pb mC)::mC.tail) zm
def Yn(m:List (Nat×Value))(sl:Value)(i:Int):List (Nat×Value):=m++[(19,sl),(20,ii i)]
def mL:List Item:=msS mI (Yn zm (.slice none 0 0) 0) (ptr 0)
def mbL(m:List (Nat×Value))(p:Addr):List (Nat×Value):=m++[(21,.pointer (some p))]
def mP:List Item:=msS mL (mbL zm ⟨0,0,none⟩) (ii 0)
def W5(m:List (Nat×Value))(z:Int):List (Nat×Value):=m++[(22,ii z)]
def bsN(v:Nat):UInt8:=if v=24 then 78 else [65,67,71,84].getD (v%4) 0
section
variable{m i z:Int}{s:ByteArray}{a:Option Addr}{len cap:Nat}{p:Addr}{J:Nat->Value}{l:List Frame}{c:Frame}{t:Bool}
abbrev ms(a:Option Addr)(len cap:Nat)(m i:Int)(s:ByteArray):List (Nat×Value):=mb (.slice a len cap) m i s
theorem mt0:look [0,1,5,6,11] (aQ PR 22 (Frame.enter PR 18 #[.slice a len cap,ii m] .normal) l)=aP 18 35 l mH (ms a len cap m 0 ⟨#[]⟩++[(11,.bool (decide ((0:Int)<(len:Int))))]) none none:=by kernel_rfl
theorem mt1:look [0,1,5,6,16] (aY PR 60 (mJ mH (ms a len cap m i s++[(11,.bool true)]) J) l)=aP 18 35 l mC (ms a len cap m i s++[(16,.bool (decide (i<m)))]) none none:=by kernel_rfl
theorem mt2:look [0,1,5,6,16] (aY PR 60 (mJ mH (ms a len cap m i s++[(11,.bool false)]) J) l)=aP 18 35 l mC (ms a len cap m i s++[(16,.bool false)]) none none:=by kernel_rfl
theorem Mk:mC=.code (.cond (.tmp 16) (Pb mC) (IF mC))::mC.tail:=by kernel_rfl
theorem mt3:look [0,1,5,6,19,20] (aY PR 60 (mJ (.code (Pb mC)::mC.tail) (ms a len cap m i s) J) l)=aP 18 35 l mI (Yn (ms a len cap m i s) (.slice a len cap) i) none none:=by kernel_rfl
theorem Tb:(opAt (mJ mI (Yn (ms a len cap m i s) (.slice a len cap) i) J)).map (fun o=>o.op)=some (.indexAddr 25 (.tmp 19) (.tmp 20)):=by kernel_rfl
theorem mt4:look [0,1,5,6,21] (aY PR 60 ((mJ mI (Yn (ms a len cap m i s) (.slice a len cap) i) J).finish (.pointer (some p))) l)=aP 18 35 l mL (mbL (ms a len cap m i s) p) none (some (3,.pointer (some p))):=by kernel_rfl
theorem mt5:look [0,1,5,6,22] (aY PR 60 ((mJ mL (mbL (ms a len cap m i s) p) J).finish (ii z)) l)=aP 18 35 l mP (W5 (ms a len cap m i s) z) (some (19,#[ii z,ii 25])) none:=by kernel_rfl
theorem Tc:aQ PR 1 (mJ mP (W5 (ms a len cap m i s) z) J) l=(Frame.enter PR 19 #[ii z,ii 25] .normal,mJ mP (W5 (ms a len cap m i s) z) J::l):=by kernel_rfl
def mA:List Item:=(aQ PR 18 ((mJ mP (W5 zm 0) uV).finish (ii 24)) []).1.todo
def mbA(m:List (Nat×Value))(s t:ByteArray):List (Nat×Value):=m++[(28,.string s),(32,.string t)]
theorem mt6{v:Nat}(Y:v<25):look [0,1,5,6,28,32] (aQ PR (if v=24 then 18 else 20) ((mJ mP (W5 (ms a len cap m i s) z) J).finish (ii v)) l)=aP 18 35 l mA (mbA (ms a len cap m i s) s ⟨#[bsN v]⟩) none none:=by
 have:v=0\/v=1\/v=2\/v=3\/v=4\/v=5\/v=6\/v=7\/v=8\/v=9\/v=10\/v=11\/v=12\/v=13\/v=14\/v=15\/v=16\/v=17\/v=18\/v=19\/v=20\/v=21\/v=22\/v=23\/v=24:=by omega
 rcases this with rfl|rfl|rfl|rfl|rfl|rfl|rfl|rfl|rfl|rfl|rfl|rfl|rfl|rfl|rfl|rfl|rfl|rfl|rfl|rfl|rfl|rfl|rfl|rfl|rfl<;>(show _=_;kernel_rfl)
theorem Td{r:ByteArray}:(opAt (mJ mA (mbA (ms a len cap m i s) s r) J)).map (fun o=>o.op)=some (.binOp .add 9 (.tmp 28) (.tmp 32) 9):=by kernel_rfl
theorem mt8{r u:ByteArray}:look [0,1,5,6,11] (aQ PR 16 ((mJ mA (mbA (ms a len cap m i s) s r) J).finish (.string u)) l)=aP 18 35 l mH (ms a len cap m (IntKind.i64.wrap (i+1)) u++[(11,.bool (decide (IntKind.i64.wrap (i+1)<(len:Int))))]) none none:=by kernel_rfl
theorem mt7:aQ PR 8 (mJ (.code (IF mC)::mC.tail) (ms a len cap m i s) J) (c::l)=(c.finish (.string s),l):=by kernel_rfl
end
theorem IG:(PR.funcs[18]?).any (·.norace)=false:=by kernel_rfl
theorem W6:PR.underlying 25=some (.slice (PR.elem 25)):=by kernel_rfl
theorem Te:(PR.info? (PR.elem 25)).map (·.size)=some 1:=by kernel_rfl
theorem pP{f:Frame}{x y:Operand}(h:(opAt f).map (fun o=>o.op)=some (.binOp .add 9 x y 9)){t:ByteArray}(Y:f.eval x=.string s)(K:f.eval y=.string t)(D:s.size+t.size<=100000000)(w:World):
  stepG PR main (G f cs) w=.go (G (f.finish (.string (s++t))) cs) w #[]:=by
 obtain⟨op,H,aM⟩:=ny h;have hr:(execOp f.eval op).run PR w=.ok (.value (.string (s++t))) w:=by
  unfold execOp;simp only[aM,Y,K];simp[go_sem,run_string_add_sum (P:=PR) (w:=w) s t (by omega)]
 have he:(execOp f.eval op).events PR w #[]=#[]:=by
  unfold execOp;simp only[aM,Y,K];simp[go_sem,Op.stringOp]
 rw[bG H hr,he,seen_none]
theorem aZ.on{Z0:Loc->Prop}{D R:World}(only:∀l,Z l->Z0 l\/∃a:Addr,l=.cell a/\w0.heap.size<=a.block)(Y:aZ Z0 w0 D)(gb:aZ Z D R):aZ Z0 w0 R:=
 ⟨fun a K H=>(gb.old a (akp K Y.grow) (gD only H K)).trans (Y.old a K H),ake Y.grow gb.grow,gb.tape.trans Y.tape,gb.env.trans Y.env,gb.output.trans Y.output⟩
structure Here(Z0:Loc->Prop)(w0:World):Prop where
 low:PR.globals.size<=w0.heap.size
 tabs:iR w0
 jF:bu w0
 off:∀b,b<w0.heap.size->jl Z0 b
theorem Here.gl{Z0:Loc->Prop}(h:Here Z0 w0)(Y:g=0\/g=2\/g=3):g<w0.heap.size:=by
 obtain⟨_,_,_,e,_⟩:=h.tabs g Y;exact ax e
theorem Here.call{Z0:Loc->Prop}{w:World}{y:Value}{Qq:QT}{c:Frame}(h:Here Z0 w0)(r:yh f args y)(more:∀l,Z0 l->Z l)(only:∀l,Z l->Z0 l\/∃a:Addr,l=.cell a/\w0.heap.size<=a.block)(g:aZ Z0 w0 w)
  (k:∀Z' w',(∀l,Z0 l->Z' l)->(∀l,Z' l->Z0 l\/∃a:Addr,l=.cell a/\w0.heap.size<=a.block)->aZ Z0 w0 w'->aH PR Qq Z' (c.finish y) cs w'):aH PR Qq Z (Frame.enter PR f args .normal) (c::cs) w:=by
 have Y:∀g,g=0\/g=2\/g=3->w.heap[g]?=w0.heap[g]?:=fun b hb=>g.old b (h.gl hb) (h.off b (h.gl hb));refine r Qq Z w c cs (ake h.low g.grow) (h.tabs.same Y) (iS h.jF (Y 0 (.inl rfl))) (fun b hb=>gD only (h.off b (h.gl hb)) (h.gl hb)) fun Z' w' m o K=>?_;exact k Z' w' (fun l y=>m l (more l y)) (fun l y=>(o l y).elim (only l) fun⟨a,e,q⟩=>.inr ⟨a,e,ake g.grow q⟩) (g.on only K)
section
variable{Qq:QT}{Z0:Loc->Prop}{w0:World}{c:Frame}{cs:List Frame}{b off len cap most:Nat}{zs:Nat->Int}
theorem IH(C:most<=60)(U:∀i,i<len->w0.cell? ⟨b,off+i,none⟩=some (ii (zs i))/\du (zs i))(H:Here Z0 w0)
  (kk:∀Z' w',(∀l,Z0 l->Z' l)->(∀l,Z' l->Z0 l\/∃a:Addr,l=.cell a/\w0.heap.size<=a.block)->aZ Z0 w0 w'->aH PR Qq Z' (c.finish (.string (str (bB zs (min len most))))) cs w'):
  ∀n i,i+n=min len most->∀Z J w,(∀l,Z0 l->Z l)->(∀l,Z l->Z0 l\/∃a:Addr,l=.cell a/\w0.heap.size<=a.block)->aZ Z0 w0 w->aH PR Qq Z (mJ mH (ms (some ⟨b,off,none⟩) len cap most i (str (bB zs i))++[(11,.bool (decide ((i:Int)<(len:Int))))]) J) (c::cs) w:=by
 intro n;induction n with
 |zero=>
  intro i W Z J w more only G;have fin:∀f w1,pY 18 35 mC (sA (ms (some ⟨b,off,none⟩) len cap most i (str (bB zs i))++[(16,.bool false)])) f->aZ Z0 w0 w1->aH PR Qq Z f (c::cs) w1:=by
   intro f w1 E P;refine aH.Mg false E Mk rfl fun J w2 g2 _=>?_;refine aH.pure 8 fun w3 d=>?_;change aH PR Qq Z (aQ PR 8 (mJ (.code (IF mC)::mC.tail) (ms (some ⟨b,off,none⟩) len cap most i (str (bB zs i))) J) (c::cs)).1 (aQ PR 8 (mJ (.code (IF mC)::mC.tail) (ms (some ⟨b,off,none⟩) len cap most i (str (bB zs i))) J) (c::cs)).2 w3;rw[mt7];obtain rfl:i=min len most:=by omega
   exact kk Z w3 more only ((P.on only g2).on only (aZ.of d))
  by_cases h:i<len
  ·rw[show decide ((i:Int)<(len:Int))=true from decide_eq_true (by omega)];refine akq 60 _ rfl mt1 rfl fun M w1 g1 _ _ _ Y=>?_;rw[show decide ((i:Int)<(most:Int))=false from decide_eq_false (by omega)]at Y⊢;exact fin _ w1 Y (G.on only g1)
  ·rw[show decide ((i:Int)<(len:Int))=false from decide_eq_false (by omega)];refine akq 60 _ rfl mt2 rfl fun M w1 g1 _ _ _ Y=>?_;exact fin _ w1 Y (G.on only g1)
 |succ n z=>
  intro i W Z J w more only G;have R:i<len:=by omega
  have q:i<most:=by omega
  obtain⟨I,j⟩:=U i R;have A:b<w0.heap.size:=block_lt_of_cell I;rw[show decide ((i:Int)<(len:Int))=true from decide_eq_true (by omega)];refine akq 60 _ rfl mt1 rfl fun M w1 g1 _ _ _ Y=>?_;refine aH.Mg (decide ((i:Int)<(most:Int))) Y Mk rfl fun S w2 g2 _=>?_;rw[show decide ((i:Int)<(most:Int))=true from decide_eq_true (by omega)];change aH PR Qq Z (mJ (.code (Pb mC)::mC.tail) (ms (some ⟨b,off,none⟩) len cap most i (str (bB zs i))) S) (c::cs) w2;refine akq 60 _ rfl mt3 rfl fun r w3 g3 _ _ _ K=>?_;refine aH.still (fun w4=>L6 Tb (K.slot 19 _ rfl) (K.slot 20 _ rfl) R W6 Te w4) fun w4 g4 _=>?_;refine akq 60 _ rfl mt4 rfl fun s o g5 _ _ F _=>?_;have L:=G.on only ((((g1.trans g2).trans g3).trans g4).trans g5);have B:o.cell? ⟨b,off+i *1,none⟩=some (ii (zs i)):=by
   rw[Nat.mul_one,<-I];simp only[akg,L.old b A (H.off b A)]
  refine aH.read (a:=⟨b,off+i *1,none⟩) (fun w' I=>dL F K_ I IG) B (gD only (H.off b A) A) fun x g6=>?_;refine akq 60 _ rfl mt5 rfl fun u y g7 _ _ _ _=>?_;refine aH.pure 1 fun m g=>?_;rw[Tc];refine H.call (Pa (n:=25) j (by omega) (by omega)) more only (((L.on only g6).on only g7).on only (aZ.of g)) fun Z' t m9 N Q=>?_;refine aH.S7 (if cD (zs i) 25=24 then 18 else 20) _ rfl (mt6 (jL (zs i) (by omega))) rfl fun v k gA _ _ _ D=>?_;refine aH.still (fun O=>pP Td (D.slot 28 _ rfl) (D.slot 32 _ rfl) (by have:(str (bB zs i)).size=i:=(ak _).trans (dj zs i);have:(⟨#[bsN (cD (zs i) 25)]⟩:ByteArray).size=1:=rfl;omega) O) fun O V _=>?_;refine aH.S7 16 _ rfl mt8 rfl fun T p X _ _ _ _=>?_;rw[S6 (by unfold maxLen;omega),show bsN (cD (zs i) 25)=BP (zs i)from rfl,zU,<-Ew];exact z (i+1) (by omega) Z' T p m9 N (Q.on N ((gA.trans V).trans X))
theorem pQ{w:World}(h:kC w0 a len zs)(Y:most<=60)(H:Here Z0 w0)(more:∀l,Z0 l->Z l)(only:∀l,Z l->Z0 l\/∃a:Addr,l=.cell a/\w0.heap.size<=a.block)(G:aZ Z0 w0 w)
  (kk:∀Z' w',(∀l,Z0 l->Z' l)->(∀l,Z' l->Z0 l\/∃a:Addr,l=.cell a/\w0.heap.size<=a.block)->aZ Z0 w0 w'->aH PR Qq Z' (c.finish (.string (str (bB zs (min len most))))) cs w'):
  aH PR Qq Z (Frame.enter PR 18 #[.slice a len cap,ii most] .normal) (c::cs) w:=by
 refine aH.S7 22 _ rfl mt0 rfl fun J w1 g1 _ _ _ _=>?_;rcases h with rfl|⟨b,off,rfl,_,K⟩
 ·refine akq 60 _ rfl mt2 rfl fun I w2 g2 _ _ _ D=>?_;refine aH.Mg false D Mk rfl fun J w3 g3 _=>?_;refine aH.pure 8 fun w4 R=>?_;change aH PR Qq Z (aQ PR 8 (mJ (.code (IF mC)::mC.tail) (ms a 0 cap most 0 ⟨#[]⟩) J) (c::cs)).1 (aQ PR 8 (mJ (.code (IF mC)::mC.tail) (ms a 0 cap most 0 ⟨#[]⟩) J) (c::cs)).2 w4;rw[mt7];have:=kk Z w4 more only (G.on only (((g1.trans g2).trans g3).trans (aZ.of R)))
  rwa [Nat.zero_min]at this
 ·exact IH Y K H kk (min len most) 0 (by omega) Z J w1 more only (G.on only g1)
end
theorem GW.Tf{Q:QT}{R:Value->World->Prop}{v:World}{k:List Item}{a:Array Value}(Y:∃F,PR.funcs[fn]?=some F)(x:Nat)(hr:R (a.getD x undef) v)(D:∀t,(aQ PR 1 ((bf fn).at ⟨t,[]⟩ (.code .ret::k)) []).2=[]:=by intro t;kernel_rfl)(h:∀t u,stepG PR true (G (aQ PR 1 ((bf fn).at ⟨t,[]⟩ (.code .ret::k)) []).1 []) u=.ended (.done (t.getD x undef)) u #[]:=by intro t u;kernel_rfl):GW true Q R fn (.code .ret::k) a v:=by
 intro r Z w t l H I K A;obtain rfl:l=[]:=List.isEmpty_iff.1 H;refine aH.pure 1 fun w' hk=>?_;rw[D];exact A r Z _ _ v w' (fun _ _ e=>e) (na Y I K.gi (x:=.tmp x) trivial) (K.quiet hk) (.qt hk) hr _ (h t)
def blk:Value->Value
 |.slice .. =>.tuple #[]
 |x=>x
theorem Gq{vh:Value->World->Prop}{n:Nat}{al:List (Nat×Value)}{W0 w:World}{Bs:List Nat}(U:∀P d,aZ (fun _=>False) W0 P->vh (.bool true) (P.at d))(H:Here (fun _=>False) W0)(only:∀l,Z l->False\/∃a:Addr,l=.cell a/\W0.heap.size<=a.block)(Y:aZ (fun _=>False) W0 w)
  (F:∀b∈Bs,W0.heap.size<=b/\jl Z b/\∃x y z:Int,w.heap[b]?=some (.cells #[ii x,ii y,ii z] 28))
  (N:∀p∈al,(∃a l c,p.2=.slice a l c)\/fH 3 p.2=true\/∃b∈Bs,p.2=ptr b)
  (g:iR w->bu w->GW true (Ren.Ends PR vh) (fun x v'=>x=.bool true/\Kw w v') fn site ((TN n (sA al) fun _=>undef).map blk) w):
  aH PR (Ren.Ends PR vh) Z (ru fn n site (sA al) fun _=>undef) [] w:=by
 have S:∀g,g=0\/g=2\/g=3->w.heap[g]?=W0.heap[g]?:=fun b hb=>Y.old b (H.gl hb) (H.off b (H.gl hb));have J:iR w:=H.tabs.same S;have I:bu w:=iS H.jF (S 0 (.inl rfl))
 letI:=gv
 obtain⟨K,R⟩:∃K:Nat->Prop,∀a,K a↔((a=0\/a=2\/a=3)\/a∈Bs):=⟨_,fun _=>Iff.rfl⟩;have C:GI (jD K):=fun g j=>gu ((R g).2 (.inl (by
  have:([0,2,3].contains g)=true:=j;simpa using this)))
 have O:∀b,¬aj.ro b:=fun b h=>h;have L:W (jD K) 0 w w:=Dc O (ake H.low Y.grow) fun b hb=>by
  rcases(R b).1 hb with hb|hb
  ·obtain⟨v,t,fz,h,U⟩:=J b hb;exact⟨_,h,yL _ _ fun x B=>by obtain⟨k,n,rfl⟩:=U x B;exact .int _ _⟩
  ·obtain⟨_,_,x,y,z,h⟩:=F b hb;exact⟨_,h,yL _ _ fun u hu=>by simp at hu;rcases hu with rfl|rfl|rfl<;>exact .int _ _⟩
 have G:∀x∈TN n (sA al) fun _=>undef,V (jD K) (blk x) x:=by
  intro x B;unfold TN at B;simp only[List.mem_toArray,List.mem_map]at B;obtain⟨i,_,rfl⟩:=B;unfold sA;cases o:al.lookup i with
  |none=>exact .blank rfl
  |some y=>
   obtain⟨p,U,rfl⟩:=ye o;simp only[akj];rcases N p U with⟨a,l,c,e⟩|e|⟨b,hb,e⟩
   ·rw[e];exact .blank rfl
   ·have:=iK (r:=jD K) e;revert e this;cases p.2 with
    |slice a l c=>exact fun _ _=>.blank rfl
    |_=>intro e h;exact h
   ·rw[e];exact .ptr ⟨gu ((R b).2 (.inr hb)),rfl,rfl⟩
 refine g J I (jD K) Z w (TN n (sA al) fun _=>undef) [] rfl ⟨Array.size_map ..,fun i x x' e e'=>?_⟩ ⟨L,C,fun a y=>?_⟩ fun r' Z' x x' v' w' m T X D E f q=>?_
 ·rw[Array.getElem?_map,e']at e;cases e;exact G x' (akn e')
 ·rcases(R a).1 (mD.1 y)with h|h
  ·exact gD only (H.off a (H.gl h)) (H.gl h)
  ·exact(F a h).2.1
 ·obtain⟨rfl,hk⟩:=E;cases T;refine aH.done fun s ⟨d,hd⟩=>⟨rfl,_,_,q s,(fun e he=>by simp at he),?_⟩;subst hd;refine U w' d ⟨fun a M Q=>?_,ake Y.grow D.ke.grow,D.ke.tape.trans Y.tape,D.ke.env.trans Y.env,D.ke.output.trans Y.output⟩;have A:=akp M Y.grow;refine Eq.trans ?_ (Y.old a M Q);by_cases y:K a
  ·rcases(R a).1 y with y|y
   ·exact(X.tabs (Kw.tabs hk J) a y).trans (hk a A)
   ·have:=(F a y).1;omega
  ·exact D.kept a A (fun z=>y (mD.1 z)) (gD only Q M)
abbrev vi(site:List Item)(al:List (Nat×Value)):Frame:=ru 9 67 site (sA al) fun _=>undef
noncomputable def Qt:Code:=Tryz.f9.body.getD .skip
abbrev sj (p:List Nat) (l:List Nat):List Item:=[.inRegion (opsOf (cp (p++[1]) Qt)) l,.code (cp (p++[2]) Qt)]
def wZ(t p:Value)(k:Int)(o u:Value):List (Nat×Value):=[(0,t),(1,p),(2,ii k),(3,o),(4,u)]
def EZ(t p:Value)(k:Int)(o u:Value)(b1 b2:Nat):List (Nat×Value):=wZ t p k o u++[(8,ptr b1),(9,ptr b2),(10,.bool false)]
def E0(t p:Value)(k:Int)(o u:Value)(b1 b2:Nat):List (Nat×Value):=EZ t p k o u b1 b2++[(19,.bool true),(11,.bool true),(20,.bool true),(21,.bool false),(22,t)]
def II(t p:Value)(k:Int)(o u:Value)(b1 b2:Nat)(x0 X:ByteArray):List (Nat×Value):=E0 t p k o u b1 b2++[(23,.string x0),(24,.string X),(12,.string X),(25,p)]
section
variable{t p o u:Value}{k:Int}{b1 b2:Nat}{x0 X b0:ByteArray}
theorem abq:aY PR 60 (Frame.enter PR 9 #[t,p,ii k,o,u] .normal) []=(vi (sj [] [0,1,2]) (wZ t p k o u),[]):=by kernel_rfl
theorem Pd:(opAt (vi (sj [] [0,1,2]) (wZ t p k o u))).map (fun o=>o.op)=some (.box 28 (.tmp 3)):=by kernel_rfl
theorem abr:aY PR 60 ((vi (sj [] [0,1,2]) (wZ t p k o u)).finish (ptr b1)) []=(vi (sj [] [1,2]) (wZ t p k o u++[(8,ptr b1)]),[]):=by kernel_rfl
theorem Pe:(opAt (vi (sj [] [1,2]) (wZ t p k o u++[(8,ptr b1)]))).map (fun o=>o.op)=some (.box 28 (.tmp 4)):=by kernel_rfl
theorem abt:aY PR 60 ((vi (sj [] [1,2]) (wZ t p k o u++[(8,ptr b1)])).finish (ptr b2)) []=(vi (sj [2] [0,1]) (EZ t p k o u b1 b2),[]):=by kernel_rfl
theorem Pf:aQ PR 1 (vi (sj [2] [0,1]) (EZ t p k o u b1 b2)) []=(Frame.enter PR 16 #[] .normal,[vi (sj [2] [0,1]) (EZ t p k o u b1 b2)]):=by kernel_rfl
theorem abu:aY PR 60 (aQ PR 11 ((vi (sj [2] [0,1]) (EZ t p k o u b1 b2)).finish (.bool true)) []).1 []=(vi (sj [2,2,2] [1,2,3]) (E0 t p k o u b1 b2),[]):=by kernel_rfl
theorem Ti:(aQ PR 11 ((vi (sj [2] [0,1]) (EZ t p k o u b1 b2)).finish (.bool true)) []).2=[]:=by kernel_rfl
theorem Pg:aQ PR 1 (vi (sj [2,2,2] [1,2,3]) (E0 t p k o u b1 b2)) []=(Frame.enter PR 18 #[t,ii (60:Nat)] .normal,[vi (sj [2,2,2] [1,2,3]) (E0 t p k o u b1 b2)]):=by kernel_rfl
theorem Pj:(opAt ((vi (sj [2,2,2] [1,2,3]) (E0 t p k o u b1 b2)).finish (.string x0))).map (fun o=>o.op)=some (.binOp .add 9 (.const (.string ⟨#[65]⟩)) (.tmp 23) 9):=by kernel_rfl
theorem abv:aY PR 60 (((vi (sj [2,2,2] [1,2,3]) (E0 t p k o u b1 b2)).finish (.string x0)).finish (.string X)) []=(vi (sj [2,2,2,2] [1,2,3]) (II t p k o u b1 b2 x0 X),[]):=by kernel_rfl
theorem Pk:aQ PR 1 (vi (sj [2,2,2,2] [1,2,3]) (II t p k o u b1 b2 x0 X)) []=(Frame.enter PR 18 #[p,ii (17:Nat)] .normal,[vi (sj [2,2,2,2] [1,2,3]) (II t p k o u b1 b2 x0 X)]):=by kernel_rfl
theorem abw:(vi (sj [2,2,2,2] [1,2,3]) (II t p k o u b1 b2 x0 X)).finish (.string b0)=vi (sj [2,2,2,2] [2,3]) (II t p k o u b1 b2 x0 X++[(26,.string b0)]):=by kernel_rfl
end
theorem yi{v:World}{b:Nat}{x y z:Value}{fz:Nat×Nat}(h:v.heap[b]?=some (.cells #[x,y,z] e fz)):(Instr.loadAt 28 (ptr b)).run PR v=.ok (.agg #[x,y,z]) v:=by
 have c0:v.cell? ⟨b,0,none⟩=some x:=by simp[akg,h]
 have c1:v.cell? ⟨b,1,none⟩=some y:=by simp[akg,h]
 have c2:v.cell? ⟨b,2,none⟩=some z:=by simp[akg,h]
 simp[ptr,go_sem,c0,c1,c2]
theorem Qu{Q:QT}{v:World}{x:List UInt8}(Y:x.length<=1000)(K:Kw v1 v):aL Q 23 #[.string (str x)] v fun y v'=>y=.string (str (cP x))/\Kw v1 v':=
 aL.bN (R:=fun y v'=>y=.string (str (cP x))/\Kw v1 v') (by decide) fun T=>(Ox x (tp v T) Y).mono fun e w' h=>⟨_,h.1,rfl,by rw[h.2];exact K⟩
theorem E4{Q:QT}{v:World}{x:List UInt8}(D:x.length<=60)(K:Kw v1 v):aL Q 24 #[.string (str x)] v fun y v'=>y=.string (str (aO x))/\Kw v1 v':=
 aL.bN (R:=fun y v'=>y=.string (str (aO x))/\Kw v1 v') (by decide) fun T=>(Ly x (tp v T) D).mono fun e w' h=>⟨_,h.1,rfl,K.trans fun a Y=>h.2.block a Y⟩
structure K9 where
 (k n E:Int) (o u:Value) (b1 b2:Nat) (x0 X b0 B RF RD S:ByteArray)
def kp(j m:Nat)(x:Value):Value:=if Nat.ble j m then x else undef
def Pm(y:K9)(m:Nat):Array Value:=#[.tuple #[],.tuple #[],ii y.k,y.o,y.u,undef,undef,undef,ptr y.b1,ptr y.b2,.bool false,.bool true,.string y.X,kp 2 m (.string y.B),kp 5 m (ii y.n),kp 6 m (.string y.S),kp 6 m (ii y.E),kp 7 m (.string y.S),kp 7 m (ii y.E),.bool true,.bool true,.bool false,.tuple #[],.string y.x0,.string y.X,.tuple #[],.string y.b0,kp 1 m (.string y.B),kp 3 m (ii y.k),kp 4 m (ii y.n),kp 6 m (.tuple #[.string y.S,ii y.E]),kp 6 m (.string y.X),kp 6 m (.string y.RF),kp 6 m (.string y.B),kp 6 m (.string y.RD),kp 6 m (ii y.n),kp 6 m (y.o),kp 6 m (.tuple #[.string y.S,ii y.E]),kp 6 m (.string y.S),kp 6 m (ii y.E),kp 7 m (.tuple #[.string y.S,ii y.E]),kp 7 m (.string y.X),kp 7 m (.string y.RF),kp 7 m (.string y.B),kp 7 m (.string y.RD),kp 7 m (ii y.n),kp 7 m (y.u),kp 7 m (.tuple #[.string y.S,ii y.E]),kp 7 m (.string y.S),kp 7 m (ii y.E),undef,undef,undef,undef,undef,undef,undef,undef,undef,undef,undef,undef,undef,undef,undef,undef,undef]
def Yo (p:List Nat):Array Oper:=opsOf (cp p Qt)
theorem Cm:(Yo [2,2,2,2,2,2,1]).size=12/\(Yo [2,2,2,2,2,2,2,1]).size=12:=⟨by kernel_rfl,by kernel_rfl⟩
def k9f(u:Nat->Value)(n:Int)(B S:ByteArray)(E:Int):Array Value:=#[u 0,u 1,u 2,u 3,u 4,u 5,u 6,u 7,u 8,u 9,u 10,u 11,u 12,.string B,ii n,.string S,ii E,.string S,ii E,u 19,u 20,u 21,u 22,u 23,u 24,u 25,u 26,u 27,u 28,u 29,u 30,u 31,u 32,u 33,u 34,u 35,u 36,u 37,u 38,u 39,u 40,u 41,u 42,u 43,u 44,u 45,u 46,u 47,u 48,u 49,u 50,u 51,u 52,u 53,u 54,u 55,u 56,u 57,u 58,u 59,u 60,u 61,u 62,u 63,u 64,u 65,u 66]
theorem Pn{w:World}{n:Nat}{u:Nat->Value}{B:ByteArray}(D:n<=6)(hb:B.size<=60)(Y:E=if n<B.size then 0 else 4):
  (cp [2,2,2,2,2,2,2,2,1] Qt).wp PR (fun e a' v'=>e=.normal/\a'.defers=[]/\a'.tmps.getD 10 undef=.bool true/\v'.heap=w.heap) ⟨k9f u n B S E,[]⟩ w:=by
 obtain⟨Q,K⟩:∃Q:Exit->Act->World->Prop,Q=(fun e a' v'=>e=.normal/\a'.defers=[]/\a'.tmps.getD 10 undef=.bool true/\v'.heap=w.heap):=⟨_,rfl⟩;rw[<-K];have H:=laid K;clear K;unfold Qt Tryz.f9 k9f;simp only[akj,cp];by_cases h:n<B.size
 ·rw[if_pos h]at Y;subst Y;go_wp2
  rw[H.out];exact⟨rfl,rfl,rfl,rfl⟩
 ·rw[if_neg h]at Y;subst Y;go_wp2
  rw[H.out];exact⟨rfl,rfl,rfl,rfl⟩
section
variable{y:K9}{Q:QT}{v:World}{q1 t1 w1 q2 t2 w2:Int}
theorem Po(L:y.b0.size<=50)(R:(⟨#[67]⟩:ByteArray)++y.b0=y.B)(O:y.B.size<=50)(hk:du y.k)(D:y.n=(cD y.k 7:Nat))(M:y.o=.agg #[ii q1,ii t1,ii w1])(hu:y.u=.agg #[ii q2,ii t2,ii w2])(c1:v.heap[y.b1]?=some (.cells #[ii q1,ii t1,ii w1] 28))(c2:v.heap[y.b2]?=some (.cells #[ii q2,ii t2,ii w2] 28))
  (f1:∀u,Kw v u->aL Q 23 #[.string y.X] u fun z v'=>z=.string y.RF/\Kw v v')(f2:∀u,Kw v u->aL Q 24 #[.string y.B] u fun z v'=>z=.string y.RD/\Kw v v')(f3:∀u,Kw v u->aL Q 22 #[.string y.RF,.string y.RD,ii y.n,y.o] u fun z v'=>z=.tuple #[.string y.S,ii y.E]/\Kw v v')(f4:∀u,Kw v u->aL Q 22 #[.string y.RF,.string y.RD,ii y.n,y.u] u fun z v'=>z=.tuple #[.string y.S,ii y.E]/\Kw v v')
  (C:y.E=if cD y.k 7<y.B.size then 0 else 4):GW true Q (fun y v'=>y=.bool true/\Kw v v') 9 (sj [2,2,2,2] [2,3]) (Pm y 0) v:=by
 have Y:∃F,PR.funcs[9]?=some F:=⟨_,Tryz.func9⟩;have V:=jL y.k (show 0<7 by decide);refine GW.cat Y (.const (.string ⟨#[67]⟩)) (.tmp 26) (x:=⟨#[67]⟩) (y:=y.b0) (by have:(⟨#[67]⟩:ByteArray).size=1:=rfl;omega) ?_;rw[R];refine GW.to (Pm y 1) ?_;refine GW.fh Y [3] ?_;refine GW.to (Pm y 2) ?_;refine GW.run 3 (k':=sj [2,2,2,2,2] [0,1,2]) ?_;refine GW.fh Y [0] ?_;refine GW.to (Pm y 3) ?_;refine GW.call Y (qU (n:=7) hk (by omega) (by omega) (.refl v)) ?_;rintro z v1 ⟨rfl,k1⟩;rw[<-D];refine GW.to (Pm y 4) ?_;refine GW.fh Y [2] ?_;refine GW.to (Pm y 5) ?_;refine GW.run 2 (k':=[.code (.region 7 (Yo [2,2,2,2,2,2,1]) true),.code (cp [2,2,2,2,2,2,2] Qt)]) ?_;refine GW.S_ (A:=Pm y 6) (Kw v) k1 [0,2,4,7,8,9,10,11] ?_ ?_ Y
 ·intro i H D;rw[Cm.1]at H;have:i=1\/i=3\/i=5\/i=6:=by simp at D;omega
  rcases this with rfl|rfl|rfl|rfl
  ·exact .call Y f1
  ·exact .call Y f2
  ·exact .ld Y fun u K=>(yi (K.at c1)).trans (by rw[<-M])
  ·exact .call Y f3
 intro v2 J;refine GW.run 2 (k':=[.code (.region 8 (Yo [2,2,2,2,2,2,2,1]) true),.code (cp [2,2,2,2,2,2,2,2] Qt)]) ?_;refine GW.S_ (A:=Pm y 7) (Kw v) J [0,2,4,7,8,9,10,11] ?_ ?_ Y
 ·intro i H D;rw[Cm.2]at H;have:i=1\/i=3\/i=5\/i=6:=by simp at D;omega
  rcases this with rfl|rfl|rfl|rfl
  ·exact .call Y f1
  ·exact .call Y f2
  ·exact .ld Y fun u K=>(yi (K.at c2)).trans (by rw[<-hu])
  ·exact .call Y f4
 intro v3 N;refine GW.run 2 (k':=[.code (cp [2,2,2,2,2,2,2,2,1] Qt),.code .ret]) ?_;refine GW.any (fun u=>k9f u y.n y.B y.S y.E) (by kernel_rfl) fun u=>?_;rw[D];refine GW.piece Y (by kernel_rfl) (R1:=fun a' v'=>a'.getD 10 undef=.bool true/\v'.heap=v3.heap) rfl (fun T=>?_) ?_
 ·exact Pn (w:=tp v3 T) (n:=cD y.k 7) (B:=y.B) (by omega) (by omega) C
 ·rintro a' v4 ⟨I,U⟩;exact GW.Tf Y 10 ⟨I,N.trans fun a P=>by rw[U]⟩
end
end Ph
namespace Ph
open Conc ConcM Ren RowKit
theorem qV{W:World}{n:String}{k:IntKind}{zs:List Int}{m:Nat}{t:TypeId}(h:Lib.VarReads PR W n (akm k zs))(I:Program.globalNamed PR n=some g)(F:((PR).globals[g]?).map (·.type)=some t)(hu:PR.underlying t=some (.array m e))(he:PR.underlying e=some (.int k))(D:PR.cellsOf e=1)(R:PR.cellsOf t=m):
  ∃(c:Array Value) (t':TypeId) (fz:Nat×Nat),W.heap[g]?=some (.cells c t' fz)/\∀x∈c,∃k n,x=Value.int k n:=by
 obtain⟨L,t1,cs,fuel,p,A,U,Y,B⟩:=h;obtain rfl:=Option.some.inj (I.symm.trans A);obtain rfl:=Option.some.inj (F.symm.trans U);have H:=Lib.cells_of_tab hu he D R B;unfold World.var? at Y;rw[I]at Y;simp only[Option.bind_some]at Y;split at Y
 ·rename_i c t' fz C;cases Y;refine⟨_,t',fz,C,fun x J=>?_⟩;have K:x∈cs.toList:=by simpa using J
  rw[H]at K;obtain⟨z,_,rfl⟩:=List.mem_map.1 K;exact⟨_,_,rfl⟩
 ·cases Y
def W7:DataW Unit->List Int
 |.agg l=>l.map fun|.lit (.int _ z)=>z|_=>0
 |_=>[]
theorem ik{W:World}(h:laidMetH Tryz.prog lC W):iR W:=by
 rw[MakeChecks.laidMetH_plain _ _ _ (by kernel_rfl)]at h;have e:lC=[("math/bits.deBruijn32tab",(akm .u8 (W7 Rows.laid_math_bits_deBruijn32tab):DataW Unit)),("math/bits.deBruijn64tab",(akm .u8 (W7 Rows.laid_math_bits_deBruijn64tab):DataW Unit)),("internal/strconv.uint64pow10",(akm .u64 Lib.pow10Tab:DataW Unit))]:=by kernel_rfl
 rw[e]at h;have r0:=qV (Lib.laidMet.reads h (.tail _ (.tail _ (.head _)))) (g:=0) (by kernel_rfl) (by kernel_rfl) Tryz.underlying202 (m:=20) Tryz.underlying176 (by kernel_rfl) (by kernel_rfl);have r1:=qV (Lib.laidMet.reads h (.head _)) (g:=2) (by kernel_rfl) (by kernel_rfl) Tryz.underlying245 aku (by kernel_rfl) (by kernel_rfl);have r2:=qV (Lib.laidMet.reads h (.tail _ (.head _))) (g:=3) (by kernel_rfl) (by kernel_rfl) Tryz.underlying246 aku (by kernel_rfl) (by kernel_rfl);intro g Y;rcases Y with rfl|rfl|rfl
 ·exact r0
 ·first|exact r1|exact r2
 ·first|exact r2|exact r1
theorem Cn:PR.globals.size<=4:=of_decide_eq_true (by kernel_rfl)
theorem rX{W:World}(h:iR W):PR.globals.size<=W.heap.size:=by
 obtain⟨_,_,_,Y,_⟩:=h 3 (.inr (.inr rfl));have:=ax Y;have:=Cn;omega
theorem iT{H:Type}{enc:TypeId×Value->H}{a:Assume}{C:Checked}{os:Os}{fn:Func}{s:ChangeSpec}{F:Stop.Interp}{conds:List PathCond}{apart fresh handsOn:Bool}{X:World->Array Value->Prop}
  (hX:∀(w w':World) (args:Array Value),w.heap=w'.heap->X w args->X w' args)
  (own:ownKnob C.prog.godebug=none)(started:os.Started)(I:C.prog.funcs[f]?=some fn)
  (witness:∃(w:World) (tape:Tape) (i:Input),w.os=os/\(w.forCall tape i).Shaped C.prog/\i.vars=[]/\Input.okWide C.prog (w.forCall tape i) .any w.heap.size f i/\
   ((s.pre enc C.prog fn conds apart (w.forCall tape i).memory i.args/\X (w.forCall tape i).memory i.args)/\sizedMet enc C.prog fn (aki s) apart (w.forCall tape i).memory i.args)/\a.holds C.prog (lone (Frame.enter C.prog f i.args .normal) [] (w.forCall tape i)))
  (runs:∀(W:World) (base:Nat) (args:Array Value) (D gs:List (DataW H)) (before:List MemPlace),
   (∀(j:Nat) t v,fn.params[j]?=some t->args[j]?=some v->akk C.prog W .any base t v)->
   DataW.Whole enc C.prog fn.params.toList s.vars apart W args.toList D gs before->
   conds.all (PathCond.test C.prog ⟨fn.params.toList,D,s.plain.varTypes C.prog,gs⟩)=true->X W args->
   ∃M last o w' t',runNT C.prog (M+1) (solo (G (Frame.enter C.prog f args .normal) []) W) #[]=(.ended o w',t')/\runN C.prog M (solo (G (Frame.enter C.prog f args .normal) []) W)=.next last/\
    step C.prog last=.ended o w'/\Conc.Good C.prog (fun v B=>s.post enc C.prog fn apart fresh handsOn false W args v {B with os:=W.os}/\OsLater W.os B.os) last o w' t'):
  ReturnsInLeavingWide a C os f .any (fun w args=>(s.pre enc C.prog fn conds apart w args/\X w args)/\sizedMet enc C.prog fn (aki s) apart w args) ((aki s).postWith enc C.prog fn F (outsideKept [.timePasses]) apart fresh handsOn):=by
 refine returnsInLeavingWide_of_good own started witness ?_;intro w tape i _ _ _ A K R;obtain⟨_,_,_,iU,Y,_,_,_,_,hval⟩:=A;have e:iU=fn:=Option.some.inj (Y.symm.trans I);subst e;obtain⟨⟨⟨D,gs,before,hw,Q⟩,S⟩,V⟩:=K;have U:=DataW.Whole.of_heap (w':=w.forCall tape i) (by rfl) hw;obtain⟨M,last,o,w',t',L,N,O,P⟩:=runs (w.forCall tape i) w.heap.size i.args D gs before hval U Q (hX _ _ _ (by rfl) S);obtain⟨v,e,J,r1,r2,r3,T⟩:=P;exact⟨M,last,o,w',t',L,N,O,v,e,postWith_blind (postWith_of_post J.1 J.2),r1,r2,r3,T⟩
theorem nK{W Y:World}{d:Nat}(h:aZ (fun _=>False) W Y):Below W.heap.size W {Y.at d with os:=W.os}/\OsLater W.os (Y.at d).os:=
 ⟨⟨rfl,h.tape,h.output,h.grow,fun k hk=>h.old k hk (fun _ _ y=>y)⟩,h.env⟩
end Ph
section
open ChangeShapes WideShapes ChangeAt RowKit Deep
theorem pR:Tryz.prog.cellsOf 3=1:=by kernel_rfl
theorem vj{n:Int}(h:(Lit.int .i64 n).wf=true):du n:=by
 simp only[Lit.wf,Bool.and_eq_true,decide_eq_true_eq]at h;exact h
section
variable{H:Type}{enc:TypeId×Value->H}{W:World}{base b0:Nat}{spare:Nat->Bool}{held:Bool}{d:DataW H}{p:List MemPlace}{v:Value}{r:Reach}
theorem pS(F:akk Tryz.prog W r b0 25 v)(h:akw enc Tryz.prog W base spare held 25 v d p):∃a len cap zs,v=.slice a len cap/\kC W a len zs:=by
 obtain⟨a,len,cap,rfl⟩:=okWide_slice akr F;obtain⟨fuel,B⟩:=h;refine⟨a,len,cap,?_⟩;rcases open_ints akr akf pR B with⟨Y,_⟩|⟨ad,I,D,zs,Y,_,M,hm,J,_,R,hw⟩
 ·simp[akt]at Y;obtain⟨rfl,rfl,rfl⟩:=Y;exact⟨fun _=>0,rfl,.inl rfl⟩
 ·simp[akt]at Y;obtain⟨rfl,rfl,rfl⟩:=Y;refine⟨fun i=>zs.getD i 0,rfl,?_⟩;by_cases A:len=0
  ·exact .inl A
  have C:len<=zs.length:=by rw[J];split<;>omega
  obtain⟨b,off,sp⟩:=ad;have H:sp=none:=by
   have U:=World.cell?_spot (R 0 (by omega));simpa[Addr.add]using U
  subst H;have K:∀j,(⟨b,off,none⟩:Addr).add j=⟨b,off+j,none⟩:=by
   intro j;unfold Addr.add;split<;>simp_all
  refine .inr ⟨b,off,rfl,by omega,fun i L=>⟨by rw[<-K];exact R i (by omega),vj (hw _ ?_)⟩⟩;simp only[List.getD_eq_getElem?_getD,List.getElem?_eq_getElem (show i<zs.length by omega),akj];exact List.getElem_mem _
theorem Ml(Y:akk Tryz.prog W r b0 3 v)(h:akw enc Tryz.prog W base spare held 3 v d p):∃n,v=.int .i64 n/\du n:=by
 obtain⟨n,rfl,_,_,hw⟩:=open_int akf Y h;exact⟨n,rfl,vj hw⟩
theorem IJ:Tryz.prog.cellsOf 28=3:=by kernel_rfl
theorem zL(U:akk Tryz.prog W r b0 28 v)(h:akw enc Tryz.prog W base spare held 28 v d p):∃x y z,v=.agg #[.int .i64 x,.int .i64 y,.int .i64 z]/\du x/\du y/\du z:=by
 obtain⟨cs,rfl,_⟩:=okWide_struct aks U;obtain⟨fuel,A⟩:=h;obtain⟨xs,m,_,_,K,H,Y⟩:=DataW.trod_struct aks A;rw[IJ]at K;obtain⟨cs⟩:=cs;simp only[akt]at K Y
 match cs,K with
 |[c0,c1,c2],_=>
  have B:xs.length=3:=by simpa using H
  match xs,B with
  |[x0,C,F],_=>
   have f0:akx enc Tryz.prog W base spare held m 3 [c0]=some x0:=by simpa[pR]using Y 0 _ rfl
   have f1:akx enc Tryz.prog W base spare held m 3 [c1]=some C:=by simpa[pR]using Y 1 _ rfl
   have f2:akx enc Tryz.prog W base spare held m 3 [c2]=some F:=by simpa[pR]using Y 2 _ rfl
   obtain⟨a0,D,_,z0⟩:=ako akf f0;obtain⟨a1,R,_,z1⟩:=ako akf f1;obtain⟨a2,I,_,z2⟩:=ako akf f2;simp at D R I;subst D R I;exact⟨a0,a1,a2,rfl,vj z0,vj z1,vj z2⟩
end
end
section
open RowKit
theorem pT{x b:List UInt8}(A:∀c∈x,ei c)(K:1<=x.length)(D:x.length<=200)(hb:∀c∈b,ei c)(R:1<=b.length)(I:b.length<=30):bV (str (cP x)) (str (aO b))=0/\ai (str (aO b)) 5 0=[(⟨#[97]⟩,str b,str (dR b.length))]:=by
 obtain⟨r1,r2⟩:=uL hb R I [] [];simp only[List.nil_append,List.append_nil,aky,Nat.zero_add]at r1 r2;have H:(aO b).length=2 *b.length+7:=by simp[aO,bW];omega
 have U:(str (aO b)).size=(aO b).length:=ak _;have B:(str (cP x)).size=x.length+4:=by rw[ak];simp[cP]
 have Y:(bq (str (aO b)) 5 0).2=false:=by
  rw[bq,if_neg (by omega),aX (by rw[r1]),r1];simp only;rw[bq,if_pos (by omega)]
 refine⟨?_,?_⟩
 ·rw[bV,if_neg (by omega),oo,if_neg (by rw[uK A K D];simp),if_neg (by rw[Y];simp)];rfl
 ·rw[ai,if_neg (by omega),r2,r1,if_neg (by simp)];simp only;rw[ai,if_pos (by omega)]
theorem qW{c:Int}{n:Nat}(h:0<n)(Y:n<=1000):1<=Ph.lb c n/\Ph.lb c n<=n:=by
 have:=jL c h;rw[Ph.Ta h Y];omega
theorem Co{x b:List UInt8}{n:Nat}{t w:Int}(U:∀c∈x,ei c)(D:1<=x.length)(R:x.length<=200)(hb:∀c∈b,ei c)(I:1<=b.length)(A:b.length<=30)(B:n<=6):jq (str (cP x)) (str (aO b)) (n:Nat) (Ph.lb q 8) (Ph.lb t 200) (Ph.lb w 8)=if n<b.length then 0 else 4:=by
 obtain⟨K,H⟩:=pT U D R hb I A;have a1:=qW (c:=q) (show 0<8 by decide) (by decide);have a2:=qW (c:=t) (show 0<200 by decide) (by decide);have a3:=qW (c:=w) (show 0<8 by decide) (by decide);have hr:jW (n:Nat) 30 (Ph.lb q 8) (Ph.lb t 200)=true:=by
  unfold jW;rw[decide_eq_true_eq];omega
 rw[jq,if_neg (by rw[K];simp),if_neg (by rw[hr];simp;omega),H,fewer];have Y:(str b).size=b.length:=ak b;by_cases h:n<b.length
 ·rw[if_pos h,if_neg];simp[Y,h]
 ·rw[if_neg h,if_pos];simp[Y,h]
theorem Mm{x b:List UInt8}{n:Nat}{t w:Int}(A:∀c∈x,ei c)(Y:1<=x.length)(K:x.length<=200)(hb:∀c∈b,ei c)(D:1<=b.length)(R:b.length<=30)(I:n<=6):ot (str (cP x)) (str (aO b)) (n:Nat) (Ph.lb q 8) (Ph.lb t 200) (Ph.lb w 8)=if n<b.length then str (fK (str (cP x)) (str (aO b)) n)else⟨#[]⟩:=by
 rw[ot,Co A Y K hb D R I];by_cases h:n<b.length
 ·rw[if_pos h,if_pos rfl,if_pos h];rfl
 ·rw[if_neg h,if_neg (by decide),if_neg h]
end
namespace Ph
open Go Go.Conc Go.Proofs.YtdcjnhipenbcfaaGreatDoor.Ren Go.RowKit
theorem pU{W w:World}{len:Nat}{zs:Nat->Int}(h:kC W a len zs)(g:aZ (fun _=>False) W w):kC w a len zs:=by
 rcases h with h|⟨b,off,rfl,D,h⟩
 ·exact .inl h
 ·refine .inr ⟨b,off,rfl,D,fun i H=>?_⟩;obtain⟨Y,K⟩:=h i H;have hb:b<W.heap.size:=block_lt_of_cell Y;refine⟨?_,K⟩;rw[<-Y];simp only[akg,g.old b hb (fun _ _ y=>y)]
theorem Here.on{W w:World}(h:Here (fun _=>False) W)(g:aZ (fun _=>False) W w):Here (fun _=>False) w:=by
 have Y:∀b,b=0\/b=2\/b=3->w.heap[b]?=W.heap[b]?:=fun b hb=>g.old b (h.gl hb) (h.off b (h.gl hb));exact⟨ake h.low g.grow,h.tabs.same Y,iS h.jF (Y 0 (.inl rfl)),fun _ _ _ _ y=>y⟩
section
variable{W:World}{a0 a1:Option Addr}{l0 l1 c0 c1:Nat}{z0 z1:Nat->Int}{k q1 t1 w1 q2 t2 w2:Int}{vh:Value->World->Prop}
theorem Pp(i0:kC W a0 l0 z0)(i1:kC W a1 l1 z1)(hk:du k)(L:du q1/\du t1/\du w1)(M:du q2/\du t2/\du w2)(H:Here (fun _=>False) W)(f:∀P d,aZ (fun _=>False) W P->vh (.bool true) (P.at d)):
  aH PR (Ren.Ends PR vh) (fun _=>False) (Frame.enter PR 9 #[.slice a0 l0 c0,.slice a1 l1 c1,ii k,.agg #[ii q1,ii t1,ii w1],.agg #[ii q2,ii t2,ii w2]] .normal) [] W:=by
 refine aH.wX 60 _ abq fun v1 g1 _=>?_;refine aH.alloc (F:=fun B=>(vi (sj [] [0,1,2]) (wZ (.slice a0 l0 c0) (.slice a1 l1 c1) k (.agg #[ii q1,ii t1,ii w1]) (.agg #[ii q2,ii t2,ii w2]))).finish (ptr B)) (o:=.cells #[ii q1,ii t1,ii w1] 28) (fun w'=>iM Pd rfl rfl w') fun b1 v2 n1 u1 Z o1 g2=>?_;refine aH.wX 60 _ abr fun v3 g3 _=>?_;refine aH.alloc (F:=fun B=>(vi (sj [] [1,2]) (wZ (.slice a0 l0 c0) (.slice a1 l1 c1) k (.agg #[ii q1,ii t1,ii w1]) (.agg #[ii q2,ii t2,ii w2])++[(8,ptr b1)])).finish (ptr B)) (o:=.cells #[ii q2,ii t2,ii w2] 28) (fun w'=>iM Pe rfl rfl w') fun b2 v4 n2 u2 E o2 g4=>?_;refine aH.wX 60 _ abt fun v5 g5 _=>?_;refine aH.pure 1 fun v6 S=>?_;rw[Pf];have Y:=((g3.trans g4).trans g5).trans (aZ.of S);have D:=(g1.trans g2).trans Y;have J:=H.on D;have E1:=Y.at Z o1;have E2:=(g5.trans (aZ.of S)).at E o2;have s1:=ax E1;have s2:=ax E2;refine J.call Cl (fun _ y=>y) (fun _ y=>.inl y) ⟨fun _ _ _=>rfl,Nat.le_refl _,rfl,j8.refl _,rfl⟩ fun v w m7 o7 V=>?_;refine aH.pure 11 fun v8 z=>?_;rw[Ti];refine aH.wX 60 _ abu fun v9 g9 _=>?_;refine aH.pure 1 fun vA g=>?_;rw[Pg];refine pQ (pU i0 D) (by omega) J m7 o7 (((V.on o7 (aZ.of z)).on o7 g9).on o7 (aZ.of g)) fun ZB vB s U X=>?_;have ex:(⟨#[65]⟩:ByteArray)++str (bB z0 (min l0 60))=str (65::bB z0 (min l0 60)):=bp [65] _;refine aH.still (fun w'=>pP Pj rfl rfl (by rw[ak,dj];have:(⟨#[65]⟩:ByteArray).size=1:=rfl;omega) w') fun vC G _=>?_;rw[ex];refine aH.wX 60 _ abv fun vD j _=>?_;refine aH.pure 1 fun vE r=>?_;rw[Pk];refine pQ (pU i1 D) (by omega) J s U (((X.on U G).on U j).on U (aZ.of r)) fun x vF i O R=>?_;rw[abw];have C:=D.trans R;have T:∀c∈65::bB z0 (min l0 60),ei c:=fun c N=>(akh.1 N).elim (fun e=>by rw[e];exact⟨by decide,by decide⟩) (uN _ _ c);have kb:∀c∈67::bB z1 (min l1 17),ei c:=fun c N=>(akh.1 N).elim (fun e=>by rw[e];exact⟨by decide,by decide⟩) (uN _ _ c);have t:(65::bB z0 (min l0 60)).length<=61:=by rw[akl,dj];omega
 have n:(67::bB z1 (min l1 17)).length<=18:=by rw[akl,dj];omega
 have m:=jL k (show 0<7 by decide);have gr:=g1.grow;refine Gq (Bs:=[b1,b2]) f H (fun l y=>(O l y).elim .inl fun⟨a,e,q⟩=>.inr ⟨a,e,ake D.grow q⟩) C ?_ ?_ fun Q I=>?_
 ·intro b hb;simp only[akh,akv,or_false]at hb;rcases hb with rfl|rfl
  ·exact⟨by omega,gD O (fun _ _ y=>y) s1,_,_,_,R.at E1 (fun _ _ y=>y)⟩
  ·exact⟨by have:=g2.grow;have:=g3.grow;omega,gD O (fun _ _ y=>y) s2,_,_,_,R.at E2 (fun _ _ y=>y)⟩
 ·intro p A;simp only[II,E0,EZ,wZ,List.mem_append,akh,akv,or_false]at A
  repeat' rcases A with A|A
  all_goals first|exact .inl ⟨_,_,_,rfl⟩|exact .inr (.inr ⟨b1,by simp,rfl⟩)|exact .inr (.inr ⟨b2,by simp,rfl⟩)|exact .inr (.inl (by kernel_rfl))
 ·refine GW.to (Pm ⟨k,(cD k 7:Nat),if cD k 7<(67::bB z1 (min l1 17)).length then 0 else 4,.agg #[ii q1,ii t1,ii w1],.agg #[ii q2,ii t2,ii w2],b1,b2,str (bB z0 (min l0 60)),str (65::bB z0 (min l0 60)),str (bB z1 (min l1 17)),str (67::bB z1 (min l1 17)),str (cP (65::bB z0 (min l0 60))),str (aO (67::bB z1 (min l1 17))),if cD k 7<(67::bB z1 (min l1 17)).length then str (fK (str (cP (65::bB z0 (min l0 60)))) (str (aO (67::bB z1 (min l1 17)))) (cD k 7))else⟨#[]⟩⟩ 0) ?_;refine Po (q1:=q1) (t1:=t1) (w1:=w1) (q2:=q2) (t2:=t2) (w2:=w2) (by show(str _).size<=50;rw[ak,dj];omega) (bp [67] _) (by show(str _).size<=50;rw[ak];omega) hk rfl rfl rfl (R.at E1 (fun _ _ y=>y)) (R.at E2 (fun _ _ y=>y)) (fun u K=>Qu (by omega) K) (fun u K=>E4 (by omega) K) ?_ ?_ (by show _=if _<(str _).size then _ else _;rw[ak]);all_goals
   intro u K;refine aL.mono (Ck (k:=(cD k 7:Nat)) ?_ ?_ ?_ ?_ ?_ (K.tabs Q) (K.mh Q I)) fun y v' h=>⟨by rw[h.1,Mm T (by simp) (by omega) kb (by simp) (by omega) (by omega),Co T (by simp) (by omega) kb (by simp) (by omega) (by omega)],K.trans h.2⟩
  all_goals first
   |exact L.1|exact L.2.1|exact L.2.2|exact M.1|exact M.2.1|exact M.2.2
   |(rw[ak];simp only[cP,aO,bW,List.length_append,akl,aky,dj,maxLen];omega)
end
end Ph
end
end Go.Proofs.YtdcjnhipenbcfaaGreatDoor
