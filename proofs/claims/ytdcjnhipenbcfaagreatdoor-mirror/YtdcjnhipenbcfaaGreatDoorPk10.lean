/-
  Own text. Part 10 of what the claim rests on.
-/
import Derived.Test.YtdcjnhipenbcfaaGreatDoorPk9
import Derived.Conc.HoldsTime
import Derived.ProofKit
import Derived.OpenShut
import Derived.ShutString
import Derived.ChangeOld
import Derived.Deep.Slices
set_option linter.unusedVariables false
set_option linter.unusedSectionVars false
set_option linter.unusedSimpArgs false
set_option maxRecDepth 100000
set_option maxHeartbeats 16000000
open Array renaming getD->ak,getElem?_setIfInBounds->aM,all_eq_true_iff_forall_mem->bq,getElem?_eq_none->br,getElem?_eq_some_iff->bt,map_congr_left->bu,any_eq_true'->bS,ext_getElem?->bT,getD_eq_getD_getElem?->bU,getElem?_eq_getElem->bV,getElem?_toList->bW,mem_of_getElem?->bX,replicate->bY
open Bool renaming and_eq_true->aN,not_eq_true'->bZ
open Go.DataW renaming Trod->bA,trod->bB,trod_int->bC
open Go.Instr renaming loadAt->bD,storeAt->b_
open Go.IntKind renaming i64->ax
open Go.Lib renaming tabData->aZ
open Go.OpenSpec renaming ofChange->bP
open Go.Proofs.Tryz renaming f25->aV,underlying3->aW,f16->bj,f39->bk,func25->bm,func16->bQ,underlying25->cy,underlying28->cA,underlying5->cB
open Go.Proofs.YtdcjnhipenbcfaaGreatDoor.Ph.GW renaming gS->ae,cond->aA,piece->aO
open Go.Proofs.YtdcjnhipenbcfaaGreatDoor.Ph.gW renaming ij->aL
open Go.Proofs.YtdcjnhipenbcfaaGreatDoor.Ph.gu renaming gC->aD
open Go.Region renaming binds->ar
open Go.Value renaming cells->aX,int->aY,okWide->bp
open Go.World renaming cell?->ah,frozen?->bR
open List renaming getD_eq_getElem?_getD->af,mem_map->ai,getElem?_map->aj,getElem?_eq_getElem->ay,getElem?_append_left->aH,getElem_mem->aI,mem_append->aJ,mem_of_getElem?->aK,all_eq_true->aP,length_append->aQ,mem_cons->aT,getElem?_append_right->a_,getElem?_range->bc,length_map->bg,cons_append->bE,getElem?_cons_succ->bF,getElem?_eq_none->bG,length_cons->bH,length_nil->bI,map_append->bJ,mem_cons_of_mem->bK,mem_of_mem_take->bL,mem_range->bM,append_nil->cf,drop_of_length_le->cg,getD_cons_zero->cj,getElem?_eq_some_iff->ck,map_cons->cm,mem_reverse->cn,mem_singleton->cu,nil_append->cv,not_mem_nil->cw,range_succ->cx
open Nat renaming le_trans->ao,le_refl->aB,zero_le->bh,lt_of_lt_of_le->bN,strongRecOn->bO
open Option renaming getD_some->az,map_some->aU
open UInt8 renaming ofNat->au,toNat_ofNat'->cC
namespace Go.Proofs.YtdcjnhipenbcfaaGreatDoor
noncomputable section
variable {listed:Array Bool}{args:Array Value}{main:Bool}{l0 ref I:ByteArray}{fn:FuncId}{q:Int}{cs:List Frame}{site:List Item}{Bs ks:List Nat}{h mk rn x xn:List UInt8}{xs:List Value}{id j:Nat}{u:Nat->Value}{e t':TypeId}{w w0:World}
namespace Ph
open Conc Ren RowKit
section
variable{tb:Bool}{Q:QT}{R:Value->World->Prop}{v:World}{fn:FuncId}{k:List Item}{a:Array Value}{ops:Array Oper}{i:Nat}{is:List Nat}
theorem GW.WA(D:∃F,PR.funcs[fn]?=some F){t:TypeId}(M:(PR.info? t).map (·.size)=some 2){B:Nat}{x y:Value}{z0 z1:Value}(Y:v.heap[B]?=some (.cells #[z0,z1] t'))
  (g:∀v1,v1.heap[B]?=some (.cells #[x,y] t')->(∀b,b≠B->v1.heap[b]?=v.heap[b]?)->v1.heap.size=v.heap.size->GW tb Q R fn (.inRegion ops is::k) (kQ (jX ops i) undef a) v1)(h:mc ops i a=some (Bo (b_ t (ptr B) (.agg #[x,y]))):=by kernel_rfl)(U:x.oneCell'=true:=by rfl)(C:y.oneCell'=true:=by rfl):GW tb Q R fn (.inRegion ops (i::is)::k) a v:=by
 obtain⟨J,H,I⟩:=xo M;have r0:=ry (i:=0) (v:=x) Y;have A:v.cell? ⟨B,0,none⟩=some z0:=by simp[ah,Y]
 have f0:v.frozen? ⟨B,0,none⟩=false:=by simp[bR,Y]
 have h1:(v.setCell ⟨B,0,none⟩ x).cell? ⟨B,1,none⟩=some z1:=by simp[ah,r0]
 have f1:(v.setCell ⟨B,0,none⟩ x).frozen? ⟨B,1,none⟩=false:=by simp[bR,r0]
 have K:=akY (a:=x) (b:=y) v Y;refine GW.sk (v1:=ET B x y v) D h ?_ rfl (g _ K.2 (fun b hb=>K.1.heap b hb) K.1.size);simp[go_sem,storeVar,storeCells,sizeOf,typeInfo,H,I,aX,run_store PR _ _ x _ U,run_store PR _ _ y _ C,A,f0,h1,f1,ptr,Addr.add,ET]
theorem GW.KP(Y:∃F,PR.funcs[fn]?=some F)(x y z:Nat)(h:∀t c cs,gF PR 2 ((bf fn).at ⟨t,[]⟩ (.code .ret::k)) (c::cs)=(c.finish (.tuple #[t.getD x undef,t.getD y undef,t.getD z undef]),cs))(hr:R (.tuple #[a.getD x undef,a.getD y undef,a.getD z undef]) v):GW false Q R fn (.code .ret::k) a v:=by
 intro r Z w t l H D K I;obtain⟨c,cs,rfl⟩:=Dt H;refine gu.pure 2 fun w' hk=>?_;rw[h];have ev:∀n:Nat,@V gv r (a.getD n undef) (t.getD n undef):=fun n=>yP Y D K.gi (x:=.tmp n) trivial;refine I r Z _ _ v w' (fun _ _ e=>e) ?_ (K.quiet hk) (.qt hk) hr
 letI:=gv
 refine .tuple rfl fun i p p' e e'=>?_;have A:i<3:=by
  have:=(bt.1 e).1;simpa using this
 have:i=0\/i=1\/i=2:=by omega
 rcases this with rfl|rfl|rfl<;>cases e<;>cases e'<;>exact ev _
end
noncomputable def kT:Code:=bk.body.getD .skip
abbrev i6(n:Int):Value:=.int .i64 n
def uB(ref reads:ByteArray)(k q st wk:Int)(z7:Nat)(V:Value)(uC:Nat)(MR:Value)(u:Nat->Value):Array Value:=
 #[.string ref,.string reads,i6 k,i6 q,i6 st,i6 wk,u 6,u 7,u 8,u 9,u 10,u 11,.string ⟨#[]⟩,i6 0,i6 0,ptr z7,V,ptr uC,MR,u 19,u 20,u 21,u 22,u 23,u 24,u 25,u 26,u 27,u 28,u 29,u 30,u 31,u 32,u 33,u 34,u 35,u 36,u 37,u 38,u 39,u 40,u 41,u 42,u 43,u 44,u 45,u 46,u 47,u 48,u 49,u 50,u 51,u 52,u 53,u 54,u 55,u 56,u 57,u 58]
section
variable{v:World}{ref reads:ByteArray}{k q st wk E Pl:Int}{V MR:Value}{z7 uC qD:Nat}{u:Nat->Value}
theorem ajQ(h:w.heap[uC]?=some (.cells #[i6 E,i6 Pl] 70)):(cp [2,2,1,2,1,1] kT).wp PR (fun e a' v'=>e=.normal/\a'.defers=[]/\(a'.tmps.getD 12 undef=.string ⟨#[]⟩/\a'.tmps.getD 13 undef=i6 E/\a'.tmps.getD 14 undef=i6 Pl)/\v'.heap=w.heap) ⟨uB ref reads k q st wk z7 V uC MR u,[]⟩ w:=by
 have c0:w.cell? ⟨uC,0,none⟩=some (i6 E):=by simp[ah,h]
 have c1:w.cell? ⟨uC,1,none⟩=some (i6 Pl):=by simp[ah,h]
 obtain⟨Q,Y⟩:∃Q:Exit->Act->World->Prop,Q=(fun e a' v'=>e=.normal/\a'.defers=[]/\(a'.tmps.getD 12 undef=.string ⟨#[]⟩/\a'.tmps.getD 13 undef=i6 E/\a'.tmps.getD 14 undef=i6 Pl)/\v'.heap=w.heap):=⟨_,rfl⟩;rw[<-Y];have K:=laid Y;unfold kT bk uB;simp only[ptr]
 go_quiet(fail)
 rw[K.out];exact⟨rfl,rfl,⟨rfl,rfl,rfl⟩,rfl⟩
theorem ajR{L:List mM}{B:Nat}(h:w.heap[qD]?=some (.cells #[i6 k,i6 q,i6 st] 75))(D:w.ownsRow B 131 3 V L.length (lG L))(O:L.length<=1000)(S:∀r∈L,r.2.1.size<=1000):(cp [2,2,2,2,1,1] kT).wp PR (fun e a' v'=>e=.normal/\a'.defers=[]/\(a'.tmps=uB ref reads k q st wk z7 V uC (ptr qD) (fun n=>a'.tmps.getD n undef)/\a'.tmps.getD 53 undef=.bool (!oT k q st||!pn k L||decide (wk<1)||decide (8<wk)))/\∀g,g<w.heap.size->v'.heap[g]?=w.heap[g]?) ⟨uB ref reads k q st wk z7 V uC (ptr qD) u,[]⟩ w:=by
 have H:=laid h;have J:=laid D;have M:=laid S;have c0:w.cell? ⟨qD,0,none⟩=some (i6 k):=by simp[ah,h]
 have c1:w.cell? ⟨qD,1,none⟩=some (i6 q):=by simp[ah,h]
 have c2:w.cell? ⟨qD,2,none⟩=some (i6 st):=by simp[ah,h]
 obtain⟨Q,U⟩:∃Q:Exit->Act->World->Prop,Q=(fun e a' v'=>e=.normal/\a'.defers=[]/\(a'.tmps=uB ref reads k q st wk z7 V uC (ptr qD) (fun n=>a'.tmps.getD n undef)/\a'.tmps.getD 53 undef=.bool (!oT k q st||!pn k L||decide (wk<1)||decide (8<wk)))/\∀g,g<w.heap.size->v'.heap[g]?=w.heap[g]?):=⟨_,rfl⟩;rw[<-U];have R:=laid U;clear U;unfold kT bk uB;simp only[az,cp];simp only[ptr];go_wp2_with fail
 refine(abL k q st _).mono ?_;rintro e w1 ⟨rfl,Y⟩;cases F:oT k q st
 ·go_wp2
  rw[R.out];exact⟨rfl,rfl,⟨by kernel_rfl,by rw[F];rfl⟩,fun g K=>Y.block g K⟩
 ·have h1:=(Y.block qD (jQ H.out)).trans H.out;have P:w1.cell? ⟨qD,0,none⟩=some (i6 k):=by simp[ah,h1]
  have d1:w1.cell? ⟨qD,1,none⟩=some (i6 q):=by simp[ah,h1]
  have d2:w1.cell? ⟨qD,2,none⟩=some (i6 st):=by simp[ah,h1]
  clear h1;have A:=laid (A2 J.out fun g K=>Y.block g K);go_wp2_with fail
  refine(W8 k q st L V B w1 A.out O M.out).mono ?_;rintro e w2 ⟨rfl,C⟩;have I:=laid fun g K=>(C.block g (bN K Y.size)).trans (Y.block g K);cases N:pn k L
  ·go_wp2
   rw[R.out];exact⟨rfl,rfl,⟨by kernel_rfl,by rw[F,N];rfl⟩,I.out⟩
  ·by_cases hw:wk<1
   ·go_wp2
    rw[R.out];exact⟨rfl,rfl,⟨by kernel_rfl,by simp_all⟩,I.out⟩
   ·go_wp2
    rw[R.out];exact⟨rfl,rfl,⟨by kernel_rfl,by simp_all⟩,I.out⟩
end
theorem ahX:(PR.info? 68).map (·.zero)=some (some (.agg #[.string ⟨#[]⟩,.string ⟨#[]⟩])):=by kernel_rfl
theorem ahY:(PR.info? 70).map (·.zero)=some (some (.agg #[i6 0,i6 0])):=by kernel_rfl
theorem ahZ:(PR.info? 75).map (·.zero)=some (some (.agg #[i6 0,i6 0,i6 0])):=by kernel_rfl
theorem ah0:(PR.info? 68).map (·.size)=some 2:=by kernel_rfl
theorem ah1:(PR.info? 70).map (·.size)=some 2:=by kernel_rfl
theorem ah2:(PR.info? 75).map (·.size)=some 3:=by kernel_rfl
theorem R9{reads:ByteArray}(h:m_ ref reads=0):qB ref=wW ref:=by
 have h1:=(ahw h).2.2.1;unfold lX at h1;obtain⟨h2,_⟩:=r9 h1;exact(agJ ref h2).symm
theorem OY{reads:ByteArray}{k st wk:Int}(h:m_ ref reads≠0):nk ref reads k q st wk=m_ ref reads:=by unfold nk;rw[if_pos h]
theorem IB{reads:ByteArray}{k st wk:Int}(h:m_ ref reads=0)(h2:xc k 30 q st=false\/wk<1\/8<wk):nk ref reads k q st wk=4:=by unfold nk;rw[if_neg (by rw[h];simp),if_pos h2]
theorem adZ{reads:ByteArray}{k st wk:Int}(h:m_ ref reads=0)(h2:fewer (iX reads 5 0) k=false):nk ref reads k q st wk=4:=by
 unfold nk;rw[if_neg (by rw[h];simp)];split
 ·rfl
 ·first
   |rfl
   |rw[if_pos h2]
theorem af4{reads:ByteArray}{k st wk:Int}(h:m_ ref reads=0)(h2:¬(xc k 30 q st=false\/wk<1\/8<wk))(Y:fewer (iX reads 5 0) k=true):nk ref reads k q st wk=0:=by
 unfold nk;rw[if_neg (by rw[h];simp),if_neg h2,if_neg (by rw[Y];simp)]
theorem Q1{reads:ByteArray}{k st wk:Int}(h:nk ref reads k q st wk≠0):qv ref reads k q st wk=⟨#[]⟩:=by unfold qv;rw[if_neg h]
theorem af5{B:Nat}{z:Nat}{v:Value}{n:Nat}(h:w.ownsRow B e z v n xs):w.ownsRow 0 e z v n xs:=by
 refine⟨h.1,?_⟩;rcases h.2 with h'|⟨g,cap,Y,h1,h2,K⟩
 ·exact .inl h'
 ·exact .inr ⟨g,cap,Y,h1,bh _,K⟩
theorem ajS:bk.body=some kT:=by kernel_rfl
theorem ajT:ko PR (isAgg 35)=some false:=by kernel_rfl
section
variable{Q:QT}{v:World}{ref reads:ByteArray}{k q st wk:Int}
theorem Ki(h1:ref.size<=maxLen)(h2:reads.size<=maxLen)(o:lq v)(hT:iU v):
  gW Q 39 #[.string ref,.string reads,i6 k,i6 q,i6 st,i6 wk] v fun x v'=>x=.tuple #[.string (qv ref reads k q st wk),i6 (nk ref reads k q st wk),i6 (vs ref reads)]/\Kw v v':=by
 have Y:∃F,PR.funcs[39]?=some F:=⟨_,Tryz.func39⟩;obtain⟨L,I⟩:∃L,L=iX reads 5 0:=⟨_,rfl⟩;obtain⟨E,j⟩:∃E,E=m_ ref reads:=⟨_,rfl⟩;obtain⟨Pl,l⟩:∃Pl,Pl=y8 ref reads:=⟨_,rfl⟩;refine gW.of (n:=59) Tryz.func39 ajS (by kernel_rfl) ?_;refine GW.run 2 (k':=[.inRegion (opsOf (cp [1] kT)) [0,1,2],.code (cp [2] kT)]) ?_;refine ae Y [0,1,2] ?_;refine GW.run 3 (k':=[.inRegion (opsOf (cp [2,1] kT)) [0,1,2,3,4,5,6,7,8,9,10,11],.code (cp [2,2] kT)]) ?_;refine ae Y [0,1] ?_;refine GW.call Y (aL (R:=fun x v'=>∃a b V,x=.tuple #[.agg #[.string a,.string b],V,.agg #[i6 E,i6 Pl]]/\Kw v v'/\(E=0->a=qB ref/\b=str (mY ref).2/\v'.ownsRow v.heap.size 131 3 V L.length (lG L))) (by decide) fun T=>(X4 ref reads (tp v T) h1 h2).mono fun e v' ⟨a,b,V,e1,e2,Z,e4⟩=>⟨_,by rw[e1,<-j,<-l],a,b,V,rfl,fun g N=>Z.block g N,by rw[j,I];exact e4⟩) ?_;rintro x v1 ⟨a,b,V,rfl,k1,FV⟩;refine ae Y [3,4,5,6] ?_;refine GW.al Y ahX fun v2 e2 k2 l2 H=>?_;refine GW.al Y ahY fun v3 Z k3 l3 A=>?_;refine GW.WA Y ah0 (x:=.string a) (y:=.string b) (k3.at H) fun v4 H o4 s4=>?_;refine ae Y [10] ?_;refine GW.WA Y ah1 (x:=i6 E) (y:=i6 Pl) ((o4 _ (by omega)).trans A) fun v5 A o5 s5=>?_;have H:=(o5 v1.heap.size (by omega)).trans H;have K5:Kw v1 v5:=fun g N=>by
  have:=k2.size;rw[o5 g (by omega),o4 g (by omega),k3 g (by omega),k2 g N]
 have n17:v1.heap.size<=v2.heap.size:=k2.size;have s45:v3.heap.size=v5.heap.size:=by omega
 have l17:v2.heap.size<v5.heap.size:=by omega
 clear o4 o5 e2 Z;have K05:=k1.trans K5;refine GW.run 4 (k':=[.inRegion (opsOf (cp [2,2,1,1] kT)) [0,1,2],.code (cp [2,2,1,2] kT),.code (cp [2,2,2] kT)]) ?_;refine ae Y [0] ?_;refine GW.ld Y (mO 0 ajT A rfl) ?_;refine ae Y [2] ?_;refine GW.run 1 (k':=[.code (.cond (.tmp 28) (cp [2,2,1,2,1] kT) .skip),.code (cp [2,2,2] kT)]) ?_;refine aA Y (t:=!(decide (E=0))) trivial (by kernel_rfl) ?_;refine GW.any (fun u=>uB ref reads k q st wk v1.heap.size V v2.heap.size (u 18) u) (by kernel_rfl) fun u=>?_;generalize v2.heap.size=S at *;generalize v1.heap.size=P at *;by_cases D:E=0
 ·rw[decide_eq_true D];obtain⟨ea,eb,C⟩:=FV D;have K:m_ ref reads=0:=by rw[<-j];exact D
  have f:vs ref reads=0:=by unfold vs;rw[if_neg (by rw[K];simp)]
  have hLl:L.length<=5:=by rw[I];exact Nu reads 5 0
  have d:∀r∈L,r.1.size<=10/\r.2.1.size<=30/\r.2.2.size<=30:=by rw[I];exact Ng reads 5 0
  have s:pn k L=fewer (iX reads 5 0) k:=by rw[I];rfl
  refine GW.run 3 (k':=[.inRegion (opsOf (cp [2,2,2,1] kT)) [0,1,2,3,4,5],.code (cp [2,2,2,2] kT)]) ?_;refine ae Y [0,1,2,3] ?_;refine GW.al Y ahZ fun v6 e6 k6 l6 U=>?_;refine GW.Wz Y ah2 (x:=i6 k) (y:=i6 q) (z:=i6 st) U fun v7 U o7 s7=>?_;have K7:Kw v5 v7:=fun g N=>(o7 g (by omega)).trans (k6 g N);have H:=K7.at H;have M:=K5.trans K7;have O:=k1.trans M;refine GW.run 3 (k':=[.code (cp [2,2,2,2,1,1] kT),.code (cp [2,2,2,2,1,2] kT),.code (cp [2,2,2,2,2] kT)]) ?_;refine GW.any (fun u=>uB ref reads k q st wk P V S (ptr v5.heap.size) u) (by kernel_rfl) fun u=>?_;generalize v5.heap.size=qD at *;refine aO Y (by kernel_rfl) (R1:=fun a' v'=>(a'=uB ref reads k q st wk P V S (ptr qD) (fun n=>a'.getD n undef)/\a'.getD 53 undef=.bool (!oT k q st||!pn k L||decide (wk<1)||decide (8<wk)))/\Kw v7 v') rfl (fun T=>ajR (w:=tp v7 T) U (A2 C M) (by omega) fun r hr=>by have:=d r hr;omega) ?_;rintro a' v8 ⟨⟨W,G⟩,k8⟩;refine GW.run 0 (k':=[.code (.cond (.tmp 53) (cp [2,2,2,2,1,2,1] kT) .skip),.code (cp [2,2,2,2,2] kT)]) ?_;refine aA Y trivial G ?_;refine GW.to _ ?_ W;generalize(fun n=>a'.getD n undef)=u';clear W G;cases hb:(!oT k q st||!pn k L||decide (wk<1)||decide (8<wk))with
  |true=>
   have h4:nk ref reads k q st wk=4:=by
    simp only[Bool.or_eq_true,bZ,decide_eq_true_eq]at hb;rcases hb with((h|h)|h)|h
    ·exact IB K (.inl (by rw[PF,h];rfl))
    ·exact adZ K (by rw[<-s];exact h)
    ·exact IB K (.inr (.inl h))
    ·exact IB K (.inr (.inr h))
   refine GW.run 2 (k':=[.inRegion (opsOf (cp [2,2,2,2,1,2,1,1] kT)) [0,1,2],.code .ret,.code (cp [2,2,2,2,2] kT)]) ?_;refine ae Y [0,1,2] ?_;refine GW.run 1 (k':=[.code .ret,.code (cp [2,2,2,2,2] kT)]) ?_;refine GW.KP Y 12 13 14 (fun t c cs=>by kernel_rfl) ⟨?_,O.trans k8⟩;rw[Q1 (by rw[h4];decide),h4,f];kernel_rfl
  |false=>
   simp only[Bool.or_eq_false_iff,Bool.not_eq_false',decide_eq_false_iff_not]at hb;obtain⟨⟨⟨B,E3⟩,VX⟩,Va⟩:=hb;have hm:=of_decide_eq_true B;obtain⟨kn,rfl⟩:∃n:Nat,k=(n:Int):=⟨k.toNat,by omega⟩;obtain⟨qn,rfl⟩:∃n:Nat,q=(n:Int):=⟨q.toNat,by omega⟩;obtain⟨sn,rfl⟩:∃n:Nat,st=(n:Int):=⟨st.toNat,by omega⟩;obtain⟨wn,rfl⟩:∃n:Nat,wk=(n:Int):=⟨wk.toNat,by omega⟩;have i:=af5 (A2 C (M.trans k8));obtain⟨WB,X,rfl⟩:∃WB X,V=.slice WB L.length X:=by
    rcases i.2 with⟨hy,h0⟩|⟨g',EN,cur,hv,_⟩
    ·exact⟨none,0,by rw[h0];exact hy⟩
    ·exact⟨_,_,hv⟩
   have hxb:b.size<=200:=by rw[eb,gV];exact Z4 ref
   have Cb:a.size<=1000:=by rw[ea,R9 K];have:=Py ref (h_ ref 62 0);show(sH ref (h_ ref 62 0)).size<=1000;omega
   have p:∀r∈L,(r.1.size<=10/\r.2.1.size<=30/\r.2.2.size<=30)/\kn<r.2.1.size:=fun r hr=>⟨d r hr,by
    have:=of_decide_eq_true (aP.1 E3 r hr);omega⟩
   have m:nk ref reads kn qn sn wn=0:=af4 K (by
    rintro(h|h|h)
    ·rw[PF,B]at h;have:decide ((kn:Int)<30)=true:=decide_eq_true (by omega);rw[this]at h;cases h
    ·omega
    ·omega) (by rw[<-s];exact E3)
   have hS:qv ref reads kn qn sn wn=str (oa a b kn L L.length):=by
    unfold qv mo;rw[if_pos m,ea,eb,R9 K,I];rfl
   refine GW.run 3 (k':=[.inRegion (opsOf (cp [2,2,2,2,2,1] kT)) [0,1,2,3,4,5,6,7],.code .ret]) ?_;refine GW.ld Y (Ex (k8.at H)) ?_;refine ae Y [1] ?_;refine GW.ld Y (Bd (k8.at U)) ?_;refine ae Y [3] ?_;have J:=O.trans k8;refine GW.call Y (ahW (q:=qn) (st:=sn) (n:=wn) hxb Cb (by omega) (by omega) (by omega) (by omega) (by omega) (by omega) (by omega) p hLl (J.tabs o) (J.qU o hT) i) ?_;rintro x v9 ⟨rfl,k9⟩;refine ae Y [5,6,7] ?_;refine GW.run 1 (k':=[.code .ret]) ?_;refine GW.KP Y 12 13 14 (fun t c cs=>by kernel_rfl) ⟨?_,J.trans k9⟩;rw[hS,m,f];kernel_rfl
 ·rw[decide_eq_false D];refine GW.run 1 (k':=[.code (cp [2,2,1,2,1,1] kT),.code .ret,.code (cp [2,2,2] kT)]) ?_;refine aO Y (by kernel_rfl) (R1:=fun a' v'=>(a'.getD 12 undef=.string ⟨#[]⟩/\a'.getD 13 undef=i6 E/\a'.getD 14 undef=i6 Pl)/\v'.heap=v5.heap) rfl (fun T=>ajQ (w:=tp v5 T) A) ?_;rintro a' v' ⟨⟨e1,e2,Z⟩,hh⟩;refine GW.KP Y 12 13 14 (fun t c cs=>by kernel_rfl) ?_;have K:m_ ref reads≠0:=by rw[<-j];exact D
  rw[e1,e2,Z,Q1 (by rw[OY K];exact K),OY K,show vs ref reads=y8 ref reads by unfold vs;rw[if_pos K],<-j,<-l];exact⟨rfl,fun g N=>by rw[hh];exact K05 g N⟩
end
theorem D6{i:Nat}(h:i+1<=maxLen):ax.wrap ((i:Int)+1)=((i+1:Nat):Int):=by
 unfold maxLen at h;rw[Go.IntWalk.i64_in _ (by omega)];omega
abbrev ii(n:Int):Value:=.int .i64 n
section
variable{P:Program}{Q:QT}{Z:Loc->Prop}{f:Frame}{l:List Frame}{w:World}
theorem gu.KQ(m:Nat)(r:Frame×List Frame)(hr:gF P m f l=r){n:Nat}{al:List (Nat×Value)}{call:Option (FuncId×Array Value)}{load:Option (TypeId×Value)}(h:look ks r=iz fn n l site al call load)(hk:al.map (·.1)=ks)
  (k:∀J w',gU Z w w'->(∀b,b<w.heap.size->w'.heap[b]?=w.heap[b]?)->ahead (kR fn n site (sA al) J)=call->qK (kR fn n site (sA al) J)=load->kJ fn n site (sA al) (kR fn n site (sA al) J)->gu P Q Z (kR fn n site (sA al) J) l w'):gu P Q Z f l w:=by
 subst hr;refine gu.pure m fun w' H=>?_;have Y:=jV h hk;have h1:=Y.call;have h2:=Y.load;have K:=Y.fr;rw[Y.fr.eq]at h1 h2;rw[Y.fr.eq]at K;rw[Y.callers,Y.fr.eq];exact k _ w' (gU.of H) (fun b hb=>H.kept b hb (fun y=>y)) h1 h2 K
theorem gu.Kj{n:Nat}{al ex:List (Nat×Value)}{u:Nat}{a b:Code}{k:List Item}(t:Bool)(Y:kJ fn n site (sA (al++ex)) f)(D:site=.code (.cond (.tmp u) a b)::k)(U:sA (al++ex) u=some (.bool t))
  (B:∀J w',gU Z w w'->(∀a,a<w.heap.size->w'.heap[a]?=w.heap[a]?)->gu P Q Z (kR fn n (.code (if t then a else b)::k) (sA al) J) l w'):gu P Q Z f l w:=by
 refine gu.still (fun w2=>wZ Y.mode Y.round (by rw[Y.kind];nofun) (Y.todo.trans D) (Y.slot u _ U)) fun w' g h=>?_;have K:kJ fn n _ _ {f with todo:=.code (if t then a else b)::k}:=⟨Y.fn,rfl,Y.defers,Y.mode,Y.kind,Y.round,Y.size,fun i v e=>Y.slot i v (xj e)⟩;rw[K.eq];exact B _ w' g h
end
def zx:Op->Option (List Operand)
 |.move x|.assign x|.load _ x|.fieldAddr _ x _|.extract x _|.unOp _ _ x=>some [x]
 |.binOp _ _ x y _|.indexAddr _ x y|.store _ x y=>some [x,y]
 |.build _ l=>some (l.toList.map (·.2))
 |.alloc _=>some []
 |.call c=>match c.callee with
  |.value f=>some (f::c.args.toList)
  |.builtin _=>some c.args.toList
  |_=>none
 |_=>none
theorem execOp_congr{K Y:Operand->Value}{o:Oper}{l:List Operand}(h:zx o.op=some l)(e:∀x∈l,K x=Y x):execOp K o=execOp Y o:=by
 unfold execOp;generalize o.op=p at h;cases p<;>simp only[zx]at h<;>first|(cases h;done)|skip
 case call c=>
  obtain⟨H,args,ty⟩:=c;have D:∀l',(∀x∈l',K x=Y x)->l'=args.toList->args.map K=args.map Y:=fun l' h1 h2=>bu fun x hx=>h1 x (by rw[h2];simpa using hx);cases H with
  |builtin b=>cases h;simp only[resolve,D _ e rfl]
  |value f=>cases h;simp only[resolve,D _ (fun x hx=>e x (bK _ hx)) rfl,e f (by simp)]
  |invoke r n=>cases h
 case build t l=>
  cases h;have:(l.map fun(i,x)=>(i,K x))=l.map fun(i,x)=>(i,Y x):=bu fun p hp=>by have:=e p.2 (ai.2 ⟨p,by simpa using hp,rfl⟩);simp only[this]
  simp only[this]
 all_goals(cases h;simp at e;simp only[e])
def Gk:Operand->List Nat
 |.tmp j=>[j]
 |_=>[]
def TH(ops:Array Oper):Bool:=(List.range ops.size).all fun i=>match ops[i]? with
 |some o=>(o.after.all fun e=>!ar .any e||decide (e.on<i))&&match zx o.op with
  |some l=>l.all fun x=>(Gk x).all fun j=>(List.range ops.size).all fun m=>!(jX ops m==some j)||o.after.any fun e=>e.on==m&&ar .any e
  |none=>false
 |none=>false
def WC(ops:Array Oper)(listed:Array Bool)(A a:Array Value):Prop:=a.size=A.size/\∀j,(∀m,jX ops m=some j->listed.getD m false=true)->a[j]?=A[j]?
def dv(ops:Array Oper)(A:Array Value)(i:Nat):Value:=match jX ops i with
 |some j=>A.getD j undef
 |none=>undef
section
variable{tb:Bool}{Q:QT}{R:Value->World->Prop}{v:World}{fn:FuncId}{k:List Item}{a A:Array Value}{ops:Array Oper}{Inv I J:World->Prop}{i:Nat}
def Bq(ops:Array Oper)(i:Nat)(A a:Array Value):Prop:=a.size=A.size/\∃o l,ops[i]?=some o/\zx o.op=some l/\∀x∈l,Act.eval ⟨a,[]⟩ x=Act.eval ⟨A,[]⟩ x
theorem Bq.ex(h:Bq ops i A a):mc ops i a=mc ops i A:=by
 obtain⟨_,o,l,K,Y,e⟩:=h;simp only[mc,K,execOp_congr Y e]
theorem Bq.os(h:Bq ops i A a):(ta ops i).map (Act.eval ⟨a,[]⟩)=(ta ops i).map (Act.eval ⟨A,[]⟩):=by
 obtain⟨_,o,l,D,Y,e⟩:=h;unfold ta;rw[D];simp only[aU];split
 ·rename_i c H;rw[Option.some.inj H]at Y;simp only[zx]at Y;refine bu fun x hx=>e x ?_;have K:x∈c.args.toList:=by simpa using hx
  split at Y
  ·cases Y;exact bK _ K
  ·cases Y;exact K
  ·cases Y
 ·simp
def Stp(tb:Bool)(Q:QT)(R:Value->World->Prop)(fn:FuncId)(k:List Item)(ops:Array Oper)(A:Array Value)(I J:World->Prop)(i:Nat):Prop:=
 ∀is a v,I v->Bq ops i A a->(∀v',J v'->GW tb Q R fn (.inRegion ops is::k) (kQ (jX ops i) (dv ops A i) a) v')->GW tb Q R fn (.inRegion ops (i::is)::k) a v
theorem Stp.pu(U:∃F,PR.funcs[fn]?=some F)(h:vO ops i A=some A)(D:∀v,I v->J v):Stp tb Q R fn k ops A I J i:=by
 intro is a v K B g;replace K:=D v K;have e:=B.ex;unfold vO at h;cases hx:mc ops i A with
 |none=>rw[hx]at h;cases h
 |some s=>
  rw[hx]at h e;simp only at h;split at h
  ·rename_i x C;refine GW.ex U e (oo C v) (.inl rfl) rfl ?_;have H:=Option.some.inj h;cases hd:jX ops i with
   |none=>have:=g v K;rw[hd]at this;exact this
   |some j=>
    have Y:=g v K;rw[hd]at H Y;simp only[kQ,dv,hd]at H Y⊢;by_cases L:j<A.size
    ·have:A.getD j undef=x:=by rw[<-H];simp[ak,L]
     rw[this]at Y;exact Y
    ·rw[Array.setIfInBounds_eq_of_size_le (by rw[B.1];omega)]at Y⊢;exact Y
  ·cases h
theorem Stp.ld(Y:∃F,PR.funcs[fn]?=some F){t:TypeId}{y x:Value}(K:∀v,I v->(bD t y).run PR v=.ok x v/\J v)(h:mc ops i A=some (rU (bD t y)):=by kernel_rfl)(hx:dv ops A i=x:=by kernel_rfl):Stp tb Q R fn k ops A I J i:=
 fun is a v H D g=>GW.vl Y (D.ex.trans h) (K v H).1 rfl (hx▸g v (K v H).2)
theorem Stp.call(K:∃F,PR.funcs[fn]?=some F){f:FuncId}{x:Value}(U:∀v,I v->gW Q f args v fun y v'=>y=x/\J v')(Y:(ta ops i).map (Act.eval ⟨A,[]⟩)=args:=by kernel_rfl)(h:∀t,sP ops i t=some (f,(ta ops i).map (Act.eval ⟨t,[]⟩)):=by intro t;kernel_rfl)(D:(ta ops i).all (km K0)=true:=by kernel_rfl)(hx:dv ops A i=x:=by kernel_rfl):Stp tb Q R fn k ops A I J i:=
 fun is a v C B g=>GW.call K (U v C) (fun y v' H=>by rw[H.1,<-hx];exact g v' H.2) (B.os.trans Y) h D
theorem GW.ah3{md:Region.Mode}(I:Nat->Array Bool->Array Value->World->Prop)
  (K:∀listed i fuel t a v,I (fuel+1) listed a v->i∈Region.ready md ops listed->(∀a' v',I fuel (listed.setIfInBounds i true) a' v'->GW tb Q R fn (.inRegion ops (Region.linearise.go md ops fuel t (listed.setIfInBounds i true) [])::k) a' v')->GW tb Q R fn (.inRegion ops (i::Region.linearise.go md ops fuel t (listed.setIfInBounds i true) [])::k) a v)
  (Y:∀fuel listed a v,I fuel listed a v->fuel=0\/Region.ready md ops listed=[]->GW tb Q R fn (.inRegion ops []::k) a v):
  ∀fuel t listed a v,I fuel listed a v->GW tb Q R fn (.inRegion ops (Region.linearise.go md ops fuel t listed [])::k) a v:=by
 intro fuel;induction fuel with
 |zero=>intro t listed a v h;exact Y 0 listed a v h (.inl rfl)
 |succ fuel U=>
  intro t listed a v h;simp only[Region.linearise.go];change GW tb Q R fn (.inRegion ops (match(Region.ready md ops listed)[t%(Region.ready md ops listed).length]? with
   |some i=>Region.linearise.go md ops fuel (t/(Region.ready md ops listed).length) (listed.setIfInBounds i true) [i]
   |none=>[].reverse)::k) a v
  cases D:(Region.ready md ops listed)[t%(Region.ready md ops listed).length]? with
  |none=>
   have H:Region.ready md ops listed=[]:=by
    cases hr:Region.ready md ops listed with
    |nil=>rfl
    |cons x xs=>
     rw[hr]at D;have A:t%(x::xs).length<(x::xs).length:=Nat.mod_lt _ (by simp);simp at D;simp at A;omega
   exact Y (fuel+1) listed a v h (.inr H)
  |some i=>
   simp only[];rw[linearise_go_acc,List.reverse_singleton,List.singleton_append];exact K listed i fuel _ a v h (aK D) fun a' v' h'=>U _ _ a' v' h'
theorem ad0(h:WC ops listed A a){x:Operand}(hx:∀j∈Gk x,∀m,jX ops m=some j->listed.getD m false=true):Act.eval ⟨a,[]⟩ x=Act.eval ⟨A,[]⟩ x:=by
 cases x with
 |tmp j=>
  have:=h.2 j (hx j (by simp[Gk]));show a.getD j undef=A.getD j undef
  simp only[bU,this]
 |_=>rfl
theorem getD_set_ne{l:Array Bool}{i m:Nat}(h:m≠i):(l.setIfInBounds i true).getD m false=l.getD m false:=by
 simp only[bU,aM,if_neg (Ne.symm h)]
theorem TI{m:Nat}(h:jX ops m=some j):m<ops.size:=by
 unfold jX at h;cases e:ops[m]? with
 |none=>rw[e]at h;cases h
 |some o=>exact(bt.1 e).1
def z8(ops:Array Oper)(A:Array Value):Nat->Array Value->Array Value
 |0,a=>a
 |m+1,a=>kQ (jX ops m) (dv ops A m) (z8 ops A m a)
theorem ah4(n:Nat)(h:∀m,jX ops m≠some j):(z8 ops A n a)[j]?=a[j]?/\(z8 ops A n a).size=a.size:=by
 induction n with
 |zero=>exact⟨rfl,rfl⟩
 |succ n Y=>
  unfold z8 kQ;cases hd:jX ops n with
  |none=>exact Y
  |some d=>simp only[aM,Array.size_setIfInBounds];rw[if_neg (by rintro rfl;exact h n hd)];exact Y
theorem GW.TJ(Inv:Array Bool->World->Prop)(X:Inv (bY ops.size false) v)(L:List Nat)(hI:∀i∈L,∀listed v,Inv listed v->Inv (listed.setIfInBounds i true) v)(hM:∀i listed,i<ops.size->i∉L->listed.size=ops.size->listed.getD i true=false->(∀o,ops[i]?=some o->∀e∈o.after,ar .any e=true->listed.getD e.on false=true)->Stp tb Q R fn k ops A (Inv listed) (Inv (listed.setIfInBounds i true)) i)(g:∀v' listed,(∀m,m<ops.size->listed.getD m false=true)->Inv listed v'->GW tb Q R fn (.inRegion ops []::k) A v')(G:∃F,PR.funcs[fn]?=some F)
  (hL:L.map (fun i=>vO ops i A)=L.map (fun _=>some A):=by kernel_rfl)(hB:TH ops=true:=by kernel_rfl)(hA:z8 ops A ops.size a=A:=by kernel_rfl)(y:a.size=A.size:=by kernel_rfl):GW tb Q R fn (.code (.region id ops true)::k) a v:=by
 have st:∀i listed,i<ops.size->listed.size=ops.size->listed.getD i true=false->(∀o,ops[i]?=some o->∀e∈o.after,ar .any e=true->listed.getD e.on false=true)->Stp tb Q R fn k ops A (Inv listed) (Inv (listed.setIfInBounds i true)) i:=fun i listed C h1 h2 U=>by
  by_cases h:i∈L
  ·exact .pu G (jb hL h) (hI i h listed)
  ·exact hM i listed C h h1 h2 U
 have P:∀i,i<ops.size->∃o l,ops[i]?=some o/\(∀e∈o.after,ar .any e=true->e.on<i)/\zx o.op=some l/\∀x∈l,∀j∈Gk x,∀m,jX ops m=some j->∃e∈o.after,e.on=m/\ar .any e=true:=by
  intro i C;have h:=aP.1 hB i (bM.2 C);split at h
  ·rename_i o M;simp only[aN]at h;obtain⟨h1,h2⟩:=h;split at h2
   ·rename_i l Z;refine⟨o,l,M,fun e K hb=>by simpa[hb]using bq.1 h1 e K,Z,fun x hx j J m Y=>?_⟩;have U:=aP.1 (aP.1 (aP.1 h2 x hx) j J) m (bM.2 (TI Y));rw[Y]at U;simp only[beq_self_eq_true,Bool.not_true,Bool.false_or]at U;obtain⟨e,K,z⟩:=bS.1 U;simp only[aN,beq_iff_eq]at z;exact⟨e,K,z⟩
   ·cases h2
  ·cases h
 have Gi:∀(listed:Array Bool) i,i∈Region.ready .any ops listed↔i<ops.size/\listed.getD i true=false/\∃o,ops[i]?=some o/\∀e∈o.after,ar .any e=true->listed.getD e.on false=true:=by
  intro listed i;unfold Region.ready;simp only[List.mem_filter,bM,aN,bZ];refine and_congr_right fun C=>and_congr_right fun _=>?_;rw[bV C];simp only[aU,az,Option.some.injEq,exists_eq_left',bq];refine forall_congr' fun e=>forall_congr' fun K=>?_;cases ar .any e<;>simp
 refine GW.draw fun t=>GW.ah3 (fun fuel listed a v=>listed.size=ops.size/\listed.toList.countP (fun b=>!b)<=fuel/\WC ops listed A a/\Inv listed v) ?_ ?_ _ t _ a v ⟨by simp,?_,⟨y,?_⟩,X⟩
 ·rintro listed i fuel t a v ⟨V,z2,ag,X⟩ C f;obtain⟨h1,h2,o,M,U⟩:=(Gi listed i).1 C;obtain⟨o',l,N,_,Z,hx⟩:=P i h1;obtain rfl:=Option.some.inj (M.symm.trans N);refine st i listed h1 V h2 (fun o' N e K hb=>by cases M.symm.trans N;exact U e K hb) _ a v X ⟨ag.1,o,l,M,Z,fun x q=>ad0 ag fun j J m Y=>?_⟩ fun v' W=>f _ v' ⟨by simpa using V,?_,?_,W⟩
  ·obtain⟨e,K,rfl,hb⟩:=hx x q j J m Y;exact U e K hb
  ·have H:i<listed.toList.length:=by simpa[V]using h1
   have hb:listed.toList[i]=false:=by
    have:listed.getD i true=listed[i]'(by simpa using H):=by simp[ak,show i<listed.size by simpa using H]
    rw[this]at h2;simpa using h2
   have r:0<listed.toList.countP (fun b=>!b):=List.countP_pos_iff.2 ⟨_,aI H,by rw[hb];rfl⟩;rw[Array.toList_setIfInBounds,List.countP_set H,hb];show listed.toList.countP (fun b=>!b)-1+0<=fuel
   omega
  ·refine⟨by rw[<-ag.1];unfold kQ;split<;>simp,fun j J=>?_⟩;have other:jX ops i≠some j->a[j]?=A[j]?:=fun E=>ag.2 j fun m Y=>by
    have:=J m Y
    rwa [getD_set_ne (by rintro rfl;exact E Y)]at this
   unfold kQ dv;cases hd:jX ops i with
   |none=>exact other (by rw[hd];simp)
   |some d=>
    simp only;by_cases B:d=j
    ·subst B;rw[aM,if_pos rfl];by_cases D:d<a.size
     ·rw[if_pos D,bV (by rw[<-ag.1];exact D)];simp[ak,show d<A.size by rw[<-ag.1];exact D]
     ·rw[if_neg D,br (by rw[<-ag.1];omega)]
    ·rw[aM,if_neg B];exact other (by rw[hd];simpa using B)
 ·rintro fuel listed a v ⟨V,z2,ag,X⟩ T;have all:∀m,m<ops.size->listed.getD m false=true:=by
   rcases T with O|O
   ·subst O;have O:=List.countP_eq_zero.1 (Nat.le_zero.1 z2);intro m Y;have I:m<listed.size:=by omega
    have:=O listed[m] (by simp);simp[ak,I];simpa using this
   ·intro m;induction m using bO with
    |ind m c=>
     intro Y;have I:m<listed.size:=by omega
     cases hb:listed[m]with
     |true=>simp[ak,I,hb]
     |false=>
      exfalso;obtain⟨o,l,M,S,_,_⟩:=P m Y;have:m∈Region.ready .any ops listed:=(Gi listed m).2 ⟨Y,by simp[ak,I,hb],o,M,fun e K hb=>c e.on (S e K hb) (by have:=S e K hb;omega)⟩;rw[O]at this;cases this
  have:a=A:=by
   apply bT;intro j;exact ag.2 j fun m Y=>all m (TI Y)
  rw[this];exact g v listed all X
 ·have:=List.countP_le_length (p:=fun b=>!b) (l:=(bY ops.size false).toList);simpa using this
 ·intro j J;have:=(ah4 (ops:=ops) (A:=A) (a:=a) ops.size (j:=j) fun m e=>by
   have:=J m e;simp[ak]at this).1
  rwa [hA,eq_comm]at this
theorem GW.zy(Inv:World->Prop)(M:Inv v)(L:List Nat)(C:∀i,i<ops.size->i∉L->Stp tb Q R fn k ops A Inv Inv i)(g:∀v',Inv v'->GW tb Q R fn (.inRegion ops []::k) A v')(Y:∃F,PR.funcs[fn]?=some F)
  (B:L.map (fun i=>vO ops i A)=L.map (fun _=>some A):=by kernel_rfl)(U:TH ops=true:=by kernel_rfl)(D:z8 ops A ops.size a=A:=by kernel_rfl)(K:a.size=A.size:=by kernel_rfl):GW tb Q R fn (.code (.region id ops true)::k) a v:=
 GW.TJ (fun _=>Inv) M L (fun _ _ _ _ h=>h) (fun i _ h1 h2 _ _ _=>C i h1 h2) (fun v' _ _ h=>g v' h) Y B U D K
end
section
variable{Q:QT}{R:Value->World->Prop}{v:World}{fn:FuncId}{k:List Item}{a:Array Value}
theorem GW.Uz(Y:∃F,PR.funcs[fn]?=some F)(x y:Nat)(hr:R (.tuple #[a.getD x undef,a.getD y undef]) v)(h:∀t c cs,gF PR 2 ((bf fn).at ⟨t,[]⟩ (.code .ret::k)) (c::cs)=(c.finish (.tuple #[t.getD x undef,t.getD y undef]),cs):=by intro t c cs;kernel_rfl):GW false Q R fn (.code .ret::k) a v:=by
 intro r Z w t l H D K I;obtain⟨c,cs,rfl⟩:=Dt H;refine gu.pure 2 fun w' hk=>?_;rw[h];have ev:∀n:Nat,@V gv r (a.getD n undef) (t.getD n undef):=fun n=>yP Y D K.gi (x:=.tmp n) trivial;refine I r Z _ _ v w' (fun _ _ e=>e) ?_ (K.quiet hk) (.qt hk) hr
 letI:=gv
 refine .tuple rfl fun i p p' e e'=>?_;have A:i<2:=by
  have:=(bt.1 e).1;simpa using this
 have:i=0\/i=1:=by omega
 rcases this with rfl|rfl<;>cases e<;>cases e'<;>exact ev _
end
theorem gW.mono{Q:QT}{R K:Value->World->Prop}{v:World}{f:FuncId}(g:gW Q f args v R)(h:∀x v',R x v'->K x v'):gW Q f args v K:=
 fun r Z w Y c cs U A B=>g r Z w Y c cs U A fun r' Z' x x' v' w' h1 h2 H D I=>B r' Z' x x' v' w' h1 h2 H D (h _ _ I)
def j7(c:Int)(n:Nat):Int:=ax.wrap (1+(kN c n:Nat))
theorem ah5{c:Int}{n:Nat}(h:0<n)(h2:n<=1000):j7 c n=1+(kN c n:Nat):=by
 have:=wN c h;unfold j7;rw[Go.IntWalk.i64_in _ (by omega)]
theorem y_{Q:QT}{v v1:World}{c:Int}{n:Nat}(Y:k_ c)(h1:1<=n)(h2:n<=1000)(K:Kw v1 v):gW Q 19 #[i6 c,i6 n] v fun y v'=>y=i6 (kN c n:Nat)/\Kw v1 v':=
 aL (R:=fun y v'=>y=i6 (kN c n:Nat)/\Kw v1 v') (by decide) fun T=>(QK c n (tp v T) Y h1 h2).mono fun e w' h=>⟨_,h.1,rfl,by rw[h.2];exact K⟩
noncomputable def z_:Code:=Tryz.f22.body.getD .skip
theorem ajU:Tryz.f22.body=some z_:=by kernel_rfl
def WE:Array Oper:=opsOf (cp [2,1] z_)
theorem ad1:WE.size=23:=by kernel_rfl
def slK(ref reads:ByteArray)(k q s wk:Int)(B:Nat)(S:ByteArray)(E P:Int):Array Value:=
 #[.string ref,.string reads,i6 k,.agg #[i6 q,i6 s,i6 wk],undef,undef,undef,ptr B,.string ⟨#[]⟩,i6 0,.string S,i6 E,i6 P,.tuple #[.string S,i6 E,i6 P],.string ref,.string reads,i6 k,
  rk B 0,i6 q,i6 (kN q 8:Nat),i6 (j7 q 8),rk B 1,i6 s,i6 (kN s 200:Nat),i6 (j7 s 200),rk B 2,i6 wk,i6 (kN wk 8:Nat),i6 (j7 wk 8),.tuple #[.string S,i6 E,i6 P],.string S,i6 E,i6 P,undef,undef]
section
variable{Q:QT}{v:World}{ref reads:ByteArray}{k q s wk:Int}
theorem IC(h1:ref.size<=maxLen)(h2:reads.size<=maxLen)(B:k_ q)(C:k_ s)(hw:k_ wk)(D:lq v)(U:iU v):
  gW Q 22 #[.string ref,.string reads,i6 k,.agg #[i6 q,i6 s,i6 wk]] v fun x v'=>x=.tuple #[.string (qv ref reads k (j7 q 8) (j7 s 200) (j7 wk 8)),i6 (nk ref reads k (j7 q 8) (j7 s 200) (j7 wk 8))]/\Kw v v':=by
 have Y:∃F,PR.funcs[22]?=some F:=⟨_,Tryz.func22⟩;refine gW.of (n:=35) Tryz.func22 ajU (by kernel_rfl) ?_;refine GW.run 2 (k':=[.inRegion (opsOf (cp [1] z_)) [0,1,2],.code (cp [2] z_)]) ?_;refine GW.bx Y (t:=28) (y:=.agg #[i6 q,i6 s,i6 wk]) fun v1 H l1 c1=>?_;replace c1:v1.heap[v.heap.size]?=some (.cells #[i6 q,i6 s,i6 wk] 28):=c1;refine ae Y [1,2] ?_;refine GW.run 2 (k':=[.code (.region 1 WE true),.code (cp [2,2] z_)]) ?_;refine GW.zy (A:=slK ref reads k q s wk v.heap.size (qv ref reads k (j7 q 8) (j7 s 200) (j7 wk 8)) (nk ref reads k (j7 q 8) (j7 s 200) (j7 wk 8)) (vs ref reads)) (Kw v1) (.refl v1) [0,1,2,3,6,7,10,11,14,16,17,18,19,20,21,22] ?_ ?_ Y
 ·intro i R I;rw[ad1]at R;have:i=4\/i=8\/i=12\/i=5\/i=9\/i=13\/i=15:=by simp at I;omega
  rcases this with rfl|rfl|rfl|rfl|rfl|rfl|rfl
  ·exact .ld Y fun u K=>⟨mO 0 Bm (K.at c1) rfl,K⟩
  ·exact .ld Y fun u K=>⟨mO 1 Bm (K.at c1) rfl,K⟩
  ·exact .ld Y fun u K=>⟨mO 2 Bm (K.at c1) rfl,K⟩
  ·exact .call Y fun u K=>y_ (n:=8) B (by omega) (by omega) K
  ·exact .call Y fun u K=>y_ (n:=200) C (by omega) (by omega) K
  ·exact .call Y fun u K=>y_ (n:=8) hw (by omega) (by omega) K
  ·exact .call Y fun u K=>gW.mono (Ki (k:=k) (q:=j7 q 8) (st:=j7 s 200) (wk:=j7 wk 8) h1 h2 ((H.trans K).tabs D) ((H.trans K).qU D U)) fun y v' h=>⟨h.1,K.trans h.2⟩
 ·intro v2 K;refine GW.run 3 (k':=[.inRegion (opsOf (cp [2,2,1] z_)) [0,1,2,3],.code .ret]) ?_;refine ae Y [0,1,2,3] ?_;refine GW.run 1 (k':=[.code .ret]) ?_;exact GW.Uz Y 8 9 ⟨by kernel_rfl,H.trans K⟩
end
noncomputable def td:Code:=bj.body.getD .skip
theorem ajV:bj.body=some td:=by kernel_rfl
def MS(S T:ByteArray)(p q:Int)(u:Nat->Value):Array Value:=
 #[.bool false,.string S,i6 0,i6 p,.string T,i6 0,i6 q,u 7,u 8,u 9,u 10,u 11,u 12,u 13,u 14,u 15,u 16,u 17,u 18,u 19,u 20,u 21,u 22,u 23,u 24,u 25,u 26,u 27,u 28,u 29,u 30,u 31,u 32]
section
variable{Q:QT}{v:World}
theorem ajW{p:Int}(K:Kw v w):(cp [2,2,2] td).wp PR (bodyPost PR bj fun e v'=>∃x,e=.returned x/\x=.bool true/\Kw v v') ⟨MS Ms Mt p q u,[]⟩ w:=by
 unfold td bj MS;simp only[az,cp];go_wp2
 go_ret
 exact⟨_,rfl,rfl,K⟩
theorem af6(K:lq v)(D:iU v):gW Q 16 #[] v fun x v'=>x=.bool true/\Kw v v':=by
 have Y:∃F,PR.funcs[16]?=some F:=⟨_,bQ⟩;refine gW.of (n:=33) bQ ajV (by kernel_rfl) ?_;refine GW.run 2 (k':=[.inRegion (opsOf (cp [1] td)) [0],.code (cp [2] td)]) ?_;refine ae Y [0] ?_;refine GW.run 3 (k':=[.inRegion (opsOf (cp [2,1] td)) [0,1,2,3,4,5,6,7],.code (cp [2,2] td)]) ?_;refine GW.call Y (Ki (ref:=vM) (reads:=Gb) (k:=0) (q:=2) (st:=4) (wk:=3) (by decide) (by decide) K D) ?_;rintro x v1 ⟨rfl,H⟩;refine ae Y [1,2,3,4,5,6,7] ?_;refine GW.run 3 (k':=[.inRegion (opsOf (cp [2,2,1] td)) [0,1,2,3,4,5,6,7],.code (cp [2,2,2] td)]) ?_;refine GW.call Y (Ki (ref:=vM) (reads:=EP) (k:=1) (q:=1) (st:=3) (wk:=2) (by decide) (by decide) (H.tabs K) (H.qU K D)) ?_;rintro x v2 ⟨rfl,R⟩;refine ae Y [1,2,3,4,5,6,7] ?_;refine GW.run 1 (k':=[.code (cp [2,2,2] td)]) ?_;rw[akH,Us,akI,Ut];refine GW.any (fun u=>MS Ms Mt (vs vM Gb) (vs vM EP) u) (by kernel_rfl) fun u=>?_;exact GW.rest bQ (by kernel_rfl) fun T=>ajW (H.trans R)
end
def Be(f:FuncId)(args:Array Value)(y:Value):Prop:=∀(Qq:QT) (Z:Loc->Prop) (w:World) (c:Frame) (cs:List Frame),PR.globals.size<=w.heap.size->lq w->iU w->(∀g,g=0\/g=2\/g=3->iV Z g)->
 (∀Z' w',(∀l,Z l->Z' l)->(∀l,Z' l->Z l\/∃a:Addr,l=.cell a/\w.heap.size<=a.block)->gU Z w w'->gu PR Qq Z' (c.finish y) cs w')->gu PR Qq Z (Frame.enter PR f args .normal) (c::cs) w
theorem JM{f:FuncId}{y:Value}(hb:args.all (ng 3)=true)(O:vg 1 y=true)(h:∀Q v,lq v->iU v->gW Q f args v fun x v'=>x=y/\Kw v v'):Be f args y:=by
 intro J Z w c cs D A H B S
 letI:=gv
 obtain⟨K,R⟩:∃K:Nat->Prop,∀a,K a↔(a=0\/a=2\/a=3):=⟨_,fun _=>Iff.rfl⟩;have I:GI (mG K):=fun g N=>si ((R g).2 (by
  have:([0,2,3].contains g)=true:=N;simpa using this))
 have C:∀b,¬gB.ro b:=fun b h=>h;have U:W (mG K) 0 w w:=Ji C D fun b hb=>by
  obtain⟨T,t,fz,h,hp⟩:=A b ((R b).1 hb);exact⟨_,h,DJ _ _ fun x hx=>by obtain⟨k,n,rfl⟩:=hp x hx;exact .int _ _⟩
 refine h J w A H (mG K) Z w args c cs ⟨rfl,fun i z V e e'=>?_⟩ ⟨U,I,fun a y=>B a ((R a).1 (yL.1 y))⟩ fun r' Z' x x' v' w' h1 h2 L Y M=>?_
 ·obtain rfl:=Option.some.inj (e.symm.trans e');exact Ao (bq.1 hb _ (bX e))
 ·obtain⟨rfl,hk⟩:=M;obtain rfl:=QX O h2;refine S Z' w' Y.more Y.only ⟨fun a F P=>?_,Y.ke.grow,Y.ke.tape,Y.ke.env,Y.ke.output⟩;by_cases y:K a
  ·exact(L.tabs (Kw.tabs hk A) a ((R a).1 y)).trans (hk a F)
  ·exact Y.kept a F (fun z=>y (yL.1 z)) P
theorem ID:Be 16 #[] (.bool true):=JM (by kernel_rfl) rfl fun Q v h1 h2=>af6 h1 h2
theorem af7{c:Int}{n:Nat}(Y:k_ c)(h1:1<=n)(h2:n<=1000):Be 19 #[ii c,ii n] (ii (kN c n:Nat)):=JM (by kernel_rfl) rfl fun Q v _ _=>y_ Y h1 h2 (.refl v)
abbrev mJ(site:List Item)(al:List (Nat×Value))(J:Nat->Value):Frame:=kR 18 35 site (sA al) J
def mb(sl:Value)(m i:Int)(s:ByteArray):List (Nat×Value):=[(0,sl),(1,ii m),(5,.string s),(6,ii i)]
def zm:List (Nat×Value):=mb (.slice none 0 0) 0 0 ⟨#[]⟩
abbrev uV:Nat->Value:=fun _=>undef
def mH:List Item:=(gF PR 22 (Frame.enter PR 18 #[.slice none 0 0,ii 0] .normal) []).1.todo
abbrev WH (site:List Item) (al:List (Nat×Value)):List Item:=(gY PR 60 (mJ site al uV) []).1.todo
abbrev WI (site:List Item) (al:List (Nat×Value)) (v:Value):List Item:=(gY PR 60 ((mJ site al uV).finish v) []).1.todo
def mC:List Item:=WH mH (zm++[(11,.bool false)])
def EU:List Item->Code
 |.code (.cond _ a _)::_=>a
 |_=>.skip
def zz:List Item->Code
 |.code (.cond _ _ b)::_=>b
 |_=>.skip
def mI:List Item:=WH (.code (EU mC)::mC.tail) zm
def Gl(m:List (Nat×Value))(sl:Value)(i:Int):List (Nat×Value):=m++[(19,sl),(20,ii i)]
def mL:List Item:=WI mI (Gl zm (.slice none 0 0) 0) (ptr 0)
def MT(m:List (Nat×Value))(p:Addr):List (Nat×Value):=m++[(21,.pointer (some p))]
def mP:List Item:=WI mL (MT zm ⟨0,0,none⟩) (ii 0)
def Cc(m:List (Nat×Value))(z:Int):List (Nat×Value):=m++[(22,ii z)]
def MU(v:Nat):UInt8:=if v=24 then 78 else [65,67,71,84].getD (v%4) 0
section
variable{m i z:Int}{s:ByteArray}{a:Option Addr}{len cap:Nat}{p:Addr}{J:Nat->Value}{l:List Frame}{c:Frame}{t:Bool}
abbrev ms(a:Option Addr)(len cap:Nat)(m i:Int)(s:ByteArray):List (Nat×Value):=mb (.slice a len cap) m i s
theorem mt0:look [0,1,5,6,11] (gF PR 22 (Frame.enter PR 18 #[.slice a len cap,ii m] .normal) l)=iz 18 35 l mH (ms a len cap m 0 ⟨#[]⟩++[(11,.bool (decide ((0:Int)<(len:Int))))]) none none:=by kernel_rfl
theorem WJ:look [0,1,5,6,16] (gY PR 60 (mJ mH (ms a len cap m i s++[(11,.bool true)]) J) l)=iz 18 35 l mC (ms a len cap m i s++[(16,.bool (decide (i<m)))]) none none:=by kernel_rfl
theorem WK:look [0,1,5,6,16] (gY PR 60 (mJ mH (ms a len cap m i s++[(11,.bool false)]) J) l)=iz 18 35 l mC (ms a len cap m i s++[(16,.bool false)]) none none:=by kernel_rfl
theorem Kk:mC=.code (.cond (.tmp 16) (EU mC) (zz mC))::mC.tail:=by kernel_rfl
theorem mt3:look [0,1,5,6,19,20] (gY PR 60 (mJ (.code (EU mC)::mC.tail) (ms a len cap m i s) J) l)=iz 18 35 l mI (Gl (ms a len cap m i s) (.slice a len cap) i) none none:=by kernel_rfl
theorem ah6:(opAt (mJ mI (Gl (ms a len cap m i s) (.slice a len cap) i) J)).map (fun o=>o.op)=some (.indexAddr 25 (.tmp 19) (.tmp 20)):=by kernel_rfl
theorem mt4:look [0,1,5,6,21] (gY PR 60 ((mJ mI (Gl (ms a len cap m i s) (.slice a len cap) i) J).finish (.pointer (some p))) l)=iz 18 35 l mL (MT (ms a len cap m i s) p) none (some (3,.pointer (some p))):=by kernel_rfl
theorem mt5:look [0,1,5,6,22] (gY PR 60 ((mJ mL (MT (ms a len cap m i s) p) J).finish (ii z)) l)=iz 18 35 l mP (Cc (ms a len cap m i s) z) (some (19,#[ii z,ii 25])) none:=by kernel_rfl
theorem ah7:gF PR 1 (mJ mP (Cc (ms a len cap m i s) z) J) l=(Frame.enter PR 19 #[ii z,ii 25] .normal,mJ mP (Cc (ms a len cap m i s) z) J::l):=by kernel_rfl
def mA:List Item:=(gF PR 18 ((mJ mP (Cc zm 0) uV).finish (ii 24)) []).1.todo
def MV(m:List (Nat×Value))(s t:ByteArray):List (Nat×Value):=m++[(28,.string s),(32,.string t)]
theorem mt6{v:Nat}(Y:v<25):look [0,1,5,6,28,32] (gF PR (if v=24 then 18 else 20) ((mJ mP (Cc (ms a len cap m i s) z) J).finish (ii v)) l)=iz 18 35 l mA (MV (ms a len cap m i s) s ⟨#[MU v]⟩) none none:=by
 have:v=0\/v=1\/v=2\/v=3\/v=4\/v=5\/v=6\/v=7\/v=8\/v=9\/v=10\/v=11\/v=12\/v=13\/v=14\/v=15\/v=16\/v=17\/v=18\/v=19\/v=20\/v=21\/v=22\/v=23\/v=24:=by omega
 rcases this with rfl|rfl|rfl|rfl|rfl|rfl|rfl|rfl|rfl|rfl|rfl|rfl|rfl|rfl|rfl|rfl|rfl|rfl|rfl|rfl|rfl|rfl|rfl|rfl|rfl<;>(show _=_;kernel_rfl)
theorem ah8{r:ByteArray}:(opAt (mJ mA (MV (ms a len cap m i s) s r) J)).map (fun o=>o.op)=some (.binOp .add 9 (.tmp 28) (.tmp 32) 9):=by kernel_rfl
theorem mt8{r u:ByteArray}:look [0,1,5,6,11] (gF PR 16 ((mJ mA (MV (ms a len cap m i s) s r) J).finish (.string u)) l)=iz 18 35 l mH (ms a len cap m (ax.wrap (i+1)) u++[(11,.bool (decide (ax.wrap (i+1)<(len:Int))))]) none none:=by kernel_rfl
theorem WL:gF PR 8 (mJ (.code (zz mC)::mC.tail) (ms a len cap m i s) J) (c::l)=(c.finish (.string s),l):=by kernel_rfl
end
theorem ab5:(PR.funcs[18]?).any (·.norace)=false:=by kernel_rfl
theorem ajX:PR.underlying 25=some (.slice (PR.elem 25)):=by kernel_rfl
theorem ah9:(PR.info? (PR.elem 25)).map (·.size)=some 1:=by kernel_rfl
theorem Dc{f:Frame}{x y:Operand}(h:(opAt f).map (fun o=>o.op)=some (.binOp .add 9 x y 9)){s t:ByteArray}(hx:f.eval x=.string s)(Y:f.eval y=.string t)(D:s.size+t.size<=100000000)(w:World):
  stepG PR main (G f cs) w=.go (G (f.finish (.string (s++t))) cs) w #[]:=by
 obtain⟨op,H,gC⟩:=sD h;have hr:(execOp f.eval op).run PR w=.ok (.value (.string (s++t))) w:=by
  unfold execOp;simp only[gC,hx,Y];simp[go_sem,run_string_add_sum (P:=PR) (w:=w) s t (by omega)]
 have K:(execOp f.eval op).events PR w #[]=#[]:=by
  unfold execOp;simp only[gC,hx,Y];simp[go_sem,Op.stringOp]
 rw[pj H hr,K,seen_none]
theorem gU.on{Z0 Z:Loc->Prop}{wa wb:World}(only:∀l,Z l->Z0 l\/∃a:Addr,l=.cell a/\w0.heap.size<=a.block)(Y:gU Z0 w0 wa)(gb:gU Z wa wb):gU Z0 w0 wb:=
 ⟨fun a K H=>(gb.old a (bN K Y.grow) (su only H K)).trans (Y.old a K H),ao Y.grow gb.grow,gb.tape.trans Y.tape,gb.env.trans Y.env,gb.output.trans Y.output⟩
structure Here(Z0:Loc->Prop)(w0:World):Prop where
 low:PR.globals.size<=w0.heap.size
 tabs:lq w0
 jb:iU w0
 off:∀b,b<w0.heap.size->iV Z0 b
theorem Here.gl{Z0:Loc->Prop}(h:Here Z0 w0){g:Nat}(Y:g=0\/g=2\/g=3):g<w0.heap.size:=by
 obtain⟨_,_,_,e,_⟩:=h.tabs g Y;exact jQ e
theorem Here.call{Z0 Z:Loc->Prop}{f:FuncId}{y:Value}{Qq:QT}{c:Frame}(h:Here Z0 w0)(r:Be f args y)(more:∀l,Z0 l->Z l)(only:∀l,Z l->Z0 l\/∃a:Addr,l=.cell a/\w0.heap.size<=a.block)(g:gU Z0 w0 w)
  (k:∀Z' w',(∀l,Z0 l->Z' l)->(∀l,Z' l->Z0 l\/∃a:Addr,l=.cell a/\w0.heap.size<=a.block)->gU Z0 w0 w'->gu PR Qq Z' (c.finish y) cs w'):gu PR Qq Z (Frame.enter PR f args .normal) (c::cs) w:=by
 have Y:∀g,g=0\/g=2\/g=3->w.heap[g]?=w0.heap[g]?:=fun b hb=>g.old b (h.gl hb) (h.off b (h.gl hb));refine r Qq Z w c cs (ao h.low g.grow) (h.tabs.same Y) (Aq h.jb (Y 0 (.inl rfl))) (fun b hb=>su only (h.off b (h.gl hb)) (h.gl hb)) fun Z' w' m o K=>?_;exact k Z' w' (fun l y=>m l (more l y)) (fun l y=>(o l y).elim (only l) fun⟨a,e,q⟩=>.inr ⟨a,e,ao g.grow q⟩) (g.on only K)
section
variable{Qq:QT}{Z0:Loc->Prop}{w0:World}{c:Frame}{cs:List Frame}{b off len cap most:Nat}{zs:Nat->Int}
theorem ab6(F:most<=60)(B:∀i,i<len->w0.cell? ⟨b,off+i,none⟩=some (ii (zs i))/\k_ (zs i))(H:Here Z0 w0)
  (y:∀Z' w',(∀l,Z0 l->Z' l)->(∀l,Z' l->Z0 l\/∃a:Addr,l=.cell a/\w0.heap.size<=a.block)->gU Z0 w0 w'->gu PR Qq Z' (c.finish (.string (str (iS zs (min len most))))) cs w'):
  ∀n i,i+n=min len most->∀Z J w,(∀l,Z0 l->Z l)->(∀l,Z l->Z0 l\/∃a:Addr,l=.cell a/\w0.heap.size<=a.block)->gU Z0 w0 w->gu PR Qq Z (mJ mH (ms (some ⟨b,off,none⟩) len cap most i (str (iS zs i))++[(11,.bool (decide ((i:Int)<(len:Int))))]) J) (c::cs) w:=by
 intro n;induction n with
 |zero=>
  intro i o Z J w more only G;have fin:∀f w1,kJ 18 35 mC (sA (ms (some ⟨b,off,none⟩) len cap most i (str (iS zs i))++[(16,.bool false)])) f->gU Z0 w0 w1->gu PR Qq Z f (c::cs) w1:=by
   intro f w1 g Q;refine gu.Kj false g Kk rfl fun J w2 U _=>?_;refine gu.pure 8 fun w3 u=>?_;change gu PR Qq Z (gF PR 8 (mJ (.code (zz mC)::mC.tail) (ms (some ⟨b,off,none⟩) len cap most i (str (iS zs i))) J) (c::cs)).1 (gF PR 8 (mJ (.code (zz mC)::mC.tail) (ms (some ⟨b,off,none⟩) len cap most i (str (iS zs i))) J) (c::cs)).2 w3;rw[WL];obtain rfl:i=min len most:=by omega
   exact y Z w3 more only ((Q.on only U).on only (gU.of u))
  by_cases h:i<len
  ·rw[show decide ((i:Int)<(len:Int))=true from decide_eq_true (by omega)];refine aD 60 _ rfl WJ rfl fun N w1 g1 _ _ _ Y=>?_;rw[show decide ((i:Int)<(most:Int))=false from decide_eq_false (by omega)]at Y⊢;exact fin _ w1 Y (G.on only g1)
  ·rw[show decide ((i:Int)<(len:Int))=false from decide_eq_false (by omega)];refine aD 60 _ rfl WK rfl fun N w1 g1 _ _ _ Y=>?_;exact fin _ w1 Y (G.on only g1)
 |succ n s=>
  intro i o Z J w more only G;have R:i<len:=by omega
  have p:i<most:=by omega
  obtain⟨I,r⟩:=B i R;have A:b<w0.heap.size:=block_lt_of_cell I;rw[show decide ((i:Int)<(len:Int))=true from decide_eq_true (by omega)];refine aD 60 _ rfl WJ rfl fun N w1 g1 _ _ _ Y=>?_;refine gu.Kj (decide ((i:Int)<(most:Int))) Y Kk rfl fun T w2 U _=>?_;rw[show decide ((i:Int)<(most:Int))=true from decide_eq_true (by omega)];change gu PR Qq Z (mJ (.code (EU mC)::mC.tail) (ms (some ⟨b,off,none⟩) len cap most i (str (iS zs i))) T) (c::cs) w2;refine aD 60 _ rfl mt3 rfl fun k w3 X _ _ _ K=>?_;refine gu.still (fun w4=>adU ah6 (K.slot 19 _ rfl) (K.slot 20 _ rfl) R ajX ah9 w4) fun w4 E _=>?_;refine aD 60 _ rfl mt4 rfl fun e m W _ _ L _=>?_;have M:=G.on only ((((g1.trans U).trans X).trans E).trans W);have C:m.cell? ⟨b,off+i *1,none⟩=some (ii (zs i)):=by
   rw[Nat.mul_one,<-I];simp only[ah,M.old b A (H.off b A)]
  refine gu.read (a:=⟨b,off+i *1,none⟩) (fun w' I=>sa L Bm I ab5) C (su only (H.off b A) A) fun w6 q=>?_;refine aD 60 _ rfl mt5 rfl fun J7 w7 j _ _ _ _=>?_;refine gu.pure 1 fun w8 v=>?_;rw[ah7];refine H.call (af7 (n:=25) r (by omega) (by omega)) more only (((M.on only q).on only j).on only (gU.of v)) fun Z' w9 x O S=>?_;refine gu.KQ (if kN (zs i) 25=24 then 18 else 20) _ rfl (mt6 (wN (zs i) (by omega))) rfl fun JA wA gA _ _ _ D=>?_;refine gu.still (fun P=>Dc ah8 (D.slot 28 _ rfl) (D.slot 32 _ rfl) (by have:(str (iS zs i)).size=i:=(gV _).trans (sb zs i);have:(⟨#[MU (kN (zs i) 25)]⟩:ByteArray).size=1:=rfl;omega) P) fun P z _=>?_;refine gu.KQ 16 _ rfl mt8 rfl fun V t d _ _ _ _=>?_;rw[D6 (by unfold maxLen;omega),show MU (kN (zs i) 25)=Ba (zs i)from rfl,H_,<-Z9];exact s (i+1) (by omega) Z' V t x O (S.on O ((gA.trans z).trans d))
theorem yQ{a:Option Addr}{Z:Loc->Prop}(h:pq w0 a len zs)(Y:most<=60)(H:Here Z0 w0)(more:∀l,Z0 l->Z l)(only:∀l,Z l->Z0 l\/∃a:Addr,l=.cell a/\w0.heap.size<=a.block)(G:gU Z0 w0 w)
  (D:∀Z' w',(∀l,Z0 l->Z' l)->(∀l,Z' l->Z0 l\/∃a:Addr,l=.cell a/\w0.heap.size<=a.block)->gU Z0 w0 w'->gu PR Qq Z' (c.finish (.string (str (iS zs (min len most))))) cs w'):
  gu PR Qq Z (Frame.enter PR 18 #[.slice a len cap,ii most] .normal) (c::cs) w:=by
 refine gu.KQ 22 _ rfl mt0 rfl fun J w1 g1 _ _ _ _=>?_;rcases h with rfl|⟨b,off,rfl,_,K⟩
 ·refine aD 60 _ rfl WK rfl fun B w2 R _ _ _ A=>?_;refine gu.Kj false A Kk rfl fun J w3 I _=>?_;refine gu.pure 8 fun w4 U=>?_;change gu PR Qq Z (gF PR 8 (mJ (.code (zz mC)::mC.tail) (ms a 0 cap most 0 ⟨#[]⟩) J) (c::cs)).1 (gF PR 8 (mJ (.code (zz mC)::mC.tail) (ms a 0 cap most 0 ⟨#[]⟩) J) (c::cs)).2 w4;rw[WL];have:=D Z w4 more only (G.on only (((g1.trans R).trans I).trans (gU.of U)))
  rwa [Nat.zero_min]at this
 ·exact ab6 Y K H D (min len most) 0 (by omega) Z J w1 more only (G.on only g1)
end
theorem GW.zB{Q:QT}{R:Value->World->Prop}{v:World}{k:List Item}{a:Array Value}(Y:∃F,PR.funcs[fn]?=some F)(x:Nat)(hr:R (a.getD x undef) v)(h1:∀t,(gF PR 1 ((bf fn).at ⟨t,[]⟩ (.code .ret::k)) []).2=[]:=by intro t;kernel_rfl)(h:∀t u,stepG PR true (G (gF PR 1 ((bf fn).at ⟨t,[]⟩ (.code .ret::k)) []).1 []) u=.ended (.done (t.getD x undef)) u #[]:=by intro t u;kernel_rfl):GW true Q R fn (.code .ret::k) a v:=by
 intro r Z w t l H D K I;obtain rfl:l=[]:=List.isEmpty_iff.1 H;refine gu.pure 1 fun w' hk=>?_;rw[h1];exact I r Z _ _ v w' (fun _ _ e=>e) (yP Y D K.gi (x:=.tmp x) trivial) (K.quiet hk) (.qt hk) hr _ (h t)
def blk:Value->Value
 |.slice .. =>.tuple #[]
 |x=>x
theorem Jb{Y:Value->World->Prop}{n:Nat}{al:List (Nat×Value)}{Z:Loc->Prop}{W0:World}(hp:∀O d,gU (fun _=>False) W0 O->Y (.bool true) (O.at d))(H:Here (fun _=>False) W0)(only:∀l,Z l->False\/∃a:Addr,l=.cell a/\W0.heap.size<=a.block)(D:gU (fun _=>False) W0 w)
  (C:∀b∈Bs,W0.heap.size<=b/\iV Z b/\∃x y z:Int,w.heap[b]?=some (.cells #[ii x,ii y,ii z] 28))
  (M:∀p∈al,(∃a l c,p.2=.slice a l c)\/ng 3 p.2=true\/∃b∈Bs,p.2=ptr b)
  (g:lq w->iU w->GW true (Ren.Ends PR Y) (fun x v'=>x=.bool true/\Kw w v') fn site ((TN n (sA al) fun _=>undef).map blk) w):
  gu PR (Ren.Ends PR Y) Z (kR fn n site (sA al) fun _=>undef) [] w:=by
 have S:∀g,g=0\/g=2\/g=3->w.heap[g]?=W0.heap[g]?:=fun b hb=>D.old b (H.gl hb) (H.off b (H.gl hb));have F:lq w:=H.tabs.same S;have A:iU w:=Aq H.jb (S 0 (.inl rfl))
 letI:=gv
 obtain⟨K,I⟩:∃K:Nat->Prop,∀a,K a↔((a=0\/a=2\/a=3)\/a∈Bs):=⟨_,fun _=>Iff.rfl⟩;have B:GI (mG K):=fun g j=>si ((I g).2 (.inl (by
  have:([0,2,3].contains g)=true:=j;simpa using this)))
 have N:∀b,¬gB.ro b:=fun b h=>h;have J:W (mG K) 0 w w:=Ji N (ao H.low D.grow) fun b hb=>by
  rcases(I b).1 hb with hb|hb
  ·obtain⟨v,t,fz,h,hp⟩:=F b hb;exact⟨_,h,DJ _ _ fun x hx=>by obtain⟨k,n,rfl⟩:=hp x hx;exact .int _ _⟩
  ·obtain⟨_,_,x,y,z,h⟩:=C b hb;exact⟨_,h,DJ _ _ fun u P=>by simp at P;rcases P with rfl|rfl|rfl<;>exact .int _ _⟩
 have E:∀x∈TN n (sA al) fun _=>undef,V (mG K) (blk x) x:=by
  intro x hx;unfold TN at hx;simp only[List.mem_toArray,ai]at hx;obtain⟨i,_,rfl⟩:=hx;unfold sA;cases o:al.lookup i with
  |none=>exact .blank rfl
  |some y=>
   obtain⟨p,hp,rfl⟩:=PU o;simp only[az];rcases M p hp with⟨a,l,c,e⟩|e|⟨b,hb,e⟩
   ·rw[e];exact .blank rfl
   ·have:=Ao (r:=mG K) e;revert e this;cases p.2 with
    |slice a l c=>exact fun _ _=>.blank rfl
    |_=>intro e h;exact h
   ·rw[e];exact .ptr ⟨si ((I b).2 (.inr hb)),rfl,rfl⟩
 refine g F A (mG K) Z w (TN n (sA al) fun _=>undef) [] rfl ⟨Array.size_map ..,fun i x x' e e'=>?_⟩ ⟨J,B,fun a y=>?_⟩ fun r' Z' x x' v' w' h1 h2 T R X f q=>?_
 ·rw[Array.getElem?_map,e']at e;cases e;exact E x' (bX e')
 ·rcases(I a).1 (yL.1 y)with h|h
  ·exact su only (H.off a (H.gl h)) (H.gl h)
  ·exact(C a h).2.1
 ·obtain⟨rfl,hk⟩:=X;cases h2;refine gu.done fun s ⟨d,hd⟩=>⟨rfl,_,_,q s,(fun e G=>by simp at G),?_⟩;subst hd;refine hp w' d ⟨fun a L Q=>?_,ao D.grow R.ke.grow,R.ke.tape.trans D.tape,R.ke.env.trans D.env,R.ke.output.trans D.output⟩;have U:=bN L D.grow;refine Eq.trans ?_ (D.old a L Q);by_cases y:K a
  ·rcases(I a).1 y with y|y
   ·exact(T.tabs (Kw.tabs hk F) a y).trans (hk a U)
   ·have:=(C a y).1;omega
  ·exact R.kept a U (fun z=>y (yL.1 z)) (su only Q L)
theorem Bf{v:World}{b:Nat}{x y z:Value}{fz:Nat×Nat}(h:v.heap[b]?=some (.cells #[x,y,z] e fz)):(bD 28 (ptr b)).run PR v=.ok (.agg #[x,y,z]) v:=by
 have c0:v.cell? ⟨b,0,none⟩=some x:=by simp[ah,h]
 have c1:v.cell? ⟨b,1,none⟩=some y:=by simp[ah,h]
 have c2:v.cell? ⟨b,2,none⟩=some z:=by simp[ah,h]
 simp[ptr,go_sem,c0,c1,c2]
theorem TK{Q:QT}{v v1:World}(hx:x.length<=1000)(K:Kw v1 v):gW Q 23 #[.string (str x)] v fun y v'=>y=.string (str (iF x))/\Kw v1 v':=
 aL (R:=fun y v'=>y=.string (str (iF x))/\Kw v1 v') (by decide) fun T=>(afF x (tp v T) hx).mono fun e w' h=>⟨_,h.1,rfl,by rw[h.2];exact K⟩
theorem D7{Q:QT}{v v1:World}(hx:x.length<=60)(K:Kw v1 v):gW Q 24 #[.string (str x)] v fun y v'=>y=.string (str (iH x))/\Kw v1 v':=
 aL (R:=fun y v'=>y=.string (str (iH x))/\Kw v1 v') (by decide) fun T=>(adz x (tp v T) hx).mono fun e w' h=>⟨_,h.1,rfl,K.trans fun a Y=>h.2.block a Y⟩
def kp(j m:Nat)(x:Value):Value:=if Nat.ble j m then x else undef
theorem PX{B:Nat}{t:TypeId}:∀(cs:List Value) (off:Nat) (row:Array Value) (w:World),(∀x∈cs,x.oneCell'=true)->w.heap[B]?=some (.cells row t)->off+cs.length<=row.size->
  ∃w',(storeCells ⟨B,0,none⟩ cs off).run PR w=.ok () w'/\w'.drawn=w.drawn/\w'.heap.size=w.heap.size/\(∀b,b≠B->w'.heap[b]?=w.heap[b]?)/\∃Y,w'.heap[B]?=some (.cells Y t)/\Y.size=row.size/\∀j,Y[j]?=if off<=j/\j<off+cs.length then cs[j-off]? else row[j]?
 |[],off,row,w,_,h,_=>⟨w,rfl,rfl,rfl,fun _ _=>rfl,row,h,rfl,fun j=>by rw[if_neg (by simp)]⟩
 |x::cs,off,row,w,H,h,N=>by
  have hx:=H x (by simp);simp only[bH]at N;have L:(⟨B,0,none⟩:Addr).add off=⟨B,off,none⟩:=by unfold Addr.add;split<;>simp_all
  have h1:w.cell? ⟨B,off,none⟩=some row[off]:=by simp[ah,h,show off<row.size by omega]
  have f1:w.frozen? ⟨B,off,none⟩=false:=by simp[bR,h]
  have h2:=ry (i:=off) (v:=x) h;obtain⟨w',R,I,A,U,Y,C,F,J⟩:=PX cs (off+1) _ _ (fun y O=>H y (by simp[O])) h2 (by simp;omega);have D:=sr (w:=w) (b:=B) (i:=off) x;refine⟨w',?_,I,A.trans D.size,fun b hb=>(U b hb).trans (D.heap b hb),Y,C,by simpa using F,fun j=>?_⟩
  ·rw[storeCells,Sem.run_bind,L,run_store PR _ _ x _ hx,h1];simp only[f1];exact R
  ·rw[J j];by_cases M:j=off
   ·subst M;rw[if_neg (by omega),if_pos (by simp)];simp[show j<row.size by omega]
   ·by_cases K:off+1<=j/\j<off+1+cs.length
    ·rw[if_pos K,if_pos (by simp;omega),show j-off=(j-(off+1))+1 by omega,bF]
    ·rw[if_neg K,if_neg (by simp;omega),aM,if_neg (by omega)]
def qk(m:Bool)(x y:Value):Value:=if m then x else y
def rl(u:Nat->Value)(s:ByteArray)(l ls:Value)(n i:Int):Array Value:=#[.string s,u 1,u 2,u 3,l,ls,ii n,ii i,u 8,u 9,u 10,u 11,u 12,u 13,u 14,u 15,u 16,u 17,u 18,u 19,u 20,u 21,u 22,u 23,u 24,u 25,u 26,u 27,u 28,u 29,u 30,u 31,u 32,u 33,u 34,u 35,u 36,u 37,u 38,u 39,u 40,u 41,u 42,u 43,u 44,u 45,u 46,u 47,u 48,u 49,u 50,u 51,u 52,u 53,u 54,u 55,u 56,u 57,u 58,u 59,u 60,u 61,u 62,u 63,u 64,u 65,u 66,u 67,u 68,u 69,u 70,u 71,u 72,u 73,u 74,u 75,u 76,u 77,u 78,u 79,u 80,u 81,u 82,u 83,u 84,u 85,u 86,u 87,u 88,u 89,u 90,u 91,u 92,u 93,u 94]
def te(u:Nat->Value)(s:ByteArray)(l ls pv:Value)(n i:Int)(g b:Nat)(P:Nat->ByteArray)(Z:Nat->Int)(m:Bool):Array Value:=#[.string s,u 1,u 2,u 3,l,ls,ii n,ii i,pv,qk m (ptr b) (u 9),u 10,u 11,u 12,u 13,u 14,u 15,u 16,u 17,u 18,u 19,u 20,u 21,u 22,u 23,u 24,u 25,u 26,u 27,u 28,u 29,u 30,u 31,u 32,u 33,u 34,u 35,u 36,u 37,u 38,u 39,u 40,u 41,u 42,u 43,u 44,u 45,u 46,u 47,u 48,u 49,u 50,u 51,qk m pv (u 52),qk m (.pointer (some ⟨g,0,none⟩)) (u 53),qk m (.string (P 0)) (u 54),qk m pv (u 55),qk m (.pointer (some ⟨g,1,none⟩)) (u 56),qk m (.string (P 1)) (u 57),qk m (ii (Z 1)) (u 58),qk m pv (u 59),qk m (.pointer (some ⟨g,2,none⟩)) (u 60),qk m (.string (P 2)) (u 61),qk m pv (u 62),qk m (.pointer (some ⟨g,3,none⟩)) (u 63),qk m (.string (P 3)) (u 64),qk m (ii (Z 3)) (u 65),qk m pv (u 66),qk m (.pointer (some ⟨g,4,none⟩)) (u 67),qk m (.string (P 4)) (u 68),qk m pv (u 69),qk m (.pointer (some ⟨g,5,none⟩)) (u 70),qk m (.string (P 5)) (u 71),qk m pv (u 72),qk m (.pointer (some ⟨g,6,none⟩)) (u 73),qk m (.string (P 6)) (u 74),qk m pv (u 75),qk m (.pointer (some ⟨g,7,none⟩)) (u 76),qk m (.string (P 7)) (u 77),qk m pv (u 78),qk m (.pointer (some ⟨g,8,none⟩)) (u 79),qk m (.string (P 8)) (u 80),qk m (.agg #[.string (P 0),ii (Z 1),.string (P 2),ii (Z 3),.string (P 4),.string (P 5),.string (P 6),.string (P 7),.string (P 8)]) (u 81),u 82,u 83,u 84,u 85,u 86,u 87,u 88,u 89,u 90,u 91,u 92,u 93,u 94]
noncomputable def kU:Code:=aV.body.getD .skip
theorem ah_:aV.body=some kU:=by kernel_rfl
def uD:Array Oper:=opsOf (cp [2,2,2,2,2,1,2,1,1,2,1,1,2,2,1] kU)
theorem Dd:uD.size=32:=by kernel_rfl
def nh(P:Nat->ByteArray)(Z:Nat->Int):Array Value:=#[.string (P 0),ii (Z 1),.string (P 2),ii (Z 3),.string (P 4),.string (P 5),.string (P 6),.string (P 7),.string (P 8)]
theorem sF:ko PR (isAgg 9)=some false:=by kernel_rfl
theorem aia:(PR.info? 42).map (·.zero)=some (some (.agg #[.string nS,ii 0,.string nS,ii 0,.string nS,.string nS,.string nS,.string nS,.string nS])):=by kernel_rfl
theorem aib:(PR.info? 42).map (·.size)=some 9:=by kernel_rfl
structure yg(v:World)(b:Nat)(row:Array Value)(listed:Array Bool)(u:World):Prop where
 ord:listed.getD 31 false=true->listed.getD 30 false=true
 kw:Kw v u
 no:listed.getD 30 false=false->u.heap.size=b
 yes:listed.getD 30 false=true->∃r,u.heap[b]?=some (.cells r 42)/\r.size=9
 laid:listed.getD 31 false=true->u.heap[b]?=some (.cells row 42)
theorem yg.on{v u u':World}{b:Nat}{row:Array Value}{i:Nat}(h:yg v b row listed u)(h1:i≠30)(h2:i≠31)(e:u'.heap=u.heap):yg v b row (listed.setIfInBounds i true) u':=by
 have Y:=getD_set_ne (l:=listed) (Ne.symm h1);have K:=getD_set_ne (l:=listed) (Ne.symm h2);exact⟨by rw[Y,K];exact h.ord,fun a H=>by rw[e];exact h.kw a H,by rw[Y,e];exact h.no,by rw[Y,e];exact h.yes,by rw[K,e];exact h.laid⟩
section
variable{Q:QT}{R:Value->World->Prop}{v:World}{k:List Item}{u:Nat->Value}{s:ByteArray}{l ls:Value}{n i:Int}{g b cap:Nat}{P:Nat->ByteArray}{Z:Nat->Int}{cur:Array Value}
theorem ad2(U:v.heap[g]?=some (.cells cur 9))(D:∀j,j<9->cur[j]?=some (.string (P j)))(rj:j0 (P 1)=Z 1)(hz3:j0 (P 3)=Z 3)(G:(P 1).size<=100000000)(hs3:(P 3).size<=100000000)(hb:b=v.heap.size)
  (kk:∀v',Kw v v'->v'.heap[b]?=some (.cells (nh P Z) 42)->GW false Q R 25 (.inRegion uD []::k) (te u s l ls (.slice (some ⟨g,0,none⟩) 9 cap) n i g b P Z true) v'):
  GW false Q R 25 (.code (.region 12 uD true)::k) (te u s l ls (.slice (some ⟨g,0,none⟩) 9 cap) n i g b P Z false) v:=by
 have K:∃F,PR.funcs[25]?=some F:=⟨_,bm⟩;have num:∀(x:ByteArray) (z:Int) (listed:Array Bool) (m:Nat) (w:World),m≠30->m≠31->x.size<=100000000->j0 x=z->yg v b (nh P Z) listed w->gW Q 26 #[.string x] w fun y v'=>y=ii z/\yg v b (nh P Z) (listed.setIfInBounds m true) v':=fun x z listed m w h1 h2 hx W Y=>
  aL (R:=fun y v'=>y=ii z/\yg v b (nh P Z) (listed.setIfInBounds m true) v') (by decide) fun T=>(aai x (tp w T) hx).mono fun e w' h=>⟨_,h.1,by rw[W],Y.on h1 h2 (by rw[h.2];rfl)⟩
 refine GW.TJ (A:=te u s l ls (.slice (some ⟨g,0,none⟩) 9 cap) n i g b P Z true) (yg v b (nh P Z)) ?_ [0,1,3,4,7,8,10,11,14,15,17,18,20,21,23,24,26,27,29] ?_ ?_ ?_ K
 ·refine⟨fun h=>?_,.refl v,fun _=>hb.symm,fun h=>?_,fun h=>?_⟩<;>simp[ak]at h
 ·intro j J listed w Y;exact Y.on (by rintro rfl;simp at J) (by rintro rfl;simp at J) rfl
 ·intro j listed J hn d hf ha;rw[Dd]at J;have:j=2\/j=5\/j=9\/j=12\/j=16\/j=19\/j=22\/j=25\/j=28\/j=6\/j=13\/j=30\/j=31:=by simp at hn;omega
  rcases this with rfl|rfl|rfl|rfl|rfl|rfl|rfl|rfl|rfl|rfl|rfl|rfl|rfl
  ·exact .ld K fun w Y=>⟨mO 0 sF (Y.kw.at U) (D 0 (by omega)),Y.on (by omega) (by omega) rfl⟩
  ·exact .ld K fun w Y=>⟨mO 1 sF (Y.kw.at U) (D 1 (by omega)),Y.on (by omega) (by omega) rfl⟩
  ·exact .ld K fun w Y=>⟨mO 2 sF (Y.kw.at U) (D 2 (by omega)),Y.on (by omega) (by omega) rfl⟩
  ·exact .ld K fun w Y=>⟨mO 3 sF (Y.kw.at U) (D 3 (by omega)),Y.on (by omega) (by omega) rfl⟩
  ·exact .ld K fun w Y=>⟨mO 4 sF (Y.kw.at U) (D 4 (by omega)),Y.on (by omega) (by omega) rfl⟩
  ·exact .ld K fun w Y=>⟨mO 5 sF (Y.kw.at U) (D 5 (by omega)),Y.on (by omega) (by omega) rfl⟩
  ·exact .ld K fun w Y=>⟨mO 6 sF (Y.kw.at U) (D 6 (by omega)),Y.on (by omega) (by omega) rfl⟩
  ·exact .ld K fun w Y=>⟨mO 7 sF (Y.kw.at U) (D 7 (by omega)),Y.on (by omega) (by omega) rfl⟩
  ·exact .ld K fun w Y=>⟨mO 8 sF (Y.kw.at U) (D 8 (by omega)),Y.on (by omega) (by omega) rfl⟩
  ·exact .call K fun w Y=>num (P 1) (Z 1) listed 6 w (by omega) (by omega) G rj Y
  ·exact .call K fun w Y=>num (P 3) (Z 3) listed 13 w (by omega) (by omega) hs3 hz3 Y
  ·intro is a w Y E M;have f0:listed.getD 30 false=false:=by
    have H:30<listed.size:=by rw[d,Dd];omega
    simpa[ak,H]using hf
   have C:=Y.no f0;obtain⟨q,h1,h2⟩:=xo aia;rw[show dv uD (te u s l ls (.slice (some ⟨g,0,none⟩) 9 cap) n i g b P Z true) 30=ptr b by kernel_rfl]at M;refine GW.vl (v1:=w.alloc (.cells (Value.agg #[.string nS,ii 0,.string nS,ii 0,.string nS,.string nS,.string nS,.string nS,.string nS]).cells 42)) (x:=ptr b) K (E.ex.trans (show mc uD 30 (te u s l ls (.slice (some ⟨g,0,none⟩) 9 cap) n i g b P Z true)=some (rU (Instr.alloc 42 true (.tuple #[]))) by kernel_rfl)) (by simp[go_sem,Instr.alloc,zeroValue,typeInfo,h1,h2,C,ptr]) rfl (M _ ?_);have I:(listed.setIfInBounds 30 true).getD 30 false=true:=by
    have H:30<listed.size:=by rw[d,Dd];omega
    simp[ak,H]
   have O:=getD_set_ne (l:=listed) (i:=30) (m:=31) (by omega);exact⟨fun _=>I,Y.kw.trans (.alloc w _),(fun h=>by rw[I]at h;cases h),fun _=>⟨_,C▸heap_alloc_new w _,rfl⟩,(fun h=>by rw[O]at h;rw[Y.ord h]at f0;cases f0)⟩
  ·intro is a w Y E M;have H:listed.getD 30 false=true:=by
    have hx:(uD[31]?).any (fun o=>o.after.any fun e=>e.on==30&&ar .any e)=true:=by kernel_rfl
    obtain⟨o,ho,hx⟩:=(Option.any_eq_true _ _).1 hx;obtain⟨e,he,hx⟩:=bS.1 hx;simp only[aN,beq_iff_eq]at hx;exact hx.1▸ha o ho e he hx.2
   obtain⟨r,hr,X⟩:=Y.yes H;obtain⟨w',O,f,e3,p,N,S,e6,t⟩:=PX (B:=b) (nh P Z).toList 0 r w (by simp[nh,ii,Value.oneCell']) hr (by rw[X];exact aB _);have L:N=nh P Z:=bT fun j=>by
    rw[t j];by_cases J:j<9
    ·rw[if_pos ⟨bh _,by show j<0+9;omega⟩,Nat.sub_zero,bW]
    ·rw[if_neg (by show¬(0<=j/\j<0+9);omega),br (by omega),br (by show 9<=j;omega)]
   rw[L]at S;obtain⟨q,h1,h2⟩:=xo aib;rw[show dv uD (te u s l ls (.slice (some ⟨g,0,none⟩) 9 cap) n i g b P Z true) 31=undef by kernel_rfl]at M;refine GW.sk (v1:=w') K (E.ex.trans (show mc uD 31 (te u s l ls (.slice (some ⟨g,0,none⟩) 9 cap) n i g b P Z true)=some (Bo (b_ 42 (ptr b) (.agg (nh P Z)))) by kernel_rfl)) ?_ f (M w' ?_)
   ·have W:(nh P Z).size=9:=rfl;simp[go_sem,storeVar,sizeOf,typeInfo,h1,h2,aX,ptr,W,O]
   ·have I:(listed.setIfInBounds 31 true).getD 30 false=true:=(getD_set_ne (by omega)).trans H;exact⟨fun _=>I,fun c V=>(p c (by omega)).trans (Y.kw c V),(fun h=>by rw[I]at h;cases h),fun _=>⟨_,S,rfl⟩,fun _=>S⟩
 ·intro v' listed all Y;exact kk v' Y.kw (Y.laid (all 31 (by rw[Dd];omega)))
end
def rL:Code:=cp [2,2,2,2,2,1,2,1,1] kU
def pe:List Item:=[.inBlock 0,.code (cp [2,2,2,2,2,2] kU)]
section
variable{u:Nat->Value}{s:ByteArray}{l ls pv:Value}{n i:Int}{g b:Nat}{P:Nat->ByteArray}{Z:Nat->Int}{w:World}
def MW(s:ByteArray)(l ls pv:Value)(n i:Int)(b:Nat)(a:Array Value):Prop:=a=rl (fun j=>a.getD j undef) s l ls n i/\a.getD 8 undef=pv/\a.getD 9 undef=ptr b
theorem aic(h:w.heap[b]?=some (.cells (nh P Z) 42))(h1:0<=Z 1)(D:0<=Z 3):(cp [2,1,1,2,2,2,1,1] rL).wp PR (fun e a' v'=>e=.normal/\a'.defers=[]/\(MW s l ls pv n i b a'.tmps/\a'.tmps.getD 89 undef=.bool false)/\v'.heap=w.heap) ⟨te u s l ls pv n i g b P Z true,[]⟩ w:=by
 have c1:w.cell? ⟨b,1,none⟩=some (ii (Z 1)):=by simp[ah,h,nh]
 have H:w.cell? ⟨b,3,none⟩=some (ii (Z 3)):=by simp[ah,h,nh]
 clear h;obtain⟨Q,Y⟩:∃Q:Exit->Act->World->Prop,Q=(fun e a' v'=>e=.normal/\a'.defers=[]/\(MW s l ls pv n i b a'.tmps/\a'.tmps.getD 89 undef=.bool false)/\v'.heap=w.heap):=⟨_,rfl⟩;rw[<-Y];have K:=laid Y;clear Y;generalize Z 1=R at *;generalize Z 3=z3 at *;unfold rL kU aV te;simp only[az,cp,qk,if_true,ptr];go_wp2
 rw[K.out];exact⟨rfl,rfl,⟨⟨by kernel_rfl,by kernel_rfl,by kernel_rfl⟩,congrArg Value.bool (by rw[decide_eq_false (by omega),decide_eq_false (by omega)];rfl)⟩,rfl⟩
theorem aid{B:Nat}(u9:u 9=ptr b)(h:w.heap[b]?=some (.cells (nh P Z) 42))(K:w.ownsRow B 42 9 l j xs)(X:B<=w.heap.size)(Y:j<=100000001):
  (cp [2,1,1,2,2,2,2] rL).wp PR (fun e a' v'=>e=.normal/\a'.defers=[]/\∃l',(a'.tmps=rl (fun j=>a'.tmps.getD j undef) s l' ls n i)/\v'.ownsRow B 42 9 l' (j+1) (xs++(nh P Z).toList)/\∀c,c<B->v'.heap[c]?=w.heap[c]?) ⟨rl u s l ls n i,[]⟩ w:=by
 obtain⟨i0,G,I,A,U⟩:=info_parts I5;have c:∀k x,(nh P Z)[k]?=some x->w.cell? ⟨b,k,none⟩=some x:=fun k x hx=>by rw[cell_of_row w _ k _ _ _ h];exact hx
 have c0:w.cell? ⟨b,0,none⟩=some (.string (P 0)):=c 0 _ rfl;have c1:w.cell? ⟨b,1,none⟩=some (ii (Z 1)):=c 1 _ rfl;have c2:w.cell? ⟨b,2,none⟩=some (.string (P 2)):=c 2 _ rfl;have c3:w.cell? ⟨b,3,none⟩=some (ii (Z 3)):=c 3 _ rfl;have c4:w.cell? ⟨b,4,none⟩=some (.string (P 4)):=c 4 _ rfl;have c5:w.cell? ⟨b,5,none⟩=some (.string (P 5)):=c 5 _ rfl;have c6:w.cell? ⟨b,6,none⟩=some (.string (P 6)):=c 6 _ rfl;have d:w.cell? ⟨b,7,none⟩=some (.string (P 7)):=c 7 _ rfl;have f:w.cell? ⟨b,8,none⟩=some (.string (P 8)):=c 8 _ rfl;obtain⟨Q,R⟩:∃Q:Exit->Act->World->Prop,Q=(fun e a' v'=>e=.normal/\a'.defers=[]/\∃l',(a'.tmps=rl (fun j=>a'.tmps.getD j undef) s l' ls n i)/\v'.ownsRow B 42 9 l' (j+1) (xs++(nh P Z).toList)/\∀c,c<B->v'.heap[c]?=w.heap[c]?):=⟨_,rfl⟩;rw[<-R];have T:=laid R;have V:Hid ((nh P Z).toList=[.string (P 0),ii (Z 1),.string (P 2),ii (Z 3),.string (P 4),.string (P 5),.string (P 6),.string (P 7),.string (P 8)]):=laid rfl;clear R c h;generalize Z 1=S at *;generalize Z 3=z3 at *;generalize P 0=C at *;generalize P 2=F at *;generalize P 4=J at *;generalize P 5=L at *;generalize P 6=M at *;generalize P 7=N at *;generalize P 8=O at *;unfold rL kU aV rl;simp only[az,cp,u9,ptr];go_wp2_with(first
  |(at_builtin;refine wpList_append_own _ rfl _ _ 38 rfl B 42 i0 (.agg #[.string nS,.int .i64 0,.string nS,.int .i64 0,.string nS,.string nS,.string nS,.string nS,.string nS]) 9 128 Tryz.underlying38 G I A U rfl (by decide) _ _ _ rfl (K.alloc _) ⟨w.heap.size,0,none⟩ 1 1 [.string C,ii S,.string F,ii z3,.string J,.string L,.string M,.string N,.string O] rfl rfl ?c1 ?c2 ?c3 ?c4 ?c5 ?_)
  |go_in)
 case c1=>
  intro j x Y
  match j,Y with
  |0,Y|1,Y|2,Y|3,Y|4,Y|5,Y|6,Y|7,Y|8,Y=>simp at Y;subst Y;simp[Addr.add,go_sem]
 case c2=>intro x hx;simp at hx;rcases hx with rfl|rfl|rfl|rfl|rfl|rfl|rfl|rfl|rfl<;>rfl
 case c3=>unfold maxLen;omega
 case c4=>omega
 case c5=>simp;omega
 intro v' z D H _;have hk:∀c,c<B->z.heap[c]?=w.heap[c]?:=fun c E=>by
  have:=((Below.refl B w).alloc X (.cells #[.string C,ii S,.string F,ii z3,.string J,.string L,.string M,.string N,.string O] 42)).grown H (by simp;omega) (fun q W=>(K.lt q W).1);exact this.block c E
 go_wp2
 rw[T.out];exact⟨rfl,rfl,v',by kernel_rfl,by rw[V.out];exact D,hk⟩
end
theorem ajY:PR.underlying 65=some (.slice (PR.elem 65)):=by kernel_rfl
theorem aie:(PR.info? (PR.elem 65)).map (·.size)=some 1:=by kernel_rfl
theorem R_{Q:QT}{v:World}{s:ByteArray}{c:UInt8}(D:s.size<=100000000):gW Q 40 #[.string s,.int .u8 (c.toNat:Int)] v fun y v'=>v'.ownsRow v.heap.size 9 1 y (iP s c (s.size+1)).length ((iP s c (s.size+1)).map sV)/\Kw v v':=
 aL (R:=fun y v'=>v'.ownsRow v.heap.size 9 1 y (iP s c (s.size+1)).length ((iP s c (s.size+1)).map sV)/\Kw v v') (by decide) fun T=>(abT s c (tp v T) D).mono fun e w' ⟨y,h1,h2,Y⟩=>⟨y,h1,h2,fun a K=>Y.block a K⟩
def TL(x:ByteArray):Prop:=x.size<=100000000/\(oy x).length=9/\0<=j0 ((oy x).getD 1 nS)/\0<=j0 ((oy x).getD 3 nS)
section
variable{Q:QT}{R:Value->World->Prop}{v0:World}{s:ByteArray}{L:List ByteArray}{g cap N:Nat}{cur:Array Value}
theorem ad9(hg:v0.heap[g]?=some (.cells cur 9))(M:∀j,j<N->cur[j]?=some (.string (L.getD j nS)))(hN:N<=100000001)(S:∀j,j+2<N->TL (L.getD (j+1) nS))
  (kk:∀u l v,Kw v0 v->v.ownsRow v0.heap.size 42 9 l (N-2) (xk L (N-2))->GW false Q R 25 [.code (cp [2,2,2,2,2,2] kU)] (rl u s l (.slice (some ⟨g,0,none⟩) N cap) N (N-1:Nat)) v):
  ∀m j,j+m+2=N->∀u l v,Kw v0 v->v.ownsRow v0.heap.size 42 9 l j (xk L j)->GW false Q R 25 (.code rL:: .inLoop rL::pe) (rl u s l (.slice (some ⟨g,0,none⟩) N cap) N (j+1:Nat)) v:=by
 have Y:∃F,PR.funcs[25]?=some F:=⟨_,bm⟩;intro m;induction m with
 |zero=>
  intro j b u l v K D;obtain rfl:N=j+2:=by omega
  refine GW.run 3 (k':=.inRegion (opsOf (cp [1,1] rL)) [0,1,2,3]:: .code (cp [1,2] rL):: .code (cp [2] rL):: .inLoop rL::pe) ?_;refine ae Y [0,1,2,3] ?_;refine GW.run 1 (k':=.code (.cond (.tmp 41) .skip (.exit 0)):: .code (cp [2] rL):: .inLoop rL::pe) ?_;refine aA Y (t:=decide (ax.wrap (((j+1:Nat):Int)+1)<((j+2:Nat):Int))) trivial (by kernel_rfl) ?_;rw[D6 (by unfold maxLen;omega),show decide (((j+1+1:Nat):Int)<((j+2:Nat):Int))=false from decide_eq_false (by omega)];refine GW.run 1 (k':=[.code (cp [2,2,2,2,2,2] kU)]) ?_;exact GW.any (fun u=>rl u s l (.slice (some ⟨g,0,none⟩) (j+2) cap) (j+2:Nat) (j+1:Nat)) (by kernel_rfl) fun u'=>kk u' l v K D
 |succ m h=>
  intro j b u l v K D;obtain⟨d,z,z1,z3⟩:=S j (by omega);refine GW.run 3 (k':=.inRegion (opsOf (cp [1,1] rL)) [0,1,2,3]:: .code (cp [1,2] rL):: .code (cp [2] rL):: .inLoop rL::pe) ?_;refine ae Y [0,1,2,3] ?_;refine GW.run 1 (k':=.code (.cond (.tmp 41) .skip (.exit 0)):: .code (cp [2] rL):: .inLoop rL::pe) ?_;refine aA Y (t:=decide (ax.wrap (((j+1:Nat):Int)+1)<(N:Int))) trivial (by kernel_rfl) ?_;rw[D6 (by unfold maxLen;omega),show decide (((j+1+1:Nat):Int)<(N:Int))=true from decide_eq_true (by omega)];refine GW.any (fun u=>rl u s l (.slice (some ⟨g,0,none⟩) N cap) N (j+1:Nat)) (by kernel_rfl) fun u1=>?_;refine GW.run 5 (k':=.inRegion (opsOf (cp [2,1,1,1] rL)) [0,1,2,3,4,5]:: .code (cp [2,1,1,2] rL):: .inBlock 1:: .code (cp [2,2] rL):: .inLoop rL::pe) ?_;refine ae Y [0,1] ?_;refine GW.ix Y (t:=65) (B:=g) (off:=0) (n:=N) (cap:=cap) (j:=j+1) (by omega) ajY aie ?_;refine GW.ld Y (mO (0+(j+1) *1) sF (K.at hg) (by rw[show 0+(j+1) *1=j+1 by omega];exact M _ (by omega))) ?_;refine GW.call Y (R_ (c:=9) d) ?_;rintro y v1 ⟨A,f⟩;obtain⟨E,I,q,rfl,r,O,H⟩:=PK A (by show 1<=(oy _).length;omega);change∀i,i<(oy (L.getD (j+1) nS)).length->_ at H;rw[z]at H;rw[show(iP (L.getD (j+1) nS) 9 ((L.getD (j+1) nS).size+1)).length=9 from z];refine ae Y [5] ?_;refine GW.run 4 (k':=.inRegion (opsOf (cp [2,1,1,2,1,1] rL)) [0,1,2]:: .code (cp [2,1,1,2,1,2] rL):: .code (cp [2,1,1,2,2] rL):: .inBlock 1:: .code (cp [2,2] rL):: .inLoop rL::pe) ?_;refine ae Y [0,1,2] ?_;refine GW.run 1 (k':=.code (.cond (.tmp 51) (cp [2,1,1,2,1,2,1] rL) .skip):: .code (cp [2,1,1,2,2] rL):: .inBlock 1:: .code (cp [2,2] rL):: .inLoop rL::pe) ?_;refine aA Y (t:=false) trivial (by kernel_rfl) ?_;refine GW.run 2 (k':=.code (.region 12 uD true):: .code (cp [2,1,1,2,2,2] rL):: .inBlock 1:: .code (cp [2,2] rL):: .inLoop rL::pe) ?_;refine GW.any (fun u=>te u s l (.slice (some ⟨g,0,none⟩) N cap) (.slice (some ⟨E,0,none⟩) 9 I) N (j+1:Nat) E v1.heap.size (fun k=>(oy (L.getD (j+1) nS)).getD k nS) (fun k=>j0 ((oy (L.getD (j+1) nS)).getD k nS)) false) (by kernel_rfl) fun u2=>?_;have V:∀k,((oy (L.getD (j+1) nS)).getD k nS).size<=100000000:=fun k=>by
   rw[af];cases e:(oy (L.getD (j+1) nS))[k]? with
   |none=>exact bh _
   |some x=>exact ao (CN _ 9 _ x (aK e)) d
  refine ad2 O H rfl rfl (V 1) (V 3) rfl fun v2 K2 J=>?_;refine GW.run 3 (k':=.code (cp [2,1,1,2,2,2,1,1] rL):: .code (cp [2,1,1,2,2,2,1,2] rL):: .code (cp [2,1,1,2,2,2,2] rL):: .inBlock 1:: .code (cp [2,2] rL):: .inLoop rL::pe) ?_;refine aO Y (by kernel_rfl) (R1:=fun a' v'=>(MW s l (.slice (some ⟨g,0,none⟩) N cap) (.slice (some ⟨E,0,none⟩) 9 I) N (j+1:Nat) v1.heap.size a'/\a'.getD 89 undef=.bool false)/\v'.heap=v2.heap) (by kernel_rfl) (fun T=>aic (w:=tp v2 T) J z1 z3) ?_;rintro a3 v3 ⟨⟨⟨p,_,o⟩,X⟩,P⟩;refine GW.run 0 (k':=.code (.cond (.tmp 89) (cp [2,1,1,2,2,2,1,2,1] rL) .skip):: .code (cp [2,1,1,2,2,2,2] rL):: .inBlock 1:: .code (cp [2,2] rL):: .inLoop rL::pe) ?_;refine aA Y (t:=false) trivial X ?_;refine GW.run 1 (k':=.code (cp [2,1,1,2,2,2,2] rL):: .inBlock 1:: .code (cp [2,2] rL):: .inLoop rL::pe) ?_;rw[p];have K3:Kw v v3:=(f.trans K2).trans fun a G=>by rw[P]
  have C:=K.trans K3;refine aO Y (by kernel_rfl) (R1:=fun a' v'=>∃l',(a'=rl (fun j=>a'.getD j undef) s l' (.slice (some ⟨g,0,none⟩) N cap) N (j+1:Nat))/\v'.ownsRow v0.heap.size 42 9 l' (j+1) (xk L j++(nh (fun k=>(oy (L.getD (j+1) nS)).getD k nS) (fun k=>j0 ((oy (L.getD (j+1) nS)).getD k nS))).toList)/\∀c,c<v0.heap.size->v'.heap[c]?=v3.heap[c]?) (by kernel_rfl) (fun T=>aid (w:=tp v3 T) o (by show v3.heap[_]?=_;rw[P];exact J) (A2 D K3) C.size (by omega)) ?_;rintro a4 v4 ⟨l',Z,U,W⟩;rw[Z];refine GW.run 2 (k':=.inRegion (opsOf (cp [2,2] rL)) [0,1,2]:: .inLoop rL::pe) ?_;refine ae Y [0,1,2] ?_;refine GW.run 2 (k':=.code rL:: .inLoop rL::pe) ?_;refine GW.any (fun u=>rl u s l' (.slice (some ⟨g,0,none⟩) N cap) N (ax.wrap (((j+1:Nat):Int)+1))) (by kernel_rfl) fun u5=>?_;rw[D6 (by unfold maxLen;omega)];exact h (j+1) (by omega) u5 l' v4 (fun a G=>(W a G).trans (C a G)) U
end
def Aa(u:Nat->Value)(s:ByteArray)(ls:Value)(n:Int):Array Value:=#[.string s,u 1,u 2,u 3,.slice none 0 0,ls,ii n,u 7,u 8,u 9,u 10,u 11,u 12,u 13,u 14,u 15,u 16,u 17,u 18,u 19,u 20,u 21,u 22,u 23,u 24,u 25,u 26,u 27,u 28,u 29,u 30,u 31,u 32,u 33,u 34,u 35,u 36,u 37,u 38,u 39,u 40,u 41,u 42,u 43,u 44,u 45,u 46,u 47,u 48,u 49,u 50,u 51,u 52,u 53,u 54,u 55,u 56,u 57,u 58,u 59,u 60,u 61,u 62,u 63,u 64,u 65,u 66,u 67,u 68,u 69,u 70,u 71,u 72,u 73,u 74,u 75,u 76,u 77,u 78,u 79,u 80,u 81,u 82,u 83,u 84,u 85,u 86,u 87,u 88,u 89,u 90,u 91,u 92,u 93,u 94]
section
variable{Q:QT}{v:World}{s:ByteArray}{L:List ByteArray}{u:Nat->Value}{g cap N:Nat}{cur:Array Value}{w:World}
theorem ajZ(D:w.heap[g]?=some (.cells cur 9))(c0:cur[0]?=some (.string l0))(c1:cur[N-1]?=some (.string nS))(B:2<=l0.size)(U:l0.size<=100000000)(Y:at8 l0 0=64)(hn:2<=N)(hN:N<=100000001):
  (cp [2,2,2,2,1,1] kU).wp PR (fun e a' v'=>e=.normal/\a'.defers=[]/\(a'.tmps=Aa (fun j=>a'.tmps.getD j undef) s (.slice (some ⟨g,0,none⟩) N cap) N/\a'.tmps.getD 37 undef=.bool false)/\v'.heap=w.heap) ⟨Aa u s (.slice (some ⟨g,0,none⟩) N cap) N,[]⟩ w:=by
 have I:w.cell? ⟨g,0,none⟩=some (.string l0):=by rw[cell_of_row w _ 0 _ _ _ D];exact c0
 have d1:w.cell? ⟨g,N-1,none⟩=some (.string nS):=by rw[cell_of_row w _ _ _ _ _ D];exact c1
 have K:=mm l0 0 (by omega);rw[Y]at K;have A:ax.wrap ((N:Int)-1)=((N-1:Nat):Int):=by rw[IntWalk.i64_in _ (by omega)];omega
 have C:((N-1:Nat):Int)<(N:Int):=by omega
 have F:((N:Int)<2)=False:=by simp;omega
 have J:((l0.size:Int)<2)=False:=by simp;omega
 have L:(0:Int)<(l0.size:Int):=by omega
 clear D c0 c1 Y;obtain⟨Q,H⟩:∃Q:Exit->Act->World->Prop,Q=(fun e a' v'=>e=.normal/\a'.defers=[]/\(a'.tmps=Aa (fun j=>a'.tmps.getD j undef) s (.slice (some ⟨g,0,none⟩) N cap) N/\a'.tmps.getD 37 undef=.bool false)/\v'.heap=w.heap):=⟨_,rfl⟩;rw[<-H];have R:=laid H;clear H;unfold kU aV Aa;simp only[az,cp];go_wp2
 rw[R.out];exact⟨rfl,rfl,⟨by kernel_rfl,by kernel_rfl⟩,rfl⟩
theorem af8(S:s.size<=100000000)(O:iP s 10 (s.size+1)=L)(hn:2<=L.length)(D:L.getD (L.length-1) nS=nS)(X:2<=(L.getD 0 nS).size)(M:at8 (L.getD 0 nS) 0=64)(B:∀j,j+2<L.length->TL (L.getD (j+1) nS)):
  gW Q 25 #[.string s] v fun y v'=>∃l,y=.tuple #[l,.bool true]/\v'.ownsRow v.heap.size 42 9 l (L.length-2) (xk L (L.length-2))/\Kw v v':=by
 have Y:∃F,PR.funcs[25]?=some F:=⟨_,bm⟩;have H:L.length<=100000001:=by rw[<-O];exact ao (Iy s 10 _) (by omega)
 have J:(L.getD 0 nS).size<=100000000:=by
  rw[af];cases e:L[0]? with
  |none=>exact bh _
  |some x=>exact ao (CN s 10 _ x (O▸aK e)) S
 refine gW.of (n:=95) bm ah_ (by kernel_rfl) ?_;refine GW.run 2 (k':=[.inRegion (opsOf (cp [1] kU)) [0,1],.code (cp [2] kU)]) ?_;refine ae Y [0,1] ?_;refine GW.run 3 (k':=[.inRegion (opsOf (cp [2,1] kU)) [0],.code (cp [2,2] kU)]) ?_;refine ae Y [0] ?_;refine GW.run 3 (k':=[.inRegion (opsOf (cp [2,2,1] kU)) [0,1,2],.code (cp [2,2,2] kU)]) ?_;refine ae Y [0] ?_;refine GW.call Y (R_ (c:=10) S) ?_;rw[O];rintro y v1 ⟨R,N⟩;obtain⟨g,cap,P,rfl,E,A,K⟩:=PK R (by omega);refine ae Y [2] ?_;refine GW.run 3 (k':=[.inRegion (opsOf (cp [2,2,2,1] kU)) [0,1,2],.code (cp [2,2,2,2] kU)]) ?_;refine ae Y [0,1,2] ?_;refine GW.run 3 (k':=[.code (cp [2,2,2,2,1,1] kU),.code (cp [2,2,2,2,1,2] kU),.code (cp [2,2,2,2,2] kU)]) ?_;refine GW.any (fun u=>Aa u s (.slice (some ⟨g,0,none⟩) L.length cap) L.length) (by kernel_rfl) fun u1=>?_;refine aO Y (by kernel_rfl) (R1:=fun a' v'=>(a'=Aa (fun j=>a'.getD j undef) s (.slice (some ⟨g,0,none⟩) L.length cap) L.length/\a'.getD 37 undef=.bool false)/\v'.heap=v1.heap) (by kernel_rfl) (fun T=>ajZ (w:=tp v1 T) A (K 0 (by omega)) (by rw[K _ (by omega),D]) X J M hn H) ?_;rintro a2 v2 ⟨⟨V,C⟩,U⟩;refine GW.run 0 (k':=[.code (.cond (.tmp 37) (cp [2,2,2,2,1,2,1] kU) .skip),.code (cp [2,2,2,2,2] kU)]) ?_;refine aA Y (t:=false) trivial C ?_;refine GW.run 4 (k':=[.inRegion (opsOf (cp [2,2,2,2,2,1,1] kU)) [0],.code (cp [2,2,2,2,2,1,2] kU),.code (cp [2,2,2,2,2,2] kU)]) ?_;rw[V];refine ae Y [0] ?_;refine GW.run 3 (k':=.code rL:: .inLoop rL::pe) ?_;refine GW.any (fun u=>rl u s (.slice none 0 0) (.slice (some ⟨g,0,none⟩) L.length cap) L.length ((0+1:Nat):Int)) (by kernel_rfl) fun u3=>?_;have K2:Kw v v2:=N.trans fun a Z=>by rw[U]
 refine ad9 (v0:=v2) (by rw[U];exact A) K H B (fun u l v3 K3 I=>?_) (L.length-2) 0 (by omega) u3 _ v2 (.refl v2) ⟨rfl,.inl ⟨rfl,rfl⟩⟩;refine GW.run 2 (k':=[.inRegion (opsOf (cp [2,2,2,2,2,2,1] kU)) [0,1,2],.code .ret]) ?_;refine ae Y [0,1,2] ?_;refine GW.run 1 (k':=[.code .ret]) ?_;exact GW.Uz Y 2 3 ⟨l,by kernel_rfl,CL I K2.size,K2.trans K3⟩
end
end Ph
namespace Ph
open Conc ConcM Ren RowKit
theorem H8{W:World}{n:String}{k:IntKind}{zs:List Int}{g m:Nat}{t:TypeId}(h:Lib.VarReads PR W n (aZ k zs))(B:Program.globalNamed PR n=some g)(F:((PR).globals[g]?).map (·.type)=some t)(M:PR.underlying t=some (.array m e))(C:PR.underlying e=some (.int k))(D:PR.cellsOf e=1)(U:PR.cellsOf t=m):
  ∃(c:Array Value) (t':TypeId) (fz:Nat×Nat),W.heap[g]?=some (.cells c t' fz)/\∀x∈c,∃k n,x=aY k n:=by
 obtain⟨A,t1,cs,fuel,p,h1,h2,Y,R⟩:=h;obtain rfl:=Option.some.inj (B.symm.trans h1);obtain rfl:=Option.some.inj (F.symm.trans h2);have H:=Lib.cells_of_tab M C D U R;unfold World.var? at Y;rw[B]at Y;simp only[Option.bind_some]at Y;split at Y
 ·rename_i c t' fz I;cases Y;refine⟨_,t',fz,I,fun x hx=>?_⟩;have K:x∈cs.toList:=by simpa using hx
  rw[H]at K;obtain⟨z,_,rfl⟩:=ai.1 K;exact⟨_,_,rfl⟩
 ·cases Y
def UA:DataW Unit->List Int
 |.agg l=>l.map fun|.lit (.int _ z)=>z|_=>0
 |_=>[]
theorem yl{W:World}(h:laidMetH Tryz.prog pw W):lq W:=by
 have e:pw=[("math/bits.deBruijn32tab",(aZ .u8 (UA Rows.laid_math_bits_deBruijn32tab))),("math/bits.deBruijn64tab",(aZ .u8 (UA Rows.laid_math_bits_deBruijn64tab))),("internal/strconv.uint64pow10",(aZ .u64 Lib.pow10Tab))]:=by kernel_rfl
 rw[e]at h;have r0:=H8 (Lib.laidMet.reads h (.tail _ (.tail _ (.head _)))) (g:=0) (by kernel_rfl) (by kernel_rfl) Tryz.underlying202 Tryz.underlying176 (by kernel_rfl) (by kernel_rfl);have r1:=H8 (Lib.laidMet.reads h (.head _)) (g:=2) (by kernel_rfl) (by kernel_rfl) Tryz.underlying245 cB (by kernel_rfl) (by kernel_rfl);have r2:=H8 (Lib.laidMet.reads h (.tail _ (.head _))) (g:=3) (by kernel_rfl) (by kernel_rfl) Tryz.underlying246 cB (by kernel_rfl) (by kernel_rfl);intro g Y;rcases Y with rfl|rfl|rfl
 ·omega
 ·omega
 ·omega
theorem Y1:PR.globals.size<=4:=of_decide_eq_true (by simp)
theorem G4{W:World}(h:lq W):PR.globals.size<=W.heap.size:=by
 obtain⟨_,_,_,Y,_⟩:=h 3 (.inr (.inr rfl));have:=jQ Y;have:=Y1;omega
theorem Gr{H:Type}{enc:TypeId×Value->H}{a:Assume}{C:Checked}{os:Os}{f:FuncId}{fn:Func}{s:ChangeSpec}{F:Stop.Interp}{conds:List PathCond}{apart fresh handsOn:Bool}{X:World->Array Value->Prop}
  (hX:∀(w w':World) (args:Array Value),w.heap=w'.heap->X w args->X w' args)
  (own:ownKnob C.prog.godebug=none)(Y:os.Started)(B:C.prog.funcs[f]?=some fn)
  (K:∃(w:World) (tape:Tape) (i:Input),w.os=os/\(w.forCall tape i).Shaped C.prog/\i.vars=[]/\Input.okWide C.prog (w.forCall tape i) .any w.heap.size f i/\
   ((s.pre enc C.prog fn conds apart (w.forCall tape i).memory i.args/\X (w.forCall tape i).memory i.args)/\sizedMet enc C.prog fn (bP s) apart (w.forCall tape i).memory i.args)/\a.holds C.prog (lone (Frame.enter C.prog f i.args .normal) [] (w.forCall tape i)))
  (runs:∀(W:World) (base:Nat) (args:Array Value) (U gs:List (DataW H)) (before:List MemPlace),
   (∀(j:Nat) t v,fn.params[j]?=some t->args[j]?=some v->bp C.prog W .any base t v)->
   DataW.Whole enc C.prog fn.params.toList s.vars apart W args.toList U gs before->
   conds.all (PathCond.test C.prog ⟨fn.params.toList,U,s.plain.varTypes C.prog,gs⟩)=true->X W args->
   ∃M last o w' t',runNT C.prog (M+1) (solo (G (Frame.enter C.prog f args .normal) []) W) #[]=(.ended o w',t')/\runN C.prog M (solo (G (Frame.enter C.prog f args .normal) []) W)=.next last/\
    step C.prog last=.ended o w'/\Conc.Good C.prog (fun v O=>s.post enc C.prog fn apart fresh handsOn false W args v {O with os:=W.os}/\OsLater W.os O.os) last o w' t'):
  ReturnsInLeavingWide a C os f .any (fun w args=>(s.pre enc C.prog fn conds apart w args/\X w args)/\sizedMet enc C.prog fn (bP s) apart w args) ((bP s).postWith enc C.prog fn F (outsideKept [.timePasses]) apart fresh handsOn):=by
 refine returnsInLeavingWide_of_good own Y K ?_;intro w tape i _ _ _ A R I;obtain⟨_,_,_,iT,D,_,_,_,_,hval⟩:=A;have e:=Option.some.inj (D.symm.trans B);subst e;obtain⟨⟨⟨U,gs,before,hw,P⟩,hx⟩,S⟩:=R;have J:=DataW.Whole.of_heap (w':=w.forCall tape i) (by rfl) hw;obtain⟨M,last,o,w',t',h1,h2,L,N⟩:=runs _ _ _ U gs _ hval J P (hX _ _ _ (by rfl) hx);obtain⟨v,e,hp,r1,r2,r3,Q⟩:=N;exact⟨M,last,o,w',t',h1,h2,L,v,e,postWith_blind (postWith_of_post hp.1 hp.2),r1,r2,r3,Q⟩
theorem GB{W W':World}{d:Nat}(h:gU (fun _=>False) W W'):Below W.heap.size W {W'.at d with os:=W.os}/\OsLater W.os (W'.at d).os:=
 ⟨⟨rfl,h.tape,h.output,h.grow,fun k hk=>h.old k hk (fun _ _ y=>y)⟩,h.env⟩
end Ph
section
open ChangeShapes WideShapes ChangeAt RowKit Deep
theorem De:Tryz.prog.cellsOf 3=1:=by kernel_rfl
theorem A3{n:Int}(h:(Lit.int .i64 n).wf=true):k_ n:=by
 simp only[Lit.wf,aN,decide_eq_true_eq]at h;exact h
section
variable{H:Type}{enc:TypeId×Value->H}{W:World}{base b0:Nat}{I:Nat->Bool}{held:Bool}{d:DataW H}{p:List MemPlace}{v:Value}{r:Reach}
theorem yR(F:bp Tryz.prog W r b0 25 v)(h:bA enc Tryz.prog W base I held 25 v d p):∃a len cap zs,v=.slice a len cap/\pq W a len zs:=by
 obtain⟨a,len,cap,rfl⟩:=okWide_slice cy F;obtain⟨fuel,B⟩:=h;refine⟨a,len,cap,?_⟩;rcases open_ints cy aW De B with⟨Y,_⟩|⟨ad,A,D,zs,Y,_,M,N,J,_,R,hw⟩
 ·simp[aX]at Y;obtain⟨rfl,rfl,rfl⟩:=Y;exact⟨fun _=>0,rfl,.inl rfl⟩
 ·simp[aX]at Y;obtain⟨rfl,rfl,rfl⟩:=Y;refine⟨fun i=>zs.getD i 0,rfl,?_⟩;by_cases U:len=0
  ·exact .inl U
  have C:len<=zs.length:=by rw[J];split<;>omega
  obtain⟨b,off,sp⟩:=ad;have H:sp=none:=by
   have h2:=World.cell?_spot (R 0 (by omega));simpa[Addr.add]using h2
  subst H;have K:∀j,(⟨b,off,none⟩:Addr).add j=⟨b,off+j,none⟩:=by
   intro j;unfold Addr.add;split<;>simp_all
  refine .inr ⟨b,off,rfl,by omega,fun i L=>⟨by rw[<-K];exact R i (by omega),A3 (hw _ ?_)⟩⟩;simp only[af,ay (show i<zs.length by omega),az];exact aI _
theorem SS(Y:bp Tryz.prog W r b0 3 v)(h:bA enc Tryz.prog W base I held 3 v d p):∃n,v=.int .i64 n/\k_ n:=by
 obtain⟨n,rfl,_,_,hw⟩:=open_int aW Y h;exact⟨n,rfl,A3 hw⟩
theorem ab7:Tryz.prog.cellsOf 28=3:=by kernel_rfl
theorem Jc(B:bp Tryz.prog W r b0 28 v)(h:bA enc Tryz.prog W base I held 28 v d p):∃x y z,v=.agg #[.int .i64 x,.int .i64 y,.int .i64 z]/\k_ x/\k_ y/\k_ z:=by
 obtain⟨cs,rfl,_⟩:=okWide_struct cA B;obtain⟨fuel,U⟩:=h;obtain⟨xs,m,_,_,K,H,Y⟩:=DataW.trod_struct cA U;rw[ab7]at K;obtain⟨cs⟩:=cs;simp only[aX]at K Y
 match cs,K with
 |[c0,c1,c2],_=>
  have hx:xs.length=3:=by simpa using H
  match xs,hx with
  |[x0,C,F],_=>
   have f0:bB enc Tryz.prog W base I held m 3 [c0]=some x0:=by simpa[De]using Y 0 _ rfl
   have f1:bB enc Tryz.prog W base I held m 3 [c1]=some C:=by simpa[De]using Y 1 _ rfl
   have f2:bB enc Tryz.prog W base I held m 3 [c2]=some F:=by simpa[De]using Y 2 _ rfl
   obtain⟨a0,D,_,z0⟩:=bC aW f0;obtain⟨a1,R,_,J⟩:=bC aW f1;obtain⟨a2,A,_,z2⟩:=bC aW f2;simp at D R A;subst D R A;exact⟨a0,a1,a2,rfl,A3 z0,A3 J,A3 z2⟩
end
end
section
open RowKit
theorem Q2{b:List UInt8}(hx:∀c∈x,gP c)(h1:1<=x.length)(h2:x.length<=200)(hb:∀c∈b,gP c)(K:1<=b.length)(D:b.length<=30):m_ (str (iF x)) (str (iH b))=0/\iX (str (iH b)) 5 0=[(⟨#[97]⟩,str b,str (iG b.length))]:=by
 obtain⟨r1,r2⟩:=adv hb K D [] [];simp only[cv,cf,bI,Nat.zero_add]at r1 r2;have H:(iH b).length=2 *b.length+7:=by simp[iH,nY];omega
 have R:(str (iH b)).size=(iH b).length:=gV _;have I:(str (iF x)).size=x.length+4:=by rw[gV];simp[iF]
 have Y:(kY (str (iH b)) 5 0).2=false:=by
  rw[kY,if_neg (by omega),kK (by rw[r1]),r1];simp only;rw[kY,if_pos (by omega)]
 refine⟨?_,?_⟩
 ·rw[m_,if_neg (by omega),ku,if_neg (by rw[adu hx h1 h2];simp),if_neg (by rw[Y];simp)];rfl
 ·rw[iX,if_neg (by omega),r2,r1,if_neg (by simp)];simp only;rw[iX,if_pos (by omega)]
theorem JN{c:Int}{n:Nat}(h:0<n)(h2:n<=1000):1<=Ph.j7 c n/\Ph.j7 c n<=n:=by
 have:=wN c h;rw[Ph.ah5 h h2];omega
theorem Dg{b:List UInt8}{n:Nat}{t w:Int}(hx:∀c∈x,gP c)(h1:1<=x.length)(h2:x.length<=200)(hb:∀c∈b,gP c)(D:1<=b.length)(U:b.length<=30)(hn:n<=6):nk (str (iF x)) (str (iH b)) (n:Nat) (Ph.j7 q 8) (Ph.j7 t 200) (Ph.j7 w 8)=if n<b.length then 0 else 4:=by
 obtain⟨K,H⟩:=Q2 hx h1 h2 hb D U;have a1:=JN (c:=q) (show 0<8 by decide) (by decide);have a2:=JN (c:=t) (show 0<200 by decide) (by decide);have a3:=JN (c:=w) (show 0<8 by decide) (by decide);have hr:xc (n:Nat) 30 (Ph.j7 q 8) (Ph.j7 t 200)=true:=by
  unfold xc;rw[decide_eq_true_eq];omega
 rw[nk,if_neg (by rw[K];simp),if_neg (by rw[hr];simp;omega),H,fewer];have Y:(str b).size=b.length:=gV b;by_cases h:n<b.length
 ·rw[if_pos h,if_neg];simp[Y,h]
 ·rw[if_neg h,if_pos];simp[Y,h]
theorem IE{b:List UInt8}{n:Nat}{t w:Int}(hx:∀c∈x,gP c)(h1:1<=x.length)(h2:x.length<=200)(hb:∀c∈b,gP c)(Y:1<=b.length)(K:b.length<=30)(hn:n<=6):qv (str (iF x)) (str (iH b)) (n:Nat) (Ph.j7 q 8) (Ph.j7 t 200) (Ph.j7 w 8)=if n<b.length then str (mo (str (iF x)) (str (iH b)) n)else⟨#[]⟩:=by
 rw[qv,Dg hx h1 h2 hb Y K hn];by_cases h:n<b.length
 ·rw[if_pos h,if_pos rfl,if_pos h];rfl
 ·rw[if_neg h,if_neg (by decide),if_neg h]
abbrev KR(a:List UInt8):mM:=(⟨#[97]⟩,str a,str (iG a.length))
section
variable{x a b:List UInt8}(hx:∀c∈x,gP c)(h1:1<=x.length)(h2:x.length<=200){n:Nat}
include hx h1 h2
theorem TM(Y:∀c∈a,gP c)(a1:1<=a.length)(a2:a.length<=30):mo (str (iF x)) (str (iH a)) n=rE ⟨#[114]⟩ (str x)++qb ⟨#[114]⟩ (str x) n (KR a):=by
 rw[mo,YN hx h1 h2,Z8 hx h1 h2,(Q2 hx h1 h2 Y a1 a2).2];rfl
end
theorem ad_(x:List UInt8)(h:x.length<=200):(rE ⟨#[114]⟩ (str x)).length<=100:=by
 have hd:=om (str x).size (by rw[gV];omega);have Y:(⟨#[114]⟩:ByteArray).data.toList.length=1:=rfl;simp only[rE,aQ,bH,bI]at Y⊢;omega
theorem af9{a:List UInt8}{n:Nat}(hx:x.length<=200)(Y:a.length<=30)(hn:n<=6):(qb ⟨#[114]⟩ (str x) n (KR a)).length<=15000000:=
 GL _ _ _ _ (by decide) (by rw[gV];omega) ⟨by show(⟨#[97]⟩:ByteArray).size<=10;decide,by show(str a).size<=30;rw[gV];exact Y,by show(str _).size<=30;rw[gV,nY];exact Y⟩ (by omega)
def NT(l:List UInt8):Prop:=∀c∈l,c≠9/\c≠10
theorem NT.app{l m:List UInt8}(h:NT l)(k:NT m):NT (l++m):=fun c Y=>(aJ.1 Y).elim (h c) (k c)
theorem NT.one{c:UInt8}(h:c≠9/\c≠10):NT [c]:=fun d hd=>by rw[cu.1 hd];exact h
theorem Ey{d:Nat}(h:d<=9):(dg d).toNat=48+d:=by
 unfold dg;rw[cC];omega
theorem NT.dg{d:Nat}(h:d<=9):NT [dg d]:=.one ⟨fun e=>by have:=congrArg UInt8.toNat e;rw[Ey h]at this;simp at this;omega,fun e=>by have:=congrArg UInt8.toNat e;rw[Ey h]at this;simp at this;omega⟩
theorem NT.dec:∀n:Nat,NT (gR n):=by
 intro n;induction n using bO with
 |ind n Y=>
  by_cases h:n<=9
  ·rw[vR n h];exact .dg h
  ·rw[yD n h];exact(Y (n/10) (by omega)).app (.dg (by omega))
theorem NT.at{l:List UInt8}(h:NT l)(i:Nat):NT [at8 (str l) i]:=by
 rw[ss,af];cases e:l[i]? with
 |none=>exact .one (by decide)
 |some c=>exact .one (h c (aK e))
theorem NT.runs{l:List UInt8}(h:NT l):NT (py (str l)):=by
 have:∀i,NT (jx (str l) i).1:=by
  intro i;induction i with
  |zero=>exact fun c K=>by simp[jx]at K
  |succ i Y=>
   rw[jx];split
   ·exact(Y.app (.dec _)).app (h.at i)
   ·exact Y
 exact this _
theorem NT.dif{p s:ByteArray}{t:List UInt8}(h:NT t):NT (oS p (str t) s):=by
 have:∀i,NT (ja p (str t) s i).o:=by
  intro i;induction i with
  |zero=>exact fun c K=>by simp[ja]at K
  |succ i Y=>
   rw[ja,uW];split
   ·split
    ·exact Y
    ·exact(Y.app (.dec _)).app (h.at _)
   ·split
    ·exact Y
    ·split
     ·exact((Y.app (.dec _)).app (.one (by decide))).app (h.at _)
     ·exact Y.app (h.at _)
 exact(this _).app (.dec _)
theorem NT.g{l:List UInt8}(h:∀c∈l,gP c):NT l:=fun c Y=>⟨by rintro rfl;exact absurd (h _ Y).1 (by decide),by rintro rfl;exact absurd (h _ Y).1 (by decide)⟩
theorem NT.lay(p t:ByteArray):NT (iA p t):=by
 have:∀f i j,NT (iO p t f i j):=by
  intro f;induction f with
  |zero=>exact fun i j c Y=>by simp[iO]at Y
  |succ f K=>
   intro i j;rw[iO];split
   ·exact fun c Y=>by simp at Y
   ·split
    ·exact(K _ _).app (.one (by decide))
    ·split
     ·exact(K _ _).app (.one (by decide))
     ·exact(K _ _).app (.one (by decide))
 exact this _ _ _
theorem NT.mks{n:Nat}(h:n<=60):NT (iG n):=fun c Y=>by
 obtain⟨i,K,rfl⟩:=ai.1 Y;have:i<n:=by simpa using K
 have e:(au (33+i)).toNat=33+i:=by rw[cC];omega
 exact⟨fun h=>by rw[h]at e;simp at e;omega,fun h=>by rw[h]at e;simp at e;omega⟩
theorem aea(l:List UInt8):jW (str l)=l.reverse:=by
 have:=Iv (str l) (str l).size (aB _);rw[Nat.sub_self,List.drop_zero]at this;exact this
abbrev F9:=List (List UInt8)
def kC(F:F9):List UInt8:=kg 9 (F.take 8)++F.getD 8 []
def ui(xn:List UInt8)(I:ByteArray)(rn p mk:List UInt8)(n:Nat)(h:Nat×Nat×Nat):F9:=
 [rn,gR n,xn,gR (h.1+1),py (str (iA (str p) (I.extract h.1 h.2.1))),gR h.2.2,oS (str p) (I.extract h.1 h.2.1) (str (iA (str p) (I.extract h.1 h.2.1))),p,mk]
theorem ab8(xn:List UInt8)(I:ByteArray)(rn p mk:List UInt8)(n:Nat)(h:Nat×Nat×Nat):w_ (str xn) I (str rn) (str p) (str mk) n h=kC (ui xn I rn p mk n h)++[10]:=by
 have e:∀l:List UInt8,(str l).data.toList=l:=fun _=>rfl;simp[w_,zw,kC,ui,kg,e]
theorem H9(c:UInt8):∀a b:List (List UInt8),kg c (a++b)=kg c a++kg c b
 |[],_=>rfl
 |x::a,b=>by rw[bE,kg,H9 c a b,kg,List.append_assoc];rfl
def oz(xn:List UInt8)(I:ByteArray)(rn p mk:List UInt8)(add:Nat)(more:Bool)(L:List (Nat×Nat×Nat)):List F9:=(List.range L.length).map fun i=>ui xn I rn p mk (nL add more i) (L.getD i (0,0,0))
theorem Sa(xn:List UInt8)(I:ByteArray)(rn p mk:List UInt8)(add k:Nat)(more:Bool):sz (str xn) I (str rn) (str p) (str mk) add k more=kg 10 ((oz xn I rn p mk add more (iE (str p) I k)).map kC):=by
 have:∀(L:List (Nat×Nat×Nat)) i,qu (str xn) I (str rn) (str p) (str mk) add more L i=kg 10 (((List.range i).map fun i=>ui xn I rn p mk (nL add more i) (L.getD i (0,0,0))).map kC):=by
  intro L i;induction i with
  |zero=>rfl
  |succ i Y=>rw[qu,Y,ab8,cx,bJ,bJ,H9];rfl
 exact this _ _
def xB(rn b mk:List UInt8):F9:=[rn,[52],[42],[48],[42],[45],[45],b,mk]
def Ez(xn:List UInt8)(I:ByteArray)(rn b mk:List UInt8)(k:Nat):List F9:=
 let p:=(g_ (str b) 0).data.toList
 if iE (str b) I k=[]/\iE (str p) I k=[]then [xB rn b mk]
 else oz xn I rn b mk 0 false (iE (str b) I k)++oz xn I rn p (jW (str mk)) 16 (decide (iE (str b) I k≠ [])) (iE (str p) I k)
theorem join_nil{c:UInt8}{L:List (List UInt8)}:kg c L=[]↔L=[]:=by
 cases L with
 |nil=>simp[kg]
 |cons x L=>simp[kg]
theorem PY{p:List UInt8}{add:Nat}{more:Bool}{L:List (Nat×Nat×Nat)}:(oz xn I rn p mk add more L).map kC=[]↔L=[]:=by
 cases L<;>simp[oz,cx]
theorem aif(xn:List UInt8)(I:ByteArray)(rn b mk:List UInt8)(k:Nat):qb (str xn) I k (str rn,str b,str mk)=kg 10 ((Ez xn I rn b mk k).map kC):=by
 have hp:g_ (str b) 0=str (g_ (str b) 0).data.toList:=rfl;have H:qi (str xn) I k (str rn,str b,str mk)=kg 10 ((oz xn I rn b mk 0 false (iE (str b) I k)).map kC):=Sa ..;have Y:qi (str xn) I k (str rn,str b,str mk)=[]↔iE (str b) I k=[]:=by rw[H,join_nil,PY]
 have D:rN (str xn) I k (str rn,str b,str mk)=kg 10 ((oz xn I rn (g_ (str b) 0).data.toList (jW (str mk)) 16 (decide (iE (str b) I k≠ [])) (iE (str (g_ (str b) 0).data.toList) I k)).map kC):=by
  rw[rN,show decide (qi (str xn) I k (str rn,str b,str mk)≠ [])=decide (iE (str b) I k≠ [])from decide_eq_decide.2 (not_congr Y)];exact Sa ..
 have K:rN (str xn) I k (str rn,str b,str mk)=[]↔iE (str (g_ (str b) 0).data.toList) I k=[]:=by rw[D,join_nil,PY]
 unfold qb Ez;by_cases h:iE (str b) I k=[]/\iE (str (g_ (str b) 0).data.toList) I k=[]
 ·rw[if_pos ⟨Y.2 h.1,K.2 h.2⟩,if_pos h,K.2 h.2];have e:∀l:List UInt8,(str l).data.toList=l:=fun _=>rfl;simp[xx,xB,kC,kg,e]
 ·rw[if_neg (fun y=>h ⟨Y.1 y.1,K.1 y.2⟩),if_neg h,bJ,H9,H,D]
def iN(b:List UInt8):List UInt8:=(b.map pb).reverse
theorem aj0:∀n:Fin 256,iM (au n)=true->gb (au n)=au n->au n=65\/au n=67\/au n=71\/au n=84\/au n=78:=by decide+kernel
theorem gP.cases{c:UInt8}(h:gP c):c=65\/c=67\/c=71\/c=84\/c=78:=by
 have:=aj0 ⟨c.toNat,c.toNat_lt⟩;simp only[UInt8.ofNat_toNat]at this;exact this h.1 h.2
theorem gP.pb{c:UInt8}(h:gP c):gP (pb c)/\Go.Proofs.YtdcjnhipenbcfaaGreatDoor.pb (Go.Proofs.YtdcjnhipenbcfaaGreatDoor.pb c)=c:=by
 rcases h.cases with rfl|rfl|rfl|rfl|rfl<;>exact⟨⟨by decide,by decide⟩,by decide⟩
theorem Sb{b:List UInt8}(h:∀c∈b,gP c):∀c∈iN b,gP c:=fun c Y=>by
 obtain⟨d,hd,rfl⟩:=ai.1 (cn.1 Y);exact(h d hd).pb.1
theorem flip_flip{b:List UInt8}(h:∀c∈b,gP c):iN (iN b)=b:=by
 unfold iN;rw[List.map_reverse,List.reverse_reverse,List.map_map];exact(List.map_congr_left fun c Y=>(h c Y).pb.2).trans (List.map_id _)
theorem aeb(b:List UInt8):(iN b).length=b.length:=by simp[iN]
theorem SU{F:F9}(D:F.length=9)(hN:∀f∈F,NT f):oy (str (kC F))=F.map str:=by
 match F,D with
 |[f0,f1,f2,Y,K,f5,f6,f7,f8],_=>
  have h:=Iz 9 f8 (fun e=>(hN f8 (by simp) _ e).1 rfl) [f0,f1,f2,Y,K,f5,f6,f7] (fun x hx e=>(hN x (bL (i:=8) hx) _ e).1 rfl);exact h
theorem SV(l m:List UInt8):∀i,i<=l.length->oi (str (l++m)) i=oi (str l) i/\nx (str (l++m)) i=nx (str l) i
 |0,_=>⟨rfl,rfl⟩
 |i+1,h=>by
  obtain⟨h1,h2⟩:=SV l m i (by omega);have e:at8 (str (l++m)) i=at8 (str l) i:=by rw[ss,ss,af,af,aH (by omega)]
  exact⟨by rw[oi,h1,e];rfl,by rw[nx,h2,e];rfl⟩
theorem aih:∀n:Nat,oi (str (gR n)) (gR n).length=n/\nx (str (gR n)) (gR n).length=true:=by
 intro n;induction n using bO with
 |ind n D=>
  have one:∀d (l:List UInt8),d<=9->at8 (str (l++[dg d])) l.length=dg d:=fun d l _=>by rw[ss,af];simp
  by_cases h:n<=9
  ·rw[vR n h];have:=one n [] h;simp only[cv,bI]at this;simp[oi,nx,this,uz,Ey h];omega
  ·obtain⟨h1,h2⟩:=D (n/10) (by omega);rw[yD n h];obtain⟨Y,K⟩:=SV (gR (n/10)) [dg (n%10)] _ (aB _);have H:=one (n%10) (gR (n/10)) (by omega);rw[aQ,List.length_singleton,oi,nx,Y,K,H,h1,h2];simp[uz,Ey (show n%10<=9 by omega)];omega
theorem yS{n:Nat}(h:n<=9999):j0 (str (gR n))=n:=by
 have Y:=om n h;obtain⟨h1,h2⟩:=aih n;rw[j0,gV,if_pos ⟨Y.1,by omega,h2⟩,h1]
structure Ab(F:F9):Prop where
 len:F.length=9
 nt:∀f∈F,NT f
 flag:∃n,n<=9999/\F.getD 1 []=gR n
 pos:∃n,n<=9999/\F.getD 3 []=gR n
theorem Q3{F:F9}{i:Nat}:(F.map str).getD i nS=str (F.getD i []):=by
 rw[af,af,aj];cases F[i]?<;>rfl
theorem Ab.line{F:F9}(h:Ab F)(U:(kC F).length<=100000000):(str (kC F)).size<=100000000/\(oy (str (kC F))).length=9/\0<=j0 ((oy (str (kC F))).getD 1 nS)/\0<=j0 ((oy (str (kC F))).getD 3 nS):=by
 obtain⟨n,D,Y⟩:=h.flag;obtain⟨m,H,K⟩:=h.pos;rw[SU h.len h.nt,Q3,Q3,Y,K,yS D,yS H,bg,h.len,gV];exact⟨U,rfl,by omega,by omega⟩
theorem NT.line{F:F9}(h:∀f∈F,NT f):(10:UInt8)∉kC F:=by
 have:∀Y:List (List UInt8),(∀f∈Y,NT f)->(10:UInt8)∉kg 9 Y:=by
  intro Y;induction Y with
  |nil=>intro _ h;simp[kg]at h
  |cons x Y H=>
   intro h e;rw[kg,aJ,aT]at e;rcases e with e|e|e
   ·exact(h x (by simp) _ e).2 rfl
   ·exact absurd e (by decide)
   ·exact H (fun f K=>h f (by simp[K])) e
 intro e;rcases aJ.1 e with e|e
 ·exact this _ (fun f K=>h f (bL K)) e
 ·rw[af]at e;cases e':F[8]? with
  |none=>rw[e']at e;simp at e
  |some f=>rw[e']at e;exact(h f (aK e') _ e).2 rfl
theorem NT.ext{x:List UInt8}(h:NT x)(a b:Nat):∃t,(str x).extract a b=str t/\NT t:=⟨_,AP x a b,fun c Y=>h c (bL (List.mem_of_mem_drop Y))⟩
section
variable{xn x rn p mk:List UInt8}(Cb:NT xn)(hx:NT x)(MX:NT rn)(hp:NT p)(I1:NT mk)
include Cb hx MX hp I1
theorem af_{n:Nat}{h:Nat×Nat×Nat}(hn:n<=9999)(D:h.1+1<=9999):Ab (ui xn (str x) rn p mk n h):=by
 obtain⟨t,K,H⟩:=hx.ext h.1 h.2.1;refine⟨rfl,fun f Y=>?_,⟨n,hn,rfl⟩,⟨h.1+1,D,rfl⟩⟩;simp only[ui,aT,cw,or_false]at Y;rw[K]at Y;rcases Y with rfl|rfl|rfl|rfl|rfl|rfl|rfl|rfl|rfl
 ·exact MX
 ·exact .dec _
 ·exact Cb
 ·exact .dec _
 ·exact(NT.lay _ _).runs
 ·exact .dec _
 ·exact H.dif
 ·exact hp
 ·exact I1
theorem Q4{add k:Nat}{more:Bool}(D:add<=16)(U:x.length<=9000):∀F∈oz xn (str x) rn p mk add more (iE (str p) (str x) k),Ab F:=by
 intro F hF;obtain⟨i,K,rfl⟩:=ai.1 hF;have Y:i<(iE (str p) (str x) k).length:=by simpa using K
 have H:(iE (str p) (str x) k).getD i (0,0,0)∈iE (str p) (str x) k:=by rw[af,ay Y];exact aI _
 have:=Dq (str p) (str x) k _ (aB _) _ H;rw[gV]at this;exact af_ Cb hx MX hp I1 (by unfold nL;split<;>omega) (by omega)
end
section
variable{x b:List UInt8}(hx:∀c∈x,gP c)(h1:1<=x.length)(h2:x.length<=200)(hb:∀c∈b,gP c)(b1:1<=b.length)(b2:b.length<=30){n:Nat}(hn:n<=6)
abbrev js(x b:List UInt8)(n:Nat):List F9:=Ez [114] (str x) [97] b (iG b.length) n
include hx h1 h2 hb b1 b2
theorem Q5:∀F∈js x b n,Ab F:=by
 intro F hF;have n1:NT [114]:=.one (by decide);have n2:NT [97]:=.one (by decide);have Y:NT (iG b.length):=.mks (by omega);unfold js Ez at hF;simp only at hF;split at hF
 ·rw[cu]at hF;subst hF;refine⟨rfl,fun f K=>?_,⟨4,by decide,rfl⟩,⟨0,by decide,rfl⟩⟩;simp only[xB,aT,cw,or_false]at K;rcases K with rfl|rfl|rfl|rfl|rfl|rfl|rfl|rfl|rfl
  ·exact n2
  ·exact .one (by decide)
  ·exact .one (by decide)
  ·exact .one (by decide)
  ·exact .one (by decide)
  ·exact .one (by decide)
  ·exact .one (by decide)
  ·exact .g hb
  ·exact Y
 ·rw[aJ]at hF;rcases hF with hF|hF
  ·exact Q4 n1 (.g hx) n2 (.g hb) Y (by omega) (by omega) F hF
  ·exact Q4 n1 (.g hx) n2 (.g (Sb hb)) (by rw[aea];exact fun c H=>Y c (cn.1 H)) (by omega) (by omega) F hF
theorem TP:mo (str (iF x)) (str (iH b)) n=kg 10 (([64,114,9]++gR x.length)::(js x b n).map kC):=by
 rw[TM hx h1 h2 hb b1 b2];have:qb ⟨#[114]⟩ (str x) n (KR b)=kg 10 ((js x b n).map kC):=aif [114] (str x) [97] b (iG b.length) n;rw[this,kg,rE,gV];simp
theorem ab9:iP (str (mo (str (iF x)) (str (iH b)) n)) 10 ((str (mo (str (iF x)) (str (iH b)) n)).size+1)=(([64,114,9]++gR x.length)::(js x b n).map kC).map str++[nS]:=by
 rw[TP hx h1 h2 hb b1 b2];have:=Iz 10 [] (by simp) (([64,114,9]++gR x.length)::(js x b n).map kC) fun l Y=>by
  rcases aT.1 Y with rfl|Y
  ·intro e;rcases aJ.1 e with e|e
   ·simp at e
   ·exact(NT.dec _ _ e).2 rfl
  ·obtain⟨F,hF,rfl⟩:=ai.1 Y;exact NT.line (Q5 hx h1 h2 hb b1 b2 F hF).nt
 rw[cf]at this;exact this
end
theorem Q6{c:UInt8}:∀{Ls:List (List UInt8)} {l:List UInt8},l∈Ls->l.length<=(kg c Ls).length
 |x::Ls,l,h=>by
  rw[kg,aQ,bH];rcases aT.1 h with rfl|h
  ·omega
  ·have:=Q6 (c:=c) h;omega
def nM(rs:List F9):List Value:=rs.flatMap fun F=>qT (F.map str)
theorem Q7{rs:List F9}(Y:∀F∈rs,Ab F):∀i,i<=rs.length->xk ((h::rs.map kC).map str++[nS]) i=nM (rs.take i)
 |0,_=>rfl
 |i+1,K=>by
  have hF:rs[i]?=some rs[i]:=ay (by omega);have e:((h::rs.map kC).map str++[nS]).getD (i+1) nS=str (kC rs[i]):=by
   rw[af,aH (by simp;omega),aj,bF,aj,hF];rfl
  have ok:=Y rs[i] (aI _);rw[xk,Q7 Y i (by omega),e,SU ok.len ok.nt];have:rs.take (i+1)=rs.take i++[rs[i]]:=by rw[List.take_add_one,hF];rfl
  rw[this,nM,nM,List.flatMap_append,List.flatMap_singleton]
end
namespace Ph
open Conc Ren RowKit
theorem yT{W:World}{a:Option Addr}{len:Nat}{zs:Nat->Int}(h:pq W a len zs)(g:gU (fun _=>False) W w):pq w a len zs:=by
 rcases h with h|⟨b,off,rfl,K,h⟩
 ·exact .inl h
 ·refine .inr ⟨b,off,rfl,K,fun i Y=>?_⟩;obtain⟨h1,h2⟩:=h i Y;have hb:b<W.heap.size:=block_lt_of_cell h1;refine⟨?_,h2⟩;rw[<-h1];simp only[ah,g.old b hb (fun _ _ y=>y)]
theorem Here.on{W:World}(h:Here (fun _=>False) W)(g:gU (fun _=>False) W w):Here (fun _=>False) w:=by
 have Y:∀b,b=0\/b=2\/b=3->w.heap[b]?=W.heap[b]?:=fun b hb=>g.old b (h.gl hb) (h.off b (h.gl hb));exact⟨ao h.low g.grow,h.tabs.same Y,Aq h.jb (Y 0 (.inl rfl)),fun _ _ _ _ y=>y⟩
theorem Ar{Q:QT}{v:World}{b:List UInt8}(hx:∀c∈x,gP c)(h1:1<=x.length)(h2:x.length<=200)(hb:∀c∈b,gP c)(b1:1<=b.length)(b2:b.length<=30){n:Nat}(hn:n<=6):
  gW Q 25 #[.string (str (mo (str (iF x)) (str (iH b)) n))] v fun y v'=>∃l,y=.tuple #[l,.bool true]/\v'.ownsRow v.heap.size 42 9 l (js x b n).length (nM (js x b n))/\Kw v v':=by
 have K:=Q5 hx h1 h2 hb b1 b2 (n:=n);have A:=ab9 hx h1 h2 hb b1 b2 (n:=n);have R:=TP hx h1 h2 hb b1 b2 (n:=n);have C:(mo (str (iF x)) (str (iH b)) n).length<=20000000:=by
  have U:=ad_ x h2;have B:=af9 (x:=x) (a:=b) (n:=n) h2 b2 hn;rw[TM hx h1 h2 hb b1 b2,aQ];omega
 generalize js x b n=rs at *;have Y:((([64,114,9]++gR x.length)::(rs).map kC).map str++[nS]).length=(rs).length+2:=by simp
 have H:=af8 (Q:=Q) (v:=v) (s:=str (mo (str (iF x)) (str (iH b)) n)) (by rw[gV];omega) A (by rw[Y];omega) ?_ ?_ ?_ ?_
 ·rw[Y,Nat.add_sub_cancel,Q7 K _ (aB _),List.take_length]at H;exact H
 ·rw[Y,af,a_ (by simp)];simp
 ·rw[cm,bE,cj,gV];simp
 ·rw[cm,bE,cj,ss];rfl
 ·intro j I;rw[Y]at I;obtain⟨F,hF⟩:∃F,rs[j]?=some F:=⟨_,ay (show j<rs.length by omega)⟩;have D:=aK hF;have e:(((([64,114,9]++gR x.length)::(rs).map kC).map str++[nS])).getD (j+1) nS=str (kC F):=by
   rw[af,aH (by simp;omega),aj,bF,aj,hF];rfl
  rw[e];refine(K F D).line ?_;have:=Q6 (c:=10) (Ls:=([64,114,9]++gR x.length)::(rs).map kC) (l:=kC F) (bK _ (ai.2 ⟨F,D,rfl⟩));rw[<-R]at this;omega
theorem SW(hx:x.length<=1000):Be 23 #[.string (str x)] (.string (str (iF x))):=JM (by kernel_rfl) rfl fun Q v _ _=>TK hx (.refl v)
end Ph
section
open RowKit
theorem CR{p:List UInt8}{add:Nat}{more:Bool}{L:List (Nat×Nat×Nat)}{i:Nat}{h:Nat×Nat×Nat}(e:L[i]?=some h):(oz xn I rn p mk add more L)[i]?=some (ui xn I rn p mk (nL add more i) h):=by
 have Y:i<L.length:=(ck.1 e).1;unfold oz;rw[aj,bc Y,aU,af,e];rfl
theorem tA{p:List UInt8}{add:Nat}{more:Bool}{L:List (Nat×Nat×Nat)}:(oz xn I rn p mk add more L).length=L.length:=by simp[oz]
theorem PZ:∀{rs:List F9} {i j:Nat} {F:F9},rs[i]?=some F->j<9->(nM rs)[i *9+j]?=(qT (F.map str))[j]?
 |[],i,j,F,h,_=>by simp at h
 |G::rs,0,j,F,h,Y=>by
  cases h;have e:nM (G::rs)=qT (G.map str)++nM rs:=rfl;rw[e,aH (by simp[qT];omega)];simp
 |G::rs,i+1,j,F,h,Y=>by
  have e:nM (G::rs)=qT (G.map str)++nM rs:=rfl;rw[e,a_ (by simp[qT];omega),show(i+1) *9+j-(qT (G.map str)).length=i *9+j by simp[qT];omega];exact PZ h Y
theorem IF{H:Nat}{l:Value}{rs:List F9}(h:w.ownsRow H 42 9 l rs.length (nM rs))(hn:1<=rs.length):∃G C,l=.slice (some ⟨G,0,none⟩) rs.length C/\H<=G/\G<w.heap.size/\∀i j F,rs[i]?=some F->j<9->w.cell? ⟨G,i *9+j,none⟩=(qT (F.map str))[j]?:=by
 rcases h.2 with⟨_,I⟩|⟨g,cap,K,rfl,h2,Y,A,U,B,D⟩
 ·omega
 ·refine⟨g,cap,rfl,h2,Ph.jQ Y,fun i j F hF R=>?_⟩;have J:i<rs.length:=(ck.1 hF).1;rw[<-PZ hF R,<-D,List.getElem?_take_of_lt (by omega),bW];simp[ah,Y]
def mh(b:List UInt8)(s:Nat):List UInt8:=if s=0 then b else iN b
def WM(b:List UInt8)(s:Nat):List UInt8:=if s=0 then iG b.length else jW (str (iG b.length))
def nT(s i:Nat):Nat:=16 *s+if 0<i then 256 else 0
abbrev pH:=Nat×Nat×Nat×Nat
def iw(x b:List UInt8)(n:Nat):List pH:=(iE (str (mh b 0)) (str x) n).map (Prod.mk 0)++(iE (str (mh b 1)) (str x) n).map (Prod.mk 1)
def zC(x b:List UInt8)(i:Nat)(q:pH):F9:=ui [114] (str x) [97] (mh b q.1) (WM b q.1) (nT q.1 i) q.2
theorem Hj(x b:List UInt8)(n:Nat):js x b n=if iw x b n=[]then [xB [97] b (iG b.length)]else(List.range (iw x b n).length).map fun i=>zC x b i ((iw x b n).getD i (0,0,0,0)):=by
 have hd:js x b n=if iE (str b) (str x) n=[]/\iE (str (iN b)) (str x) n=[]then [xB [97] b (iG b.length)]else oz [114] (str x) [97] b (iG b.length) 0 false (iE (str b) (str x) n)++oz [114] (str x) [97] (iN b) (jW (str (iG b.length))) 16 (decide (iE (str b) (str x) n≠ [])) (iE (str (iN b)) (str x) n):=rfl
 have D:iw x b n=(iE (str b) (str x) n).map (Prod.mk 0)++(iE (str (iN b)) (str x) n).map (Prod.mk 1):=rfl;rw[hd,D];generalize iE (str b) (str x) n=Y;generalize iE (str (iN b)) (str x) n=H;by_cases K:Y=[]/\H=[]
 ·rw[if_pos K,K.1,K.2];rfl
 ·rw[if_neg K,if_neg (by simpa using K)];refine List.ext_getElem? fun i=>?_;by_cases h1:i<Y.length
  ·obtain⟨h,e⟩:∃h,Y[i]?=some h:=⟨_,ay h1⟩;rw[aH (by rw[tA];exact h1),CR e,aj,bc (by simp;omega),aU,af,aH (by simpa using h1),aj,e];show some _=some (zC x b i (0,h))
   unfold zC;rw[show nL 0 false i=nT 0 i by simp[nL,nT]];rfl
  ·rw[a_ (by rw[tA];omega),tA];by_cases h2:i-Y.length<H.length
   ·obtain⟨h,e⟩:∃h,H[i-Y.length]?=some h:=⟨_,ay h2⟩;rw[CR e,aj,bc (by simp;omega),aU,af,a_ (by simp;omega),bg,aj,e];show some _=some (zC x b i (1,h))
    unfold zC;have:nL 16 (decide (Y≠ [])) (i-Y.length)=nT 1 i:=by
     unfold nL nT;rcases Y with _|⟨y,Y⟩
     ·simp;split<;>rfl
     ·simp at h1;rw[if_pos (.inl (by simp)),if_pos (by omega)]
    rw[this];rfl
   ·rw[bG (by rw[tA];omega),bG (by simp;omega)]
theorem za{b:List UInt8}{n:Nat}{q:pH}(h:q∈iw x b n):q.1<2/\q.2∈iE (str (mh b q.1)) (str x) n/\q.2.1<=q.2.2.1/\q.2.2.1<=x.length/\q.2.2.2<=n:=by
 have key:∀s y,s<2->y∈iE (str (mh b s)) (str x) n->s<2/\y∈iE (str (mh b s)) (str x) n/\y.1<=y.2.1/\y.2.1<=x.length/\y.2.2<=n:=fun s y K Y=>by
  have:=Dq (str (mh b s)) (str x) n _ (aB _) _ Y;rw[gV]at this;exact⟨K,Y,this⟩
 rcases aJ.1 h with h|h
 ·obtain⟨y,Y,rfl⟩:=ai.1 h;exact key 0 y (by decide) Y
 ·obtain⟨y,Y,rfl⟩:=ai.1 h;exact key 1 y (by decide) Y
theorem aii{b:List UInt8}{n s:Nat}{h:Nat×Nat×Nat}(Y:s<2)(m:h∈iE (str (mh b s)) (str x) n):(s,h)∈iw x b n:=by
 rcases(show s=0\/s=1 by omega)with rfl|rfl
 ·exact List.mem_append_left _ (ai.2 ⟨h,m,rfl⟩)
 ·exact List.mem_append_right _ (ai.2 ⟨h,m,rfl⟩)
theorem aga(x b:List UInt8)(n:Nat):(iw x b n).length<=2 *(x.length+1):=by
 have h1:=yo (str (mh b 0)) (str x) n ((str x).size+1);have h2:=yo (str (mh b 1)) (str x) n ((str x).size+1);rw[gV]at h1 h2;unfold iw iE;rw[aQ,bg,bg,gV];omega
def Br(x b:List UInt8)(i:Nat)(q:pH):List Value:=[.string (str [97]),.int .i64 (nT q.1 i:Nat),.string (str [114]),.int .i64 (q.2.1+1:Nat),.string (str (py (str (iA (str (mh b q.1)) ((str x).extract q.2.1 q.2.2.1))))),.string (str (gR q.2.2.2)),.string (str (oS (str (mh b q.1)) ((str x).extract q.2.1 q.2.2.1) (str (iA (str (mh b q.1)) ((str x).extract q.2.1 q.2.2.1))))),.string (str (mh b q.1)),.string (str (WM b q.1))]
def TQ(b:List UInt8):List Value:=[.string (str [97]),.int .i64 4,.string (str [42]),.int .i64 0,.string (str [42]),.string (str [45]),.string (str [45]),.string (str b),.string (str (iG b.length))]
theorem agb{b:List UInt8}{i:Nat}{q:pH}(K:q.1<2)(Y:q.2.1<=9000):qT ((zC x b i q).map str)=Br x b i q:=by
 show [_,aY .i64 (j0 (str (gR (nT q.1 i)))),_,aY .i64 (j0 (str (gR (q.2.1+1)))),_,_,_,_,_]=_
 rw[yS (by unfold nT;split<;>omega),yS (by omega)];rfl
theorem aec(b:List UInt8):qT ((xB [97] b (iG b.length)).map str)=TQ b:=by
 show [_,aY .i64 (j0 (str [52])),_,aY .i64 (j0 (str [48])),_,_,_,_,_]=_
 rw[show j0 (str [52])=4 by decide+kernel,show j0 (str [48])=0 by decide+kernel];rfl
def nX(x b:List UInt8)(n:Nat):Nat:=if iw x b n=[]then 1 else(iw x b n).length
def ny(x b:List UInt8)(n i:Nat):List Value:=if iw x b n=[]then TQ b else Br x b i ((iw x b n).getD i (0,0,0,0))
theorem P0(x b:List UInt8)(n:Nat):(js x b n).length=nX x b n:=by
 rw[Hj,nX];split
 ·rfl
 ·simp
theorem SX(x b:List UInt8)(n:Nat):1<=nX x b n:=by
 unfold nX;split
 ·exact aB _
 ·rename_i h;exact List.length_pos_iff.2 h
theorem Bg(x b:List UInt8)(n:Nat):nX x b n<=2 *(x.length+1):=by
 have:=aga x b n;unfold nX;split<;>omega
theorem D8{H:Nat}{l:Value}{b:List UInt8}{n:Nat}(hx:x.length<=200)(h:w.ownsRow H 42 9 l (js x b n).length (nM (js x b n))):∃G C,l=.slice (some ⟨G,0,none⟩) (nX x b n) C/\H<=G/\G<w.heap.size/\∀i j,i<nX x b n->j<9->w.cell? ⟨G,i *9+j,none⟩=(ny x b n i)[j]?:=by
 obtain⟨G,C,e,h1,h2,R⟩:=IF h (by rw[P0];exact SX x b n);rw[P0]at e;refine⟨G,C,e,h1,h2,fun i j K I=>?_⟩;unfold ny;by_cases Y:iw x b n=[]
 ·rw[if_pos Y,<-aec];rw[nX,if_pos Y]at K;obtain rfl:i=0:=by omega
  exact R 0 j _ (by rw[Hj,if_pos Y];rfl) I
 ·rw[nX,if_neg Y]at K;have A:(iw x b n).getD i (0,0,0,0)∈iw x b n:=by rw[af,ay K];exact aI _
  have D:=za A;rw[if_neg Y,<-agb D.1 (by omega)];exact R i j _ (by rw[Hj,if_neg Y,aj,bc K];rfl) I
end
namespace Ph
open Conc Ren RowKit
def rI(w:World)(G N:Nat)(A:Nat->Nat->ByteArray)(y z:Nat->Nat):Prop:=∀i,i<N->w.cell? ⟨G,i *9,none⟩=some (.string (A i 0))/\w.cell? ⟨G,i *9+1,none⟩=some (ii (y i))/\w.cell? ⟨G,i *9+2,none⟩=some (.string (A i 2))/\w.cell? ⟨G,i *9+3,none⟩=some (ii (z i))/\w.cell? ⟨G,i *9+4,none⟩=some (.string (A i 4))/\w.cell? ⟨G,i *9+5,none⟩=some (.string (A i 5))/\w.cell? ⟨G,i *9+6,none⟩=some (.string (A i 6))/\w.cell? ⟨G,i *9+7,none⟩=some (.string (A i 7))/\w.cell? ⟨G,i *9+8,none⟩=some (.string (A i 8))
theorem rI.on{w':World}{G N:Nat}{A:Nat->Nat->ByteArray}{y z:Nat->Nat}(h:rI w G N A y z)(K:G<w.heap.size)(Y:Below w.heap.size w w'):rI w' G N A y z:=fun i H=>by
 have e:∀k,w'.cell? ⟨G,k,none⟩=w.cell? ⟨G,k,none⟩:=fun k=>Y.cell (p:=⟨G,k,none⟩) K;simp only[e];exact h i H
def kq(j m:Nat)(x y:Value):Value:=if Nat.ble j m then x else y
theorem P1(c:Nat)(Y:c<=1000)(W:World):Calls PR 19 #[.int .i64 c,.int .i64 2] W fun e w'=>e=.returned (.int .i64 (c%2:Nat))/\w'=W:=by
 have:=QK (c:Int) 2 W ⟨by omega,by omega⟩ (by omega) (by omega);have e:kN (c:Int) 2=c%2:=by unfold kN;rw[if_neg (by omega)];rfl
 rw[e]at this;exact this
end Ph
section
open RowKit
def jG(x b:List UInt8)(n i c:Nat):ByteArray:=match(ny x b n i)[c]? with
 |some (.string s)=>s
 |_=>nS
def iI(x b:List UInt8)(n i c:Nat):Nat:=match(ny x b n i)[c]? with
 |some (.int _ z)=>z.toNat
 |_=>0
theorem Sc(x b:List UInt8)(n i:Nat):ny x b n i=[.string (jG x b n i 0),.int .i64 (iI x b n i 1:Nat),.string (jG x b n i 2),.int .i64 (iI x b n i 3:Nat),.string (jG x b n i 4),.string (jG x b n i 5),.string (jG x b n i 6),.string (jG x b n i 7),.string (jG x b n i 8)]:=by
 unfold jG iI ny;split<;>rfl
theorem Du{G:Nat}{b:List UInt8}{n:Nat}(h:∀i j,i<nX x b n->j<9->w.cell? ⟨G,i *9+j,none⟩=(ny x b n i)[j]?):Ph.rI w G (nX x b n) (jG x b n) (fun i=>iI x b n i 1) (fun i=>iI x b n i 3):=by
 intro i Y;have k:=fun j K=>h i j Y K;rw[Sc]at k;exact⟨k 0 (by omega),k 1 (by omega),k 2 (by omega),k 3 (by omega),k 4 (by omega),k 5 (by omega),k 6 (by omega),k 7 (by omega),k 8 (by omega)⟩
theorem Dv(x b:List UInt8)(n i:Nat)(hx:x.length<=200):iI x b n i 1<=1000:=by
 unfold iI;by_cases Y:iw x b n=[]
 ·rw[ny,if_pos Y];exact(by decide:(4:Int).toNat<=1000)
 ·rw[ny,if_neg Y];show((nT _ i:Nat):Int).toNat<=1000
  by_cases K:i<(iw x b n).length
  ·have H:(iw x b n).getD i (0,0,0,0)∈iw x b n:=by rw[af,ay K];exact aI _
   have:=(za H).1;unfold nT;split<;>omega
  ·rw[af,bG (by omega)];unfold nT;split<;>simp
theorem Hk(s:ByteArray)(w:World)(D:s.size<=200):
  Calls Tryz.prog 21 #[.string s] w fun e w'=>e=.returned (.string (g_ s 0))/\w'=w:=by
 go_enter Tryz.func21,Tryz.ntmps21
 go_wp2
 go_loop [3,4] (fun t i=>TT s t i) (fun _ i=>(intOf i+1).toNat)
 case atStart=>
  rcases Nat.eq_zero_or_pos s.size with K|hp
  ·left;refine⟨by rw[K];rfl,AD ?_⟩;unfold g_;rw[cg (by rw[Hm];omega)];rfl
  ·refine .inr ⟨s.size-1,by omega,iY (by omega),AD ?_⟩;unfold g_;rw[cg (by rw[Hm];omega)];rfl
 case round=>
  rcases hrel with⟨rfl,rfl⟩|⟨j,Y,rfl,rfl⟩
  ·go_wp2
   go_ret
   exact⟨rfl,rfl⟩
  ·have H:=Ct s (j+1);go_wp2
   all_goals
    go_round
    case rel=>
     go_light
     first
      |exact As s j Y _ (aj3 _ ‹_›)
      |exact As s j Y _ (aj4 _ ‹_›)
      |exact As s j Y _ (aj5 _ ‹_›)
      |exact As s j Y _ (aj6 _ ‹_›)
      |exact As s j Y _ (aj7 _ ‹_› ‹_› ‹_› ‹_›)
    case measure=>go_light;simp[intOf]
end
end
end Go.Proofs.YtdcjnhipenbcfaaGreatDoor
