/-
  Own text. Part 10 of what the claim rests on.
-/
import Derived.Conc.CompanyDraw
import Derived.Conc.HoldsTime
import Derived.Test.YtdcjnhipenbcfaaGreatDoorPk9
set_option linter.unusedVariables false
set_option linter.unusedSectionVars false
set_option linter.unusedSimpArgs false
set_option maxRecDepth 100000
set_option maxHeartbeats 16000000
open Array renaming getElem?_eq_getElem->asP,replicate->as2,mem_of_getElem?->atq,all_eq_true->atB,ext->atP
open Bool renaming toNat_le->asQ
open Classical renaming byContradiction->ati
open Go.Act renaming eval->asV
open Go.Addr renaming add->as7
open Go.Exit renaming normal->atC
open Go.Frame renaming enter->asO,eval_at'->as9,eval_at->atu
open Go.Instr renaming loadAt->as0,indexAt->atd,buildSlice->atE
open Go.IntKind renaming i64->asZ
open Go.Lib renaming tabData->ato
open Go.Lib.laidMet renaming reads->atf
open Go.OpenSpec renaming ofChange->atg
open Go.Program renaming globalNamed->atv
open Go.Proofs.Tryz renaming prog->asN,f92->asT,func60->ata,func92->atc,f111->atw,func111->aty,f39->atF,f38->atG,underlying5->atJ
open Go.Proofs.YtdcjnhipenbcfaaGreatDoor.Ph.aZ renaming bg->as3,pure->as4
open Go.Proofs.YtdcjnhipenbcfaaGreatDoor.Ph.cA renaming of->atA
open Go.Proofs.YtdcjnhipenbcfaaGreatDoor.tq renaming val->atK
open Go.Region renaming ready->asK,schedule->atk
open Go.Region.linearise renaming go->asL
open Go.Value renaming cells->atn,int->atO
open Go.World renaming cell?->asJ,frozen?->asU
open List renaming getD_eq_getElem?_getD->asM,getElem?_eq_getElem->asX,length_pos_iff->as1,all_eq_true->as5,length_append->as8,append_assoc->as_,getElem?_map->ate,map_append->atl,reverse_singleton->atm,singleton_append->atp,mem_of_getElem?->atr,map_map->atx,mem_map->atz,mem_toArray->atH,not_mem_nil->atI,append_nil->atL,nil_append->atM
open Nat renaming le_trans->asR,lt_of_lt_of_le->asS,le_refl->asY,zero_add->atj
open Option renaming getD_some->atb,isNone_iff_eq_none->ath
open Option.some renaming inj->as6
namespace Go.Proofs.YtdcjnhipenbcfaaGreatDoor
variable {listed:Array Bool}{a':Array Value}{fl:Bool}{X XN ref rm rn:ByteArray}{fn:FuncId}{cs:List Frame}{site:List Item}{ks:List Nat}{Pk:List UInt8}{xs:List Value}{Z1:Loc->Prop}{B b4 b5 b6 d n:Nat}{X':Nat->Prop}{e t':TypeId}{x x' y z z0 z1 z2:Value}{v v' v0 v1 w w':World}
namespace Ph
open Conc Ren
def mo(w:World):Prop:=∀g,g=0\/g=2\/g=3->∃(c:Array Value) (t:TypeId) (fz:Nat×Nat),w.heap[g]?=some (.cells c t fz)/\∀x∈c,∃k n,x=atO k n
theorem mo.same(h:mo w)(e:∀g,g=0\/g=2\/g=3->w'.heap[g]?=w.heap[g]?):mo w':=fun g hg=>by rw[e g hg];exact h g hg
theorem mz(h:cf w)(e:w'.heap[0]?=w.heap[0]?):cf w':=by
 have hg:atv asN "internal/strconv.uint64pow10"=some 0:=by kernel_rfl
 unfold cf Lib.TabIs World.var? at *;simp_all
theorem ad2:fQ K0 PR false plC=true:=by decide+kernel
def cB(X P rn rm:ByteArray)(fl:Bool)(k:Nat):=(cw P X k).map fun e=>y8 (vo X P rn rm fl (fun e=>(best P X k e).2) (fun e=>(best P X k e).1) e)
noncomputable def uM (X P:ByteArray) (k q st n b5 b6 Mp:Nat) (i:Nat):Value:=(([(19,Vy b5 1),(20,.string X),(21,Vy b6 1),(22,.string P),(23,qp k q st),(24,iv n),(25,.map (some Mp))]:List (Nat×Value)).lookup i).getD undef
section
variable{Qq:QT}{Z:Loc->Prop}{w:World}{c:Frame}{cs:List Frame}{XN X rn P rm:ByteArray}{fl:Bool}{k q st n:Nat}
theorem Y2(hX:X.size<=200)(hP:P.size<=30)(hk:k<=6)(hkP:k<P.size)(hq:1<=q)(hs:1<=st){w1:World}{b8 Mp:Nat}(h5:w1.heap[b5]?=some (.cells #[.string XN,.string X] 68))(h6:w1.heap[b6]?=some (.cells #[.string rn,.string P,.string rm] 131))(hM:oQ (kH X P k st (cv X P k q st)) (w1.heap[Mp]?))(hlM:Mp<w1.heap.size)(hT:cf w1)(T:Nat->Question->Nat):
  plC.wp PR (bodyPost PR atw fun e v=>∃y,e=.returned y/\v.ownsRow w1.heap.size 136 1 y (cw P X k).length (cB X P rn rm fl k)/\(cw P X k=[]->y=.slice none 0 0)/\∀a,a<w1.heap.size->v.heap[a]?=w1.heap[a]?) ⟨slP (vp XN X) (KG rn P rm) (qp k q st) (iv n) fl b5 b6 b8 Mp (uM X P k q st n b5 b6 Mp),[]⟩ (tp w1 T):=by
 obtain⟨nn,l,aJ,hR,hpw⟩:=VD hM;have hg:=Ju X P k q st hq hs hkP;have hm:∀e,e∈cw P X k↔(kH X P k st (cv X P k q st) e).isSome=true:=by
  intro e;rw[xI,hg e];simp_all
 obtain⟨ajW,hlen⟩:=Jt hR hpw _ (M3 P X k) hm;have hel:=oc P X k;have aW:∀W:World,W.heap[Mp]?=w1.heap[Mp]?->W.ownsMap PR 3 (plainElem PR 3) Mp nn (.map l):=by
  intro W hW;obtain⟨es,clock,hb,r⟩:=aJ;exact⟨es,clock,hW.trans hb,r⟩
 refine wp_mono (Q4 X P rn rm XN fl (cw P X k) (fun e=>(best P X k e).2) (fun e=>(best P X k e).1) _ _ _ _ b5 b6 b8 Mp _ _ hX hP (by omega) (by omega) h5 h6 ?_ ?_ hlM ?_ (mz hT rfl)) ?_
 ·refine(Cz Mp nn _ _ (tp w1 T) (aW _ rfl) (by show l.length<=_;omega)).mono ?_;rintro e w' ⟨v,ss,rfl,hS,dz,hb⟩;refine⟨v,rfl,?_,hb⟩;have e1:=ajW ss hS;rw[e1]at dz;have e2:ss.length=(cw P X k).length:=by
   have:=hS.length_eq;simp[intKeys]at this;omega
  rw[e2,atx]at dz;exact dz
 ·intro W hW e he;have hd:kH X P k st (cv X P k q st) e=some (best P X k e).1:=by simp_all
  exact VE (aW W hW) hR hd (by have:=((xI P X k e).1 he).1;omega)
 ·intro e he;obtain⟨a1,a2,a3,a4,a5⟩:=yH P X k e he;exact⟨a1,by omega,a3,a4,a5⟩
 ·intro e a v hb;cases e with
  |normal=>obtain⟨h1,y,h2,v',h3,h4,h5,h6⟩:=hb;exact⟨h1,y,h2,v',h3,h4,h6,fun a ha=>h5.block a ha⟩
  |ret=>obtain⟨h1,y,h2,v',h3,h4,h5,h6⟩:=hb;exact⟨h1,y,h2,v',h3,h4,h6,fun a ha=>h5.block a ha⟩
  |panic ch=>obtain⟨h1,v',h3,_⟩:=hb;cases h3
  |outgrown=>obtain⟨v',h3,_⟩:=hb;cases h3
  |exit id=>exact hb
  |goto l=>exact hb
end
end Ph
namespace Ph
open Conc Ren
open WideElems (Fit rd rg rd_val)
theorem M9{g:Cq}{es:Array _}{clock:Nat}(h:oQ g (some (.map es clock))):∀x∈es,∃a b,x.key=.int .i64 a/\x.val=.int .i64 b:=by
 obtain⟨kA,Mt,l,h1,F,_⟩:=h;cases h1;intro x hx;have oj:x∈es.toList:=by simp_all
 obtain⟨a,ha⟩:=AW F x oj;obtain⟨y,hy⟩:=F.reads x oj;obtain⟨z,hz,_⟩:=rd_val hy;obtain⟨b,hb,_⟩:=plainElem_int_inv u3 hz;simp_all
theorem Q5[ak]{r:Rn}{c c':Array _}(h:VA r c c')(hp:∀x∈c,∃k n,x=atO k n):c'=c:=by
 apply atP
 ·exact h.size.symm
 ·intro i h1 h2;have hv:=h.at_ i _ _ (asP h2) (asP h1);obtain⟨k,n,e⟩:=hp _ (Array.getElem_mem h2);rw[e]at hv⊢;exact Ee hv
end Ph
namespace Ph
open Conc Ren
@[reducible] noncomputable def gv:ak:=K0.fK PR IC sK s_ yI
@[reducible] noncomputable def gr(k:List Item):ak:=K0.fK PR IC sK (fun x=>x=k) yI
theorem ad9(k:List Item):Cst gv (gr k):=⟨rfl,fun _ h=>h,fun _ h=>h,fun _ h=>h,fun _=>Iff.rfl,fun _ _ h=>h⟩
theorem ad_(k:List Item):Cst (gr k) gv:=⟨rfl,fun _ h=>h,fun _ h=>h,fun _ h=>h,fun _=>Iff.rfl,fun _ _ h=>h⟩
abbrev RN:=@Rn gv
structure Al(Z:Loc->Prop)(r:RN)(v w:World):Prop where
 w:@Ren.W gv r 0 v w
 gi:@GI gv r
 off:∀a,@Ren.Rd gv r a->lJ Z a
structure Ke(w w':World):Prop where
 tape:w'.tape=w.tape
 env:pG w'.os w.os
 output:w'.output=w.output
 grow:w.heap.size<=w'.heap.size
theorem Ke.trans{w w1 w2:World}(h:Ke w w1)(k:Ke w1 w2):Ke w w2:=⟨k.tape.trans h.tape,k.env.trans h.env,k.output.trans h.output,asR h.grow k.grow⟩
theorem Ke.of{X:Nat->Prop}(h:Kept X X' w w'):Ke w w':=⟨h.tape,h.env,h.output,h.grow⟩
section
variable{Q:QT}{R:Value->World->Prop}{Z:Loc->Prop}{r:RN}{v w w':World}{fn:FuncId}{k k':List Item}{a:Array Value}
theorem Al.low(h:Al Z r v w){b:Nat}(hb:@Ren.Rd gv r b):b<w.heap.size:=by
 letI:=gv
 obtain⟨c,hc⟩:=hb;exact(h.w.lt hc).2
theorem Al.on(h:Al Z r v w)(hk:∀b,@Ren.Rd gv r b->w'.heap[b]?=w.heap[b]?)(hs:Ke w w'):Al Z r v w':=
 ⟨@W.rely gv (fun _ _=>False) r 0 v w w' h.w (fun _ _ _ _ y=>y.elim) ⟨fun b hb=>.inl (hk b hb),hs.grow,hs.env⟩,h.gi,h.off⟩
theorem Al.quiet(h:Al Z r v w)(hk:Kept (fun _=>False) X' w w'):Al Z r v w':=h.on (fun b hb=>hk.kept b (h.low hb) id) (.of hk)
structure Kz(Z:Loc->Prop)(r:RN)(w:World)(Z':Loc->Prop)(r':RN)(w':World):Prop where
 ke:Ke w w'
 kept:∀b,b<w.heap.size->¬ @Ren.Rd gv r b->lJ Z b->w'.heap[b]?=w.heap[b]?
 may:∀b,b<w.heap.size-> @Ren.Rd gv r' b-> @Ren.Rd gv r b
 more:∀l,Z l->Z' l
 only:∀l,Z' l->Z l\/∃a:Addr,l=.cell a/\w.heap.size<=a.block
theorem Kz.trans{Z1 Z2:Loc->Prop}{r1 r2:RN}{w1 w2:World}(h:Kz Z r w Z1 r1 w1)(k:Kz Z1 r1 w1 Z2 r2 w2):Kz Z r w Z2 r2 w2:=
 have g:=h.ke.grow
 ⟨h.ke.trans k.ke,fun b hb hn ho=>(k.kept b (by omega) (fun y=>hn (h.may b hb y)) (re h.only ho hb)).trans (h.kept b hb hn ho),fun b hb y=>h.may b hb (k.may b (by omega) y),fun l y=>k.more l (h.more l y),fun l y=>(k.only l y).elim (h.only l) fun⟨a,e,q⟩=>.inr ⟨a,e,by omega⟩⟩
theorem Kz.of{X:Nat->Prop}{r':RN}(h:Kept X X' w w')(hx:∀a,X a-> @Ren.Rd gv r a)(hy:∀a,@Ren.Rd gv r' a->X' a):Kz Z r w Z r' w':=
 ⟨.of h,fun b hb hn _=>h.kept b hb fun y=>hn (hx b y),fun b hb y=>(h.may b (hy b y)).elim (hx b) fun q=>by omega,fun _ y=>y,fun _ y=>.inl y⟩
theorem Kz.qt(h:Kept (fun _=>False) X' w w'):Kz Z r w Z r w':=⟨.of h,fun b hb _ _=>h.kept b hb id,fun _ _ y=>y,fun _ y=>y,fun _ y=>.inl y⟩
theorem Al.fin{r':RN}(hA:Al Z r v w)(hl:v_ Z w.heap.size)(h1:@Le gv r r')(h3:@Ren.W gv r' 0 v' w')(hK:Kept (@Wr gv r) (@Wr gv r') w w'):Al Z r' v' w'/\Kz Z r w Z r' w':=by
 letI:=gv
 exact⟨⟨h3,hA.gi.mono h1,fun b ⟨b0,hb⟩=>(hK.may b ⟨b0,hb,id⟩).elim (fun⟨b1,h,_⟩=>hA.off b ⟨b1,h⟩) hl.off⟩,.of hK (fun _ ⟨b,e,_⟩=>⟨b,e⟩) fun _ ⟨b,e⟩=>⟨b,e,id⟩⟩
def Kt(Q:QT)(R:Value->World->Prop)(r:RN)(Z:Loc->Prop)(w:World)(c:Frame)(cs:List Frame):Prop:=
 ∀(r':RN) (Z':Loc->Prop) (x x':Value) (v' w':World),@Le gv r r'-> @V gv r' x x'->Al Z' r' v' w'->Kz Z r w Z' r' w'->R x v'->aZ PR Q Z' (c.finish x') cs w'
theorem Kt.on{c:Frame}{r':RN}(h:Kt Q R r Z w c cs)(hr:@Le gv r r')(hw:Kz Z r w Z1 r' w'):Kt Q R r' Z1 w' c cs:=
 fun r2 Z' x x' v' w2 h1 h2 h3 h4 h5=>h r2 Z' x x' v' w2 (@Le.trans gv r r' r2 hr h1) h2 h3 (hw.trans h4) h5
def dA(Q:QT)(g:FuncId)(args:Array Value)(v:World)(R:Value->World->Prop):Prop:=
 ∀(r:RN) (Z:Loc->Prop) (w:World) (kS:Array Value) (c:Frame) (cs:List Frame),@VA gv r args kS->Al Z r v w->Kt Q R r Z w c cs->aZ PR Q Z (asO PR g kS .normal) (c::cs) w
abbrev bf(fn:FuncId):Frame:=⟨fn,#[],[],[],.run,.normal,none⟩
def GW(Q:QT)(R:Value->World->Prop)(fn:FuncId)(k:List Item)(a:Array Value)(v:World):Prop:=
 ∀(r:RN) (Z:Loc->Prop) (w:World) (t:Array Value) (c:Frame) (cs:List Frame),@VA gv r a t->Al Z r v w->Kt Q R r Z w c cs->aZ PR Q Z ((bf fn).at ⟨t,[]⟩ k) (c::cs) w
theorem GW.run(n:Nat)(g:GW Q R fn k' a v)(h:∀t l,bD PR n ((bf fn).at ⟨t,[]⟩ k) l=((bf fn).at ⟨t,[]⟩ k',l):=by intro t l;kernel_rfl):GW Q R fn k a v:=by
 intro r Z w t c cs hv hA kk;refine as4 n fun w' hk=>?_;rw[h];exact g r Z w' t c cs hv (hA.quiet hk) (kk.on (fun _ _ e=>e) (.qt hk))
theorem ajX(aY:∃F,PR.funcs[fn]?=some F){t:Array Value}(hv:@VA gv r a t):@FR gv PR r true ((bf fn).at ⟨a,[]⟩ []) ((bf fn).at ⟨t,[]⟩ []):=by
 letI:=gv
 exact⟨rfl,hv,.nil,.nil,.run,rfl,.inl rfl,.none,fun _=>aY⟩
theorem vq(aY:∃F,PR.funcs[fn]?=some F){t:Array Value}(hv:@VA gv r a t)(hg:@GI gv r){x:Operand}(hx:@cM gv x):@V gv r (asV ⟨a,[]⟩ x) (asV ⟨t,[]⟩ x):=by
 letI:=gv
 have:=(ajX aY hv).eval hg x hx
 rwa [atu,atu]at this
theorem GW.cond(aY:∃F,PR.funcs[fn]?=some F){x:Operand}{p q:Code}{t:Bool}(hx:@cM gv x)(he:asV ⟨a,[]⟩ x=.bool t)(g:GW Q R fn (.code (if t then p else q)::k) a v):GW Q R fn (.code (.cond x p q)::k) a v:=by
 intro r Z w u c cs hv hA kk;have hb:asV ⟨u,[]⟩ x=.bool t:=by
  have:=vq aY hv hA.gi hx;rw[he]at this;generalize asV _ x=y at this;cases this;rfl
 refine as4 1 fun w' hk=>?_;have e:bD PR 1 ((bf fn).at ⟨u,[]⟩ (.code (.cond x p q)::k)) (c::cs)=((bf fn).at ⟨u,[]⟩ (.code (if t then p else q)::k),c::cs):=by
  have h1:Frame.eval ⟨fn,u,.code (.cond x p q)::k,[],.run,.normal,none⟩ x=.bool t:=(atu (bf fn) _ _ x).trans hb;simp only[bD,J0,Frame.at,prun,h1]
 rw[e];exact g r Z w' u c cs hv (hA.quiet hk) (kk.on (fun _ _ e=>e) (.qt hk))
theorem GW.piece(aY:∃F,PR.funcs[fn]?=some F){p:Code}(hp:fQ K0 PR false p=true){R1:Array Value->World->Prop}(hk:Ab k=true)(hc:∀T,p.wp PR (fun e a' v'=>e=.normal/\a'.defers=[]/\R1 a'.tmps v') ⟨a,[]⟩ (tp v T))
  (g:∀a' v',R1 a' v'->GW Q R fn k a' v'):GW Q R fn (.code p::k) a v:=by
 intro r Z w t c cs hv hA kk;refine aZ.Mw fun bY=>?_;have hU:=ad9 k;have hD:=ad_ k
 letI:=gr k
 have ib:dD PR _ p:=jL (fun _ _ h=>h) hp;have hf:FR PR (pn hU r) true ((bf fn).at ⟨a,[]⟩ (.code p::yc)) ((bf fn).at ⟨t,[]⟩ (.code p::k)):=by
  refine⟨rfl,qa hU hv,?_,.nil,.run,rfl,.inl rfl,.none,fun _=>aY⟩;exact .cons (.code ib) (.rest rfl rfl rfl hk)
 have ht:=Aj (main:=true) (U:=fun _ _=>False) (ID (fun x=>x=k) _) (fun ops h=>by cases h) (fun g hg=>hA.gi g hg) hc rfl ib hf (cL:=c::cs) (SQ hU hA.w) (fun _ _ _ _ h=>h.elim) (fun _ _ h=>h.elim);refine aZ.tree ht (fun b hb=>⟨hA.off b hb,hA.low hb⟩) fun S' X' f' l' w' hd hK=>?_;obtain⟨rfl,r',a',v',h1,h2,e1,e2,⟨hd0,hR⟩,_,_,Pv,f1,f2,f3,f4,f5,f6⟩:=Dc (fun k h=>h) hd;subst e1 e2;obtain⟨ffn,tmps,todo,defers,mode,kind,ro⟩:=f';rw[hd0]at f6;have hde:defers=[]:=by
  cases f6 with
  |nil=>rfl
  |rest _ h=>exact h.elim
 subst hde f3 f4 f5;have f1':ffn=fn:=f1;have f2':=f2;subst f1' f2';have hal:Al Z _ v' w':=⟨SQ hD h2,fun g hg=>h1 _ _ (hA.gi g hg),fun b hb=>?_⟩
 ·exact g _ v' hR _ Z w' _ c cs (qa hD Pv) hal (kk.on (fun b c e=>h1 b c e) (.of hK (fun _ ⟨b,e,_⟩=>⟨b,e⟩) fun _ ⟨b,e⟩=>⟨b,e,id⟩))
 ·rcases hK.may b ⟨_,hb.choose_spec,fun h=>h⟩with y|y
  ·obtain⟨b0,hb0,_⟩:=y;exact hA.off b ⟨b0,hb0⟩
  ·exact bY.off y
theorem GW.rest{F:Func}(aY:PR.funcs[fn]?=some F){p:Code}(hp:fQ K0 PR false p=true)(hc:∀T,p.wp PR (bodyPost PR F fun e v'=>∃x,e=.returned x/\R x v') ⟨a,[]⟩ (tp v T)):GW Q R fn [.code p] a v:=by
 intro r Z w t c cs hv hA kk;refine aZ.Mw fun bY=>?_
 letI:=gv
 have ib:dD PR false p:=jL (fun _ _ h=>h) hp;refine aZ.rest (ID s_ yI) (fun _ h=>by cases h) (fun _ h=>h) hA.gi (b:=bf fn) aY rfl hc (fun e u h=>h.imp fun x y=>y.1) (f':=(bf fn).at ⟨t,[]⟩ [.code p]) ⟨rfl,hv,.cons (.code ib) .nil,.nil,.run,rfl,.inl rfl,.none,fun _=>⟨_,aY⟩⟩ hA.w hA.off fun r' v' x x' w' h1 h2 h3 h4 hK=>?_;obtain⟨y,e,hR⟩:=h4;cases e;have z:=hA.fin bY h1 h3 hK;exact kk r' Z x x' v' w' h1 h2 z.1 z.2 hR
end
theorem VF{U:Nat->Nat->Prop}(S X:Nat->Prop)(w:World):iF U S X w {w with drawn:=w.drawn+1} #[] S X:=⟨⟨fun _ _ _=>rfl,asY _,fun a=>⟨.inl,fun h=>h.resolve_right fun y=>by have:=y.2;simp at this;omega⟩,fun a=>⟨.inl,fun h=>h.resolve_right fun y=>by have:=y.2;simp at this;omega⟩,fun e he=>by simp_all,rfl,.refl _,rfl⟩,fun e he=>by simp_all⟩
section
variable{P:Program}{Q:QT}{Z:Loc->Prop}{w:World}{cs:List Frame}
theorem aZ.pick{id:Nat}{b:Frame}{a:Act}{k:List Item}{ops:Array Oper}(h:∀t w',cA Z w w'->(∀b,b<w.heap.size->w'.heap[b]?=w.heap[b]?)->aZ P Q Z (b.at a (.inRegion ops (atk (P.follows .mixedOrders) ops t)::k)) cs w'):aZ P Q Z (b.at a (.code (.region id ops true)::k)) cs w:=by
 refine aZ.tree (U:=fun _ _=>False) (S:=fun _=>False) (Done:=fun S X f' l' w'=>X=(fun _=>False)/\l'=cs/\∃t,f'=b.at a (.inRegion ops (atk _ ops t)::k)) (Tr.one fun w2 hr=>⟨_,_,_,_,_,_,stepG_region_draw,(VF (U:=fun _ _=>False) _ _ w2).toDid,.stop ⟨rfl,rfl,_,rfl⟩⟩) (fun b h=>h.elim) fun S' X' f' l' w' hd hk=>?_;obtain⟨rfl,rfl,t,rfl⟩:=hd;exact h t w' (atA hk) fun b hb=>hk.kept b hb (fun y=>y)
end
theorem mixed:PR.follows .mixedOrders=true:=by kernel_rfl
theorem sched{ops:Array Oper}(t:Nat):atk (PR.follows .mixedOrders) ops t=asL .any ops ops.size t (as2 ops.size false) []:=by
 rfl
theorem FT{md:Region.Mode}{ops:Array Oper}{i:Nat}(h:asK md ops listed=[i])(fuel t:Nat):asL md ops (fuel+1) t listed []=i::asL md ops fuel (t/1) (listed.setIfInBounds i true) []:=by
 change(match(asK md ops _)[t%(asK md ops _).length]? with
   |some i=>asL md ops _ (t/(asK md ops _).length) _ [i]
   |none=>[].reverse)=_
 rw[h];simp only[List.length_singleton,Nat.mod_one,List.getElem?_cons_zero];rw[linearise_go_acc,atm,atp]
def ab:List Bool:=[false,true]
theorem cU{f:Bool->Bool}(h:ab.all f=true)(d:Bool):f d=true:=as5.1 h d (by cases d<;>simp[ab])
def BD:Nat->Value->Bool
 |_,.bool _|_,.int .. |_,.string _|_,.pointer none|_,.slice none _ _|_,.nilFunc|_,.nilIface=>true
 |n+1,.agg c=>c.all (BD n)
 |n+1,.iface _ v=>BD n v
 |_,_=>false
theorem Jv[ak]{r:Rn}:∀{n:Nat} {v y:Value},BD n v=true->V r v y->y=v:=by
 intro n;induction n with
 |zero=>
  intro v y h hV;cases hV<;>first|rfl|(simp[BD]at h)
 |succ n ih=>
  intro v y h hV;cases hV with
  |agg hs ha=>
   congr 1;apply atP
   ·omega
   ·intro i h1 h2;exact ih (atB.1 h i h2) (ha i _ _ (asP h2) (asP h1))
  |iface t h1=>exact congrArg _ (ih h h1)
  |_=>first|rfl|(simp[BD]at h)
def nF(d:Option Nat)(x:Value)(a:Array Value):Array Value:=match d with
 |some i=>a.setIfInBounds i x
 |none=>a
theorem VG(d:Option Nat)(x:Value)(a:Array Value):Act.put ⟨a,[]⟩ d x=⟨nF d x a,[]⟩:=by cases d<;>rfl
section
variable{Q:QT}{R R1:Value->World->Prop}{Z:Loc->Prop}{r:RN}{v v1 w w':World}{fn f:FuncId}{k:List Item}{a args:Array Value}{ops:Array Oper}{i:Nat}{is:List Nat}{o:Oper}{x:Value}
theorem VH{r':RN}{t:Array Value}(h:@VA gv r a t)(hr:@Le gv r r')(hx:@V gv r' x x')(d:Option Nat):@VA gv r' (nF d x a) (nF d x' t):=by
 letI:=gv
 cases d with
 |none=>exact h.mono hr
 |some i=>exact(h.mono hr).set i hx
theorem aaW(ho:ops[i]?=some o)(hg:o.guard=none)(t:Array Value):opAt ((bf fn).at ⟨t,[]⟩ (.inRegion ops (i::is)::k))=some o:=by
 simp[opAt,Frame.at,ho,Region.wanted,hg]
theorem fin_at(ho:ops[i]?=some o)(t:Array Value)(y:Value):((bf fn).at ⟨t,[]⟩ (.inRegion ops (i::is)::k)).finish y=(bf fn).at ⟨nF o.dst y t,[]⟩ (.inRegion ops is::k):=by
 rw[Frame.finish_at,ho];simp only[Option.bind_some];rw[VG]
theorem GW.op(aY:∃F,PR.funcs[fn]?=some F)(ho:ops[i]?=some o)(hg:o.guard=none)(hb:Fc K0 PR o.op=true)(hnr:∀c,o.op=.call c->c.callee≠.builtin .recover)(hd:v1.drawn=v.drawn){n:Next}(hr:(execOp (asV ⟨a,[]⟩) o).run PR v=.ok n v1)(hn:n=.value x\/n=.skip/\x=undef)
  (g:GW Q R fn (.inRegion ops is::k) (nF o.dst x a) v1):GW Q R fn (.inRegion ops (i::is)::k) a v:=by
 intro r Z w t c cs hv hA kk;refine aZ.Mw fun bY=>?_
 letI:=gv
 have F:=ID s_ yI;have ib:WW PR o.op:=Iv (fun _ _ h=>h) hb;have hsr:SR PR (NX true) r (execOp (asV ⟨a,[]⟩) o) (execOp (asV ⟨t,[]⟩) o):=C9 F.toFit (fun y hy=>vq aY hv hA.gi hy) (fun y=>⟨rfl,rfl⟩) o ib (fun c e e2=>absurd e2 (hnr c e));refine aZ.tree (U:=fun _ _=>False) (S:=Ren.Rd r) (X:=Wr r) (Done:=fun S X f' l' w'=>∃(r':Rn) (x':Value),Le r r'/\V r' x x'/\Ren.W r' 0 v1 w'/\S=Ren.Rd r'/\X=Wr r'/\f'=(bf fn).at ⟨nF o.dst x' t,[]⟩ (.inRegion ops is::k)/\l'=c::cs) (Tr.one fun w2 hrel=>?_) (fun b hb=>⟨hA.off b hb,hA.low hb⟩) fun S' X' f' l' w' hd hK=>?_
 ·have nP:Ren.W r 0 v w2:=hA.w.rely (U:=fun _ _=>False) (fun _ _ _ _ y=>y.elim) hrel;have h:=SR.run F.Cc hsr #[] nP;rw[hr]at h;generalize oB:(execOp (asV ⟨t,[]⟩) o).runT PR w2 #[]=y at h;cases h with
  |@ok _ a' _ w1 fs r1 c1 out Ge pF=>
   have fq:c1=0:=by have:=out.drew;omega
   subst fq;rw[Sem.runT_eq]at oB;have bm:(execOp (asV ⟨t,[]⟩) o).run PR w2=.ok a' w1:=congrArg Prod.fst oB;have ajZ:(execOp (asV ⟨t,[]⟩) o).events PR w2 #[]=fs:=congrArg Prod.snd oB;have V7:∀p e,e∈seen PR p fs->BN r w2 w1.heap.size e:=fun p e he=>(pF e (mem_seen _ _ e he)).elim (fun z=>by simp at z) id;rcases hn with rfl|⟨rfl,rfl⟩
   ·cases Ge with
    |@value _ x' hV=>
     have aA:=cz (P:=PR) (main:=true) (f:=(bf fn).at ⟨t,[]⟩ (.inRegion ops (i::is)::k)) (cs:=c::cs) (w:=w2) (w':=w1) (aaW ho hg t) (v:=x') (by rw[as9];exact bm);rw[as9,ajZ,fin_at ho]at aA;exact⟨_,_,_,_,_,_,aA,out.did nP (V7 _),.stop ⟨r1,x',out.le,hV,out.wl,rfl,rfl,rfl,rfl⟩⟩
   ·cases Ge with
    |skip=>
     have aA:=step_skip (P:=PR) (main:=true) (f:=(bf fn).at ⟨t,[]⟩ (.inRegion ops (i::is)::k)) (cs:=c::cs) (w:=w2) (w':=w1) (aaW ho hg t) (by rw[as9];exact bm);rw[as9,ajZ,fin_at ho]at aA;exact⟨_,_,_,_,_,_,aA,out.did nP (V7 _),.stop ⟨r1,undef,out.le,.tuple rfl (fun i x x' e=>by simp at e),out.wl,rfl,rfl,rfl,rfl⟩⟩
  |zg hf _=>have:(Result.ok n v1).world.drawn=v1.drawn:=rfl;omega
 ·obtain⟨r',x',h1,h2,h3,rfl,rfl,rfl,rfl⟩:=hd;have z:=hA.fin bY h1 h3 hK;exact g r' Z w' _ c cs (VH hv h1 h2 o.dst) z.1 (kk.on h1 z.2)
def Jw(ops:Array Oper)(i:Nat):Option Nat:=ops[i]?.bind (·.dst)
def osO(ops:Array Oper)(i:Nat):Array Operand:=match ops[i]?.map (fun o=>o.op)with
 |some (Op.call c)=>c.args
 |_=>#[]
noncomputable def Ww (ops:Array Oper) (i:Nat) (t:Array Value):Option (FuncId×Array Value):=match ops[i]? with
 |some o=>if o.guard.isNone then match ua PR (execOp (asV ⟨t,[]⟩) o)with
  |some (.enter f zs)=>some (f,zs)
  |_=>none else none
 |none=>none
theorem VI{t zs:Array Value}(h:Ww ops i t=some (f,zs)):∃o,ops[i]?=some o/\o.guard=none/\ua PR (execOp (asV ⟨t,[]⟩) o)=some (.enter f zs):=by
 unfold Ww at h;split at h
 ·rename_i o ho;split at h
  ·rename_i hb;split at h
   ·rename_i g zs' he;cases h;exact⟨o,ho,ath.1 hb,he⟩
   ·cases h
  ·cases h
 ·cases h
theorem GW.call(aY:∃F,PR.funcs[fn]?=some F)(hc:dA Q f args v R1)(g:∀x v',R1 x v'->GW Q R fn (.inRegion ops is::k) (nF (Jw ops i) x a) v')(aaX:(osO ops i).map (asV ⟨a,[]⟩)=args:=by kernel_rfl)(h:∀t,Ww ops i t=some (f,(osO ops i).map (asV ⟨t,[]⟩)):=by intro t;kernel_rfl)(hos:(osO ops i).all (jj K0)=true:=by kernel_rfl):GW Q R fn (.inRegion ops (i::is)::k) a v:=by
 intro r Z w t c cs hv hA kk
 letI:=gv
 refine as4 1 fun w1 hk=>?_;obtain⟨o,ho,hg,bg⟩:=VI (h t);have e:bD PR 1 ((bf fn).at ⟨t,[]⟩ (.inRegion ops (i::is)::k)) (c::cs)=(asO PR f ((osO ops i).map (asV ⟨t,[]⟩)) .normal,(bf fn).at ⟨t,[]⟩ (.inRegion ops (i::is)::k)::c::cs):=by
  have h1:Frame.eval ⟨fn,t,.inRegion ops (i::is)::k,[],.run,.normal,none⟩=asV ⟨t,[]⟩:=as9 (bf fn) ⟨t,[]⟩ _;simp only[bD,J0,Frame.at,prun,ho,Region.wanted,hg,pop,h1,bg];simp
 rw[e];refine hc r Z w1 _ _ _ ?_ (hA.quiet hk) fun r' Z' x x' v' w' h1 h2 h3 h4 h5=>?_
 ·rw[<-aaX];exact VA.mapOf fun y hy=>vq aY hv hA.gi (iC (Array.all_eq_true_iff_forall_mem.1 hos y hy))
 ·have e:Jw ops i=o.dst:=by simp[Jw,ho]
  rw[e]at g;rw[fin_at ho];exact g x v' h5 r' Z' w' _ c cs (VH hv h1 h2 o.dst) h3 (kk.on h1 ((Kz.qt hk).trans h4))
theorem dA.cV(hgd:K0.cV f=true)(hc:∀T,Calls PR f args (tp v T) fun e v'=>∃x,e=.returned x/\R x v'):dA Q f args v R:=by
 intro r Z w kS c cs hv hA kk;refine aZ.Mw fun bY=>?_
 letI:=gv
 refine aZ.call (ID s_ yI) (fun _ h=>by cases h) (fun _ h=>h) hA.gi hc (fun e u h=>h.imp fun x y=>y.1) hgd hv hA.w hA.off fun r' v' x x' w' h1 h2 h3 h4 hK=>?_;obtain⟨y,e,hR⟩:=h4;cases e;have z:=hA.fin bY h1 h3 hK;exact kk r' Z x x' v' w' h1 h2 z.1 z.2 hR
theorem dA.of{F:Func}(aY:PR.funcs[fn]?=some F){p:Code}(hp:F.body=some p)(hn:F.ntmps=n)(h:GW Q R fn [.code p] (args++as2 (n-args.size) undef) v):dA Q fn args v R:=by
 intro r Z w kS c cs hv hA kk
 letI:=gv
 have e:asO PR fn kS .normal=(bf fn).at ⟨kS++as2 (n-args.size) undef,[]⟩ [.code p]:=by
  simp[asO,aY,hp,hn,Frame.at,hv.size]
 rw[e];exact h r Z w _ c cs (hv.append (.rep _ (.tuple rfl (fun i x x' e=>by simp)))) hA kk
theorem GW.draw{id:Nat}(h:∀t,GW Q R fn (.inRegion ops (asL .any ops ops.size t (as2 ops.size false) [])::k) a v):GW Q R fn (.code (.region id ops true)::k) a v:=by
 intro r Z w t c cs hv hA kk;refine aZ.pick fun u w' hg hh=>?_;have hK:Ke w w':=⟨hg.tape,hg.env,hg.output,hg.grow⟩;exact h u r Z w' t c cs hv (hA.on (fun b hb=>hh b (hA.low hb)) hK) (kk.on (fun _ _ e=>e) ⟨hK,fun b hb _ _=>hh b hb,fun _ _ y=>y,fun _ y=>y,fun _ y=>.inl y⟩)
theorem GW.S7{md:Region.Mode}(mk:Array Bool->Array Value)(Inv:Nat->Array Bool->World->Prop)
  (pq:∀listed i fuel t v,Inv (fuel+1) listed v->i∈asK md ops listed->(∀v',Inv fuel (listed.setIfInBounds i true) v'->GW Q R fn (.inRegion ops (asL md ops fuel t (listed.setIfInBounds i true) [])::k) (mk (listed.setIfInBounds i true)) v')->GW Q R fn (.inRegion ops (i::asL md ops fuel t (listed.setIfInBounds i true) [])::k) (mk listed) v)
  (bR:∀fuel listed v,Inv fuel listed v->fuel=0\/asK md ops listed=[]->GW Q R fn (.inRegion ops []::k) (mk listed) v):
  ∀fuel t listed v,Inv fuel listed v->GW Q R fn (.inRegion ops (asL md ops fuel t listed [])::k) (mk listed) v:=by
 intro fuel;induction fuel with
 |zero=>intro t listed v h;exact bR 0 _ v h (.inl rfl)
 |succ fuel ih=>
  intro t listed v h;change GW Q R fn (.inRegion ops (match(asK md ops _)[t%(asK md ops _).length]? with
   |some i=>asL md ops _ _ _ [i]
   |none=>[].reverse)::k) _ v
  cases hi:(asK md ops _)[t%(asK md ops _).length]? with
  |none=>
   have Xc:asK md ops listed=[]:=by
    cases hr:asK md ops _ with
    |nil=>rfl
    |cons x xs=>
     rw[hr]at hi;have aV:t%(x::xs).length<(x::xs).length:=Nat.mod_lt _ (by simp);simp at hi;simp at aV;omega
   exact bR _ _ v h (.inr Xc)
  |some i=>
   simp only[];rw[linearise_go_acc,atm,atp];exact pq _ i _ _ v h (atr hi) fun v' h'=>ih _ _ v' h'
end
end Ph
namespace Ph
open Conc Ren RowKit
section
variable{Q:QT}{Z Z':Loc->Prop}{r:RN}{v w w':World}
theorem Ke.ta(h:cA Z w w'):Ke w w':=⟨h.tape,h.env,h.output,h.grow⟩
theorem Al.ta(h:Al Z r v w)(hz:∀l,Z' l->Z l\/∃a:Addr,l=.cell a/\w.heap.size<=a.block)(hg:cA Z w w'):Al Z' r v w':=
 have k:=h.on (fun b hb=>hg.old b (h.low hb) (h.off b hb)) (.ta hg)
 ⟨k.w,k.gi,fun b hb=>re hz (h.off b hb) (h.low hb)⟩
theorem aea(h:Al Z r v w){hn:∀x,r x≠some B}{h1:gv.size<=v.heap.size}{h2:gv.size<=B}:@Le gv r (@ext gv r v.heap.size B hn h1 h2):=fun b a e=>by
 letI:=gv
 have:=(h.w.lt e).1;show(if b=v.heap.size then some B else r b)=some a
 rw[if_neg (by omega)];exact e
theorem FU{hn:∀x,r x≠some B}{h1:gv.size<=n}{h2:gv.size<=B}{b b':Nat}(e:@ext gv r n B hn h1 h2 b=some b'):(b=n/\b'=B)\/r b=some b':=by
 have e:(if b=n then some B else r b)=some b':=e;split at e
 ·simp_all
 ·simp_all
theorem Al.new(h:Al Z r v w)(hz:∀l,Z' l->Z l\/∃a:Addr,l=.cell a/\w.heap.size<=a.block)(hg:cA Z w w'){B:Nat}(hB:w.heap.size<=B)(aj0:lJ Z' B){o o':Obj}(ho:w'.heap[B]?=some o')(hO:∀r':RN,@Le gv r r'-> @O gv r' o o'):
  ∃r':RN,@Le gv r r'/\r' v.heap.size=some B/\Al Z' r' (v.alloc o) w'/\∀b,@Ren.Rd gv r' b->b=B\/ @Ren.Rd gv r b:=by
 letI:=gv
 have h1:=h.ta hz hg;have hn:∀x,r x≠some B:=fun x e=>by have:=h.low ⟨x,e⟩;omega
 have hle:Le r (ext r _ B hn h.w.gv (asR h.w.gw hB)):=aea h;have tt:ext r _ B hn h.w.gv (asR h.w.gw hB) _=some B:=if_pos rfl;refine⟨_,hle,tt,⟨⟨fun b b' e=>?_,asR h.w.gv (by simp),h1.w.gw,fun b hb=>absurd hb id,fun i q hi=>by omega,h1.w.env⟩,h.gi.mono hle,fun b hb=>?_⟩,fun b hb=>?_⟩
 ·rcases FU e with⟨rfl,rfl⟩|e
  ·exact⟨o,o',heap_alloc_new v o,ho,.same id (hO _ hle)⟩
  ·obtain⟨q,q',e1,e2,e3⟩:=h1.w.obj b b' e;refine⟨q,q',?_,e2,e3.mono hle⟩;rw[<-e1];exact((Below.refl _ v).alloc (asY _) o).block b (aO e1)
 ·obtain⟨b0,hb0⟩:=hb;rcases FU hb0 with⟨_,rfl⟩|e
  ·omega
  ·exact h1.off b ⟨b0,e⟩
 ·obtain⟨b0,hb0⟩:=hb;rcases FU hb0 with⟨_,rfl⟩|e
  ·simp
  ·exact .inr ⟨b0,e⟩
theorem Y3{a b:Array Value}(h:@VA gv r a b)(hs:a.all (BD 3)=true):b=a:=by
 letI:=gv
 apply atP
 ·exact h.size.symm
 ·intro i h1 h2;exact Jv (atB.1 hs i h2) (h.at_ i _ _ (asP h2) (asP h1))
theorem Al.tabs(h:Al Z r v w)(hT:mo v)(g:Nat)(hg:g=0\/g=2\/g=3):w.heap[g]?=v.heap[g]?:=by
 letI:=gv
 obtain⟨cc,t,fz,e,hp⟩:=hT g hg;obtain⟨o,o',e1,e2,e3⟩:=h.w.obj g g (h.gi g (by rcases hg with rfl|rfl|rfl<;>first|exact rfl|exact rfl|exact rfl));rw[e]at e1;cases e1;have e3:=OB.plain e3 (fun _ h=>h);cases e3 with
 |cells _ _ hc=>rw[e2,Q5 hc hp,<-e]
theorem Al.vr(h:Al Z r v w)(hT:mo v)(hO:cf v):cf w:=mz hO (h.tabs hT 0 (.inl rfl))
theorem Y4{P:ByteArray}{k q st:Nat}(hX:X.size<=200)(hP:P.size<=30)(hk:k<=6)(hq:1<=q)(vy:q<=8)(hs:1<=st)(qb:st<=200)(hn:1<=n)(Ge:n<=8):
  dA Q 122 #[.string X,.string P,qp k q st,iv n] v fun x v'=>x=.map (some v.heap.size)/\∃o,v'=v.alloc o/\oQ (kH X P k st (cv X P k q st)) (some o):=by
 intro r Z w kS c cs hv hA kk;obtain rfl:=Y3 hv (by simp[BD])
 letI:=gv
 refine BC hX hP hk hq vy hs qb hn Ge hA.w.gw fun Z' Mp w' kK iI hg hMl aj0 hM aV=>?_;obtain⟨es,clock,l,he,hF⟩:=id hM;rw[he]at hM;obtain⟨r',h1,h2,h3,h4⟩:=hA.new iI hg hMl aj0 he fun r' _=>.map _ rfl fun i x x' e e'=>by
  obtain rfl:=as6 (e.symm.trans e');obtain⟨a,b,h5,h6⟩:=M9 hM x (atq e);exact⟨by rw[h5];exact .int _ _,by rw[h6];exact .int _ _,rfl⟩
 exact kk r' Z' _ _ _ w' h1 (.map h2) h3 ⟨.ta hg,fun b hb _ ho=>hg.old b hb ho,fun b hb y=>(h4 b y).resolve_left (by omega),kK,iI⟩ ⟨rfl,_,rfl,hM⟩
end
section
variable{Q:QT}{R:Value->World->Prop}{v v1:World}{fn:FuncId}{k:List Item}{a:Array Value}{ops:Array Oper}{i:Nat}{is:List Nat}{x:Value}
def Kw(v v1:World):Prop:=∀a,a<v.heap.size->v1.heap[a]?=v.heap[a]?
theorem Kw.size(h:Kw v v1):v.heap.size<=v1.heap.size:=by
 cases e:v.heap.size with
 |zero=>exact Nat.zero_le _
 |succ n=>
  have:=h n (by omega);rw[asP (by omega:n<v.heap.size)]at this;exact aO this
theorem Kw.refl(v:World):Kw v v:=fun _ _=>rfl
theorem Kw.trans{v v1 v2:World}(h:Kw v v1)(k:Kw v1 v2):Kw v v2:=fun a ha=>(k a (asS ha h.size)).trans (h a ha)
theorem Kw.at(h:Kw v v1){a:Nat}{o:Obj}(ha:v.heap[a]?=some o):v1.heap[a]?=some o:=(h a (aO ha)).trans ha
theorem Kw.alloc(v:World)(o:Obj):Kw v (v.alloc o):=fun a ha=>((Below.refl _ v).alloc (asY _) o).block a ha
theorem Kw.vr(h:Kw v v1)(hT:mo v)(k:cf v):cf v1:=by
 obtain⟨_,_,_,e,_⟩:=hT 0 (.inl rfl);exact mz k (h 0 (aO e))
theorem Kw.tabs(h:Kw v v1)(hT:mo v):mo v1:=hT.same fun g hg=>by
 obtain⟨_,_,_,e,_⟩:=hT g hg;exact h g (aO e)
def VJ:Op->Bool
 |.call c=>match c.callee with
  |.builtin .recover=>false
  |_=>true
 |_=>true
noncomputable def Q6 (ops:Array Oper) (i:Nat) (a:Array Value):Option (Sem Next):=match ops[i]? with
 |some o=>if o.guard.isNone&&Fc K0 PR o.op&&VJ o.op then some (execOp (asV ⟨a,[]⟩) o)else none
 |none=>none
theorem GW.ex(aY:∃F,PR.funcs[fn]?=some F){s:Sem Next}{n:Next}(h:Q6 ops i a=some s)(hr:s.run PR v=.ok n v1)(hn:n=.value x\/n=.skip/\x=undef)(hd:v1.drawn=v.drawn)(g:GW Q R fn (.inRegion ops is::k) (nF (Jw ops i) x a) v1):GW Q R fn (.inRegion ops (i::is)::k) a v:=by
 unfold Q6 at h;split at h
 ·rename_i o ho;split at h
  ·rename_i hb;simp only[Bool.and_eq_true,ath]at hb;cases h;have e:Jw ops i=o.dst:=by simp[Jw,ho]
   rw[e]at g;exact GW.op aY ho hb.1.1 hb.1.2 (fun c e e2=>by rw[e]at hb;simp[VJ,e2]at hb) hd hr hn g
  ·cases h
 ·cases h
def Jy(s:Sem Value):Sem Next:=do pure (.value (<-s))
def Y5(s:Sem Unit):Sem Next:=do s;pure .skip
theorem GW.vl(aY:∃F,PR.funcs[fn]?=some F){s:Sem Value}(h:Q6 ops i a=some (Jy s))(hr:s.run PR v=.ok x v1)(hd:v1.drawn=v.drawn)(g:GW Q R fn (.inRegion ops is::k) (nF (Jw ops i) x a) v1):GW Q R fn (.inRegion ops (i::is)::k) a v:=
 GW.ex aY h (by simp[Jy,hr]) (.inl rfl) hd g
noncomputable def puB (ops:Array Oper) (i:Nat) (a:Array Value):Option (Array Value):=match Q6 ops i a with
 |some s=>match ua PR s with
  |some (.value x)=>some (nF (Jw ops i) x a)
  |_=>none
 |none=>none
theorem GW.pu(aY:∃F,PR.funcs[fn]?=some F)(h:puB ops i a=some a')(g:GW Q R fn (.inRegion ops is::k) a' v):GW Q R fn (.inRegion ops (i::is)::k) a v:=by
 unfold puB at h;split at h
 ·rename_i s hs;split at h
  ·rename_i x he;cases h;exact GW.ex aY hs (il he v) (.inl rfl) rfl g
  ·cases h
 ·cases h
noncomputable def puS (ops:Array Oper):List Nat->Array Value->Option (Array Value)
 |[],a=>some a
 |i::l,a=>(puB ops i a).bind (puS ops l)
theorem GW.aj1(aY:∃F,PR.funcs[fn]?=some F):∀(l:List Nat) {a:Array Value},(puS ops l a).isSome=true->GW Q R fn (.inRegion ops is::k) ((puS ops l a).getD #[]) v->GW Q R fn (.inRegion ops (l++is)::k) a v
 |[],a,_,g=>g
 |i::l,a,h,g=>by
  simp only[puS]at h g;cases e:puB ops i a with
  |none=>rw[e]at h;cases h
  |some a'=>
   rw[e]at h g;exact GW.pu aY e (GW.aj1 aY l h g)
theorem GW.kz(aY:∃F,PR.funcs[fn]?=some F)(l:List Nat)(g:GW Q R fn (.inRegion ops is::k) ((puS ops l a).getD #[]) v)(h:(puS ops l a).isSome=true:=by kernel_rfl):GW Q R fn (.inRegion ops (l++is)::k) a v:=GW.aj1 aY l h g
theorem GW.bx(aY:∃F,PR.funcs[fn]?=some F){t:TypeId}(g:∀v1,Kw v v1->v.heap.size<v1.heap.size->v1.heap[v.heap.size]?=some (.cells y.cells t)->GW Q R fn (.inRegion ops is::k) (nF (Jw ops i) (ptr v.heap.size) a) v1)(h:Q6 ops i a=some (Jy (Instr.box t y)):=by kernel_rfl):GW Q R fn (.inRegion ops (i::is)::k) a v:=
 GW.vl (v1:=v.alloc (.cells y.cells t)) aY h (by simp[go_sem];rfl) rfl (g _ (.alloc v _) (by simp) (heap_alloc_new v _))
theorem GW.ld(aY:∃F,PR.funcs[fn]?=some F){t:TypeId}(hl:(as0 t y).run PR v=.ok x v)(g:GW Q R fn (.inRegion ops is::k) (nF (Jw ops i) x a) v)(h:Q6 ops i a=some (Jy (as0 t y)):=by kernel_rfl):GW Q R fn (.inRegion ops (i::is)::k) a v:=
 GW.vl aY h hl rfl g
theorem BE{α:Type}{f:TypeInfo->α}{t:TypeId}{z:α}(hz:(PR.info? t).map f=some z):∃inf,PR.info? t=some inf/\f inf=z:=Option.map_eq_some_iff.1 hz
theorem GW.al(aY:∃F,PR.funcs[fn]?=some F){t:TypeId}(hz:(PR.info? t).map (·.zero)=some (some z))(g:∀v1,v1=v.alloc (.cells z.cells t)->Kw v v1->v.heap.size<v1.heap.size->v1.heap[v.heap.size]?=some (.cells z.cells t)->GW Q R fn (.inRegion ops is::k) (nF (Jw ops i) (ptr v.heap.size) a) v1)(h:Q6 ops i a=some (Jy (Instr.alloc t true (.tuple #[]))):=by kernel_rfl):GW Q R fn (.inRegion ops (i::is)::k) a v:=by
 obtain⟨inf,h1,h2⟩:=BE hz;exact GW.vl (v1:=v.alloc (.cells z.cells t)) aY h (by simp[go_sem,Instr.alloc,zeroValue,typeInfo,h1,h2];rfl) rfl (g _ rfl (.alloc v _) (by simp) (heap_alloc_new v _))
theorem GW.ix(aY:∃F,PR.funcs[fn]?=some F){t:TypeId}{off cap j z:Nat}(hj:j<n)(hu:PR.underlying t=some (.slice (PR.elem t)))(hz:(PR.info? (PR.elem t)).map (·.size)=some z)
  (g:GW Q R fn (.inRegion ops is::k) (nF (Jw ops i) (.pointer (some ⟨B,off+j *z,none⟩)) a) v)(h:Q6 ops i a=some (Jy (atd t (.slice (some ⟨B,off,none⟩) n cap) (.int .i64 (j:Int)))):=by kernel_rfl):GW Q R fn (.inRegion ops (i::is)::k) a v:=by
 obtain⟨inf,pE,rfl⟩:=BE hz;have hi:(0:Int)<=(j:Int)/\(j:Int)<(n:Int):=by omega
 have KQ:(⟨B,off,none⟩:Addr).add (j *inf.size)=⟨B,off+j *inf.size,none⟩:=by
  by_cases h0:j *inf.size=0
  ·rw[h0];simp[as7]
  ·simp only[as7,h0];simp
 refine GW.vl aY h ?_ rfl g;simp[atd,run_underlying hu,asIntOf,hi,sizeOf,typeInfo,pE,KQ];intro h9;omega
theorem GW.to(a':Array Value)(g:GW Q R fn k a' v)(h:a=a':=by kernel_rfl):GW Q R fn k a v:=h▸g
theorem GW.mono{R1:Value->World->Prop}(h:∀x v',R1 x v'->R x v')(g:GW Q R1 fn k a v):GW Q R fn k a v:=
 fun r Z w t c cs hv hA kk=>g r Z w t c cs hv hA fun r' Z' x x' v' w' h1 h2 h3 h4 h5=>kk r' Z' x x' v' w' h1 h2 h3 h4 (h _ _ h5)
theorem GW.M_{F:Func}(aY:PR.funcs[fn]?=some F){p:Code}(hp:fQ K0 PR false p=true)(hl:(is.all fun i=>match ops[i]? with|some o=>Is K0 PR false o|none=>true)=true)
  (hc:∀T,wpOps PR ops (fun e a' w'=>e=.normal/\p.wp PR (bodyPost PR F fun e v'=>∃x,e=.returned x/\R x v') a' w') is ⟨a,[]⟩ (tp v T)):GW Q R fn [.inRegion ops is,.code p] a v:=by
 intro r Z w t c cs hv hA kk;refine aZ.Mw fun bY=>?_
 letI:=gv
 have ib:dD PR false p:=jL (fun _ _ h=>h) hp;refine aZ.lone (ID s_ yI) (fun _ h=>by cases h) (fun _ h=>h) hA.gi (R:=fun e v'=>∃x,e=.returned x/\R x v') (b:=bf fn) (a:=⟨a,[]⟩) (its:=[.inRegion ops is,.code p]) aY rfl (fun T=>Hk aY rfl (by rintro u ⟨x,e,_⟩;cases e) (hc T) [fG]) (fun e u h=>h.imp fun x y=>y.1) (f':=(bf fn).at ⟨t,[]⟩ [.inRegion ops is,.code p]) ⟨rfl,hv,.cons (.inRegion _ fun i hi o ho=>?_) (.cons (.code ib) .nil),.nil,.run,rfl,.inl rfl,.none,fun _=>⟨_,aY⟩⟩ hA.w hA.off fun r' v' x x' w' h1 h2 h3 h4 hK=>?_
 ·have:=as5.1 hl i hi;rw[ho]at this;exact AQ (fun _ _ h=>h) this
 ·obtain⟨y,e,hR⟩:=h4;cases e;have z:=hA.fin bY h1 h3 hK;exact kk r' Z x x' v' w' h1 h2 z.1 z.2 hR
theorem vt(j:Nat){t:TypeId}{b:Nat}{c:Array Value}{fz:Nat×Nat}(ht:ua PR (isAgg t)=some false)(h:v.heap[b]?=some (.cells c e fz))(hj:c[j]?=some x):(as0 t (Vy b j)).run PR v=.ok x v:=by
 have hc:v.cell? ⟨b,j,none⟩=some x:=by simp[asJ,h,hj]
 have:=il ht v;simp[as0,Vy,this,hc,go_sem]
end
section
variable{v:World}{b:Nat}{x y z:Value}{e:TypeId}{fz:Nat×Nat}
theorem Jz(h:v.heap[b]?=some (.cells #[x,y,z] e fz)):(as0 75 (ptr b)).run PR v=.ok (.agg #[x,y,z]) v:=by
 have c0:v.cell? ⟨b,0,none⟩=some x:=by simp[asJ,h]
 have c1:v.cell? ⟨b,1,none⟩=some y:=by simp[asJ,h]
 have c2:v.cell? ⟨b,2,none⟩=some z:=by simp[asJ,h]
 simp[ptr,go_sem,c0,c1,c2]
end
noncomputable def pl0:Array Oper:=match atw.body with
 |some (.seq (.region _ o _) _)=>o
 |_=>#[]
noncomputable def pl1:Array Oper:=match atw.body with
 |some (.seq _ (.seq (.region _ o _) _))=>o
 |_=>#[]
theorem aj2:atw.body=some (.seq (.region 0 pl0 false) (.seq (.region 1 pl1 false) plC)):=by kernel_rfl
section
variable{Q:QT}{XN X rn P rm:ByteArray}{fl:Bool}{k q st n:Nat}{v:World}
theorem JI(hX:X.size<=200)(hP:P.size<=30)(hk:k<=6)(hkP:k<P.size)(hq:1<=q)(vy:q<=8)(hs:1<=st)(qb:st<=200)(hn:1<=n)(Ge:n<=8)(y9:mo v)(hT:cf v):
  dA Q 111 #[vp XN X,KG rn P rm,.bool fl,qp k q st,iv n] v fun x v'=>v'.ownsRow v.heap.size 136 1 x (cw P X k).length (cB X P rn rm fl k)/\(cw P X k=[]->x=.slice none 0 0)/\∀a,a<v.heap.size->v'.heap[a]?=v.heap[a]?:=by
 have aY:∃F,PR.funcs[111]?=some F:=⟨_,aty⟩;refine dA.of (n:=73) aty aj2 (by kernel_rfl) ?_;refine GW.run 2 (k':=[.inRegion pl0 [0,1,2,3],.code (.seq (.region 1 pl1 false) plC)]) ?_;refine GW.bx aY (t:=68) (y:=vp XN X) fun v1 k1 l1 c5=>?_;refine GW.bx aY (t:=131) (y:=KG rn P rm) fun v2 k2 l2 c6=>?_;refine GW.bx aY (t:=75) (y:=qp k q st) fun v3 k3 l3 c8=>?_;refine GW.kz aY [3] ?_;refine GW.run 3 (k':=[.inRegion pl1 [0,1,2,3,4,5,6,7],.code plC]) ?_;refine GW.kz aY [0] ?_;refine GW.ld aY (vt 1 M8 (k3.at (k2.at c5)) rfl) ?_;refine GW.kz aY [2] ?_;refine GW.ld aY (vt 1 M8 (k3.at c6) rfl) ?_;refine GW.ld aY (Jz c8) ?_;refine GW.kz aY [5] ?_;refine GW.call aY (Y4 hX hP hk hq vy hs qb hn Ge) ?_;rintro x v4 ⟨rfl,o,rfl,hM⟩;refine GW.kz aY [7] ?_;refine GW.run 1 (k':=[.code plC]) ?_;have k4:=Kw.alloc v3 o;have K3:Kw v v3:=(k1.trans k2).trans k3;have K4:=K3.trans k4;have hM4:oQ (kH X P k st (cv X P k q st)) ((v3.alloc o).heap[v3.heap.size]?):=by rw[heap_alloc_new];exact hM
 have hr:=fun T=>Y2 (rn:=rn) (rm:=rm) (XN:=XN) (fl:=fl) (n:=n) (b8:=v2.heap.size) hX hP hk hkP hq hs (k4.at (k3.at (k2.at c5))) (k4.at (k3.at c6)) hM4 (by simp) (K4.vr y9 hT) T;refine GW.to (slP (vp XN X) (KG rn P rm) (qp k q st) (iv n) fl v.heap.size v1.heap.size v2.heap.size v3.heap.size (uM X P k q st n v.heap.size v1.heap.size v3.heap.size)) ?_;exact GW.mono (fun x v' h=>⟨nZ h.1 K4.size,h.2.1,fun a ha=>(h.2.2 a (asS ha K4.size)).trans (K4 a ha)⟩) (GW.rest aty ad2 hr)
end
section
variable{main:Bool}{f:Frame}{cs:List Frame}
theorem VK{t:TypeId}{x y:Operand}(h:(opAt f).map (fun o=>o.op)=some (.indexAddr t x y)){o cap i z:Nat}(hx:f.eval x=.slice (some ⟨B,o,none⟩) n cap)(hy:f.eval y=.int .i64 (i:Int))(hi:i<n)(hu:PR.underlying t=some (.slice (PR.elem t)))(hz:(PR.info? (PR.elem t)).map (·.size)=some z)(w:World):
  stepG PR main (G f cs) w=.go (G (f.finish (.pointer (some ⟨B,o+i *z,none⟩))) cs) w #[]:=by
 obtain⟨op,ho,bg⟩:=pf h;have hs:∃inf,PR.info? (PR.elem t)=some inf/\inf.size=z:=by simp_all
 obtain⟨inf,pE,rfl⟩:=hs;have KQ:(⟨B,o,none⟩:Addr).add (i *inf.size)=⟨B,o+i *inf.size,none⟩:=by
  by_cases h0:i *inf.size=0
  ·rw[h0];simp[as7]
  ·simp only[as7,h0];simp
 have hr:(execOp f.eval op).run PR w=.ok (.value (.pointer (some ⟨B,o+i *inf.size,none⟩))) w:=by
  unfold execOp;simp only[bg,hx,hy];simp[atd,run_underlying hu,asIntOf,hi,sizeOf,typeInfo,pE,KQ]
 have he:(execOp f.eval op).events PR w #[]=#[]:=by
  unfold execOp;simp only[bg,hx,hy];simp[atd,run_underlying hu,asIntOf,hi,sizeOf,typeInfo,pE]
 rw[cz ho hr,he,seen_none]
theorem OV{a0:Nat}{o:tq}(h:jC f=some (59,.pointer (some ⟨B,a0,none⟩)))(hc:BU w B a0 o)(hq:(PR.funcs[f.fn]?).any (·.norace)=false):
  stepG PR main (G f cs) w=.go (G (f.finish o.val) cs) w #[⟨.cell ⟨B,a0,none⟩,false,false⟩,⟨.cell ⟨B,a0+1,none⟩,false,false⟩,⟨.cell ⟨B,a0+2,none⟩,false,false⟩,⟨.cell ⟨B,a0+3,none⟩,false,false⟩,⟨.cell ⟨B,a0+4,none⟩,false,false⟩,⟨.cell ⟨B,a0+5,none⟩,false,false⟩,⟨.cell ⟨B,a0+6,none⟩,false,false⟩]:=by
 obtain⟨op,x,ho,bg,hx⟩:=mQ h;obtain⟨c0,c1,c2,c3,c4,c5,c6⟩:=hc;have hr:(execOp f.eval op).run PR w=.ok (.value o.val) w:=by
  unfold execOp;simp only[bg,hx];simp[go_sem,c0,c1,c2,c3,c4,c5,c6,atK]
 have he:(execOp f.eval op).events PR w #[]=#[⟨.cell ⟨B,a0,none⟩,false,false⟩,⟨.cell ⟨B,a0+1,none⟩,false,false⟩,⟨.cell ⟨B,a0+2,none⟩,false,false⟩,⟨.cell ⟨B,a0+3,none⟩,false,false⟩,⟨.cell ⟨B,a0+4,none⟩,false,false⟩,⟨.cell ⟨B,a0+5,none⟩,false,false⟩,⟨.cell ⟨B,a0+6,none⟩,false,false⟩]:=by
  unfold execOp;simp only[bg,hx];simp[go_sem,c0,c1,c2,c3,c4,c5,c6]
 rw[cz ho hr,he,seen_def,hq];simp[seenStep]
def Q7(B:Nat)(o:tq)(w:World):World:=(((((((w.setCell ⟨B,0,none⟩ (.int .i64 o.kind)).setCell ⟨B,1,none⟩ (.int .i64 o.k)).setCell ⟨B,2,none⟩ (.int .i64 o.q)).setCell ⟨B,3,none⟩ (.int .i64 o.step)).setCell ⟨B,4,none⟩ (.int .i64 o.workers)).setCell ⟨B,5,none⟩ (.string o.ref)).setCell ⟨B,6,none⟩ (.string o.s))
def JJ(o:tq):Array Value:=#[.int .i64 o.kind,.int .i64 o.k,.int .i64 o.q,.int .i64 o.step,.int .i64 o.workers,.string o.ref,.string o.s]
theorem aq2{o:tq}{z3 z4 z5 z6:Value}{t:TypeId}(w:World)(h:w.heap[B]?=some (.cells #[z0,z1,z2,z3,z4,z5,z6] t)):Env.Eff B w (Q7 B o w)/\(Q7 B o w).heap[B]?=some (.cells (JJ o) t):=by
 refine⟨fv (fv (fv (fv (fv (fv (dW _) (dW _)) (dW _)) (dW _)) (dW _)) (dW _)) (dW _),?_⟩;have h0:=aX (i:=0) (v:=.int .i64 o.kind) h;have h1:=aX (i:=1) (v:=.int .i64 o.k) h0;have h2:=aX (i:=2) (v:=.int .i64 o.q) h1;have h3:=aX (i:=3) (v:=.int .i64 o.step) h2;have h4:=aX (i:=4) (v:=.int .i64 o.workers) h3;have h5:=aX (i:=5) (v:=.string o.ref) h4;exact aX (i:=6) h5
theorem Y6{x y:Operand}(h:(opAt f).map (fun o=>o.op)=some (.store 59 x y)){o:tq}{z3 z4 z5 z6:Value}(hx:f.eval x=ptr B)(hy:f.eval y=o.val)(hB:w.heap[B]?=some (.cells #[z0,z1,z2,z3,z4,z5,z6] t'))(hq:(PR.funcs[f.fn]?).any (·.norace)=false)(hz:(PR.info? 59).map (·.size)=some 7):
  stepG PR main (G f cs) w=.go (G (f.finish undef) cs) (Q7 B o w) #[⟨.cell ⟨B,0,none⟩,true,false⟩,⟨.cell ⟨B,1,none⟩,true,false⟩,⟨.cell ⟨B,2,none⟩,true,false⟩,⟨.cell ⟨B,3,none⟩,true,false⟩,⟨.cell ⟨B,4,none⟩,true,false⟩,⟨.cell ⟨B,5,none⟩,true,false⟩,⟨.cell ⟨B,6,none⟩,true,false⟩]:=by
 obtain⟨op,ho,bg⟩:=pf h;have hs:∃inf,PR.info? 59=some inf/\inf.size=7:=by simp_all
 obtain⟨inf,pE,Dx⟩:=hs;have h0:w.cell? ⟨B,0,none⟩=some z0:=by simp[asJ,hB]
 have f0:w.frozen? ⟨B,0,none⟩=false:=by simp[asU,hB]
 have r0:=aX (i:=0) (v:=.int .i64 o.kind) hB;have h1:(w.setCell ⟨B,0,none⟩ (.int .i64 o.kind)).cell? ⟨B,1,none⟩=some z1:=by simp[asJ,r0]
 have f1:(w.setCell ⟨B,0,none⟩ (.int .i64 o.kind)).frozen? ⟨B,1,none⟩=false:=by simp[asU,r0]
 have r1:=aX (i:=1) (v:=.int .i64 o.k) r0;have h2:((w.setCell ⟨B,0,none⟩ (.int .i64 o.kind)).setCell ⟨B,1,none⟩ (.int .i64 o.k)).cell? ⟨B,2,none⟩=some z2:=by simp[asJ,r1]
 have f2:((w.setCell ⟨B,0,none⟩ (.int .i64 o.kind)).setCell ⟨B,1,none⟩ (.int .i64 o.k)).frozen? ⟨B,2,none⟩=false:=by simp[asU,r1]
 have r2:=aX (i:=2) (v:=.int .i64 o.q) r1;have h3:(((w.setCell ⟨B,0,none⟩ (.int .i64 o.kind)).setCell ⟨B,1,none⟩ (.int .i64 o.k)).setCell ⟨B,2,none⟩ (.int .i64 o.q)).cell? ⟨B,3,none⟩=some z3:=by simp[asJ,r2]
 have f3:(((w.setCell ⟨B,0,none⟩ (.int .i64 o.kind)).setCell ⟨B,1,none⟩ (.int .i64 o.k)).setCell ⟨B,2,none⟩ (.int .i64 o.q)).frozen? ⟨B,3,none⟩=false:=by simp[asU,r2]
 have r3:=aX (i:=3) (v:=.int .i64 o.step) r2;have h4:((((w.setCell ⟨B,0,none⟩ (.int .i64 o.kind)).setCell ⟨B,1,none⟩ (.int .i64 o.k)).setCell ⟨B,2,none⟩ (.int .i64 o.q)).setCell ⟨B,3,none⟩ (.int .i64 o.step)).cell? ⟨B,4,none⟩=some z4:=by simp[asJ,r3]
 have f4:((((w.setCell ⟨B,0,none⟩ (.int .i64 o.kind)).setCell ⟨B,1,none⟩ (.int .i64 o.k)).setCell ⟨B,2,none⟩ (.int .i64 o.q)).setCell ⟨B,3,none⟩ (.int .i64 o.step)).frozen? ⟨B,4,none⟩=false:=by simp[asU,r3]
 have r4:=aX (i:=4) (v:=.int .i64 o.workers) r3;have h5:(((((w.setCell ⟨B,0,none⟩ (.int .i64 o.kind)).setCell ⟨B,1,none⟩ (.int .i64 o.k)).setCell ⟨B,2,none⟩ (.int .i64 o.q)).setCell ⟨B,3,none⟩ (.int .i64 o.step)).setCell ⟨B,4,none⟩ (.int .i64 o.workers)).cell? ⟨B,5,none⟩=some z5:=by simp[asJ,r4]
 have f5:(((((w.setCell ⟨B,0,none⟩ (.int .i64 o.kind)).setCell ⟨B,1,none⟩ (.int .i64 o.k)).setCell ⟨B,2,none⟩ (.int .i64 o.q)).setCell ⟨B,3,none⟩ (.int .i64 o.step)).setCell ⟨B,4,none⟩ (.int .i64 o.workers)).frozen? ⟨B,5,none⟩=false:=by simp[asU,r4]
 have r5:=aX (i:=5) (v:=.string o.ref) r4;have h6:((((((w.setCell ⟨B,0,none⟩ (.int .i64 o.kind)).setCell ⟨B,1,none⟩ (.int .i64 o.k)).setCell ⟨B,2,none⟩ (.int .i64 o.q)).setCell ⟨B,3,none⟩ (.int .i64 o.step)).setCell ⟨B,4,none⟩ (.int .i64 o.workers)).setCell ⟨B,5,none⟩ (.string o.ref)).cell? ⟨B,6,none⟩=some z6:=by simp[asJ,r5]
 have f6:((((((w.setCell ⟨B,0,none⟩ (.int .i64 o.kind)).setCell ⟨B,1,none⟩ (.int .i64 o.k)).setCell ⟨B,2,none⟩ (.int .i64 o.q)).setCell ⟨B,3,none⟩ (.int .i64 o.step)).setCell ⟨B,4,none⟩ (.int .i64 o.workers)).setCell ⟨B,5,none⟩ (.string o.ref)).frozen? ⟨B,6,none⟩=false:=by simp[asU,r5]
 have hr:(execOp f.eval op).run PR w=.ok .skip (Q7 B o w):=by
  unfold execOp;simp only[bg,hx,hy];simp[go_sem,storeVar,storeCells,sizeOf,typeInfo,pE,Dx,atn,atK,h0,f0,h1,f1,h2,f2,h3,f3,h4,f4,h5,f5,h6,f6,ptr,as7,Q7]
 have he:(execOp f.eval op).events PR w #[]=#[⟨.cell ⟨B,0,none⟩,true,false⟩,⟨.cell ⟨B,1,none⟩,true,false⟩,⟨.cell ⟨B,2,none⟩,true,false⟩,⟨.cell ⟨B,3,none⟩,true,false⟩,⟨.cell ⟨B,4,none⟩,true,false⟩,⟨.cell ⟨B,5,none⟩,true,false⟩,⟨.cell ⟨B,6,none⟩,true,false⟩]:=by
  unfold execOp;simp only[bg,hx,hy];simp[go_sem,storeVar,storeCells,sizeOf,typeInfo,pE,Dx,atn,atK,h0,f0,h1,f1,h2,f2,h3,f3,h4,f4,h5,f5,h6,f6,ptr,as7,events_store PR _ _ ⟨B,5,none⟩ (.string o.ref) .plain rfl,events_store PR _ _ ⟨B,6,none⟩ (.string o.s) .plain rfl]
 rw[step_skip ho hr,he,seen_def,hq];simp[seenStep]
end
end Ph
section
open RowKit
noncomputable def fi:=match asT.body with
 |some (.seq _ (.seq _ (.seq (.region _ ops _) _)))=>ops
 |_=>#[]
noncomputable def Kg:=match asT.body with
 |some (.seq _ (.seq _ (.seq _ c)))=>c
 |_=>.skip
def slR(a0 a1 a2 a3 v1 v2:Value)(b4 b5 b6:Nat)(u:Nat->Value):=#[a0,a1,a2,a3,pt b4,pt b5,pt b6,u 7,.slice none 0 0,v1,u 10,u 11,u 12,u 13,u 14,v1,u 16,u 17,u 18,u 19,u 20,v2,u 22,u 23,u 24,u 25,u 26,u 27,u 28,u 29,u 30]
def BF(rn rb rm:ByteArray):Value:=.iface 155 (rS rn rb rm)
theorem qD{P:Program}{o0 o1 o2 o3 o4 o5 o6 o7 o8:Oper}{Q:Exit->Act->World->Prop}:wpOps P #[o0,o1,o2,o3,o4,o5,o6,o7,o8] Q [7,8]=wpList P #[o0,o1,o2,o3,o4,o5,o6,o7,o8] Q [o7,o8]:=by
 have:=wpOps_eq_wpList (P:=P) (ops:=#[o0,o1,o2,o3,o4,o5,o6,o7,o8]) (Q:=Q) [o7,o8] 7 (fun j=>by
  match j with
  |0=>rfl
  |1=>rfl
  |j+2=>rw[Array.getElem?_eq_none (by simp;omega)];rfl)
 exact this
theorem Q8(L1 L2:List Value)(rn rb rm:ByteArray)(a0 a1 a2 a3 v1:Value)(g2 c2 b4 b5 b6 B:Nat)(u:Nat->Value)(w:World)(h1:L1.length<=1000)(h2:L2.length<=1000)(h0:0<L2.length)(hp:∀x∈L2,x.oneCell'=true)
  (r1:w.ownsRow B 136 1 v1 L1.length L1)(r2:w.ownsRow B 136 1 (.slice (some ⟨g2,0,none⟩) L2.length c2) L2.length L2)(hB:B<=w.heap.size):
  wpOps asN fi (fun e a' w'=>e=.normal/\Kg.wp asN (bodyPost asN asT fun e w'=>∃v,e=.returned v/\w'.ownsRow B 136 1 v (L1++L2).length (L1++L2)/\∀a,a<B->w'.heap[a]?=w.heap[a]?) a' w') [7,8] ⟨slR a0 a1 a2 a3 v1 (.slice (some ⟨g2,0,none⟩) L2.length c2) b4 b5 b6 u,[]⟩ w:=by
 obtain⟨i0,hi,nJ,kK,iI⟩:=info_parts OU;have hc:=fun j u hj=>(r2.cells (g:=g2) rfl) j u hj;obtain⟨Q,hQ⟩:∃Q,Q=(fun e a' w'=>e=atC/\Kg.wp asN (bodyPost asN asT fun e w'=>∃v,e=.returned v/\w'.ownsRow B 136 1 v (L1++L2).length (L1++L2)/\∀a,a<B->w'.heap[a]?=w.heap[a]?) a' w'):=⟨_,rfl⟩;rw[<-hQ];have HQ:=laid hQ;clear hQ;unfold fi asT slR;rw[qD];refine wpList_append_own _ rfl _ _ 133 rfl B 136 i0 .nilIface 1 16 Tryz.underlying133 hi nJ kK iI rfl (by decide) _ _ _ rfl r1 _ L2.length c2 L2 rfl (by omega) hc hp (by unfold maxLen;omega) (by omega) hB ?_;intro v' wz aW aD _;obtain⟨gg,cap,rfl⟩:∃gg cap,v'=.slice _ _ cap:=by
  rcases aW.2 with⟨_,h⟩|⟨gg,cap,cur,hv,_⟩
  ·omega
  ·exact⟨gg,cap,hv⟩
 have HF:Hid (wz.ownsRow B 136 1 _ (L1++L2).length (L1++L2)/\∀a,a<B->wz.heap[a]?=w.heap[a]?):=laid ⟨by rw[as8];exact aW,fun a ha=>aD.block a (by omega) (fun e=>by have:=(r1.lt a e.symm).1;omega)⟩;go_wp2
 rw[HQ.out];obtain⟨Q2,Hj⟩:∃Q2,Q2=(bodyPost asN asT fun e w'=>∃v,e=.returned v/\w'.ownsRow B 136 1 v (L1++L2).length (L1++L2)/\∀a,a<B->w'.heap[a]?=w.heap[a]?):=⟨_,rfl⟩;rw[<-Hj];have HQ2:=laid Hj;clear Hj HQ;unfold Kg asT;go_wp2
 rw[HQ2.out];refine bodyPost_ret (results_tmp rfl _ _ _) rfl ?_;exact⟨_,rfl,HF.out⟩
theorem Na(L1:List Value)(rn rb rm:ByteArray)(a0 a1 a2 a3:Value)(g1 c1 b4 b5 b6 B:Nat)(u:Nat->Value)(w:World)(h1:L1.length<=1000)(h0:0<L1.length)
  (r1:w.ownsRow B 136 1 (.slice (some ⟨g1,0,none⟩) L1.length c1) L1.length L1):
  wpOps asN fi (fun e a' w'=>e=.normal/\Kg.wp asN (bodyPost asN asT fun e w'=>∃v,e=.returned v/\w'.ownsRow B 136 1 v L1.length L1/\∀a,a<B->w'.heap[a]?=w.heap[a]?) a' w') [7,8] ⟨slR a0 a1 a2 a3 (.slice (some ⟨g1,0,none⟩) L1.length c1) (.slice none 0 0) b4 b5 b6 u,[]⟩ w:=by
 obtain⟨Q,hQ⟩:∃Q,Q=(fun e a' w'=>e=atC/\Kg.wp asN (bodyPost asN asT fun e w'=>∃v,e=.returned v/\w'.ownsRow B 136 1 v L1.length L1/\∀a,a<B->w'.heap[a]?=w.heap[a]?) a' w'):=⟨_,rfl⟩;rw[<-hQ];have HQ:=laid hQ;clear hQ;unfold fi asT slR;dsimp only;simp only[pt];rw[qD];have ado:L1.length<=c1:=by
  rcases r1.2 with⟨h,_⟩|⟨g,cap,cur,h,_,_,h3,_⟩
  ·cases h
  ·cases h;exact h3
 have HR:=laid r1;clear r1;go_wp2
 rw[HQ.out];refine⟨rfl,?_⟩;obtain⟨Q2,Hj⟩:∃Q2,Q2=(bodyPost asN asT fun e w'=>∃v,e=.returned v/\w'.ownsRow B 136 1 v L1.length L1/\∀a,a<B->w'.heap[a]?=w.heap[a]?):=⟨_,rfl⟩;rw[<-Hj];have HQ2:=laid Hj;clear Hj HQ;unfold Kg asT;dsimp only;go_wp2
 rw[HQ2.out];refine bodyPost_ret (results_tmp rfl _ _ _) rfl ?_;exact⟨_,rfl,HR.out,fun _ _=>rfl⟩
theorem Q9(rn rb rm:ByteArray)(a0 a1 a2 a3:Value)(b4 b5 b6 B:Nat)(u:Nat->Value)(w:World)(hB:B<=w.heap.size)(h5:w.heap[b5]?=some (.cells #[.string rn,.string rb,.string rm] 131 (0,0))):
  wpOps asN fi (fun e a' w'=>e=.normal/\Kg.wp asN (bodyPost asN asT fun e w'=>∃v,e=.returned v/\w'.ownsRow B 136 1 v 1 [BF rn rb rm]/\∀a,a<B->w'.heap[a]?=w.heap[a]?) a' w') [7,8] ⟨slR a0 a1 a2 a3 (.slice none 0 0) (.slice none 0 0) b4 b5 b6 u,[]⟩ w:=by
 obtain⟨Q,hQ⟩:∃Q,Q=(fun e a' w'=>e=atC/\Kg.wp asN (bodyPost asN asT fun e w'=>∃v,e=.returned v/\w'.ownsRow B 136 1 v 1 [BF rn rb rm]/\∀a,a<B->w'.heap[a]?=w.heap[a]?) a' w'):=⟨_,rfl⟩;rw[<-hQ];have HQ:=laid hQ;clear hQ;have c0:w.cell? ⟨b5,0,none⟩=some (.string rn):=by rw[cell_of_row w _ 0 _ _ _ h5];rfl
 have c1:w.cell? ⟨b5,1,none⟩=some (.string rb):=by rw[cell_of_row w _ 1 _ _ _ h5];rfl
 have c2:w.cell? ⟨b5,2,none⟩=some (.string rm):=by rw[cell_of_row w _ 2 _ _ _ h5];rfl
 clear h5;unfold fi asT slR;dsimp only;simp only[pt];rw[qD];go_wp2
 rw[HQ.out];refine⟨rfl,?_⟩;obtain⟨Q2,Hj⟩:∃Q2,Q2=(bodyPost asN asT fun e w'=>∃v,e=.returned v/\w'.ownsRow B 136 1 v 1 [BF rn rb rm]/\∀a,a<B->w'.heap[a]?=w.heap[a]?):=⟨_,rfl⟩;rw[<-Hj];have HQ2:=laid Hj;clear Hj HQ;unfold Kg asT;dsimp only;go_wp2
 rw[HQ2.out];refine bodyPost_ret (results_tmp rfl _ _ _) rfl ?_;refine⟨_,rfl,⟨rfl,.inr ⟨w.heap.size,1,_,rfl,hB,heap_alloc_new w _,asY _,by unfold maxLen;omega,rfl,rfl⟩⟩,fun a ha=>heap_alloc_old w _ (by omega)⟩
end
namespace Ph
open Conc Ren RowKit
noncomputable def aj4:Array Oper:=match asT.body with
 |some (.seq (.region _ o _) _)=>o
 |_=>#[]
noncomputable def aec:Array Oper:=match asT.body with
 |some (.seq _ (.seq (.region _ o _) _))=>o
 |_=>#[]
theorem aj5:asT.body=some (.seq (.region 0 aj4 false) (.seq (.region 1 aec false) (.seq (.region 2 fi true) Kg))):=by kernel_rfl
theorem FV:fQ K0 PR false Kg=true:=by decide+kernel
theorem Y7:fi.size=9:=by kernel_rfl
theorem aj6:(ab.all fun d0=>ab.all fun d1=>ab.all fun d2=>ab.all fun d3=>ab.all fun d4=>ab.all fun d5=>(asK .any fi #[d0,d1,d2,d3,d4,d5,false,false,false]).all fun i=>(i==0&&!d0)||(i==1&&!d1)||(i==2&&!d2)||(i==3&&(!d3&&d2))||(i==4&&!d4)||(i==5&&!d5)||(i==6&&(d1&&(d3&&(d4&&d5)))))=true:=by decide+kernel
theorem rdy(d0 d1 d2 d3 d4 d5:Bool)(i:Nat)(hi:i∈asK .any fi #[d0,d1,d2,d3,d4,d5,false,false,false]):(i=0/\d0=false)\/(i=1/\d1=false)\/(i=2/\d2=false)\/(i=3/\d3=false/\d2=true)\/(i=4/\d4=false)\/(i=5/\d5=false)\/(i=6/\d1=true/\d3=true/\d4=true/\d5=true):=by
 have h:=as5.1 (cU (cU (cU (cU (cU (cU aj6 d0) d1) d2) d3) d4) d5) i hi;simpa[or_assoc]using h
theorem aj7:(ab.all fun d0=>ab.all fun d1=>ab.all fun d2=>ab.all fun d3=>ab.all fun d4=>ab.all fun d5=>(d3&&!d2)||!(asK .any fi #[d0,d1,d2,d3,d4,d5,false,false,false]).isEmpty)=true:=by decide+kernel
theorem aed(d0 d1 d2 d3 d4 d5:Bool)(h3:d3=true->d2=true):asK .any fi #[d0,d1,d2,d3,d4,d5,false,false,false]≠ []:=by
 have h:=cU (cU (cU (cU (cU (cU aj7 d0) d1) d2) d3) d4) d5;intro e;rw[e]at h;simp at h;rw[h3 h.1]at h;simp at h
theorem aj8:asK .any fi #[false,true,true,true,true,true,true,false,false]=[0]:=by decide+kernel
theorem aj9:asK .any fi #[true,true,true,true,true,true,true,false,false]=[7]:=by decide+kernel
theorem aj_:asK .any fi #[true,true,true,true,true,true,true,true,false]=[8]:=by decide+kernel
theorem VM(t:Nat):asL .any fi 2 t #[true,true,true,true,true,true,true,false,false] []=[7,8]:=by
 rw[FT aj9];show 7::asL .any fi 1 _ #[true,true,true,true,true,true,true,true,false] []=_
 rw[FT aj_];rfl
theorem aee(t:Nat):asL .any fi 3 t #[false,true,true,true,true,true,true,false,false] []=[0,7,8]:=by
 rw[FT aj8];show 0::asL .any fi 2 _ #[true,true,true,true,true,true,true,false,false] []=_
 rw[VM]
abbrev tdV(rn P rm:ByteArray):Value:=KG rn (bI P 0) (str (dh rm))
def pk(b:Bool)(x:Value):Value:=if b then x else undef
def vu(X P rn rm:ByteArray)(k:Nat):List Value:=if cw P X k=[]/\cw (bI P 0) X k=[]then [BF rn P rm]else cB X P rn rm false k++cB X (bI P 0) rn (str (dh rm)) true k
theorem fR{P:ByteArray}{k:Nat}:(cB X P rn rm fl k).length=(cw P X k).length:=by unfold cB;simp
theorem Nc{P:ByteArray}{k:Nat}:∀u∈cB X P rn rm fl k,u.oneCell'=true:=by
 intro u hu;unfold cB at hu;obtain⟨e,_,rfl⟩:=atz.1 hu;rfl
def wsR(XN X rn P rm:ByteArray)(k q st n b4 b5 b6:Nat)(y z:Value)(d0 d1 d2 d3 d4 d5:Bool):Array Value:=
 #[vp XN X,KG rn P rm,qp k q st,iv n,ptr b4,ptr b5,ptr b6,undef,.slice none 0 0,y,vp XN X,KG rn P rm,qp k q st,iv n,y,pk d0 y,pk d1 (vp XN X),pk d2 (KG rn P rm),pk d3 (tdV rn P rm),pk d4 (qp k q st),pk d5 (iv n),z,undef,undef,undef,undef,undef,undef,undef,undef,undef]
theorem OW{b:Nat}{fz:Nat×Nat}(h:v.heap[b]?=some (.cells #[x,y] e fz)):(as0 68 (ptr b)).run PR v=.ok (.agg #[x,y]) v:=by
 have c0:v.cell? ⟨b,0,none⟩=some x:=by simp[asJ,h]
 have c1:v.cell? ⟨b,1,none⟩=some y:=by simp[asJ,h]
 simp[ptr,go_sem,c0,c1]
theorem Nf{b:Nat}{fz:Nat×Nat}(h:v.heap[b]?=some (.cells #[x,y,z] e fz)):(as0 131 (ptr b)).run PR v=.ok (.agg #[x,y,z]) v:=by
 have c0:v.cell? ⟨b,0,none⟩=some x:=by simp[asJ,h]
 have c1:v.cell? ⟨b,1,none⟩=some y:=by simp[asJ,h]
 have c2:v.cell? ⟨b,2,none⟩=some z:=by simp[asJ,h]
 simp[ptr,go_sem,c0,c1,c2]
theorem FW{z:Nat}(h:v.ownsRow B e z x n xs)(k:Kw v v'):v'.ownsRow B e z x n xs:=by
 refine⟨h.1,?_⟩;rcases h.2 with h'|⟨g',cap,cur,rfl,h2,h3,h4⟩
 ·exact .inl h'
 ·exact .inr ⟨g',cap,cur,rfl,h2,k.at h3,h4⟩
theorem FX:([7,8].all fun i=>match fi[i]? with|some o=>Is K0 PR false o|none=>true)=true:=by decide+kernel
section
variable{Q:QT}{XN X rn P rm:ByteArray}{k q st n:Nat}{v:World}
theorem JL{R:Value->World->Prop}(hX:X.size<=200)(hl:b4<=v.heap.size)(c5:v.heap[b5]?=some (.cells #[.string rn,.string P,.string rm] 131))(hy:v.ownsRow b4 136 1 y (cw P X k).length (cB X P rn rm false k))(hyn:cw P X k=[]->y=.slice none 0 0)(hz:v.ownsRow b4 136 1 z (cw (bI P 0) X k).length (cB X (bI P 0) rn (str (dh rm)) true k))(hzn:cw (bI P 0) X k=[]->z=.slice none 0 0)
  (hR:∀x v',v'.ownsRow b4 136 1 x (vu X P rn rm k).length (vu X P rn rm k)->(∀a,a<b4->v'.heap[a]?=v.heap[a]?)->R x v'):GW Q R 92 [.inRegion fi [7,8],.code Kg] (wsR XN X rn P rm k q st n b4 b5 b6 y z true true true true true true) v:=by
 refine GW.to (slR (vp XN X) (KG rn P rm) (qp k q st) (iv n) y z b4 b5 b6 fun i=>(wsR XN X rn P rm k q st n b4 b5 b6 y z true true true true true true).getD i undef) ?_;generalize(fun i=>(wsR XN X rn P rm k q st n b4 b5 b6 y z true true true true true true).getD i undef)=uu;have e1:=oc P X k;have e2:=oc (bI P 0) X k;by_cases h2:cw (bI P 0) X k=[]
 ·obtain rfl:=hzn h2;by_cases h1:cw P X k=[]
  ·obtain rfl:=hyn h1;have Sc:vu X P rn rm k=[BF rn P rm]:=by unfold vu;rw[if_pos ⟨h1,h2⟩]
   rw[Sc]at hR;exact GW.mono (R1:=fun x v'=>v'.ownsRow b4 136 1 x 1 [BF rn P rm]/\∀a,a<b4->v'.heap[a]?=v.heap[a]?) (fun x v' h=>hR x v' h.1 h.2) (GW.M_ atc FV FX fun T=>Q9 rn P rm _ _ _ _ b4 b5 b6 b4 uu (tp v T) hl c5)
  ·have Sc:vu X P rn rm k=cB X P rn rm false k:=by
    unfold vu;rw[if_neg (fun h=>h1 h.1)];simp[cB,h2]
   rw[Sc]at hR;rw[<-fR (rn:=rn) (rm:=rm) (fl:=false)]at hy;have h0:0<(cB X P rn rm false k).length:=by rw[fR];exact as1.2 h1
   have h9:(cB X P rn rm false k).length<=1000:=by rw[fR];omega
   obtain⟨g,cap,rfl⟩:∃g cap,y=.slice (some ⟨g,0,none⟩) (cB X P rn rm false k).length cap:=by
    rcases hy.2 with⟨_,h⟩|⟨g,cap,_,h,_⟩
    ·omega
    ·exact⟨g,cap,h⟩
   exact GW.mono (R1:=fun x v'=>v'.ownsRow b4 136 1 x (cB X P rn rm false k).length (cB X P rn rm false k)/\∀a,a<b4->v'.heap[a]?=v.heap[a]?) (fun x v' h=>hR x v' h.1 h.2) (GW.M_ atc FV FX fun T=>Na _ rn P rm _ _ _ _ g cap b4 b5 b6 b4 uu (tp v T) h9 h0 hy)
 ·have Sc:vu X P rn rm k=cB X P rn rm false k++cB X (bI P 0) rn (str (dh rm)) true k:=by unfold vu;rw[if_neg (fun h=>h2 h.2)]
  rw[Sc]at hR;rw[<-fR (rn:=rn) (rm:=rm) (fl:=false)]at hy;rw[<-fR (rn:=rn) (rm:=str (dh rm)) (fl:=true)]at hz;have h0:0<(cB X (bI P 0) rn (str (dh rm)) true k).length:=by rw[fR];exact as1.2 h2
  have h9:(cB X P rn rm false k).length<=1000:=by rw[fR];omega
  have h8:(cB X (bI P 0) rn (str (dh rm)) true k).length<=1000:=by rw[fR];omega
  obtain⟨g,cap,rfl⟩:∃g cap,z=.slice (some ⟨g,0,none⟩) (cB X (bI P 0) rn (str (dh rm)) true k).length cap:=by
   rcases hz.2 with⟨_,h⟩|⟨g,cap,_,h,_⟩
   ·omega
   ·exact⟨g,cap,h⟩
  exact GW.mono (R1:=fun x v'=>v'.ownsRow b4 136 1 x (cB X P rn rm false k++cB X (bI P 0) rn (str (dh rm)) true k).length (cB X P rn rm false k++cB X (bI P 0) rn (str (dh rm)) true k)/\∀a,a<b4->v'.heap[a]?=v.heap[a]?) (fun x v' h=>hR x v' h.1 h.2) (GW.M_ atc FV FX fun T=>Q8 _ _ rn P rm _ _ _ _ y g cap b4 b5 b6 b4 uu (tp v T) h9 h8 h0 Nc hy hz hl)
theorem Q_(hX:X.size<=200)(hP:P.size<=30)(hm:rm.size<=1000)(hk:k<=6)(hkP:k<P.size)(aq4:k<(bI P 0).size)(hq:1<=q)(vy:q<=8)(hs:1<=st)(qb:st<=200)(hn:1<=n)(Ge:n<=8)(y9:mo v)(hT:cf v):
  dA Q 92 #[vp XN X,KG rn P rm,qp k q st,iv n] v fun x v'=>v'.ownsRow v.heap.size 136 1 x (vu X P rn rm k).length (vu X P rn rm k)/\Kw v v':=by
 have aY:∃F,PR.funcs[92]?=some F:=⟨_,atc⟩;refine dA.of (n:=31) atc aj5 (by kernel_rfl) ?_;refine GW.run 2 (k':=[.inRegion aj4 [0,1,2,3],.code (.seq (.region 1 aec false) (.seq (.region 2 fi true) Kg))]) ?_;refine GW.bx aY (t:=68) (y:=vp XN X) fun v1 k1 l1 c4=>?_;refine GW.bx aY (t:=131) (y:=KG rn P rm) fun v2 k2 l2 c5=>?_;refine GW.bx aY (t:=75) (y:=qp k q st) fun v3 k3 l3 c6=>?_;refine GW.kz aY [3] ?_;refine GW.run 3 (k':=[.inRegion aec [0,1,2,3,4,5],.code (.seq (.region 2 fi true) Kg)]) ?_;have K3:Kw v v3:=(k1.trans k2).trans k3;have c4:=k3.at (k2.at c4);have c5:=k3.at c5;refine GW.ld aY (OW c4) ?_;refine GW.ld aY (Nf c5) ?_;refine GW.ld aY (Jz c6) ?_;refine GW.kz aY [3] ?_;refine GW.call aY (JI (XN:=XN) (rn:=rn) (rm:=rm) (fl:=false) hX hP hk hkP hq vy hs qb hn Ge (K3.tabs y9) (K3.vr y9 hT)) ?_;rintro y v4 ⟨hy,hyn,k4⟩;have k4:Kw v3 v4:=k4;refine GW.kz aY [5] ?_;refine GW.run 2 (k':=[.code (.region 2 fi true),.code Kg]) ?_;refine GW.to (wsR XN X rn P rm k q st n v.heap.size v1.heap.size v2.heap.size y undef false false false false false false) ?_;have c4:=k4.at c4;have c5:=k4.at c5;have c6:=k4.at c6;have K4:=K3.trans k4;have hy:v4.ownsRow v.heap.size 136 1 y (cw P X k).length (cB X P rn rm false k):=nZ hy K3.size;have Nt:v.heap.size<=v4.heap.size:=K4.size;generalize sU:v.heap.size=b4 at hy Nt c4⊢;generalize v1.heap.size=b5 at c5⊢;generalize v2.heap.size=b6 at c6⊢;refine GW.draw fun t=>?_;rw[Y7];refine GW.S7 (md:=.any) (fun D=>wsR XN X rn P rm k q st n b4 b5 b6 y undef (D.getD 0 false) (D.getD 1 false) (D.getD 2 false) (D.getD 3 false) (D.getD 4 false) (D.getD 5 false)) (fun fuel D u=>∃d0 d1 d2 d3 d4 d5:Bool,D=#[d0,d1,d2,d3,d4,d5,false,false,false]/\(d3=true->d2=true)/\fuel+(d0.toNat+d1.toNat+d2.toNat+d3.toNat+d4.toNat+d5.toNat)=9/\Kw v4 u) ?_ ?_ 9 t (as2 9 false) v4 ⟨false,false,false,false,false,false,rfl,(by simp),rfl,.refl _⟩
 ·rintro D i fuel t u ⟨d0,d1,d2,d3,d4,d5,rfl,h32,hf,K⟩ hi kk;rcases rdy d0 d1 d2 d3 d4 d5 i hi with⟨rfl,rfl⟩|⟨rfl,rfl⟩|⟨rfl,rfl⟩|⟨rfl,rfl,rfl⟩|⟨rfl,rfl⟩|⟨rfl,rfl⟩|⟨rfl,rfl,rfl,rfl,rfl⟩
  ·exact GW.kz aY [0] (GW.to _ (kk u ⟨true,d1,d2,d3,d4,d5,rfl,h32,by simp at hf⊢;omega,K⟩))
  ·exact GW.ld aY (OW (K.at c4)) (GW.to _ (kk u ⟨d0,true,d2,d3,d4,d5,rfl,h32,by simp at hf⊢;omega,K⟩))
  ·exact GW.ld aY (Nf (K.at c5)) (GW.to _ (kk u ⟨d0,d1,true,d3,d4,d5,rfl,fun _=>rfl,by simp at hf⊢;omega,K⟩))
  ·refine GW.call aY (dA.cV (R:=fun x v'=>x=tdV rn P rm/\Kw u v') (by decide) fun T=>(ME rn P rm (tp u T) (by omega) hm).mono fun e w' h=>⟨_,h.1,rfl,fun a ha=>h.2.block a ha⟩) ?_;rintro x u' ⟨rfl,K'⟩;exact GW.to _ (kk u' ⟨d0,d1,true,true,d4,d5,rfl,fun _=>rfl,by simp at hf⊢;omega,K.trans K'⟩)
  ·exact GW.ld aY (Jz (K.at c6)) (GW.to _ (kk u ⟨d0,d1,d2,d3,true,d5,rfl,h32,by simp at hf⊢;omega,K⟩))
  ·exact GW.kz aY [5] (GW.to _ (kk u ⟨d0,d1,d2,d3,d4,true,rfl,h32,by simp at hf⊢;omega,K⟩))
  ·clear kk;obtain rfl:=h32 rfl;refine GW.call aY (JI (XN:=XN) (rn:=rn) (rm:=str (dh rm)) (fl:=true) hX (by have:=lL P 0;omega) hk aq4 hq vy hs qb hn Ge ((K4.trans K).tabs y9) ((K4.trans K).vr y9 hT)) ?_;rintro z u2 ⟨hz,hzn,k5⟩;have k5:Kw u u2:=k5;have fin:GW Q (fun x v'=>v'.ownsRow b4 136 1 x (vu X P rn rm k).length (vu X P rn rm k)/\Kw v v') 92 [.inRegion fi [7,8],.code Kg] (wsR XN X rn P rm k q st n b4 b5 b6 y z true true true true true true) u2:=
    JL hX (asR Nt (K.trans k5).size) ((K.trans k5).at c5) (FW hy (K.trans k5)) hyn (nZ hz (asR Nt K.size)) hzn fun x v' h1 h2=>⟨h1,fun a ha=>(h2 a (by omega)).trans (((K4.trans K).trans k5) a ha)⟩
   cases d0 with
   |true=>
    obtain rfl:fuel=2:=by simp at hf;omega
    rw[show(#[true,true,true,true,true,true,false,false,false]:Array Bool).setIfInBounds 6 true=#[true,true,true,true,true,true,true,false,false]from rfl,VM];exact GW.to _ fin
   |false=>
    obtain rfl:fuel=3:=by simp at hf;omega
    rw[show(#[false,true,true,true,true,true,false,false,false]:Array Bool).setIfInBounds 6 true=#[false,true,true,true,true,true,true,false,false]from rfl,aee];exact GW.kz aY [0] (GW.to _ fin)
 ·rintro fuel D u ⟨d0,d1,d2,d3,d4,d5,rfl,h32,hf,K⟩ ho;exfalso;rcases ho with rfl|ho
  ·have:=asQ d0;have:=asQ d1;have:=asQ d2;have:=asQ d3;have:=asQ d4;have:=asQ d5;omega
  ·exact aed d0 d1 d2 d3 d4 d5 h32 ho
end
end Ph
section
inductive Rc where
 |hit (p:Pl)
 |no (rn rb rm:ByteArray)
def Rc.val:Rc->Value
 |.hit p=>y8 p
 |.no rn rb rm=>BF rn rb rm
def Rc.text(xn:ByteArray):Rc->Bool->List UInt8
 |.hit p,first=>oY [p.rn,str (a_ (yD p.fl first)),xn,str (a_ (p.st+1)),p.lt,str (a_ p.er),p.df,p.rb,p.rm]++[10]
 |.no rn rb rm,_=>oY [rn,str (a_ 4),str [42],str [48],str [42],str [45],str [45],rb,rm]++[10]
def VN:Rc:=.no ⟨#[]⟩ ⟨#[]⟩ ⟨#[]⟩
def dX(X P rn rm:ByteArray)(fl:Bool)(k:Nat):List Rc:=(cw P X k).map fun e=>.hit (vo X P rn rm fl (fun e=>(best P X k e).2) (fun e=>(best P X k e).1) e)
def oe(X P rn rm:ByteArray)(k:Nat):=if cw P X k=[]/\cw (bI P 0) X k=[]then [.no rn P rm]else dX X P rn rm false k++dX X (bI P 0) rn (str (dh rm)) true k
def ru(xn:ByteArray)(n:Nat)(L:List Rc)
 |0=>[]
 |i+1=>ru xn n L i++(L.getD i VN).text xn (decide (n+i=0))
theorem JM(xn:ByteArray)(n:Nat)(L1 L2:List Rc):∀i,i<=L1.length->ru xn n (L1++L2) i=ru xn n L1 i
 |0,_=>rfl
 |i+1,h=>by
  rw[ru,ru,JM xn n L1 L2 i (by omega)];rw[asM,asM,List.getElem?_append_left (by omega)]
theorem OX(xn:ByteArray)(n:Nat)(L1 L2:List Rc):∀i,ru xn n (L1++L2) (L1.length+i)=ru xn n L1 L1.length++ru xn (n+L1.length) L2 i
 |0=>by rw[Nat.add_zero,JM xn n L1 L2 _ (asY _)];simp[ru]
 |i+1=>by
  rw[<-Nat.add_assoc,ru,ru,OX xn n L1 L2 i,as_];congr 3
  ·rw[asM,asM,List.getElem?_append_right (by omega)];simp_all
  ·congr 1;simp only[eq_iff_iff];omega
theorem BG(p t:ByteArray)(k:Nat):∀n,bq p t k n=(oa p t k n).map fun e=>((best p t k e).2,e,(best p t k e).1)
 |0=>by simp[bq,oa]
 |n+1=>by
  have ih:=BG p t k n;unfold oa at *;rw[bq];split
  ·rw[atl,atl,<-ih];rfl
  ·omega
theorem tc(p t:ByteArray)(k:Nat):gh p t k=(cw p t k).map fun e=>((best p t k e).2,e,(best p t k e).1):=BG p t k _
theorem aka(a b c d e f g h i:List _):Lib.join [a,b,c,d,e,f,g,h,i] [9]=a++[9]++b++[9]++c++[9]++d++[9]++e++[9]++f++[9]++g++[9]++h++[9]++i:=by
 unfold Lib.join;simp
theorem aeg(l:List _):(str l).data.toList=l:=by unfold str;simp
theorem VP(xn X P rn rm:ByteArray)(fl first:Bool)(k e n:Nat)(hn:yD fl first=n):
  Rc.text xn (.hit (vo X P rn rm fl (fun e=>(best P X k e).2) (fun e=>(best P X k e).1) e)) first=mZ xn X rn P rm n ((best P X k e).2,e,(best P X k e).1):=by
 subst hn;unfold Rc.text vo mZ I5 oY;simp;rw[aka];simp[aeg]
theorem Y8(xn rn rb rm:ByteArray)(first:Bool):Rc.text xn (.no rn rb rm) first=pB (rn,rb,rm):=by
 unfold Rc.text pB oY;simp;rw[aka];simp[aeg];have:a_ 4=[52]:=by decide+kernel
 simp_all
theorem o9(xn X P rn rm:ByteArray)(fl:Bool)(k n:Nat):∀i,i<=(cw P X k).length->ru xn n (dX X P rn rm fl k) i=oV xn X rn P rm (if fl then 16 else 0) (decide (0<n)) (gh P X k) i
 |0,_=>rfl
 |i+1,h=>by
  rw[ru,oV,o9 xn X P rn rm fl k n i (by omega)];congr 1;rw[tc];unfold dX;rw[asM,asM,ate,ate,asX (by omega)];simp only[Option.map_some,atb];refine VP xn X P rn rm fl _ k _ _ ?_;unfold yD kt;by_cases h0:n+i=0
  ·have h1:¬(decide (0<n)=true\/0<i):=by simp;omega
   rw[if_neg h1,decide_eq_true h0];cases fl<;>rfl
  ·have h1:decide (0<n)=true\/0<i:=by simp;omega
   rw[if_pos h1,decide_eq_false h0];cases fl<;>rfl
theorem OY(xn xb rn p mk:ByteArray)(add:Nat)(more:Bool)(L:List _)(i:Nat)(h:0<i):oV xn xb rn p mk add more L i≠ []:=by
 cases i with
 |zero=>omega
 |succ i=>
  rw[oV];intro e;have:=congrArg List.length e;unfold mZ I5 at this;simp_all
theorem Ra(xn X P rn rm:ByteArray)(k:Nat):ru xn 0 (oe X P rn rm k) (oe X P rn rm k).length=eE xn X k (rn,P,rm):=by
 have l1:(gh P X k).length=(cw P X k).length:=by rw[tc];simp
 have l2:(gh (bI P 0) X k).length=(cw (bI P 0) X k).length:=by rw[tc];simp
 have hA:fh xn X k (rn,P,rm)=ru xn 0 (dX X P rn rm false k) (cw P X k).length:=by
  rw[o9 xn X P rn rm _ k 0 _ (asY _)];unfold fh jc;simp_all
 have hA0:fh xn X k (rn,P,rm)=[]↔cw P X k=[]:=by
  constructor
  ·intro h;apply ati;intro bj;unfold fh jc at h;rw[l1]at h;exact OY _ _ _ _ _ _ _ _ _ (as1.2 bj) h
  ·intro h;rw[hA,h];rfl
 have hB:jd xn X k (rn,P,rm)=ru xn (cw P X k).length (dX X (bI P 0) rn (str (dh rm)) true k) (cw (bI P 0) X k).length:=by
  rw[o9 xn X _ rn _ _ k _ _ (asY _)];unfold jd jc;rw[l2];have:decide (fh xn X k (rn,P,rm)≠ [])=decide (0<(cw P X k).length):=by
   rw[decide_eq_decide,as1];simp_all
  simp_all
 have hB0:jd xn X k (rn,P,rm)=[]↔cw (bI P 0) X k=[]:=by
  constructor
  ·intro h;apply ati;intro bj;unfold jd jc at h;rw[l2]at h;exact OY _ _ _ _ _ _ _ _ _ (as1.2 bj) h
  ·intro h;rw[hB,h];rfl
 unfold eE;by_cases h:cw P X k=[]/\cw (bI P 0) X k=[]
 ·rw[if_pos ⟨hA0.2 h.1,hB0.2 h.2⟩,hB0.2 h.2,atL];have:oe X P rn rm k=[.no rn P rm]:=by unfold oe;simp_all
  rw[this];show ru xn 0 _ 1=_
  rw[ru,ru,atM];exact Y8 xn rn P rm _
 ·rw[if_neg (fun e=>h ⟨hA0.1 e.1,hB0.1 e.2⟩)];have:oe X P rn rm k=dX X P rn rm false k++dX X (bI P 0) rn (str (dh rm)) true k:=by unfold oe;simp_all
  rw[this,as8,OX,hA,hB,atj];have e1:(dX X P rn rm false k).length=(cw P X k).length:=by unfold dX;simp
  have e2:(dX X (bI P 0) rn (str (dh rm)) true k).length=(cw (bI P 0) X k).length:=by unfold dX;simp
  rw[e1,e2]
theorem Ef(xn X:ByteArray):oY [⟨#[64]⟩++xn,str (a_ X.size)]++[10]=m_ xn X:=by
 unfold oY m_ Lib.join;simp[aeg]
end
namespace Ph
open Conc Ren RowKit
def cp:List Nat->Code->Code
 |1::p,.seq a _|1::p,.block _ a|1::p,.loop a|1::p,.cond _ a _|2::p,.seq _ a|2::p,.cond _ _ a=>cp p a
 |_,c=>c
def opsOf:Code->Array Oper
 |.region _ o _=>o
 |_=>#[]
section
variable{Q:QT}{R:Value->World->Prop}{v:World}{fn:FuncId}{k:List Item}{a:Array Value}
theorem GW.any(f:(Nat->Value)->Array Value)(h:a=f fun i=>a.getD i undef)(g:∀u,GW Q R fn k (f u) v):GW Q R fn k a v:=by
 rw[h];exact g _
end
theorem aeh{acc:List UInt8}(h:ie B acc v)(k:Kw v v'):ie B acc v':=by
 have hb:Below _ v {v' with os:=v.os,tape:=v.tape,output:=v.output}:=⟨rfl,rfl,rfl,k.size,k⟩;have h2:=h.below hb;exact h2
noncomputable def VQ:Code:=Tryz.f60.body.getD .skip
noncomputable def tB:Code:=cp [2,2,2,1,2,1,1] VQ
noncomputable def tI:Code:=cp [2,2,1,1,2,2,1,1] tB
noncomputable def tE:Code:=cp [2,2,2,2] VQ
noncomputable def kB:List Item:=[.inLoop tB,.inBlock 0,.code tE]
noncomputable def kI:List Item:=.inBlock 1:: .code (cp [2,2,2] tB)::kB
def Rc.ok:Rc->Prop
 |.hit p=>p.rn.size<=1000/\p.rb.size<=1000/\p.rm.size<=1000/\p.lt.size<=10000/\p.df.size<=10000/\p.st<=1000/\p.er<=1000
 |.no rn rb rm=>rn.size<=1000/\rb.size<=1000/\rm.size<=1000
theorem Rb(B:Nat)(acc:List UInt8)(XN:ByteArray)(x:Rc)(first:Bool)(v:World)(hx:Rc.ok x)(ML:XN.size<=1000)(hb:ie B acc v)(hl:acc.length<=500000000)(ht:cf v):
  Calls PR 93 #[ptr B,.string XN,x.val,.bool first] v fun e v'=>∃y,e=.returned y/\ie B (acc++x.text XN first) v'/\(∀g,g<B->v'.heap[g]?=v.heap[g]?)/\Go.Proofs.YtdcjnhipenbcfaaGreatDoor.Kp B v v':=by
 cases x with
 |hit p=>
  obtain⟨h1,h2,h3,h4,h5,h6,h7⟩:=hx;refine(xF B acc XN p _ v hb ML h1 h2 h3 h4 h5 h6 h7 hl ht).mono fun e v' h=>⟨_,h.1,?_,fun g hg=>h.2.2.1.block g hg,h.2.2.2⟩;have:=h.2.1;rw[as_]at this;exact this
 |no rn rb rm=>
  obtain⟨h1,h2,h3⟩:=hx;refine(xE B acc XN rn rb rm _ v hb h1 h2 h3 hl ht).mono fun e v' h=>⟨_,h.1,?_,fun g hg=>h.2.2.1.block g hg,h.2.2.2⟩;have:=h.2.1;rw[as_]at this;exact this
theorem aei:ua PR (isAgg 136)=some false:=by kernel_rfl
theorem aej:PR.underlying 133=some (.slice (PR.elem 133)):=by kernel_rfl
theorem Y9:(PR.info? (PR.elem 133)).map (·.size)=some 1:=by kernel_rfl
def Wj(XN X:ByteArray)(k q st n b4 b6 b9:Nat)(sl:Value)(len:Nat)(i y z j:Value)(u:Nat->Value):Array Value:=
 #[vp XN X,sl,qp k q st,iv n,ptr b4,u 5,ptr b6,u 7,.string ⟨#[]⟩,ptr b9,u 10,u 11,u 12,u 13,u 14,u 15,u 16,u 17,u 18,u 19,u 20,u 21,u 22,sl,iv len,i,u 26,u 27,u 28,u 29,u 30,u 31,u 32,y,z,j,u 36,u 37,u 38,u 39,u 40,u 41,u 42,u 43,u 44,u 45,u 46,u 47,u 48]
structure TV(v0:World)(XN X:ByteArray)(k q st b4 b6 b9:Nat)(acc:List UInt8)(v:World):Prop where
 c4:v.heap[b4]?=some (.cells #[.string XN,.string X] 68)
 c6:v.heap[b6]?=some (.cells #[iv k,iv q,iv st] 75)
 bld:ie b9 acc v
 old:Kw v0 v
 l4:b4<b9
 l6:b6<b9
 l0:v0.heap.size<=b9
theorem TV.on{k q st b9:Nat}{acc:List UInt8}(h:TV v0 XN X k q st b4 b6 b9 acc v)(kk:Kw v v'):TV v0 XN X k q st b4 b6 b9 acc v':=⟨kk.at h.c4,kk.at h.c6,aeh h.bld kk,h.old.trans kk,h.l4,h.l6,h.l0⟩
theorem TV.wrote{k q st b9:Nat}{acc:List UInt8}(h:TV v0 XN X k q st b4 b6 b9 acc v)(hb:ie b9 Pk v')(kk:∀g,g<b9->v'.heap[g]?=v.heap[g]?):TV v0 XN X k q st b4 b6 b9 Pk v':=
 ⟨(kk _ h.l4).trans h.c4,(kk _ h.l6).trans h.c6,hb,fun a ha=>(kk a (asS ha h.l0)).trans (h.old a ha),h.l4,h.l6,h.l0⟩
section
variable{Q:QT}{R:Value->World->Prop}{v0:World}{XN X:ByteArray}{k q st n b4 b6 b9 len:Nat}{sl i:Value}{acc:List UInt8}{L:List Rc}{b:Option Addr}{cq:Nat}
theorem Y_(ML:XN.size<=1000)(y9:mo v0)(hT:cf v0)(hL:∀x∈L,Rc.ok x)(hn:L.length<=100000)(hlen:∀j,j<=L.length->(acc++ru XN 0 L j).length<=500000000)
  (kk:∀j u v,TV v0 XN X k q st b4 b6 b9 (acc++ru XN 0 L L.length) v->GW Q R 60 kI (Wj XN X k q st n b4 b6 b9 sl len i (.slice b L.length cq) (iv L.length) j u) v):
  ∀m j,j+m=L.length->∀u v,TV v0 XN X k q st b4 b6 b9 (acc++ru XN 0 L j) v->v.ownsRow b9 136 1 (.slice b L.length cq) L.length (L.map Rc.val)->(∀g,(Value.slice b L.length cq).ownBlock=some g->b9<g)->
   GW Q R 60 (.code tI:: .inLoop tI:: .inBlock 2::kI) (Wj XN X k q st n b4 b6 b9 sl len i (.slice b L.length cq) (iv L.length) (iv j) u) v:=by
 have aY:∃F,PR.funcs[60]?=some F:=⟨_,ata⟩;intro m;induction m with
 |zero=>
  intro j hj u v hv dz hg;obtain rfl:j=L.length:=by omega
  refine GW.run 2 (k':=.inRegion (opsOf (cp [1] tI)) [0]:: .code (cp [2] tI):: .inLoop tI:: .inBlock 2::kI) ?_;refine GW.kz aY [0] ?_;refine GW.run 2 (k':=.code (.cond (.tmp 36) .skip (.exit 2)):: .code (cp [2,2] tI):: .inLoop tI:: .inBlock 2::kI) ?_;refine GW.cond aY (t:=decide ((L.length:Int)<(L.length:Int))) trivial (by kernel_rfl) ?_;rw[show decide ((L.length:Int)<(L.length:Int))=false from decide_eq_false (by omega)];refine GW.run 1 (k':=kI) ?_;exact GW.any (fun u=>Wj XN X k q st n b4 b6 b9 sl len i (.slice b L.length cq) (iv L.length) (iv L.length) u) (by kernel_rfl) fun u'=>kk _ u' v hv
 |succ m ih=>
  intro j hj u v hv dz hg;have Nl:j<L.length:=by omega
  obtain⟨g,cur,hb,Qv,Rm,htk⟩:∃g cur,b=some ⟨g,0,none⟩/\v.heap[g]?=some (.cells cur 136 (0,0))/\cur.size=cq *1/\cur.toList.take (L.length *1)=L.map Rc.val:=by
   rcases dz.2 with⟨_,h⟩|⟨g,cap,cur,hv,_,h3,h4,h5,h6,h7⟩
   ·omega
   ·cases hv;exact⟨g,cur,rfl,h3,h6,h7⟩
  subst hb;have hgb:b9<g:=hg g rfl;have hcj:cur[0+j *1]?=some (L.getD j VN).val:=by
   have e1:(cur.toList.take (L.length *1))[j]?=cur.toList[j]?:=by rw[List.getElem?_take,if_pos (by omega)]
   rw[htk,ate,asX Nl]at e1;rw[show 0+j *1=j by omega,<-Array.getElem?_toList,<-e1,asM,asX Nl];rfl
  have dU:L.getD j VN∈L:=by rw[asM,asX Nl];exact List.getElem_mem _
  have htx:acc++ru XN 0 L (j+1)=(acc++ru XN 0 L j)++(L.getD j VN).text XN (decide ((j:Int)=0)):=by
   rw[ru,<-as_];congr 2;rw[decide_eq_decide];omega
  have hlj:=hlen j (by omega);generalize L.getD j VN=e at *;refine GW.run 2 (k':=.inRegion (opsOf (cp [1] tI)) [0]:: .code (cp [2] tI):: .inLoop tI:: .inBlock 2::kI) ?_;refine GW.kz aY [0] ?_;refine GW.run 2 (k':=.code (.cond (.tmp 36) .skip (.exit 2)):: .code (cp [2,2] tI):: .inLoop tI:: .inBlock 2::kI) ?_;refine GW.cond aY (t:=decide ((j:Int)<(L.length:Int))) trivial (by kernel_rfl) ?_;rw[show decide ((j:Int)<(L.length:Int))=true from decide_eq_true (by omega)];refine GW.run 5 (k':=.inRegion (opsOf (cp [2,2,1,1,1] tI)) [0,1,2,3,4]:: .code (cp [2,2,1,1,2] tI):: .inBlock 3:: .code (cp [2,2,2] tI):: .inLoop tI:: .inBlock 2::kI) ?_;refine GW.kz aY [0] ?_;refine GW.ix aY (B:=g) (off:=0) (cap:=cq) Nl aej Y9 ?_;refine GW.ld aY (vt (0+j *1) aei Qv hcj) ?_;refine GW.kz aY [3,4] ?_;refine GW.run 2 (k':=.inRegion (opsOf (cp [2,2,1,1,2] tI)) [0,1,2,3,4,5]:: .inBlock 3:: .code (cp [2,2,2] tI):: .inLoop tI:: .inBlock 2::kI) ?_;refine GW.kz aY [0] ?_;refine GW.ld aY (vt 0 M8 hv.c4 rfl) ?_;refine GW.kz aY [2,3,4] ?_;refine GW.call aY (dA.cV (R:=fun _ v'=>ie b9 (acc++ru XN 0 L j++e.text XN (decide ((j:Int)=0))) v'/\(∀g,g<b9->v'.heap[g]?=v.heap[g]?)/\Go.Proofs.YtdcjnhipenbcfaaGreatDoor.Kp b9 v v') (by decide) fun T=>Rb b9 (acc++ru XN 0 L j) XN e (decide ((j:Int)=0)) (tp v T) (hL _ dU) ML hv.bld hlj (hv.old.vr y9 hT)) ?_;rintro x v' ⟨Rk,oo,PG⟩;rw[<-htx]at Rk;refine GW.run 3 (k':=.inRegion (opsOf (cp [2,2,2] tI)) [0,1]:: .inLoop tI:: .inBlock 2::kI) ?_;refine GW.kz aY [0,1] ?_;refine GW.run 2 (k':=.code tI:: .inLoop tI:: .inBlock 2::kI) ?_;refine GW.any (fun u=>Wj XN X k q st n b4 b6 b9 sl len i (.slice (some ⟨g,0,none⟩) L.length cq) (iv L.length) (.int .i64 (asZ.wrap ((j:Int)+1))) u) (by kernel_rfl) fun u'=>?_;rw[qo (by omega)];refine ih (j+1) (by omega) u' v' (hv.wrote Rk oo) ⟨dz.1,.inr ⟨g,cq,cur,rfl,by omega,PG g cur 136 (0,0) (by omega) (by decide) Qv,?_⟩⟩ hg;rcases dz.2 with⟨h,_⟩|⟨g',GG,ajQ,hv',_,h3',h4',h5',h6',h7'⟩
  ·cases h
  ·cases hv';rw[Qv]at h3';cases h3';exact⟨h4',h5',h6',h7'⟩
end
section
variable{Q:QT}{R:Value->World->Prop}{v:World}{fn:FuncId}{k:List Item}{a:Array Value}{ops:Array Oper}{i:Nat}{is:List Nat}
theorem Za:(PR.info? 131).map (·.size)=some 3:=by kernel_rfl
theorem GW.sk(aY:∃F,PR.funcs[fn]?=some F){s:Sem Unit}(h:Q6 ops i a=some (Y5 s))(hr:s.run PR v=.ok () v1)(hd:v1.drawn=v.drawn)(g:GW Q R fn (.inRegion ops is::k) (nF (Jw ops i) undef a) v1):GW Q R fn (.inRegion ops (i::is)::k) a v:=
 GW.ex aY h (by simp[Y5,hr]) (.inr ⟨rfl,rfl⟩) hd g
theorem GW.sn3(aY:∃F,PR.funcs[fn]?=some F){t:TypeId}(hz:(PR.info? t).map (·.size)=some 3)(hB:v.heap[B]?=some (.cells #[z0,z1,z2] t'))
  (g:∀v1,v1.heap[B]?=some (.cells #[x,y,z] t')->(∀b,b≠B->v1.heap[b]?=v.heap[b]?)->v1.heap.size=v.heap.size->GW Q R fn (.inRegion ops is::k) (nF (Jw ops i) undef a) v1)(h:Q6 ops i a=some (Y5 (Instr.storeAt t (ptr B) (.agg #[x,y,z]))):=by kernel_rfl)(pN:x.oneCell'=true:=by rfl)(ti:y.oneCell'=true:=by rfl)(kK:z.oneCell'=true:=by rfl):GW Q R fn (.inRegion ops (i::is)::k) a v:=by
 obtain⟨inf,pE,Dx⟩:=BE hz;have r0:=aX (i:=0) (v:=x) hB;have r1:=aX (i:=1) (v:=y) r0;have h0:v.cell? ⟨B,0,none⟩=some z0:=by simp[asJ,hB]
 have f0:v.frozen? ⟨B,0,none⟩=false:=by simp[asU,hB]
 have h1:(v.setCell ⟨B,0,none⟩ x).cell? ⟨B,1,none⟩=some z1:=by simp[asJ,r0]
 have f1:(v.setCell ⟨B,0,none⟩ x).frozen? ⟨B,1,none⟩=false:=by simp[asU,r0]
 have h2:((v.setCell ⟨B,0,none⟩ x).setCell ⟨B,1,none⟩ y).cell? ⟨B,2,none⟩=some z2:=by simp[asJ,r1]
 have f2:((v.setCell ⟨B,0,none⟩ x).setCell ⟨B,1,none⟩ y).frozen? ⟨B,2,none⟩=false:=by simp[asU,r1]
 have he:=aqS (a:=x) (b:=y) (c:=z) v hB;refine GW.sk (v1:=YX B x y z v) aY h ?_ rfl (g _ he.2 (fun b hb=>he.1.heap b hb) he.1.size);simp[go_sem,storeVar,storeCells,sizeOf,typeInfo,pE,Dx,atn,run_store PR _ _ x _ pN,run_store PR _ _ y _ ti,run_store PR _ _ z _ kK,h0,f0,h1,f1,h2,f2,ptr,as7,YX]
end
theorem Zb:(PR.info? 131).map (·.zero)=some (some (.agg #[.string ⟨#[]⟩,.string ⟨#[]⟩,.string ⟨#[]⟩])):=by kernel_rfl
theorem akc:PR.underlying 90=some (.slice (PR.elem 90)):=by kernel_rfl
theorem aek:(PR.info? (PR.elem 90)).map (·.size)=some 3:=by kernel_rfl
theorem Zc{b o:Nat}(c0:v.cell? ⟨b,o,none⟩=some x)(c1:v.cell? ⟨b,o+1,none⟩=some y)(c2:v.cell? ⟨b,o+2,none⟩=some z):(as0 131 (Vy b o)).run PR v=.ok (.agg #[x,y,z]) v:=by
 simp[Vy,go_sem,as7,c0,c1,c2]
theorem VS(X P rn rm:ByteArray)(k:Nat):vu X P rn rm k=(oe X P rn rm k).map Rc.val:=by
 unfold vu oe;split
 ·rfl
 ·rw[atl];unfold cB dX;rw[atx,atx];rfl
theorem Eg(X P rn rm:ByteArray)(fl:Bool)(k:Nat)(hX:X.size<=200)(hP:P.size<=30)(hk:k<=6)(h1:rn.size<=1000)(h2:rm.size<=1000):∀x∈dX X P rn rm fl k,Rc.ok x:=by
 intro x hx;unfold dX at hx;obtain⟨e,he,rfl⟩:=atz.1 hx;obtain⟨a1,a2,a3,a4,a5⟩:=yH P X k e he;have ht:(X.extract (best P X k e).2 e).size<=200:=by rw[ByteArray.size_extract];omega
 have hll:=tL P (X.extract (best P X k e).2 e);have hss:(str (ck P (X.extract (best P X k e).2 e))).size=(ck P (X.extract (best P X k e).2 e)).length:=au _;have hru:=xu (str (ck P (X.extract (best P X k e).2 e))) (by omega);have rk:=Bl P (X.extract (best P X k e).2 e) (str (ck P (X.extract (best P X k e).2 e))) (by omega);refine⟨h1,(show P.size<=1000 by omega),h2,?_,?_,(show(best P X k e).2<=1000 by omega),(show(best P X k e).1<=1000 by omega)⟩
 ·show(str (jm (str (ck P (X.extract (best P X k e).2 e))))).size<=10000
  rw[au];omega
 ·show(str (pL P (X.extract (best P X k e).2 e) (str (ck P (X.extract (best P X k e).2 e))))).size<=10000
  rw[au];omega
theorem Zd(X P rn rm:ByteArray)(k:Nat)(hX:X.size<=200)(hP:P.size<=30)(hk:k<=6)(h1:rn.size<=1000)(h2:rm.size<=1000):∀x∈oe X P rn rm k,Rc.ok x:=by
 intro x hx;unfold oe at hx;split at hx
 ·simp at hx;subst hx;exact⟨h1,(show P.size<=1000 by omega),h2⟩
 ·rcases List.mem_append.1 hx with hx|hx
  ·exact Eg X P rn rm false k hX hP hk h1 h2 x hx
  ·exact Eg X (bI P 0) rn (str (dh rm)) true k hX (by have:=lL P 0;omega) hk h1 (by rw[xB];exact h2) x hx
theorem VT(X P rn rm:ByteArray)(k:Nat)(hX:X.size<=200):(oe X P rn rm k).length<=402:=by
 have e1:=oc P X k;have e2:=oc (bI P 0) X k;unfold oe dX;split
 ·simp
 ·simp;omega
theorem JQ(xn:ByteArray)(n:Nat)(L:List Rc):∀j d,(ru xn n L j).length<=(ru xn n L (j+d)).length
 |j,0=>asY _
 |j,d+1=>by
  have:=JQ xn n L j d;rw[<-Nat.add_assoc,ru,as8];omega
theorem Ng(s:ByteArray):(bI s 0).size=s.size:=by
 unfold bI;rw[au];simp
section
variable{Q:QT}{R:Value->World->Prop}{v0:World}{XN X:ByteArray}{k q st n b4 b6 b9 cap:Nat}{a:Option Addr}{RL:List Rd}
theorem VU(hX:X.size<=200)(ML:XN.size<=1000)(hk:k<=6)(hq:1<=q)(vy:q<=8)(hs:1<=st)(qb:st<=200)(hn:1<=n)(Ge:n<=8)(hR:∀r∈RL,(r.1.size<=10/\r.2.1.size<=30/\r.2.2.size<=30)/\k<r.2.1.size)(hRL:RL.length<=5)(y9:mo v0)(hT:cf v0)
  (rows:v0.ownsRow 0 131 3 (.slice a RL.length cap) RL.length (dv RL))
  (kk:∀y z j u v,TV v0 XN X k q st b4 b6 b9 (dR XN X k RL RL.length) v->GW Q R 60 [.code tE] (Wj XN X k q st n b4 b6 b9 (.slice a RL.length cap) RL.length (iv RL.length) y z j u) v):
  ∀m i,i+m=RL.length->∀y z j u v,TV v0 XN X k q st b4 b6 b9 (dR XN X k RL i) v->GW Q R 60 (.code tB::kB) (Wj XN X k q st n b4 b6 b9 (.slice a RL.length cap) RL.length (iv i) y z j u) v:=by
 have aY:∃F,PR.funcs[60]?=some F:=⟨_,ata⟩;intro m;induction m with
 |zero=>
  intro i hi y z j u v hv;obtain rfl:i=RL.length:=by omega
  refine GW.run 2 (k':=.inRegion (opsOf (cp [1] tB)) [0]:: .code (cp [2] tB)::kB) ?_;refine GW.kz aY [0] ?_;refine GW.run 2 (k':=.code (.cond (.tmp 26) .skip (.exit 0)):: .code (cp [2,2] tB)::kB) ?_;refine GW.cond aY (t:=decide ((RL.length:Int)<(RL.length:Int))) trivial (by kernel_rfl) ?_;rw[show decide ((RL.length:Int)<(RL.length:Int))=false from decide_eq_false (by omega)];refine GW.run 1 (k':=[.code tE]) ?_;exact GW.any (fun u=>Wj XN X k q st n b4 b6 b9 (.slice a RL.length cap) RL.length (iv RL.length) y z j u) (by kernel_rfl) fun u'=>kk _ _ _ u' v hv
 |succ m ih=>
  intro i hi y z j u v hv;have Kc:i<RL.length:=by omega
  obtain⟨g,rfl⟩:∃g,a=some ⟨g,0,none⟩:=by
   rcases rows.2 with⟨_,h⟩|⟨g,cap,cur,hv,_⟩
   ·omega
   ·cases hv;exact⟨g,rfl⟩
  obtain⟨rn,P,rm,hRi⟩:∃rn P rm,RL[i]?=some (rn,P,rm):=⟨RL[i].1,RL[i].2.1,RL[i].2.2,asX Kc⟩;have akd:RL.getD i (⟨#[]⟩,⟨#[]⟩,⟨#[]⟩)=(rn,P,rm):=by rw[asM,hRi];rfl
  obtain⟨⟨s1,s2,s3⟩,s4⟩:=hR _ (atr hRi);simp only at s1 s2 s3 s4;obtain⟨f1,f2,f3⟩:=Jb RL i _ hRi;simp only at f1 f2 f3;have lg:g<v0.heap.size:=(rows.lt g rfl).2;have cells:∀j x,(dv RL)[j]?=some x->v.cell? ⟨g,j,none⟩=some x:=fun j x hj=>by
   have:=rows.cells (g:=g) rfl j x hj;rw[iM]at this;rw[<-this];simp only[asJ,hv.old g lg]
  refine GW.run 2 (k':=.inRegion (opsOf (cp [1] tB)) [0]:: .code (cp [2] tB)::kB) ?_;refine GW.kz aY [0] ?_;refine GW.run 2 (k':=.code (.cond (.tmp 26) .skip (.exit 0)):: .code (cp [2,2] tB)::kB) ?_;refine GW.cond aY (t:=decide ((i:Int)<(RL.length:Int))) trivial (by kernel_rfl) ?_;rw[show decide ((i:Int)<(RL.length:Int))=true from decide_eq_true (by omega)];refine GW.run 5 (k':=.inRegion (opsOf (cp [2,2,1,1,1] tB)) [0,1,2,3]:: .code (cp [2,2,1,1,2] tB)::kI) ?_;refine GW.ix aY (B:=g) (off:=0) (cap:=cap) Kc akc aek ?_;refine GW.ld aY (y:=Vy g (0+i *3)) (Zc (by rw[atj];exact cells _ _ f1) (by rw[atj];exact cells _ _ f2) (by rw[atj];exact cells _ _ f3)) ?_;refine GW.al aY Zb fun v1 _ k1 l1 c1=>?_;refine GW.sn3 aY Za (x:=.string rn) (y:=.string P) (z:=.string rm) c1 fun v2 c2 k2 l2=>?_;have K2:Kw v v2:=fun b hb=>(k2 b (by omega)).trans (k1 b hb);have hv2:=hv.on K2;refine GW.run 3 (k':=.inRegion (opsOf (cp [2,2,1,1,2,1] tB)) [0,1,2,3,4,5,6]:: .code (cp [2,2,1,1,2,2] tB)::kI) ?_;refine GW.ld aY (OW hv2.c4) ?_;refine GW.ld aY (Nf c2) ?_;refine GW.ld aY (Jz hv2.c6) ?_;refine GW.kz aY [3] ?_;refine GW.call aY (Q_ (XN:=XN) (rn:=rn) (rm:=rm) hX s2 (by omega) hk s4 (by rw[Ng];exact s4) hq vy hs qb hn Ge (hv2.old.tabs y9) (hv2.old.vr y9 hT)) ?_;rintro x v3 ⟨dz,k3⟩;have hv3:=hv2.on k3;rw[VS,List.length_map]at dz;obtain⟨L,hL⟩:∃L,L=oe X P rn rm k:=⟨_,rfl⟩;rw[<-hL]at dz;obtain⟨b,cq,rfl⟩:∃b cq,x=.slice b L.length cq:=by
   rcases dz.2 with⟨hy,h0⟩|⟨g',GG,cur,hv,_⟩
   ·exact⟨none,0,by rw[h0];exact hy⟩
   ·exact⟨_,_,hv⟩
  have hLn:L.length<=402:=by rw[hL];exact VT X P rn rm k hX
  have aaY:ru XN 0 L L.length=eE XN X k (rn,P,rm):=by rw[hL];exact Ra XN X P rn rm k
  have hR':∀r∈RL,r.1.size<=10/\r.2.1.size<=30/\r.2.2.size<=30:=fun r hr=>(hR r hr).1;have l9:b9<v.heap.size:=hv.bld.lt;refine GW.kz aY [5,6] ?_;refine GW.run 3 (k':=.code tI:: .inLoop tI:: .inBlock 2::kI) ?_;refine GW.any (fun u=>Wj XN X k q st n b4 b6 b9 (.slice (some ⟨g,0,none⟩) RL.length cap) RL.length (iv i) (.slice b L.length cq) (iv L.length) (iv 0) u) (by kernel_rfl) fun u'=>?_;refine Y_ (acc:=dR XN X k RL i) (L:=L) ML y9 hT (by rw[hL];exact Zd X P rn rm k hX s2 hk (by omega) (by omega)) (by omega) (fun j hj=>?_) (fun j' u2 v4 hv4=>?_) L.length 0 (by omega) u' v3 (by rw[ru,atL];exact hv3) (nZ dz (by omega)) (fun g' e=>by have:=(dz.lt g' e).1;omega)
  ·have m1:=JQ XN 0 L j (L.length-j);rw[show j+(L.length-j)=L.length by omega,aaY]at m1;have m2:=vh XN X k (rn,P,rm) ML (by omega) ⟨s1,s2,s3⟩ (by omega);have m3:=qU XN X k RL ML (by omega) hR' (by omega) i (by omega);rw[as8];omega
  ·refine GW.run 2 (k':=.inRegion (opsOf (cp [2,2,2] tB)) [0,1]::kB) ?_;refine GW.kz aY [0,1] ?_;refine GW.run 2 (k':=.code tB::kB) ?_;refine GW.any (fun u=>Wj XN X k q st n b4 b6 b9 (.slice (some ⟨g,0,none⟩) RL.length cap) RL.length (.int .i64 (asZ.wrap ((i:Int)+1))) (.slice b L.length cq) (iv L.length) j' u) (by kernel_rfl) fun u3=>?_;rw[qo (by omega)];refine ih (i+1) (by omega) _ _ _ u3 v4 ?_;have:dR XN X k RL (i+1)=dR XN X k RL i++ru XN 0 L L.length:=by rw[dR,akd,aaY]
   rw[this];exact hv4
end
noncomputable def tH:Array Oper:=opsOf (cp [2,2,1] VQ)
theorem Ze:tH.size=9:=by kernel_rfl
theorem ake:(ab.all fun d0=>ab.all fun d1=>ab.all fun d2=>ab.all fun d3=>ab.all fun d4=>ab.all fun d5=>ab.all fun d6=>(asK .any tH #[d0,d1,d2,d3,d4,d5,d6,false,false]).all fun i=>(i==0&&!d0)||(i==1&&(!d1&&d0))||(i==2&&(!d2&&d1))||(i==3&&!d3)||(i==4&&(!d4&&d3))||(i==5&&(!d5&&d4))||(i==6&&(!d6&&d5))||(i==7&&(d2&&d6)))=true:=by decide+kernel
theorem tdy(d0 d1 d2 d3 d4 d5 d6:Bool)(i:Nat)(hi:i∈asK .any tH #[d0,d1,d2,d3,d4,d5,d6,false,false]):(i=0/\d0=false)\/(i=1/\d1=false/\d0=true)\/(i=2/\d2=false/\d1=true)\/(i=3/\d3=false)\/(i=4/\d4=false/\d3=true)\/(i=5/\d5=false/\d4=true)\/(i=6/\d6=false/\d5=true)\/(i=7/\d2=true/\d6=true):=by
 have h:=as5.1 (cU (cU (cU (cU (cU (cU (cU ake d0) d1) d2) d3) d4) d5) d6) i hi;simpa[or_assoc]using h
theorem akf:(ab.all fun d0=>ab.all fun d1=>ab.all fun d2=>ab.all fun d3=>ab.all fun d4=>ab.all fun d5=>ab.all fun d6=>(d1&&!d0)||(d2&&!d1)||(d4&&!d3)||(d5&&!d4)||(d6&&!d5)||!(asK .any tH #[d0,d1,d2,d3,d4,d5,d6,false,false]).isEmpty)=true:=by decide+kernel
theorem akg:asK .any tH #[true,true,true,true,true,true,true,true,false]=[8]:=by decide+kernel
section
variable{Q:QT}{R:Value->World->Prop}{v:World}{fn:FuncId}{k:List Item}{a:Array Value}{ops:Array Oper}{i:Nat}{is:List Nat}
theorem GW.cat(aY:∃F,PR.funcs[fn]?=some F)(p q:Operand){x y:ByteArray}(hs:x.size+y.size<=100000000)(g:GW Q R fn (.inRegion ops is::k) (nF (Jw ops i) (.string (x++y)) a) v)(h:Q6 ops i a=some (Jy (do eqGuard .add 9 p q (.string x) (.string y);binOp .add 9 (.string x) (.string y))):=by kernel_rfl):GW Q R fn (.inRegion ops (i::is)::k) a v:=
 GW.vl aY h (by simp[go_sem,run_string_add_sum (P:=PR) (w:=v) x y (by omega)]) rfl g
theorem GW.bs(aY:∃F,PR.funcs[fn]?=some F){x y:ByteArray}(g:∀v1,Kw v v1->v1.heap[v.heap.size]?=some (.cells #[.string x,.string y] 9)->GW Q R fn (.inRegion ops is::k) (nF (Jw ops i) (.slice (some ⟨v.heap.size,0,none⟩) 2 2) a) v1)(h:Q6 ops i a=some (Jy (atE 65 2 #[(0,.string x),(1,.string y)])):=by kernel_rfl):GW Q R fn (.inRegion ops (i::is)::k) a v:=by
 have hu:PR.underlying 65=some (.slice 9):=by kernel_rfl
 obtain⟨inf,h1,h2⟩:=BE (f:=fun i=>(i.zero,i.size)) (z:=(some (.string ⟨#[]⟩),1)) (t:=9) (by kernel_rfl);simp only[Prod.mk.injEq]at h2;exact GW.vl (v1:=v.alloc (.cells #[.string x,.string y] 9)) aY h (by simp[go_sem,atE,run_underlying hu,sizeOf,typeInfo,zeroValue,h1,h2]) rfl (g _ (.alloc v _) (heap_alloc_new v _))
end
def slH(XN X:ByteArray)(k q st n b4 b6 b9:Nat)(sl:Value)(d0 d1 d2 d3 d4 d5 d6:Bool):Array Value:=
 #[vp XN X,sl,qp k q st,iv n,ptr b4,undef,ptr b6,undef,.string ⟨#[]⟩,ptr b9,undef,undef,undef,undef,pk d0 (Vy b4 0),pk d1 (.string XN),pk d2 (.string (⟨#[64]⟩++XN)),pk d3 (Vy b4 1),pk d4 (.string X),pk d5 (.int .i64 (X.size:Int)),pk d6 (.string (str (a_ X.size))),undef,undef,undef,undef,undef,undef,undef,undef,undef,undef,undef,undef,undef,undef,undef,undef,undef,undef,undef,undef,undef,undef,undef,undef,undef,undef,undef,undef]
section
variable{Q:QT}{R:Value->World->Prop}{v0 v:World}{XN X:ByteArray}{k q st n b4 b6 b9 cap len:Nat}{sl:Value}{K:List Item}
theorem Re(hX:X.size<=200)(ML:XN.size<=1000)(y9:mo v0)(hT:cf v0)(hv:TV v0 XN X k q st b4 b6 b9 [] v)
  (kk:∀z x v',TV v0 XN X k q st b4 b6 b9 (m_ XN X) v'->GW Q R 60 (.inRegion tH []::K) (nF (some 22) x (nF (some 21) z (slH XN X k q st n b4 b6 b9 sl true true true true true true true))) v'):
  GW Q R 60 (.code (.region 2 tH true)::K) (slH XN X k q st n b4 b6 b9 sl false false false false false false false) v:=by
 have aY:∃F,PR.funcs[60]?=some F:=⟨_,ata⟩;refine GW.draw fun t=>?_;rw[Ze];refine GW.S7 (md:=.any) (fun D=>slH XN X k q st n b4 b6 b9 sl (D.getD 0 false) (D.getD 1 false) (D.getD 2 false) (D.getD 3 false) (D.getD 4 false) (D.getD 5 false) (D.getD 6 false)) (fun fuel D u=>∃d0 d1 d2 d3 d4 d5 d6:Bool,D=#[d0,d1,d2,d3,d4,d5,d6,false,false]/\(d1=true->d0=true)/\(d2=true->d1=true)/\(d4=true->d3=true)/\(d5=true->d4=true)/\(d6=true->d5=true)/\fuel+(d0.toNat+d1.toNat+d2.toNat+d3.toNat+d4.toNat+d5.toNat+d6.toNat)=9/\TV v0 XN X k q st b4 b6 b9 [] u) ?_ ?_ 9 t (as2 9 false) v ⟨false,false,false,false,false,false,false,rfl,nofun,nofun,nofun,nofun,nofun,rfl,hv⟩
 ·rintro D i fuel t u ⟨d0,d1,d2,d3,d4,d5,d6,rfl,h1,h2,h4,h5,h6,hf,T⟩ hi kk1;rcases tdy d0 d1 d2 d3 d4 d5 d6 i hi with⟨rfl,rfl⟩|⟨rfl,rfl,rfl⟩|⟨rfl,rfl,rfl⟩|⟨rfl,rfl⟩|⟨rfl,rfl,rfl⟩|⟨rfl,rfl,rfl⟩|⟨rfl,rfl,rfl⟩|⟨rfl,rfl,rfl⟩
  ·exact GW.kz aY [0] (GW.to _ (kk1 u ⟨true,d1,d2,d3,d4,d5,d6,rfl,fun _=>rfl,h2,h4,h5,h6,by simp at hf⊢;omega,T⟩))
  ·exact GW.ld aY (vt 0 M8 T.c4 rfl) (GW.to _ (kk1 u ⟨true,true,d2,d3,d4,d5,d6,rfl,fun _=>rfl,fun _=>rfl,h4,h5,h6,by simp at hf⊢;omega,T⟩))
  ·exact GW.cat aY (.const (.string ⟨#[64]⟩)) (.tmp 15) (x:=⟨#[64]⟩) (y:=XN) (by show 1+XN.size<=_;omega) (GW.to _ (kk1 u ⟨d0,true,true,d3,d4,d5,d6,rfl,h1,fun _=>rfl,h4,h5,h6,by simp at hf⊢;omega,T⟩))
  ·exact GW.kz aY [3] (GW.to _ (kk1 u ⟨d0,d1,d2,true,d4,d5,d6,rfl,h1,h2,fun _=>rfl,h5,h6,by simp at hf⊢;omega,T⟩))
  ·exact GW.ld aY (vt 1 M8 T.c4 rfl) (GW.to _ (kk1 u ⟨d0,d1,d2,true,true,d5,d6,rfl,h1,h2,fun _=>rfl,fun _=>rfl,h6,by simp at hf⊢;omega,T⟩))
  ·exact GW.kz aY [5] (GW.to _ (kk1 u ⟨d0,d1,d2,d3,true,true,d6,rfl,h1,h2,h4,fun _=>rfl,fun _=>rfl,by simp at hf⊢;omega,T⟩))
  ·refine GW.call aY (dA.cV (R:=fun x v'=>x=.string (str (a_ X.size))/\Kw u v') (by decide) fun T'=>(qW _ X.size rfl (tp u T') (by omega) (T.old.vr y9 hT)).mono fun e w' h=>⟨_,h.1,rfl,fun a ha=>h.2.block a ha⟩) ?_;rintro x u' ⟨rfl,K'⟩;exact GW.to _ (kk1 u' ⟨d0,d1,d2,d3,d4,true,true,rfl,h1,h2,h4,h5,fun _=>rfl,by simp at hf⊢;omega,T.on K'⟩)
  ·clear kk1;obtain rfl:=h2 rfl;obtain rfl:=h1 rfl;obtain rfl:=h6 rfl;obtain rfl:=h5 rfl;obtain rfl:=h4 rfl;obtain rfl:fuel=1:=by simp at hf;omega
   refine GW.bs aY (x:=⟨#[64]⟩++XN) (y:=str (a_ X.size)) fun u1 k1 c1=>?_;rw[show(#[true,true,true,true,true,true,true,false,false]:Array Bool).setIfInBounds 7 true=#[true,true,true,true,true,true,true,true,false]from rfl,FT akg];have T1:=T.on k1;have dz:u1.ownsRow u.heap.size 9 1 (.slice (some ⟨u.heap.size,0,none⟩) 2 2) 2 [.string (⟨#[64]⟩++XN),.string (str (a_ X.size))]:=⟨rfl,.inr ⟨u.heap.size,2,_,rfl,asY _,c1,asY _,by unfold maxLen;omega,rfl,rfl⟩⟩;have ht:(oY [(⟨#[64]⟩:ByteArray)++XN,str (a_ X.size)]++[10]).length<=100000:=by
    rw[Ef];have:=qU XN X 0 [] ML (by omega) (by simp) (by omega) 0 (by simp);simp only[dR]at this;omega
   refine GW.call aY (dA.cV (R:=fun x v'=>ie b9 (m_ XN X) v'/\∀g,g<b9->v'.heap[g]?=u1.heap[g]?) (by decide) fun T'=>(nE b9 u.heap.size [] [(⟨#[64]⟩:ByteArray)++XN,str (a_ X.size)] (.slice (some ⟨u.heap.size,0,none⟩) 2 2) (tp u1 T') T1.bld dz (by simp) (by simp) (by simp at ht⊢;omega)).mono fun e w' h=>⟨_,h.1,by have:=h.2.1;rw[atM,Ef]at this;exact this,fun a ha=>h.2.2.1.block a ha⟩) ?_;rintro x u2 ⟨hb,kb⟩;exact GW.to _ (kk (.slice (some ⟨u.heap.size,0,none⟩) 2 2) x u2 (T1.wrote hb kb))
 ·rintro fuel D u ⟨d0,d1,d2,d3,d4,d5,d6,rfl,h1,h2,h4,h5,h6,hf,T⟩ ho;exfalso;rcases ho with rfl|ho
  ·have:=asQ d0;have:=asQ d1;have:=asQ d2;have:=asQ d3;have:=asQ d4;have:=asQ d5;have:=asQ d6;omega
  ·have h:=cU (cU (cU (cU (cU (cU (cU akf d0) d1) d2) d3) d4) d5) d6;rw[ho]at h;cases d0<;>cases d1<;>cases d2<;>cases d3<;>cases d4<;>cases d5<;>cases d6<;>simp_all
end
section
variable{Q:QT}{R:Value->World->Prop}{v:World}{fn:FuncId}{a:Array Value}
theorem GW.aq6{F:Func}(aY:PR.funcs[fn]?=some F)(hr:F.results=#[.tmp d])(hx:a.getD d undef=x)(h:∀T,R x (tp v T)):GW Q R fn [.code .ret] a v:=
 GW.rest aY rfl fun T=>wp_ret (bodyPost_ret (results_tmp hr _ _ _) rfl ⟨_,rfl,by simp_all⟩)
end
theorem Zf:(PR.info? 102).map (·.zero)=some (some (.agg #[.pointer none,.slice none 0 0])):=by kernel_rfl
theorem akh:Tryz.f60.body=some VQ:=by kernel_rfl
section
variable{Q:QT}{v:World}{XN X:ByteArray}{k q st n cap:Nat}{a:Option Addr}{RL:List Rd}
theorem ael(hX:X.size<=200)(ML:XN.size<=1000)(hk:k<=6)(hq:1<=q)(vy:q<=8)(hs:1<=st)(qb:st<=200)(hn:1<=n)(Ge:n<=8)(hR:∀r∈RL,(r.1.size<=10/\r.2.1.size<=30/\r.2.2.size<=30)/\k<r.2.1.size)(hRL:RL.length<=5)(y9:mo v)(hT:cf v)(rows:v.ownsRow 0 131 3 (.slice a RL.length cap) RL.length (dv RL)):
  dA Q 60 #[vp XN X,.slice a RL.length cap,qp k q st,iv n] v fun x v'=>x=.string (str (dR XN X k RL RL.length))/\Kw v v':=by
 have aY:∃F,PR.funcs[60]?=some F:=⟨_,ata⟩;refine dA.of (n:=49) ata akh (by kernel_rfl) ?_;refine GW.run 2 (k':=[.inRegion (opsOf (cp [1] VQ)) [0,1,2],.code (cp [2] VQ)]) ?_;refine GW.bx aY (t:=68) (y:=vp XN X) fun v1 k1 l1 c4=>?_;refine GW.bx aY (t:=75) (y:=qp k q st) fun v2 k2 l2 c6=>?_;refine GW.kz aY [2] ?_;refine GW.run 3 (k':=[.inRegion (opsOf (cp [2,1] VQ)) [0],.code (cp [2,2] VQ)]) ?_;refine GW.al aY Zf fun v3 e3 k3 l3 _=>?_;have hb:ie v2.heap.size [] v3:=by rw[e3];exact ie.new v2
 have hv:TV v XN X k q st v.heap.size v1.heap.size v2.heap.size [] v3:=⟨k3.at (k2.at c4),k3.at c6,hb,(k1.trans k2).trans k3,by omega,by omega,by omega⟩;refine GW.run 2 (k':=[.code (.region 2 tH true),.code (cp [2,2,2] VQ)]) ?_;refine GW.to (slH XN X k q st n v.heap.size v1.heap.size v2.heap.size (.slice a RL.length cap) false false false false false false false) ?_;generalize v.heap.size=b4 at hv⊢;generalize v1.heap.size=b6 at hv⊢;generalize v2.heap.size=b9 at hv⊢;refine Re hX ML y9 hT hv fun z x v4 hv4=>?_;refine GW.run 4 (k':=[.inRegion (opsOf (cp [2,2,2,1,1] VQ)) [0,1,2],.code (cp [2,2,2,1,2] VQ),.code tE]) ?_;refine GW.kz aY [0,1,2] ?_;refine GW.run 3 (k':=.code tB::kB) ?_;refine GW.any (fun u=>Wj XN X k q st n b4 b6 b9 (.slice a RL.length cap) RL.length (iv 0) (u 33) (u 34) (u 35) u) (by kernel_rfl) fun u=>?_;refine VU hX ML hk hq vy hs qb hn Ge hR hRL y9 hT rows (fun y z j u v5 hv5=>?_) RL.length 0 (by omega) _ _ _ u v4 hv4;refine GW.run 2 (k':=[.inRegion (opsOf (cp [1] tE)) [0,1],.code .ret]) ?_;refine GW.call aY (dA.cV (R:=fun x v'=>x=.string (str (dR XN X k RL RL.length))/\∀g,g<b9->v'.heap[g]?=v5.heap[g]?) (by decide) fun T=>(qS b9 _ (tp v5 T) hv5.bld).mono fun e w' h=>⟨_,h.1,rfl,fun a ha=>h.2.block a ha⟩) ?_;rintro x v6 ⟨rfl,k6⟩;refine GW.kz aY [1] ?_;refine GW.run 1 (k':=[.code .ret]) ?_;exact GW.aq6 (d:=8) ata (by kernel_rfl) (x:=.string (str (dR XN X k RL RL.length))) (by kernel_rfl) fun T=>⟨rfl,fun g hg=>(k6 g (asS hg hv5.l0)).trans (hv5.old g hg)⟩
end
section
variable{Q:QT}{R:Value->World->Prop}{v:World}{fn:FuncId}{k:List Item}{a:Array Value}{ops:Array Oper}{i:Nat}{is:List Nat}
theorem GW.st2(aY:∃F,PR.funcs[fn]?=some F){t:TypeId}(hz:(PR.info? t).map (·.size)=some 2)(hB:v.heap[B]?=some (.cells #[z0,z1] t'))
  (g:∀v1,v1.heap[B]?=some (.cells #[x,y] t')->(∀b,b≠B->v1.heap[b]?=v.heap[b]?)->v1.heap.size=v.heap.size->GW Q R fn (.inRegion ops is::k) (nF (Jw ops i) undef a) v1)(h:Q6 ops i a=some (Y5 (Instr.storeAt t (ptr B) (.agg #[x,y]))):=by kernel_rfl)(pN:x.oneCell'=true:=by rfl)(ti:y.oneCell'=true:=by rfl):GW Q R fn (.inRegion ops (i::is)::k) a v:=by
 obtain⟨inf,pE,Dx⟩:=BE hz;have r0:=aX (i:=0) (v:=x) hB;have h0:v.cell? ⟨B,0,none⟩=some z0:=by simp[asJ,hB]
 have f0:v.frozen? ⟨B,0,none⟩=false:=by simp[asU,hB]
 have h1:(v.setCell ⟨B,0,none⟩ x).cell? ⟨B,1,none⟩=some z1:=by simp[asJ,r0]
 have f1:(v.setCell ⟨B,0,none⟩ x).frozen? ⟨B,1,none⟩=false:=by simp[asU,r0]
 have he:=aqT (a:=x) (b:=y) v hB;refine GW.sk (v1:=YY B x y v) aY h ?_ rfl (g _ he.2 (fun b hb=>he.1.heap b hb) he.1.size);simp[go_sem,storeVar,storeCells,sizeOf,typeInfo,pE,Dx,atn,run_store PR _ _ x _ pN,run_store PR _ _ y _ ti,h0,f0,h1,f1,ptr,as7,YY]
theorem GW.U_(aY:∃F,PR.funcs[fn]?=some F)(x y z:Nat)(h:∀t c cs,bD PR 2 ((bf fn).at ⟨t,[]⟩ (.code .ret::k)) (c::cs)=(c.finish (.tuple #[t.getD x undef,t.getD y undef,t.getD z undef]),cs))(hr:R (.tuple #[a.getD x undef,a.getD y undef,a.getD z undef]) v):GW Q R fn (.code .ret::k) a v:=by
 intro r Z w t c cs hv hA kk;refine as4 2 fun w' hk=>?_;rw[h];have ev:=fun n=>vq aY hv hA.gi (x:=.tmp n) trivial;refine kk r Z _ _ v w' (fun _ _ e=>e) ?_ (hA.quiet hk) (.qt hk) hr
 letI:=gv
 refine .tuple rfl fun i p p' e e'=>?_;have hi:=by
  have:=(Array.getElem?_eq_some_iff.1 e).1;simpa using this
 have:i=0\/i=1\/i=2:=by omega
 rcases this with rfl|rfl|rfl<;>cases e<;>cases e'<;>exact ev _
end
noncomputable def xK:Code:=atF.body.getD .skip
abbrev i6(n:Int):Value:=.int .i64 n
def Zg(ref reads:ByteArray)(k q st wk:Int)(Zh:Nat)(V:Value)(Rx:Nat)(x18:Value)(u:Nat->Value):Array Value:=
 #[.string ref,.string reads,i6 k,i6 q,i6 st,i6 wk,u 6,u 7,u 8,u 9,u 10,u 11,.string ⟨#[]⟩,i6 0,i6 0,ptr Zh,V,ptr Rx,x18,u 19,u 20,u 21,u 22,u 23,u 24,u 25,u 26,u 27,u 28,u 29,u 30,u 31,u 32,u 33,u 34,u 35,u 36,u 37,u 38,u 39,u 40,u 41,u 42,u 43,u 44,u 45,u 46,u 47,u 48,u 49,u 50,u 51,u 52,u 53,u 54,u 55,u 56,u 57,u 58]
section
variable{v:World}{ref reads:ByteArray}{k q st wk E Pl:Int}{V x18:Value}{Zh Rx Rg:Nat}{u:Nat->Value}
theorem aki(h:w.heap[Rx]?=some (.cells #[i6 E,i6 Pl] 70)):(cp [2,2,1,2,1,1] xK).wp PR (fun e a' v'=>e=.normal/\a'.defers=[]/\(a'.tmps.getD 12 undef=.string ⟨#[]⟩/\a'.tmps.getD 13 undef=i6 E/\a'.tmps.getD 14 undef=i6 Pl)/\v'.heap=w.heap) ⟨Zg ref reads k q st wk Zh V Rx x18 u,[]⟩ w:=by
 have c0:w.cell? ⟨Rx,0,none⟩=some (i6 E):=by simp[asJ,h]
 have c1:w.cell? ⟨Rx,1,none⟩=some (i6 Pl):=by simp[asJ,h]
 obtain⟨Q,hQ⟩:∃Q:Exit->Act->World->Prop,Q=(fun e a' v'=>e=.normal/\a'.defers=[]/\(a'.tmps.getD 12 undef=.string ⟨#[]⟩/\a'.tmps.getD 13 undef=i6 E/\a'.tmps.getD 14 undef=i6 Pl)/\v'.heap=w.heap):=⟨_,rfl⟩;rw[<-hQ];have HQ:=laid hQ;unfold xK atF Zg;simp only[ptr]
 go_quiet(fail)
 rw[HQ.out];exact⟨rfl,rfl,⟨rfl,rfl,rfl⟩,rfl⟩
theorem akj{L:List Rd}(h:w.heap[Rg]?=some (.cells #[i6 k,i6 q,i6 st] 75))(dz:w.ownsRow B 131 3 V L.length (dv L))(hl:L.length<=1000)(hs:∀r∈L,r.2.1.size<=1000):(cp [2,2,2,2,1,1] xK).wp PR (fun e a' v'=>e=.normal/\a'.defers=[]/\(a'.tmps=Zg ref reads k q st wk Zh V Rx (ptr Rg) (fun n=>a'.tmps.getD n undef)/\a'.tmps.getD 53 undef=.bool (!sX k q st||!cY k L||decide (wk<1)||decide (8<wk)))/\∀g,g<w.heap.size->v'.heap[g]?=w.heap[g]?) ⟨Zg ref reads k q st wk Zh V Rx (ptr Rg) u,[]⟩ w:=by
 have H18:=laid h;have HR:=laid dz;have HS:=laid hs;have c0:w.cell? ⟨Rg,0,none⟩=some (i6 k):=by simp[asJ,h]
 have c1:w.cell? ⟨Rg,1,none⟩=some (i6 q):=by simp[asJ,h]
 have c2:w.cell? ⟨Rg,2,none⟩=some (i6 st):=by simp[asJ,h]
 obtain⟨Q,hQ⟩:∃Q:Exit->Act->World->Prop,Q=(fun e a' v'=>e=.normal/\a'.defers=[]/\(a'.tmps=Zg ref reads k q st wk Zh V Rx (ptr Rg) (fun n=>a'.tmps.getD n undef)/\a'.tmps.getD 53 undef=.bool (!sX k q st||!cY k L||decide (wk<1)||decide (8<wk)))/\∀g,g<w.heap.size->v'.heap[g]?=w.heap[g]?):=⟨_,rfl⟩;rw[<-hQ];have HQ:=laid hQ;clear hQ;unfold xK atF Zg;simp only[atb,cp];simp only[ptr];go_wp2_with fail
 refine(QP k q st _).mono ?_;rintro e w1 ⟨rfl,cn⟩;cases hm:sX k q st
 ·go_wp2
  rw[HQ.out];exact⟨rfl,rfl,⟨by kernel_rfl,by rw[hm];rfl⟩,fun g hg=>cn.block g hg⟩
 ·have h1:=(cn.block Rg (aO H18.out)).trans H18.out;have d0:w1.cell? ⟨Rg,0,none⟩=some (i6 k):=by simp[asJ,h1]
  have d1:w1.cell? ⟨Rg,1,none⟩=some (i6 q):=by simp[asJ,h1]
  have d2:w1.cell? ⟨Rg,2,none⟩=some (i6 st):=by simp[asJ,h1]
  clear h1;have KC:=laid (FW HR.out fun g hg=>cn.block g hg);go_wp2_with fail
  refine(yZ k q st L V B w1 KC.out hl HS.out).mono ?_;rintro e w2 ⟨rfl,di⟩;have HK:=laid fun g hg=>(di.block g (asS hg cn.size)).trans (cn.block g hg);cases hv:cY k L
  ·go_wp2
   rw[HQ.out];exact⟨rfl,rfl,⟨by kernel_rfl,by rw[hm,hv];rfl⟩,HK.out⟩
  ·by_cases hw:wk<1
   ·go_wp2
    rw[HQ.out];exact⟨rfl,rfl,⟨by kernel_rfl,by simp_all⟩,HK.out⟩
   ·go_wp2
    rw[HQ.out];exact⟨rfl,rfl,⟨by kernel_rfl,by simp_all⟩,HK.out⟩
end
theorem aen:(PR.info? 68).map (·.zero)=some (some (.agg #[.string ⟨#[]⟩,.string ⟨#[]⟩])):=by kernel_rfl
theorem aeo:(PR.info? 70).map (·.zero)=some (some (.agg #[i6 0,i6 0])):=by kernel_rfl
theorem aep:(PR.info? 75).map (·.zero)=some (some (.agg #[i6 0,i6 0,i6 0])):=by kernel_rfl
theorem aeq:(PR.info? 68).map (·.size)=some 2:=by kernel_rfl
theorem aer:(PR.info? 70).map (·.size)=some 2:=by kernel_rfl
theorem aes:(PR.info? 75).map (·.size)=some 3:=by kernel_rfl
theorem OZ{reads:ByteArray}(h:cK ref reads=0):QD ref=iL ref:=by
 have h1:=(MG h).2.2.1;unfold mB at h1;obtain⟨h2,_⟩:=eT h1;exact(abz ref h2).symm
theorem BH{reads:ByteArray}{k q st wk:Int}(h:cK ref reads≠0):lA ref reads k q st wk=cK ref reads:=by unfold lA;rw[if_pos h]
theorem BI{reads:ByteArray}{k q st wk:Int}(h:cK ref reads=0)(h2:fB k 30 q st=false\/wk<1\/8<wk):lA ref reads k q st wk=4:=by unfold lA;rw[if_neg (by rw[h];simp),if_pos h2]
theorem VV{reads:ByteArray}{k q st wk:Int}(h:cK ref reads=0)(h2:fewer (aj reads 5 0) k=false):lA ref reads k q st wk=4:=by
 unfold lA;rw[if_neg (by rw[h];simp)];split
 ·rfl
 ·first
   |rfl
   |rw[if_pos h2]
theorem Zi{reads:ByteArray}{k q st wk:Int}(h:cK ref reads=0)(h2:¬(fB k 30 q st=false\/wk<1\/8<wk))(h3:fewer (aj reads 5 0) k=true):lA ref reads k q st wk=0:=by
 unfold lA;rw[if_neg (by rw[h];simp),if_neg h2,if_neg (by rw[h3];simp)]
theorem JR{reads:ByteArray}{k q st wk:Int}(h:lA ref reads k q st wk≠0):qx ref reads k q st wk=⟨#[]⟩:=by unfold qx;rw[if_neg h]
theorem Zj{z:Nat}{v:Value}(h:w.ownsRow B e z v n xs):w.ownsRow 0 e z v n xs:=by
 refine⟨h.1,?_⟩;rcases h.2 with h'|⟨g,cap,cur,h1,h2,h3⟩
 ·exact .inl h'
 ·exact .inr ⟨g,cap,cur,h1,Nat.zero_le _,h3⟩
theorem akk:atF.body=some xK:=by kernel_rfl
theorem akl:ua PR (isAgg 35)=some false:=by kernel_rfl
section
variable{Q:QT}{v:World}{ref reads:ByteArray}{k q st wk:Int}
theorem akm(h1:ref.size<=maxLen)(h2:reads.size<=maxLen)(y9:mo v)(hT:cf v):
  dA Q 39 #[.string ref,.string reads,i6 k,i6 q,i6 st,i6 wk] v fun x v'=>x=.tuple #[.string (qx ref reads k q st wk),i6 (lA ref reads k q st wk),i6 (xy ref reads)]/\Kw v v':=by
 have aY:∃F,PR.funcs[39]?=some F:=⟨_,Tryz.func39⟩;obtain⟨L,hLd⟩:∃L,L=aj reads 5 0:=⟨_,rfl⟩;obtain⟨E,hE⟩:∃E,E=cK ref reads:=⟨_,rfl⟩;obtain⟨Pl,hPl⟩:∃Pl,Pl=ja ref reads:=⟨_,rfl⟩;refine dA.of (n:=59) Tryz.func39 akk (by kernel_rfl) ?_;refine GW.run 2 (k':=[.inRegion (opsOf (cp [1] xK)) [0,1,2],.code (cp [2] xK)]) ?_;refine GW.kz aY [0,1,2] ?_;refine GW.run 3 (k':=[.inRegion (opsOf (cp [2,1] xK)) [0,1,2,3,4,5,6,7,8,9,10,11],.code (cp [2,2] xK)]) ?_;refine GW.kz aY [0,1] ?_;refine GW.call aY (dA.cV (R:=fun x v'=>∃a b V,x=.tuple #[.agg #[.string a,.string b],V,.agg #[i6 E,i6 Pl]]/\Kw v v'/\(E=0->a=QD ref/\b=str (cD ref).2/\v'.ownsRow v.heap.size 131 3 V L.length (dv L))) (by decide) fun T=>(Fz ref reads (tp v T) h1 h2).mono fun e v' ⟨a,b,V,e1,e2,e3,e4⟩=>⟨_,by rw[e1,<-hE,<-hPl],a,b,V,rfl,fun g hg=>e3.block g hg,by rw[hE,hLd];exact e4⟩) ?_;rintro x v1 ⟨a,b,V,rfl,k1,ib⟩;refine GW.kz aY [3,4,5,6] ?_;refine GW.al aY aen fun v2 e2 k2 l2 c15=>?_;refine GW.al aY aeo fun v3 e3 k3 l3 c17=>?_;refine GW.st2 aY aeq (x:=.string a) (y:=.string b) (k3.at c15) fun v4 c15 o4 s4=>?_;refine GW.kz aY [10] ?_;refine GW.st2 aY aer (x:=i6 E) (y:=i6 Pl) ((o4 _ (by omega)).trans c17) fun v5 c17 o5 s5=>?_;have c15:=(o5 v1.heap.size (by omega)).trans c15;have K5:Kw v1 v5:=fun g hg=>by
  have:=k2.size;rw[o5 g (by omega),o4 g (by omega),k3 g (by omega),k2 g hg]
 have n17:v1.heap.size<=v2.heap.size:=k2.size;have s45:v3.heap.size=v5.heap.size:=by omega
 have l17:v2.heap.size<v5.heap.size:=by omega
 clear o4 o5 e2 e3;have K05:=k1.trans K5;refine GW.run 4 (k':=[.inRegion (opsOf (cp [2,2,1,1] xK)) [0,1,2],.code (cp [2,2,1,2] xK),.code (cp [2,2,2] xK)]) ?_;refine GW.kz aY [0] ?_;refine GW.ld aY (vt 0 akl c17 rfl) ?_;refine GW.kz aY [2] ?_;refine GW.run 1 (k':=[.code (.cond (.tmp 28) (cp [2,2,1,2,1] xK) .skip),.code (cp [2,2,2] xK)]) ?_;refine GW.cond aY (t:=!(decide (E=0))) trivial (by kernel_rfl) ?_;refine GW.any (fun u=>Zg ref reads k q st wk v1.heap.size V v2.heap.size (u 18) u) (by kernel_rfl) fun u=>?_;generalize v2.heap.size=Rx at *;generalize v1.heap.size=Zh at *;by_cases hE0:E=0
 ·rw[decide_eq_true hE0];obtain⟨ea,eb,dz⟩:=ib hE0;have Rh:cK ref reads=0:=by rw[<-hE];exact hE0
  have hP0:xy ref reads=0:=by unfold xy;rw[if_neg (by rw[Rh];simp)]
  have hLl:L.length<=5:=by rw[hLd];exact jX reads 5 0
  have hLs:∀r∈L,r.1.size<=10/\r.2.1.size<=30/\r.2.2.size<=30:=by rw[hLd];exact je reads 5 0
  have hfs:cY k L=fewer (aj reads 5 0) k:=by rw[hLd];rfl
  refine GW.run 3 (k':=[.inRegion (opsOf (cp [2,2,2,1] xK)) [0,1,2,3,4,5],.code (cp [2,2,2,2] xK)]) ?_;refine GW.kz aY [0,1,2,3] ?_;refine GW.al aY aep fun v6 e6 k6 l6 c18=>?_;refine GW.sn3 aY aes (x:=i6 k) (y:=i6 q) (z:=i6 st) c18 fun v7 c18 o7 s7=>?_;have K7:Kw v5 v7:=fun g hg=>(o7 g (by omega)).trans (k6 g hg);have c15:=K7.at c15;have K17:=K5.trans K7;have K07:=k1.trans K17;refine GW.run 3 (k':=[.code (cp [2,2,2,2,1,1] xK),.code (cp [2,2,2,2,1,2] xK),.code (cp [2,2,2,2,2] xK)]) ?_;refine GW.any (fun u=>Zg ref reads k q st wk Zh V Rx (ptr v5.heap.size) u) (by kernel_rfl) fun u=>?_;generalize v5.heap.size=Rg at *;refine GW.piece aY (by kernel_rfl) (R1:=fun a' v'=>(a'=Zg ref reads k q st wk Zh V Rx (ptr Rg) (fun n=>a'.getD n undef)/\a'.getD 53 undef=.bool (!sX k q st||!cY k L||decide (wk<1)||decide (8<wk)))/\Kw v7 v') rfl (fun T=>akj (w:=tp v7 T) c18 (FW dz K17) (by omega) fun r hr=>by have:=hLs r hr;omega) ?_;rintro a' v8 ⟨⟨ea',e53⟩,k8⟩;refine GW.run 0 (k':=[.code (.cond (.tmp 53) (cp [2,2,2,2,1,2,1] xK) .skip),.code (cp [2,2,2,2,2] xK)]) ?_;refine GW.cond aY trivial e53 ?_;refine GW.to _ ?_ ea';generalize(fun n=>a'.getD n undef)=u';clear ea' e53;cases hb:(!sX k q st||!cY k L||decide (wk<1)||decide (8<wk))with
  |true=>
   have h4:lA ref reads k q st wk=4:=by
    simp only[Bool.or_eq_true,Bool.not_eq_true',decide_eq_true_eq]at hb;rcases hb with((h|h)|h)|h
    ·exact BI Rh (.inl (by rw[D5,h];rfl))
    ·exact VV Rh (by rw[<-hfs];exact h)
    ·exact BI Rh (.inr (.inl h))
    ·exact BI Rh (.inr (.inr h))
   refine GW.run 2 (k':=[.inRegion (opsOf (cp [2,2,2,2,1,2,1,1] xK)) [0,1,2],.code .ret,.code (cp [2,2,2,2,2] xK)]) ?_;refine GW.kz aY [0,1,2] ?_;refine GW.run 1 (k':=[.code .ret,.code (cp [2,2,2,2,2] xK)]) ?_;refine GW.U_ aY 12 13 14 (fun t c cs=>by kernel_rfl) ⟨?_,K07.trans k8⟩;rw[JR (by rw[h4];decide),h4,hP0];kernel_rfl
  |false=>
   simp only[Bool.or_eq_false_iff,Bool.not_eq_false',decide_eq_false_iff_not]at hb;obtain⟨⟨⟨akp,qd⟩,Ku⟩,Fo⟩:=hb;have hm:=of_decide_eq_true akp;obtain⟨kn,rfl⟩:∃n:Nat,k=(n:Int):=⟨k.toNat,by omega⟩;obtain⟨qn,rfl⟩:∃n:Nat,q=(n:Int):=⟨q.toNat,by omega⟩;obtain⟨sn,rfl⟩:∃n:Nat,st=(n:Int):=⟨st.toNat,by omega⟩;obtain⟨wn,rfl⟩:∃n:Nat,wk=(n:Int):=⟨wk.toNat,by omega⟩;have CO:=Zj (FW dz (K17.trans k8));obtain⟨va',cp',rfl⟩:∃va' cp',V=.slice va' L.length cp':=by
    rcases CO.2 with⟨hy,h0⟩|⟨g',GG,cur,hv,_⟩
    ·exact⟨none,0,by rw[h0];exact hy⟩
    ·exact⟨_,_,hv⟩
   have yX:b.size<=200:=by rw[eb,au];exact Bh ref
   have DK:a.size<=1000:=by rw[ea,OZ Rh];have:=xA ref (aI ref 62 0);show(zJ ref (aI ref 62 0)).size<=1000;omega
   have sc:∀r∈L,(r.1.size<=10/\r.2.1.size<=30/\r.2.2.size<=30)/\kn<r.2.1.size:=fun r hr=>⟨hLs r hr,by
    have:=of_decide_eq_true (as5.1 qd r hr);omega⟩
   have hmE:lA ref reads kn qn sn wn=0:=Zi Rh (by
    rintro(h|h|h)
    ·rw[D5,akp]at h;have:decide ((kn:Int)<30)=true:=decide_eq_true (by omega);rw[this]at h;cases h
    ·omega
    ·omega) (by rw[<-hfs];exact qd)
   have hS:qx ref reads kn qn sn wn=str (dR a b kn L L.length):=by
    unfold qx xw;rw[if_pos hmE,ea,eb,OZ Rh,hLd];rfl
   refine GW.run 3 (k':=[.inRegion (opsOf (cp [2,2,2,2,2,1] xK)) [0,1,2,3,4,5,6,7],.code .ret]) ?_;refine GW.ld aY (OW (k8.at c15)) ?_;refine GW.kz aY [1] ?_;refine GW.ld aY (Jz (k8.at c18)) ?_;refine GW.kz aY [3] ?_;have K08:=K07.trans k8;refine GW.call aY (ael (q:=qn) (st:=sn) (n:=wn) yX DK (by omega) (by omega) (by omega) (by omega) (by omega) (by omega) (by omega) sc hLl (K08.tabs y9) (K08.vr y9 hT) CO) ?_;rintro x v9 ⟨rfl,k9⟩;refine GW.kz aY [5,6,7] ?_;refine GW.run 1 (k':=[.code .ret]) ?_;refine GW.U_ aY 12 13 14 (fun t c cs=>by kernel_rfl) ⟨?_,K08.trans k9⟩;rw[hS,hmE,hP0];kernel_rfl
 ·rw[decide_eq_false hE0];refine GW.run 1 (k':=[.code (cp [2,2,1,2,1,1] xK),.code .ret,.code (cp [2,2,2] xK)]) ?_;refine GW.piece aY (by kernel_rfl) (R1:=fun a' v'=>(a'.getD 12 undef=.string ⟨#[]⟩/\a'.getD 13 undef=i6 E/\a'.getD 14 undef=i6 Pl)/\v'.heap=v5.heap) rfl (fun T=>aki (w:=tp v5 T) c17) ?_;rintro a' v' ⟨⟨e1,e2,e3⟩,hh⟩;refine GW.U_ aY 12 13 14 (fun t c cs=>by kernel_rfl) ?_;have Rh:cK ref reads≠0:=by rw[<-hE];exact hE0
  rw[e1,e2,e3,JR (by rw[BH Rh];exact Rh),BH Rh,show xy ref reads=ja ref reads by unfold xy;rw[if_pos Rh],<-hE,<-hPl];exact⟨rfl,fun g hg=>by rw[hh];exact K05 g hg⟩
end
noncomputable def Wk:Code:=atG.body.getD .skip
noncomputable def py0:Code:=cp [2,1,2,1] Wk
noncomputable def py1:Code:=cp [2,2] py0
noncomputable def py2:Code:=cp [2,2] py1
noncomputable def py3:Code:=cp [2,2] py2
noncomputable def Zk:Code:=cp [2,1] py3
noncomputable def VX:List Item:=[.inBlock 0,.code (cp [2,2] Wk)]
def slY(b:Nat)(x15 x16 x17 x18 x19 x20:Value)(u:Nat->Value):Array Value:=
 #[u 0,ptr b,u 2,u 3,u 4,u 5,u 6,u 7,u 8,u 9,u 10,u 11,u 12,u 13,u 14,x15,x16,x17,x18,x19,x20,u 21,u 22,u 23,u 24,u 25,u 26,u 27,u 28,u 29,u 30,u 31,u 32,u 33,u 34,u 35,u 36,u 37,u 38,u 39,u 40,u 41,u 42,u 43,u 44,u 45,u 46,u 47,u 48,u 49,u 50,u 51,u 52,u 53,u 54,u 55,u 56,u 57,u 58,u 59,u 60,u 61,u 62,u 63,u 64,u 65,u 66,u 67,u 68,u 69,u 70,u 71,u 72,u 73,u 74,u 75,u 76,u 77,u 78,u 79,u 80,u 81,u 82,u 83,u 84,u 85,u 86,u 87,u 88,u 89,u 90,u 91,u 92,u 93,u 94,u 95,u 96,u 97,u 98,u 99,u 100,u 101,u 102,u 103,u 104,u 105,u 106,u 107,u 108,u 109,u 110,u 111,u 112,u 113,u 114,u 115,u 116,u 117,u 118,u 119,u 120,u 121,u 122,u 123,u 124,u 125,u 126,u 127,u 128,u 129,u 130,u 131,u 132,u 133,u 134,u 135,u 136,u 137,u 138,u 139,u 140,u 141,u 142,u 143,u 144,u 145,u 146,u 147,u 148,u 149,u 150,u 151,u 152,u 153,u 154,u 155,u 156,u 157,u 158,u 159,u 160,u 161]
abbrev opW(k q st wk:Int)(ref s:ByteArray):tq:=⟨4,k,q,st,wk,ref,s⟩
section
variable{b:Nat}{k q st wk E Pl:Int}{ref s S:ByteArray}{x15 x16 x17 x18 x19 x20:Value}{u:Nat->Value}
theorem aey(h:BU w b 0 (opW k q st wk ref s))(h1:ref.size<=maxLen)(h2:s.size<=maxLen):(cp [2,1] Zk).wp PR (fun e a' v'=>e=.normal/\a'.defers=[]/\(a'.tmps=slY b x15 x16 x17 (.string (qx ref s k q st wk)) (i6 (lA ref s k q st wk)) (i6 (xy ref s)) fun n=>a'.tmps.getD n undef)/\∀g,g<w.heap.size->v'.heap[g]?=w.heap[g]?) ⟨slY b x15 x16 x17 x18 x19 x20 u,[]⟩ w:=by
 obtain⟨c0,c1,c2,c3,c4,c5,c6⟩:=h;obtain⟨S,hS⟩:∃S,S=qx ref s k q st wk:=⟨_,rfl⟩;obtain⟨E,hE⟩:∃E,E=lA ref s k q st wk:=⟨_,rfl⟩;obtain⟨Pl,hPl⟩:∃Pl,Pl=xy ref s:=⟨_,rfl⟩;have HM:=laid fun w=>MM ref s k q st wk w h1 h2;rw[<-hS,<-hE,<-hPl];simp only[<-hS,<-hE,<-hPl]at HM;clear hS hE hPl h1 h2 c0;obtain⟨Q,hQ⟩:∃Q:Exit->Act->World->Prop,Q=(fun e a' v'=>e=.normal/\a'.defers=[]/\(a'.tmps=slY b x15 x16 x17 (.string S) (i6 E) (i6 Pl) fun n=>a'.tmps.getD n undef)/\∀g,g<w.heap.size->v'.heap[g]?=w.heap[g]?):=⟨_,rfl⟩;rw[<-hQ];have HQ:=laid hQ;unfold Zk py3 py2 py1 py0 Wk atG slY;simp only[atb,cp];simp only[ptr];go_wp2_with fail
 refine(HM.out _).mono ?_;rintro e w1 ⟨rfl,cn⟩;go_wp2
 rw[HQ.out];exact⟨rfl,rfl,by kernel_rfl,fun g hg=>cn.block g hg⟩
theorem aez:(cp [2,2,1] Zk).wp PR (fun e a' v'=>e=.normal/\a'.defers=[]/\a'.tmps.getD 2 undef=.bool true/\∀g,g<w.heap.size->v'.heap[g]?=w.heap[g]?) ⟨slY b (.string S) (i6 E) (i6 Pl) (.string S) (i6 E) (i6 Pl) u,[]⟩ w:=by
 obtain⟨Q,hQ⟩:∃Q:Exit->Act->World->Prop,Q=(fun e a' v'=>e=.normal/\a'.defers=[]/\a'.tmps.getD 2 undef=.bool true/\∀g,g<w.heap.size->v'.heap[g]?=w.heap[g]?):=⟨_,rfl⟩;rw[<-hQ];have HQ:=laid hQ;unfold Zk py3 py2 py1 py0 Wk atG slY;simp only[atb,cp];go_wp2_with fail
 refine(Wm E _).mono ?_;rintro e w1 ⟨rfl,rfl⟩;go_wp2
 rw[HQ.out];exact⟨rfl,rfl,by kernel_rfl,fun g hg=>rfl⟩
end
theorem akt:atG.body=some Wk:=by kernel_rfl
theorem aa7:ua PR (isAgg 9)=some false:=by kernel_rfl
section
variable{Q:QT}{R:Value->World->Prop}{v:World}{fn:FuncId}{k:List Item}{a:Array Value}
theorem GW.rtk(aY:∃F,PR.funcs[fn]?=some F)(d:Nat)(h:∀t c cs,bD PR 2 ((bf fn).at ⟨t,[]⟩ (.code .ret::k)) (c::cs)=(c.finish (t.getD d undef),cs))(hr:R (a.getD d undef) v):GW Q R fn (.code .ret::k) a v:=by
 intro r Z w t c cs hv hA kk;refine as4 2 fun w' hk=>?_;rw[h];exact kk r Z _ _ v w' (fun _ _ e=>e) (vq aY hv hA.gi (x:=.tmp d) trivial) (hA.quiet hk) (.qt hk) hr
end
theorem aeA{o:tq}{t:TypeId}(h:w.heap[B]?=some (.cells #[i6 o.kind,i6 o.k,i6 o.q,i6 o.step,i6 o.workers,.string o.ref,.string o.s] t)):BU w B 0 o:=by
 simp[BU,asJ,h]
section
variable{Q:QT}{v:World}{k q st wk:Int}{ref s:ByteArray}
theorem Zl(h1:ref.size<=maxLen)(h2:s.size<=maxLen)(y9:mo v)(hT:cf v):dA Q 38 #[(opW k q st wk ref s).val] v fun x v'=>x=.bool true/\Kw v v':=by
 have aY:∃F,PR.funcs[38]?=some F:=⟨_,Tryz.func38⟩;refine dA.of (n:=162) Tryz.func38 akt (by kernel_rfl) ?_;refine GW.run 2 (k':=[.inRegion (opsOf (cp [1] Wk)) [0,1],.code (cp [2] Wk)]) ?_;refine GW.bx aY (t:=59) (y:=(opW k q st wk ref s).val) fun v1 k1 l1 c1=>?_;replace c1:v1.heap[v.heap.size]?=some (.cells #[i6 4,i6 k,i6 q,i6 st,i6 wk,.string ref,.string s] 59):=c1;refine GW.kz aY [1] ?_;refine GW.run 4 (k':=[.inRegion (opsOf (cp [2,1,1] Wk)) [0,1],.code (cp [2,1,2] Wk),.code (cp [2,2] Wk)]) ?_;refine GW.kz aY [0] ?_;refine GW.ld aY (vt 0 IJ c1 rfl) ?_;refine GW.run 4 (k':=.inRegion (opsOf (cp [1] py0)) [0,1]:: .code (cp [2] py0)::VX) ?_;refine GW.kz aY [0,1] ?_;refine GW.run 1 (k':=.code (.cond (.tmp 23) (cp [2,1] py0) py1)::VX) ?_;refine GW.cond aY (t:=false) trivial (by kernel_rfl) ?_;refine GW.run 2 (k':=.inRegion (opsOf (cp [1] py1)) [0,1]:: .code (cp [2] py1)::VX) ?_;refine GW.kz aY [0,1] ?_;refine GW.run 1 (k':=.code (.cond (.tmp 50) (cp [2,1] py1) py2)::VX) ?_;refine GW.cond aY (t:=false) trivial (by kernel_rfl) ?_;refine GW.run 2 (k':=.inRegion (opsOf (cp [1] py2)) [0,1]:: .code (cp [2] py2)::VX) ?_;refine GW.kz aY [0,1] ?_;refine GW.run 1 (k':=.code (.cond (.tmp 73) (cp [2,1] py2) py3)::VX) ?_;refine GW.cond aY (t:=false) trivial (by kernel_rfl) ?_;refine GW.run 2 (k':=.inRegion (opsOf (cp [1] py3)) [0,1]:: .code (cp [2] py3)::VX) ?_;refine GW.kz aY [0,1] ?_;refine GW.run 1 (k':=.code (.cond (.tmp 112) (cp [2,1] py3) .skip)::VX) ?_;refine GW.cond aY (t:=true) trivial (by kernel_rfl) ?_;refine GW.run 2 (k':=.inRegion (opsOf (cp [1] Zk)) [0,1,2,3,4,5,6,7,8,9,10,11,12,13,14,15,16,17,18,19]:: .code (cp [2] Zk)::VX) ?_;refine GW.kz aY [0] ?_;refine GW.ld aY (vt 5 aa7 c1 rfl) ?_;refine GW.kz aY [2] ?_;refine GW.ld aY (vt 6 aa7 c1 rfl) ?_;refine GW.kz aY [4] ?_;refine GW.ld aY (vt 1 IJ c1 rfl) ?_;refine GW.kz aY [6] ?_;refine GW.ld aY (vt 2 IJ c1 rfl) ?_;refine GW.kz aY [8] ?_;refine GW.ld aY (vt 3 IJ c1 rfl) ?_;refine GW.kz aY [10] ?_;refine GW.ld aY (vt 4 IJ c1 rfl) ?_;refine GW.call aY (akm (k:=k) (q:=q) (st:=st) (wk:=wk) h1 h2 (k1.tabs y9) (k1.vr y9 hT)) ?_;rintro x v2 ⟨rfl,k2⟩;refine GW.kz aY [13,14,15,16,17,18,19] ?_;refine GW.run 2 (k':=.code (cp [2,1] Zk):: .code (cp [2,2] Zk)::VX) ?_;refine GW.any (fun u=>slY v.heap.size (.string (qx ref s k q st wk)) (i6 (lA ref s k q st wk)) (i6 (xy ref s)) (u 18) (u 19) (u 20) u) (by kernel_rfl) fun u=>?_;refine GW.piece aY (by kernel_rfl) (R1:=fun a' v'=>(a'=slY v.heap.size (.string (qx ref s k q st wk)) (i6 (lA ref s k q st wk)) (i6 (xy ref s)) (.string (qx ref s k q st wk)) (i6 (lA ref s k q st wk)) (i6 (xy ref s)) fun n=>a'.getD n undef)/\Kw v2 v') rfl (fun T=>aey (w:=tp v2 T) (aeA (k2.at c1)) h1 h2) ?_;rintro a' v3 ⟨e3,k3⟩;refine GW.run 1 (k':=.code (cp [2,2,1] Zk):: .code .ret::VX) ?_;refine GW.to _ ?_ e3;refine GW.piece aY (by kernel_rfl) (R1:=fun a' v'=>a'.getD 2 undef=.bool true/\Kw v3 v') rfl (fun T=>aez (w:=tp v3 T)) ?_;rintro a' v4 ⟨e4,k4⟩;refine GW.rtk aY 2 (fun t c cs=>by kernel_rfl) ?_;exact⟨e4,((k1.trans k2).trans k3).trans k4⟩
end
def VY(o:tq):Prop:=∀(Q:QT) (v:World),mo v->cf v->dA Q 38 #[o.val] v fun x v'=>x=.bool true/\Kw v v'
section
variable{Q:QT}{v0:World}{len cap:Nat}{lo hi:Int}{a:Option Addr}{os:Nat->tq}
theorem Nh{o:tq}(h5:o.ref.size<=maxLen)(h6:o.s.size<=maxLen)(hk:o.kind=4):VY o:=by
 intro Q v y9 hT;obtain⟨kd,k,q,st,wk,ref,s⟩:=o;simp only at hk;subst hk;exact Zl h5 h6 y9 hT
end
abbrev ii(n:Int):Value:=.int .i64 n
section
variable{P:Program}{Q:QT}{Z:Loc->Prop}{f:Frame}{l:List Frame}{w:World}
theorem aZ.ajP(m:Nat)(r:Frame×List Frame)(hr:bD P m f l=r){al:List (Nat×Value)}{call:Option (FuncId×Array Value)}{load:Option (TypeId×Value)}(h:look ks r=bh fn n l site al call load)(hk:al.map (·.1)=ks)
  (k:∀J w',cA Z w w'->(∀b,b<w.heap.size->w'.heap[b]?=w.heap[b]?)->ahead (zj fn n site (sA al) J)=call->jC (zj fn n site (sA al) J)=load->uo fn n site (sA al) (zj fn n site (sA al) J)->aZ P Q Z (zj fn n site (sA al) J) l w'):aZ P Q Z f l w:=by
 subst hr;refine as4 m fun w' hg=>?_;have hs:=cm h hk;have h1:=hs.call;have h2:=hs.load;have h3:=hs.fr;rw[hs.fr.eq]at h1 h2;rw[hs.fr.eq]at h3;rw[hs.callers,hs.fr.eq];exact k _ w' (atA hg) (fun b hb=>hg.kept b hb (fun y=>y)) h1 h2 h3
theorem aZ.BJ{al ex:List (Nat×Value)}{u:Nat}{a b:Code}{k:List Item}(t:Bool)(hf:uo fn n site (sA (al++ex)) f)(ht:site=.code (.cond (.tmp u) a b)::k)(hv:sA (al++ex) u=some (.bool t))
  (kk:∀J w',cA Z w w'->(∀a,a<w.heap.size->w'.heap[a]?=w.heap[a]?)->aZ P Q Z (zj fn n (.code (if t then a else b)::k) (sA al) J) l w'):aZ P Q Z f l w:=by
 refine aZ.still (fun w2=>oM hf.mode hf.round (by rw[hf.kind];nofun) (hf.todo.trans ht) (hf.slot u _ hv)) fun w' g h=>?_;have tY:uo fn n _ _ {f with todo:=.code (if t then a else b)::k}:=⟨hf.fn,rfl,hf.defers,hf.mode,hf.kind,hf.round,hf.size,fun i v e=>hf.slot i v (sM e)⟩;rw[tY.eq];exact kk _ w' g h
end
end Ph
namespace Ph
open Conc Ren
abbrev uJ(site:List Item)(al:List (Nat×Value))(J:Nat->Value):Frame:=zj 15 35 site (sA al) J
abbrev uU:Nat->Value:=fun _=>undef
def ub(sl:Value)(lo hi i:Int):List (Nat×Value):=[(0,sl),(1,ii lo),(2,ii hi),(7,ii i)]
abbrev zO:Value:=.agg #[ii 0,ii 0,ii 0,ii 0,ii 0,.string .empty,.string .empty]
noncomputable abbrev stS (site:List Item) (al:List (Nat×Value)) (v:Value):List Item:=(bu PR 60 ((uJ site al uU).finish v) []).1.todo
noncomputable abbrev goS (site:List Item) (al:List (Nat×Value)):List Item:=(bu PR 60 (uJ site al uU) []).1.todo
noncomputable def uK:List Item:=(bu PR 60 (asO PR 15 #[.slice none 0 0,ii 0,ii 0] .normal) []).1.todo
def thn:List Item->Code
 |.code (.cond _ a _)::_=>a
 |_=>.skip
def Ni:List Item->Code
 |.code (.cond _ _ b)::_=>b
 |_=>.skip
def zb:List (Nat×Value):=ub (.slice none 0 0) 0 0 0
noncomputable def uI:List Item:=goS (yes uK) zb
def ubI(m:List (Nat×Value))(sl:Value)(i:Int):List (Nat×Value):=m++[(16,sl),(17,ii i)]
noncomputable def uL:List Item:=stS uI (ubI zb (.slice none 0 0) 0) (ptr 0)
def ubL(m:List (Nat×Value))(p:Addr):List (Nat×Value):=m++[(18,.pointer (some p))]
noncomputable def uN:List Item:=stS uL (ubL zb ⟨0,0,none⟩) zO
def ubN(m:List (Nat×Value))(o:Value):List (Nat×Value):=m++[(19,o)]
noncomputable def uO:List Item:=stS uN (ubN zb zO) (ptr 0)
def ubO(m:List (Nat×Value))(o:Value)(b8:Nat):List (Nat×Value):=m++[(19,o),(8,ptr b8)]
noncomputable def uA:List Item:=stS uO (ubO zb zO 0) undef
def Nj(m:List (Nat×Value))(b8:Nat):List (Nat×Value):=m++[(8,ptr b8)]
def ubB(m:List (Nat×Value))(b8:Nat)(t:Bool):List (Nat×Value):=m++[(8,ptr b8),(23,.bool t)]
def ubD(m:List (Nat×Value))(b8:Nat)(t:Bool):List (Nat×Value):=m++[(8,ptr b8),(24,.bool t)]
noncomputable def uB:List Item:=(bD PR 2 ((uJ uA (Nj zb 0) uU).finish (ii 0)) []).1.todo
noncomputable def uC:List Item:=goS uB (ubB zb 0 false)
noncomputable def uD:List Item:=goS uB (ubB zb 0 true)
noncomputable def uF:List Item:=goS (yes uC) (Nj zb 0)
noncomputable def uG:List Item:=stS uF (Nj zb 0) zO
def ubG(m:List (Nat×Value))(o:Value):List (Nat×Value):=m++[(30,o)]
noncomputable def uH:List Item:=stS uG (ubG zb zO) (.bool true)
section
variable{lo hi i kd k q st wk:Int}{ref s:ByteArray}{a:Option Addr}{len cap b8:Nat}{p:Addr}{J:Nat->Value}{l:List Frame}{c:Frame}{t:Bool}{ov:Value}
abbrev us(a:Option Addr)(len cap:Nat)(lo hi i:Int):List (Nat×Value):=ub (.slice a len cap) lo hi i
theorem uta:look [0,1,2,7,13] (bu PR 60 (asO PR 15 #[.slice a len cap,ii lo,ii hi] .normal) l)=bh 15 35 l uK (us a len cap lo hi 0++[(13,.bool (decide ((0:Int)<(len:Int))))]) none none:=by kernel_rfl
theorem O0:uK=.code (.cond (.tmp 13) (thn uK) (Ni uK))::uK.tail:=by kernel_rfl
theorem ard:look [0,1,2,7,16,17] (bu PR 60 (uJ (.code (thn uK)::uK.tail) (us a len cap lo hi i) J) l)=bh 15 35 l uI (ubI (us a len cap lo hi i) (.slice a len cap) i) none none:=by kernel_rfl
theorem Zm:(opAt (uJ uI (ubI (us a len cap lo hi i) (.slice a len cap) i) J)).map (fun o=>o.op)=some (.indexAddr 22 (.tmp 16) (.tmp 17)):=by kernel_rfl
theorem arf:look [0,1,2,7,18] (bu PR 60 ((uJ uI (ubI (us a len cap lo hi i) (.slice a len cap) i) J).finish (.pointer (some p))) l)=bh 15 35 l uL (ubL (us a len cap lo hi i) p) none (some (59,.pointer (some p))):=by kernel_rfl
theorem arh:look [0,1,2,7,19] (bu PR 60 ((uJ uL (ubL (us a len cap lo hi i) p) J).finish ov) l)=bh 15 35 l uN (ubN (us a len cap lo hi i) ov) none none:=by kernel_rfl
theorem Zn:(opAt (uJ uN (ubN (us a len cap lo hi i) ov) J)).map (fun o=>o.op)=some (.alloc 59):=by kernel_rfl
theorem ari:look [0,1,2,7,19,8] (bu PR 60 ((uJ uN (ubN (us a len cap lo hi i) (.agg #[ii kd,ii k,ii q,ii st,ii wk,.string ref,.string s])) J).finish (ptr b8)) l)=bh 15 35 l uO (ubO (us a len cap lo hi i) (.agg #[ii kd,ii k,ii q,ii st,ii wk,.string ref,.string s]) b8) none none:=by kernel_rfl
theorem Zo:(opAt (uJ uO (ubO (us a len cap lo hi i) (.agg #[ii kd,ii k,ii q,ii st,ii wk,.string ref,.string s]) b8) J)).map (fun o=>o.op)=some (.store 59 (.tmp 8) (.tmp 19)):=by kernel_rfl
theorem arj:look [0,1,2,7,8] (bu PR 60 ((uJ uO (ubO (us a len cap lo hi i) (.agg #[ii kd,ii k,ii q,ii st,ii wk,.string ref,.string s]) b8) J).finish undef) l)=bh 15 35 l uA (Nj (us a len cap lo hi i) b8) none (some (3,Vy b8 0)):=by kernel_rfl
theorem ark:look [0,1,2,7,8,23] (bD PR 2 ((uJ uA (Nj (us a len cap lo hi i) b8) J).finish (ii kd)) l)=bh 15 35 l uB (ubB (us a len cap lo hi i) b8 (decide (lo<=kd))) none none:=by kernel_rfl
theorem arl:look [0,1,2,7,8,29] (bu PR 60 (uJ uB (ubB (us a len cap lo hi i) b8 false) J) l)=bh 15 35 l uC (Nj (us a len cap lo hi i) b8++[(29,.bool false)]) none none:=by kernel_rfl
theorem arn:look [0,1,2,7,8,24] (bu PR 60 (uJ uB (ubB (us a len cap lo hi i) b8 true) J) l)=bh 15 35 l uD (ubD (us a len cap lo hi i) b8 true) none (some (3,Vy b8 0)):=by kernel_rfl
theorem aro:look [0,1,2,7,8,29] (bu PR 60 ((uJ uD (ubD (us a len cap lo hi i) b8 true) J).finish (ii kd)) l)=bh 15 35 l uC (Nj (us a len cap lo hi i) b8++[(29,.bool (decide (kd<=hi)))]) none none:=by kernel_rfl
theorem aa8:uC=.code (.cond (.tmp 29) (thn uC) (Ni uC))::uC.tail:=by kernel_rfl
theorem arp:look [0,1,2,7,8] (bu PR 60 (uJ (.code (thn uC)::uC.tail) (Nj (us a len cap lo hi i) b8) J) l)=bh 15 35 l uF (Nj (us a len cap lo hi i) b8) none (some (59,ptr b8)):=by kernel_rfl
theorem arq:look [0,1,2,7,30] (bu PR 60 ((uJ uF (Nj (us a len cap lo hi i) b8) J).finish ov) l)=bh 15 35 l uG (ubG (us a len cap lo hi i) ov) (some (38,#[ov])) none:=by kernel_rfl
theorem Zp:bD PR 1 (uJ uG (ubG (us a len cap lo hi i) ov) J) l=(asO PR 38 #[ov] .normal,uJ uG (ubG (us a len cap lo hi i) ov) J::l):=by kernel_rfl
theorem art:look [0,1,2,7,33] (bu PR 60 ((uJ uG (ubG (us a len cap lo hi i) ov) J).finish (.bool true)) l)=bh 15 35 l uH ((us a len cap lo hi i)++[(33,.bool false)]) none none:=by kernel_rfl
theorem aky:uH=.code (.cond (.tmp 33) (thn uH) (Ni uH))::uH.tail:=by kernel_rfl
theorem aru:look [0,1,2,7,13] (bu PR 60 (uJ (.code (Ni uH)::uH.tail) (us a len cap lo hi i) J) l)=bh 15 35 l uK (ub (.slice a len cap) lo hi (asZ.wrap (i+1))++[(13,.bool (decide (asZ.wrap (i+1)<(len:Int))))]) none none:=by kernel_rfl
theorem akz:look [0,1,2,7,13] (bu PR 60 (uJ (.code (Ni uC)::uC.tail) (Nj (us a len cap lo hi i) b8) J) l)=bh 15 35 l uK (ub (.slice a len cap) lo hi (asZ.wrap (i+1))++[(13,.bool (decide (asZ.wrap (i+1)<(len:Int))))]) none none:=by kernel_rfl
theorem aeC:bD PR 7 (uJ (.code (Ni uK)::uK.tail) (us a len cap lo hi i) J) (c::l)=(c.finish (ii (-1)),l):=by kernel_rfl
end
end Ph
namespace Ph
open Conc Ren RowKit
theorem oh:(PR.funcs[15]?).any (·.norace)=false:=by kernel_rfl
theorem akA:PR.underlying 22=some (.slice (PR.elem 22)):=by kernel_rfl
theorem aeD:(PR.info? (PR.elem 22)).map (·.size)=some 7:=by kernel_rfl
theorem aeE:(PR.info? 59).map (·.size)=some 7:=by kernel_rfl
theorem aeF:(PR.info? 59).map (·.zero)=some (some (.agg #[ii 0,ii 0,ii 0,ii 0,ii 0,.string ⟨#[]⟩,.string ⟨#[]⟩])):=by kernel_rfl
def vv(o:tq):Prop:=∀(Qq:QT) (Z:Loc->Prop) (w:World) (c:Frame) (cs:List Frame),PR.globals.size<=w.heap.size->mo w->cf w->(∀g,g=0\/g=2\/g=3->lJ Z g)->
 (∀Z' w',(∀l,Z l->Z' l)->(∀l,Z' l->Z l\/∃a:Addr,l=.cell a/\w.heap.size<=a.block)->cA Z w w'->aZ PR Qq Z' (c.finish (.bool true)) cs w')->aZ PR Qq Z (asO PR 38 #[o.val] .normal) (c::cs) w
theorem Ri{o:tq}(h:VY o):vv o:=by
 intro Qq Z w c cs bY hT Nk hZ0 kk
 letI:=gv
 obtain⟨K,hK⟩:∃K:Nat->Prop,∀a,K a↔(a=0\/a=2\/a=3):=⟨_,fun _=>Iff.rfl⟩;have gi0:GI (su K):=fun g hg=>mP ((hK g).2 (by
  have:([0,2,3].contains g)=true:=hg;simpa using this))
 have fL:∀b,¬ak.ro b:=fun b h=>h;have hW0:W (su K) 0 w w:=S5 fL bY fun b hb=>by
  obtain⟨cc,t,fz,h,hp⟩:=hT b ((hK b).1 hb);exact⟨_,h,S6 _ _ fun x hx=>by obtain⟨k,n,rfl⟩:=hp x hx;exact .int _ _⟩
 refine h Qq w hT Nk (su K) Z w #[o.val] c cs ⟨rfl,fun i y y' e e'=>?_⟩ ⟨hW0,gi0,fun a y=>hZ0 a ((hK a).1 (zi.1 y))⟩ fun r' Z' x x' v' w' h1 h2 h3 h4 h5=>?_
 ·obtain rfl:=as6 (e.symm.trans e');have:=atq e;simp at this;subst this;exact oN (n:=3) (by simp[jl,atK])
 ·obtain⟨rfl,hk⟩:=h5;obtain rfl:=Jv (n:=1) (by rfl) h2;refine kk Z' w' h4.more h4.only ⟨fun a ha hz=>?_,h4.ke.grow,h4.ke.tape,h4.ke.env,h4.ke.output⟩;by_cases y:K a
  ·exact(h3.tabs (Kw.tabs hk hT) a ((hK a).1 y)).trans (hk a ha)
  ·exact h4.kept a ha (fun z=>y (zi.1 z)) hz
theorem JS{o:tq}{t:TypeId}(h:w.heap[B]?=some (.cells (JJ o) t)):BU w B 0 o:=by
 have c:∀j x,(JJ o)[j]?=some x->w.cell? ⟨B,j,none⟩=some x:=fun j x hx=>by rw[cell_of_row _ B j _ _ _ h];exact hx
 exact⟨c 0 _ rfl,c 1 _ rfl,c 2 _ rfl,c 3 _ rfl,c 4 _ rfl,c 5 _ rfl,c 6 _ rfl⟩
theorem akB(b a0:Nat):∀e∈(#[⟨.cell ⟨b,a0,none⟩,false,false⟩,⟨.cell ⟨b,a0+1,none⟩,false,false⟩,⟨.cell ⟨b,a0+2,none⟩,false,false⟩,⟨.cell ⟨b,a0+3,none⟩,false,false⟩,⟨.cell ⟨b,a0+4,none⟩,false,false⟩,⟨.cell ⟨b,a0+5,none⟩,false,false⟩,⟨.cell ⟨b,a0+6,none⟩,false,false⟩]:Array Event),∃a:Addr,e=⟨.cell a,false,false⟩/\a.block=b:=by
 intro e he;simp only[atH,List.mem_cons,atI,or_false]at he;rcases he with rfl|rfl|rfl|rfl|rfl|rfl|rfl<;>exact⟨_,rfl,rfl⟩
theorem arv(b:Nat):∀e∈(#[⟨.cell ⟨b,0,none⟩,true,false⟩,⟨.cell ⟨b,1,none⟩,true,false⟩,⟨.cell ⟨b,2,none⟩,true,false⟩,⟨.cell ⟨b,3,none⟩,true,false⟩,⟨.cell ⟨b,4,none⟩,true,false⟩,⟨.cell ⟨b,5,none⟩,true,false⟩,⟨.cell ⟨b,6,none⟩,true,false⟩]:Array Event),∃a:Addr,e.loc=.cell a/\e.sync=false/\a.block=b:=by
 intro e he;simp only[atH,List.mem_cons,atI,or_false]at he;rcases he with rfl|rfl|rfl|rfl|rfl|rfl|rfl<;>exact⟨_,rfl,rfl,rfl⟩
theorem Zq{i:Nat}(h:i+1<=maxLen):asZ.wrap ((i:Int)+1)=((i+1:Nat):Int):=by
 unfold maxLen at h;rw[Go.IntWalk.i64_in _ (by omega)];omega
section
variable{Qq:QT}{Z0:Loc->Prop}{w0:World}{c:Frame}{cs:List Frame}{lo hi:Int}{b off len cap:Nat}{os:Nat->tq}
theorem Rj(hlen:len<=maxLen)(tt:∀i,i<len->BU w0 b (off+i *7) (os i))(xD:∀i,i<len->lo<=(os i).kind->(os i).kind<=hi->vv (os i))(bY:PR.globals.size<=w0.heap.size)(hT:mo w0)(Nk:cf w0)(hZ0:∀g,g=0\/g=2\/g=3->lJ Z0 g)(ob:lJ Z0 b)(lb:b<w0.heap.size)
  (kk:∀Z' w',(∀l,Z0 l->Z' l)->(∀l,Z' l->Z0 l\/∃a:Addr,l=.cell a/\w0.heap.size<=a.block)->cA Z0 w0 w'->aZ PR Qq Z' (c.finish (ii (-1))) cs w'):
  ∀m i,i+m=len->∀Z f w,uo 15 35 uK (sA (us (some ⟨b,off,none⟩) len cap lo hi i++[(13,.bool (decide ((i:Int)<(len:Int))))])) f->(∀l,Z0 l->Z l)->(∀l,Z l->Z0 l\/∃a:Addr,l=.cell a/\w0.heap.size<=a.block)->cA Z0 w0 w->aZ PR Qq Z f (c::cs) w:=by
 have hgl:∀g,g=0\/g=2\/g=3->g<w0.heap.size:=fun g hg=>by
  obtain⟨_,_,_,h,_⟩:=hT g hg;exact aO h
 intro m;induction m with
 |zero=>
  intro i F0 Z f w hf more only G;obtain rfl:i=len:=by omega
  refine aZ.BJ (decide ((i:Int)<(i:Int))) hf O0 rfl fun J w1 g1 h1=>?_;rw[show decide ((i:Int)<(i:Int))=false from decide_eq_false (by omega)];refine as4 7 fun w2 k2=>?_;change aZ PR Qq Z (bD PR 7 (uJ (.code (Ni uK)::uK.tail) (us (some ⟨b,off,none⟩) i cap lo hi i) J) (c::cs)).1 (bD PR 7 (uJ (.code (Ni uK)::uK.tail) (us (some ⟨b,off,none⟩) i cap lo hi i) J) (c::cs)).2 w2;rw[aeC];exact kk Z w2 more only ⟨fun a ha hz=>((k2.kept a (by have:=G.grow;have:=g1.grow;omega) (fun y=>y)).trans (h1 a (asS ha G.grow))).trans (G.old a ha hz),asR G.grow (asR g1.grow k2.grow),k2.tape.trans (g1.tape.trans G.tape),k2.env.trans (g1.env.trans G.env),k2.output.trans (g1.output.trans G.output)⟩
 |succ m ih=>
  intro i eO Z f w hf more only G;have on:∀{wa wb:World},cA Z0 w0 wa->cA Z wa wb->cA Z0 w0 wb:=fun{wa wb} ga gb=>⟨fun a ha hz=>(gb.old a (asS ha ga.grow) (re only hz ha)).trans (ga.old a ha hz),asR ga.grow gb.grow,gb.tape.trans ga.tape,gb.env.trans ga.env,gb.output.trans ga.output⟩;have Kc:i<len:=by omega
  have obZ:lJ Z b:=re only ob lb;have hZZ:∀g,g=0\/g=2\/g=3->lJ Z g:=fun g hg=>re only (hZ0 g hg) (hgl g hg);refine aZ.BJ (decide ((i:Int)<(len:Int))) hf O0 rfl fun J w1 g1 _=>?_;rw[show decide ((i:Int)<(len:Int))=true from decide_eq_true (by omega)];change aZ PR Qq Z (uJ (.code (thn uK)::uK.tail) (us (some ⟨b,off,none⟩) len cap lo hi i) J) (c::cs) w1;have G1:=on G g1;have aeG:=tt i Kc;have hyi:=xD i Kc;generalize os i=op at aeG hyi;refine as3 60 _ rfl ard rfl fun J2 w2 g2 _ _ _ tY=>?_;refine aZ.still (fun w3=>VK Zm (tY.slot 16 _ rfl) (tY.slot 17 _ rfl) Kc akA aeD w3) fun w3 g3 _=>?_;refine as3 60 _ rfl arf rfl fun J4 w4 g4 _ _ ld4 _=>?_;have G4:=on (on (on G1 g2) g3) g4;obtain⟨o,ho⟩:∃o,w0.heap[b]?=some o:=by
   cases e:w0.heap[b]? with
   |none=>rw[Array.getElem?_eq_none_iff]at e;omega
   |some o=>exact⟨o,rfl⟩
  have ho4:w4.heap[b]?=some o:=(G4.old b lb ob).trans ho;have bg:∀w':World,w'.heap[b]?=some o->BU w' b (off+i *7) op:=fun w' Rs=>by
   have e:∀j,w'.cell? ⟨b,j,none⟩=w0.cell? ⟨b,j,none⟩:=fun j=>by simp only[asJ,Rs,ho]
   unfold BU at aeG⊢;simp only[e];exact aeG
  refine aZ.reads (f1:=(uJ uL (ubL (us (some ⟨b,off,none⟩) len cap lo hi i) ⟨b,off+i *7,none⟩) J4).finish op.val) ho4 (fun w' Rs=>OV ld4 (bg w' Rs) oh) (akB b _) obZ fun w5 g5=>?_;refine as3 60 _ rfl arh rfl fun J6 w6 g6 _ _ _ _=>?_;have G6:=on (on G4 g5) g6;obtain⟨kd,k,q,st,wk,ref,s⟩:=op;refine aZ.alloc (F:=fun B=>(uJ uN (ubN (us (some ⟨b,off,none⟩) len cap lo hi i) (.agg #[ii kd,ii k,ii q,ii st,ii wk,.string ref,.string s])) J6).finish (ptr B)) (o:=.cells #[ii 0,ii 0,ii 0,ii 0,ii 0,.string ⟨#[]⟩,.string ⟨#[]⟩] 59) (fun w'=>A3 Zn aeF rfl w') fun b8 w7 n8 u8 h8 o8 g7=>?_;refine as3 60 _ rfl ari rfl fun J8 w8 g8 _ _ _ hf8=>?_;refine aZ.lays (f1:=(uJ uO (ubO (us (some ⟨b,off,none⟩) len cap lo hi i) (.agg #[ii kd,ii k,ii q,ii st,ii wk,.string ref,.string s]) b8) J8).finish undef) (o':=.cells (JJ ⟨kd,k,q,st,wk,ref,s⟩) 59) (E:=Q7 b8 ⟨kd,k,q,st,wk,ref,s⟩) (g8.at h8 o8) (fun w' hc=>Y6 Zo (hf8.slot 8 _ rfl) (hf8.slot 19 _ rfl) hc oh aeE) (fun w' hc=>aq2 w' hc) (arv b8) o8 fun w9 h9 akC hs9 t1 t2 t3=>?_;have G78:=g7.trans g8;have G9:cA Z0 w0 w9:=on G6 ⟨fun a ha hz=>(akC a (asS ha G78.grow) (by omega)).trans (G78.old a ha hz),asR G78.grow hs9,t1.trans G78.tape,t2.trans G78.env,t3.trans G78.output⟩;have kc:∀w':World,w'.heap[b8]?=some (.cells (JJ ⟨kd,k,q,st,wk,ref,s⟩) 59)->w'.cell? ⟨b8,0,none⟩=some (ii kd):=fun w' Rs=>(JS Rs).1;refine as3 60 _ rfl arj rfl fun JA wA gA _ _ ldA _=>?_;refine aZ.read (a:=⟨b8,0,none⟩) (fun w' hc=>ez ldA IJ hc oh) (kc _ (gA.at h9 o8)) o8 fun wB gB=>?_;refine aZ.ajP 2 _ rfl ark rfl fun JC wC gC _ _ _ _=>?_;have gAC:=(gA.trans gB).trans gC;have NL:∀(Z':Loc->Prop) (f':Frame) (w':World),uo 15 35 uK (sA (ub (.slice (some ⟨b,off,none⟩) len cap) lo hi (asZ.wrap ((i:Int)+1))++[(13,.bool (decide (asZ.wrap ((i:Int)+1)<(len:Int))))])) f'->(∀l,Z0 l->Z' l)->(∀l,Z' l->Z0 l\/∃a:Addr,l=.cell a/\w0.heap.size<=a.block)->cA Z0 w0 w'->aZ PR Qq Z' f' (c::cs) w':=fun Z' f' w' hf' m' o' G'=>by
   rw[Zq (by omega)]at hf';exact ih (i+1) (by omega) Z' f' w' hf' m' o' G'
  by_cases h1:lo<=kd
  ·rw[show decide (lo<=kd)=true from decide_eq_true h1];refine as3 60 _ rfl arn rfl fun JD wD gD _ _ ldD _=>?_;have gAD:=gAC.trans gD;refine aZ.read (a:=⟨b8,0,none⟩) (fun w' hc=>ez ldD IJ hc oh) (kc _ (gAD.at h9 o8)) o8 fun wE gE=>?_;refine as3 60 _ rfl aro rfl fun JF wF gF _ _ _ hfF=>?_;have gAF:=(gAD.trans gE).trans gF;refine aZ.BJ (decide (kd<=hi)) hfF aa8 rfl fun JG wG gG _=>?_;have gAG:=gAF.trans gG;by_cases h2:kd<=hi
   ·rw[show decide (kd<=hi)=true from decide_eq_true h2];change aZ PR Qq Z (uJ (.code (thn uC)::uC.tail) (Nj (us (some ⟨b,off,none⟩) len cap lo hi i) b8) JG) (c::cs) wG;refine as3 60 _ rfl arp rfl fun JH wH gH _ _ ldH _=>?_;have gAH:=gAG.trans gH;refine aZ.reads (f1:=(uJ uF (Nj (us (some ⟨b,off,none⟩) len cap lo hi i) b8) JH).finish (atK ⟨kd,k,q,st,wk,ref,s⟩)) (gAH.at h9 o8) (fun w' Rs=>OV ldH (JS Rs) oh) (akB b8 0) o8 fun wI gI=>?_;refine as3 60 _ rfl arq rfl fun JK wK gK _ _ _ _=>?_;refine as4 1 fun wL kL=>?_;rw[Zp];have GL:=on G9 (((gAH.trans gI).trans gK).trans (atA kL));have tbL:∀g,g=0\/g=2\/g=3->wL.heap[g]?=w0.heap[g]?:=fun g hg=>GL.old g (hgl g hg) (hZ0 g hg);refine hyi h1 h2 Qq Z wL _ _ (asR bY GL.grow) (hT.same tbL) (mz Nk (tbL 0 (.inl rfl))) hZZ fun Z' wM kK iI gM=>?_;have aa9:∀l,Z' l->Z0 l\/∃a:Addr,l=.cell a/\w0.heap.size<=a.block:=fun l hl=>(iI l hl).elim (only l) fun⟨ad,e,h⟩=>.inr ⟨ad,e,asR GL.grow h⟩;have GM:=on GL gM;have on':∀{wa wb:World},cA Z0 w0 wa->cA Z' wa wb->cA Z0 w0 wb:=fun{wa wb} ga gb=>⟨fun a ha hz=>(gb.old a (asS ha ga.grow) (re aa9 hz ha)).trans (ga.old a ha hz),asR ga.grow gb.grow,gb.tape.trans ga.tape,gb.env.trans ga.env,gb.output.trans ga.output⟩;refine as3 60 _ rfl art rfl fun JN wN gN _ _ _ hfN=>?_;refine aZ.BJ false hfN aky rfl fun JO wO gO _=>?_;change aZ PR Qq Z' (uJ (.code (Ni uH)::uH.tail) (us (some ⟨b,off,none⟩) len cap lo hi i) JO) (c::cs) wO;refine as3 60 _ rfl aru rfl fun JP wP gP _ _ _ hfP=>?_;exact NL Z' _ wP hfP (fun l h=>kK l (more l h)) aa9 (on' (on' (on' GM gN) gO) gP)
   ·rw[show decide (kd<=hi)=false from decide_eq_false h2];change aZ PR Qq Z (uJ (.code (Ni uC)::uC.tail) (Nj (us (some ⟨b,off,none⟩) len cap lo hi i) b8) JG) (c::cs) wG;refine as3 60 _ rfl akz rfl fun JH wH gH _ _ _ hfH=>?_;exact NL Z _ wH hfH more only (on G9 (gAG.trans gH))
  ·rw[show decide (lo<=kd)=false from decide_eq_false h1];refine as3 60 _ rfl arl rfl fun JD wD gD _ _ _ hfD=>?_;refine aZ.BJ false hfD aa8 rfl fun JG wG gG _=>?_;change aZ PR Qq Z (uJ (.code (Ni uC)::uC.tail) (Nj (us (some ⟨b,off,none⟩) len cap lo hi i) b8) JG) (c::cs) wG;refine as3 60 _ rfl akz rfl fun JH wH gH _ _ _ hfH=>?_;exact NL Z _ wH hfH more only (on G9 (((gAC.trans gD).trans gG).trans gH))
theorem Zr{a:Option Addr}(h:Gi w0 a len cap os)(xD:∀o:tq,o.ref.size<=maxLen->o.s.size<=maxLen->lo<=o.kind->o.kind<=hi->vv o)(bY:PR.globals.size<=w0.heap.size)(hT:mo w0)(Nk:cf w0)(hZ0:∀g,g=0\/g=2\/g=3->lJ Z0 g)(ob:∀b,b<w0.heap.size->lJ Z0 b)
  (kk:∀Z' w',(∀l,Z0 l->Z' l)->(∀l,Z' l->Z0 l\/∃a:Addr,l=.cell a/\w0.heap.size<=a.block)->cA Z0 w0 w'->aZ PR Qq Z' (c.finish (ii (-1))) cs w'):
  aZ PR Qq Z0 (asO PR 15 #[.slice a len cap,ii lo,ii hi] .normal) (c::cs) w0:=by
 rcases h with rfl|⟨b,off,rfl,hl,tt,mK⟩
 ·refine as3 60 _ rfl uta rfl fun J w1 g1 h1 _ _ hf=>?_;refine aZ.BJ (decide ((0:Int)<((0:Nat):Int))) hf O0 rfl fun J w2 g2 h2=>?_;rw[show decide ((0:Int)<((0:Nat):Int))=false from rfl];refine as4 7 fun w3 k3=>?_;change aZ PR Qq Z0 (bD PR 7 (uJ (.code (Ni uK)::uK.tail) (us a 0 cap lo hi 0) J) (c::cs)).1 (bD PR 7 (uJ (.code (Ni uK)::uK.tail) (us a 0 cap lo hi 0) J) (c::cs)).2 w3;rw[aeC];exact kk Z0 w3 (fun _ h=>h) (fun _ h=>.inl h) ((g1.trans g2).trans (atA k3))
 ·by_cases h0:len=0
  ·subst h0;refine as3 60 _ rfl uta rfl fun J w1 g1 h1 _ _ hf=>?_;refine aZ.BJ (decide ((0:Int)<((0:Nat):Int))) hf O0 rfl fun J w2 g2 h2=>?_;rw[show decide ((0:Int)<((0:Nat):Int))=false from rfl];refine as4 7 fun w3 k3=>?_;change aZ PR Qq Z0 (bD PR 7 (uJ (.code (Ni uK)::uK.tail) (us (some ⟨b,off,none⟩) 0 cap lo hi 0) J) (c::cs)).1 (bD PR 7 (uJ (.code (Ni uK)::uK.tail) (us (some ⟨b,off,none⟩) 0 cap lo hi 0) J) (c::cs)).2 w3;rw[aeC];exact kk Z0 w3 (fun _ h=>h) (fun _ h=>.inl h) ((g1.trans g2).trans (atA k3))
  ·have lb:b<w0.heap.size:=by
    have:=block_lt_of_cell (tt 0 (by omega)).1;simpa using this
   refine as3 60 _ rfl uta rfl fun J w1 g1 h1 _ _ hf=>?_;exact Rj hl tt (fun i ry h1 h2=>xD _ (mK i ry).1 (mK i ry).2 h1 h2) bY hT Nk hZ0 (ob b lb) lb kk len 0 (by omega) Z0 _ w1 hf (fun _ h=>h) (fun _ h=>.inl h) g1
end
end Ph
namespace Ph
open Conc ConcM Ren RowKit
theorem xL{W:World}{n:String}{k:IntKind}{zs:List Int}{g m:Nat}{t:TypeId}(h:Lib.VarReads PR W n (ato k zs))(hg:atv PR n=some g)(ht:((PR).globals[g]?).map (·.type)=some t)(hu:PR.underlying t=some (.array m e))(he:PR.underlying e=some (.int k))(hce:PR.cellsOf e=1)(hct:PR.cellsOf t=m):
  ∃(c:Array Value) (t':TypeId) (fz:Nat×Nat),W.heap[g]?=some (.cells c t' fz)/\∀x∈c,∃k n,x=atO k n:=by
 obtain⟨g',t1,cs,fuel,p,h1,h2,h3,h4⟩:=h;obtain rfl:=as6 (hg.symm.trans h1);obtain rfl:=as6 (ht.symm.trans h2);have Rm:=Lib.cells_of_tab hu he hce hct h4;unfold World.var? at h3;rw[hg]at h3;simp at h3;split at h3
 ·rename_i c t' fz hh;cases h3;refine⟨_,t',fz,hh,fun x hx=>?_⟩;have oj:x∈cs.toList:=by simpa using hx
  rw[Rm]at oj;obtain⟨z,_,rfl⟩:=atz.1 oj;simp_all
 ·cases h3
def akD:DataW Unit->List Int
 |.agg l=>l.map fun|.lit (.int _ z)=>z|_=>0
 |_=>[]
theorem FY{W:World}(h:laidMetH asN xQ W):mo W:=by
 have e:xQ=[("math/bits.deBruijn32tab",(ato .u8 (akD Rows.laid_math_bits_deBruijn32tab))),("math/bits.deBruijn64tab",(ato .u8 (akD Rows.laid_math_bits_deBruijn64tab))),("internal/strconv.uint64pow10",(ato .u64 Lib.pow10Tab))]:=by kernel_rfl
 rw[e]at h;have r0:=xL (atf h (.tail _ (.tail _ (.head _)))) (g:=0) (by kernel_rfl) (by kernel_rfl) Tryz.underlying202 Tryz.underlying176 (by kernel_rfl) (by kernel_rfl);have r1:=xL (atf h (.head _)) (g:=2) (by kernel_rfl) (by kernel_rfl) Tryz.underlying245 atJ (by kernel_rfl) (by kernel_rfl);have r2:=xL (atf h (.tail _ (.head _))) (g:=3) (by kernel_rfl) (by kernel_rfl) Tryz.underlying246 atJ (by kernel_rfl) (by kernel_rfl);intro g hg;rcases hg with rfl|rfl|rfl
 ·omega
 ·omega
 ·omega
theorem JU:PR.globals.size<=4:=of_decide_eq_true (by simp)
theorem JV{W:World}(h:mo W):PR.globals.size<=W.heap.size:=by
 obtain⟨_,_,_,h3,_⟩:=h 3 (.inr (.inr rfl));have:=aO h3;have:=JU;omega
theorem td{H:Type}{enc:TypeId×Value->H}{a:Assume}{C:Checked}{os:Os}{f:FuncId}{fn:Func}{s:ChangeSpec}{F:Stop.Interp}{conds:List _}{apart fresh handsOn:Bool}{X:World->Array _->Prop}
  (hX:∀w w' args,w.heap=w'.heap->X w args->X w' args)
  (own:ownKnob C.prog.godebug=none)(started:os.Started)(aY:C.prog.funcs[f]?=some fn)
  (witness:∃(w:World) (tape:Tape) (i:Input),w.os=os/\(w.forCall tape i).Shaped C.prog/\i.vars=[]/\Input.okWide C.prog (w.forCall tape i) .any w.heap.size f i/\
   ((s.pre enc C.prog fn conds apart (w.forCall tape i).memory i.args/\X (w.forCall tape i).memory i.args)/\sizedMet enc C.prog fn (atg s) apart (w.forCall tape i).memory i.args)/\a.holds C.prog (lone (asO C.prog f i.args .normal) [] (w.forCall tape i)))
  (runs:∀W base args ds gs before,
   (∀(j:Nat) t v,fn.params[j]?=some t->args[j]?=some v->Value.okWide C.prog W .any base t v)->
   DataW.Whole enc C.prog fn.params.toList s.vars apart W args.toList ds gs before->
   conds.all (PathCond.test C.prog ⟨fn.params.toList,ds,s.plain.varTypes C.prog,gs⟩)=true->X W args->
   ∃M last o w' t',runNT C.prog (M+1) (solo (G (asO C.prog f args .normal) []) W) #[]=(.ended o w',t')/\runN C.prog M (solo (G (asO C.prog f args .normal) []) W)=.next last/\
    step C.prog last=.ended o w'/\Conc.Good C.prog (fun v W'=>s.post enc C.prog fn apart fresh handsOn false W args v {W' with os:=W.os}/\OsLater W.os W'.os) last o w' t'):
  ReturnsInLeavingWide a C os f .any (fun w args=>(s.pre enc C.prog fn conds apart w args/\X w args)/\sizedMet enc C.prog fn (atg s) apart w args) ((atg s).postWith enc C.prog fn F (outsideKept [.timePasses]) apart fresh handsOn):=by
 refine returnsInLeavingWide_of_good own started witness ?_;intro w tape i _ _ _ ib nC ary;obtain⟨_,_,_,mN,agl,_,_,_,_,Zs⟩:=ib;have e:=as6 (agl.symm.trans aY);subst e;obtain⟨⟨⟨ds,gs,before,hw,hc⟩,hx⟩,hz⟩:=nC;have Rs:=DataW.Whole.of_heap (w':=w.forCall tape i) (by rfl) hw;obtain⟨M,last,o,w',t',h1,h2,h3,h4⟩:=runs _ _ _ ds gs _ Zs Rs hc (hX _ _ _ (by rfl) hx);obtain⟨v,e,hp,r1,r2,r3,r4⟩:=h4;exact⟨M,last,o,w',t',h1,h2,h3,v,e,postWith_blind (postWith_of_post hp.1 hp.2),r1,r2,r3,r4⟩
theorem CB{W W':World}(h:cA (fun _=>False) W W'):Below W.heap.size W {W'.at d with os:=W.os}/\OsLater W.os (W'.at d).os:=
 ⟨⟨rfl,h.tape,h.output,h.grow,fun k hk=>h.old k hk (fun _ _ y=>y)⟩,h.env⟩
noncomputable def akE:=(bu PR 60 (asO PR 6 #[.slice none 0 0] .normal) []).1.todo
section
variable{a:Option Addr}{len cap:Nat}
noncomputable abbrev JW (sl:Value):=zj 6 6 akE (sA [(0,sl),(2,.bool false),(3,sl)]) fun _=>undef
theorem aeH:bu PR 60 (asO PR 6 #[.slice a len cap] .normal) []=(JW (.slice a len cap),[]):=by kernel_rfl
theorem Zt:bD PR 1 (JW (.slice a len cap)) []=(asO PR 15 #[.slice a len cap,ii 4,ii 4] .normal,[JW (.slice a len cap)]):=by kernel_rfl
theorem VZ:(bD PR 60 ((JW (.slice a len cap)).finish (ii (-1))) []).2=[]:=by kernel_rfl
theorem V0(w:World):stepG PR true (G (bD PR 60 ((JW (.slice a len cap)).finish (ii (-1))) []).1 []) w=.ended (.done (.bool true)) w #[]:=by kernel_rfl
theorem Zu{os:Nat->tq}{W:World}{Ln:Value->World->Prop}(h:Gi W a len cap os)(xD:∀o:tq,o.ref.size<=maxLen->o.s.size<=maxLen->4<=o.kind->o.kind<=4->vv o)(hT:mo W)(Nk:cf W)
  (hp:∀W' d,cA (fun _=>False) W W'->Ln (.bool true) (W'.at d)):
  aZ PR (Ren.Ends PR Ln) (fun _=>False) (asO PR 6 #[.slice a len cap] .normal) [] W:=by
 have bY:=JV hT;have hgl:∀g,g=0\/g=2\/g=3->g<W.heap.size:=fun g hg=>by
  obtain⟨_,_,_,h,_⟩:=hT g hg;exact aO h
 refine aZ.aqR 60 _ aeH fun w1 g1 h1=>?_;refine as4 1 fun w2 k2=>?_;rw[Zt];have G2:=g1.trans (atA k2);have hk:=fun b hb=>G2.old b hb (fun _ _ y=>y);have tb:=fun g hg=>hk g (hgl g hg);have h2:Gi w2 a len cap os:=by
  rcases h with h|⟨b,off,ha,hl,tt,mK⟩
  ·exact .inl h
  ·refine .inr ⟨b,off,ha,hl,fun i hi=>?_,mK⟩;have h0:=tt i hi;have hb:=by
    have:=block_lt_of_cell h0.1;simpa using this
   have e:∀j,w2.cell? ⟨b,j,none⟩=W.cell? ⟨b,j,none⟩:=fun j=>by simp only[asJ,hk b hb]
   unfold BU at h0⊢;simp_all
 refine Zr h2 xD (asR bY G2.grow) (hT.same tb) (mz Nk (tb 0 (.inl rfl))) (fun _ _ _ _ y=>y) (fun _ _ _ _ y=>y) fun Z' w3 kK iI g3=>?_;refine as4 60 fun w4 k4=>?_;rw[VZ];refine aZ.done fun w5 ⟨d,hd⟩=>⟨rfl,_,_,V0 w5,(fun e he=>by simp_all),?_⟩;subst hd;refine hp w4 d ((G2.trans g3).trans (atA k4))
end
end Ph
end Go.Proofs.YtdcjnhipenbcfaaGreatDoor
