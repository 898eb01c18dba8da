/-
  Own text. Part 3 of what the claim rests on.
-/
import Derived.Conc.Own
import Derived.Conc.LoneCalls
import Derived.Conc.Beside
import Derived.Orders
import Derived.Conc.WrSpec
import Derived.Conc.AtomicLaws2
import Derived.Conc.ClockLaws
import Derived.Conc.MarkLaws
import Derived.Conc.SmallLaws
import Derived.Conc.TokenWalk
import Derived.Laws.LoneSync
import Derived.Conc.Own2
import Derived.Test.YtdcjnhipenbcfaaGreatDoorPk2
set_option linter.unusedVariables false
set_option linter.unusedSectionVars false
set_option linter.unusedSimpArgs false
set_option maxRecDepth 100000
set_option maxHeartbeats 16000000
open Array renaming getElem?_setIfInBounds_ne->agy,mem_of_getElem?->agG,getElem?_map->ahh,getElem?_eq_some_iff->ahH,mapM_eq_mapM_toList->ahW,getElem?_eq_getElem->ahY,mem_map->aiF,foldl_toList->aiU,mem_append->ajv
open Classical renaming byContradiction->agq,choose->agK,choose_spec->aiw
open Go.Act renaming put->ai9
open Go.Builtin renaming unsafeString_->agB,min2->ah2,unsafeSliceData_->ah4,min_->aiJ,cap_->aiT
open Go.Conv renaming unsafePointer->ahd,bytesToString->aiI
open Go.Deferred renaming ofValue->agw
open Go.Extern renaming findNext->aic,find->ajb
open Go.Extern.AbiNoEscape renaming same->ah5
open Go.Extern.Atomic renaming casT->ai4
open Go.Extern.BytealgIndexByte renaming indexByte->ahl
open Go.Extern.BytealgMakeNoZero renaming makeNoZero->agp,digits->ahp
open Go.Extern.Bytes renaming loadBytes->aij,bytesOf->aiC,asByte->aiG
open Go.Extern.Race renaming marked->ahB,none_->ahP,at_->ajG
open Go.Extern.Sync renaming semacquire->agz,count->ahk,semrelease->ahm,canSpin->aiH,none_->ai_
open Go.Frame renaming enter->ags,finish->agH,raise->agM,finish_at->ahq,eval->aiD
open Go.GStep renaming after->agh
open Go.Instr renaming endRound->af7,enterLoop->agi,endLoop->ahC,getLoop->aiE,takeDeferred->aiY,beginRound->aju
open Go.Machine.mk renaming injEq->ajw
open Go.MemAct renaming ofEvent->agt,touch?->ahG
open Go.MemOp renaming ofEvents->ahj
open Go.Op renaming intArith->ajn
open Go.Proofs.YtdcjnhipenbcfaaGreatDoor.Ren.SR renaming bind->af3
open Go.Region renaming ready->agx,wanted->ahN
open Go.Region.linearise renaming go->agO
open Go.Sem renaming runT->age,run->ai8,runT_eq->ajh
open Go.Stepped.next renaming injEq->ai2
open Go.stepG renaming exec->agf,apply->agj
open List renaming forIn_cons->ajC
open Nat renaming lt_of_lt_of_le->af5,le_refl->agb,le_trans->agn,add_sub_cancel_left->ah7,exists_eq_add_of_le->aia,eq_zero_or_pos->ai3
open Option renaming map_some->aid,map_eq_some_iff->ain,getD_some->ajx
open Option.some renaming inj->af4
namespace Go.Proofs.YtdcjnhipenbcfaaGreatDoor
variable {a a' ad:Addr}{bz rd:Bool}{d':Deferred}{e:Event}{b f f' f0 f1 fr g1:Frame}{cL cs l l':List Frame}{k' kr:List Item}{Z:Loc->Prop}{b' c n u:Nat}{K S S1 SF X X1 XF:Nat->Prop}{o':Obj}{o:Option Nat}{o2:Option Obj}{P:Program}{pos:String}{dst s src t:TypeId}{v' x x' y y':Value}{u1 v0 v1 w:World}
namespace Ren
section
variable[ak]{P:Program}{r:Rn}{α:Type}{A:Rn->α->α->Prop}
theorem G7{β:Type}(f f':Value->β->Sem _):∀{xs ys:List _} b {r:Rn},(∀t x x' b,Le r t->V t x x'->SR P iO t (f x b) (f' x' b))->VL r xs ys->SR P iO r (forIn xs b f) (forIn ys b f')
 |_,_,b,r,h,.nil=>.pure rfl
 |_,_,b,r,h,.cons hx rest=>by
  rw[ajC,ajC];refine af3 (h r _ _ b (.refl _) hx) ?_;rintro t1 x _ l1 rfl;cases x with
  |done b=>exact .pure rfl
  |yield b=>exact G7 f f' b (fun t x x' b l=>h t x x' b (l1.trans l)) (VL.mono l1 rest)
theorem vU(hx:V r x x'):SR P V r (aiI x) (aiI x'):=by
 cases hx with
 |bt l c=>exact .pure (.string _)
 |slice l c ha=>
  refine af3 (oE l ha) ?_;intro t1 cs cL l1 hc;simp[<-Array.forIn_toList];refine af3 (G7 _ _ _ ?_ hc.toList) ?_
  ·intro t x x' b l hx;cases hx with
   |int k n=>cases k<;>first|exact .pure rfl|exact ae _
   |_=>exact ae _
  ·rintro t2 s _ l2 rfl;exact .pure (.string _)
 |_=>exact ae _
theorem K9{b:Nat}(h:r b=some b'):SR P iO r (cellsIn b) (cellsIn b'):=by
 refine af3 (eg h) ?_;rintro t1 x _ l1 rfl;split
 ·exact .pure rfl
 ·refine af3 (cJ (l1 _ _ h)) ?_;intro t2 o o' l2 ho;cases ho<;>exact .pure rfl
theorem p_(h:Ad r a a')(u:TypeId)(n:Nat):SR P iO r (variablesAt a u n) (variablesAt a' u n):=by
 refine af3 bC ?_;rintro t1 p q l1 ⟨hp,hq⟩;rw[hp,hq];refine af3 (eg (l1 _ _ h.block)) ?_;rintro t2 x _ l2 rfl;rw[h.off];split<;>exact .pure rfl
theorem C7(h:Ad r a a'):SR P Ad r (Conv.seenAt a) (Conv.seenAt a'):=by
 refine af3 (qJ h.block) ?_;rintro t1 x y l1 (⟨rfl,rfl⟩|⟨b,b',u,rfl,rfl,hb⟩)
 ·exact .pure (h.mono l1)
 ·rw[h.off,h.spot];refine aQ (fun _=>.pure hb) (fun _=>?_);rw[hb.spot];refine aQ (fun _=>?_) (fun _=>?_)
  ·exact ah _
  refine af3 bC ?_;rintro t2 p q l2 ⟨hp,hq⟩;rw[hp,hq];split
  ·refine af3 (eg (l2 _ _ hb.block)) ?_;rintro t3 x _ l3 rfl;split
   ·refine aQ (fun _=>?_) (fun _=>?_)
    ·exact ah _
    rw[hb.off];split
    ·exact .pure ⟨(l2.trans l3) _ _ hb.block,rfl,rfl⟩
    ·exact ah _
   ·exact ah _
  ·exact ah _
theorem sj(z:∀b,¬ak.ro b)(h:Ad r a a')(t:TypeId):SR P V r (do let b<-newObj (.view a t);pure (.pointer (some ⟨b,0,none⟩))) (do let b<-newObj (.view a' t);pure (.pointer (some ⟨b,0,none⟩))):=
 af3 (sd (.view t (z _) h)) fun _ _ _ _ e=>.pure (.ptr ⟨e,rfl,rfl⟩)
theorem G8(z:∀b,¬ak.ro b){e:TypeId}(h1:P.underlying src=some (.pointer e))(h2:P.underlying dst=some .unsafePointer)(hx:V r x x'):SR P V r (ahd src dst x) (ahd src dst x'):=by
 refine af3 (aT src) ?_;rintro t1 d _ l1 ⟨rfl,hd⟩;rw[h1]at hd;obtain rfl:=af4 hd;refine af3 (aT dst) ?_;rintro t2 d _ l2 ⟨rfl,hd⟩;rw[h2]at hd;obtain rfl:=af4 hd;have oB:=(hx.mono l1).mono l2;cases oB with
 |nilPtr=>exact .pure .nilPtr
 |ptr ha=>
  refine af3 (C7 ha) ?_;intro t3 s s' l3 hs;refine af3 (K9 hs.block) ?_;rintro t4 n _ l4 rfl;rw[hs.off,hs.spot];refine af3 (bQ _) ?_;rintro t5 m _ l5 rfl;have hs5:=(hs.mono l4).mono l5;refine aQ (fun _=>?_) (fun _=>.pure (.ptr hs5));exact sj z hs5 _
 |_=>exact ae _
theorem Cd(z:∀b,¬ak.ro b){e:TypeId}(h1:P.underlying src=some .unsafePointer)(h2:P.underlying dst=some (.pointer e))(hx:V r x x'):SR P V r (ahd src dst x) (ahd src dst x'):=by
 refine af3 (aT src) ?_;rintro t1 d _ l1 ⟨rfl,hd⟩;rw[h1]at hd;obtain rfl:=af4 hd;refine af3 (aT dst) ?_;rintro t2 d _ l2 ⟨rfl,hd⟩;rw[h2]at hd;obtain rfl:=af4 hd;have oB:=(hx.mono l1).mono l2;cases oB with
 |nilPtr=>exact .pure .nilPtr
 |ptr ha=>
  refine af3 (C7 ha) ?_;intro t3 s s' l3 hs;refine af3 (bQ _) ?_;rintro t4 m _ l4 rfl;refine af3 (p_ (hs.mono l4) _ _) ?_;rintro t5 b _ l5 rfl;have hs5:=(hs.mono l4).mono l5;refine aQ (fun _=>.pure (.ptr hs5)) (fun _=>?_);refine af3 (eg hs5.block) ?_;rintro t6 x _ l6 rfl;split
  ·refine af3 bC ?_;rintro t7 p q l7 ⟨hp,hq⟩;rw[hp,hq];refine af3 bC ?_;rintro t8 p q l8 ⟨hp,hq⟩;rw[hp,hq];refine aQ (fun _=>?_) (fun _=>?_)
   ·exact ah _
   ·exact sj z (((hs5.mono l6).mono l7).mono l8) _
  ·exact ah _
 |_=>exact ae _
inductive G_(P:Program)(src dst:TypeId):Prop
 |int {k k':IntKind}:P.underlying src=some (.int k)->P.underlying dst=some (.int k')->G_ P src dst
 |toStr {e:TypeId}:P.underlying src=some (.slice e)->P.underlying e=some (.int .u8)->P.underlying dst=some .string->G_ P src dst
 |toBytes {e:TypeId}:P.underlying src=some .string->P.underlying dst=some (.slice e)->P.underlying e=some (.int .u8)->G_ P src dst
 |toUns {e:TypeId}:P.underlying src=some (.pointer e)->P.underlying dst=some .unsafePointer->G_ P src dst
 |NH {e:TypeId}:P.underlying src=some .unsafePointer->P.underlying dst=some (.pointer e)->G_ P src dst
theorem K_(zz:(∃k,P.underlying src=some (.int k))\/(∃e,P.underlying src=some (.slice e))\/∀b,¬ak.ro b)(h:G_ P src dst)(hx:V r x x'):SR P V r (convert src dst x) (convert src dst x'):=by
 have zOf:(∀k,P.underlying src≠some (.int k))->(∀e,P.underlying src≠some (.slice e))->∀b,¬ak.ro b:=fun h1 h2=>by simp_all
 unfold convert;refine af3 (aT src) ?_;rintro t1 d1 _ l1 ⟨rfl,te⟩;refine af3 (aT dst) ?_;rintro t2 d2 _ l2 ⟨rfl,F2⟩;have oB:=(hx.mono l1).mono l2;cases h with
 |int h1 h2=>
  rw[h1]at te;obtain rfl:=af4 te;rw[h2]at F2;obtain rfl:=af4 F2;cases oB<;>first|exact .pure (.int _ _)|exact ah _|exact ae _
 |toStr h1 h3 h2=>
  rw[h1]at te;obtain rfl:=af4 te;rw[h2]at F2;obtain rfl:=af4 F2;rename_i e;have Pz:=oB;cases oB with
  |int k n=>exact .pure (.string _)
  |string s=>exact .pure (.string _)
  |blank hb=>
   refine .lost fun v=>⟨.stuck "bytesToString: slice expected",v,?_,.inr ⟨_,rfl⟩⟩;show(Sem.bind (underlying e) _).run P v=_
   have eu:(underlying e).run P v=.ok (.int .u8) v:=by simp[underlying,program,bind,Sem.bind,ai8,h3,pure]
   rw[Sem.run_bind',eu];rfl
  |_=>
   refine af3 (aT e) ?_;rintro t3 d _ l3 ⟨rfl,hd⟩;rw[h3]at hd;obtain rfl:=af4 hd;exact vU (Pz.mono l3)
 |toBytes h1 h2 h3=>
  have z:=zOf (fun k x=>by rw[h1]at x;cases x) (fun k x=>by rw[h1]at x;cases x);rw[h1]at te;obtain rfl:=af4 te;rw[h2]at F2;obtain rfl:=af4 F2;cases oB with
  |string s=>
   refine af3 (aT _) ?_;rintro t3 d _ l3 ⟨rfl,hd⟩;rw[h3]at hd;obtain rfl:=af4 hd;exact B9 z _ _
  |_=>first|exact ah _|exact ae _
 |toUns h1 h2=>
  have z:=zOf (fun k x=>by rw[h1]at x;cases x) (fun k x=>by rw[h1]at x;cases x);rw[h1]at te;obtain rfl:=af4 te;rw[h2]at F2;obtain rfl:=af4 F2;have Pz:=oB;cases oB<;>exact G8 z h1 h2 Pz
 |NH h1 h2=>
  have z:=zOf (fun k x=>by rw[h1]at x;cases x) (fun k x=>by rw[h1]at x;cases x);rw[h1]at te;obtain rfl:=af4 te;rw[h2]at F2;obtain rfl:=af4 F2;have Pz:=oB;cases oB<;>exact Cd z h1 h2 Pz
end
section
variable[ak]{P:Program}{r:Rn}{α:Type}{A:Rn->α->α->Prop}
theorem WU(hx:V r x x')(hy:V r y y'):SR P V r (ah2 x y) (ah2 x' y'):=by
 cases hx with
 |int k a=>
  cases hy with
  |int k' b=>exact .pure (.int _ _)
  |_=>first|exact ah _|exact ae _
 |string a=>
  cases hy with
  |string b=>
   refine af3 (KX .leq a b) ?_;intro t1 u u' l1 hu;refine af3 (CZ hu) ?_;rintro t2 c _ l2 rfl;exact .pure (.string _)
  |_=>first|exact ah _|exact ae _
 |ptr a=>exact ah _
 |_=>cases hy<;>first|exact ah _|exact ae _
theorem NI:∀{xs ys:List _} {r:Rn} {x x':Value},VL r xs ys->V r x x'->SR P V r (xs.foldlM ah2 x) (ys.foldlM ah2 x')
 |_,_,r,x,x',.nil,hx=>.pure hx
 |_,_,r,x,x',.cons hy rest,hx=>by
  refine af3 (WU hx hy) ?_;intro t1 u u' l1 hu;exact NI (VL.mono l1 rest) hu
theorem abR(ts:Array _)(t:TypeId){a a':Array _}(h:VA r a a'):SR P V r (aiJ ts t a) (aiJ ts t a'):=by
 unfold aiJ;have hl:=h.toList;cases Zy:a.toList with
 |nil=>exact ae _
 |cons x xs=>
  rw[Zy]at hl;cases vG:a'.toList with
  |nil=>rw[vG]at hl;cases hl
  |cons y ys=>
   rw[vG]at hl;cases hl with
   |cons hx rest=>exact NI rest hx
theorem abS(ts:Array TypeId)(t:TypeId)(h:V r x x'):SR P V r (aiT ts t #[x]) (aiT ts t #[x']):=by
 unfold aiT;cases ht:ts[0]? with
 |none=>exact ae _
 |some t=>
  refine af3 (s:=underlying t) (s':=underlying t) (az t) ?_;rintro t1 d _ l1 rfl;have h1:=h.mono l1;cases d with
  |array n e=>exact .pure (.int _ _)
  |pointer arr=>
   refine af3 (az arr) ?_;rintro t2 d _ l2 rfl;cases d<;>first|exact .pure (.int _ _)|exact ae _
  |slice e=>cases h1<;>first|exact .pure (.int _ _)|exact ae _
  |chan dir e=>
   cases h1 with
   |fW=>exact .pure (.int _ _)
   |chan e=>
    refine af3 (cJ e) ?_;intro t2 o o' l2 ho;cases ho<;>exact ae _
   |_=>exact ae _
  |_=>exact ae _
theorem EH(z:∀b,¬ak.ro b)(ts:Array _)(t:TypeId)(h:V r x x'):SR P V r (ah4 ts t #[x]) (ah4 ts t #[x']):=by
 cases h with
 |bt l c=>exact .pure .nilPtr
 |slice l c ha=>
  refine aQ (fun _=>.pure (.ptr ha)) (fun _=>?_);refine af3 (qJ ha.block) ?_;rintro t1 x y l1 (⟨rfl,rfl⟩|⟨b,b',u,rfl,rfl,hb⟩)
  ·refine af3 (vQ t) ?_;rintro t2 e _ l2 rfl;exact sj z ((ha.mono l1).mono l2) _
  ·exact .pure (.ptr (ha.mono l1))
 |_=>exact ae _
theorem tU:∀n acc {r:Rn} {a a':Addr},Ad r a a'->SR P iO r (loadBytes a acc n) (loadBytes a' acc n)
 |0,acc,r,a,a',h=>.pure rfl
 |n+1,acc,r,a,a',h=>by
  refine af3 (zh h) ?_;intro t1 x x' l1 hx;cases hx with
  |int k b=>cases k<;>first|exact tU n _ ((h.mono l1).add 1)|exact ae _
  |_=>exact ae _
theorem yO(z:∀b,¬ak.ro b)(ts:Array _)(t:TypeId)(h:V r x x')(hy:V r y y'):SR P V r (agB ts t #[x,y]) (agB ts t #[x',y']):=by
 have main:∀{p p':Option _},((p=none/\p'=none)\/∃a a',p=some a/\p'=some a'/\Ad r a a')->SR P V r (agB ts t #[.pointer p,y]) (agB ts t #[.pointer p',y']):=by
  intro p p' hp;refine af3 (nR hy) ?_;rintro t1 n _ l1 rfl;cases ts[0]? with
  |none=>exact ae _
  |some pt=>
   refine aQ (fun _=>?_) (fun _=>?_)
   ·exact af3 (A:=fun _ _ _=>False) (iw trivial) fun _ _ _ _ h=>h.elim
   refine aQ (fun _=>?_) (fun _=>?_)
   ·exact ah _
   rcases hp with⟨rfl,rfl⟩|⟨a,a',rfl,rfl,ha⟩
   ·refine aQ (fun _=>.pure (.string _)) (fun _=>?_);exact iw trivial
   ·refine aQ (fun _=>.pure (.string _)) (fun _=>?_);refine af3 (vQ pt) ?_;rintro t2 e _ l2 rfl;have WR:=(ha.mono l1).mono l2;refine af3 (p_ WR _ _) ?_;rintro t3 b _ l3 rfl;refine aQ (fun _=>?_) (fun _=>?_)
    ·refine af3 (tU _ _ (WR.mono l3)) ?_;rintro t4 s _ l4 rfl;refine af3 (CY z ((WR.mono l3).mono l4) _) ?_;rintro t5 _ _ l5 _;exact .pure (.string _)
    ·exact ah _
 cases h with
 |nilPtr=>exact main (.inl ⟨rfl,rfl⟩)
 |ptr ha=>exact main (.inr ⟨_,_,rfl,rfl,ha⟩)
 |_=>exact ae _
theorem Ha{a a':Array _}(h:VA r a a'):SR P V r (ah5 a) (ah5 a'):=by
 obtain⟨l⟩:=a;obtain⟨l'⟩:=a';have hl:=h.toList;cases hl with
 |nil=>exact ae _
 |cons hx rest=>
  cases rest with
  |nil=>exact .pure hx
  |cons _ _=>exact ae _
theorem La(h:V r x x'):SR P iO r (aiC x) (aiC x'):=by
 have lb:∀(n:Nat) (acc:ByteArray) {r:Rn} {a a':Addr},Ad r a a'->SR P iO r (aij a n acc) (aij a' n acc):=by
  intro n;induction n with
  |zero=>exact fun acc _ _ _ _=>.pure rfl
  |succ n ih=>
   intro acc r a a' h;refine af3 (zh h) ?_;intro t1 x x' l1 hx;cases hx with
   |int k b=>cases k<;>first|exact ih _ ((h.mono l1).add 1)|exact ae _
   |_=>exact ae _
 cases h with
 |string s=>exact .pure rfl
 |bt l c=>exact .pure rfl
 |slice l c ha=>exact lb _ _ ha
 |_=>exact ae _
theorem EI{a a':Array _}(h:VA r a a'):SR P V r (ahl a) (ahl a'):=by
 obtain⟨l⟩:=a;obtain⟨l'⟩:=a';have hl:=h.toList;cases hl with
 |nil=>exact ae _
 |cons hx rest=>
  cases rest with
  |nil=>exact ae _
  |cons hy rest=>
   cases rest with
   |nil=>
    rename_i x x' y y';refine af3 (La hx) ?_;rintro t1 b _ l1 rfl;have ab:SR P iO t1 (aiG y) (aiG y'):=by
     have ti:=hy.mono l1;cases ti with
     |int k n=>cases k<;>first|exact .pure rfl|exact ae _
     |_=>exact ae _
    refine af3 ab ?_;rintro t2 c _ l2 rfl;split<;>exact .pure (.int _ _)
   |cons _ _=>exact ae _
theorem VA.digits:∀n t {a a':Array _},VA r a a'->VA r (ahp n t a) (ahp n t a')
 |0,t,a,a',h=>h
 |n+1,t,a,a',h=>VA.digits n _ (h.push (.int _ _))
theorem Ce(ps rs:Array _){a a':Array _}(h:VA r a a'):SR P V r (agp ps rs a) (agp ps rs a'):=by
 obtain⟨l⟩:=a;obtain⟨l'⟩:=a';have hl:=h.toList;cases hl with
 |nil=>exact ae _
 |cons hx rest=>
  cases rest with
  |nil=>
   cases hx with
   |int k n=>
    cases k with
    |i64=>
     unfold agp;cases hr:rs[0]? with
     |none=>exact ae _
     |some t=>
      refine af3 (az t) ?_;rintro t1 d _ l1 rfl;cases d with
      |slice elem=>
       refine aQ (fun _=>?_) (fun _=>?_)
       ·exact af3 (A:=fun _ _ _=>False) (iw trivial) fun _ _ _ _ h=>h.elim
       refine af3 (ef _) ?_;rintro t2 c _ l2 rfl;refine af3 (se c) ?_;rintro t3 _ _ l3 _;refine af3 (ef _) ?_;rintro t4 b _ l4 rfl;refine af3 (jy _ (VA.digits _ _ .nil)) ?_;intro t5 a a' l5 ha;exact .pure (.slice _ _ ha)
      |_=>exact ae _
    |_=>exact ae _
   |_=>exact ae _
  |cons _ _=>exact ae _
def z_(P:Program)(name:String):=∀t i m,P.info? t=some i->i.methods.find? (·.name==name)=some m->m.path=#[]/\(∃f,m.func=some (f,false)/\ak.cV f)/\∀e,P.underlying t≠some (.pointer e)
theorem PI{name:String}(hm:z_ P name)(n:Nat)(t:TypeId){v:Value}(h:V r v v'):SR P (fun s x y=>x.1=y.1/\ak.cV x.1/\V s x.2 y.2) r (method n t v name) (method n t v' name):=by
 cases n with
 |zero=>exact ah _
 |succ n=>
  refine af3 (cT t) ?_;rintro t1 i _ l1 ⟨rfl,hi⟩;cases hf:i.methods.find? _ with
  |none=>exact ae _
  |some m=>
   obtain⟨hp,⟨f,hmf,hg⟩,hnp⟩:=hm t i m hi hf;simp[hp,hmf];refine af3 (A:=fun s x y=>x=(t,Place.val v)/\y=(t,Place.val v')) (.pure ⟨rfl,rfl⟩) ?_;rintro t2 _ _ l2 ⟨rfl,rfl⟩;refine af3 ?_ fun s x y l CU=>.pure ⟨rfl,hg,CU⟩;refine af3 (aT t) ?_;rintro t3 d _ l3 ⟨rfl,hd⟩;cases d with
   |pointer e=>exact absurd hd (hnp e)
   |_=>exact .pure (((h.mono l1).mono l2).mono l3)
end
section
variable[ak]{P:Program}{r:Rn}{α:Type}{A:Rn->α->α->Prop}{bb:Bool}
theorem lV{l l':Nat}(h:r l=some l'):SR P Lp r (aiE l) (aiE l'):=by
 refine af3 (cJ h) ?_;intro t1 o o' l1 ho;cases ho with
 |loop q=>exact .pure q
 |_=>exact ae _
inductive LO(r:Rn):Option Nat->Option Nat->Prop
 |none:LO r none none
 |some {l l':Nat}:r l=some l'->LO r (some l) (some l')
theorem LO.mono{s:Rn}(h:Le r s){a b:Option Nat}(k:LO r a b):LO s a b:=by
 cases k with
 |none=>exact .none
 |some e=>exact .some (h _ _ e)
theorem EJ(fn:FuncId){tmps nS:Array _}(ht:VA r tmps nS)(ps:Array Tmp){aBN bd:Code}(ha:ak.code aBN)(hb:ak.code bd){o':Option Nat}(ho:LO r o o'):
  SR P (fun s x y=>s x.1=some y.1/\DL s x.2 y.2) r (agi fn tmps ps aBN bd o) (agi fn nS ps aBN bd o'):=by
 unfold agi;have fin:∀{s:Rn} {d d':Nat} {m m':List _},Le r s->s d=some d'->DL s m m'->
   SR P (fun s x y=>s x.1=some y.1/\DL s x.2 y.2) s (do let b<-newObj (.loop {state:=.ready,pending:=none,fn,tmps,params:=ps,assign:=aBN,body:=bd,defers:=d});pure (b,m)) (do let b<-newObj (.loop {state:=.ready,pending:=none,fn,tmps:=nS,params:=ps,assign:=aBN,body:=bd,defers:=d'});pure (b,m')):=by
  intro s d d' m m' l hd hm;refine af3 (sd (.loop ⟨rfl,rfl,rfl,rfl,rfl,rfl,ht.mono l,hd,(fun c e=>by cases e),ha,hb⟩)) ?_;intro t b b' l' e;exact .pure ⟨e,hm.mono l'⟩
 cases ho with
 |none=>
  refine af3 (sd (.deferred (.some .nil))) ?_;intro t1 b b' l1 e;exact fin l1 e (.cons ⟨.collected e,.nil⟩ .nil)
 |some e=>
  refine af3 (lV e) ?_;intro t1 q q' l1 hq;exact fin l1 hq.defers .nil
theorem x7:∀{ts:List Tmp} {xs ys:List _} {c c':Array _},VL r xs ys->VA r c c'->
  VA r ((ts.zip xs).foldl (fun tmps p=>tmps.setIfInBounds p.1 p.2) c) ((ts.zip ys).foldl (fun tmps p=>tmps.setIfInBounds p.1 p.2) c')
 |[],_,_,_,_,_,h=>h
 |_::_,_,_,_,_,.nil,h=>h
 |t::ts,_,_,_,_,.cons hx rest,h=>by
  simp;exact x7 rest (h.set _ hx)
theorem VA.round{ps:Array Tmp}{a a' c c':Array _}(h:VA r a a')(k:VA r c c'):
  VA r ((ps.zip a).foldl (fun tmps x=>tmps.setIfInBounds x.1 x.2) c) ((ps.zip a').foldl (fun tmps x=>tmps.setIfInBounds x.1 x.2) c'):=by
 simp only[<-aiU,Array.toList_zip];exact x7 h.toList k
inductive NX(bb:Bool)(r:Rn):Next->Next->Prop
 |value {v v':Value}:V r v v'->NX bb r (.value v) (.value v')
 |skip:NX bb r .skip .skip
 |enter {f:FuncId} {a a':Array Value}:ak.cV f->VA r a a'->NX bb r (.enter f a) (.enter f a')
 |defer {d d':Deferred}:Df r d d'->NX bb r (.defer d) (.defer d')
 |recover:bb=true->NX bb r .recover .recover
 |round {l l':Nat} {f:FuncId} {t t':Array Value} {aBN bd:Code}:r l=some l'->VA r t t'->ak.code aBN->ak.code bd->NX bb r (.round l f t aBN bd) (.round l' f t' aBN bd)
theorem SN{l l':Nat}(h:r l=some l'){a a':Array _}(ha:VA r a a'):SR P (NX bb) r (Instr.yield l a) (Instr.yield l' a'):=by
 refine af3 (lV h) ?_;intro t1 q q' l1 hq;rw[hq.params,ha.size,hq.fn,hq.assign,hq.body];refine aQ (fun _=>?_) (fun _=>?_)
 ·exact ae _
 ·exact .pure (.round (l1 _ _ h) (VA.round (ha.mono l1) hq.tmps) hq.ca hq.cb)
theorem Cf{l l':Nat}(h:r l=some l'):SR P iO r (aju l) (aju l'):=by
 refine af3 (lV h) ?_;intro t1 q q' l1 hq;refine af3 (iu (l1 _ _ h) (.loop ⟨rfl,hq.pending,hq.fn,hq.params,hq.assign,hq.body,hq.tmps,hq.defers,hq.cp,hq.ca,hq.cb⟩)) ?_;rintro t2 _ _ l2 _;rw[hq.state];cases q.state<;>first|exact .pure rfl|exact iw trivial
theorem Hb{l l':Nat}(h:r l=some l'){j:Option _}(hj:∀c,j=some c->ak.code c):SR P V r (af7 l j) (af7 l' j):=by
 refine af3 (lV h) ?_;intro t1 q q' l1 hq;refine af3 (iu (l1 _ _ h) (.loop ⟨rfl,rfl,hq.fn,hq.params,hq.assign,hq.body,hq.tmps,hq.defers,hj,hq.ca,hq.cb⟩)) ?_;rintro t2 _ _ l2 _;exact .pure (.bool _)
theorem Lb{l l':Nat}(h:r l=some l'):SR P (fun _ x y=>x=y/\∀c,x=some c->ak.code c) r (ahC l) (ahC l'):=by
 refine af3 (lV h) ?_;intro t1 q q' l1 hq;rw[hq.state];refine aQ (fun _=>?_) (fun _=>?_)
 ·exact af3 (A:=fun _ _ _=>False) (iw trivial) fun _ _ _ _ h=>h.elim
 ·refine af3 (iu (l1 _ _ h) (.loop ⟨rfl,hq.pending,hq.fn,hq.params,hq.assign,hq.body,hq.tmps,hq.defers,hq.cp,hq.ca,hq.cb⟩)) ?_;rintro t2 _ _ l2 _;exact .pure ⟨hq.pending.symm,hq.cp⟩
theorem yP{b:Nat}(h:r b=some b'):SR P DL r (aiY b) (aiY b'):=by
 refine af3 (cJ h) ?_;intro t1 o o' l1 ho;cases ho with
 |deferred d=>
  cases d with
  |none=>exact ae _
  |some q=>
   refine af3 (iu (l1 _ _ h) (.deferred .none)) ?_;rintro t2 _ _ l2 _;exact .pure (q.mono l2)
 |_=>exact ae _
structure NJ(P:Program)(f:FuncId)(fn:Func):Prop where
 has:P.funcs[f]?=some fn
 name:(fn.name== "runtime.NumGoroutine")=false
 ext:fn.body=none->aic fn=none/\∃e,ajb fn=some e/\∀r a a',VA r a a'->SR P V r (e a) (e a')
theorem x8(hg:∀f,ak.cV f->∃fn,NJ P f fn){f:FuncId}(h:ak.cV f){a a':Array _}(ha:VA r a a'):SR P (NX bb) r (callFunc f a) (callFunc f a'):=by
 obtain⟨fn,hf⟩:=hg f h;refine af3 bC ?_;rintro t1 p q l1 ⟨hp,hq⟩;rw[hp,hq];simp[hf.has,hf.name];cases hb:fn.body with
 |some c=>exact .pure (.enter h (ha.mono l1))
 |none=>
  obtain⟨e1,e,e2,he⟩:=hf.ext hb;simp[e1,e2];refine af3 (.mark _ (.inr ⟨_,rfl⟩) fun _ _=>.pure rfl) ?_;rintro t2 _ _ l2 _;refine af3 (he t2 _ _ ((ha.mono l1).mono l2)) ?_;intro t3 v v' l3 hv;exact .pure (.value hv)
theorem VA.tail{a a':Array _}(h:VA r a a'):VA r (a.extract 1 a.size) (a'.extract 1 a'.size):=by
 rw[<-h.size];exact h.extract 1 _
theorem Cg(hg:∀f,ak.cV f->∃fn,NJ P f fn){name:String}(hm:z_ P name)(hx:V r x x'){a a':Array _}(ha:VA r a a'):SR P (NX bb) r (callMethod x name a) (callMethod x' name a'):=by
 cases hx with
 |iface t hv=>
  refine af3 bC ?_;rintro t1 p q l1 ⟨hp,hq⟩;rw[hp,hq];refine af3 (PI hm _ t (hv.mono l1)) ?_;rintro t2 ⟨f,u⟩ ⟨f',u'⟩ l2 ⟨e,hgf,hu⟩;subst e;exact x8 hg hgf ((VA.one hu).append ((ha.mono l1).mono l2))
 |nilIface=>exact iw (e:=.nilDeref) trivial
 |_=>exact ae _
theorem Lc(hx:V r x x'){a a':Array _}(ha:VA r a a'):SR P Df r (agw x a) (agw x' a'):=by
 cases hx with
 |func hf s1 i1 s2 i2=>exact .pure ⟨.fn hf.toR ⟨s2,i2⟩,VA.append ⟨s1,i1⟩ ha⟩
 |nilFunc=>exact .pure ⟨.nil,ha⟩
 |_=>exact ae _
theorem qK(hg:∀f,ak.cV f->∃fn,NJ P f fn)(hm:∀n,ak.methods n->z_ P n){d:Deferred}(h:Df r d d')(hn:∀b,d.target≠.collected b):SR P (NX bb) r (invoke d.target d.args) (invoke d'.target d'.args):=by
 obtain⟨ht,ha⟩:=h;obtain⟨t,a⟩:=d;obtain⟨t',a'⟩:=d';unfold invoke;cases ht with
 |fn hf hc=>
  cases hf with
  |func g=>exact x8 hg g (ha.append hc)
  |method g=>
   cases h0:a[0]? with
   |none=>exact ae _
   |some x=>
    obtain⟨x',e,hx⟩:=ha.get h0;rw[e];exact Cg hg (hm _ g) hx ha.tail
  |yield e=>exact SN e ha
 |nil=>exact iw trivial
 |collected e=>exact absurd rfl (hn _)
end
section
variable[ak]{P:Program}{r:Rn}{α:Type}{A:Rn->α->α->Prop}{bb:Bool}
def cM:Operand->Prop
 |.tmp _=>True
 |.const v=>∀r,V r v v
 |.global g=>ak.WM g
 |.func f=>ak.cV f
def WV:=∀b,¬ak.ro b
def C8:Option Operand->Prop
 |none=>True
 |some x=>cM x
def jT:BinOp->Bool
 |.eql|.neq=>false
 |_=>true
def ZT(P:Program)(t:TypeId)(y:Operand):=P.eqGuardType P.depth t=false/\((SJ P t/\((∃e,P.underlying t=some (.pointer e))->WV))\/(y=.const .nilIface/\∃m,P.underlying t=some (.interface m)))
def vV(P:Program)(b:Builtin)(ts:Array TypeId)(n:Nat):Prop:=
 match b with
 |.append=>∀xT d,ts[1]?=some xT->P.underlying xT=some d->∀k,d≠.int k
 |.cap=>n=1
 |.copy|.len|.min|.recover=>True
 |.unsafeSliceData=>n=1/\WV
 |.unsafeString=>n=2/\WV
 |_=>False
def EK(P:Program)(c:Call):=
 (∀x∈c.args,cM x)/\
 match c.callee with
 |.value f=>cM f
 |.invoke x name=>cM x/\ak.methods name
 |.builtin b=>vV P b c.argTypes c.args.size
def Aa(P:Program)(t:TypeId):=∀k e,P.underlying t=some (.map k e)->∀d,P.underlying k=some d->plainKey d
def WW(P:Program):Op->Prop
 |.move x|.assign x|.box _ x|.load _ x|.nilCheck x|.unOp _ _ x|.makeInterface _ x|.fieldAddr _ x _|.field _ x _|.range _ x|.next x _|.entry x|.extract x _|.panic x=>cM x
 |.pick c a b=>cM c/\cM a/\cM b
 |.alloc _=>True
 |.build _ ps|.buildSlice _ _ ps=>∀p∈ps,cM p.2
 |.store _ a x|.makeSlice _ a x|.indexAddr _ a x|.index _ a x=>cM a/\cM x
 |.binOp op t x y _=>cM x/\cM y/\(jT op=true\/ZT P t y)
 |.convert s d x=>cM x/\G_ P s d/\((∃k,P.underlying s=some (.int k))\/(∃e,P.underlying s=some (.slice e))\/WV)
 |.makeFunc fn first cap=>(∃f,fn=.func f/\ak.cV f)/\(∀x∈first,cM x)/\∀x∈cap,cM x
 |.makeMap _ x=>C8 x
 |.slice _ x lo hi mx=>cM x/\C8 lo/\C8 hi/\C8 mx
 |.lookup t x i _=>cM x/\cM i/\Aa P t
 |.mapUpdate t m k x=>cM m/\cM k/\cM x/\Aa P t
 |.typeAssert x _ a ok=>cM x/\ok=true/\∀ms,P.underlying a≠some (.interface ms)
 |.call c=>EK P c
 |.defer c=>EK P c/\∃f,c.callee=.value f
 |_=>False
structure Fit(P:Program):Prop where
 tO:pg P
 fK:ak.size=P.globals.size
 Cc:WO P
 cV:∀f,ak.cV f->∃fn,NJ P f fn
 WX:∀n,ak.methods n->z_ P n
theorem VA.mapOf{l:Array _}{ρ F6:Operand->Value}(h:∀x∈l,V r (ρ x) (F6 x)):VA r (l.map ρ) (l.map F6):=by
 refine⟨by simp,fun i x x' e e'=>?_⟩;simp only[ahh]at e e';cases hi:l[i]? with
 |none=>rw[hi]at e;cases e
 |some y=>
  rw[hi]at e e';simp at e e';rw[<-e,<-e'];exact h y (agG hi)
theorem VO.mapOf{o:Option _}{ρ F6:Operand->Value}(h:∀x,cM x->V r (ρ x) (F6 x))(ho:C8 o):VO r (o.map ρ) (o.map F6):=by
 cases o with
 |none=>exact .none
 |some x=>exact .some (h x ho)
theorem PL.mapOf{ρ F6:Operand->Value}(h:∀x,cM x->V r (ρ x) (F6 x)){l:Array (Nat×Operand)}(hl:∀p∈l,cM p.2):
  PL r (l.map fun x=>(x.1,ρ x.2)).toList (l.map fun x=>(x.1,F6 x.2)).toList:=by
 obtain⟨l⟩:=l;simp;have hl:=fun p hp=>hl p (by simpa using hp);rename_i hl0;clear hl0;induction l with
 |nil=>exact .nil
 |cons p l ih=>exact .cons _ (h _ (hl p (by simp))) (ih fun q hq=>hl q (by simp[hq]))
theorem gj{s s':Sem _}(h:SR P V r s s'):SR P (NX bb) r (do pure (Next.value (<-s))) (do pure (Next.value (<-s'))):=af3 h fun _ _ _ _ e=>.pure (.value e)
theorem abU{s s':Sem _}(h:SR P iO r s s'):SR P (NX bb) r (do s;pure Next.skip) (do s';pure Next.skip):=af3 h fun _ _ _ _ _=>.pure .skip
theorem Ld{op:BinOp}(ht:P.eqGuardType P.depth t=false)(x y:Operand){a a' b b':Value}(ha:V r a a')(hb:V r b b'):SR P iO r (eqGuard op t x y a b) (eqGuard op t x y a' b'):=by
 refine aQ (fun _=>?_) (fun _=>?_)
 ·exact .pure rfl
 cases ha with
 |blank h=>cases a'<;>first|(simp[Hid]at h;done)|exact .pure rfl
 |nilIface=>
  cases hb with
  |blank h=>cases b'<;>first|(simp[Hid]at h;done)|exact .pure rfl
  |nilIface=>
   refine aQ (fun _=>?_) (fun _=>?_)
   ·exact .pure rfl
   have q:SR P iO r (Op.eqGuardIn Op.maxDepth t .nilIface .nilIface) (Op.eqGuardIn Op.maxDepth t .nilIface .nilIface):=by
    refine af3 (az t) ?_;rintro t1 d _ l1 rfl;cases d<;>exact .pure rfl
   refine af3 q ?_;rintro t1 b _ l1 rfl;refine aQ (fun _=>?_) (fun _=>?_)
   ·exact ah _
   ·exact .pure rfl
  |_=>exact .pure rfl
 |agg hs hi=>
  cases hb with
  |blank h=>cases b'<;>first|(simp[Hid]at h;done)|exact .pure rfl
  |agg ks ki=>
   refine af3 bC ?_;rintro t1 p q l1 ⟨hp,hq⟩;rw[hp,hq];refine af3 bC ?_;rintro t2 p q l2 ⟨hp,hq⟩;rw[hp,hq,ht];exact .pure rfl
  |_=>exact .pure rfl
 |_=>exact .pure rfl
theorem Lf(F:Fit P){b:Builtin}{ts:Array _}{cs:Array _}{a a':Array _}(h:vV P b ts a.size)(hr:b=.recover->bb=true)(ha:VA r a a'):SR P (NX bb) r (builtin b ts t cs a) (builtin b ts t cs a'):=by
 cases b with
 |append=>exact gj (Py F.tO ts t h ha)
 |copy=>exact gj (WQ ts t ha)
 |len=>exact gj (abM ts t ha)
 |min=>exact gj (abR ts t ha)
 |recover=>exact .pure (.recover (hr rfl))
 |cap=>
  obtain⟨l⟩:=a;obtain⟨l'⟩:=a';have hl:=ha.toList;have h:l.length=1:=h;cases hl with
  |nil=>simp at h
  |cons hx rest=>
   cases rest with
   |nil=>exact gj (abS ts t hx)
   |cons _ _=>simp at h
 |unsafeSliceData=>
  obtain⟨h,z⟩:=h;obtain⟨l⟩:=a;obtain⟨l'⟩:=a';have hl:=ha.toList;cases hl with
  |nil=>simp at h
  |cons hx rest=>
   cases rest with
   |nil=>exact gj (EH z ts t hx)
   |cons _ _=>simp at h
 |unsafeString=>
  obtain⟨h,z⟩:=h;obtain⟨l⟩:=a;obtain⟨l'⟩:=a';have hl:=ha.toList;cases hl with
  |nil=>simp at h
  |cons hx rest=>
   cases rest with
   |nil=>simp at h
   |cons hy rest=>
    cases rest with
    |nil=>exact gj (yO z ts t hx hy)
    |cons _ _=>simp at h
 |_=>exact h.elim
theorem x9(hx:V r x x'){a a':Array _}(ha:VA r a a'):SR P (fun s d d'=>Df s d d'/\∀b,d.target≠.collected b) r (agw x a) (agw x' a'):=by
 cases hx with
 |func hf s1 i1 s2 i2=>exact .pure ⟨⟨.fn hf.toR ⟨s2,i2⟩,VA.append ⟨s1,i1⟩ ha⟩,fun b e=>by cases e⟩
 |nilFunc=>exact .pure ⟨⟨.nil,ha⟩,fun b e=>by cases e⟩
 |_=>exact ae _
theorem WY(F:Fit P){ρ F6:Operand->Value}(kR:∀x,cM x->V r (ρ x) (F6 x)){c:Call}(h:EK P c)(hr:c.callee=.builtin .recover->bb=true)(t:TypeId):SR P (NX bb) r (do let d<-resolve ρ c t;invoke d.target d.args) (do let d<-resolve F6 c t;invoke d.target d.args):=by
 obtain⟨h1,h2⟩:=h;have ha:=VA.mapOf fun x hx=>kR x (h1 x hx);unfold resolve;cases hc:c.callee with
 |builtin b=>
  rw[hc]at h2;exact Lf F (by simp_all) (fun e=>hr (by simp_all)) ha
 |invoke x name=>
  rw[hc]at h2;exact qK F.cV F.WX (d:={target:=.fn _ #[],args:=#[ρ x]++c.args.map ρ}) (d':={target:=.fn _ #[],args:=#[F6 x]++c.args.map F6}) ⟨.fn (.method h2.2) .nil,(VA.one (kR x h2.1)).append ha⟩ (fun b e=>by cases e)
 |value f=>
  rw[hc]at h2;exact af3 (x9 (kR f h2) ha) fun t1 d d' l1 hd=>qK F.cV F.WX hd.1 hd.2
theorem C9(F:Fit P){ρ F6:Operand->Value}(kR:∀x,cM x->V r (ρ x) (F6 x))(hc:∀v,ρ (.const v)=v/\F6 (.const v)=v)(o:Oper)(h:WW P o.op)(hr:∀c,o.op=.call c->c.callee=.builtin .recover->bb=true):SR P (NX bb) r (execOp ρ o) (execOp F6 o):=by
 obtain⟨dst,op,ty,pos,after,guard⟩:=o;unfold execOp;simp only at h⊢;cases op with
 |move x=>exact .pure (.value (kR x h))
 |assign x=>exact .pure (.value (kR x h))
 |pick c a b=>
  refine af3 (CZ (kR c h.1)) ?_;rintro t1 t _ l1 rfl;cases t
  ·exact .pure (.value ((kR b h.2.2).mono l1))
  ·exact .pure (.value ((kR a h.2.1).mono l1))
 |alloc e=>exact gj (Ss F.tO e)
 |box e x=>exact gj (abL e (kR x h))
 |build t ps=>exact gj (SD F.tO t (PL.mapOf kR h))
 |buildSlice t n ps=>exact gj (B_ F.tO t n (PL.mapOf kR h))
 |load t a=>exact gj (Pw t (kR a h))
 |store t a x=>exact abU (KR t (kR a h.1) (kR x h.2))
 |nilCheck x=>
  have hx:=kR x h;simp only;generalize ρ x=u at hx⊢;generalize F6 x=u' at hx⊢;cases hx with
  |blank h=>
   cases u' with
   |pointer a=>cases a<;>first|(simp[Hid]at h;done)|exact SR.pure (A:=NX bb) (NX.value (V.blank (y:=.pointer (some _)) rfl))
   |_=>first|(simp[Hid]at h;done)|exact SR.pure (A:=NX bb) (NX.value (V.blank h))
  |nilPtr=>exact iw (e:=.nilDeref) trivial
  |nilIface=>exact iw (e:=.nilDeref) trivial
  |nilFunc=>exact iw (e:=.nilDeref) trivial
  |func hf s1 i1 s2 i2=>
   have hv:=V.func hf s1 i1 s2 i2;cases hf with
   |func _=>exact .pure (.value hv)
   |yield _=>exact .pure (.value hv)
  |ptr a=>exact .pure (.value (.ptr a))
  |bool=>exact .pure (.value (.bool _))
  |int=>exact .pure (.value (.int _ _))
  |string=>exact .pure (.value (.string _))
  |bt=>exact .pure (.value (.bt _ _))
  |slice l c a=>exact .pure (.value (.slice l c a))
  |ik=>exact .pure (.value .ik)
  |map e=>exact .pure (.value (.map e))
  |fW=>exact .pure (.value .fW)
  |chan e=>exact .pure (.value (.chan e))
  |iface t h=>exact .pure (.value (.iface t h))
  |agg s i=>exact .pure (.value (.agg s i))
  |tuple s i=>exact .pure (.value (.tuple s i))
 |binOp op t x y yt=>
  obtain⟨h1,h2,h3⟩:=h;have hx:=kR x h1;have hy:=kR y h2;rcases h3 with h3|⟨hq,h3⟩
  ·refine gj (af3 (A:=iO) ?_ fun t1 _ _ l1 _=>xZ F.fK ⟨fun e=>(by subst e;simp[jT]at h3),fun e=>(by subst e;simp[jT]at h3)⟩ (hx.mono l1) (hy.mono l1));unfold eqGuard;cases op<;>first|exact .pure rfl|simp[jT]at h3
  ·by_cases ho:jT op=true
   ·refine gj (af3 (A:=iO) ?_ fun t1 _ _ l1 _=>xZ F.fK ⟨fun e=>(by subst e;simp[jT]at ho),fun e=>(by subst e;simp[jT]at ho)⟩ (hx.mono l1) (hy.mono l1));unfold eqGuard;cases op<;>first|exact .pure rfl|simp[jT]at ho
   ·have ho:op=.eql\/op=.neq:=by cases op<;>first|exact .inl rfl|exact .inr rfl|simp[jT]at ho
    refine gj (af3 (Ld hq x y hx hy) fun t1 _ _ l1 _=>?_);rcases h3 with⟨he,z⟩|⟨rfl,m,hm⟩
    ·exact SM F.fK ho z he (hx.mono l1) (hy.mono l1)
    ·rw[(hc .nilIface).1,(hc .nilIface).2];exact PH ho hm (hx.mono l1)
 |unOp op t x=>exact gj (SI op (kR x h))
 |convert s d x=>exact gj (K_ h.2.2 h.2.1 (kR x h.1))
 |makeInterface t x=>exact gj (vS t (kR x h))
 |makeFunc fn first cap=>
  obtain⟨⟨f,rfl,hf⟩,h1,h2⟩:=h;exact gj (GO (.func hf) (VA.mapOf fun x hx=>kR x (h1 x hx)) (VA.mapOf fun x hx=>kR x (h2 x hx)))
 |makeMap t x=>exact gj (KW t (VO.mapOf kR h))
 |makeSlice t l c=>exact gj (ED F.tO t (kR l h.1) (kR c h.2))
 |slice t x lo hi mx=>exact gj (KV t (kR x h.1) (VO.mapOf kR h.2.1) (VO.mapOf kR h.2.2.1) (VO.mapOf kR h.2.2.2))
 |fieldAddr t x f=>exact gj (KT t (kR x h) f)
 |field t x f=>exact gj (St t (kR x h) f)
 |indexAddr t x i=>exact gj (KU t (kR x h.1) (kR i h.2))
 |index t x i=>exact gj (Su t (kR x h.1) (kR i h.2))
 |lookup t x i ok=>exact gj (PD F.tO F.fK h.2.2 (kR x h.1) (kR i h.2.1) ok)
 |mapUpdate t m k x=>exact abU (EG F.fK h.2.2.2 (kR m h.1) (kR k h.2.1) (kR x h.2.2.1))
 |range t x=>exact gj (SE t (kR x h))
 |next x b=>exact gj (WT (kR x h) b ty)
 |entry x=>exact gj (SH (kR x h))
 |typeAssert x t a ok=>
  obtain⟨h1,rfl,h2⟩:=h;exact gj (Cb F.tO (kR x h1) t a h2)
 |extract x i=>exact gj (KS (kR x h) i)
 |panic x=>exact gj (KY (kR x h))
 |call c=>exact WY F kR h (hr c rfl) ty
 |defer c=>
  obtain⟨⟨h1,h2⟩,f,hc⟩:=h;have ha:=VA.mapOf fun x hx=>kR x (h1 x hx);obtain⟨cal,args,SO⟩:=c;simp only at hc ha h2;subst hc;refine af3 (Lc (kR f h2) ha) ?_;intro t1 d d' l1 hd;exact .pure (.defer hd)
 |_=>exact h.elim
end
structure Cst(A B:ak):Prop where
 size:A.size=B.size
 cV:∀f,A.cV f->B.cV f
 methods:∀n,A.methods n->B.methods n
 code:∀c,A.code c->B.code c
 ro:∀b,A.ro b↔B.ro b
 qH:∀b i,B.qH b i->A.qH b i
def pn{A B:ak}(h:Cst A B)(r:@Rn A):@Rn B:=@Rn.mk B (@Rn.f A r) (@Rn.inj A r) (fun b c e=>by rw[<-h.size];exact @Rn.fK A r b c e)
section
variable{A B:ak}(h:Cst A B){r:@Rn A}
include h
theorem EM(k:@Ad A r a a'):@Ad B (pn h r) a a':=by
 obtain⟨h1,h2,h3⟩:=k;exact @Ad.mk B _ _ _ h1 h2 h3
theorem WZ{f f':Fn}(k:@Pu A r f f'):@Pu B (pn h r) f f':=by
 cases k with
 |func g=>exact @Pu.func B _ _ (h.cV _ g)
 |yield e=>exact @Pu.yield B _ _ _ e
theorem W0{f f':Fn}(k:@Pt A r f f'):@Pt B (pn h r) f f':=by
 cases k with
 |func g=>exact @Pt.func B _ _ (h.cV _ g)
 |method g=>exact @Pt.method B _ _ (h.methods _ g)
 |yield e=>exact @Pt.yield B _ _ _ e
theorem SP(k:@V A r x y):@V B (pn h r) x y:=by
 induction k with
 |blank e=>exact .blank e
 |bool b=>exact .bool b
 |int k n=>exact .int k n
 |string s=>exact .string s
 |nilPtr=>exact .nilPtr
 |ptr a=>exact .ptr (EM h a)
 |bt l c=>exact .bt l c
 |slice l c a=>exact .slice l c (EM h a)
 |ik=>exact .ik
 |map e=>exact .map e
 |fW=>exact .fW
 |chan e=>exact .chan e
 |func n s1 _ s2 _ i1 i2=>exact .func (WZ h n) s1 i1 s2 i2
 |nilFunc=>exact .nilFunc
 |iface t _ i=>exact .iface t i
 |nilIface=>exact .nilIface
 |agg s _ i=>exact .agg s i
 |tuple s _ i=>exact .tuple s i
theorem qa{c c':Array _}(k:@VA A r c c'):@VA B (pn h r) c c':=by
 obtain⟨h1,h2⟩:=k;exact @VA.mk B _ _ _ h1 fun i x x' e e'=>SP h (h2 i x x' e e')
theorem abV{e e':MapEntry}(k:@En A r e e'):@En B (pn h r) e e':=by
 obtain⟨h1,h2,h3⟩:=k;exact @En.mk B _ _ _ (SP h h1) (SP h h2) h3
theorem abW{t t':Target}(k:@Tg A r t t'):@Tg B (pn h r) t t':=by
 cases k with
 |fn f c=>exact .fn (W0 h f) (qa h c)
 |nil=>exact .nil
 |collected e=>exact .collected e
theorem abX{d d':List _}(k:@DL A r d d'):@DL B (pn h r) d d':=by
 induction k with
 |nil=>exact .nil
 |cons x _ ih=>
  obtain⟨h1,h2⟩:=x;exact .cons ⟨abW h h1,qa h h2⟩ ih
theorem agc{o:Obj}(k:@O A r o o'):@O B (pn h r) o o':=by
 cases k with
 |loop l=>
  obtain⟨a1,a2,a3,a4,a5,a6,a7,a8,a9,b1,b2⟩:=l;exact .loop ⟨a1,a2,a3,a4,a5,a6,qa h a7,a8,fun c e=>h.code _ (a9 c e),h.code _ b1,h.code _ b2⟩
 |view t n a=>exact .view t (fun y=>n ((h.ro _).2 y)) (EM h a)
 |number l a=>exact .number l (EM h a)
 |deferred d=>
  cases d with
  |none=>exact .deferred .none
  |some x=>exact .deferred (.some (abX h x))
 |cells e fz a=>exact .cells e fz (qa h a)
 |map cl hs hi=>exact .map cl hs fun i x x' e e'=>abV h (hi i x x' e e')
 |stringIter s p=>exact .stringIter s p
 |c9 a s n=>exact .c9 a s n
 |mapIter a s n e=>exact .mapIter a s n e
theorem abY{b:Nat}{o:Obj}(k:@OB A r b o o'):@OB B (pn h r) b o o':=by
 cases k with
 |same n o=>exact .same (fun y=>n ((h.ro _).2 y)) (agc h o)
 |ro e n a hb=>exact .ro e ((h.ro _).1 n) (qa h a) fun i hi=>hb i (h.qH _ _ hi)
theorem SQ{v:World}(k:@W A r c v w):@W B (pn h r) c v w:=by
 obtain⟨h1,h2,h3,h4,h5,h6⟩:=k;refine @W.mk B _ _ _ _ (fun b b' e=>?_) (by rw[<-h.size];exact h2) (by rw[<-h.size];exact h3) (fun b hb=>h4 b ((h.ro b).2 hb)) h5 h6;obtain⟨o,o',e1,e2,e3⟩:=h1 b b' e;exact⟨o,o',e1,e2,abY h e3⟩
end
end Ren
namespace Ren
open Conc
section
variable[ak]{P:Program}{r:Rn}
def vW(P:Program)(rd:Bool)(o:Oper):=WW P o.op/\(rd=true->(∀c,o.op≠.defer c)/\∀c,o.op=.call c->c.callee≠.builtin .recover)
def dD(P:Program)(rd:Bool):Code->Prop
 |.skip|.label _|.exit _|.goto _|.ret=>True
 |.refuse y=>y≠ ""
 |.region _ ops _=>ak.wall ops\/∀o∈ops,vW P rd o
 |.seq a b=>dD P rd a/\dD P rd b
 |.cond c a b=>cM c/\dD P rd a/\dD P rd b
 |.block _ c|.loop c|.scope c=>dD P rd c
 |.rangeFunc f _ aBN bd=>cM f/\ak.code aBN/\ak.code bd
structure kX(P:Program):Prop extends Fit P where
 code:∀c,ak.code c->dD P true c
 ret:ak.code .ret
 exit:∀i,ak.code (.exit i)
 goto:∀i,ak.code (.goto i)
 body:∀f fn c,ak.cV f->P.funcs[f]?=some fn->fn.body=some c->dD P false c
inductive IT(P:Program)(r:Rn)(rd:Bool):Item->Item->Prop
 |code {c:Code}:dD P rd c->IT P r rd (.code c) (.code c)
 |inBlock (i:Nat):IT P r rd (.inBlock i) (.inBlock i)
 |inLoop {c:Code}:dD P rd c->IT P r rd (.inLoop c) (.inLoop c)
 |inScope {c:Code}:dD P rd c->IT P r rd (.inScope c) (.inScope c)
 |inRegion {ops:Array Oper} (l:List Nat):(∀i∈l,∀o,ops[i]?=some o->vW P rd o)->IT P r rd (.inRegion ops l) (.inRegion ops l)
 |inRangeFunc {l l':Nat}:r l=some l'->IT P r rd (.inRangeFunc l) (.inRangeFunc l')
 |endRangeFunc {l l':Nat}:r l=some l'->IT P r rd (.endRangeFunc l) (.endRangeFunc l')
 |beginRound:IT P r rd .beginRound .beginRound
def Ab:List Item->Bool
 |[]|.code _::_|.inBlock _::_|.inLoop _::_|.inScope _::_=>true
 |_=>false
inductive IL(P:Program)(r:Rn)(rd bz:Bool):List Item->List Item->Prop
 |nil:IL P r rd bz [] []
 |rest {k':List Item}:rd=false->bz=true->ak.rest k'->Ab k'=true->IL P r rd bz [.code (.refuse "")] k'
 |cons {x y:Item} {k k':List Item}:IT P r rd x y->IL P r rd bz k k'->IL P r rd bz (x::k) (y::k')
structure PE(r:Rn)(x y:PanicEntry):Prop where
 v:V r x.v y.v
 recovered:y.recovered=x.recovered
 goexit:y.goexit=x.goexit
inductive JZ(r:Rn):List PanicEntry->List PanicEntry->Prop
 |nil:JZ r [] []
 |cons {x y:PanicEntry} {k k':List PanicEntry}:PE r x y->JZ r k k'->JZ r (x::k) (y::k')
inductive MD(r:Rn):FrameMode->FrameMode->Prop
 |run:MD r .run .run
 |returning:MD r .returning .returning
 |panicking {k k':List PanicEntry}:JZ r k k'->MD r (.panicking k) (.panicking k')
inductive DB(r:Rn)(bz:Bool):List Deferred->List Deferred->Prop
 |nil:DB r bz [] []
 |rest {l':List Deferred}:bz=true->ak.pD l'->DB r bz [] l'
 |cons {d d':Deferred} {l l':List Deferred}:Df r d d'->DB r bz l l'->DB r bz (d::l) (d'::l')
structure FR(P:Program)(r:Rn)(bz:Bool)(f f':Frame):Prop where
 fn:f'.fn=f.fn
 tmps:VA r f.tmps f'.tmps
 todo:IL P r f.roundOf.isSome bz f.todo f'.todo
 defers:DB r bz f.defers f'.defers
 mode:MD r f.mode f'.mode
 kind:f'.kind=f.kind
 kinds:f.kind=.normal\/f.kind=.deferred
 round:LO r f.roundOf f'.roundOf
 has:f.roundOf=none->∃fn,P.funcs[f.fn]?=some fn
inductive SL(P:Program)(r:Rn)(cs cL:List Frame):Nat->List Frame->List Frame->Prop
 |base:SL P r cs cL 0 cs cL
 |cons {n:Nat} {f f':Frame} {l l':List Frame}:FR P r (n==0) f f'->(n=0->f.roundOf=none/\f.kind=.normal)->SL P r cs cL n l l'->SL P r cs cL (n+1) (f::l) (f'::l')
theorem IT.mono{s:Rn}(h:Le r s){x y:Item}(k:IT P r rd x y):IT P s rd x y:=by
 cases k with
 |code c=>exact .code c
 |inBlock i=>exact .inBlock i
 |inLoop c=>exact .inLoop c
 |inScope c=>exact .inScope c
 |inRegion l o=>exact .inRegion l o
 |inRangeFunc e=>exact .inRangeFunc (h _ _ e)
 |endRangeFunc e=>exact .endRangeFunc (h _ _ e)
 |beginRound=>exact .beginRound
theorem IL.mono{s:Rn}(h:Le r s){x y:List Item}(k:IL P r rd bz x y):IL P s rd bz x y:=by
 induction k with
 |nil=>exact .nil
 |rest a b c d=>exact .rest a b c d
 |cons a _ ih=>exact .cons (a.mono h) ih
theorem PE.mono{s:Rn}(h:Le r s){x y:PanicEntry}(k:PE r x y):PE s x y:=⟨k.v.mono h,k.recovered,k.goexit⟩
theorem JZ.mono{s:Rn}(h:Le r s){x y:List _}(k:JZ r x y):JZ s x y:=by
 induction k with
 |nil=>exact .nil
 |cons a _ ih=>exact .cons (a.mono h) ih
theorem JZ.append{x y x' y':List _}(h:JZ r x y)(k:JZ r x' y'):JZ r (x++x') (y++y'):=by
 induction h with
 |nil=>exact k
 |cons a _ ih=>exact .cons a ih
theorem MD.mono{s:Rn}(h:Le r s){x y:FrameMode}(k:MD r x y):MD s x y:=by
 cases k with
 |run=>exact .run
 |returning=>exact .returning
 |panicking p=>exact .panicking (p.mono h)
theorem DB.mono{s:Rn}(h:Le r s){x y:List _}(k:DB r bz x y):DB s bz x y:=by
 induction k with
 |nil=>exact .nil
 |rest a b=>exact .rest a b
 |cons a _ ih=>exact .cons (a.mono h) ih
theorem DL.agd{x y x' y':List _}(h:DL r x y)(k:DB r bz x' y'):DB r bz (x++x') (y++y'):=by
 induction h with
 |nil=>exact k
 |cons a _ ih=>exact .cons a ih
theorem FR.mono{s:Rn}(h:Le r s)(k:FR P r bz f f'):FR P s bz f f':=⟨k.fn,k.tmps.mono h,k.todo.mono h,k.defers.mono h,k.mode.mono h,k.kind,k.kinds,k.round.mono h,k.has⟩
theorem SL.mono{s:Rn}{cs cL:List _}(h:Le r s){l l':List _}(k:SL P r cs cL n l l'):SL P s cs cL n l l':=by
 induction k with
 |base=>exact .base
 |cons f b _ ih=>exact .cons (f.mono h) b ih
theorem VA.getD{c c':Array _}(h:VA r c c')(i:Nat):V r (c.getD i undef) (c'.getD i undef):=by
 have e:∀a:Array _,a.getD i undef=(a[i]?).getD undef:=fun a=>by simp
 rw[e,e];cases hc:c[i]? with
 |some x=>obtain⟨x',e',hv⟩:=h.get hc;simp_all
 |none=>rw[h.none hc];exact .tuple rfl (fun i x x' e=>by simp)
def GI(r:Rn):=∀g,ak.WM g->r g=some g
theorem GI.mono{s:Rn}(h:Le r s)(k:GI r):GI s:=fun g hg=>h _ _ (k g hg)
theorem FR.eval(h:FR P r bz f f')(g:GI r)(x:Operand)(hx:cM x):V r (f.eval x) (f'.eval x):=by
 cases x with
 |tmp t=>exact h.tmps.getD t
 |const v=>exact hx r
 |global i=>exact .ptr ⟨g i hx,rfl,rfl⟩
 |func f=>exact .func (.func hx) rfl (fun i x x' e=>by simp) rfl (fun i x x' e=>by simp)
theorem Lg{ops:Array _}{c c':Array _}(h:VA r c c'):yielded ops c'=yielded ops c:=by
 funext j;unfold yielded;cases hd:(ops[j]?).bind _ with
 |none=>rfl
 |some d=>
  simp;cases hc:c[d]? with
  |none=>rw[h.none hc]
  |some x=>
   obtain⟨x',e,hv⟩:=h.get hc;rw[e];cases hv with
   |blank hb=>cases x'<;>first|rfl|(simp[Hid]at hb)
   |_=>rfl
theorem FR.finish(h:FR P r bz f f'){v:Value}(hv:V r v v'):FR P r bz (f.finish v) (f'.finish v'):=by
 obtain⟨fn,tmps,todo,defers,mode,kind,ro⟩:=f;obtain⟨mN,nS,C_,oG,x_,iP,W3⟩:=f';obtain⟨h1,h2,h3,h4,h5,h6,h7,h8,h9⟩:=h;simp only at h1 h2 h3 h4 h5 h6 h7 h8 h9;unfold agH;cases h3 with
 |nil=>exact⟨h1,h2,.nil,h4,h5,h6,h7,h8,h9⟩
 |rest a b c d=>
  cases C_ with
  |nil=>exact⟨h1,h2,.rest a b c d,h4,h5,h6,h7,h8,h9⟩
  |cons x q=>cases x<;>first|exact⟨h1,h2,.rest a b c d,h4,h5,h6,h7,h8,h9⟩|(simp[Ab]at d)
 |cons hi hk=>
  cases hi with
  |code c=>exact⟨h1,h2,.cons (.code c) hk,h4,h5,h6,h7,h8,h9⟩
  |inBlock i=>exact⟨h1,h2,.cons (.inBlock i) hk,h4,h5,h6,h7,h8,h9⟩
  |inLoop c=>exact⟨h1,h2,.cons (.inLoop c) hk,h4,h5,h6,h7,h8,h9⟩
  |inScope c=>exact⟨h1,h2,.cons (.inScope c) hk,h4,h5,h6,h7,h8,h9⟩
  |inRegion l ho=>
   cases l with
   |nil=>exact⟨h1,h2,.cons (.inRegion [] ho) hk,h4,h5,h6,h7,h8,h9⟩
   |cons i rest=>
    refine⟨h1,?_,.cons (.inRegion rest fun j hj=>ho j (by simp[hj])) hk,h4,h5,h6,h7,h8,h9⟩;simp only;split
    ·exact h2.set _ hv
    ·exact h2
  |inRangeFunc e=>exact⟨h1,h2,.cons (.endRangeFunc e) hk,h4,h5,h6,h7,h8,h9⟩
  |endRangeFunc e=>exact⟨h1,h2,.cons (.endRangeFunc e) hk,h4,h5,h6,h7,h8,h9⟩
  |beginRound=>exact⟨h1,h2,hk,h4,h5,h6,h7,h8,h9⟩
theorem FR.raise(h:FR P r bz f f'){x y:List _}(hx:JZ r x y):FR P r bz (f.raise x) (f'.raise y):=by
 have hm:=h.mode;unfold agM;cases hm1:f.mode<;>cases W4:f'.mode<;>rw[hm1,W4]at hm<;>cases hm
 ·exact⟨h.fn,h.tmps,h.todo,h.defers,.panicking hx,h.kind,h.kinds,h.round,h.has⟩
 ·exact⟨h.fn,h.tmps,h.todo,h.defers,.panicking hx,h.kind,h.kinds,h.round,h.has⟩
 ·rename_i hp;exact⟨h.fn,h.tmps,h.todo,h.defers,.panicking (hx.append hp),h.kind,h.kinds,h.round,h.has⟩
theorem FR.enter(F:kX P){f:FuncId}(hg:ak.cV f){a a':Array _}(ha:VA r a a'){k:CallKind}(hk:k=.normal\/k=.deferred):FR P r bz (ags P f a k) (ags P f a' k):=by
 obtain⟨fn,hf⟩:=F.cV f hg;unfold ags;refine⟨rfl,?_,.cons (.code ?_) .nil,.nil,.run,rfl,hk,.none,fun _=>⟨fn,hf.has⟩⟩
 ·simp[<-ha.size];exact ha.append (.rep _ (.tuple rfl (fun i x x' e=>by simp)))
 ·simp[hf.has,Option.bind_some];cases hb:fn.body with
  |none=>exact(by simp:("unsupported: a function without a Go body is entered")≠ "")
  |some c=>exact F.body f fn c hg hf.has hb
theorem FR.roundOf(F:kX P){l l':Nat}(hl:r l=some l')(f:FuncId){t t':Array _}(ht:VA r t t'){aBN bd:Code}(ha:ak.code aBN)(hb:ak.code bd){k:CallKind}(hk:k=.normal\/k=.deferred):FR P r bz (Frame.round l f t aBN bd k) (Frame.round l' f t' aBN bd k):=
 ⟨rfl,ht,.cons (.code (F.code aBN ha)) (.cons .beginRound (.cons (.code (F.code bd hb)) .nil)),.nil,.run,rfl,hk,.some hl,fun h=>by cases h⟩
theorem IL.exitTo(i:Nat){k:List Item}(h:IL P r rd bz k k'):(exitTo i k=none/\(rd=false\/exitTo i k'=none))\/∃m m',exitTo i k=some m/\exitTo i k'=some m'/\IL P r rd bz m m':=by
 induction h with
 |nil=>exact .inl ⟨rfl,.inr rfl⟩
 |rest a b c d=>exact .inl ⟨rfl,.inl a⟩
 |cons a b ih=>
  cases a with
  |inBlock j=>
   unfold Go.exitTo;by_cases hj:(j==i)=true
   ·rw[if_pos hj,if_pos hj];exact .inr ⟨_,_,rfl,rfl,b⟩
   ·rw[if_neg hj,if_neg hj];exact ih
  |_=>exact ih
theorem dD.findLabel:∀{c:Code} {l:Nat} {d:Code},dD P rd c->findLabel c l=some d->dD P rd d:=by
 intro c;induction c with
 |seq a b Rp V6=>
  intro l d h e;unfold Go.findLabel at e;cases ha:Go.findLabel a l with
  |some x=>rw[ha]at e;rw[<-af4 e];exact⟨Rp h.1 ha,h.2⟩
  |none=>rw[ha]at e;exact V6 h.2 e
 |label j=>
  intro l d h e;unfold Go.findLabel at e;split at e
  ·rw[<-af4 e];exact trivial
  ·cases e
 |_=>intro l d h e;simp[Go.findLabel]at e
theorem IL.gotoIn(i:Nat){k:List Item}(h:IL P r rd bz k k'):(gotoIn i k=none/\(rd=false\/gotoIn i k'=none))\/∃m m',gotoIn i k=some m/\gotoIn i k'=some m'/\IL P r rd bz m m':=by
 induction h with
 |nil=>exact .inl ⟨rfl,.inr rfl⟩
 |rest a b c d=>exact .inl ⟨rfl,.inl a⟩
 |cons a b ih=>
  cases a with
  |inScope hc=>
   rename_i c;unfold Go.gotoIn;cases hf:Go.findLabel c i with
   |some d=>exact .inr ⟨_,_,rfl,rfl,.cons (.code (hc.findLabel hf)) (.cons (.inScope hc) b)⟩
   |none=>exact ih
  |_=>exact ih
theorem NK{β:Type}(g g':β->Sem _):∀(l:List β) r,(∀b s,Le r s->SR P V s (g b) (g' b))->SR P VL r (l.mapM g) (l.mapM g')
 |[],r,h=>by exact .pure .nil
 |b::l,r,h=>by
  rw[List.mapM_cons,List.mapM_cons];refine af3 (h b r (.refl _)) ?_;intro t x x' l1 hx;refine af3 (NK g g' l t fun b s l2=>h b s (l1.trans l2)) ?_;intro u xs xs' l2 hxs;exact .pure (.cons (hx.mono l2) hxs)
theorem Ac{fn:Func}{c c':Array _}(h:VA r c c'):SR P V r (results fn c) (results fn c'):=by
 unfold results;rw[ahW,ahW];refine af3 (af3 (NK _ _ _ r ?_) fun _ _ _ _ e=>.pure e.toArray) ?_
 ·intro rv s l;cases rv with
  |tmp t=>exact .pure ((h.getD t).mono l)
  |cell a t=>exact af3 (C0 ((h.getD a).mono l)) fun _ _ _ _ e=>zX t e
 ·intro t x y l CU;by_cases hs:x.size=1
  ·have qb:y.size=1:=by rw[<-CU.size];exact hs
   exact .pure (CU.at_ 0 _ _ (by simp[hs]) (by simp_all))
  ·have qb:¬y.size=1:=by rw[<-CU.size];exact hs
   rw[dif_neg hs,dif_neg qb];exact .pure (.tuple CU.size CU.at_)
end
section
variable[ak]{P:Program}{r:Rn}{c:Nat}{cs cL:List Frame}{v w:World}
def Rq:GStep->World
 |.go _ w _|.comm _ _ _ _ w _|.spawn _ _ w _|.count _ w _|.timer _ _ w _|.alone _ _ w _|.newcoro _ _ _ w _|.coroswitch _ _ _ w _|.collect _ w _|.watch _ w _|.ended _ w _=>w
inductive ST(P:Program)(r:Rn)(c:Nat)(cs cL:List Frame)(v w:World):GStep->GStep->Prop
 |go {n:Nat} {f f':Frame} {l l':List Frame} {v1 w1:World} {es kA:Array Event} (r1:Rn) (c1:Nat):FR P r1 (n==0) f f'->SL P r1 cs cL n l l'->(n=0->f.roundOf=none/\f.kind=.normal)->Out r r1 c c1 v w v1 w1->(∀e∈kA,BN r w w1.heap.size e)->
   ST P r c cs cL v w (.go (G f l) v1 es) (.go (G f' l') w1 kA)
 |ended {o:Outcome} {v1:World} {es:Array Event} {x:GStep}:ST P r c cs cL v w (.ended o v1 es) x
 |zg {s x:GStep}:v.drawn+c<(Rq s).drawn->w.drawn+c<(Rq x).drawn->ST P r c cs cL v w s x
omit [ak]in
theorem et(es:Array _)(s:GStep):Rq (agh es s)=Rq s:=by cases s<;>rfl
omit [ak]in
theorem tV{α:Type}{s:Sem α}{a:α}{u:World}(h:s.run P u=.ok a u1):u.drawn<=u1.drawn:=by
 have:=qG (P:=P) s u;rw[h]at this;exact this
omit [ak]in
theorem sr{α:Type}{s:Sem α}{a:Halt}{u:World}(h:s.run P u=.halt a u1):u.drawn<=u1.drawn:=by
 have:=qG (P:=P) s u;rw[h]at this;exact this
omit [ak]in
theorem Hc(fr:Frame)(l:List Frame)(d:Option Dying)(g:Nat)(u:World):u.drawn<=(Rq (early P fr l d g u)).drawn:=by
 unfold early;dsimp only
 repeat' split
 all_goals first|exact agb _|skip
 ·rename_i e _ _ _ _;exact agn (tV e) (agb _)
 ·rename_i e _ _;exact tV e
 ·rename_i e;exact tV e
 ·rename_i e;exact sr e
omit [ak]in
theorem qc(f:Frame)(l:List Frame)(d:Option Dying)(m:String)(u:World):u.drawn<=(Rq (endFatal P f l d m u)).drawn:=by
 unfold endFatal dieOf;dsimp only;split
 ·rename_i e;exact tV e
 ·rename_i e;exact sr e
 ·first|exact sr ‹_›
omit [ak]in
theorem ya{s:Sem Next}{d:Option Dying}(u:World):(s.run P u).world.drawn<=(Rq (agj P true f l d s u)).drawn:=by
 unfold agj;simp only[if_true,et];have e1:(s.runT P u #[]).1=s.run P u:=by simp
 generalize s.runT P u #[]=sv at e1;obtain⟨rv,e0⟩:=sv;subst e1;cases s.run P u with
 |ok a v=>
  cases a<;>(try simp only)<;>first
   |exact agb _
   |(repeat' split)<;>exact agb _
 |halt a v=>
  cases a<;>(try simp only)<;>first
   |exact agb _
   |exact qc _ _ _ _ _
   |(rename_i uu;cases uu<;>first|exact agb _|exact Hc _ _ _ _ _)
theorem kY:∀e∈(#[]),BN r w u e:=by simp
theorem Hd(f:Bool×Array _->Event->Bool×Array _)(hf:∀x a,e∈(f x a).2->e∈x.2\/e=a):∀(l:List _) x,e∈(l.foldl f x).2->e∈x.2\/e∈l
 |[],x,h=>.inl h
 |a::l,x,h=>by
  rcases Hd f hf l _ h with y|y
  ·exact(hf x a y).imp id fun z=>by simp_all
  ·simp_all
theorem mem_seen(fn:FuncId)(es:Array _):∀e∈seen P fn es,e∈es:=by
 intro e he;dsimp only[seen]at he;rw[<-aiU]at he;refine(Hd _ ?_ _ _ he).elim (fun x=>by simp at x) (fun x=>Array.mem_toList_iff.1 x);rintro⟨q,kept⟩ a h;split at h
 ·simp_all
 ·split at h
  ·simp_all
  ·simp_all
theorem ST.after{r1:Rn}{c1:Nat}{w1:World}{s s':GStep}(o:Out r r1 c c1 v w v1 w1)(h:ST P r1 c1 cs cL v1 w1 s s')(es kA:Array _)(he:∀e∈kA,BN r w w1.heap.size e):ST P r c cs cL v w (agh es s) (agh kA s'):=by
 cases h with
 |go r2 c2 a b d o2 e=>exact .go r2 c2 a b d (o.trans o2) fun x hx=>(ajv.1 hx).elim (fun y=>(he x y).mono o2.grow) (fun y=>(e x y).back o o2.grow)
 |ended=>exact .ended
 |zg h k=>exact .zg (by rw[et];have:=o.drew;omega) (by rw[et];have:=o.CV;omega)
theorem SU(h:FR P r bz f f'):
  FR P r bz (match f.mode with|.panicking ({recovered:=true,..}::CN)=>(match CN.dropWhile (!·.goexit)with|[]=>{f with mode:=.returning}|rest=>{f with mode:=.panicking rest})|_=>f)
   (match f'.mode with|.panicking ({recovered:=true,..}::CN)=>(match CN.dropWhile (!·.goexit)with|[]=>{f' with mode:=.returning}|rest=>{f' with mode:=.panicking rest})|_=>f'):=by
 have hm:=h.mode;generalize f.mode=m at hm;generalize f'.mode=m' at hm;cases hm with
 |run=>exact h
 |returning=>exact h
 |panicking hp=>
  cases hp with
  |nil=>exact h
  |cons a b=>
   rename_i x y k k';obtain⟨xv,xr,xg⟩:=x;obtain⟨yv,yr,yg⟩:=y;obtain⟨a1,a2,a3⟩:=a;subst a2;cases yr with
   |false=>exact h
   |true=>
    have dw:JZ r (k.dropWhile (!·.goexit)) (k'.dropWhile (!·.goexit)):=by
     induction b with
     |nil=>exact .nil
     |cons p q ih=>
      simp[List.dropWhile_cons,p.goexit];split
      ·omega
      ·exact .cons p q
    simp only;generalize k.dropWhile _=z at dw;generalize k'.dropWhile _=z' at dw;cases dw with
    |nil=>exact⟨h.fn,h.tmps,h.todo,h.defers,.returning,h.kind,h.kinds,h.round,h.has⟩
    |cons p q=>exact⟨h.fn,h.tmps,h.todo,h.defers,.panicking (.cons p q),h.kind,h.kinds,h.round,h.has⟩
theorem Ae{l l':List _}(hf:FR P r (n==0) f f')(hb:n=0->f.roundOf=none/\f.kind=.normal)(hs:SL P r cs cL n l l'):
  (tryRecover f l=none/\tryRecover f' l'=none)\/∃x x' m m',tryRecover f l=some (x,m)/\tryRecover f' l'=some (x',m')/\V r x x'/\SL P r cs cL n m m':=by
 have hk:=hf.kind;unfold tryRecover;rw[hk];rcases hf.kinds with h|h
 ·simp_all
 ·rw[h];cases hs with
  |base=>exact absurd ((hb rfl).2.symm.trans h) (by simp)
  |cons a b d=>
   rename_i k g g' l l';simp only;have hm:=a.mode;generalize hmg:g.mode=m at hm;generalize avd:g'.mode=m' at hm;cases hm with
   |run=>exact .inl ⟨rfl,rfl⟩
   |returning=>exact .inl ⟨rfl,rfl⟩
   |panicking hp=>
    cases hp with
    |nil=>exact .inl ⟨rfl,rfl⟩
    |cons p q=>
     rename_i x y k k';obtain⟨xv,xr,xg⟩:=x;obtain⟨yv,yr,yg⟩:=y;obtain⟨a1,a2,a3⟩:=p;subst a2;subst a3;cases yr<;>cases yg<;>first
      |exact .inl ⟨rfl,rfl⟩
      |exact .inr ⟨_,_,_,_,rfl,rfl,a1,.cons ⟨a.fn,a.tmps,a.todo,a.defers,.panicking (.cons ⟨a1,rfl,rfl⟩ q),a.kind,a.kinds,a.round,a.has⟩ b d⟩
theorem vX{l l':List _}(hf:FR P r bz f f')(hs:SL P r cs cL (n+1) l l')(hw:W r c v w)(hx:V r x x')(main main':Bool):ST P r c cs cL v w (doReturn P main f l none x v) (doReturn P main' f' l' none x' w):=by
 cases hs with
 |cons a b d=>
  unfold doReturn;rw[hf.kind];rcases hf.kinds with h|h
  ·rw[h];refine .go r c (a.finish hx) d ?_ (.refl hw) kY;intro h0;have:=b h0;unfold agH;split<;>exact this
  ·rw[h];have bd:=SU a;refine .go r c bd d ?_ (.refl hw) kY;intro h0;have:=b h0;split
   ·split<;>exact this
   ·omega
theorem SV(hb:n=0->f.roundOf=none/\f.kind=.normal)(ds:List _)(x:Value):n=0->(agH {f with defers:=ds} x).roundOf=none/\(agH {f with defers:=ds} x).kind=.normal:=fun h0=>by
 have:=hb h0;unfold agH;split<;>exact this
theorem W5{a b:Option Nat}(h:LO r a b)(e:a=none):b=none:=by
 cases h with
 |none=>rfl
 |some _=>cases e
theorem Af(F:kX P){s s':Sem Next}(h:SR P (NX (f.roundOf.isNone)) r s s')(hf:FR P r (n==0) f f')(hb:n=0->f.roundOf=none/\f.kind=.normal)(hs:SL P r cs cL n l l')(hw:W r c v w):
  ST P r c cs cL v w (agj P true f l none s v) (agj P true f' l' none s' w):=by
 have bj:(f.kind==CallKind.early)=false:=by rcases hf.kinds with h|h<;>rw[h]<;>rfl
 have abZ:(f'.kind==CallKind.early)=false:=by rw[hf.kind];exact bj
 have Rk:∀(x:Value),n=0->(f.finish x).roundOf=none/\(f.finish x).kind=.normal:=fun x h0=>by
  have:=hb h0;unfold agH;split<;>exact this
 have W6:∀(x:List PanicEntry),n=0->(f.raise x).roundOf=none/\(f.raise x).kind=.normal:=fun x h0=>by
  have:=hb h0;unfold agM;split<;>exact this
 have run:=h.run F.Cc #[] hw;by_cases W7:v.drawn+c<(s.run P v).world.drawn/\w.drawn+c<(s'.runT P w #[]).1.world.drawn
 ·refine .zg (af5 W7.1 (ya v)) (af5 ?_ (ya w));have:=W7.2;rw[ajh]at this;exact this
 unfold agj;simp only[if_true,bj,abZ,Bool.false_eq_true,if_false];have ev:∀{fs:Array Event} {u:Nat},(∀e∈fs,e∈(#[]:Array Event)\/BN r w u e)->∀e∈seen P f'.fn fs,BN r w u e:=fun hh e he=>(hh e (mem_seen _ _ e he)).elim (fun x=>by simp at x) id;have e1:(s.runT P v #[]).1=s.run P v:=by rw[ajh]
 generalize qd:s.runT P v #[]=sv at e1;generalize vw:s'.runT P w #[]=sw at run;obtain⟨rv,ev0⟩:=sv;simp only at e1;subst e1;simp only;generalize hrv:s.run P v=rv at run;cases run with
 |zg h k=>rw[hrv,vw]at W7;exact absurd ⟨h,k⟩ W7
 |lost h=>
  rename_i x v1 y;rcases h with⟨u,rfl,hu⟩|⟨y,rfl⟩
  ·cases u<;>first|exact .ended|(simp[EC]at hu)
  ·exact .ended
 |halt r1 c1 o hh he=>
  cases hh with
  |panic hv=>exact ST.after o (.go r1 c1 ((hf.mono o.le).raise (JZ.cons (x:=⟨_,false,false⟩) (y:=⟨_,false,false⟩) ⟨hv,rfl,rfl⟩ .nil)) (hs.mono o.le) (W6 _) (.refl o.wl) kY) _ _ (ev he)
 |ok r1 c1 o hx he=>
  have rE:=hf.mono o.le;have pE:=hs.mono o.le;cases hx with
  |value hv=>exact ST.after o (.go r1 c1 (rE.finish hv) pE (Rk _) (.refl o.wl) kY) _ _ (ev he)
  |skip=>exact ST.after o (.go r1 c1 (rE.finish (.tuple rfl (fun i x x' e=>by simp at e))) pE (Rk _) (.refl o.wl) kY) _ _ (ev he)
  |enter hg ha=>
   refine ST.after o ?_ _ _ (ev he);dsimp only;have ht:=hf.todo;split
   ·rename_i e;rw[e]at ht;generalize f'.todo=z at ht;cases ht with
    |cons a _=>cases a
   ·split
    ·rename_i e;rw[e]at ht;generalize f.todo=z at ht;cases ht with
     |rest _ _ _ d=>simp[Ab]at d
     |cons a _=>cases a
    ·exact .go r1 c1 (FR.enter F hg ha (.inl rfl)) (.cons rE hb pE) (fun h=>by omega) (.refl o.wl) kY
  |defer hd=>exact ST.after o (.go r1 c1 (FR.finish (f:={f with defers:=_::f.defers}) (f':={f' with defers:=_::f'.defers}) ⟨rE.fn,rE.tmps,rE.todo,.cons hd rE.defers,rE.mode,rE.kind,rE.kinds,rE.round,rE.has⟩ (.tuple rfl (fun i x x' e=>by simp at e))) pE (SV hb _ _) (.refl o.wl) kY) _ _ (ev he)
  |round hl ht ha di=>exact ST.after o (.go r1 c1 (FR.roundOf F hl _ ht ha di (.inl rfl)) (.cons rE hb pE) (fun h=>by omega) (.refl o.wl) kY) _ _ (ev he)
  |recover hbb=>
   have fL:f.roundOf=none:=by simpa using hbb
   have ani:f'.roundOf=none:=W5 hf.round fL;simp only[fL,ani];refine ST.after o ?_ _ _ (ev he);rcases Ae rE hb pE with⟨q1,q2⟩|⟨x,x',m,m',q1,q2,hx,hm⟩
   ·rw[q1,q2];exact .go r1 c1 (rE.finish .nilIface) pE (Rk _) (.refl o.wl) kY
   ·rw[q1,q2];exact .go r1 c1 (rE.finish hx) hm (Rk _) (.refl o.wl) kY
end
section
variable[ak]{P:Program}{r:Rn}{c:Nat}{cs cL:List Frame}{v w:World}
theorem Da{α:Type}{A:Rn->α->α->Prop}(F:kX P){s s':Sem α}(h:SR P A r s s')(hw:W r c v w){rv:Result α}{e0:Array _}{BO:Result α×Array _}(qd:s.runT P v #[]=(rv,e0))(vw:s'.runT P w #[]=BO):RR A r c #[] v w rv BO:=by
 have:=h.run F.Cc #[] hw;simp_all
theorem nT{fs:Array _}{fn:FuncId}(hh:∀e∈fs,e∈(#[])\/BN r w u e):∀e∈seen P fn fs,BN r w u e:=fun e he=>(hh e (mem_seen _ _ e he)).elim (fun x=>by simp at x) id
omit [ak]in
theorem kZ(main:Bool)(f:Frame)(l:List _)(d:Option _)(x:Value)(u:World):u.drawn<=(Rq (doReturn P main f l d x u)).drawn:=by
 unfold doReturn
 repeat' split
 all_goals exact agb _
theorem tX(F:kX P){l l':List _}(hf:FR P r bz f f')(hs:SL P r cs cL (n+1) l l')(hw:W r c v w){b:Nat}(e:r b=some b'){j:Option _}(hj:∀c,j=some c->ak.code c)(main main':Bool){rv BO:Result _}{e0 e1:Array _}
  (qd:(af7 b j).runT P v #[]=(rv,e0))(vw:(af7 b' j).runT P w #[]=(BO,e1)){s s':GStep}(hk:∀x u,rv=.ok x u->s=agh (seen P f.fn e0) (doReturn P main f l none x u))(oo:∀x u,BO=.ok x u->s'=agh (seen P f'.fn e1) (doReturn P main' f' l' none x u))(hh:∀h u,rv=.halt h u->∃o es,s=.ended o u es)(hh':∀h u,BO=.halt h u->∃o es,s'=.ended o u es):
  ST P r c cs cL v w s s':=by
 have run:=Da F (Hb e hj) hw qd vw;cases run with
 |zg h k=>
  refine .zg ?_ ?_
  ·cases rv with
   |ok x y=>rw[hk x y rfl,et];exact af5 h (kZ ..)
   |halt x y=>obtain⟨o,es,e⟩:=hh x y rfl;rw[e];exact h
  ·cases BO with
   |ok x y=>rw[oo x y rfl,et];exact af5 k (kZ ..)
   |halt x y=>obtain⟨o,es,e⟩:=hh' x y rfl;rw[e];exact k
 |@lost x v1 _ _=>
  obtain⟨o,es,h⟩:=hh x v1 rfl;rw[h];exact ST.ended
 |@halt x _ v1 _ _ r1 c1 o hl he=>
  obtain⟨o,es,h⟩:=hh x v1 rfl;rw[h];exact ST.ended
 |ok r1 c1 o hx he=>
  rw[hk _ _ rfl,oo _ _ rfl];exact ST.after o ((vX (hf.mono o.le) (hs.mono o.le) o.wl hx _ _)) _ _ (nT he)
theorem Lh{p:Prop}[Decidable p]{a b a' b':GStep}(h:p->ST P r c cs cL v w a a')(k:¬p->ST P r c cs cL v w b b'):ST P r c cs cL v w (if p then a else b) (if p then a' else b'):=by
 by_cases hp:p
 ·simp_all
 ·simp_all
theorem vW.ab0{o:Oper}(h:vW P true o)(b:Bool):vW P b o:=⟨h.1,fun _=>h.2 rfl⟩
theorem dD.ab0:∀{d:Code},dD P true d->∀b,dD P b d:=by
 intro d;induction d with
 |region i ops dr=>exact fun h b=>h.imp id fun h o ho=>(h o ho).ab0 b
 |seq a b Rp V6=>exact fun h b=>⟨Rp h.1 b,V6 h.2 b⟩
 |cond q a b Rp V6=>exact fun h b=>⟨h.1,Rp h.2.1 b,V6 h.2.2 b⟩
 |block i d ih=>exact fun h b=>ih h b
 |loop d ih=>exact fun h b=>ih h b
 |scope d ih=>exact fun h b=>ih h b
 |_=>exact fun h _=>h
theorem yQ{fn:FuncId}{tmps:Array _}{ps:Array Tmp}{aBN bd:Code}{rv:Result _}{e0:Array _}(h:(agi fn tmps ps aBN bd o).runT P v #[]=(rv,e0)):rv.world.drawn=v.drawn:=by
 have e1:((agi fn tmps ps aBN bd o).runT P v #[]).1=(agi fn tmps ps aBN bd o).run P v:=by simp
 rw[h]at e1;simp only at e1;rw[e1];unfold agi;cases o with
 |none=>simp[ai8,Result.world]
 |some q=>
  unfold aiE getObj;simp[bind,Sem.bind,ai8];cases v.heap[q]? with
  |none=>rfl
  |some ob=>cases ob<;>rfl
theorem W8(F:kX P)(gi:GI r)(hf:FR P r (n==0) f f')(hb:n=0->f.roundOf=none/\f.kind=.normal)(hs:SL P r cs cL n l l')(hw:W r c v w)(main main':Bool)(hm:f.mode=.run)(He:∀i ops dr k,f.todo=.code (.region i ops dr)::k->¬ak.wall ops):
  ST P r c cs cL v w (agf P main true f l none v) (agf P main' true f' l' none w):=by
 have pF:=fun x (hx:cM x)=>hf.eval gi x hx;have Pj:=hf;obtain⟨fn,tmps,todo,defers,mode,kind,ro⟩:=f;obtain⟨mN,nS,C_,oG,x_,iP,W3⟩:=f';obtain⟨h1,h2,h3,h4,h5,h6,h7,h8,h9⟩:=hf;simp only at h1 h2 h3 h4 h5 h6 h7 h8 h9 hb hm;subst h1 h6;have anj:∀{r1:Rn} {c1:Nat} {v1 w1:World} {t t':List Item},Out r r1 c c1 v w v1 w1->IL P r1 ro.isSome (n==0) t t'->ST P r1 c1 cs cL v1 w1 (.go (G ⟨mN,tmps,t,defers,mode,iP,ro⟩ l) v1) (.go (G ⟨mN,nS,t',oG,x_,iP,W3⟩ l') w1):=
  fun{r1 c1 v1 w1 t t'} o ht=>.go r1 c1 ⟨rfl,h2.mono o.le,ht,h4.mono o.le,h5.mono o.le,rfl,h7,h8.mono o.le,h9⟩ (hs.mono o.le) hb (.refl o.wl) kY
 have tog:∀{r1:Rn} {c1:Nat} {v1 w1:World} {t t':List Item},Out r r1 c c1 v w v1 w1->IL P r1 ro.isSome (n==0) t t'->ST P r c cs cL v w (.go (G ⟨mN,tmps,t,defers,mode,iP,ro⟩ l) v1) (.go (G ⟨mN,nS,t',oG,x_,iP,W3⟩ l') w1):=
  fun{r1 c1 v1 w1 t t'} o ht=>.go r1 c1 ⟨rfl,h2.mono o.le,ht,h4.mono o.le,h5.mono o.le,rfl,h7,h8.mono o.le,h9⟩ (hs.mono o.le) hb o kY
 have to:∀{t t':List Item},IL P r ro.isSome (n==0) t t'->ST P r c cs cL v w (.go (G ⟨mN,tmps,t,defers,mode,iP,ro⟩ l) v) (.go (G ⟨mN,nS,t',oG,x_,iP,W3⟩ l') w):=
  fun ht=>.go r c ⟨rfl,h2,ht,h4,h5,rfl,h7,h8,h9⟩ hs hb (.refl hw) kY
 have W6:∀(x:List PanicEntry),n=0->(agM ⟨mN,tmps,todo,defers,mode,iP,ro⟩ x).roundOf=none/\(agM ⟨mN,tmps,todo,defers,mode,iP,ro⟩ x).kind=.normal:=fun x h0=>by
  have:=hb h0;unfold agM;split<;>exact this
 have SW:ro=none->ST P r c cs cL v w (.go (G ⟨mN,tmps,todo,defers,.returning,iP,ro⟩ l) v) (.go (G ⟨mN,nS,C_,oG,.returning,iP,W3⟩ l') w):=
  fun _=>.go r c ⟨rfl,h2,h3,h4,.returning,rfl,h7,h8,h9⟩ hs hb (.refl hw) kY
 have pos:∀q,ro=some q->∃m,n=m+1:=fun q e=>by
  cases n with
  |zero=>have:=(hb rfl).1;rw[e]at this;cases this
  |succ m=>exact⟨m,rfl⟩
 cases h3 with
 |rest a b c d=>exact ST.ended
 |nil=>
  unfold agf;dsimp only;cases h8 with
  |none=>exact SW rfl
  |some e=>
   obtain⟨m,rfl⟩:=pos _ rfl;dsimp only;generalize qd:age P (af7 _ _) v #[]=sv;generalize vw:age P (af7 _ _) w #[]=sw;obtain⟨rv,e0⟩:=sv;obtain⟨BO,e1⟩:=sw;dsimp only;refine tX F Pj hs hw e ?_ main main' qd vw ?_ ?_ ?_ ?_
   ·exact fun _ x=>by cases x
   ·intro x u e;subst e;rfl
   ·intro x u e;subst e;rfl
   ·intro x u e;subst e;exact⟨_,_,rfl⟩
   ·intro x u e;subst e;exact⟨_,_,rfl⟩
 |cons hi hk=>
  cases hi with
  |inBlock i=>exact to hk
  |inScope hc=>exact to hk
  |inLoop hc=>exact to (.cons (.code hc) (.cons (.inLoop hc) hk))
  |inRangeFunc e=>exact ST.ended
  |endRangeFunc e=>
   unfold agf;dsimp only;generalize qd:age P (ahC _) v #[]=sv;generalize vw:age P (ahC _) w #[]=sw;obtain⟨rv,e0⟩:=sv;obtain⟨BO,e1⟩:=sw;dsimp only;have run:=Da F (Lb (P:=P) e) hw qd vw;clear qd vw;cases run with
   |zg h k=>
    refine .zg ?_ ?_
    ·rw[et];cases rv with
     |ok x y=>exact h
     |halt x y=>cases x<;>exact h
    ·rw[et];cases BO with
     |ok x y=>exact k
     |halt x y=>cases x<;>exact k
   |@lost x v1 _ hl=>
    rcases hl with⟨u,rfl,_⟩|⟨y,rfl⟩<;>exact ST.ended
   |halt r1 c1 o hh he=>
    cases hh with
    |panic hv=>exact ST.after o (.go r1 c1 ((Pj.mono o.le).raise (JZ.cons (x:=⟨_,false,false⟩) (y:=⟨_,false,false⟩) ⟨hv,rfl,rfl⟩ .nil)) (hs.mono o.le) (W6 _) (.refl o.wl) kY) _ _ (nT he)
   |@ok jump _ _ _ _ r1 c1 o hx he=>
    obtain⟨e2,hc⟩:=hx;subst e2;refine ST.after o (anj o ?_) _ _ (nT he);cases jump with
    |none=>exact hk.mono o.le
    |some d=>exact .cons (.code ((F.code d (hc d rfl)).ab0 _)) (hk.mono o.le)
  |beginRound=>
   unfold agf;dsimp only;refine Af F ?_ Pj hb hs hw;cases h8 with
   |none=>exact af3 (A:=fun _ _ _=>False) (ae _) fun _ _ _ _ h=>h.elim
   |some e=>exact abU (Cf e)
  |@inRegion ops is ho=>
   cases is with
   |nil=>exact to hk
   |cons i rest=>
    unfold agf;dsimp only;rw[Lg h2];refine Lh (fun _=>?_) (fun _=>?_)
    ·unfold stepG.oper;simp only[Frame.oper?];cases hi:ops[i]? with
     |none=>exact ST.ended
     |some o=>
      have hoo:=ho i (by simp) o hi;have nr:∀c,o.op=.call c->c.callee=.builtin .recover->ro.isNone=true:=fun c e1 e2=>by
       cases ro with
       |none=>rfl
       |some q=>exact absurd e2 ((hoo.2 rfl).2 c e1)
      have key:=Af F (C9 F.toFit (bb:=ro.isNone) pF (fun _=>⟨rfl,rfl⟩) o hoo.1 nr) Pj hb hs hw;cases h8 with
      |none=>exact key
      |some e=>
       have nd:=(hoo.2 rfl).1;dsimp only;split
       ·rename_i e2;exact absurd e2 (nd _)
       ·split
        ·rename_i e2;exact absurd e2 (nd _)
        ·exact key
    ·exact .go r c (Pj.finish (.tuple rfl (fun i x x' e=>by simp at e))) hs (fun h0=>by have:=hb h0;unfold agH;split<;>exact this) (.refl hw) kY
  |code hc=>
   rename_i cd;cases cd with
   |ret=>
    unfold agf;dsimp only;cases h8 with
    |none=>exact SW rfl
    |some e=>
     obtain⟨m,rfl⟩:=pos _ rfl;dsimp only;generalize qd:age P (af7 _ _) v #[]=sv;generalize vw:age P (af7 _ _) w #[]=sw;obtain⟨rv,e0⟩:=sv;obtain⟨BO,e1⟩:=sw;dsimp only;refine tX F Pj hs hw e ?_ main main' qd vw ?_ ?_ ?_ ?_
     ·exact fun _ x=>by cases x;exact F.ret
     ·intro x u e;subst e;rfl
     ·intro x u e;subst e;rfl
     ·intro x u e;subst e;exact⟨_,_,rfl⟩
     ·intro x u e;subst e;exact⟨_,_,rfl⟩
   |skip=>exact to hk
   |label i=>exact to hk
   |seq a b=>exact to (.cons (.code hc.1) (.cons (.code hc.2) hk))
   |cond q a b=>
    unfold agf;dsimp only;have hq:=pF q hc.1;generalize aiD _ q=x at hq⊢;generalize aiD _ q=y at hq⊢;cases hq with
    |bool b=>
     cases b with
     |true=>exact to (.cons (.code hc.2.1) hk)
     |false=>exact to (.cons (.code hc.2.2) hk)
    |_=>exact ST.ended
   |block i d=>exact to (.cons (.code hc) (.cons (.inBlock i) hk))
   |loop d=>exact to (.cons (.code hc) (.cons (.inLoop hc) hk))
   |scope d=>exact to (.cons (.code hc) (.cons (.inScope hc) hk))
   |exit i=>
    unfold agf;dsimp only;rcases hk.exitTo i with⟨q1,q2⟩|⟨m,m',q1,q2,hm⟩
    ·rw[q1];cases h8 with
     |none=>exact ST.ended
     |some e=>
      rw[q2.resolve_left (by simp)];simp only[Option.elim];obtain⟨m,rfl⟩:=pos _ rfl;generalize qd:age P (af7 _ _) v #[]=sv;generalize vw:age P (af7 _ _) w #[]=sw;obtain⟨rv,e0⟩:=sv;obtain⟨BO,e1⟩:=sw;dsimp only;refine tX F Pj hs hw e ?_ main main' qd vw ?_ ?_ ?_ ?_
      ·exact fun _ x=>by cases x;exact F.exit i
      ·intro x u e;subst e;rfl
      ·intro x u e;subst e;rfl
      ·intro x u e;subst e;exact⟨_,_,rfl⟩
      ·intro x u e;subst e;exact⟨_,_,rfl⟩
    ·rw[q1,q2];exact to hm
   |goto i=>
    unfold agf;dsimp only;rcases hk.gotoIn i with⟨q1,q2⟩|⟨m,m',q1,q2,hm⟩
    ·rw[q1];cases h8 with
     |none=>exact ST.ended
     |some e=>
      rw[q2.resolve_left (by simp)];simp only[Option.elim];obtain⟨m,rfl⟩:=pos _ rfl;generalize qd:age P (af7 _ _) v #[]=sv;generalize vw:age P (af7 _ _) w #[]=sw;obtain⟨rv,e0⟩:=sv;obtain⟨BO,e1⟩:=sw;dsimp only;refine tX F Pj hs hw e ?_ main main' qd vw ?_ ?_ ?_ ?_
      ·exact fun _ x=>by cases x;exact F.goto i
      ·intro x u e;subst e;rfl
      ·intro x u e;subst e;rfl
      ·intro x u e;subst e;exact⟨_,_,rfl⟩
      ·intro x u e;subst e;exact⟨_,_,rfl⟩
    ·rw[q1,q2];exact to hm
   |refuse y=>exact ST.ended
   |region id ops draw=>
    have hc:=hc.resolve_left (He _ _ _ _ rfl);unfold agf;dsimp only;refine Lh (fun _=>?_) (fun _=>?_)
    ·exact to (.cons (.inRegion _ fun j _ o e=>hc o (agG e)) hk)
    ·have run:=(ef (P:=P) (r:=r) (.order mN id)).run F.Cc #[] hw;rw[ajh]at run;generalize qd:ai8 P (choose _) v=rv at run⊢;generalize vw:ai8 P (choose _) w=BO at run⊢;cases run with
     |zg h k=>
      refine .zg ?_ ?_
      ·cases rv<;>exact h
      ·cases BO<;>exact k
     |lost h=>exact ST.ended
     |halt r1 c1 o hh he=>exact ST.ended
     |ok r1 c1 o hx he=>
      cases hx;exact tog o (.cons (.inRegion _ fun j _ o e=>hc o (agG e)) (hk.mono o.le))
   |rangeFunc q ps aBN bd=>
    unfold agf;dsimp only;generalize qd:age P (agi _ _ _ _ _ _) v #[]=sv;generalize vw:age P (agi _ _ _ _ _ _) w #[]=sw;obtain⟨rv,e0⟩:=sv;obtain⟨BO,e1⟩:=sw;dsimp only;have run:=Da F (EJ (P:=P) mN h2 ps hc.2.1 hc.2.2 h8) hw qd vw;have hdr:=yQ qd;clear qd vw;cases run with
    |zg h k=>omega
    |lost h=>exact ST.ended
    |halt r1 c1 o hh he=>exact ST.ended
    |@ok a a' _ _ _ r1 c1 o hx he=>
     obtain⟨b,mk⟩:=a;obtain⟨b',mk'⟩:=a';obtain⟨hl,hd⟩:=hx;simp only at hl hd;have rE:FR P r1 (n==0) ⟨mN,tmps,.inRangeFunc b::_,mk++defers,mode,iP,ro⟩ ⟨mN,nS,.inRangeFunc b'::_,mk'++oG,x_,iP,W3⟩:=⟨rfl,h2.mono o.le,.cons (.inRangeFunc hl) (hk.mono o.le),hd.agd (h4.mono o.le),h5.mono o.le,rfl,h7,h8.mono o.le,h9⟩;refine ST.after o (Af F ?_ rE hb (hs.mono o.le) o.wl) _ _ (nT he);have one:VA r1 #[Value.func (.yield b) #[] #[]] #[Value.func (.yield b') #[] #[]]:=VA.one (.func (.yield hl) rfl (fun i x x' e=>by simp at e) rfl (fun i x x' e=>by simp at e));unfold resolve;exact af3 (s:=agw _ _) (s':=agw _ _) (x9 (rE.eval (gi.mono o.le) q hc.1) (by simpa[aiD]using one)) fun t1 d d' l1 hd=>qK F.cV F.WX hd.1 hd.2
end
section
variable[ak]{P:Program}{r:Rn}{c:Nat}{cs cL:List Frame}{v w:World}
theorem Ag{k:List Item}(h:IL P r rd bz f.todo k\/IL P r rd bz k f.todo):f.catches P=false:=by
 unfold Frame.catches;split
 ·rename_i e;rcases h with h|h
  ·rw[e]at h;cases h with|cons a _=>cases a
  ·rw[e]at h;cases h with|rest _ _ _ d=>(simp[Ab]at d)|cons a _=>cases a
 ·rfl
theorem po(F:kX P)(hf:FR P r (n==0) f f')(hb:n=0->f.roundOf=none/\f.kind=.normal)(hs:SL P r cs cL n l l')(hw:W r c v w){d:Deferred}(hd:Df r d d')(hn:∀b,d.target≠.collected b):
  ST P r c cs cL v w (callDeferred P f l none d v) (callDeferred P f' l' none d' w):=by
 have W6:∀(x:List PanicEntry),n=0->(f.raise x).roundOf=none/\(f.raise x).kind=.normal:=fun x h0=>by
  have:=hb h0;unfold agM;split<;>exact this
 have hsr:=qK (P:=P) (bb:=false) F.cV F.WX hd hn;have cond:∀{p p':Bool} {a b a' b':GStep},p=p'->(∃o u es,a=.ended o u es)->ST P r c cs cL v w b b'->ST P r c cs cL v w (if p=true then a else b) (if p'=true then a' else b'):=by
  rintro p _ a b a' b' rfl ⟨o,u,es,rfl⟩ h;exact Lh (fun _=>ST.ended) (fun _=>h)
 refine cond ?_ ⟨_,_,_,rfl⟩ ?_
 ·have h1:=hd.target;have h2:=hf.mode;generalize d.target=t at h1⊢;generalize d'.target=t' at h1⊢;generalize f.mode=m at h2⊢;generalize f'.mode=m' at h2⊢;cases h1<;>cases h2<;>rfl
 generalize qd:age P (invoke _ _) v #[]=sv;generalize vw:age P (invoke _ _) w #[]=sw;obtain⟨rv,e0⟩:=sv;obtain⟨BO,e1⟩:=sw;have run:=Da F hsr hw qd vw;clear qd vw;dsimp only;cases run with
 |zg h k=>
  refine .zg ?_ ?_
  ·rw[et];cases rv with
   |ok a u=>
    cases a<;>(try simp only)<;>first
     |exact h
     |(rename_i b;cases b<;>exact h)
     |(rename_i b _;cases b<;>exact h)
     |((repeat' split)<;>exact h)
   |halt a u=>
    cases a<;>(try simp only)<;>first
     |exact h
     |exact af5 h (qc ..)
  ·rw[et];cases BO with
   |ok a u=>
    cases a<;>(try simp only)<;>first
     |exact k
     |(rename_i b;cases b<;>exact k)
     |(rename_i b _;cases b<;>exact k)
     |((repeat' split)<;>exact k)
   |halt a u=>
    cases a<;>(try simp only)<;>first
     |exact k
     |exact af5 k (qc ..)
 |@lost x v1 _ hl=>
  rcases hl with⟨u,rfl,_⟩|⟨y,rfl⟩<;>exact ST.ended
 |halt r1 c1 o hh he=>
  cases hh with
  |panic hv=>exact ST.after o (.go r1 c1 ((hf.mono o.le).raise (JZ.cons (x:=⟨_,false,false⟩) (y:=⟨_,false,false⟩) ⟨hv,rfl,rfl⟩ .nil)) (hs.mono o.le) (W6 _) (.refl o.wl) kY) _ _ (nT he)
 |ok r1 c1 o hx he=>
  have rE:=hf.mono o.le;have pE:=hs.mono o.le;cases hx with
  |value hv=>exact ST.after o (.go r1 c1 rE pE hb (.refl o.wl) kY) _ _ (nT he)
  |skip=>exact ST.after o (.go r1 c1 rE pE hb (.refl o.wl) kY) _ _ (nT he)
  |defer hd=>exact ST.after o (.go r1 c1 rE pE hb (.refl o.wl) kY) _ _ (nT he)
  |enter hg ha=>exact ST.after o (.go r1 c1 (FR.enter F hg ha (.inr rfl)) (.cons rE hb pE) (fun h=>by omega) (.refl o.wl) kY) _ _ (nT he)
  |round hl ht ha di=>exact ST.after o (.go r1 c1 (FR.roundOf F hl _ ht ha di (.inr rfl)) (.cons rE hb pE) (fun h=>by omega) (.refl o.wl) kY) _ _ (nT he)
  |recover hbb=>cases hbb
theorem Db(F:kX P)(hf:FR P r (n==0) f f')(hb:n=0->f.roundOf=none/\f.kind=.normal)(hs:SL P r cs cL n l l')(hw:W r c v w)(main main':Bool)(hgo:n=0->f.defers≠ []):
  ST P r c cs cL v w (unwind P main f l none v) (unwind P main' f' l' none w):=by
 have Pj:=hf;obtain⟨fn,tmps,todo,defers,mode,kind,ro⟩:=f;obtain⟨mN,nS,C_,oG,x_,iP,W3⟩:=f';obtain⟨h1,h2,h3,h4,h5,h6,h7,h8,h9⟩:=hf;subst h1 h6;cases h4 with
 |rest a b=>exact absurd rfl (hgo (by simpa using a))
 |nil=>
  obtain⟨m,rfl⟩:∃m,n=m+1:=by
   cases n with
   |zero=>exact absurd rfl (hgo rfl)
   |succ m=>exact⟨m,rfl⟩
  unfold unwind;cases h5 with
  |run=>exact ST.ended
  |panicking hp=>
   simp[Ag (f:=⟨mN,tmps,todo,[],.panicking _,iP,ro⟩) (.inl h3),Ag (.inr h3)];cases hs with
   |cons a b d=>
    exact .go r c (a.raise hp) d (fun h0=>by have:=b h0;unfold agM;split<;>exact this) (.refl hw) kY
  |returning=>
   cases aY:P.funcs[mN]? with
   |none=>exact vX Pj hs hw (h2.getD 0) main main'
   |some fu=>
    dsimp only;generalize qd:age P _ v #[]=sv;generalize vw:age P _ w #[]=sw;obtain⟨rv,e0⟩:=sv;obtain⟨BO,e1⟩:=sw;have run:=Da F (Ac (P:=P) h2) hw qd vw;cases run with
    |zg h k=>
     refine .zg ?_ ?_
     ·rw[et];cases rv with
      |ok x y=>exact af5 h (kZ ..)
      |halt x y=>cases x<;>exact h
     ·rw[et];cases BO with
      |ok x y=>exact af5 k (kZ ..)
      |halt x y=>cases x<;>exact k
    |@lost x v1 _ hl=>
     rcases hl with⟨u,rfl,_⟩|⟨y,rfl⟩<;>exact ST.ended
    |halt r1 c1 o hh he=>
     cases hh with
     |panic hv=>exact ST.ended
    |ok r1 c1 o hx he=>exact ST.after o ((vX (Pj.mono o.le) (hs.mono o.le) o.wl hx main main')) _ _ (nT he)
 |cons hd hds=>
  rename_i d d' ds ds';have rE:FR P r (n==0) ⟨mN,tmps,todo,ds,mode,iP,ro⟩ ⟨mN,nS,C_,ds',x_,iP,W3⟩:=⟨rfl,h2,h3,hds,h5,rfl,h7,h8,h9⟩;have ht:=hd.target;obtain⟨t,aBN⟩:=d;obtain⟨t',as'⟩:=d';cases ht with
  |fn a b=>exact po F rE hb hs hw hd (fun _ e=>by cases e)
  |nil=>exact po F rE hb hs hw hd (fun _ e=>by cases e)
  |collected e=>
   unfold unwind;dsimp only;generalize qd:age P _ v #[]=sv;generalize vw:age P _ w #[]=sw;obtain⟨rv,e0⟩:=sv;obtain⟨BO,e1⟩:=sw;have run:=Da F (yP (P:=P) e) hw qd vw;cases run with
   |zg h k=>
    refine .zg ?_ ?_
    ·cases rv<;>exact h
    ·cases BO<;>exact k
   |lost _=>exact ST.ended
   |halt r1 c1 o hh he=>exact ST.ended
   |ok r1 c1 o hx he=>
    have tY:FR P r1 (n==0) ⟨mN,tmps,todo,_++ds,mode,iP,ro⟩ ⟨mN,nS,C_,_++ds',x_,iP,W3⟩:=⟨rfl,h2.mono o.le,h3.mono o.le,hx.agd (hds.mono o.le),h5.mono o.le,rfl,h7,h8.mono o.le,h9⟩;exact ST.after o (.go r1 c1 tY (hs.mono o.le) hb (.refl o.wl) kY) _ _ (nT he)
theorem EN(F:kX P)(gi:GI r){l l':List _}(hf:FR P r (n==0) f f')(hb:n=0->f.roundOf=none/\f.kind=.normal)(hs:SL P r cs cL n l l')(hw:W r c v w)(main main':Bool)(hgo:n=0->f.mode=.run\/f.defers≠ [])(He:f.mode=.run->∀i ops dr k,f.todo=.code (.region i ops dr)::k->¬ak.wall ops):
  ST P r c cs cL v w (stepG P main (G f l) v) (stepG P main' (G f' l') w):=by
 have hm:=hf.mode;unfold stepG;simp[G];cases e:f.mode<;>cases e':f'.mode<;>rw[e,e']at hm<;>cases hm
 ·exact W8 F gi hf hb hs hw _ _ e (He e)
 ·exact Db F hf hb hs hw _ _ fun h0=>(hgo h0).elim (fun x=>by simp_all) id
 ·exact Db F hf hb hs hw _ _ fun h0=>(hgo h0).elim (fun x=>by simp_all) id
end
def Alk(u:Nat->Prop)(o o2:Option Obj):Prop:=o2=o\/∃c c2 e fz,(∃i,u i)/\o=some (.cells c e fz)/\o2=some (.cells c2 e fz)/\c2.size=c.size/\(∀i:Nat,¬u i->c2[i]?=c[i]?)/\∀(i:Nat) x,u i->c2[i]?=some x->Hid x=true
theorem Alk.trans{u:Nat->Prop}{o o2 o3:Option Obj}(h:Alk u o o2)(k:Alk u o2 o3):Alk u o o3:=by
 rcases k with rfl|⟨c,c2,e,fz,h1,h2,h3,h4,h5,h6⟩
 ·exact h
 ·rcases h with rfl|⟨d,d2,e',fz',g1,g2,g3,g4,g5,g6⟩
  ·exact .inr ⟨c,c2,e,fz,h1,h2,h3,h4,h5,h6⟩
  ·rw[h2]at g3;cases g3;exact .inr ⟨d,c2,e,fz,h1,g2,h3,h4.trans g4,fun i hi=>(h5 i hi).trans (g5 i hi),h6⟩
theorem Alk.eq{u:Nat->Prop}{o:Option Obj}(h:Alk u o o2)(hn:∀i,¬u i):o2=o:=by
 rcases h with h|⟨_,_,_,_,⟨i,hi⟩,_⟩
 ·exact h
 ·simp_all
def pG(o' o:Os):=∃d:Nat,o'={o with wall:=o.wall+d,mono:=o.mono+d}
theorem pG.refl(o:Os):pG o o:=⟨0,rfl⟩
theorem pG.of{o' o:Os}(h:o'=o):pG o' o:=by subst h;exact .refl _
theorem pG.trans{o o1 o2:Os}(h:pG o2 o1)(k:pG o1 o):pG o2 o:=by
 obtain⟨d,rfl⟩:=h;obtain⟨e,rfl⟩:=k;exact⟨e+d,by simp[Nat.add_assoc]⟩
theorem pG.env{o' o:Os}(h:pG o' o):o'.env=o.env:=by obtain⟨d,rfl⟩:=h;rfl
structure aP(U:Nat->Nat->Prop)(S:Nat->Prop)(w w2:World):Prop where
 kept:∀a,S a->Alk (U a) (w.heap[a]?) (w2.heap[a]?)
 grow:w.heap.size<=w2.heap.size
 env:pG w2.os w.os
theorem aP.refl(U:Nat->Nat->Prop)(S:Nat->Prop)(w:World):aP U S w w:=⟨fun _ _=>.inl rfl,agb _,.refl _⟩
theorem aP.trans{U:Nat->Nat->Prop}{S:Nat->Prop}{w w2 w3:World}(h:aP U S w w2)(k:aP U S w2 w3):aP U S w w3:=⟨fun a ha=>(h.kept a ha).trans (k.kept a ha),agn h.grow k.grow,k.env.trans h.env⟩
def EvS(S X:Nat->Prop)(w:World)(u:Nat)(e:Event):=
 (∃a:Addr,e.loc=.cell a/\e.sync=false/\((S a.block/\(e.write=true->X a.block))\/(w.heap.size<=a.block/\a.block<u)))\/
 (∃a:Nat,e.loc=.obj a/\e.sync=false/\((S a/\(e.write=true->X a))\/(w.heap.size<=a/\a<u)))\/
 (∃m,e.loc=.mark m/\(m=.noRoom\/∃f,m=.extern f))\/e.loc=.output
structure Did(S X:Nat->Prop)(w w1:World)(es:Array Event)(S1 X1:Nat->Prop):Prop where
 kept:∀a,a<w.heap.size->¬X a->w1.heap[a]?=w.heap[a]?
 grow:w.heap.size<=w1.heap.size
 held:∀a,S1 a↔S a\/(w.heap.size<=a/\a<w1.heap.size)
 may:∀a,X1 a↔X a\/(w.heap.size<=a/\a<w1.heap.size)
 ev:∀e∈es,EvS S X w w1.heap.size e
 tape:w1.tape=w.tape
 env:pG w1.os w.os
 output:w1.output=w.output
inductive Tr(P:Program)(main:Bool)(U:Nat->Nat->Prop)(Done:(Nat->Prop)->(Nat->Prop)->Frame->List Frame->World->Prop):(Nat->Prop)->(Nat->Prop)->Frame->List Frame->World->Prop
 |stop {S X:Nat->Prop} {f:Frame} {l:List Frame} {w:World}:Done S X f l w->Tr P main U Done S X f l w
 |step {S X:Nat->Prop} {f:Frame} {l:List Frame} {w:World}:(∀w2,aP U S w w2->∃f1 l1 w1 es S1 X1,stepG P main (G f l) w2=.go (G f1 l1) w1 es/\Did S X w2 w1 es S1 X1)->
   (∀w2 f1 l1 w1 es S1 X1,aP U S w w2->stepG P main (G f l) w2=.go (G f1 l1) w1 es->Did S X w2 w1 es S1 X1->Tr P main U Done S1 X1 f1 l1 w1)->Tr P main U Done S X f l w
theorem Did.same{w1:World}{es:Array _}{S2 X2:Nat->Prop}(h:Did S X w w1 es S1 X1)(k:Did S X w w1 es S2 X2):S1=S2/\X1=X2:=
 ⟨funext fun a=>propext ((h.held a).trans (k.held a).symm),funext fun a=>propext ((h.may a).trans (k.may a).symm)⟩
inductive VR(P:Program):Nat->Frame->List Frame->World->Frame->List Frame->World->Prop
 |zero {f:Frame} {l:List Frame} {v:World}:VR P 0 f l v f l v
 |succ {k:Nat} {f f1 f2:Frame} {l l1 l2:List Frame} {v v1 v2:World} {es:Array Event}:VR P k f l v f1 l1 v1->stepG P true (G f1 l1) v1=.go (G f2 l2) v2 es->VR P (k+1) f l v f2 l2 v2
theorem VR.runN{k:Nat}{l l1:List _}{v:World}(h:VR P k f l v f1 l1 v1):runN P k (lone f l v)=.next (lone f1 l1 v1):=by
 induction h with
 |zero=>rfl
 |succ _ hs ih=>
  rw[runN_add,ih];simp[Go.runN];rw[lone_eq_solo,step_solo_go rfl hs];rfl
theorem VR.det{k:Nat}{f2:Frame}{l l1 l2:List _}{v v2:World}(h:VR P k f l v f1 l1 v1)(e:Go.runN P k (lone f l v)=.next (lone f2 l2 v2)):f1=f2/\l1=l2/\v1=v2:=by
 rw[h.runN]at e;simp[lone,ai2,ajw]at e;simp_all
def tp(v:World)(T:Nat->Question->Nat):={v with tape:=T}
section
variable[ak]{P:Program}{U:Nat->Nat->Prop}
def Li(U:Nat->Nat->Prop)(r:Rn):=∀b b' i,r b=some b'->U b' i->ak.ro b/\ak.qH b i
def Rd(r:Rn)(a:Nat):=∃b,r b=some a
def Wr(r:Rn)(a:Nat):=∃b,r b=some a/\¬ak.ro b
theorem W.rely{r:Rn}{c:Nat}{v w w2:World}(h:W r c v w)(hu:Li U r)(hr:aP U (Rd r) w w2):W r 0 v w2:=by
 refine⟨fun b b' e=>?_,h.gv,agn h.gw hr.grow,h.old,fun i q hi=>by omega,hr.env.env.trans h.env⟩;obtain⟨o,o',h1,h2,h3⟩:=h.obj b b' e;rcases hr.kept b' ⟨b,e⟩with k|⟨d,d2,t,fz,⟨i,hi⟩,k2,k3,k4,k5,k6⟩
 ·simp_all
 ·have fL:=(hu b b' i e hi).1;rw[h2]at k2;cases k2;cases h3 with
  |same n _=>exact absurd fL n
  |ro t n hv hb=>
   refine⟨_,_,h1,k3,.ro t n ⟨hv.size.trans k4.symm,fun j x x' ex ex'=>?_⟩ hb⟩;by_cases hj:U b' j
   ·have:=hb j (hu b b' j e hj).2;rw[this]at ex;cases ex;exact .blank (k6 j x' hj ex')
   ·rw[k5 j hj]at ex';exact hv.at_ j x x' ex ex'
theorem W.SX{r:Rn}{v:World}(h:W r 0 v w)(ht:∀i q,i<c->v.tape (v.drawn+i) q=w.tape (w.drawn+i) q):W r c v w:=⟨h.obj,h.gv,h.gw,h.old,ht,h.env⟩
theorem W.tp{r:Rn}{v:World}(h:W r c v w)(T:Nat->Question->Nat):W r 0 (tp v T) w:=⟨h.obj,h.gv,h.gw,h.old,fun i q hi=>by omega,h.env⟩
theorem Out.did{r r1:Rn}{c1:Nat}{v w1:World}(o:Out r r1 c c1 v w v1 w1)(h:W r c v w){es:Array _}(he:∀e∈es,BN r w w1.heap.size e):Did (Rd r) (Wr r) w w1 es (Rd r1) (Wr r1):=by
 refine⟨fun a ha hx=>o.kept a ha fun b hb=>agq fun hn=>hx ⟨b,hb,hn⟩,o.grow,fun a=>⟨?_,?_⟩,fun a=>⟨?_,?_⟩,fun e hm=>?_,o.tape,.of o.os,o.output⟩
 ·rintro⟨b,hb⟩;rcases o.fresh b a hb with x|x
  ·exact .inl ⟨b,x⟩
  ·exact .inr ⟨x.1,(o.wl.lt hb).2⟩
 ·rintro(⟨b,hb⟩|x)
  ·exact⟨b,o.le _ _ hb⟩
  ·exact o.range a x.1 x.2
 ·rintro⟨b,hb,hn⟩;rcases o.fresh b a hb with x|x
  ·exact .inl ⟨b,x,hn⟩
  ·exact .inr ⟨x.1,(o.wl.lt hb).2⟩
 ·rintro(⟨b,hb,hn⟩|x)
  ·exact⟨b,o.le _ _ hb,hn⟩
  ·obtain⟨b,hb⟩:=o.range a x.1 x.2;refine⟨b,hb,fun fL=>?_⟩;rcases o.fresh b a hb with y|y
   ·exact absurd (h.lt y).2 (by omega)
   ·exact absurd (h.old b fL) (by omega)
 ·have key:∀{a:Nat} {wr:Bool},((∃b,r b=some a/\(wr=true->¬ak.ro b))\/(w.heap.size<=a/\a<w1.heap.size))->(Rd r a/\(wr=true->Wr r a))\/(w.heap.size<=a/\a<w1.heap.size):=by
   rintro a wr (⟨b,hb,hn⟩|x)
   ·exact .inl ⟨⟨b,hb⟩,fun hw=>⟨b,hb,hn hw⟩⟩
   ·omega
  rcases he e hm with⟨a,h1,h2,h3⟩|⟨a,h1,h2,h3⟩|x
  ·exact .inl ⟨a,h1,h2,key h3⟩
  ·exact .inr (.inl ⟨a,h1,h2,key h3⟩)
  ·exact .inr (.inr x)
theorem SL.len{r:Rn}{cs cL:List _}{l l':List _}(h:SL P r cs cL n l l'):l.length=n+cs.length:=by
 induction h with
 |base=>simp
 |cons _ _ _ ih=>simp;omega
theorem SL.SY{r:Rn}{cs cL:List _}{l':List _}(h:SL P r cs cL n cs l'):n=0/\l'=cL:=by
 have:=h.len;obtain rfl:n=0:=by omega
 cases h;simp_all
variable(P)in
def lX(U:Nat->Nat->Prop)(r0:Rn)(Stop:Frame->List _->World->Prop)(cs cL:List _)(S X:Nat->Prop)(f':Frame)(l':List _)(w:World):=
 ∃r n f l v,Le r0 r/\FR P r (n==0) f f'/\SL P r cs cL n l l'/\W r 0 v w/\S=Rd r/\X=Wr r/\Stop f l v/\Li U r/\∀a i,U a i->a<w.heap.size
variable(P)in
structure Node(U:Nat->Nat->Prop)(r0:Rn)(Stop:Frame->List Frame->World->Prop)(f0:Frame)(cs cL:List Frame)(v0:World)(k:Nat)(T0:Nat->Question->Nat)(d:Nat)(S X:Nat->Prop)(f':Frame)(l':List Frame)(w:World):Prop where
 alike:∀T,(∀j,j<d->T j=T0 j)->∃r n f l v,VR P k f0 cs (tp v0 T) f l v/\v.tape=T/\v.drawn=d/\Le r0 r/\FR P r (n==0) f f'/\(n=0->f.roundOf=none/\f.kind=.normal)/\SL P r cs cL n l l'/\W r 0 v w/\S=Rd r/\X=Wr r/\Li U r
 low:∀a i,U a i->a<w.heap.size
 early:∀T,(∀j,j<d->T j=T0 j)->∀i f l v,i<=k->VR P i f0 cs (tp v0 T) f l v->¬Stop f l v
theorem VR.pre{k:Nat}{l l1:List _}{v:World}(h:VR P k f l v f1 l1 v1):∀i,i<=k->∃f2 l2 v2,VR P i f l v f2 l2 v2:=by
 induction h with
 |zero=>
  intro i hi;obtain rfl:i=0:=by omega
  exact⟨_,_,_,.zero⟩
 |succ a b ih=>
  intro i hi;rcases Nat.eq_or_lt_of_le hi with e|e
  ·rw[e];exact⟨_,_,_,VR.succ a b⟩
  ·exact ih i (by omega)
section path
variable{main:Bool}{r0:Rn}{Stop:Frame->List Frame->World->Prop}{f0:Frame}{cs cL:List Frame}{v0:World}{k:Nat}{T0:Nat->Question->Nat}{d:Nat}{S X:Nat->Prop}{f':Frame}{l':List Frame}{w:World}
theorem PJ(C:∀T,∃n f1 l1 v1,runN P n (lone f0 cs (tp v0 T))=.next (lone f1 l1 v1)/\Stop f1 l1 v1){T:Nat->Question->Nat}{l:List _}{v:World}(h:VR P k f0 cs (tp v0 T) f l v)(he:∀i f l v,i<=k->VR P i f0 cs (tp v0 T) f l v->¬Stop f l v){o:Outcome}{es:Array _}:
  stepG P true (G f l) v≠.ended o v1 es:=by
 intro hs;obtain⟨n,f1,l1,v1',hn,aA⟩:=C T;by_cases hk:n<=k
 ·obtain⟨f2,l2,v2,h2⟩:=h.pre n hk;obtain⟨rfl,rfl,rfl⟩:=h2.det hn;exact he n _ _ _ hk h2 aA
 ·obtain⟨m,rfl⟩:∃m,n=k+(m+1):=⟨n-k-1,by omega⟩;rw[runN_add,h.runN]at hn;simp[Go.runN]at hn;rw[step_lone_ended (by show(stepG P _ (G f l) v).bare=_;rw[hs];rfl)]at hn;cases hn
theorem Hf(F:kX P)(gi:GI r0)(C:∀T,∃n f1 l1 v1,runN P n (lone f0 cs (tp v0 T))=.next (lone f1 l1 v1)/\Stop f1 l1 v1)(L:∀T k f v,(∀i f l v,i<=k->VR P i f0 cs (tp v0 T) f l v->¬Stop f l v)->VR P k f0 cs (tp v0 T) f cs v->f.mode≠.run->f.defers=[]->Stop f cs v)(Wl:∀T k f l v i ops dr q,VR P k f0 cs (tp v0 T) f l v->f.mode=.run->f.todo=.code (.region i ops dr)::q->ak.wall ops->Stop f l v)
  {T:Nat->Question->Nat}(he:∀i f l v,i<=k->VR P i f0 cs (tp v0 T) f l v->¬Stop f l v){r:Rn}{l:List _}{v w2:World}(h1:VR P k f0 cs (tp v0 T) f l v)(h4:Le r0 r)(h5:FR P r (n==0) f f')(h6:n=0->f.roundOf=none/\f.kind=.normal)(h7:SL P r cs cL n l l')(h8:W r 0 v w2)(c:Nat)(ht:∀i q,i<c->v.tape (v.drawn+i) q=w2.tape (w2.drawn+i) q):
  (∃(f1 f1':Frame) (l1 l1':List _) (v1 w1:World) (es kA:Array _) (r1:Rn) (c1 n1:Nat),stepG P true (G f l) v=.go (G f1 l1) v1 es/\stepG P main (G f' l') w2=.go (G f1' l1') w1 kA/\FR P r1 (n1==0) f1 f1'/\(n1=0->f1.roundOf=none/\f1.kind=.normal)/\SL P r1 cs cL n1 l1 l1'/\Out r r1 c c1 v w2 v1 w1/\∀e∈kA,BN r w2 w1.heap.size e)\/
  (v.drawn+c<(Rq (stepG P true (G f l) v)).drawn/\w2.drawn+c<(Rq (stepG P main (G f' l') w2)).drawn):=by
 have hgo:n=0->f.mode=.run\/f.defers≠ []:=by
  intro h0;by_cases hm:f.mode=.run
  ·exact .inl hm
  ·refine .inr fun hd=>?_;subst h0;cases h7;exact he k f _ v (agb _) h1 (L T k f v he h1 hm hd)
 have He:f.mode=.run->∀i ops dr q,f.todo=.code (.region i ops dr)::q->¬ak.wall ops:=by
  intro hm i ops dr q e hwl;exact he k f l v (agb _) h1 (Wl T k f l v i ops dr q h1 hm e hwl)
 have st:=EN F (gi.mono h4) h5 h6 h7 (h8.SX ht) true main hgo He;generalize hv:stepG P _ _ v=sv at st;generalize hw:stepG P _ _ w2=sw at st;cases st with
 |ended=>exact absurd hv (PJ C h1 he)
 |zg a b=>exact .inr ⟨a,b⟩
 |go r1 c1 a b d o e=>exact .inl ⟨_,_,_,_,_,_,_,_,r1,c1,_,rfl,rfl,a,d,b,o,e⟩
def glue(T0:Nat->Question->Nat)(d:Nat)(w2:World)(j:Nat)(q:Question):=if j<d then T0 j q else w2.tape (w2.drawn+(j-d)) q
theorem PK(F:kX P)(gi:GI r0)(C:∀T,∃n f1 l1 v1,runN P n (lone f0 cs (tp v0 T))=.next (lone f1 l1 v1)/\Stop f1 l1 v1)(L:∀T k f v,(∀i f l v,i<=k->VR P i f0 cs (tp v0 T) f l v->¬Stop f l v)->VR P k f0 cs (tp v0 T) f cs v->f.mode≠.run->f.defers=[]->Stop f cs v)(Wl:∀T k f l v i ops dr q,VR P k f0 cs (tp v0 T) f l v->f.mode=.run->f.todo=.code (.region i ops dr)::q->ak.wall ops->Stop f l v)
  (hN:Node P U r0 Stop f0 cs cL v0 k T0 d S X f' l' w)(hT:¬Tr P main U (lX P U r0 Stop cs cL) S X f' l' w):
  ∃T1 d1 S1 X1 f1 l1 w1,(∀j,j<d->T1 j=T0 j)/\d<=d1/\Node P U r0 Stop f0 cs cL v0 (k+1) T1 d1 S1 X1 f1 l1 w1/\¬Tr P main U (lX P U r0 Stop cs cL) S1 X1 f1 l1 w1:=by
 have hg:∀w2:World,∀j,j<d->glue T0 d w2 j=T0 j:=fun w2 j hj=>by funext q;unfold glue;rw[if_pos hj]
 have ex:∀w2,aP U S w w2->∃f1 l1 w1 es S1 X1,stepG P main (G f' l') w2=.go (G f1 l1) w1 es/\Did S X w2 w1 es S1 X1/\w2.drawn<=w1.drawn:=by
  intro w2 hr;obtain⟨r,n,f,l,v,h1,h2,h3,h4,h5,h6,h7,h8,rfl,rfl,j_⟩:=hN.alike (glue T0 d w2) (hg w2);have h8':=h8.rely j_ hr;have ht:∀i q,i<(Rq (stepG P true (G f l) v)).drawn->v.tape (v.drawn+i) q=w2.tape (w2.drawn+i) q:=fun i q _=>by
   rw[h2,h3];unfold glue;rw[if_neg (by omega),ah7]
  rcases Hf (main:=main) F gi C L Wl (hN.early _ (hg w2)) h1 h4 h5 h6 h7 h8' _ ht with⟨f1,f1',l1,l1',v1,w1,es,kA,r1,c1,n1,e1,e2,q1,q2,q3,o,q4⟩|⟨x,_⟩
  ·exact⟨f1',l1',w1,kA,_,_,e2,o.did (h8'.SX ht) q4,by have:=o.drew;have:=o.CV;have:=o.later;omega⟩
  ·omega
 have off:∃w2 f1 l1 w1 es S1 X1,aP U S w w2/\stepG P main (G f' l') w2=.go (G f1 l1) w1 es/\Did S X w2 w1 es S1 X1/\¬Tr P main U (lX P U r0 Stop cs cL) S1 X1 f1 l1 w1:=by
  refine agq fun BP=>hT (.step (fun w2 hr=>?_) fun w2 f1 l1 w1 es S1 X1 hr e1 hd=>?_)
  ·obtain⟨f1,l1,w1,es,S1,X1,e1,hd,_⟩:=ex w2 hr;exact⟨f1,l1,w1,es,S1,X1,e1,hd⟩
  ·exact agq fun hn=>BP ⟨w2,f1,l1,w1,es,S1,X1,hr,e1,hd,hn⟩
 obtain⟨w2,f1,l1,w1,es,S1,X1,hr,e1,hd,hn⟩:=off;have hle:w2.drawn<=w1.drawn:=by
  obtain⟨g1,m1,u1,ZO,S2,X2,e2,_,hle⟩:=ex w2 hr;rw[e1]at e2;cases e2;exact hle
 have key:∀T,(∀j,j<d+(w1.drawn-w2.drawn)->T j=glue T0 d w2 j)->∃r n f l v,VR P (k+1) f0 cs (tp v0 T) f l v/\v.tape=T/\v.drawn=d+(w1.drawn-w2.drawn)/\Le r0 r/\FR P r (n==0) f f1/\(n=0->f.roundOf=none/\f.kind=.normal)/\SL P r cs cL n l l1/\W r 0 v w1/\S1=Rd r/\X1=Wr r/\Li U r:=by
  intro T hTT;have hT0:∀j,j<d->T j=T0 j:=fun j hj=>(hTT j (by omega)).trans (hg w2 j hj);obtain⟨r,n,f,l,v,h1,h2,h3,h4,h5,h6,h7,h8,rfl,rfl,j_⟩:=hN.alike T hT0;have h8':=h8.rely j_ hr;have ht:∀i q,i<w1.drawn-w2.drawn->v.tape (v.drawn+i) q=w2.tape (w2.drawn+i) q:=fun i q hi=>by
   rw[h2,h3,hTT (d+i) (by omega)];unfold glue;rw[if_neg (by omega),ah7]
  rcases Hf (main:=main) F gi C L Wl (hN.early T hT0) h1 h4 h5 h6 h7 h8' _ ht with⟨g1,g1',m1,m1',v1,u1,ZO,avj,r1,c1,n1,x1,x2,q1,q2,q3,o,q4⟩|⟨_,x⟩
  ·rw[e1]at x2;cases x2;have hc:c1=0:=by have:=o.CV;omega
   subst hc;obtain⟨rfl,rfl⟩:=hd.same (o.did (h8'.SX ht) q4);refine⟨r1,n1,g1,m1,v1,.succ h1 x1,o.Sn.trans h2,by have:=o.drew;omega,h4.trans o.le,q1,q2,q3,o.wl,rfl,rfl,fun b b' i e hu=>?_⟩;rcases o.fresh b b' e with y|y
   ·exact j_ b b' i y hu
   ·have:=hN.low b' i hu;have:=hr.grow;have:=y.1;omega
  ·rw[e1]at x;simp only[Rq]at x;omega
 refine⟨glue T0 d w2,d+(w1.drawn-w2.drawn),S1,X1,f1,l1,w1,hg w2,by omega,⟨key,fun a i hu=>af5 (hN.low a i hu) (agn hr.grow hd.grow),fun T hTT i f l v hi hv hs=>?_⟩,hn⟩;by_cases vx:i<=k
 ·exact hN.early T (fun j hj=>(hTT j (by omega)).trans (hg w2 j hj)) i f l v vx hv hs
 ·obtain rfl:i=k+1:=by omega
  obtain⟨r,n,g,l2,u,h1,h2,h3,h4,h5,h6,h7,h8,rfl,rfl,j_⟩:=key T hTT;obtain⟨rfl,rfl,rfl⟩:=h1.det hv.runN;exact hn (.stop ⟨r,n,_,_,_,h4,h5,h7,h8,rfl,rfl,hs,j_,fun a i hu=>af5 (hN.low a i hu) (agn hr.grow hd.grow)⟩)
open Classical in
theorem tree(F:kX P)(gi:GI r0)(C:∀T,∃n f1 l1 v1,runN P n (lone f0 cs (tp v0 T))=.next (lone f1 l1 v1)/\Stop f1 l1 v1)(L:∀T k f v,(∀i f l v,i<=k->VR P i f0 cs (tp v0 T) f l v->¬Stop f l v)->VR P k f0 cs (tp v0 T) f cs v->f.mode≠.run->f.defers=[]->Stop f cs v)(Wl:∀T k f l v i ops dr q,VR P k f0 cs (tp v0 T) f l v->f.mode=.run->f.todo=.code (.region i ops dr)::q->ak.wall ops->Stop f l v)
  (hf:FR P r0 true f0 f')(hb:f0.roundOf=none/\f0.kind=.normal)(hw:W r0 0 v0 w)(j_:Li U r0)(bY:∀a i,U a i->a<w.heap.size):Tr P main U (lX P U r0 Stop cs cL) (Rd r0) (Wr r0) f' cL w:=by
 refine agq fun BP=>?_;have root:Node P U r0 Stop f0 cs cL v0 0 v0.tape v0.drawn (Rd r0) (Wr r0) f' cL w:=by
  refine⟨fun T _=>⟨r0,0,f0,cs,tp v0 T,.zero,rfl,rfl,.refl _,hf,fun _=>hb,.base,hw.tp T,rfl,rfl,j_⟩,bY,fun T _ i f l v hi hv hs=>BP (.stop ⟨r0,0,f0,cs,tp v0 T,.refl _,hf,.base,hw.tp T,rfl,rfl,?_,j_,bY⟩)⟩;obtain rfl:i=0:=by omega
  cases hv;exact hs
 let σ:={x:Nat×(Nat->Question->Nat)×Nat×(Nat->Prop)×(Nat->Prop)×Frame×List Frame×World//Node P U r0 Stop f0 cs cL v0 x.1 x.2.1 x.2.2.1 x.2.2.2.1 x.2.2.2.2.1 x.2.2.2.2.2.1 x.2.2.2.2.2.2.1 x.2.2.2.2.2.2.2/\¬Tr P main U (lX P U r0 Stop cs cL) x.2.2.2.1 x.2.2.2.2.1 x.2.2.2.2.2.1 x.2.2.2.2.2.2.1 x.2.2.2.2.2.2.2}
 have nx:∀x:σ,∃y:σ,y.1.1=x.1.1+1/\(∀j,j<x.1.2.2.1->y.1.2.1 j=x.1.2.1 j)/\x.1.2.2.1<=y.1.2.2.1:=by
  rintro⟨⟨k,T0,d,S,X,f',l',w⟩,hN,hT⟩;obtain⟨T1,d1,S1,X1,f1,l1,w1,h1,h2,h3,h4⟩:=PK F gi C L Wl hN hT;exact⟨⟨(k+1,T1,d1,S1,X1,f1,l1,w1),h3,h4⟩,rfl,h1,h2⟩
 let NL:σ->σ:=fun x=>agK (nx x)
 have hnx:=fun x=>aiw (nx x)
 let p:Nat->σ:=fun n=>Nat.rec ⟨(0,v0.tape,v0.drawn,Rd r0,Wr r0,f',cL,w),root,BP⟩ (fun _ x=>NL x) n
 have hp:∀n,p (n+1)=NL (p n):=fun _=>rfl;have hk:∀n,(p n).1.1=n:=by
  intro n;induction n with
  |zero=>rfl
  |succ n ih=>rw[hp,(hnx _).1,ih]
 have mono:∀n m,(p n).1.2.2.1<=(p (n+m)).1.2.2.1/\∀j,j<(p n).1.2.2.1->(p (n+m)).1.2.1 j=(p n).1.2.1 j:=by
  intro n m;induction m with
  |zero=>exact⟨agb _,fun _ _=>rfl⟩
  |succ m ih=>
   have:=hnx (p (n+m));exact⟨agn ih.1 this.2.2,fun j hj=>(this.2.1 j (af5 hj ih.1)).trans (ih.2 j hj)⟩
 let T:=fun j q=>if h:∃n,j<(p n).1.2.2.1 then(p (agK h)).1.2.1 j q else 0
 have hTp:∀n j,j<(p n).1.2.2.1->T j=(p n).1.2.1 j:=by
  intro n j hj;have h:∃n,j<(p n).1.2.2.1:=⟨n,hj⟩;have e:T j=(p (agK h)).1.2.1 j:=by
   funext q;show(if h:∃n,j<(p n).1.2.2.1 then(p (agK h)).1.2.1 j q else 0)=_
   rw[dif_pos h]
  have hm:=aiw h;generalize agK h=m at e hm;rw[e];rcases Nat.le_total m n with JX|JX
  ·obtain⟨a,rfl⟩:=aia JX;exact((mono m a).2 j hm).symm
  ·obtain⟨a,rfl⟩:=aia JX;exact(mono n a).2 j hj
 obtain⟨n,f1,l1,v1,hn,hs⟩:=C T;obtain⟨hN,_⟩:=(p n).2;obtain⟨r,m,f,l,v,h1,_⟩:=hN.alike T (hTp n);rw[hk n]at h1;obtain⟨rfl,rfl,rfl⟩:=h1.det hn;exact hN.early T (hTp n) n _ _ _ (by simp_all) h1 hs
end path
end
def fG:Frame:={fn:=0,tmps:=#[],todo:=[.code (.refuse "")],defers:=[{target:=.nil,args:=#[]}],mode:=.run,kind:=.normal}
def ab3(t:Frame):=(t.mode=.run/\t.todo=[.code (.refuse "")])\/∃ch,t.mode=.panicking ch/\t.defers=[{target:=.nil,args:=#[]}]
theorem Lj{t:Frame}(h:ab3 t)(v:World):∃o v1 es,stepG P true (G t []) v=.ended o v1 es:=by
 unfold stepG;simp only[G];rcases h with⟨hm,ht⟩|⟨ch,hm,hd⟩
 ·simp only[hm];unfold agf;simp_all
 ·unfold unwind;simp only[hd];simp only[hm];exact⟨_,_,_,rfl⟩
theorem yb{v:World}:∃t v1 es,doReturn P true fr [fG] none x v=.go (G t []) v1 es/\ab3 t:=by
 unfold doReturn;dsimp only;split
 ·exact⟨_,_,_,rfl,.inl ⟨rfl,rfl⟩⟩
 ·exact⟨_,_,_,rfl,.inl ⟨rfl,rfl⟩⟩
 ·exact⟨_,_,_,rfl,.inl ⟨rfl,rfl⟩⟩
 ·exact⟨_,_,_,rfl,.inl ⟨rfl,rfl⟩⟩
theorem Lk{v:World}(hm:fr.mode≠.run)(hd:fr.defers=[]):(∃o v1 es,stepG P true (G fr [fG]) v=.ended o v1 es)\/∃t v1 es,stepG P true (G fr [fG]) v=.go (G t []) v1 es/\ab3 t:=by
 have e:stepG P true (G fr [fG]) v=unwind P true fr [fG] none v:=by
  unfold stepG;simp only[G]
 rw[e];unfold unwind;simp only[hd];split
 ·simp
 ·split
  ·simp
  ·rename_i ch _ _;exact .inr ⟨_,_,_,rfl,.inr ⟨ch,rfl,rfl⟩⟩
 ·split
  ·exact .inr yb
  ·generalize age P _ v #[]=sv;obtain⟨rv,e0⟩:=sv;cases rv with
   |ok x u=>
    obtain⟨t,v1,es,e,ht⟩:=yb (P:=P) (fr:=fr) (x:=x) (v:=u);simp only[e];exact .inr ⟨_,_,_,rfl,ht⟩
   |halt x u=>cases x<;>exact .inl ⟨_,_,_,rfl⟩
section
variable[ak]{P:Program}{main:Bool}{U:Nat->Nat->Prop}{r0:Rn}{v0 w:World}{cL:List Frame}
theorem vY{g:Frame}{u:World}(m:Nat)(hgm:g.mode≠.run)(hgd:g.defers=[]):runN P (m+1) (lone g [fG] u)≠.next (lone g1 [fG] u1):=by
 intro e;simp[Go.runN]at e;rcases Lk hgm hgd with⟨o,u2,es,x⟩|⟨t,u2,es,x,ht⟩
 ·rw[step_lone_ended (by show(stepG P _ (G g _) u).bare=_;rw[x];rfl)]at e;cases e
 ·rw[lone_eq_solo,step_solo_go rfl x]at e;cases m with
  |zero=>
   simp only[Go.runN,solo,lone,ai2,ajw]at e;have:=e.2.1;simp[G]at this
  |succ m=>
   obtain⟨o,u3,es3,y⟩:=Lj ht u2;simp[Go.runN]at e;rw[<-lone_eq_solo,step_lone_ended (by show(stepG P _ (G t []) u2).bare=_;rw[y];rfl)]at e;cases e
theorem vZ{Stop:Frame->World->Prop}(rD:∀f v,Stop f v->f.mode≠.run/\f.defers=[])(C:∀T,∃n f1 v1,runN P n (lone f0 [fG] (tp v0 T))=.next (lone f1 [fG] v1)/\Stop f1 v1)(T:Nat->Question->Nat)(k:Nat)(f:Frame)(v:World)(h:VR P k f0 [fG] (tp v0 T) f [fG] v)(hm:f.mode≠.run)(hd:f.defers=[]):Stop f v:=by
 obtain⟨n,f1,v1,hn,hs⟩:=C T;rcases Nat.lt_trichotomy n k with aV|heq|hgt
 ·obtain⟨a,b⟩:=rD _ _ hs;obtain⟨m,rfl⟩:∃m,k=n+(m+1):=⟨k-n-1,by omega⟩;have:=h.runN;rw[runN_add,hn]at this;exact absurd this (vY m a b)
 ·subst heq;obtain⟨rfl,_,rfl⟩:=h.det hn;exact hs
 ·obtain⟨m,rfl⟩:∃m,n=k+(m+1):=⟨n-k-1,by omega⟩;rw[runN_add,h.runN]at hn;exact absurd hn (vY m hm hd)
theorem Ll(F:kX P)(hW:∀ops,¬ak.wall ops)(gi:GI r0){f:FuncId}{args kS:Array _}{R:Ending->World->Prop}(hc:∀T,Calls P f args (tp v0 T) R)(BP:∀u,¬R .outgrown u)(hg:ak.cV f)(ha:VA r0 args kS)(hw:W r0 0 v0 w)(j_:Li U r0)(bY:∀a i,U a i->a<w.heap.size):
  Tr P main U (lX P U r0 (fun fr l v=>l=[fG]/\∃e,R e v/\fr.fn=f/\fr.leaving P v e) [fG] cL) (Rd r0) (Wr r0) (ags P f kS .normal) cL w:=by
 have C:∀T,∃n f1 v1,runN P n (lone (ags P f args .normal) [fG] (tp v0 T))=.next (lone f1 [fG] v1)/\∃e,R e v1/\f1.fn=f/\f1.leaving P v1 e:=by
  intro T;obtain⟨e,w',fr,hR,bJ,aY,hl⟩:=hc T _;cases e with
  |outgrown=>exact absurd hR (BP _)
  |returned x=>obtain⟨n,hn⟩:=bJ;exact⟨n,fr,w',hn,_,hR,aY,hl⟩
  |panicked x=>obtain⟨n,hn⟩:=bJ;exact⟨n,fr,w',hn,_,hR,aY,hl⟩
 have rD:∀(fr:Frame) (v:World),(∃e,R e v/\fr.fn=f/\fr.leaving P v e)->fr.mode≠.run/\fr.defers=[]:=by
  rintro fr v ⟨e,hR,_,hl⟩;cases e with
  |outgrown=>exact absurd hR (BP _)
  |returned x=>exact⟨(by rw[hl.1];simp),hl.2.1⟩
  |panicked x=>exact⟨(by rw[hl.1];simp),hl.2.1⟩
 refine tree F gi (fun T=>?_) (fun T k fr v _ h1 h2 h3=>⟨rfl,vZ rD C T k fr v h1 h2 h3⟩) (fun T k f l v i ops dr q _ _ _ h=>absurd h (hW ops)) (FR.enter F hg ha (.inl rfl)) ⟨rfl,rfl⟩ hw j_ bY;obtain⟨n,f1,v1,h1,h2⟩:=C T;exact⟨n,f1,[fG],v1,h1,rfl,h2⟩
end
end Ren
namespace Ren
open Conc
open ConcN (sumTo upd sumTo_upd upd_ne upd_same)
theorem ofEvents_g{g:Nat}{fn:FuncId}{es:Array _}{op:MemOp}(h:op∈ahj g fn pos es):op.g=g:=by
 rw[ofEvents_eq]at h;obtain⟨e,he,rfl⟩:=aiF.1 h;rfl
def Inb(a:Nat):Loc->Prop
 |.cell b=>b.block=a
 |.obj b=>b=a
 |_=>False
def lJ(Z:Loc->Prop)(a:Nat):=∀l,Inb a l->¬Z l
def v_(Z:Loc->Prop)(B:Nat):=∀l,Z l->l.isMemory=true/\l.low B
theorem v_.mono{B B':Nat}(h:v_ Z B)(hB:B<=B'):v_ Z B':=fun l hl=>⟨(h l hl).1,Loc.low_mono hB (h l hl).2⟩
theorem v_.off{B a:Nat}(h:v_ Z B)(ha:B<=a):lJ Z a:=fun l hl hz=>by
 have:=(h l hz).2;cases l with
 |cell b=>have h1:b.block=a:=hl;have h2:b.block<B:=this;omega
 |obj b=>have h1:b=a:=hl;have h2:b<B:=this;omega
 |_=>exact hl
theorem ab4(hS:∀a,S a->lJ Z a/\a<w.heap.size)(hZ:v_ Z w.heap.size)(hu:w.heap.size<=u)(h:EvS S X w u e):EvL Z u e:=by
 obtain⟨loc,wr,sy⟩:=e;rcases h with⟨a,rfl,h2,h3⟩|⟨a,rfl,h2,h3⟩|⟨m,rfl,h2⟩|rfl
 ·subst h2;have hz:lJ Z a.block/\a.block<u:=by
   rcases h3 with⟨h,_⟩|h
   ·exact⟨(hS _ h).1,af5 (hS _ h).2 hu⟩
   ·exact⟨hZ.off h.1,h.2⟩
  refine⟨fun x hx hs=>?_,by simp,by simp,?_⟩
  ·simp[agt,ahG]at hx;subst hx;exact absurd hs (hz.1 _ rfl)
  ·exact hz.2
 ·subst h2;have hz:lJ Z a/\a<u:=by
   rcases h3 with⟨h,_⟩|h
   ·exact⟨(hS _ h).1,af5 (hS _ h).2 hu⟩
   ·exact⟨hZ.off h.1,h.2⟩
  refine⟨fun x hx hs=>?_,by simp,by simp,?_⟩
  ·simp[agt,ahG]at hx;subst hx;exact absurd hs (hz.1 _ rfl)
  ·simp[agt];exact hz.2
 ·refine⟨fun x hx hs=>?_,?_,?_,?_⟩
  ·rcases h2 with rfl|⟨f,rfl⟩<;>simp[agt,ahG]at hx
  ·rcases h2 with rfl|⟨f,rfl⟩<;>simp
  ·rcases h2 with rfl|⟨f,rfl⟩<;>simp
  ·rcases h2 with rfl|⟨f,rfl⟩<;>trivial
 ·refine⟨fun x hx hs=>?_,by simp,by simp,trivial⟩;simp[agt,ahG]at hx;subst hx;have:=(hZ _ hs).1;cases this
section
variable{P:Program}{Z:Loc->Prop}{Done:(Nat->Prop)->(Nat->Prop)->Frame->List Frame->World->Prop}
theorem EO{t u:Trace}(h:∀op∈t,∀a,op.act≠.mark (.release a))(k:∀op∈u,∀a,op.act≠.mark (.release a)):∀op∈t++u,∀a,op.act≠.mark (.release a):=fun op bg=>(ajv.1 bg).elim (h op) (k op)
theorem SZ{g:Nat}{fn:FuncId}{es:Array _}(h:∀e∈es,EvS S X w u e):∀op∈ahj g fn pos es,∀a,op.act≠.mark (.release a):=by
 intro op bg a0;rw[ofEvents_eq]at bg;obtain⟨e,he,rfl⟩:=aiF.1 bg;obtain⟨loc,wr,sy⟩:=e;rcases h _ he with⟨a,e1,e2,_⟩|⟨a,e1,e2,_⟩|⟨m,e1,h⟩|e1
 ·subst e1 e2;nofun
 ·subst e1 e2;have ha:agt ⟨.obj a,wr,false⟩=.access ⟨.obj a,wr,false⟩:=by cases wr<;>rfl
  simp_all
 ·subst e1;rcases h with rfl|⟨f,rfl⟩<;>nofun
 ·subst e1;nofun
theorem NO{g:Nat}{fn:FuncId}{es:Array _}(h:∀e∈es,e.mute=true):∀op∈ahj g fn pos es,∀a,op.act≠.mark (.release a):=by
 intro op bg a0 y;rw[ofEvents_eq]at bg;obtain⟨e,he,rfl⟩:=aiF.1 bg;have:=h e he;obtain⟨loc,wr,sy⟩:=e;cases loc<;>simp_all[Event.mute,agt]
structure Beside(P:Program)(Z:Loc->Prop)(S:Nat->Prop)(f:Frame)(l:List Frame)(w:World)(gs:Array Goroutine)(t:Trace)(q:Nat->Nat):Prop where
 g0:gs[0]?=some (G f l)
 jU:Leavers P t gs q
 past:Past Z w.heap.size t
 held:∀a,S a->lJ Z a/\a<w.heap.size
 qe:v_ Z w.heap.size
 nr:∀op∈t,∀a,op.act≠.mark (.release a)
structure Kept(X X':Nat->Prop)(w w':World):Prop where
 kept:∀a,a<w.heap.size->¬X a->w'.heap[a]?=w.heap[a]?
 grow:w.heap.size<=w'.heap.size
 may:∀a,X' a->X a\/w.heap.size<=a
 tape:w'.tape=w.tape
 env:pG w'.os w.os
 output:w'.output=w.output
theorem Kept.refl(X:Nat->Prop)(w:World):Kept X X w w:=⟨fun _ _ _=>rfl,agb _,fun _ h=>.inl h,rfl,.refl _,rfl⟩
theorem Kept.trans{X X' X'':Nat->Prop}{w w' lF:World}(h:Kept X X' w w')(k:Kept X' X'' w' lF):Kept X X'' w lF:=by
 refine⟨fun a ha hx=>(k.kept a (af5 ha h.grow) fun x=>?_).trans (h.kept a ha hx),agn h.grow k.grow,fun a ha=>?_,k.tape.trans h.tape,k.env.trans h.env,k.output.trans h.output⟩
 ·rcases h.may a x with y|y
  ·exact hx y
  ·omega
 ·rcases k.may a ha with x|x
  ·exact h.may a x
  ·exact .inr (agn h.grow x)
theorem Did.toKept{w1:World}{es:Array _}(h:Did S X w w1 es S1 X1):Kept X X1 w w1:=⟨h.kept,h.grow,fun a ha=>((h.may a).1 ha).imp id fun x=>x.1,h.tape,h.env,h.output⟩
theorem Kept.at(w:World)(d:Nat):Kept X X w (w.at d):=⟨fun _ _ _=>rfl,agb _,fun _ h=>.inl h,rfl,.refl _,rfl⟩
theorem tZ(U:Nat->Nat->Prop)(S:Nat->Prop)(w:World)(d:Nat):aP U S w (w.at d):=⟨fun _ _=>.inl rfl,agb _,.refl _⟩
theorem Hg{U:Nat->Nat->Prop}(h:Tr P true U Done S X f l w):
  ∀(gs:Array Goroutine) (sl:Option (Nat×Nat)) (t:Trace) (q:Nat->Nat),Beside P Z S f l w gs t q->
   ∃(N:Nat) (iQ:Array Goroutine) (f':Frame) (l':List Frame) (w':World) (tj:Option (Nat×Nat)) (t':Trace) (q':Nat->Nat) (S' X':Nat->Prop),
    runNT P N (crowd gs w sl) t=(.next (crowd iQ w' tj),t')/\iQ.size=gs.size/\Done S' X' f' l' w'/\Beside P Z S' f' l' w' iQ t' q'/\Kept X X' w w':=by
 induction h with
 |stop hd=>exact fun gs sl t q hB=>⟨0,gs,_,_,_,sl,t,q,_,_,rfl,rfl,hd,hB,Kept.refl _ _⟩
 |@step S X f l w ex _ ih=>
  have inner:∀(M:Nat) (gs:Array Goroutine) (w0:World) (sl:Option (Nat×Nat)) (t:Trace) (q:Nat->Nat),sumTo gs.size q=M->aP U S w w0->Beside P Z S f l w0 gs t q->
    ∃(N:Nat) (iQ:Array Goroutine) (f':Frame) (l':List Frame) (w':World) (tj:Option (Nat×Nat)) (t':Trace) (q':Nat->Nat) (S' X':Nat->Prop),
     runNT P N (crowd gs w0 sl) t=(.next (crowd iQ w' tj),t')/\iQ.size=gs.size/\Done S' X' f' l' w'/\Beside P Z S' f' l' w' iQ t' q'/\Kept X X' w0 w':=by
   intro M;induction M using Nat.strongRecOn with
   |_ M ihM=>
   intro gs w0 sl t q hM hr hB;have hL:=hB.jU;have h0:=hB.g0;have EP:∀g∈gs,awake g:=by
    intro g hg;obtain⟨i,hi,rfl⟩:=Array.mem_iff_getElem.1 hg;rcases ai3 i with rfl|t_
    ·have:gs[0]=G f l:=by simpa[ahY hi]using h0
     rw[this];exact awake_of (.inl rfl)
    ·exact awake_of ((hL.old i _ t_ (ahY hi)).status.elim .inl fun x=>.inr (.inr x))
   obtain⟨i,g,d,tj,hi,hg,aA⟩:=crowd_pick (P:=P) (w:=w0) (sl:=sl) EP ⟨0,_,h0,rfl⟩;rcases ai3 i with rfl|t_
   ·
    obtain rfl:g=G f l:=by rw[h0]at hi;exact(af4 hi).symm
    have fU:=hr.trans (tZ U S w0 d);obtain⟨f1,l1,w1,es,S1,X1,hgo,hd⟩:=ex (w0.at d) fU;have Ah:=runT_crowd_go (P:=P) (sl:=tj) (i:=0) hi (hgo);have mK:((gs.map (woken P (G f l) (G f1 l1) w1)).setIfInBounds 0 (G f1 l1)).size=gs.size:=by simp
    have aV:0<gs.size:=(ahH.1 h0).1;have aD:=hd.grow;have hB1:Beside P Z S1 f1 l1 w1 ((gs.map (woken P (G f l) (G f1 l1) w1)).setIfInBounds 0 (G f1 l1)) (t++ahj 0 (G f l).frame.fn (G f l).frame.place es) q:=by
     refine⟨by simp[aV],⟨fun j x hj hx=>?_,fun j hj=>?_⟩,?_,fun a ha=>?_,hB.qe.mono aD,EO hB.nr (SZ hd.ev)⟩
     ·have bj:0≠j:=by omega
      rw[agy bj,ahh]at hx;obtain⟨y,hy,rfl⟩:=ain.1 hx;have hq:=hL.old j y hj hy;rw[woken_quitsD hq,Deaf_other t (by omega) _ (fun op bg=>ofEvents_g bg)];exact hq
     ·rw[Deaf_other t (g':=0) (by simp at hj;omega) _ (fun op bg=>ofEvents_g bg)];exact hL.above j (by simpa using hj)
     ·exact(hB.past.mono aD).own fun e he=>ab4 (w:=w0.at d) hB.held hB.qe aD (hd.ev e he)
     ·rcases(hd.held a).1 ha with x|x
      ·exact⟨(hB.held a x).1,af5 (hB.held a x).2 aD⟩
      ·exact⟨hB.qe.off x.1,x.2⟩
    obtain⟨N,iQ,f',l',w',Lm,t',q',S',X',F7,qb,hD',ER,vO⟩:=ih (w0.at d) f1 l1 w1 es S1 X1 fU hgo hd _ tj _ q hB1;exact⟨N+1,iQ,f',l',w',Lm,t',q',S',X',by simp only[runNT,aA,Ah];exact F7,qb.trans mK,hD',ER,((Kept.at w0 d).trans hd.toKept).trans vO⟩
   ·
    have hq:=hL.old i g t_ hi;have tG:(i==0)=false:=by simp;omega
    have aV:i<gs.size:=(ahH.1 hi).1;cases S3:q i with
    |zero=>rw[S3]at hq;rw[hq.1]at hg;cases hg
    |succ k=>
     rw[S3]at hq;rcases hq with⟨hf,_⟩|⟨_,g',es,hm,ab7,vy⟩
     ·rw[hf]at hg;cases hg
     have Ah:=runT_crowd_go (P:=P) (sl:=tj) (i:=i) hi (by rw[tG];exact ab7 (w0.at d));have mK:((gs.map (woken P g g' (w0.at d))).setIfInBounds i g').size=gs.size:=by simp
     have W9:sumTo gs.size (upd q i k)+(k+1)=sumTo gs.size q+k:=by
      have:=sumTo_upd q k id aV;simpa[S3]using this
     have hB1:Beside P Z S f l (w0.at d) ((gs.map (woken P g g' (w0.at d))).setIfInBounds i g') (t++ahj i g.frame.fn g.frame.place es) (upd q i k):=by
      refine⟨?_,⟨fun j x hj hx=>?_,fun j hj=>?_⟩,hB.past.mute (by omega) hm,hB.held,hB.qe,EO hB.nr (NO hm)⟩
      ·have bj:i≠0:=by omega
       rw[agy bj,ahh,h0];simp[woken_run (b:=G f l) rfl]
      ·by_cases W_:i=j
       ·subst W_;rw[Array.getElem?_setIfInBounds_self_of_lt (by simpa using aV)]at hx;obtain rfl:=af4 hx;rw[upd_same,Deaf_own];exact vy
       ·rw[agy W_,ahh]at hx;obtain⟨y,hy,rfl⟩:=ain.1 hx;have hqj:=hL.old j y hj hy;rw[woken_quitsD hqj,upd_ne q k (Ne.symm W_),Deaf_other t W_ _ (fun op bg=>ofEvents_g bg)];exact hqj
      ·rw[Deaf_other t (g':=i) (by simp at hj;omega) _ (fun op bg=>ofEvents_g bg)];exact hL.above j (by simpa using hj)
     obtain⟨N,iQ,f',l',w',Lm,t',q',S',X',F7,qb,hD',ER,vO⟩:=ihM (sumTo gs.size (upd q i k)) (by omega) _ (w0.at d) tj _ (upd q i k) (by rw[mK]) (hr.trans (tZ U S w0 d)) hB1;exact⟨N+1,iQ,f',l',w',Lm,t',q',S',X',by simp only[runNT,aA,Ah];exact F7,qb.trans mK,hD',ER,(Kept.at w0 d).trans vO⟩
  exact fun gs sl t q hB=>inner _ gs w sl t q rfl (aP.refl U S w) hB
end
end Ren
namespace Ren
open Conc
section
variable{P:Program}{main:Bool}{U:Nat->Nat->Prop}{D D':(Nat->Prop)->(Nat->Prop)->Frame->List Frame->World->Prop}
theorem Tr.bind{l:List _}(h:Tr P main U D S X f l w)(k:∀S X f l w,D S X f l w->Tr P main U D' S X f l w):Tr P main U D' S X f l w:=by
 induction h with
 |stop hd=>exact k _ _ _ _ _ hd
 |step ex _ ih=>exact .step ex fun w2 f1 l1 w1 es S1 X1 hr e hd=>ih w2 f1 l1 w1 es S1 X1 hr e hd
end
section
variable[ak]{P:Program}{main:Bool}{U:Nat->Nat->Prop}{r0:Rn}{v0 w:World}
def agk(U:Nat->Nat->Prop)(r0:Rn)(R:Ending->World->Prop)(c:Frame)(cs:List Frame)(S X:Nat->Prop)(f':Frame)(l':List _)(w:World):=
 l'=cs/\∃r v x x',Le r0 r/\V r x x'/\f'=c.finish x'/\W r 0 v w/\S=Rd r/\X=Wr r/\R (.returned x) v/\Li U r/\∀a i,U a i->a<w.heap.size
theorem Ai(F:kX P)(hD:∀l,¬ak.pD l){f:FuncId}{R:Ending->World->Prop}(yR:∀e u,R e u->∃x,e=.returned x){c:Frame}
  (h:lX P U r0 (fun fr l v=>l=[fG]/\∃e,R e v/\fr.fn=f/\fr.leaving P v e) [fG] (c::cs) S X f' l' w):Tr P main U (agk U r0 R c cs) S X f' l' w:=by
 obtain⟨r,n,fr,l,v,hle,hf,Hh,hw,rfl,rfl,⟨rfl,e,hR,aY,hl⟩,j_,bY⟩:=h;obtain⟨rfl,rfl⟩:=Hh.SY;obtain⟨x,rfl⟩:=yR e v hR;obtain⟨hm,hd,hk,fn,agl,bm⟩:=hl;have Wz:f'.mode=.returning:=by
  have:=hf.mode;rw[hm]at this;generalize f'.mode=m at this;cases this;rfl
 have S4:f'.defers=[]:=by
  have:=hf.defers;rw[hd]at this;generalize f'.defers=m at this;cases this with
  |nil=>rfl
  |rest _ h=>exact absurd h (hD _)
 have oo:=hf.kind.trans hk;have anp:P.funcs[f'.fn]?=some fn:=by rw[hf.fn];omega
 have one:∀w2,aP U (Rd r) w w2->∃r1 x' w1 es,Le r r1/\V r1 x x'/\W r1 0 v w1/\stepG P main (G f' (c::cs)) w2=.go (G (c.finish x') cs) w1 es/\Did (Rd r) (Wr r) w2 w1 es (Rd r1) (Wr r1)/\Li U r1:=by
  intro w2 hr;have nP:=hw.rely j_ hr;have run:=(Ac (fn:=fn) hf.tmps).run F.Cc #[] nP;rw[bm]at run;generalize vw:age P _ w2 #[]=sw at run;cases run with
  |zg a b=>simp only[Result.world]at a;omega
  |@ok _ x' _ w1 fs r1 c1 o hx he=>
   have hc:c1=0:=by have:=o.drew;omega
   subst hc;have hv1:Li U r1:=by
    intro b b' i e hu;rcases o.fresh b b' e with y|y
    ·exact j_ b b' i y hu
    ·have:=bY b' i hu;have:=hr.grow;omega
   refine⟨r1,x',w1,_,o.le,hx,o.wl,?_,o.did nP (nT (P:=P) (fn:=f'.fn) he),hv1⟩;unfold stepG;simp only[G];unfold unwind;simp only[S4,Wz,anp,vw];unfold doReturn;simp only[oo,agh];simp
 refine .step (fun w2 hr=>?_) fun w2 f1 l1 w1 es S1 X1 hr e Xa=>?_
 ·obtain⟨r1,x',w1,es,_,_,_,e,Xa,_⟩:=one w2 hr;exact⟨_,_,w1,es,_,_,e,Xa⟩
 ·obtain⟨r1,x',w1',kA,h1,h2,h3,e',agm,hv1⟩:=one w2 hr;rw[e]at e';cases e';obtain⟨rfl,rfl⟩:=Xa.same agm;exact .stop ⟨rfl,r1,v,x,x',hle.trans h1,h2,rfl,h3,rfl,rfl,hR,hv1,fun a i hu=>af5 (bY a i hu) (agn hr.grow Xa.grow)⟩
theorem PO(F:kX P)(hW:∀ops,¬ak.wall ops)(hD:∀l,¬ak.pD l)(gi:GI r0){f:FuncId}{args kS:Array _}{R:Ending->World->Prop}(hc:∀T,Calls P f args (tp v0 T) R)(yR:∀e u,R e u->∃x,e=.returned x)(hg:ak.cV f)(ha:VA r0 args kS)(hw:W r0 0 v0 w)(j_:Li U r0)(bY:∀a i,U a i->a<w.heap.size)(c:Frame)(cs:List _):
  Tr P main U (agk U r0 R c cs) (Rd r0) (Wr r0) (ags P f kS .normal) (c::cs) w:=
 (Ll F hW gi hc (fun u h=>by obtain⟨x,e⟩:=yR _ _ h;cases e) hg ha hw j_ bY).bind fun S X f' l' w' h=>Ai F hD yR h
end
section
variable[ak]{P:Program}{main:Bool}{U:Nat->Nat->Prop}{r0:Rn}{v0 w:World}
def yc:List Item:=[.code (.refuse "")]
def Hi(b:Frame)(R:Act->World->Prop)(f:Frame)(l:List _)(v:World):=l=[fG]/\∃a,f=b.at a yc/\R a v
theorem Aj(F:kX P)(hW:∀ops,¬ak.wall ops)(gi:GI r0){c:Code}{a:Act}{R:Act->World->Prop}(hc:∀T,Code.wp P c (fun e a' v'=>e=.normal/\R a' v') a (tp v0 T))
  (hb:b.kind=.normal)(ib:dD P false c){cL:List _}(hf:FR P r0 true (b.at a (.code c::yc)) f')(hw:W r0 0 v0 w)(j_:Li U r0)(bY:∀a i,U a i->a<w.heap.size):
  Tr P main U (lX P U r0 (Hi b R) [fG] cL) (Rd r0) (Wr r0) f' cL w:=by
 have C:∀T,∃n a' v1,runN P n (lone (b.at a (.code c::yc)) [fG] (tp v0 T))=.next (lone (b.at a' yc) [fG] v1)/\R a' v1:=by
  intro T;obtain⟨e,a',v1,⟨rfl,hR⟩,n,hn⟩:=hc T b _ _;exact⟨n,a',v1,hn,hR⟩
 refine tree F gi (fun T=>?_) (fun T k f v he h1 h2 h3=>?_) (fun T k f l v i ops dr q _ _ _ h=>absurd h (hW ops)) hf ⟨rfl,hb⟩ hw j_ bY
 ·obtain⟨n,a',v1,hn,hR⟩:=C T;exact⟨n,_,_,v1,hn,rfl,a',rfl,hR⟩
 ·exfalso;obtain⟨n,a',v1,hn,hR⟩:=C T;rcases Nat.lt_or_ge k n with aV|hge
  ·obtain⟨m,rfl⟩:∃m,n=k+(m+1):=⟨n-k-1,by omega⟩;rw[runN_add,h1.runN]at hn;exact vY m h2 h3 hn
  ·obtain⟨g,l2,u,h4⟩:=h1.pre n hge;obtain⟨rfl,rfl,rfl⟩:=h4.det hn;exact he n _ _ _ hge h4 ⟨rfl,a',rfl,hR⟩
theorem Dc{R:Act->World->Prop}(hkr:∀k,ak.rest k->k=kr)(h:lX P U r0 (Hi b R) [fG] cL S X f' l' w):
  l'=cL/\∃r a v,Le r0 r/\W r 0 v w/\S=Rd r/\X=Wr r/\R a v/\Li U r/\(∀a i,U a i->a<w.heap.size)/\VA r a.tmps f'.tmps/\f'.fn=b.fn/\f'.kind=b.kind/\f'.mode=.run/\f'.roundOf=none/\f'.todo=kr/\DB r true a.defers f'.defers:=by
 obtain⟨r,n,f,l,v,h1,hf,hs,hw,e1,e2,⟨rfl,a,rfl,hR⟩,hv,hl⟩:=h;obtain⟨rfl,rfl⟩:=hs.SY;refine⟨rfl,r,a,v,h1,hw,e1,e2,hR,hv,hl,hf.tmps,hf.fn,hf.kind,?_,?_,?_,hf.defers⟩
 ·have:=hf.mode;simp only[Frame.at]at this;generalize f'.mode=m at this;cases this;rfl
 ·have:=hf.round;simp only[Frame.at]at this;generalize f'.roundOf=m at this;cases this;rfl
 ·have:=hf.todo;simp only[Frame.at,yc]at this;generalize f'.todo=m at this;cases this with
  |rest _ _ h _=>exact hkr _ h
  |cons a _=>
   cases a with
   |code h=>exact absurd rfl h
end
def At(P:Program)(Z:Loc->Prop)(f:Frame)(l:List _)(w:World)(m:Machine)(t:Trace):=
 ∃gs sl q,m=crowd gs w sl/\Beside P Z (fun _=>False) f l w gs t q
abbrev QT:=(Loc->Prop)->Frame->List Frame->World->Prop
def aZ(P:Program)(Q:QT)(Z:Loc->Prop)(f:Frame)(l:List Frame)(w:World):Prop:=
 ∀m t,At P Z f l w m t->∃N m' t' Z' f' l' w',runNT P N m t=(.next m',t')/\At P Z' f' l' w' m' t'/\Q Z' f' l' w'
theorem runNT_add(P:Program):∀a b m m1 t t1,runNT P a m t=(.next m1,t1)->runNT P (a+b) m t=runNT P b m1 t1
 |0,b,m,m1,t,t1,h=>by
  cases h;simp_all
 |a+1,b,m,m1,t,t1,h=>by
  rw[show a+1+b=(a+b)+1 by omega];simp[runNT]at h⊢;cases hs:stepT P m with
  |mk s ops=>
   rw[hs]at h;cases s with
   |next m2=>exact runNT_add P a b m2 m1 _ t1 h
   |ended o w=>cases h
section
variable{P:Program}{Q Q1:QT}{Z:Loc->Prop}{f:Frame}{l:List Frame}{w:World}
theorem aZ.done(h:Q Z f l w):aZ P Q Z f l w:=fun m t hA=>⟨0,m,t,Z,f,l,w,rfl,hA,h⟩
theorem aZ.tree{Done:(Nat->Prop)->(Nat->Prop)->Frame->List _->World->Prop}{U:Nat->Nat->Prop}(h:Tr P true U Done S X f l w)(hS:∀a,S a->lJ Z a/\a<w.heap.size)
  (k:∀S' X' f' l' w',Done S' X' f' l' w'->Kept X X' w w'->aZ P Q Z f' l' w'):aZ P Q Z f l w:=by
 rintro m t ⟨gs,sl,q,rfl,hB⟩;obtain⟨N,iQ,f',l',w',tj,t',q',S',X',hr,hs,hD,ER,hK⟩:=Hg h gs sl t q ⟨hB.g0,hB.jU,hB.past,hS,hB.qe,hB.nr⟩;obtain⟨N2,m2,t2,Z2,f2,l2,w2,fU,hA2,Hj⟩:=k S' X' f' l' w' hD hK _ t' ⟨iQ,tj,q',rfl,ER.g0,ER.jU,ER.past,(fun a h=>h.elim),ER.qe,ER.nr⟩;exact⟨N+N2,m2,t2,Z2,f2,l2,w2,by rw[runNT_add P N N2 _ _ _ _ hr];omega,hA2,Hj⟩
end
section
variable[ak]{P:Program}{Q:QT}{Z:Loc->Prop}{w:World}
theorem aZ.call(F:kX P)(hW:∀ops,¬ak.wall ops)(hD:∀l,¬ak.pD l){r0:Rn}(gi:GI r0){f:FuncId}{args kS:Array _}{R:Ending->World->Prop}(hc:∀T,Calls P f args (tp v0 T) R)(yR:∀e u,R e u->∃x,e=.returned x)(hg:ak.cV f)(ha:VA r0 args kS)(hw:W r0 0 v0 w){c:Frame}{cs:List _}
  (hZ:∀a,Rd r0 a->lJ Z a)
  (k:∀r v x x' w',Le r0 r->V r x x'->W r 0 v w'->R (.returned x) v->Kept (Wr r0) (Wr r) w w'->aZ P Q Z (c.finish x') cs w'):aZ P Q Z (ags P f kS .normal) (c::cs) w:=by
 refine aZ.tree (U:=fun _ _=>False) (PO F hW hD gi hc yR hg ha hw (fun _ _ _ _ h=>h.elim) (fun _ _ h=>h.elim) c cs) (fun a ha=>⟨hZ a ha,?_⟩) ?_
 ·obtain⟨b,hb⟩:=ha;exact(hw.lt hb).2
 ·rintro S' X' f' l' w' ⟨rfl,r,v,x,x',h1,h2,rfl,h3,rfl,rfl,h4,_⟩ hK;exact k r v x x' w' h1 h2 h3 h4 hK
end
section
variable[ak]
open Classical in
noncomputable def su (K:Nat->Prop):Rn where
 f b:=if K b then some b else none
 inj b b' c h h':=by
  split at h
  ·split at h'
   ·cases h;cases h';rfl
   ·cases h'
  ·cases h
 fK b c h:=by
  split at h
  ·cases h;exact Iff.rfl
  ·cases h
open Classical in
theorem mP{K:Nat->Prop}{b:Nat}(h:K b):su K b=some b:=by
 show(if K b then some b else none)=_
 simp_all
open Classical in
theorem nU{K:Nat->Prop}{b c:Nat}:su K b=some c↔K b/\b=c:=by
 show(if K b then some b else none)=some c↔_
 simp_all
theorem zi{K:Nat->Prop}{a:Nat}:Rd (su K) a↔K a:=⟨(fun⟨b,hb⟩=>by obtain⟨h,rfl⟩:=nU.1 hb;exact h),fun h=>⟨a,mP h⟩⟩
theorem Xb{K:Nat->Prop}{a:Nat}:Wr (su K) a↔K a/\¬ak.ro a:=⟨(fun⟨b,hb,hn⟩=>by obtain⟨h,rfl⟩:=nU.1 hb;simp_all),fun h=>⟨a,mP h.1,h.2⟩⟩
theorem S5(fL:∀b,¬ak.ro b)(hs:ak.size<=w.heap.size)(h:∀b,K b->∃o,w.heap[b]?=some o/\O (su K) o o):W (su K) 0 w w:=by
 refine⟨fun b b' e=>?_,hs,hs,fun b hb=>absurd hb (fL b),fun i q hi=>by omega,rfl⟩;obtain⟨hk,rfl⟩:=nU.1 e;obtain⟨o,h1,h2⟩:=h b hk;exact⟨o,o,h1,h1,.same (fL b) h2⟩
theorem S6{r:Rn}{c:Array _}(e:TypeId)(fz:Nat×Nat)(h:∀x∈c,V r x x):O r (.cells c e fz) (.cells c e fz):=.cells e fz ⟨rfl,fun i x x' e e'=>by
 obtain rfl:=af4 (e.symm.trans e');exact h x (agG e)⟩
end
theorem Ak(P:Program):∀n m m1 t t1,runNT P n m t=(.next m1,t1)->runN P n m=.next m1
 |0,m,m1,t,t1,h=>by
  cases h;rfl
 |n+1,m,m1,t,t1,h=>by
  simp[runNT]at h;simp[Go.runN,step];cases hs:stepT P m with
  |mk s ops=>
   rw[hs]at h;cases s with
   |next m2=>exact Ak P n m2 m1 _ t1 h
   |ended o w=>cases h
def Ends(P:Program)(Ln:Value->World->Prop)(Z:Loc->Prop)(f:Frame)(l:List _)(w:World):=∀w1,AtRel w w1->AtEnd P Z w.heap.size Ln (G f l) w1
theorem aZ.close{Ln:Value->World->Prop}{W:World}(h:aZ P (Ends P Ln) (fun _=>False) f [] W):
  ∃M last o w' t',runNT P (M+1) (solo (G f []) W) #[]=(.ended o w',t')/\runN P M (solo (G f []) W)=.next last/\step P last=.ended o w'/\Conc.Good P Ln last o w' t':=by
 have hp:Past (fun _=>False) W.heap.size #[]:=past_nil.mono (Nat.zero_le _);obtain⟨N,m',t',Z',f',l',w',hr,⟨gs,sl,q,rfl,hB⟩,hE⟩:=h (solo (G f []) W) #[] ⟨#[G f []],none,fun _=>0,rfl,rfl,leavers_one P _,hp,(fun a h=>h.elim),(fun a h=>h.elim),by simp⟩;obtain⟨M,last,o,w2,t2,h1,h2,h3,h4⟩:=beside_ends (D:=fun _ _ _=>False) (n:=0) (sl:=sl) (fun _ _ _ h=>h.elim) hB.g0 hB.jU hB.past hE;exact⟨N+M,last,o,w2,t2,by rw[show N+M+1=N+(M+1) by omega,runNT_add P N (M+1) _ _ _ _ hr];exact h1,by rw[runN_add,Ak P N _ _ _ _ hr];exact h2,h3,h4⟩
theorem De{a:Act}{c:Code}{fn:Func}{R:Ending->World->Prop}(hf:P.funcs[b.fn]?=some fn)(hk:b.kind=.normal)(BP:∀u,¬R .outgrown u)(h:c.wp P (bodyPost P fn R) a w)(cs:List _):
  ∃n fr w' e,runN P n (lone (b.at a [.code c]) cs w)=.next (lone fr cs w')/\R e w'/\fr.fn=b.fn/\fr.leaving P w' e:=by
 obtain⟨e,a',w',hq,ab_⟩:=h b [] cs;cases e with
 |normal=>
  obtain⟨hd,v,hr,hR⟩:=hq;obtain⟨n,hn⟩:=Steps.trans ab_ (.one step_end);exact⟨n,_,w',.returned v,hn,hR,rfl,rfl,hd,hk,fn,hf,hr⟩
 |ret=>
  obtain⟨hd,v,hr,hR⟩:=hq;obtain⟨todo,n,hn⟩:=ab_;exact⟨n,_,w',.returned v,hn,hR,rfl,rfl,hd,hk,fn,hf,hr⟩
 |panic chain=>
  obtain⟨hd,hR⟩:=hq;obtain⟨todo,n,hn⟩:=ab_;exact⟨n,_,w',.panicked _,hn,hR,rfl,rfl,hd,fn,hf⟩
 |exit id=>exact hq.elim
 |goto l=>exact hq.elim
 |outgrown=>exact absurd hq (BP _)
section
variable[ak]{P:Program}{main:Bool}{U:Nat->Nat->Prop}{r0:Rn}{v0 w:World}{cL:List Frame}
theorem PQ(F:kX P)(hW:∀ops,¬ak.wall ops)(gi:GI r0){a:Act}{c:Code}{fn:Func}{R:Ending->World->Prop}(aY:P.funcs[b.fn]?=some fn)(hk:b.kind=.normal)(hc:∀T,c.wp P (bodyPost P fn R) a (tp v0 T))(BP:∀u,¬R .outgrown u)(hf:FR P r0 true (b.at a [.code c]) f')(hw:W r0 0 v0 w)(j_:Li U r0)(bY:∀a i,U a i->a<w.heap.size):
  Tr P main U (lX P U r0 (fun fr l v=>l=[fG]/\∃e,R e v/\fr.fn=b.fn/\fr.leaving P v e) [fG] cL) (Rd r0) (Wr r0) f' cL w:=by
 have C:∀T,∃n f1 v1,runN P n (lone (b.at a [.code c]) [fG] (tp v0 T))=.next (lone f1 [fG] v1)/\∃e,R e v1/\f1.fn=b.fn/\f1.leaving P v1 e:=by
  intro T;obtain⟨n,fr,w',e,hn,hR,h1,h2⟩:=De aY hk BP (hc T) _;exact⟨n,fr,w',hn,e,hR,h1,h2⟩
 have rD:∀(fr:Frame) (v:World),(∃e,R e v/\fr.fn=b.fn/\fr.leaving P v e)->fr.mode≠.run/\fr.defers=[]:=by
  rintro fr v ⟨e,hR,_,hl⟩;cases e with
  |outgrown=>exact absurd hR (BP _)
  |returned x=>exact⟨(by rw[hl.1];simp),hl.2.1⟩
  |panicked x=>exact⟨(by rw[hl.1];simp),hl.2.1⟩
 refine tree F gi (fun T=>?_) (fun T k fr v _ h1 h2 h3=>⟨rfl,vZ rD C T k fr v h1 h2 h3⟩) (fun T k f l v i ops dr q _ _ _ h=>absurd h (hW ops)) hf ⟨rfl,hk⟩ hw j_ bY;obtain⟨n,f1,v1,h1,h2⟩:=C T;exact⟨n,f1,[fG],v1,h1,rfl,h2⟩
end
section
variable[ak]{P:Program}{Q:QT}{Z:Loc->Prop}{w:World}
theorem aZ.rest(F:kX P)(hW:∀ops,¬ak.wall ops)(hD:∀l,¬ak.pD l){r0:Rn}(gi:GI r0){a:Act}{c:Code}{fn:Func}{R:Ending->World->Prop}(aY:P.funcs[b.fn]?=some fn)(hk:b.kind=.normal)(hc:∀T,c.wp P (bodyPost P fn R) a (tp v0 T))(yR:∀e u,R e u->∃x,e=.returned x)(hf:FR P r0 true (b.at a [.code c]) f')(hw:W r0 0 v0 w){c0:Frame}{cs:List _}
  (hZ:∀a,Rd r0 a->lJ Z a)
  (k:∀r v x x' w',Le r0 r->V r x x'->W r 0 v w'->R (.returned x) v->Kept (Wr r0) (Wr r) w w'->aZ P Q Z (c0.finish x') cs w'):aZ P Q Z f' (c0::cs) w:=by
 have T1:=PQ (main:=true) (U:=fun _ _=>False) (cL:=c0::cs) F hW gi aY hk hc (fun u h=>by obtain⟨x,e⟩:=yR _ _ h;cases e) hf hw (fun _ _ _ _ h=>h.elim) (fun _ _ h=>h.elim);refine aZ.tree (T1.bind fun S X f' l' w' h=>Ai F hD yR h) (fun a ha=>⟨hZ a ha,?_⟩) ?_
 ·obtain⟨b,hb⟩:=ha;exact(hw.lt hb).2
 ·rintro S' X' f' l' w' ⟨rfl,r,v,x,x',h1,h2,rfl,h3,rfl,rfl,h4,_⟩ hK;exact k r v x x' w' h1 h2 h3 h4 hK
end
theorem Hk{a:Act}{c:Code}{fn:Func}{ops:Array _}{l:List Nat}{R:Ending->World->Prop}(hf:P.funcs[b.fn]?=some fn)(hk:b.kind=.normal)(BP:∀u,¬R .outgrown u)(h:wpOps P ops (fun e a' w'=>e=.normal/\c.wp P (bodyPost P fn R) a' w') l a w)(cs:List _):
  ∃n fr w' e,runN P n (lone (b.at a [.inRegion ops l,.code c]) cs w)=.next (lone fr cs w')/\R e w'/\fr.fn=b.fn/\fr.leaving P w' e:=by
 obtain⟨e,a',w',⟨rfl,hc⟩,n1,hn1⟩:=wp_ops l a w h b _ cs;obtain⟨n,fr,w2,e,hn,r⟩:=De hf hk BP hc cs;exact⟨n1+n,fr,w2,e,by rw[runN_add,hn1];exact hn,r⟩
section
variable[ak]{P:Program}{Q:QT}{Z:Loc->Prop}{w:World}
theorem aZ.lone(F:kX P)(hW:∀ops,¬ak.wall ops)(hD:∀l,¬ak.pD l){r0:Rn}(gi:GI r0){a:Act}{its:List _}{fn:Func}{R:Ending->World->Prop}(aY:P.funcs[b.fn]?=some fn)(hk:b.kind=.normal)(hc:∀T,∃n fr w' e,runN P n (Go.lone (b.at a its) [fG] (tp v0 T))=.next (Go.lone fr [fG] w')/\R e w'/\fr.fn=b.fn/\fr.leaving P w' e)(yR:∀e u,R e u->∃x,e=.returned x)(hf:FR P r0 true (b.at a its) f')(hw:W r0 0 v0 w){c0:Frame}{cs:List _}
  (hZ:∀a,Rd r0 a->lJ Z a)
  (k:∀r v x x' w',Le r0 r->V r x x'->W r 0 v w'->R (.returned x) v->Kept (Wr r0) (Wr r) w w'->aZ P Q Z (c0.finish x') cs w'):aZ P Q Z f' (c0::cs) w:=by
 have BP:∀u,¬R .outgrown u:=fun u h=>by obtain⟨x,e⟩:=yR _ _ h;cases e
 have C:∀T,∃n f1 v1,runN P n (Go.lone (b.at a its) [fG] (tp v0 T))=.next (Go.lone f1 [fG] v1)/\∃e,R e v1/\f1.fn=b.fn/\f1.leaving P v1 e:=by simp_all
 have rD:∀(fr:Frame) (v:World),(∃e,R e v/\fr.fn=b.fn/\fr.leaving P v e)->fr.mode≠.run/\fr.defers=[]:=by
  rintro fr v ⟨e,hR,_,hl⟩;cases e with
  |outgrown=>exact absurd hR (BP _)
  |returned x=>exact⟨(by rw[hl.1];simp),hl.2.1⟩
  |panicked x=>exact⟨(by rw[hl.1];simp),hl.2.1⟩
 have T1:Tr P true (fun _ _=>False) (lX P (fun _ _=>False) r0 (fun fr l v=>l=[fG]/\∃e,R e v/\fr.fn=b.fn/\fr.leaving P v e) [fG] (c0::cs)) (Rd r0) (Wr r0) f' (c0::cs) w:=by
  refine Ren.tree F gi (fun T=>?_) (fun T k fr v _ h1 h2 h3=>⟨rfl,vZ rD C T k fr v h1 h2 h3⟩) (fun T k f l v i ops dr q _ _ _ h=>absurd h (hW ops)) hf ⟨rfl,hk⟩ hw (fun _ _ _ _ h=>h.elim) (fun _ _ h=>h.elim);obtain⟨n,f1,v1,h1,h2⟩:=C T;exact⟨n,f1,[fG],v1,h1,rfl,h2⟩
 refine aZ.tree (T1.bind fun S X f' l' w' h=>Ai F hD yR h) (fun a ha=>⟨hZ a ha,?_⟩) ?_
 ·obtain⟨b,hb⟩:=ha;exact(hw.lt hb).2
 ·rintro S' X' f' l' w' ⟨rfl,r,v,x,x',h1,h2,rfl,h3,rfl,rfl,h4,_⟩ hK;exact k r v x x' w' h1 h2 h3 h4 hK
end
variable{P:Program}{Q:QT}{Z:Loc->Prop}{cs:List Frame}{ops:Array Oper}{md:Region.Mode}
theorem aZ.S7(mk:Array _->List Nat->Frame)(Inv:Nat->Array _->World->Prop)
  (pq:∀listed i fuel t w,Inv (fuel+1) listed w->i∈agx md ops listed->(∀w',Inv fuel (listed.setIfInBounds i true) w'->aZ P Q Z (mk (listed.setIfInBounds i true) (agO md ops fuel t (listed.setIfInBounds i true) [])) cs w')->aZ P Q Z (mk listed (i::agO md ops fuel t (listed.setIfInBounds i true) [])) cs w)
  (bR:∀fuel listed w,Inv fuel listed w->fuel=0\/agx md ops listed=[]->aZ P Q Z (mk listed []) cs w):
  ∀fuel t listed w,Inv fuel listed w->aZ P Q Z (mk listed (agO md ops fuel t listed [])) cs w:=by
 intro fuel;induction fuel with
 |zero=>intro t listed w h;exact bR 0 _ w h (.inl rfl)
 |succ fuel ih=>
  intro t listed w h;change aZ P Q Z (mk _ (match(agx md ops _)[t%(agx md ops _).length]? with
   |some i=>agO md ops _ _ _ [i]
   |none=>[].reverse)) cs w
  cases hi:(agx md ops _)[t%(agx md ops _).length]? with
  |none=>
   have Xc:agx md ops listed=[]:=by
    cases hr:agx md ops _ with
    |nil=>rfl
    |cons x xs=>
     rw[hr]at hi;have aV:t%(x::xs).length<(x::xs).length:=Nat.mod_lt _ (by simp);simp at hi;simp at aV;omega
   exact bR _ _ w h (.inr Xc)
  |some i=>
   simp;rw[linearise_go_acc,List.reverse_singleton,List.singleton_append];exact pq _ i _ _ w h (List.mem_of_getElem? hi) fun w' h'=>ih _ _ w' h'
end Ren
namespace Ph
open Conc Ren
structure iF(U:Nat->Nat->Prop)(S X:Nat->Prop)(w w1:World)(es:Array Event)(S1 X1:Nat->Prop):Prop extends Did S X w w1 es S1 X1 where
 nou:∀e∈es,∀a:Addr,e.loc=.cell a->¬U a.block a.off
inductive Tz(P:Program)(main:Bool)(U:Nat->Nat->Prop)(Done:(Nat->Prop)->(Nat->Prop)->Goroutine->World->Prop):(Nat->Prop)->(Nat->Prop)->Goroutine->World->Prop
 |stop {S X:Nat->Prop} {g:Goroutine} {w:World}:Done S X g w->Tz P main U Done S X g w
 |step {S X:Nat->Prop} {g:Goroutine} {w:World}:g.status=.running->(∀w2,aP U S w w2->∃g1 w1 es S1 X1,stepG P main g w2=.go g1 w1 es/\iF U S X w2 w1 es S1 X1)->
   (∀w2 g1 w1 es S1 X1,aP U S w w2->stepG P main g w2=.go g1 w1 es->iF U S X w2 w1 es S1 X1->Tz P main U Done S1 X1 g1 w1)->Tz P main U Done S X g w
section
variable{P:Program}{main:Bool}{U:Nat->Nat->Prop}{D D':(Nat->Prop)->(Nat->Prop)->Goroutine->World->Prop}{S X S1 X1 S2 X2:Nat->Prop}{g:Goroutine}{f:Frame}{l:List Frame}{w w1 w2 w3:World}{es:Array Event}
theorem Tz.bind(h:Tz P main U D S X g w)(k:∀S X g w,D S X g w->Tz P main U D' S X g w):Tz P main U D' S X g w:=by
 induction h with
 |stop hd=>exact k _ _ _ _ hd
 |step hs ex _ ih=>exact .step hs ex fun w2 g1 w1 es S1 X1 hr e hd=>ih w2 g1 w1 es S1 X1 hr e hd
theorem Tz.one(hs:g.status=.running)(h:∀w2,aP U S w w2->∃g1 w1 es S1 X1,stepG P main g w2=.go g1 w1 es/\iF U S X w2 w1 es S1 X1/\Tz P main U D S1 X1 g1 w1):Tz P main U D S X g w:=by
 refine .step hs (fun w2 hr=>?_) fun w2 g1 w1 es S1 X1 hr e hd=>?_
 ·obtain⟨g1,w1,es,S1,X1,e,hd,_⟩:=h w2 hr;exact⟨g1,w1,es,S1,X1,e,hd⟩
 ·obtain⟨g1',w1',kA,S1',X1',e',S4,ht⟩:=h w2 hr;rw[e]at e';cases e';obtain⟨rfl,rfl⟩:=hd.toDid.same S4.toDid;exact ht
theorem Hm(h:EvS S X w u e):EvS (fun a=>S a\/SF a) (fun a=>X a\/XF a) w u e:=by
 rcases h with⟨a,h1,h2,h3⟩|⟨a,h1,h2,h3⟩|h
 ·exact .inl ⟨a,h1,h2,h3.imp (fun y=>⟨.inl y.1,fun z=>.inl (y.2 z)⟩) id⟩
 ·exact .inr (.inl ⟨a,h1,h2,h3.imp (fun y=>⟨.inl y.1,fun z=>.inl (y.2 z)⟩) id⟩)
 ·exact .inr (.inr h)
theorem Tz.of{DR:(Nat->Prop)->(Nat->Prop)->Frame->List Frame->World->Prop}(h:Tr P main U DR S X f l w)(hU:∀a i,U a i->a<w.heap.size/\¬S a)(k:∀S X f l w,DR S X f l w->Tz P main U D' (fun a=>S a\/SF a) (fun a=>X a\/XF a) (G f l) w):
  Tz P main U D' (fun a=>S a\/SF a) (fun a=>X a\/XF a) (G f l) w:=by
 induction h with
 |stop hd=>exact k _ _ _ _ _ hd
 |@step S X f l w ex _ ih=>
  have rl:∀{w2:World},aP U (fun a=>S a\/SF a) w w2->aP U S w w2:=fun hr=>⟨fun a ha=>hr.kept a (.inl ha),hr.grow,hr.env⟩;refine Tz.one rfl fun w2 hr=>?_;obtain⟨f1,l1,w1,es,S1,X1,e,hd⟩:=ex w2 (rl hr);refine⟨_,w1,es,_,_,e,⟨⟨fun a ha hx=>hd.kept a ha fun y=>hx (.inl y),hd.grow,fun a=>?_,fun a=>?_,fun e he=>Hm (hd.ev e he),hd.tape,hd.env,hd.output⟩,fun e he a hl hu=>?_⟩,ih w2 f1 l1 w1 es S1 X1 (rl hr) e hd fun a i hu=>?_⟩
  ·rw[hd.held];constructor
   ·rintro((y|y)|y)
    ·exact .inl (.inl y)
    ·exact .inr y
    ·exact .inl (.inr y)
   ·rintro((y|y)|y)
    ·exact .inl (.inl y)
    ·exact .inr y
    ·omega
  ·rw[hd.may];constructor
   ·rintro((y|y)|y)
    ·exact .inl (.inl y)
    ·omega
    ·exact .inl (.inr y)
   ·rintro((y|y)|y)
    ·exact .inl (.inl y)
    ·exact .inr y
    ·omega
  ·have h1:=hU _ _ hu;have h2:=hr.grow;rcases hd.ev e he with⟨a',e1,_,h3⟩|⟨a',e1,_⟩|⟨m,e1,_⟩|e1
   ·rw[hl]at e1;cases e1;rcases h3 with y|y
    ·exact h1.2 y.1
    ·omega
   ·simp_all
   ·rw[hl]at e1;cases e1
   ·rw[hl]at e1;cases e1
  ·have h1:=hU a i hu;have h2:=hr.grow;have h3:=hd.grow;refine⟨by omega,fun hs=>?_⟩;rcases(hd.held a).1 hs with y|y
   ·exact h1.2 y
   ·omega
theorem aL{U:Nat->Nat->Prop}(S X:Nat->Prop)(w:World):iF U S X w w #[] S X:=
 ⟨⟨fun _ _ _=>rfl,agb _,fun a=>⟨.inl,fun h=>h.resolve_right fun y=>by omega⟩,fun a=>⟨.inl,fun h=>h.resolve_right fun y=>by omega⟩,fun e he=>by simp_all,rfl,.refl _,rfl⟩,fun e he=>by simp_all⟩
end
def ua{α:Type}(P:Program):Sem α->Option α
 |.pure a=>some a
 |.program k=>ua P (k P)
 |_=>none
theorem ES{α:Type}:∀{s:Sem α} {a:α},ua P s=some a->∀w es,s.runT P w es=(.ok a w,es)
 |.pure b,a,h,w,es=>by
  simp[ua,Option.some.injEq]at h;simp_all
 |.program k,a,h,w,es=>by
  simp[ua]at h;exact ES h w es
 |.load _ _ _,a,h,w,es|.store _ _ _ _,a,h,w,es|.new _ _,a,h,w,es|.shape _ _,a,h,w,es|.freeze _ _ _,a,h,w,es|.frozen _ _,a,h,w,es|.getObj _ _,a,h,w,es|.setObj _ _ _,a,h,w,es|.choose _ _,a,h,w,es|.sys _ _,a,h,w,es|.mark _ _,a,h,w,es|.halt _,a,h,w,es=>by simp[ua]at h
theorem il{α:Type}{s:Sem α}{a:α}(h:ua P s=some a)(w:World):s.run P w=.ok a w:=by
 have:=ES h w #[];simp_all
theorem nz{α:Type}{s:Sem α}{a:α}(h:ua P s=some a)(w:World)(es:Array _):s.events P w es=es:=by
 have:=ES h w es;simp_all
def pop(P:Program)(f:Frame)(l:List Frame)(s:Sem Next):Option (Frame×List Frame):=
 match ua P s with
 |some (.value v)=>some (f.finish v,l)
 |some .skip=>some (f.finish undef,l)
 |some (.enter g args)=>some (ags P g args .normal,f::l)
 |some (.defer d)=>some (({f with defers:=d::f.defers}:Frame).finish undef,l)
 |_=>none
def prun(P:Program)(f:Frame)(l:List _):=
 match f.todo with
 |.code .skip::k|.code (.label _)::k|.inBlock _::k|.inScope _::k=>some ({f with todo:=k},l)
 |.code (.seq a b)::k=>some ({f with todo:=.code a:: .code b::k},l)
 |.code (.cond c a b)::k=>match f.eval c with
  |.bool t=>some ({f with todo:=.code (if t then a else b)::k},l)
  |_=>none
 |.code (.block id c)::k=>some ({f with todo:=.code c:: .inBlock id::k},l)
 |.code (.loop c)::k|.inLoop c::k=>some ({f with todo:=.code c:: .inLoop c::k},l)
 |.code (.exit id)::k=>match exitTo id k with
  |some k'=>some ({f with todo:=k'},l)
  |none=>none
 |.code .ret::_|[]=>some ({f with mode:=.returning},l)
 |.code (.region _ ops false)::k=>some ({f with todo:=.inRegion ops (List.range ops.size)::k},l)
 |.inRegion _ []::k=>some ({f with todo:=k},l)
 |.inRegion ops (i::_)::_=>match ops[i]? with
  |some o=>if ahN o (yielded ops f.tmps)then pop P f l (execOp f.eval o)else some (f.finish undef,l)
  |none=>none
 |_=>none
def acb(P:Program)(f:Frame)(l:List Frame):=
 match f.defers with
 |[]=>match l with
  |c::l'=>match f.kind with
   |.normal=>match P.funcs[f.fn]? with
    |some fn=>match ua P (results fn f.tmps)with
     |some v=>some (c.finish v,l')
     |none=>none
    |none=>none
   |.deferred=>match P.funcs[f.fn]?,c.mode with
    |some fn,.returning=>match ua P (results fn f.tmps)with
     |some v=>some (c,l')
     |none=>none
    |_,_=>none
   |_=>none
  |[]=>none
 |d::ds=>match d.target with
  |.fn fn c=>match ua P (invoke (.fn fn c) d.args)with
   |some (.enter g args)=>some (ags P g args .deferred,{f with defers:=ds}::l)
   |_=>none
  |_=>none
def J0(P:Program)(f:Frame)(l:List _):=
 match f.roundOf,f.kind with
 |some _,_|_,.early=>none
 |none,_=>match f.mode with
  |.run=>prun P f l
  |.returning=>acb P f l
  |_=>none
def bD(P:Program):Nat->Frame->List Frame->Frame×List Frame
 |0,f,l=>(f,l)
 |n+1,f,l=>match J0 P f l with
  |some (f1,l1)=>bD P n f1 l1
  |none=>(f,l)
section
variable{P:Program}{main:Bool}{f f1:Frame}{l l1:List Frame}{w:World}
theorem PS{s:Sem _}(hk:f.kind≠.early)(h:pop P f l s=some (f1,l1))(hn:∃ops is k,f.todo=.inRegion ops is::k):
  agj P true f l none s w=.go (G f1 l1) w #[]:=by
 obtain⟨ops,is,k,ht⟩:=hn;unfold pop at h;have oo:=by omega
 split at h
 ·rename_i v e;cases h;simp[agj,il e,nz e,G,agh,seen_none]
 ·rename_i e;cases h;simp[agj,il e,nz e,G,agh,seen_none]
 ·rename_i g args e;cases h;simp[agj,il e,nz e,ht,G,agh,seen_none]
 ·rename_i d e;cases h;simp[agj,il e,nz e,G,agh,seen_none]
 ·cases h
theorem Am(hr:f.roundOf=none)(hk:f.kind≠.early)(hm:f.mode=.run)(h:prun P f l=some (f1,l1)):stepG P main (G f l) w=.go (G f1 l1) w #[]:=by
 have e0:stepG P main (G f l) w=agf P main true f l none w:=by
  unfold stepG;simp only[G,hm]
 rw[e0];clear e0;obtain⟨fn,tmps,todo,defers,mode,kind,ro⟩:=f;simp only at hr hk hm;subst hr hm;unfold prun at h;unfold agf;split at h<;>rename_i ht<;>first|(cases h;done)|(simp only at ht;subst ht;dsimp only)
 ·cases h;rfl
 ·cases h;rfl
 ·cases h;rfl
 ·cases h;rfl
 ·cases h;rfl
 ·split at h
  ·rename_i t e;cases h;simp only[e];rfl
  ·cases h
 ·cases h;rfl
 ·cases h;rfl
 ·cases h;rfl
 ·split at h
  ·rename_i k' e;cases h;simp only[e];rfl
  ·cases h
 ·cases h;rfl
 ·cases h;rfl
 ·cases h;rfl
 ·cases h;rfl
 ·split at h
  ·rename_i o e;split at h
   ·rename_i hw;simp only[e,aid,hw,ajx,if_true];unfold stepG.oper;simp only[Frame.oper?,e];exact PS (f:=⟨fn,tmps,_,defers,.run,kind,none⟩) hk h ⟨_,_,_,rfl⟩
   ·rename_i hw;cases h;simp only[e,aid,hw,ajx];rfl
  ·cases h
theorem Lo(hm:f.mode=.returning)(h:acb P f l=some (f1,l1)):stepG P main (G f l) w=.go (G f1 l1) w #[]:=by
 have e0:stepG P main (G f l) w=unwind P main f l none w:=by
  unfold stepG;simp only[G,hm]
 rw[e0];unfold acb at h;unfold unwind;split at h
 ·rename_i hd;simp only[hd,hm];split at h
  ·rename_i c l';split at h
   ·rename_i hkd;split at h
    ·rename_i fn hf;split at h
     ·rename_i v e;cases h;simp[hf,il e,nz e,doReturn,hkd,G,agh,seen_none]
     ·cases h
    ·cases h
   ·rename_i hkd;split at h
    ·rename_i fn hf bJ;split at h
     ·rename_i v e;cases h;simp[hf,il e,nz e,doReturn,hkd,bJ,G,agh,seen_none]
     ·cases h
    ·cases h
   ·cases h
  ·cases h
 ·rename_i d ds hd;split at h
  ·rename_i fn c ht;split at h
   ·rename_i g args e;cases h;obtain⟨tg,ar⟩:=d;subst ht;simp[hd,callDeferred,il e,nz e,G,agh,seen_none]
   ·cases h
  ·cases h
theorem fX(h:J0 P f l=some (f1,l1)):stepG P main (G f l) w=.go (G f1 l1) w #[]:=by
 unfold J0 at h;split at h
 ·cases h
 ·cases h
 ·rename_i hr hk;split at h
  ·rename_i hm;exact Am hr hk hm h
  ·rename_i hm;exact Lo hm h
  ·cases h
theorem Tz.pure{U:Nat->Nat->Prop}{D:(Nat->Prop)->(Nat->Prop)->Goroutine->World->Prop}:∀n {f:Frame} {l:List _} {w:World},(∀w2,aP U S w w2->Tz P main U D S X (G (bD P n f l).1 (bD P n f l).2) w2)->Tz P main U D S X (G f l) w
 |0,f,l,w,h=>h w (.refl _ _ _)
 |n+1,f,l,w,h=>by
  unfold bD at h;split at h
  ·rename_i f1 l1 e;refine Tz.one rfl fun w2 hr=>⟨_,w2,#[],S,X,fX e,aL S X w2,Tz.pure n fun w3 bV=>h w3 (hr.trans bV)⟩
  ·exact h w (.refl _ _ _)
end
def opAt(f:Frame):=match f.roundOf,f.mode,f.kind with
 |some _,_,_|_,.returning,_|_,.panicking _,_|_,_,.early=>none
 |none,.run,_=>match f.todo with
  |.inRegion ops (i::_)::_=>match ops[i]? with
   |some o=>if ahN o (yielded ops f.tmps)then some o else none
   |none=>none
  |_=>none
def ahead(f:Frame):Option (FuncId×Array Value):=match opAt f with
 |some o=>match o.op with
  |.call c=>match c.callee with
   |.value (.func g)=>some (g,c.args.map f.eval)
   |_=>none
  |_=>none
 |none=>none
def jC(f:Frame):Option (TypeId×Value):=match opAt f with
 |some o=>match o.op with
  |.load t x=>some (t,f.eval x)
  |_=>none
 |none=>none
def S8(f:Frame):Option (TypeId×Value×Bool):=match opAt f with
 |some o=>match o.op with
  |.recv t x b=>some (t,f.eval x,b)
  |_=>none
 |none=>none
section
variable{P:Program}{main:Bool}{f:Frame}{cs:List Frame}{w w':World}{g:FuncId}{fn:Func}{vs:Array Value}
theorem fY{o:Oper}(h:opAt f=some o):∃ops i rest k,f=f.at ⟨f.tmps,f.defers⟩ (.inRegion ops (i::rest)::k)/\ops[i]?=some o/\ahN o (yielded ops f.tmps)=true/\f.kind≠.early:=by
 obtain⟨fn,tmps,todo,defers,mode,kind,ro⟩:=f;unfold opAt at h;split at h<;>first|(cases h)|skip
 rename_i hr hm hk;simp only at hr hm hk h;subst hr hm;split at h<;>first|(cases h)|skip
 rename_i ops i rest k;split at h
 ·rename_i o' ho;split at h
  ·rename_i hw;cases h;exact⟨ops,i,rest,k,rfl,ho,hw,fun e=>hk e⟩
  ·cases h
 ·cases h
theorem cz{o:Oper}(h:opAt f=some o){v:Value}(hr:(execOp f.eval o).run P w=.ok (.value v) w'):stepG P main (G f cs) w=.go (G (f.finish v) cs) w' (seen P f.fn ((execOp f.eval o).events P w #[])):=by
 obtain⟨ops,i,rest,k,e,ho,hw,hk⟩:=fY h;have pF:f.eval=Act.eval ⟨f.tmps,f.defers⟩:=by rw[e];exact Frame.eval_at' _ _ _
 have:=stepG_value (main:=main) (a:=⟨f.tmps,f.defers⟩) (k:=k) (cs:=cs) (rest:=rest) ho hw hk (by exact hr);rw[<-e]at this;rw[this];have eU:f.finish v=f.at (ai9 ⟨f.tmps,f.defers⟩ o.dst v) (.inRegion ops rest::k):=by
  conv=>lhs;rw[e]
  rw[ahq,ho];rfl
 rw[<-eU];unfold listed;rw[<-pF]
theorem fO(h:ahead f=some (g,vs)):∃o aBN SO,opAt f=some o/\o.op=.call {callee:=.value (.func g),args:=aBN,argTypes:=SO}/\aBN.map f.eval=vs:=by
 unfold ahead at h;split at h
 ·rename_i o ho;split at h
  ·rename_i c hc;split at h
   ·rename_i g' hg;cases h;obtain⟨callee,args,SO⟩:=c;simp_all
   ·cases h
  ·cases h
 ·cases h
theorem S9(h:ahead f=some (g,vs))(hf:P.funcs[g]?=some fn)(S_:(fn.name== "runtime.NumGoroutine")=false)(hb:fn.body.isNone=true)(hn:aic fn=none){e:Array _->Sem _}(he:ajb fn=some e)
  {v:Value}{V7:Array _}(bm:(e vs).run P w=.ok v w')(pF:(e vs).events P w #[⟨.mark (.extern g),false,true⟩]=#[⟨.mark (.extern g),false,true⟩]++V7)(hs:∀x∈V7,x.sync=true/\∀g,x.loc≠.mark (.extern g)):
  stepG P main (G f cs) w=.go (G (f.finish v) cs) w' V7:=by
 obtain⟨o,aBN,SO,ho,bg,rfl⟩:=fO h;obtain⟨ops,i,rest,k,e1,hi,hw,hk⟩:=fY ho;have:=stepG_entry (main:=main) (a:=⟨f.tmps,f.defers⟩) (kk:=k) (cs:=cs) (rest:=rest) hi hw hk bg hf S_ hb hn he bm pF hs;rw[<-e1]at this;rw[this];have eU:f.finish v=f.at (ai9 ⟨f.tmps,f.defers⟩ o.dst v) (.inRegion ops rest::k):=by
  conv=>lhs;rw[e1]
  rw[ahq,hi];rfl
 rw[<-eU]
structure cG(P:Program)(g:FuncId)(e:Array Value->Sem Value):Prop where
 ex:∃fn,P.funcs[g]?=some fn/\(fn.name== "runtime.NumGoroutine")=false/\fn.body.isNone=true/\aic fn=none/\ajb fn=some e
theorem eV{e:Array _->Sem _}(X:cG P g e)(h:ahead f=some (g,vs)){v:Value}{V7:Array _}(bm:(e vs).run P w=.ok v w')(pF:(e vs).events P w #[⟨.mark (.extern g),false,true⟩]=#[⟨.mark (.extern g),false,true⟩]++V7)(hs:∀x∈V7,x.sync=true/\∀g,x.loc≠.mark (.extern g)):
  stepG P main (G f cs) w=.go (G (f.finish v) cs) w' V7:=by
 obtain⟨fn,h1,h2,h3,h4,h5⟩:=X.ex;exact S9 h h1 h2 h3 h4 h5 bm pF hs
theorem dO{m:Mark}(hm:∀g,m≠.extern g)(X:cG P g (fun _=>do mark m;pure ahP))(h:ahead f=some (g,vs)):stepG P main (G f cs) w=.go (G (f.finish (.tuple #[])) cs) w #[⟨.mark m,false,true⟩]:=
 eV X h (by simp[ahP]) (by simp) (by simp_all)
theorem iy{mk:Addr->Mark}(hm:∀ad g,mk ad≠.extern g)(X:cG P g (ahB mk))(h:ahead f=some (g,#[.pointer (some ad)])):stepG P main (G f cs) w=.go (G (f.finish (.tuple #[])) cs) w #[⟨.mark (mk ad),false,true⟩]:=
 eV X h (by simp[ahB,ajG,ahP]) (by simp[ahB,ajG]) (by simp_all)
theorem iR{k:IntKind}(X:cG P g (ai4 (.int k))){v n:Int}(h:ahead f=some (g,#[.pointer (some ad),.int k v,.int k n]))(hc:w.cell? ad=some (.int k v))(hz:w.frozen? ad=false):
  stepG P main (G f cs) w=.go (G (f.finish (.bool true)) cs) (w.setCell ad (.int k n)) #[⟨.cell ad,false,true⟩,⟨.cell ad,true,true⟩]:=
 eV X h (by exact run_cas_hit_entry hc hz) (by rw[casT_eq,events_cas_hit_entry hc hz];rfl) (sync_rw ad)
theorem h_{k:IntKind}(X:cG P g (ai4 (.int k))){v old n:Int}(h:ahead f=some (g,#[.pointer (some ad),.int k old,.int k n]))(hc:w.cell? ad=some (.int k v))(hz:w.frozen? ad=false)(bj:¬v=old):
  stepG P main (G f cs) w=.go (G (f.finish (.bool false)) cs) w #[⟨.cell ad,false,true⟩]:=
 eV X h (by exact run_cas_miss_entry hc hz bj) (by rw[casT_eq,events_cas_miss_entry hc hz bj];rfl) (sync_r ad)
theorem uf{k:IntKind}(X:cG P g (Extern.Atomic.update (ajn .add) k true)){v d:Int}(h:ahead f=some (g,#[.pointer (some ad),.int k d]))(hc:w.cell? ad=some (.int k v))(hz:w.frozen? ad=false):
  stepG P main (G f cs) w=.go (G (f.finish (.int k (k.wrap (v+d)))) cs) (w.setCell ad (.int k (k.wrap (v+d)))) #[⟨.cell ad,false,true⟩,⟨.cell ad,true,true⟩]:=
 eV X h (run_add_entry hc hz) (by rw[events_add_entry hc hz];rfl) (sync_rw ad)
theorem pv(X:cG P g agz){n:Int}(h:ahead f=some (g,vs))(hx:vs[0]?=some (.pointer (some ad)))(hc:w.cell? ad=some (.int .u32 n))(hn0:n≠0)(hz:w.frozen? ad=false):
  stepG P main (G f cs) w=.go (G (f.finish (.tuple #[])) cs) (w.setCell ad (.int .u32 (n-1))) (semEvents ad):=
 eV X h (by simp[agz,ahk,hx,hc,hn0,hz,ai_,run_store P w ad (.int .u32 (n-1)) _ rfl])
  (by simp[agz,ahk,hx,hc,hn0,hz,semEvents,events_store P w _ ad (.int .u32 (n-1)) .atomic rfl,run_store P w ad (.int .u32 _) .atomic rfl]) (semEvents_sync ad)
theorem kD(X:cG P g ahm){n:Int}(h:ahead f=some (g,vs))(hx:vs[0]?=some (.pointer (some ad)))(hc:w.cell? ad=some (.int .u32 n))(hz:w.frozen? ad=false):
  stepG P main (G f cs) w=.go (G (f.finish (.tuple #[])) cs) (w.setCell ad (.int .u32 (IntKind.u32.wrap (n+1)))) (semEvents ad):=
 eV X h (by simp[ahm,ahk,hx,hc,hz,ai_,ajn,run_store P w ad (.int .u32 _) _ rfl])
  (by simp[ahm,ahk,hx,hc,hz,semEvents,ajn,events_store P w _ ad (.int .u32 _) .atomic rfl,run_store P w ad (.int .u32 _) .atomic rfl]) (semEvents_sync ad)
theorem mQ(h:jC f=some (t,x)):∃o y,opAt f=some o/\o.op=.load t y/\f.eval y=x:=by
 unfold jC at h;split at h
 ·split at h
  ·simp_all
  ·cases h
 ·cases h
theorem Hn{v:Value}{o:Oper}{y:Operand}(bg:o.op=.load t y)(hx:f.eval y=.pointer (some ad))(ht:ua P (isAgg t)=some false)(hc:w.cell? ad=some v):
  (execOp f.eval o).run P w=.ok (.value v) w/\(execOp f.eval o).events P w #[]=#[⟨.cell ad,false,false⟩]:=by
 constructor
 ·unfold execOp;simp[bg,hx];simp[go_sem,il ht,hc]
 ·unfold execOp;simp[bg,hx];simp[go_sem,il ht,hc]
theorem oH{v:Value}(h:jC f=some (t,.pointer (some ad)))(ht:ua P (isAgg t)=some false)(hc:w.cell? ad=some v)(hq:(P.funcs[f.fn]?).any (·.norace)=true):
  stepG P main (G f cs) w=.go (G (f.finish v) cs) w #[]:=by
 obtain⟨o,y,ho,bg,hx⟩:=mQ h;obtain⟨hr,he⟩:=Hn bg hx ht hc;rw[cz ho hr,he,seen_def,hq];simp[seenStep]
theorem ez{v:Value}(h:jC f=some (t,.pointer (some ad)))(ht:ua P (isAgg t)=some false)(hc:w.cell? ad=some v)(hq:(P.funcs[f.fn]?).any (·.norace)=false):
  stepG P main (G f cs) w=.go (G (f.finish v) cs) w #[⟨.cell ad,false,false⟩]:=by
 obtain⟨o,y,ho,bg,hx⟩:=mQ h;obtain⟨hr,he⟩:=Hn bg hx ht hc;rw[cz ho hr,he,seen_def,hq];simp[seenStep]
theorem conv{o:Oper}(ho:opAt f=some o){v:Value}{es:Array _}(h:∀ops i rest k,ops[i]?=some o->ahN o (yielded ops (Act.tmps ⟨f.tmps,f.defers⟩))=true->f.kind≠.early->
  stepG P main (G (f.at ⟨f.tmps,f.defers⟩ (.inRegion ops (i::rest)::k)) cs) w=.go (G (f.at (ai9 ⟨f.tmps,f.defers⟩ o.dst v) (.inRegion ops rest::k)) cs) w' es):stepG P main (G f cs) w=.go (G (f.finish v) cs) w' es:=by
 obtain⟨ops,i,rest,k,e1,hi,hw,hk⟩:=fY ho;have:=h ops i rest k hi hw hk;rw[<-e1]at this;rw[this];have eU:f.finish v=f.at (ai9 ⟨f.tmps,f.defers⟩ o.dst v) (.inRegion ops rest::k):=by
  conv=>lhs;rw[e1]
  rw[ahq,hi];rfl
 rw[<-eU]
theorem evalEq(f:Frame)(hm:f.mode=f.mode):f.eval=Act.eval ⟨f.tmps,f.defers⟩:=by
 funext x;cases x<;>rfl
theorem Dg(h:ahead f=some (g,vs))(X:cG P g Extern.OsHooks.nano)(hq:(P.funcs[g]?).any (·.norace)=true):stepG P main (G f cs) w=.go (G (f.finish (.int .i64 ((w.os.mono+w.tick:Nat)))) cs) w.later #[]:=by
 obtain⟨o,aBN,SO,ho,bg,rfl⟩:=fO h;obtain⟨fn,h1,h2,h3,h4,h5⟩:=X.ex;have vy:=by simpa[h1]using hq
 exact conv ho fun ops i rest k hi hw hk=>stepG_nanotime hi hw hk bg h1 h2 h3 h4 h5 vy
theorem ET{k:IntKind}{n:Int}(h:ahead f=some (g,#[.int k n]))(X:cG P g aiH)(h4:4<=n):stepG P main (G f cs) w=.go (G (f.finish (.bool false)) cs) w #[]:=by
 obtain⟨o,aBN,SO,ho,bg,Xd⟩:=fO h;obtain⟨fn,h1,h2,h3,h4',h5⟩:=X.ex;exact conv ho fun ops i rest k hi hw hk=>stepG_canSpin_no hi hw hk bg h1 h2 h3 h4' h5 Xd h4
theorem Ch{k:IntKind}{n:Int}(h:ahead f=some (g,#[.int k n]))(X:cG P g aiH)(h4:n<4):stepG P main (G f cs) w=.go (G (f.finish (.bool w.spins)) cs) w.asked #[]:=by
 obtain⟨o,aBN,SO,ho,bg,Xd⟩:=fO h;obtain⟨fn,h1,h2,h3,h4',h5⟩:=X.ex;exact conv ho fun ops i rest k hi hw hk=>stepG_canSpin_ask hi hw hk bg h1 h2 h3 h4' h5 Xd h4
theorem rF(X:cG P g agz)(h:ahead f=some (g,vs))(hx:vs[0]?=some (.pointer (some ad)))(hc:w.cell? ad=some (.int .u32 0)):stepG P main (G f cs) w=.go {G f cs with status:=.blocked} w #[]:=by
 obtain⟨o,aBN,SO,ho,bg,rfl⟩:=fO h;obtain⟨fn,h1,h2,h3,h4,h5⟩:=X.ex;obtain⟨ops,i,rest,k,e1,hi,hw,hk⟩:=fY ho;have:=stepG_semacquire_wait (main:=main) (b:=f) (a:=⟨f.tmps,f.defers⟩) (kk:=k) (cs:=cs) (rest:=rest) hi hw bg h1 h2 h3 h4 h5 (by exact hx) hc;rw[<-e1]at this;omega
theorem wc{e:Array _->Sem _}(X:cG P g e)(h:ahead f=some (g,vs)):mayWake P (G f cs)=true:=by
 obtain⟨o,aBN,SO,ho,bg,rfl⟩:=fO h;obtain⟨fn,h1,h2,h3,h4,h5⟩:=X.ex;obtain⟨ops,i,rest,k,e1,hi,hw,hk⟩:=fY ho;have hm:f.mode=.run:=by rw[e1];rfl
 have ht:f.todo=.inRegion ops (i::rest)::k:=by rw[e1];rfl
 unfold mayWake;simp[G,hm,ht,hi,aid,bg];simp[aiD,h1];cases hb:fn.body with
 |none=>rfl
 |some c=>rw[hb]at h3;cases h3
theorem Dh{v:Value}(X:cG P g (fun _=>pure v))(h:ahead f=some (g,vs)):stepG P main (G f cs) w=.go (G (f.finish v) cs) w #[]:=eV X h (by simp) (by simp) (by simp)
end
def kE(f:Frame):Option (TypeId×TypeId×Value):=match opAt f with
 |some o=>match o.op with
  |.convert s d x=>some (s,d,f.eval x)
  |_=>none
 |none=>none
section
variable{P:Program}{main:Bool}{f:Frame}{cs:List Frame}{w:World}
theorem Ho{d:TypeId}(h:kE f=some (s,d,x)):∃o y,opAt f=some o/\o.op=.convert s d y/\f.eval y=x:=by
 unfold kE at h;split at h
 ·split at h
  ·simp_all
  ·cases h
 ·cases h
theorem iz{d:TypeId}{v:Value}(h:kE f=some (s,d,.pointer (some a)))(hs:P.underlying s=some (.pointer t))(hd:P.underlying d=some .unsafePointer)(mK:(P.info? t).map (fun i=>decide (i.size=0))=some false)(hc:w.cell? a=some v):
  stepG P main (G f cs) w=.go (G (f.finish (.pointer (some a))) cs) w #[]:=by
 obtain⟨o,y,ho,bg,hx⟩:=Ho h;have hr:=run_convert_to_unsafe hs hd mK hc;have he:=fun es=>events_convert_to_unsafe hs hd mK hc es;have F7:(execOp f.eval o).run P w=.ok (.value (.pointer (some a))) w:=by
  unfold execOp;simp_all
 have he':(execOp f.eval o).events P w #[]=#[]:=by
  unfold execOp;simp_all
 rw[cz ho F7,he',seen_none]
end
def NL(P:Program)(f:Frame):Option Next:=match opAt f with
 |some o=>ua P (execOp f.eval o)
 |none=>none
section
variable{P:Program}{main:Bool}{f:Frame}{l:List Frame}{w:World}
theorem Hp{x:Next}(h:NL P f=some x):∃o,opAt f=some o/\ua P (execOp f.eval o)=some x:=by
 unfold NL at h;split at h
 ·simp_all
 ·cases h
theorem Di{cases:Array _}{b:Bool}{sh:CommShape}(h:NL P f=some (.comm cases b sh)):stepG P main (G f l) w=.comm (G f l) cases b sh w #[]:=by
 obtain⟨o,ho,he⟩:=Hp h;obtain⟨ops,i,rest,k,e,hi,hw,hk⟩:=fY ho;rw[evalEq f rfl]at he;have:=stepG_comm (main:=main) (a:=⟨f.tmps,f.defers⟩) (k:=k) (cs:=l) (rest:=rest) hi hw hk (il he w);rw[<-e]at this;rw[this];unfold listed;rw[nz he,seen_none]
theorem Lq{g:FuncId}{c ar:Array _}(h:NL P f=some (.spawn {target:=.fn (.func g) c,args:=ar})):stepG P main (G f l) w=.spawn (G (f.finish undef) l) (G {(default:Frame)with fn:=P.funcs.size,defers:=[{target:=.fn (.func g) c,args:=ar}],mode:=.panicking [goexitEntry]} []) w #[]:=by
 obtain⟨o,ho,he⟩:=Hp h;obtain⟨ops,i,rest,k,e,hi,hw,hk⟩:=fY ho;rw[evalEq f rfl]at he;have eU:f.finish undef=f.at (ai9 ⟨f.tmps,f.defers⟩ o.dst undef) (.inRegion ops rest::k):=by
  conv=>lhs;rw[e]
  rw[ahq,hi];rfl
 have:=stepG_spawn (main:=main) (a:=⟨f.tmps,f.defers⟩) (k:=k) (cs:=l) (rest:=rest) hi hw hk (il he w) rfl;rw[<-e]at this;rw[this,eU];unfold listed;rw[nz he,seen_none];rfl
end
end Ph
end Go.Proofs.YtdcjnhipenbcfaaGreatDoor
