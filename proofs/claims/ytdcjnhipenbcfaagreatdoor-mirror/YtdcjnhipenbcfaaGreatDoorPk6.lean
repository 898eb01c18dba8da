/-
  Own text. Part 6 of what the claim rests on.
-/
import Derived.Test.YtdcjnhipenbcfaaGreatDoorPk5
import Derived.Test.YtdcjnhipenbcfaaGreatDoorProg
import Derived.Conc.CompanyMem
import Derived.Maps.OwnSet
import Derived.Conc.Events
set_option linter.unusedVariables false
set_option linter.unusedSectionVars false
set_option linter.unusedSimpArgs false
set_option maxRecDepth 100000
set_option maxHeartbeats 16000000
open Array renaming all_eq_true_iff_forall_mem->ax,mem_of_getElem?->ay,getElem?_eq_none->aL,getElem?_eq_some_iff->aM,getElem?_map->aN,getD_eq_getD_getElem?->bg,getElem?_eq_getElem->bh
open Bool renaming and_eq_true->af,not_eq_true'->aT,or_eq_true->aU
open ByteArray renaming size_extract->bj
open Go.Code renaming wp_mono->bk
open Go.DataW renaming put_eq->bm
open Go.Instr renaming mapUpdate->ai,lookup->ak,findNow->az,findKey->aV,checkKey->bp,keyThatStays->bq,sameBits->br,sameNow->bt
open Go.Made renaming reckon->aA,reckonStruct->aJ,infoAt->aQ
open Go.MapKept renaming run_getObj_map->aB,run_setObj_map->bF
open Go.Proofs.Tryz renaming f140->ao
open Go.Proofs.YtdcjnhipenbcfaaGreatDoor.Ph.Tz renaming k4->ah
open Go.Proofs.YtdcjnhipenbcfaaGreatDoor.Ph.iq renaming closes->bc
open Go.Region renaming wanted->a_,noSelect->bG
open Go.Sem renaming events->aj
open Go.Tables renaming info?->bH
open Go.World renaming cell?->aI
open Int renaming ofNat_lt->aW
open List renaming all_eq_true->aO,getElem?_eq_getElem->aP,getElem?_take->aX,getElem?_eq_none->bu,mem_append->bA,mem_map->bB,mem_of_getElem?->bC,mem_range->bD,take_length->bE
open Nat renaming lt_of_lt_of_le->ar,le_refl->au,le_trans->aD,lt_of_not_le->aH,zero_add->aK,le_of_eq->aY
open Option renaming bind_eq_some_iff->ae,map_eq_some_iff->aZ
namespace Go.Proofs.YtdcjnhipenbcfaaGreatDoor
noncomputable section
variable {main rd:Bool}{f:Frame}{fn:FuncId}{g1:Goroutine}{cs l:List Frame}{k0 kk:List Item}{L R:List Nat}{Z:Loc->Prop}{Fd cap clock fuel i m n:Nat}{jH:Nat->Nat->Prop}{S ro:Nat->Prop}{y:Operand}{s t:TypeId}{work:Value}{w w2:World}
namespace Ph
open Conc Ren
theorem uP{U:Nat->Nat->Prop}{X:Nat->Prop}{a:Addr}(h:S a.block)(H:¬U a.block a.off):kh U S X w w #[⟨.cell a,false,false⟩] S X:=
 ⟨⟨fun _ _ _=>rfl,au _,fun a=>⟨.inl,fun h=>h.resolve_right fun y=>by omega⟩,fun a=>⟨.inl,fun h=>h.resolve_right fun y=>by omega⟩,fun e Y=>by
  simp at Y;subst Y;exact .inl ⟨a,rfl,rfl,.inl ⟨h,fun y=>by cases y⟩⟩,rfl,.refl _,rfl⟩,fun e Y b K=>by simp_all⟩
structure Jy(Fd:Nat)(a:Option Addr)(n cap:Nat)(f:Frame):Prop where
 fn:f.fn=140
 todo:f.todo=Kc
 defers:f.defers=[dcall 161 #[ptr Fd]]
 mode:f.mode=.run
 kind:f.kind=.normal
 round:f.roundOf=none
 size:f.tmps.size=48
 s0:f.tmps.getD 0 undef=ptr Fd
 s1:f.tmps.getD 1 undef=.slice a n cap
 s15:f.tmps.getD 15 undef=.slice a n cap
 s16:f.tmps.getD 16 undef=.int .i64 (n:Int)
 s17:f.tmps.getD 17 undef=.int .i64 0
namespace Env
structure SC(E:Env)(Hs:Nat->Option Addr->Nat->(Nat->Prop)->(Nat->Prop)->World->Prop):Prop where
 rely:∀{x:Nat} {a:Option Addr} {n:Nat} {S X:Nat->Prop} {w w2:World},Hs x a n S X w->gK E.U S w w2->Hs x a n S X w2
 lI:∀{x:Nat} {a:Option Addr} {n:Nat} {S X:Nat->Prop} {w w1:World},Hs x a n S X w->Eff E.Fd w w1->Hs x a n S X w1
 more:∀{x:Nat} {a:Option Addr} {n:Nat} {S X S' X':Nat->Prop} {w:World},Hs x a n S X w->(∀b,S b->S' b)->(∀b,X b->X' b)->Hs x a n S' X' w
section
variable(E:Env)(ch:Nat)(ok:Nat->Prop)(By Rf Sg Fp:Nat)(RO:Nat->Prop)(Fx:World->Prop)(Hs:Nat->Option Addr->Nat->(Nat->Prop)->(Nat->Prop)->World->Prop)
def SD:Prop:=∀(D:(Nat->Prop)->(Nat->Prop)->Goroutine->World->Prop) (x:Nat) (S X:Nat->Prop) (j:Nat->Value) (w:World),ok x->E.zq RO S X->Fx w->
 (∀S' X' f' w' a n cap,E.zq RO S' X'->Fx w'->kJ 138 39 tV (sA (EJ Fp (.slice a n cap))) f'->Hs x a n S' X' w'->E.Tree PR false D S' X' (G f' [zQ ch E.Wg (j_ By Rf Sg Fp) (.int .i64 (x:Int)) j,bot]) w')->
 E.Tree PR false D S X (G (WG ch E.Wg (j_ By Rf Sg Fp) (.int .i64 (x:Int)) true j).1 [zQ ch E.Wg (j_ By Rf Sg Fp) (.int .i64 (x:Int)) j,bot]) w
def Tq:Prop:=∀(D:(Nat->Prop)->(Nat->Prop)->Goroutine->World->Prop) (x:Nat) (γ:E.Γ) (S X:Nat->Prop) (f:Frame) (l:List Frame) (w:World) (a:Option Addr) (n cap:Nat),ok x->(∀b,RO b->S b)->(∀b,RO b->¬X b)->S E.Mp->X E.Mp->Fx w->Hs x a n S X w->E.mr γ (w.heap[E.Mp]?)->Jy E.Fd a n cap f->
 (∀S' X' T w',(∀b,RO b->S' b)->(∀b,RO b->¬X' b)->S' E.Mp->Fx w'->E.mr (E.upd γ x) (w'.heap[E.Mp]?)->E.Tree PR false D S' X' (G (KG E.Fd T) l) w')->E.Tree PR false D S X (G f l) w
variable{E ch ok By Rf Sg Fp RO Fx Hs}
theorem ZQ(A:∀i,¬E.U E.Mp i)(K:E.xu RO Fx)(KE:∀{w w1:World} {m m':Lock.Word} {c c':Nat},Fx w->E.MuAt w m c->Eff E.Fd w w1->E.MuAt w1 m' c'->Fx w1)(KL:∀{w:World},Fx w->Fx w.later)(M:E.SC Hs)
  (I:RO E.Fd)(hrw:RO E.Wg)(u:RO Fp)(v:¬E.U Fp 0)(hFv:∀w,Fx w->w.cell? ⟨Fp,0,none⟩=some (ptr E.Fd))(O:¬RO E.Mp)(B:SD E ch ok By Rf Sg Fp RO Fx Hs)(N:Tq E ok RO Fx Hs):HJ E ch ok (j_ By Rf Sg Fp) RO Fx:=by
 intro k x S X j w hx hW hF;rw[ZP];refine B _ x S X j w hx hW hF fun S' X' f' w' a n cap H f hf' hH=>?_;rw[hf'.eq];generalize(fun i=>f'.tmps.getD i _)=D;have W:E.Kn S' (fun w=>Fx w/\Hs x a n S' X' w):=by
  refine⟨fun h hr=>⟨K.rely S' _ _ H.ro h.1 hr,M.rely h.2 hr⟩,fun h=>K.fd _ h.1,fun h t Z R=>⟨KE h.1 t Z R,M.lI h.2 Z⟩,fun h=>⟨KL h.1,M.lI h.2 (Eff.later _ _)⟩⟩
 refine Tz.pure 60 fun w1 x_=>?_;change E.Tree PR _ _ S' X' (G (BP Fp _ D _).1 _) w1;refine Tz.one rfl fun w2 qz=>?_;have V:=W.rely (W.rely ⟨f,hH⟩ x_) qz;refine⟨_,w2,_,S',X',sa BE SB (hFv _ V.1) (by rw[ai6];exact aku),uP (H.ro _ u) v,Tz.pure 8 fun w3 vJ=>?_⟩;change E.Tree PR _ _ S' X' (G (BQ Fp _ _ D _).1 (BQ Fp _ _ D _).2) w3;rw[cl1];refine ae9 A W ?_ k (W.rely V vJ);intro k w4 γ h4 hm;refine Tz.pure 14 fun q F=>?_;have L:∀b,RO b->(S' b\/b=E.Mp):=fun b Y=>.inl (H.ro b Y);have g:=K.rely _ _ _ L h4.1 F;have y:Hs x a n _ (fun b=>X' b\/b=E.Mp) q:=M.rely (M.more h4.2 (fun b Y=>.inl Y) (fun b Y=>.inl Y)) F;have hm5:E.mr γ (q.heap[E.Mp]?):=by
  rw[(F.kept _ (.inr rfl)).eq fun i hu=>A i hu];exact hm
 have hl:=cl2 (Fp:=Fp) (Fd:=E.Fd) (a:=a) (n:=n) (cap:=cap) (j:=D) (l:=[zQ ch E.Wg (j_ By Rf Sg Fp) (.int .i64 x) j,bot]);change E.Tree PR _ _ _ _ (G (FU Fp _ a n cap D _).1 (FU Fp _ a n cap D _).2) q;generalize FU Fp _ a n cap D _=r at hl;simp only[look,rQ.mk.injEq,List.map_cons,List.cons.injEq]at hl;obtain⟨e1,e2,e3,e4,e5,e6,e7,e8,⟨g0,g1,z,d,g17,_⟩,_⟩:=hl;rw[e1];refine N _ x γ _ _ r.1 _ q a n cap hx L (fun b Y h=>h.elim (H.mS b Y) fun e=>O (e▸Y)) (.inr rfl) (.inr rfl) g y hm5 ⟨e2,e3,e4,e5,e6,e7,e8,g0,g1,z,d,g17⟩ fun S2 X2 T w6 J L_ P o hm6=>?_;refine Tz.pure 2 fun w7 Q=>?_;rw[cl4];have p:=K.rely _ _ _ J o Q;have hm7:E.mr (E.upd γ x) (w7.heap[E.Mp]?):=by
  rw[(Q.kept _ P).eq fun i hu=>A i hu];omega
 have C:∀b,RO b->(S2 b/\b≠E.Mp):=fun b Y=>⟨J b Y,fun e=>O (e▸Y)⟩;refine abo A P ⟨fun h hr=>K.rely _ _ _ C h hr,fun h=>K.fd _ h,fun h t Z R=>KE h t Z R,fun h=>KL h⟩ ?_ k p hm7;intro k w8 s;refine Tz.pure 60 fun w9 BR=>?_;obtain⟨h1,V,_⟩:=Sz (cl3) rfl;change E.Tree PR _ _ _ _ (G _ (UZ Fp _ _ D j T ch _ _ _).2) w9;rw[h1];have:AtRecv E ch _ RO Fx _ (fun b=>X2 b/\b≠E.Mp) _ w9:=
  ⟨_,rfl,V,⟨C,fun h=>h.2 rfl,fun h=>h.2 rfl,I,hrw,fun b Y h=>L_ b Y h.1⟩,K.rely _ _ _ C s BR⟩
 exact .stop (by unfold je;exact this)
end
end Env
end Ph
namespace Ren
structure pR where
 ij:FuncId->Bool
 sW:Nat->Bool
 vb:String->Bool
 rT:Bool
 wall:Array Oper->Bool:=fun _=>false
def ng:Nat->Value->Bool
 |_,.bool _|_,.int .. |_,.string _|_,.pointer none|_,.slice none _ _|_,.map none|_,.chan none|_,.nilFunc|_,.nilIface=>true
 |n+1,.agg c|n+1,.tuple c=>c.all (ng n)
 |n+1,.iface _ v=>ng n v
 |_,_=>false
theorem Ao[gB]{r:Rn}:∀{n:Nat} {v:Value},ng n v=true->V r v v:=by
 intro n;induction n with
 |zero=>
  intro v h;cases v with
  |bool b=>exact .bool b
  |int k m=>exact .int k m
  |string s=>exact .string s
  |pointer a=>cases a with|none=>exact .nilPtr|some _=>simp[ng]at h
  |slice a l c=>cases a with|none=>exact .kW l c|some _=>simp[ng]at h
  |map a=>cases a with|none=>exact .oM|some _=>simp[ng]at h
  |chan a=>cases a with|none=>exact .qd|some _=>simp[ng]at h
  |nilFunc=>exact .nilFunc
  |nilIface=>exact .nilIface
  |_=>simp[ng]at h
 |succ n Y=>
  intro v h;have arr:∀(c:Array _),c.all (ng n)=true->∀(i:Nat) x x',c[i]?=some x->c[i]?=some x'->V r x x':=by
   intro c K i x x' e e';obtain rfl:=Option.some.inj (e.symm.trans e');obtain⟨H,rfl⟩:=aM.1 e;simp_all
  cases v with
  |bool b=>exact .bool b
  |int k m=>exact .int k m
  |string s=>exact .string s
  |pointer a=>cases a with|none=>exact .nilPtr|some _=>simp[ng]at h
  |slice a l c=>cases a with|none=>exact .kW l c|some _=>simp[ng]at h
  |map a=>cases a with|none=>exact .oM|some _=>simp[ng]at h
  |chan a=>cases a with|none=>exact .qd|some _=>simp[ng]at h
  |nilFunc=>exact .nilFunc
  |nilIface=>exact .nilIface
  |agg c=>exact .agg rfl (arr c h)
  |tuple c=>exact .tuple rfl (arr c h)
  |iface t v=>exact .iface t (Y h)
  |_=>simp[ng]at h
section
variable(K:pR)(P:Program)
def km:Operand->Bool
 |.tmp _=>true
 |.const v=>ng 4 v
 |.global g=>K.sW g
 |.func f=>K.ij f
def Bl:Option Operand->Bool
 |none=>true
 |some x=>km K x
def yz:TypeDesc->Bool
 |.int _|.string|.bool=>true
 |_=>false
def CH(t:TypeId):Bool:=
 match P.underlying t with
 |some (.map k _)=>match P.underlying k with
  |some d=>yz d
  |none=>true
 |_=>true
def xX(t:TypeId)(y:Operand):Bool:=
 !P.eqGuardType P.depth t&&match P.underlying t with
 |some (.pointer _)=>K.rT
 |some (.interface _)=>match y with
  |.const .nilIface=>true
  |_=>false
 |some (.struct fs)=>!P.stoodInHeld t&&fs.toList.all fun f=>match P.underlying f.type with
  |some d=>yz d
  |none=>true
 |some d=>yz d
 |none=>true
def EK(t:TypeId):Bool:=
 match P.underlying t with
 |some (.int .u8)=>true
 |_=>false
def Ma(s d:TypeId):Bool:=
 match P.underlying s,P.underlying d with
 |some (.int _),some (.int _)=>true
 |some (.slice e),some .string=>EK P e
 |some .string,some (.slice e)=>EK P e&&K.rT
 |some (.pointer _),some .unsafePointer|some .unsafePointer,some (.pointer _)=>K.rT
 |_,_=>false
def Rz(t:TypeId):Bool:=
 match P.underlying t with
 |some (.int _)=>false
 |_=>true
def wu(b:Builtin)(Y:Array TypeId)(n:Nat):=
 match b with
 |.append=>match Y[1]? with
  |some t=>Rz P t
  |none=>true
 |.cap=>n==1
 |.copy|.len|.min|.recover=>true
 |.unsafeSliceData=>n==1&&K.rT
 |.unsafeString=>n==2&&K.rT
 |_=>false
def Es(c:Call):=
 c.args.all (km K)&&match c.callee with
 |.value f=>km K f
 |.invoke x name=>km K x&&K.vb name
 |.builtin b=>wu K P b c.argTypes c.args.size
def QB:Callee->Bool
 |.value _=>true
 |_=>false
def RA(t:TypeId):Bool:=
 match P.underlying t with
 |some (.interface _)=>false
 |_=>true
def nE:Op->Bool
 |.move x|.assign x|.box _ x|.load _ x|.nilCheck x|.unOp _ _ x|.makeInterface _ x|.fieldAddr _ x _|.field _ x _|.range _ x|.next x _|.entry x|.extract x _|.panic x=>km K x
 |.pick c a b=>km K c&&km K a&&km K b
 |.alloc _=>true
 |.build _ Y|.buildSlice _ _ Y=>Y.all fun p=>km K p.2
 |.store _ a x|.makeSlice _ a x|.indexAddr _ a x|.index _ a x=>km K a&&km K x
 |.binOp op t x y _=>km K x&&km K y&&(sd op||xX K P t y)
 |.convert s d x=>km K x&&Ma K P s d
 |.makeFunc (.func f) first cap=>K.ij f&&first.all (km K)&&cap.all (km K)
 |.makeMap _ x=>Bl K x
 |.slice _ x D H R=>km K x&&Bl K D&&Bl K H&&Bl K R
 |.lookup t x i _=>km K x&&km K i&&CH P t
 |.mapUpdate t m k x=>km K m&&km K k&&km K x&&CH P t
 |.typeAssert x _ a ok=>km K x&&ok&&RA P a
 |.call c=>Es K P c
 |.defer c=>Es K P c&&QB c.callee
 |_=>false
def IW:Op->Bool
 |.defer _=>false
 |.call c=>match c.callee with
  |.builtin .recover=>false
  |_=>true
 |_=>true
def A8(rd:Bool)(o:Oper):=nE K P o.op&&(!rd||IW o.op)
def lH(rd:Bool):Code->Bool
 |.skip|.label _|.exit _|.goto _|.ret=>true
 |.refuse y=>!(y== "")
 |.region _ ops _=>K.wall ops||ops.all (A8 K P rd)
 |.seq a b=>lH rd a&&lH rd b
 |.cond c a b=>km K c&&lH rd a&&lH rd b
 |.block _ c|.loop c|.scope c=>lH rd c
 |.rangeFunc f _ aqY bd=>km K f&&lH true aqY&&lH true bd
@[reducible] def pR.ju(ro:Nat->Prop)(jH:Nat->Nat->Prop)(rest:List Item->Prop)(ji:List Deferred->Prop):gB where
 size:=P.globals.size
 ij f:=K.ij f=true
 code c:=lH K P true c=true
 methods n:=K.vb n=true
 sW g:=K.sW g=true
 wall ops:=K.wall ops=true
 ro:=ro
 jH:=jH
 rest:=rest
 ji:=ji
end
section
variable{K:pR}{P:Program}{ro:Nat->Prop}{jH:Nat->Nat->Prop}{rest:List Item->Prop}{ji:List Deferred->Prop}(I:K.rT=true->∀b,¬ro b)
theorem uK{x:Operand}(h:km K x=true):@jr (K.ju P ro jH rest ji) x:=by
 letI:=K.ju P ro jH rest ji
 cases x with
 |tmp t=>trivial
 |const v=>exact fun r=>Ao h
 |global g=>exact h
 |func f=>exact h
theorem abp{x:Option _}(h:Bl K x=true):@zd (K.ju P ro jH rest ji) x:=by
 cases x with
 |none=>trivial
 |some y=>exact uK h
theorem Gw{d:TypeDesc}(h:yz d=true):plainKey d:=by
 cases d with
 |int k=>exact .inl ⟨k,rfl⟩
 |string=>exact .inr (.inl rfl)
 |bool=>exact .inr (.inr rfl)
 |_=>simp[yz]at h
theorem Nc(h:CH P t=true):Ig P t:=by
 intro k e Y d hd;unfold CH at h;rw[Y]at h;simp[hd]at h;exact Gw h
include I in
theorem ac7(h:xX K P t y=true):@S8 (K.ju P ro jH rest ji) P t y:=by
 letI:=K.ju P ro jH rest ji
 unfold xX at h;simp only[af,aT]at h;obtain⟨R,H⟩:=h;refine⟨R,?_⟩;cases D:P.underlying t with
 |none=>exact .inl ⟨.inl (fun d e=>by rw[D]at e;cases e),fun Y=>by obtain⟨e,Y⟩:=Y;cases Y⟩
 |some d=>
  rw[D]at H;have plain:yz d=true->Bh P t:=fun U=>.inl fun d' e=>by rw[D]at e;cases e;exact Gw U
  cases d with
  |pointer e=>exact .inl ⟨.inr (.inl ⟨e,D⟩),fun _=>I H⟩
  |struct fs=>
   simp only[af,aT,aO]at H;refine .inl ⟨.inr (.inr ⟨fs,D,H.1,fun f A d hd=>?_⟩),fun Y=>by obtain⟨e,Y⟩:=Y;cases Y⟩;have:=H.2 f A;rw[hd]at this;exact Gw this
  |interface m=>
   refine .inr ⟨?_,m,rfl⟩;simp only at H;split at H
   ·rfl
   ·cases H
  |_=>exact .inl ⟨plain H,fun Y=>by obtain⟨e,Y⟩:=Y;cases Y⟩
theorem QC(h:EK P t=true):P.underlying t=some (.int .u8):=by
 unfold EK at h;split at h
 ·omega
 ·cases h
include I in
theorem ac8{d:TypeId}(h:Ma K P s d=true):vj P s d/\((∃k,P.underlying s=some (.int k))\/(∃e,P.underlying s=some (.slice e))\/∀b,¬ro b):=by
 unfold Ma at h;split at h
 ·rename_i a b;exact⟨.int a b,.inl ⟨_,a⟩⟩
 ·rename_i a b;exact⟨.toStr a (QC h) b,.inr (.inl ⟨_,a⟩)⟩
 ·rename_i a b;simp at h;exact⟨.toBytes a b (QC h.1),.inr (.inr (I h.2))⟩
 ·rename_i a b;exact⟨.toUns a b,.inr (.inr (I h))⟩
 ·rename_i a b;exact⟨.Rj a b,.inr (.inr (I h))⟩
 ·cases h
include I in
theorem XB{b:Builtin}{Y:Array _}(h:wu K P b Y n=true):@Hw (K.ju P ro jH rest ji) P b Y n:=by
 cases b with
 |append=>
  intro D d H hd k e;subst e;unfold wu at h;simp only[H,Rz,hd]at h;cases h
 |cap=>exact(by simpa[wu]using h:n=1)
 |copy=>trivial
 |len=>trivial
 |min=>trivial
 |recover=>trivial
 |unsafeSliceData=>simp[wu]at h;exact⟨h.1,I h.2⟩
 |unsafeString=>simp[wu]at h;exact⟨h.1,I h.2⟩
 |_=>simp[wu]at h
theorem He{l:Array _}(h:l.all (km K)=true):∀x∈l,@jr (K.ju P ro jH rest ji) x:=fun x Y=>uK (ax.1 h x Y)
include I in
theorem OL{c:Call}(h:Es K P c=true):@DC (K.ju P ro jH rest ji) P c:=by
 unfold Es at h;simp only[af]at h;refine⟨He h.1,?_⟩;have Y:=h.2;cases H:c.callee with
 |value f=>rw[H]at Y;exact uK Y
 |invoke x name=>rw[H]at Y;simp at Y;exact⟨uK Y.1,Y.2⟩
 |builtin b=>rw[H]at Y;exact XB I Y
include I in
theorem QD{o:Op}(h:nE K P o=true):@EF (K.ju P ro jH rest ji) P o:=by
 have Y:=@uK K P ro;have H:=@abp K P ro;cases o with
 |pick c a b=>simp only[nE,af]at h;exact⟨Y h.1.1,Y h.1.2,Y h.2⟩
 |alloc e=>trivial
 |build t A=>exact fun p D=>Y (ax.1 h p D)
 |buildSlice t n A=>exact fun p D=>Y (ax.1 h p D)
 |store t a x=>simp only[nE,af]at h;exact⟨Y h.1,Y h.2⟩
 |makeSlice t a x=>simp only[nE,af]at h;exact⟨Y h.1,Y h.2⟩
 |indexAddr t a x=>simp only[nE,af]at h;exact⟨Y h.1,Y h.2⟩
 |index t a x=>simp only[nE,af]at h;exact⟨Y h.1,Y h.2⟩
 |binOp op t x y J=>simp only[nE,af,aU]at h;exact⟨Y h.1.1,Y h.1.2,h.2.imp id (ac7 I)⟩
 |convert s d x=>simp only[nE,af]at h;exact⟨Y h.1,ac8 I h.2⟩
 |makeFunc fn first cap=>
  cases fn with
  |func f=>simp only[nE,af]at h;exact⟨⟨f,rfl,h.1.1⟩,He h.1.2,He h.2⟩
  |_=>simp[nE]at h
 |makeMap t x=>exact H h
 |slice t x B U C=>simp only[nE,af]at h;exact⟨Y h.1.1.1,H h.1.1.2,H h.1.2,H h.2⟩
 |lookup t x i ok=>simp only[nE,af]at h;exact⟨Y h.1.1,Y h.1.2,Nc h.2⟩
 |mapUpdate t m k x=>simp only[nE,af]at h;exact⟨Y h.1.1.1,Y h.1.1.2,Y h.1.2,Nc h.2⟩
 |typeAssert x F a ok=>
  simp only[nE,af]at h;refine⟨Y h.1.1,h.1.2,fun ms e=>?_⟩;have:=h.2;simp[RA,e]at this
 |call c=>exact OL I h
 |defer c=>
  simp only[nE,af]at h;refine⟨OL I h.1,?_⟩;have:=h.2;cases R:c.callee with
  |value f=>exact⟨f,rfl⟩
  |_=>rw[R]at this;simp[QB]at this
 |_=>first|exact Y h|(simp[nE]at h)
include I in
theorem OM{o:Oper}(h:A8 K P rd o=true):@yU (K.ju P ro jH rest ji) P rd o:=by
 simp[A8,af,aU]at h;refine⟨QD I h.1,fun hr=>?_⟩;have Y:=h.2.elim (fun x=>by simp_all) id;refine⟨fun c e=>by rw[e]at Y;simp[IW]at Y,fun c e H=>by rw[e]at Y;simp[IW,H]at Y⟩
include I in
theorem yr:∀{c:Code} {rd:Bool},lH K P rd c=true-> @lO (K.ju P ro jH rest ji) P rd c:=by
 intro c;induction c with
 |region i ops A=>
  intro rd h;simp only[lH,aU]at h;exact h.imp id fun h o R=>OM I (ax.1 h o R)
 |seq a b Y H=>intro rd h;simp only[lH,af]at h;exact⟨Y h.1,H h.2⟩
 |cond q a b Y H=>intro rd h;simp[lH,af]at h;exact⟨uK h.1.1,Y h.1.2,H h.2⟩
 |block i d D=>exact fun h=>D h
 |loop d D=>exact fun h=>D h
 |scope d D=>exact fun h=>D h
 |refuse y=>intro rd h;simp[lH]at h;exact h
 |rangeFunc f U aqY bd Y H=>intro rd h;simp[lH,af]at h;exact⟨uK h.1.1,h.1.2,h.2⟩
 |_=>intro rd h;trivial
end
def vd:TypeDesc->Bool
 |.float _|.complex _=>false
 |_=>true
theorem YC{info:TypeId->Option _}{fs:Array Field}{i:TypeInfo}(h:aJ info fs=some i):∃out,i.desc=.struct out:=by
 unfold aJ at h;simp only[bind,ae]at h;obtain⟨a,_,h⟩:=h;split at h<;>(cases h;exact⟨_,rfl⟩)
theorem reckon_desc{info:TypeId->Option TypeInfo}{d:TypeDesc}{i:TypeInfo}(h:aA info d=some i):vd i.desc=true/\∀n u,i.desc≠.named n u:=by
 unfold aA at h;cases d with
 |pointer e=>
  simp only[bind,ae]at h;obtain⟨a,_,h⟩:=h;split at h
  ·cases h
  ·split at h
   ·cases h
   ·obtain⟨_,_,h⟩:=ae.1 h;cases h;exact⟨rfl,fun _ _ x=>by cases x⟩
  ·obtain⟨_,_,h⟩:=ae.1 h;cases h;exact⟨rfl,fun _ _ x=>by cases x⟩
 |struct fs=>obtain⟨out,e⟩:=YC h;rw[e];exact⟨rfl,fun _ _ x=>by cases x⟩
 |slice e=>simp only[bind,ae]at h;obtain⟨_,_,_,_,h⟩:=h;cases h;exact⟨rfl,fun _ _ x=>by cases x⟩
 |map k e=>simp only[bind,ae]at h;obtain⟨_,_,_,_,_,_,_,_,h⟩:=h;cases h;exact⟨rfl,fun _ _ x=>by cases x⟩
 |chan dir e=>simp only[bind,ae]at h;obtain⟨_,_,_,_,h⟩:=h;cases h;exact⟨rfl,fun _ _ x=>by cases x⟩
 |func Y rs v=>simp only[bind,ae]at h;obtain⟨_,_,h⟩:=h;cases h;exact⟨rfl,fun _ _ x=>by cases x⟩
 |array n e=>simp only[bind,ae]at h;obtain⟨_,_,_,_,h⟩:=h;cases h;exact⟨rfl,fun _ _ x=>by cases x⟩
 |_=>cases h
theorem Pt{α A:Type}(I:A->Prop)(g:α->A->Option _)(H:∀a s x,I s->g a s=some x->∃s',x=.yield s'/\I s'):∀(l:List α) s s1,I s->forIn l s g=some s1->I s1
 |[],s,s1,Y,h=>by simp_all
 |a::l,s,s1,Y,h=>by
  rw[List.forIn_cons]at h;obtain⟨x,D,h⟩:=ae.1 h;obtain⟨s',rfl,K⟩:=H a s x Y D;exact Pt I g H l s' s1 K h
section
variable[gB]{r:Rn}
def sO(r:Rn)(z:Value):=V r z z
theorem sO.cells{z:Value}(h:sO r z):∀x∈z.cells,V r x x:=by
 intro x K;cases z with
 |agg c=>
  cases h with
  |agg _ H=>
   obtain⟨i,Y,rfl⟩:=Array.mem_iff_getElem.1 K;exact H i _ _ (bh Y) (bh Y)
 |_=>simp[Value.cells,Array.mem_singleton]at K;rw[K];exact h
theorem IX{c:Array _}(h:∀x∈c,V r x x):V r (.agg c) (.agg c):=.agg rfl fun i x x' e e'=>by
 obtain rfl:=Option.some.inj (e.symm.trans e');exact h x (ay e)
theorem YD{info:TypeId->Option TypeInfo}(B:∀t i z,info t=some i->i.zero=some z->sO r z){fs:Array Field}{i:TypeInfo}(h:aJ info fs=some i):∀z,i.zero=some z->sO r z:=by
 unfold aJ at h;simp only[bind,ae,pure]at h;obtain⟨a,D,h⟩:=h;have inv:=Pt (fun s:Array Field×Nat×Nat×Nat×Nat×Bool×Bool×Option (Array Value)×String=>∀z,s.2.2.2.2.2.2.2.1=some z->∀x∈z,V r x x) _ ?_ fs.toList _ a ?_ (by rw[Array.forIn_toList];exact D)
 ·have key:∀z,(a.2.2.2.2.2.2.2.1.map Value.agg)=some z->sO r z:=by
   intro z K;obtain⟨c,U,rfl⟩:=aZ.1 K;exact IX (inv c U)
  split at h<;>(cases h;exact key)
 ·intro f s x I Y;have fin:∀(i:TypeInfo) (q:Prop) [Decidable q] z,info f.type=some i->(if q then none else s.2.2.2.2.2.2.2.1.bind fun a=>i.zero.bind fun b=>some (a++b.cells))=some z->∀x∈z,V r x x:=by
   intro i q _ z H K;split at K
   ·cases K
   ·simp only[ae]at K;obtain⟨a,D,b,A,e⟩:=K;cases e;intro x Y;rcases Array.mem_append.1 Y with y|y
    ·exact I a D x y
    ·exact(B _ _ _ H A).cells x y
  obtain⟨j,R,Y⟩:=ae.1 Y;split at Y
  ·cases Y
  ·split at Y
   ·cases Y
   ·split at Y
    ·simp only[Option.bind_some]at Y;split at Y<;>(cases Y;exact⟨_,rfl,fun z K=>fin j _ z R K⟩)
    ·obtain⟨C,_,Y⟩:=ae.1 Y;split at Y<;>(cases Y;exact⟨_,rfl,fun z K=>fin j _ z R K⟩)
 ·intro z K x Y;cases K;simp at Y
theorem YE{info:TypeId->Option TypeInfo}(H:∀t i z,info t=some i->i.zero=some z->sO r z){d:TypeDesc}{i:TypeInfo}(h:aA info d=some i):∀z,i.zero=some z->sO r z:=by
 unfold aA at h;cases d with
 |pointer e=>
  simp only[bind,ae]at h;obtain⟨a,_,h⟩:=h;split at h
  ·cases h
  ·split at h
   ·cases h
   ·obtain⟨_,_,h⟩:=ae.1 h;cases h;intro z Y;cases Y;exact .nilPtr
  ·obtain⟨_,_,h⟩:=ae.1 h;cases h;intro z Y;cases Y;exact .nilPtr
 |struct fs=>exact YD H h
 |slice e=>simp only[bind,ae]at h;obtain⟨_,_,_,_,h⟩:=h;cases h;intro z Y;cases Y;exact .kW _ _
 |map k e=>simp only[bind,ae]at h;obtain⟨_,_,_,_,_,_,_,_,h⟩:=h;cases h;intro z Y;cases Y;exact .oM
 |chan dir e=>simp only[bind,ae]at h;obtain⟨_,_,_,_,h⟩:=h;cases h;intro z Y;cases Y;exact .qd
 |func U rs v=>simp only[bind,ae]at h;obtain⟨_,_,h⟩:=h;cases h;intro z Y;cases Y;exact .nilFunc
 |array n e=>
  simp only[bind,ae]at h;obtain⟨j,D,_,_,h⟩:=h;cases h;intro z Y;split at Y
  ·cases Y
  ·split at Y
   ·cases Y;exact IX fun x K=>by simp_all
   ·obtain⟨y,I,rfl⟩:=aZ.1 Y;refine IX fun x K=>(H _ _ _ D I).cells x ?_;obtain⟨c,A,R⟩:=Array.mem_flatten.1 K;simp_all
 |_=>cases h
def uU(T:Tables):=T.types.all fun i=>vd i.desc&&match i.zero with|some z=>ng 4 z|none=>true
theorem QE{T:Tables}(h:uU T=true){i:TypeInfo}(e:T.types[t]?=some i):vd i.desc=true/\∀z,i.zero=some z->sO r z:=by
 have:=ax.1 h i (ay e);simp at this;refine⟨this.1,fun z K=>?_⟩;have Y:=this.2;rw[K]at Y;exact Ao Y
theorem abq{T:Tables}(h:uU T=true):∀f t i,aQ T f t=some i->vd i.desc=true/\∀z,i.zero=some z->sO r z:=by
 intro f;induction f with
 |zero=>intro t i e;cases e
 |succ f Y=>
  intro t i e;unfold aQ at e;split at e
  ·exact QE h e
  ·obtain⟨d,_,e⟩:=ae.1 e;exact⟨(reckon_desc e).1,YE (fun t i z a b=>(Y t i a).2 z b) e⟩
theorem IY{T:Tables}(h:uU T=true){i:TypeInfo}(e:T.info? t=some i):vd i.desc=true/\∀z,i.zero=some z->sO r z:=by
 unfold bH at e;split at e
 ·exact QE h e
 ·exact abq h _ _ _ e
theorem ac9{P:Program}(h:uU P.toTables=true):qQ P:=fun t i z e Y r=>(IY h e).2 z Y
theorem M8{P:Program}(h:uU P.toTables=true){d:TypeDesc}(e:P.underlying t=some d):vd d=true:=by
 have r:Rn:=⟨fun _=>none,(fun _ _ _ x=>by simp),(fun _ _ x=>by cases x)⟩;unfold Program.underlying at e;split at e
 ·obtain⟨i,Y,rfl⟩:=aZ.1 e;exact(IY (r:=r) h Y).1
 ·rename_i i Y;cases e;exact(IY (r:=r) h Y).1
 ·cases e
theorem afj{P:Program}(h:uU P.toTables=true):ED P:=by
 intro d;induction d with
 |zero=>intro u k x e;cases e
 |succ d K=>
  intro u k x e;unfold plainCell at e;split at e
  ·obtain⟨f,_,e⟩:=Array.exists_of_findSome?_eq_some e;split at e
   ·exact K _ _ _ e
   ·cases e
  ·dsimp only at e;split at e
   ·cases e
   ·exact K _ _ _ e
  ·simp_all
  ·split at e<;>cases e;simp_all
  ·rename_i Y;have:=M8 h Y;simp[vd]at this
  ·rename_i Y;have:=M8 h Y;simp[vd]at this
  ·cases e
end
theorem YF{info:TypeId->Option TypeInfo}{d:TypeDesc}{i:TypeInfo}(h:aA info d=some i):i.methods=#[]:=by
 unfold aA at h;cases d with
 |pointer e=>
  simp only[bind,ae]at h;obtain⟨a,_,h⟩:=h;split at h
  ·cases h
  ·split at h
   ·cases h
   ·obtain⟨_,_,h⟩:=ae.1 h;cases h;rfl
  ·obtain⟨_,_,h⟩:=ae.1 h;cases h;rfl
 |struct fs=>
  unfold aJ at h;simp only[bind,ae]at h;obtain⟨a,_,h⟩:=h;split at h<;>(cases h;rfl)
 |slice e=>simp only[bind,ae]at h;obtain⟨_,_,_,_,h⟩:=h;cases h;rfl
 |map k e=>simp only[bind,ae]at h;obtain⟨_,_,_,_,_,_,_,_,h⟩:=h;cases h;rfl
 |chan dir e=>simp only[bind,ae]at h;obtain⟨_,_,_,_,h⟩:=h;cases h;rfl
 |func Y rs v=>simp only[bind,ae]at h;obtain⟨_,_,h⟩:=h;cases h;rfl
 |array n e=>simp only[bind,ae]at h;obtain⟨_,_,_,_,h⟩:=h;cases h;rfl
 |_=>cases h
def SE(P:Program)(t:TypeId):Bool:=
 match P.underlying t with
 |some (.pointer _)=>false
 |_=>true
def ai_(K:pR)(P:Program)(t:TypeId)(i:TypeInfo):=i.methods.all fun m=>!K.vb m.name||(m.path.isEmpty&&(match m.func with
 |some (f,false)=>K.ij f
 |_=>false)&&SE P t)
def AW(K:pR)(P:Program):=(List.range P.types.size).all fun t=>match P.types[t]? with
 |some i=>ai_ K P t i
 |none=>true
theorem ZR{K:pR}{P:Program}{rest:List Item->Prop}{ji:List _->Prop}(h:AW K P=true){n:String}(F:K.vb n=true):@AQ (K.ju P ro jH rest ji) P n:=by
 intro t i m Y D;have old:∀{i:TypeInfo},P.types[t]?=some i->i.methods.find? (·.name==n)=some m->m.path=#[]/\(∃f,m.func=some (f,false)/\K.ij f=true)/\∀e,P.underlying t≠some (.pointer e):=by
  intro i Y D;have J:=(aM.1 Y).1;have B:=aO.1 h t (bD.2 J);simp[Y]at B;have U:=ax.1 B m (Array.mem_of_find?_eq_some D);have R:=by simpa using Array.find?_some D
  simp[R,F,Bool.not_true,Bool.false_or,af]at U;refine⟨by simp_all,?_,fun e C=>?_⟩
  ·have A:=U.1.2;split at A
   ·simp_all
   ·cases A
  ·have A:=U.2;simp[SE,C]at A
 have I:∀f (i:TypeInfo),aQ P.toTables f t=some i->i.methods.find? (·.name==n)=some m->P.types[t]?=some i\/False:=by
  intro f i Y D;cases f with
  |zero=>cases Y
  |succ f=>
   unfold aQ at Y;split at Y
   ·simp_all
   ·obtain⟨d,_,e⟩:=ae.1 Y;rw[YF e]at D;simp at D
 have H:=Y;unfold bH at H;split at H
 ·exact old H D
 ·exact old ((I _ i H D).resolve_right id) D
def tX(K:pR)(P:Program)(ext:FuncId->Bool)(f:FuncId):Bool:=match P.funcs[f]? with
 |some fn=>!(fn.name== "runtime.NumGoroutine")&&(match fn.body with
  |some c=>lH K P false c
  |none=>ext f)
 |none=>false
def Ts(K:pR)(P:Program)(ro:Nat->Prop)(jH:Nat->Nat->Prop)(rest:List _->Prop)(ji:List Deferred->Prop)(fn:Func):=
 letI:=K.ju P ro jH rest ji
 Extern.findNext fn=none/\∃e,Extern.find fn=some e/\∀r a a',VA r a a'->SR P V r (e a) (e a')
theorem Jz{K:pR}{P:Program}{rest:List _->Prop}{ji:List _->Prop}(I:K.rT=true->∀b,¬ro b)(ext:FuncId->Bool)(B:uU P.toTables=true)(F:AW K P=true)(A:∀f,K.ij f=true->tX K P ext f=true)(C:∀f fn,ext f=true->P.funcs[f]?=some fn->Ts K P ro jH rest ji fn):@ly (K.ju P ro jH rest ji) P:=by
 letI:=K.ju P ro jH rest ji
 refine⟨⟨ac9 B,rfl,afj B,fun f D=>?_,fun n J=>ZR F J⟩,fun c U=>yr I U,rfl,fun _=>rfl,fun _=>rfl,fun f fn c D Y H=>?_⟩
 ·have h:=A f D;unfold tX at h;split at h
  ·rename_i fn Y;simp only[af,aT]at h;refine⟨fn,Y,h.1,fun H=>?_⟩;have R:=h.2;rw[H]at R;exact C f fn R Y
  ·cases h
 ·have h:=A f D;unfold tX at h;simp[Y,H,af]at h;exact yr I h.2
def Uh:List Nat:=[0,1,2,3,4,5,6,7,8,9,10,11,12,13,14,15,16,22,38,39,60,92,111,122,137,138,140,157,158,159,160,161,168,169,170,171,172,173,174,175,176,177,178,179,180,181,182,183,184,185,186,187,188,199,200,201,202,203,204,205,206,207,214,215,216,217,218,219,220,222,223,224,225,226,227,228,229,230,231,232,233,234,235,236,237,242,243,244,245]
def vp(f:Nat):Bool:=[113,134,156].contains f
def K0:pR:={ij:=fun f=>decide (f<246)&&!Uh.contains f,sW:=fun g=>[0,2,3].contains g,vb:=fun n=>n== "spotter/spotter.told"||n== "spotter/spotter.flag",rT:=true}
theorem HN:uU Tryz.prog.toTables=true:=by decide+kernel
theorem abr:AW K0 Tryz.prog=true:=by decide+kernel
theorem abt:((List.range 246).all fun f=>!K0.ij f||tX K0 Tryz.prog vp f)=true:=by decide+kernel
theorem ac_(f:Nat)(h:K0.ij f=true):tX K0 Tryz.prog vp f=true:=by
 have Y:=by
  have:(decide _&&!Uh.contains f)=true:=h;simp only[af,decide_eq_true_eq]at this;exact this.1
 have:=aO.1 abt f (bD.2 Y);rw[h]at this;simpa using this
theorem IZ(K:pR)(ro:Nat->Prop)(jH:Nat->Nat->Prop)(rest:List Item->Prop)(ji:List Deferred->Prop)(f:Nat)(fn:Func)(h:vp f=true)(Y:Tryz.prog.funcs[f]?=some fn):Ts K Tryz.prog ro jH rest ji fn:=by
 letI:=K.ju Tryz.prog ro jH rest ji
 have:f=113\/f=134\/f=156:=by simpa[vp]using h
 rcases this with rfl|rfl|rfl
 ·rw[Tryz.func113]at Y;cases Y;exact⟨by decide+kernel,Extern.AbiNoEscape.same,by rfl,fun r a a' h=>Yq h⟩
 ·rw[Tryz.func134]at Y;cases Y;exact⟨by decide+kernel,Extern.BytealgIndexByte.indexByte,by rfl,fun r a a' h=>XU h⟩
 ·rw[Tryz.func156]at Y;cases Y;exact⟨by decide+kernel,_,by rfl,fun r a a' h=>Xw _ _ h⟩
def A9:Nat->Prop:=fun _=>False
def xi:Nat->Nat->Prop:=fun _ _=>False
theorem A_(rest:List Item->Prop)(ji:List Deferred->Prop):@ly (K0.ju Tryz.prog A9 xi rest ji) Tryz.prog:=Jz (fun _ _ h=>h) _ HN abr ac_ (IZ K0 _ _ _ ji)
def K2:pR:={ij:=fun _=>false,sW:=fun _=>false,vb:=fun _=>false,rT:=false}
def K3:pR:={ij:=fun f=>[77,139,144,145,150,165].contains f,sW:=fun _=>false,vb:=fun _=>false,rT:=false}
theorem ZS:AW K3 Tryz.prog=true:=by decide+kernel
theorem ZT:([77,139,144,145,150,165].all fun f=>tX K3 Tryz.prog vp f)=true:=by decide+kernel
theorem ada(f:Nat)(h:K3.ij f=true):tX K3 Tryz.prog vp f=true:=by
 have:f∈[77,139,144,145,150,165]:=by
  have:[77,139,144,145,150,165].contains f=true:=h;simpa using this
 exact aO.1 ZT f this
theorem aja(ro:Nat->Prop)(jH:Nat->Nat->Prop)(rest:List Item->Prop)(ji:List Deferred->Prop):@ly (K3.ju Tryz.prog ro jH rest ji) Tryz.prog:=Jz (fun h=>by cases h) _ HN ZS ada (IZ K3 ro jH _ ji)
end Ren
namespace Ph
open Conc Ren
theorem Tz.inv{P:Program}{U:Nat->Nat->Prop}{D:(Nat->Prop)->(Nat->Prop)->Goroutine->World->Prop}{X:Nat->Prop}{g:Goroutine}(J:(Nat->Prop)->(Nat->Prop)->World->Prop)
  (Y:∀S X w w2 w1 es S1 X1,J S X w->gK U S w w2->Did S X w2 w1 es S1 X1->J S1 X1 w1)(h:Tz P main U D S X g w)(j:J S X w):Tz P main U (fun S X g w=>D S X g w/\J S X w) S X g w:=by
 induction h with
 |stop hd=>exact .stop ⟨hd,j⟩
 |step K ex _ H=>exact .step K ex fun w2 g1 w1 es S1 X1 hr e hd=>H w2 g1 w1 es S1 X1 hr e hd (Y _ _ _ _ _ _ _ _ j hr hd.toDid)
theorem Tz.sets{P:Program}{U:Nat->Nat->Prop}{D:(Nat->Prop)->(Nat->Prop)->Goroutine->World->Prop}{X S' X':Nat->Prop}{g:Goroutine}(h:Tz P main U D S X g w)(Y:∀a,S a↔S' a)(hX:∀a,X a↔X' a):Tz P main U D S' X' g w:=by
 obtain rfl:S=S':=funext fun a=>propext (Y a);obtain rfl:X=X':=funext fun a=>propext (hX a);exact h
def vq:Value->Value
 |.pointer (some _)=>.tuple #[]
 |v=>v
def Ui:Obj->Obj
 |.cells c e _=>.cells (c.map vq) e (0,(c.map vq).size)
 |o=>o
def r4(ow:Option Nat)(w:World):={w with heap:=w.heap.mapIdx fun i o=>if some i=ow then o else Ui o}
theorem AX{ow:Option Nat}{b:Nat}{o:Obj}(h:w.heap[b]?=some o):(r4 ow w).heap[b]?=some (if some b=ow then o else Ui o):=by
 show(w.heap.mapIdx _)[b]?=_
 simp_all
theorem Io{ow:Option Nat}:(r4 ow w).heap.size=w.heap.size:=by
 show(w.heap.mapIdx _).size=_
 simp
structure ya(Fd By Rf Sg Fp k q st:Nat)(X P:ByteArray)(w:World):Prop where
 b:w.heap[By]?=some (.cells #[.int .i64 (k:Int),.int .i64 (q:Int),.int .i64 (st:Int)] 75)
 r:w.heap[Rf]?=some (.cells #[.string X] 9)
 s:w.heap[Sg]?=some (.cells #[.string P] 9)
 f:w.heap[Fp]?=some (.cells #[ptr Fd] 182)
 low:PR.globals.size<=w.heap.size
def Kp(By Rf Sg Fp b:Nat):=b=By\/b=Rf\/b=Sg\/b=Fp
section
variable{Fd By Rf Sg Fp k q st:Nat}{X P:ByteArray}{w:World}{ow:Option Nat}
theorem ya.reads(h:ya Fd By Rf Sg Fp k q st X P w)(H:∀b,Kp By Rf Sg Fp b->some b≠ow)(T:Nat->Question->Nat):Reads (tp (r4 ow w) T) By Rf Sg k q st X P:=by
 have Y:(tp (r4 ow w) T).heap[By]?=_:=(AX h.b).trans (by rw[if_neg (H By (.inl rfl))]);have K:(tp (r4 ow w) T).heap[Rf]?=_:=(AX h.r).trans (by rw[if_neg (H Rf (.inr (.inl rfl)))]);have D:(tp (r4 ow w) T).heap[Sg]?=_:=(AX h.s).trans (by rw[if_neg (H Sg (.inr (.inr (.inl rfl))))]);exact⟨by rw[cell_of_row _ By 0 _ _ _ Y];simp[vq],by rw[cell_of_row _ By 1 _ _ _ Y];simp[vq],by rw[cell_of_row _ By 2 _ _ _ Y];simp[vq],by rw[cell_of_row _ Rf 0 _ _ _ K];simp[vq],by rw[cell_of_row _ Sg 0 _ _ _ D];simp[vq]⟩
@[reducible] def gl(By Rf Sg Fp:Nat)(kr:List _):=K3.ju PR (Kp By Rf Sg Fp) xi (fun k=>k=kr) (fun _=>False)
theorem ya.W(kr:List Item)(h:ya Fd By Rf Sg Fp k q st X P w)(A:∀b,Kp By Rf Sg Fp b->some b≠ow)(B:∀g,ow=some g->∃c e,w.heap[g]?=some (.cells c e)/\∀x∈c,∃z:Int,x=.int .i64 z):
  letI:=gl By Rf Sg Fp kr
  Ren.W (mG fun b=>Kp By Rf Sg Fp b\/some b=ow) 0 (r4 ow w) w:=by
 letI:=gl By Rf Sg Fp kr
 refine⟨fun b b' e=>?_,by rw[Io];exact h.low,h.low,fun b I=>?_,fun i q R=>by omega,rfl⟩
 ·obtain⟨hk,rfl⟩:=yG.1 e;rcases hk with hk|hk
  ·have key:∀(c:Array _) (t:TypeId),w.heap[b]?=some (.cells c t)->VA (mG fun b=>Kp By Rf Sg Fp b\/some b=ow) (c.map vq) c->∃o o',(r4 ow w).heap[b]?=some o/\w.heap[b]?=some o'/\OB (mG fun b=>Kp By Rf Sg Fp b\/some b=ow) b o o':=by
    intro c t H D;exact⟨_,_,(AX H).trans (by rw[if_neg (A b hk)];rfl),H,.ro t hk D fun i R=>absurd R id⟩
   rcases hk with rfl|rfl|rfl|rfl
   ·refine key _ _ h.b ⟨by simp,fun i x x' Y K=>?_⟩;rw[aN,K]at Y;cases Y;have:=by
     have:=ay K;simpa using this
    rcases this with rfl|rfl|rfl<;>exact .int _ _
   ·refine key _ _ h.r ⟨by simp,fun i x x' Y K=>?_⟩;rw[aN,K]at Y;cases Y;have:=by
     have:=ay K;simpa using this
    subst this;exact .string _
   ·refine key _ _ h.s ⟨by simp,fun i x x' Y K=>?_⟩;rw[aN,K]at Y;cases Y;have:=by
     have:=ay K;simpa using this
    subst this;exact .string _
   ·refine key _ _ h.f ⟨by simp,fun i x x' Y K=>?_⟩;rw[aN,K]at Y;cases Y;have:=by
     have:=ay K;simpa using this
    subst this;exact .blank rfl
  ·obtain⟨c,t,H,D⟩:=B b hk.symm;refine⟨_,_,(AX H).trans (by simp_all),H,.same (fun y=>A b y hk) (DJ t _ fun x U=>?_)⟩;obtain⟨z,rfl⟩:=D x U;exact .int _ _
 ·rw[Io];rcases I with rfl|rfl|rfl|rfl
  ·exact aH fun y=>by have:=h.b;simp_all
  ·exact aH fun y=>by have:=h.r;simp_all
  ·exact aH fun y=>by have:=h.s;rw[aL y]at this;cases this
  ·exact aH fun y=>by have:=h.f;rw[aL y]at this;cases this
end
noncomputable def ox:List Item:=match Tryz.f138.body with
 |some (.seq _ b)=>[.code b]
 |_=>[]
section
variable{ch Wg By Rf Sg Fp x:Nat}{j:Nat->Value}{l:List Frame}{T:Array Value}
theorem cp0:gF PR 1 (WG ch Wg (j_ By Rf Sg Fp) (.int .i64 x) true j).1 l=(⟨138,nO x By Rf Sg Fp (.tuple #[]) (fun _=>.tuple #[]),.code EV::ox,[],.run,.normal,none⟩,l):=by kernel_rfl
theorem cp1:gF PR 1 ⟨138,T,ox,[],.run,.normal,none⟩ l=(⟨138,T,.code sP::tV,[],.run,.normal,none⟩,l):=by kernel_rfl
theorem afk:lH K3 PR false EV=true:=by decide+kernel
theorem afl:lH K3 PR false sP=true:=by decide+kernel
theorem ZU:∃c k,ox=.code c::k:=⟨_,_,rfl⟩
theorem ZV:∃c k,tV=.code c::k:=⟨_,_,rfl⟩
end
section
variable{U:Nat->Nat->Prop}{Fd By Rf Sg Fp k q st:Nat}{X P:ByteArray}{w:World}{ow:Option Nat}{kr:List Item}{c:Code}
def ajb(U:Nat->Nat->Prop)(By Rf Sg Fp:Nat)(kr:List Item)(r0:@Rn (gl By Rf Sg Fp kr))(R:Array Value->World->Prop)(cs:List Frame)(S X S' X':Nat->Prop)(g:Goroutine)(w':World):Prop:=
 letI:=gl By Rf Sg Fp kr
 ∃(r:Rn) (a' t':Array Value) (v:World),Le r0 r/\Ren.W r 0 v w'/\(∀b,S' b↔Rd r b\/S b)/\(∀b,X' b↔Wr r b\/X b)/\R a' v/\oY U r/\VA r a' t'/\g=G ⟨138,t',kr,[],.run,.normal,none⟩ cs
theorem piece(hk:∃c k,kr=.code c::k)(p:lH K3 PR false c=true){r0:@Rn (gl By Rf Sg Fp kr)}{v0:World}(z:@Ren.W (gl By Rf Sg Fp kr) r0 0 v0 w)
  {R:Array Value->World->Prop}{a t:Array Value}(A:∀T,c.wp PR (fun e a' v'=>e=.normal/\a'.defers=[]/\R a'.tmps v') ⟨a,[]⟩ (tp v0 T))
  (H:@VA (gl By Rf Sg Fp kr) r0 a t){cs:List Frame}(Y:@oY (gl By Rf Sg Fp kr) U r0)(M:∀b i,U b i->b<w.heap.size){S X':Nat->Prop}(V:∀b,@Rd (gl By Rf Sg Fp kr) r0 b->S b)(hX:∀b,@Wr (gl By Rf Sg Fp kr) r0 b->X' b):
  Tz PR false U (ajb U By Rf Sg Fp kr r0 R cs S X') S X' (G ⟨138,t,.code c::kr,[],.run,.normal,none⟩ cs) w:=by
 letI:=gl By Rf Sg Fp kr
 have K:lO PR false c:=yr (fun h=>by cases h) p;have X:FR PR r0 true (Frame.at ⟨138,#[],[],[],.run,.normal,none⟩ ⟨a,[]⟩ (.code c::tU)) ⟨138,t,.code c::kr,[],.run,.normal,none⟩:=by
  obtain⟨c0,j,B⟩:=hk;refine⟨rfl,H,?_,.nil,.run,rfl,.inl rfl,.none,fun _=>⟨_,Tryz.func138⟩⟩;show IL PR _ false true (.code c::tU) (.code c::kr)
  refine .cons (.code K) ?_;rw[B];exact .rest rfl rfl B.symm rfl
 have Z:=OG (main:=false) (U:=U) (aja (Kp By Rf Sg Fp) xi (fun k=>k=kr) fun _=>False) (fun ops h=>by cases h) (fun g h=>by cases h) A rfl K X (gM:=cs) z Y M;refine(Tz.of (SF:=S) (XF:=X') Z (fun b i J=>⟨M b i J,fun h=>?_⟩) fun S1 X1 f l w1 hd=>?_).sets (fun b=>⟨fun h=>h.elim (V b) id,.inr⟩) (fun b=>⟨fun h=>h.elim (hX b) id,.inr⟩)
 ·obtain⟨b0,e⟩:=h;exact(Y b0 b i e J).2
 ·obtain⟨rfl,r,a',v,O,P,L,N,⟨D,Q⟩,E,q,I,f1,f2,C,F,f5,f6⟩:=Pj (kr:=kr) (fun k h=>h) hd;subst L N;refine .stop ⟨r,a'.tmps,f.tmps,v,O,P,fun b=>Iff.rfl,fun b=>Iff.rfl,Q,E,I,?_⟩;obtain⟨fn,tmps,todo,defers,mode,kind,ro⟩:=f;simp only at f1 f2 C F f5 f6;rw[D]at f6;have:defers=[]:=by
   generalize defers=d at f6;cases f6 with
   |nil=>rfl
   |rest _ h=>exact h.elim
  subst this f1 f2 C F f5;rfl
end
inductive VL[gB](r:Rn):List Value->List Value->Prop
 |nil:VL r [] []
 |cons {x y:Value} {l l':List Value}:V r x y->VL r l l'->VL r (x::l) (y::l')
theorem VL.va[gB]{r:Rn}{l l':List _}(h:VL r l l'):VA r l.toArray l'.toArray:=by
 have K:l.length=l'.length:=by
  induction h with
  |nil=>rfl
  |cons _ _ Y=>simp[Y]
 refine⟨by omega,fun i x x' e e'=>?_⟩;clear K;induction h generalizing i with
 |nil=>simp at e
 |cons H _ Y=>
  cases i with
  |zero=>simp at e e';simp_all
  |succ i=>exact Y i (by simp_all) (by simp_all)
theorem ahm[gB]{r:Rn}{x By Rf Sg Fp:Nat}(Y:r By=some By)(hr:r Rf=some Rf)(A:r Sg=some Sg)(H:r Fp=some Fp):VA r (nO x By Rf Sg Fp (.tuple #[]) (fun _=>.tuple #[])) (nO x By Rf Sg Fp (.tuple #[]) (fun _=>.tuple #[])):=
 VL.va (.cons (.int _ _) (.cons (.ptr ⟨Y,rfl,rfl⟩) (.cons (.ptr ⟨hr,rfl,rfl⟩) (.cons (.ptr ⟨A,rfl,rfl⟩) (.cons (.ptr ⟨H,rfl,rfl⟩) (.cons (.blank rfl) (.cons (.blank rfl) (.cons (.blank rfl) (.cons (.blank rfl) (.cons (.blank rfl) (.cons (.blank rfl) (.cons (.blank rfl) (.cons (.blank rfl) (.cons (.blank rfl) (.cons (.blank rfl) (.cons (.blank rfl) (.cons (.blank rfl) (.cons (.blank rfl) (.cons (.blank rfl) (.cons (.blank rfl) (.cons (.blank rfl) (.cons (.blank rfl) (.cons (.blank rfl) (.cons (.blank rfl) (.cons (.blank rfl) (.cons (.blank rfl) (.cons (.blank rfl) (.cons (.blank rfl) (.cons (.blank rfl) (.cons (.blank rfl) (.cons (.blank rfl) (.cons (.blank rfl) (.cons (.blank rfl) (.cons (.blank rfl) (.cons (.blank rfl) (.cons (.blank rfl) (.cons (.blank rfl) (.cons (.blank rfl) (.cons (.blank rfl) .nil)))))))))))))))))))))))))))))))))))))))
theorem Hf(t p:ByteArray)(k:Nat):∀n,∀h∈kX t p k n,h.1<=n
 |0,h,Y=>by simp[kX]at Y
 |n+1,h,Y=>by
  have H:=Hf t p k n;rw[kX]at Y;split at Y
  ·rcases bA.1 Y with K|K
   ·have:=H h K;omega
   ·simp_all
  ·have:=H h Y;omega
def ll(X P:ByteArray)(k st x:Nat):=kz (x *st) (ln (jl X P k st x) P k) (ln (jl X P k st x) P k).length
def Env.KH(E:Env)(X P:ByteArray)(k st x:Nat)(a:Option Addr)(n:Nat)(S X':Nat->Prop)(w:World):=
 n=(ll X P k st x).length/\((a=none/\n=0)\/∃g cur,a=some ⟨g,0,none⟩/\S g/\X' g/\(∀i,¬E.U g i)/\w.heap[g]?=some (.cells cur 173)/\cur.toList.take (n *2)=jK (ll X P k st x))
theorem Env.afm(E:Env)(X P:ByteArray)(k st:Nat):E.SC (E.KH X P k st):=by
 refine⟨fun h hr=>?_,fun h C=>?_,fun h B hX=>?_⟩
 ·obtain⟨H,K|⟨g,Y,K,R,I,D,A,U⟩⟩:=h
  ·exact⟨H,.inl K⟩
  ·exact⟨H,.inr ⟨g,Y,K,R,I,D,((hr.kept g R).eq D).trans A,U⟩⟩
 ·obtain⟨H,K|⟨g,Y,K,R,I,D,A,U⟩⟩:=h
  ·exact⟨H,.inl K⟩
  ·exact⟨H,.inr ⟨g,Y,K,R,I,D,(C.heap g fun e=>D 0 ⟨.inl e,by omega⟩).trans A,U⟩⟩
 ·obtain⟨H,K|⟨g,Y,K,R,I,D,A,U⟩⟩:=h
  ·exact⟨H,.inl K⟩
  ·exact⟨H,.inr ⟨g,Y,K,B g R,hX g I,D,A,U⟩⟩
theorem SG(By Rf Sg Fp:Nat)(Y H:List _):Bu (gl By Rf Sg Fp Y) (gl By Rf Sg Fp H):=⟨rfl,fun _ h=>h,fun _ h=>h,fun _ h=>h,fun _=>Iff.rfl,fun _ _ h=>h⟩
theorem Reads.later{w':World}{By Rf Sg k q st B:Nat}{X P:ByteArray}(h:Reads w By Rf Sg k q st X P)(Y:Go.RowKit.Below B w w')(H:By<B)(A:Rf<B)(C:Sg<B)(T:Nat->Question->Nat):Reads (tp w' T) By Rf Sg k q st X P:=
 ⟨(Y.cell H).trans h.c0,(Y.cell H).trans h.c1,(Y.cell H).trans h.c2,(Y.cell A).trans h.x,(Y.cell C).trans h.p⟩
theorem ZW(F:List _):∀x∈jK F,∃z:Int,x=.int .i64 z:=by
 intro x K;simp only[jK,List.mem_flatMap]at K;obtain⟨h,_,Y⟩:=K;simp at Y;rcases Y with rfl|rfl
 ·exact⟨_,rfl⟩
 ·exact⟨_,rfl⟩
theorem afn[gB]{r:Rn}{c c':Array _}(h:VA r c c'){l:List _}(A:∀x∈l,∃z:Int,x=.int .i64 z)(B:l.length=m)(e:c.toList.take m=l):c'.toList.take m=l:=by
 apply List.ext_getElem?;intro i;rcases Nat.lt_or_ge i m with K|K
 ·have Y:(c.toList.take m)[i]?=l[i]?:=by rw[e]
  rw[aX,if_pos K]at Y;rw[aX,if_pos K];have D:l[i]?=some l[i]:=aP _;rw[D]at Y⊢;obtain⟨z,R⟩:=A _ (List.getElem_mem _);rw[R]at Y⊢;obtain⟨y,I,H⟩:=h.get (by simpa using Y);cases H;simp_all
 ·rw[bu (by simp;omega),bu (by omega)]
theorem XZ(F:List _):(jK F).length=F.length *2:=aaB F
theorem ajc[gB]{r:Rn}{b:Nat}{y:Value}(h:V r (ptr b) y)(e:r b=some b):y=ptr b:=by
 cases h with
 |@ptr a a' k=>
  obtain⟨Y,K,H⟩:=k;obtain⟨b',o',s'⟩:=a';simp only at Y K H;rw[e]at Y;cases Y;subst K H;rfl
section
variable{E:Env}{ch:Nat}{ok:Nat->Prop}{By Rf Sg Fp:Nat}{RO:Nat->Prop}{Fx:World->Prop}
theorem afo(X P:ByteArray)(k q st:Nat)(hX:X.size<=200)(hP:P.size<=30)(hk:k<=6)(hs:st<=200)(FV:∀x,ok x->x *st<=X.size/\x<=100000)
  (K:E.xu RO Fx)(hIn:∀w,Fx w->ya E.Fd By Rf Sg Fp k q st X P w)(C:∀b,Kp By Rf Sg Fp b->RO b)(hKU:∀b,Kp By Rf Sg Fp b->∀i,¬E.U b i)(Y:∀w,Fx w->(∀b,RO b->b<w.heap.size)/\E.Mp<w.heap.size):
  Env.SD E ch ok By Rf Sg Fp RO Fx (E.KH X P k st):=by
 intro D x S X' j w hx L hF F;obtain⟨U0,BS⟩:=FV x hx;generalize FW:[zQ ch E.Wg (j_ By Rf Sg Fp) (.int .i64 (x:Int)) j,bot]=cs at F⊢;clear FW;refine Tz.pure 1 fun w1 x_=>?_;rw[cp0];have H:Fx w1:=K.rely S _ _ L.ro hF x_;have G:=hIn w1 H;have FX:∀w,Fx w->∀b i,E.U b i->b<w.heap.size:=fun w h b i t=>by
  rcases t.1 with rfl|rfl
  ·exact(Y w h).1 _ L.fd
  ·exact(Y w h).1 _ L.wg
 have hJ:∀(S X:Nat->Prop) (w w2 w1:World) (es:Array Event) (S1 X1:Nat->Prop),((∀a,RO a->S a)/\¬S E.Mp/\¬X E.Mp/\(∀a,RO a->¬X a)/\Fx w)->gK E.U S w w2->Did S X w2 w1 es S1 X1->((∀a,RO a->S1 a)/\¬S1 E.Mp/\¬X1 E.Mp/\(∀a,RO a->¬X1 a)/\Fx w1):=by
  rintro S X w w2 w1 es S1 X1 ⟨j1,j2,j3,j4,j5⟩ hr hd;have B:=K.rely S _ _ j1 j5 hr;refine⟨fun a M=>(hd.held a).2 (.inl (j1 a M)),fun y=>?_,fun y=>?_,fun a M y=>?_,K.rely RO _ _ (fun _ h=>h) B ⟨fun a M=>.inl (hd.kept a ((Y _ B).1 a M) (j4 a M)),hd.grow,hd.env⟩⟩
  ·rcases(hd.held _).1 y with z|z
   ·exact j2 z
   ·have:=(Y _ B).2;omega
  ·rcases(hd.may _).1 y with z|z
   ·exact j3 z
   ·have:=(Y _ B).2;omega
  ·rcases(hd.may _).1 y with z|z
   ·exact j4 a M z
   ·have:=(Y _ B).1 a M;omega
 have s:∀b,Kp By Rf Sg Fp b->some b≠(none:Option Nat):=fun b _ e=>by cases e
 have p1:=piece (U:=E.U) (cs:=cs) (S:=S) (X':=X') ZU afk (G.W (ow:=none) ox s (fun g e=>by cases e))
  (R:=fun a' v=>∃T val,a'=nO x By Rf Sg Fp val (uA By k q st x X P (jl X P k st x) val)/\v.ownsRow w1.heap.size 173 2 val (ln (jl X P k st x) P k).length (jK (ln (jl X P k st x) P k))/\Go.RowKit.Below w1.heap.size (tp (r4 none w1) T) v)
  (fun T=>by
   have m:(tp (r4 none w1) T).heap.size=w1.heap.size:=Io;have h:=agG x By Rf Sg Fp k q st X P (tp (r4 none w1) T) (G.reads s T) hX hP hk hs U0 BS;rw[m]at h;refine bk (fun e a w' p=>?_) h;obtain⟨I,val,rfl,O,h3⟩:=p;exact⟨I,rfl,T,val,rfl,O,h3⟩)
  (@ahm (gl By Rf Sg Fp ox) _ x By Rf Sg Fp (@si (gl By Rf Sg Fp ox) _ _ (.inl (.inl rfl))) (@si (gl By Rf Sg Fp ox) _ _ (.inl (.inr (.inl rfl)))) (@si (gl By Rf Sg Fp ox) _ _ (.inl (.inr (.inr (.inl rfl))))) (@si (gl By Rf Sg Fp ox) _ _ (.inl (.inr (.inr (.inr rfl))))))
  (fun b b' i e t=>by
   obtain⟨I,rfl⟩:=(@yG (gl By Rf Sg Fp ox) _ _ _).1 e;exact absurd t (hKU b (I.resolve_right fun y=>by cases y) i))
  (FX w1 H)
  (fun b d=>L.ro b (C b (((@yL (gl By Rf Sg Fp ox) _ _).1 d).resolve_right fun y=>by cases y)))
  (fun b d=>by
   obtain⟨I,O⟩:=(@aeI (gl By Rf Sg Fp ox) _ _).1 d;exact absurd (I.resolve_right fun y=>by cases y) O)
 refine(p1.inv _ hJ ⟨L.ro,L.mp,L.mpx,L.mS,H⟩).bind fun S1 X1 g w2 hd=>?_;obtain⟨⟨r,a',t',v,hle,hWr,U4,hX1,⟨T0,val,rfl,V,akv⟩,Z,hva,rfl⟩,hj⟩:=hd;clear p1;refine Tz.pure 1 fun w3 N=>?_;rw[cp1];have BT:Fx w3:=K.rely S1 _ _ hj.1 hj.2.2.2.2 N;have hW3:=@Ren.W.rely (gl By Rf Sg Fp ox) _ _ _ _ _ _ hWr Z ⟨fun a M=>N.kept a ((U4 a).2 (.inl M)),N.grow,N.env⟩;have lB:By<w1.heap.size:=(Y w1 H).1 _ (C _ (.inl rfl));have lR:Rf<w1.heap.size:=(Y w1 H).1 _ (C _ (.inr (.inl rfl)));have lS:Sg<w1.heap.size:=(Y w1 H).1 _ (C _ (.inr (.inr (.inl rfl))));have gq:(jl X P k st x).size<=300:=by unfold jl;rw[bj];omega
 have hL:(ln (jl X P k st x) P k).length<=1000:=aD (Cu _ _ _ _) (by omega);have hL2:∀h∈ln (jl X P k st x) P k,h.1<=1000:=fun h p=>aD (Hf _ _ _ _ h p) (by omega);have hgB:∀g,val.ownBlock=some g->g≠By:=fun g hg e=>by
  have:=(V.lt g hg).1;omega
 have p2:=piece (U:=E.U) (cs:=cs) (S:=S1) (X':=X1) ZV afl (JS (SG By Rf Sg Fp ox tV) hW3)
  (R:=fun a' v2=>∃u2,a'=nO x By Rf Sg Fp val u2/\v2.ownsRow w1.heap.size 173 2 val (ln (jl X P k st x) P k).length (jK (ll X P k st x)))
  (fun T=>by
   have h:=agH x By Rf Sg Fp k q st X P (ln (jl X P k st x) P k) val (uA By k q st x X P (jl X P k st x) val) w1.heap.size (tp v T) (Reads.later (G.reads s T0) akv lB lR lS T) hgB hL hL2 (by omega) (by omega) BS V;refine bk (fun e a w' p=>?_) h;obtain⟨I,u2,rfl,O⟩:=p;exact⟨I,rfl,u2,rfl,O⟩)
  (uT (SG By Rf Sg Fp ox tV) hva) (fun b b' i e t=>Z b b' i e t) (FX w3 BT) (fun b d=>(U4 b).2 (.inl d)) (fun b d=>(hX1 b).2 (.inl d))
 refine(p2.inv _ hJ ⟨hj.1,hj.2.1,hj.2.2.1,hj.2.2.2.1,BT⟩).bind fun S2 X2 g w4 hd=>?_;obtain⟨⟨r2,a2,t2,v2,akw,akx,hS2,L_,⟨u2,rfl,u⟩,ajd,J,rfl⟩,A⟩:=hd;clear p2
 letI:=gl By Rf Sg Fp tV
 have hFp:r2 Fp=some Fp:=akw _ _ (hle _ _ (@si (gl By Rf Sg Fp ox) _ _ (.inl (.inr (.inr (.inr rfl))))));obtain⟨y4,e4,hv4⟩:=J.get (i:=4) (x:=ptr Fp) rfl;obtain rfl:=ajc hv4 hFp;obtain⟨y6,e6,U5⟩:=J.get (i:=6) (x:=val) rfl;have m:t2.size=39:=J.size.symm;have U6:E.zq RO S2 X2:=⟨A.1,A.2.1,A.2.2.1,L.fd,L.wg,A.2.2.2.1⟩;have f:(ll X P k st x).length=(ln (jl X P k st x) P k).length:=yw _ _ _;have U7:∀sl,y6=sl->kJ 138 39 tV (sA (EJ Fp sl)) ⟨138,t2,tV,[],.run,.normal,none⟩:=fun sl e=>by
  subst e;refine⟨rfl,rfl,rfl,rfl,rfl,rfl,m,fun i y hy=>?_⟩;unfold sA EJ at hy;by_cases h4:i=4
  ·subst h4;cases hy;show t2.getD 4 undef=_
   rw[bg,e4];rfl
  ·by_cases h6:i=6
   ·subst h6;cases hy;show t2.getD 6 undef=_
    rw[bg,e6];rfl
   ·have b4:(i==4)=false:=by simpa using h4
    have b6:(i==6)=false:=by simpa using h6
    simp[List.lookup,b4,b6]at hy
 rcases u.2 with⟨ev,en⟩|⟨g,cap,cur,ev,hg,p,hnc,UR,FW,zR⟩
 ·subst ev;cases U5;exact F S2 X2 _ w4 none 0 0 U6 A.2.2.2.2 (U7 _ rfl) ⟨by rw[f,en],.inl ⟨rfl,rfl⟩⟩
 ·subst ev;cases U5 with
  |@slice a a' l c ad=>
   obtain⟨I,O,h3⟩:=ad;obtain⟨g',o',s'⟩:=a';simp only at I O h3;subst O h3;obtain⟨o,o',ho,ho',hob⟩:=akx.obj g g' I;have Q:¬Kp By Rf Sg Fp g:=fun y=>by
    have:=(Y w1 H).1 g (C g y);omega
   cases hob with
   |ro e n _ _=>exact absurd n Q
   |same n hO=>
    rw[p]at ho;cases ho;cases hO with
    |cells e fz hv=>
     exact F S2 X2 _ w4 (some ⟨g',0,none⟩) _ cap U6 A.2.2.2.2 (U7 _ rfl) ⟨f.symm,.inr ⟨g',_,rfl,(hS2 g').2 (.inl ⟨g,I⟩),(L_ g').2 (.inl ⟨g,I,Q⟩),fun i t=>(ajd g g' i I t).2,ho',afn hv (ZW _) (by rw[XZ,f]) zR⟩⟩
end
section
variable{P:Program}{main:Bool}{U:Nat->Nat->Prop}{D:(Nat->Prop)->(Nat->Prop)->Goroutine->World->Prop}{S X:Nat->Prop}
abbrev RU(U:Nat->Nat->Prop)(S:Nat->Prop):=gK U S
abbrev DU(U:Nat->Nat->Prop)(S X:Nat->Prop):=fun w w1 es=>kh U S X w w1 es S X
theorem terms:Terms (RU U S) (DU U S X):=⟨fun _ _ _ h k=>h.trans k,fun w=>jc _ _ _⟩
theorem Tz.Tt{Stop:Goroutine->World->Prop}(k:∀g w,Stop g w->Tz P main U D S X g w):∀n {g:Goroutine} {w:World},Goes P main (RU U S) (DU U S X) Stop n g w->Tz P main U D S X g w
 |0,g,w,h=>k g w (h w (.refl _ _ _))
 |n+1,g,w,h=>by
  rcases h with h|⟨K,h⟩
  ·exact k g w (h w (.refl _ _ _))
  ·refine Tz.one K fun w2 hr=>?_;have gq:=h w2 hr;revert gq;generalize stepG P _ g w2=s;intro gq;cases s with
   |go Y w' es=>exact⟨Y,w',es,S,X,rfl,gq.1,Tz.Tt k n gq.2⟩
   |_=>exact gq.elim
theorem Tz.wpC{c:Code}{a:Act}{M:Act->World->Prop}(h:c.wpC P main (RU U S) (DU U S X) fn n (fun e a' w'=>e=.normal/\M a' w') a w){b:Frame}(H:b.fn=fn)(hk:b.kind≠.early){k:List _}{cs:List _}
  (cont:∀a' w0 w',M a' w0->gK U S w0 w'->Tz P main U D S X (G (b.at a' k) cs) w'):Tz P main U D S X (G (b.at a (.code c::k)) cs) w:=by
 refine Tz.Tt (Stop:=fun g w'=>∃a' w0,g=G (b.at a' k) cs/\M a' w0/\gK U S w0 w') (fun g w' R=>?_) _ (h b k cs _ 0 H hk fun e a' w' A=>?_)
 ·obtain⟨a',w0,rfl,Y,K⟩:=R;exact cont a' w0 w' Y K
 ·obtain⟨rfl,I⟩:=A;exact fun w1 hr=>⟨a',w',rfl,I,hr⟩
end
def jT(Fd b5:Nat)(v1 Y H A:Value)(u:Nat->Value):=#[.pointer (some ⟨Fd,0,none⟩),v1,u 2,u 3,u 4,.pointer (some ⟨b5,0,none⟩),u 6,u 7,u 8,u 9,u 10,u 11,u 12,u 13,u 14,Y,H,A,u 18,u 19,u 20,u 21,u 22,u 23,u 24,u 25,u 26,u 27,u 28,u 29,u 30,u 31,u 32,u 33,u 34,u 35,u 36,u 37,u 38,u 39,u 40,u 41,u 42,u 43,u 44,u 45,u 46,u 47]
theorem AM(Fd b5:Nat)(v1 U8 U9 U_ a2 a3 a4 a6 a7 a8 a9 Y H A B C F M a20 N a22 a23 a24 a25 a26 a27 a28 O Q a31 a32 a33 V a35 a36 a37 G W z a41 p u a44 v a46 h:Value):#[.pointer (some ⟨Fd,0,none⟩),v1,a2,a3,a4,.pointer (some ⟨b5,0,none⟩),a6,a7,a8,a9,Y,H,A,B,C,U8,U9,U_,F,M,a20,N,a22,a23,a24,a25,a26,a27,a28,O,Q,a31,a32,a33,V,a35,a36,a37,G,W,z,a41,p,u,a44,v,a46,h]=jT Fd b5 v1 U8 U9 U_ (fun i=>[.tuple #[],.tuple #[],a2,a3,a4,.tuple #[],a6,a7,a8,a9,Y,H,A,B,C,.tuple #[],.tuple #[],.tuple #[],F,M,a20,N,a22,a23,a24,a25,a26,a27,a28,O,Q,a31,a32,a33,V,a35,a36,a37,G,W,z,a41,p,u,a44,v,a46,h].getD i (.tuple #[])):=rfl
noncomputable def Mb:=match ao.body with
 |some (.seq _ (.seq _ (.seq _ (.block _ (.loop (.seq _ (.seq _ (.seq (.block _ (.seq _ (.seq Y _))) _))))))))=>Y
 |_=>.skip
structure AF(Fd Mp b5:Nat)(e d:Int)(o:Option Obj)(w:World):Prop where
 m:w.cell? ⟨Fd,2,none⟩=some (.map (some Mp))
 c0:w.cell? ⟨b5,0,none⟩=some (.int .i64 e)
 c1:w.cell? ⟨b5,1,none⟩=some (.int .i64 d)
 o:w.heap[Mp]?=o
section
variable{U:Nat->Nat->Prop}{S X:Nat->Prop}{Fd Mp b5:Nat}{e d:Int}{o:Option Obj}
theorem tP{es:Array _}(h:∀e∈es,(∃a:Addr,e.loc=.cell a/\e.sync=false/\e.write=false/\S a.block/\¬U a.block a.off)\/∃b,e.loc=.obj b/\e.sync=false/\e.write=false/\S b):DU U S X w w es:=
 ⟨⟨fun _ _ _=>rfl,au _,fun a=>⟨.inl,fun h=>h.resolve_right fun y=>by omega⟩,fun a=>⟨.inl,fun h=>h.resolve_right fun y=>by omega⟩,fun e R=>by
  rcases h e R with⟨a,Y,K,D,H,I⟩|⟨b,Y,K,D,H⟩
  ·exact .inl ⟨a,Y,K,.inl ⟨H,fun y=>by simp_all⟩⟩
  ·exact .inr (.inl ⟨b,Y,K,.inl ⟨H,fun y=>by simp_all⟩⟩),rfl,.refl _,rfl⟩,fun e R b A=>by
  rcases h e R with⟨a,Y,K,D,H,I⟩|⟨b,Y,K,D,H⟩
  ·simp_all
  ·simp_all⟩
theorem lets:LetsDraw (DU U S X):=fun w=>⟨⟨fun _ _ _=>rfl,au _,fun a=>⟨.inl,fun h=>h.resolve_right fun y=>by have Y:=y.1;have K:=y.2;exact absurd K (Nat.not_lt.2 Y)⟩,fun a=>⟨.inl,fun h=>h.resolve_right fun y=>by have Y:=y.1;have K:=y.2;exact absurd K (Nat.not_lt.2 Y)⟩,fun e H=>by simp_all,rfl,.refl _,rfl⟩,fun e H=>by simp_all⟩
theorem Uj(w:World):RU U S w {w with drawn:=w.drawn+1}:=⟨fun a _=>.inl rfl,au _,.refl _⟩
structure ug(U:Nat->Nat->Prop)(S:Nat->Prop)(Fd Mp b5:Nat):Prop where
 fd:S Fd
 mp:S Mp
 b:S b5
 u2:¬U Fd 2
 ub:∀i,¬U b5 i
 um:∀i,¬U Mp i
theorem qH{w1:World}{b:Nat}{v:Value}(Y:S b)(A:¬U b i)(h:w.cell? ⟨b,i,none⟩=some v)(r:RU U S w w1):w1.cell? ⟨b,i,none⟩=some v:=by
 rcases r.kept b Y with K|⟨c,c2,t,fz,_,H,D,R,I,_⟩
 ·simp only[aI]at h⊢;simp_all
 ·simp only[aI]at h⊢;simp_all
theorem AF.rely(H:ug U S Fd Mp b5){w w1:World}(h:AF Fd Mp b5 e d o w)(r:RU U S w w1):AF Fd Mp b5 e d o w1:=
 ⟨qH H.fd H.u2 h.m r,qH H.b (H.ub 0) h.c0 r,qH H.b (H.ub 1) h.c1 r,((r.kept Mp H.mp).eq H.um).trans h.o⟩
theorem tk(H:ug U S Fd Mp b5){A:Act->Prop}{P:Program}{md:Region.Mode}{ops:Array _}{Y:Oper}{v:Value}{li:Array _}{a:Act}(F:ops[i]?=some Y)
  (M:bG ops=true)(C:Region.free md ops li i=true)(hr:(Region.ready md ops li).contains i=true)
  (N:YieldsIfC P (DU U S X) fn ops (AF Fd Mp b5 e d o) Y v a)(B:AF Fd Mp b5 e d o w)(h:AnyCH P (RU U S) (DU U S X) fn md ops (fun ex a' w'=>ex=.normal/\A a'/\AF Fd Mp b5 e d o w') (AF Fd Mp b5 e d o) fuel (li.setIfInBounds i true) (a.put Y.dst v) w):
  AnyCH P (RU U S) (DU U S X) fn md ops (fun ex a' w'=>ex=.normal/\A a'/\AF Fd Mp b5 e d o w') (AF Fd Mp b5 e d o) (fuel+1) li a w:=
 anyCH_take terms (fun _ _ h r=>AF.rely H h r) (fun _ _ _ h r=>⟨h.1,h.2.1,AF.rely H h.2.2 r⟩) F M C hr N B h
theorem aje(H:ug U S Fd Mp b5)(dd:List Deferred)(v1 B C F:Value)(u:Nat->Value)(x:Int)(bo:Bool)(N:∀w,AF Fd Mp b5 e d o w->(ak 166 (.map (some Mp)) (.int .i64 e) true).run Tryz.prog w=.ok (.tuple #[.int .i64 x,.bool bo]) w)
  (M:∀w,AF Fd Mp b5 e d o w->∀ev∈aj Tryz.prog (ak 166 (.map (some Mp)) (.int .i64 e) true) w #[],ev.loc=.obj Mp/\ev.sync=false/\ev.write=false):
  ∃k,∀w,AF Fd Mp b5 e d o w->Mb.wpC Tryz.prog false (RU U S) (DU U S X) 140 k (fun ex a' w'=>ex=.normal/\(∃A,A 6=.int .i64 x/\A 7=.bool bo/\a'=⟨jT Fd b5 v1 B C F A,dd⟩)/\AF Fd Mp b5 e d o w') ⟨jT Fd b5 v1 B C F u,dd⟩ w:=by
 have D:∀(t:Array Value) (A:Nat->Value) (w':World),t=jT Fd b5 v1 B C F A->A 6=.int .i64 x->A 7=.bool bo->AF Fd Mp b5 e d o w'->(fun(a':Act)=>∃A,A 6=.int .i64 x/\A 7=.bool bo/\a'=⟨jT Fd b5 v1 B C F A,dd⟩) ⟨t,dd⟩:=fun t A w' P Q T _=>⟨A,Q,T,by rw[P]⟩;generalize R:(fun(a':Act)=>∃A,A 6=.int .i64 x/\A 7=.bool bo/\a'=⟨jT Fd b5 v1 B C F A,dd⟩)=O at D;rw[show(fun(ex:Exit) (a':Act) (w':World)=>ex=.normal/\(∃A,A 6=.int .i64 x/\A 7=.bool bo/\a'=⟨jT Fd b5 v1 B C F A,dd⟩)/\AF Fd Mp b5 e d o w')=fun ex a' w'=>ex=.normal/\O a'/\AF Fd Mp b5 e d o w' by rw[<-R]];clear R
 co_apply Exists.intro
 intro w hF;unfold Mb ao;dsimp only;rw[show jT Fd b5 v1 B C F u=_ from rfl];simp only[jT];have Z:∀{w w1:World},AF Fd Mp b5 e d o w->RU U S w w1->AF Fd Mp b5 e d o w1:=fun h r=>AF.rely H h r
 co_held (terms (U:=U) (S:=S) (X:=X)) lets Uj (AF Fd Mp b5 e d o) Z hF
 refine tk H (i:=0) (v:=.pointer (some ⟨Fd,0,none⟩)) rfl (by decide+kernel) (by decide+kernel) (by decide+kernel) (.inl ⟨by rfl,fun w2 hw=>⟨run_eq_of (fun K Y=>by go_simp;exact Y),by co_quiet (terms (U:=U) (S:=S) (X:=X))⟩⟩) hF ?_;try walk_nrm
 refine tk H (i:=1) (v:=.pointer (some ⟨Fd,0,none⟩)) rfl (by decide+kernel) (by decide+kernel) (by decide+kernel) (.inl ⟨by rfl,fun w2 hw=>⟨run_eq_of (fun K Y=>by go_simp;exact Y),by co_quiet (terms (U:=U) (S:=S) (X:=X))⟩⟩) hF ?_;try walk_nrm
 refine tk H (i:=2) (v:=.pointer (some ⟨Fd,2,none⟩)) rfl (by decide+kernel) (by decide+kernel) (by decide+kernel) (.inl ⟨by rfl,fun w2 hw=>⟨run_eq_of (fun K Y=>by go_simp;exact Y),by co_quiet (terms (U:=U) (S:=S) (X:=X))⟩⟩) hF ?_;try walk_nrm
 refine tk H (i:=3) (v:=.map (some Mp)) rfl (by decide+kernel) (by decide+kernel) (by decide+kernel) (.inl ⟨by rfl,fun w2 hw=>⟨run_eq_of (fun K Y=>by have I:=hw.m;go_simp;exact Y),tP (by have I:=hw.m;co_evs (exact .inl ⟨_,rfl,rfl,rfl,H.fd,H.u2⟩))⟩⟩) hF ?_;try walk_nrm
 refine tk H (i:=4) (v:=.pointer (some ⟨b5,0,none⟩)) rfl (by decide+kernel) (by decide+kernel) (by decide+kernel) (.inl ⟨by rfl,fun w2 hw=>⟨run_eq_of (fun K Y=>by go_simp;exact Y),by co_quiet (terms (U:=U) (S:=S) (X:=X))⟩⟩) hF ?_;try walk_nrm
 refine tk H (i:=5) (v:=.int .i64 e) rfl (by decide+kernel) (by decide+kernel) (by decide+kernel) (.inl ⟨by rfl,fun w2 hw=>⟨run_eq_of (fun K Y=>by have I:=hw.c0;go_simp;exact Y),tP (by have I:=hw.c0;co_evs (exact .inl ⟨_,rfl,rfl,rfl,H.b,H.ub 0⟩))⟩⟩) hF ?_;try walk_nrm
 refine tk H (i:=6) (v:=.tuple #[.int .i64 x,.bool bo]) rfl (by decide+kernel) (by decide+kernel) (by decide+kernel) (.inl ⟨by rfl,fun w2 hw=>⟨run_eq_of (fun K Y=>by have I:=N w2 hw;go_simp;exact Y),tP (by intro ev V;have L:=mem_listed V;simp[go_sem]at L;have J:=M w2 hw ev L;exact .inr ⟨Mp,J.1,J.2.1,J.2.2,H.mp⟩)⟩⟩) hF ?_;try walk_nrm
 refine tk H (i:=7) (v:=.tuple #[.int .i64 x,.bool bo]) rfl (by decide+kernel) (by decide+kernel) (by decide+kernel) (.inl ⟨by rfl,fun w2 hw=>⟨run_eq_of (fun K Y=>by go_simp;exact Y),by co_quiet (terms (U:=U) (S:=S) (X:=X))⟩⟩) hF ?_;try walk_nrm
 refine tk H (i:=8) (v:=.int .i64 x) rfl (by decide+kernel) (by decide+kernel) (by decide+kernel) (.inl ⟨by rfl,fun w2 hw=>⟨run_eq_of (fun K Y=>by go_simp;exact Y),by co_quiet (terms (U:=U) (S:=S) (X:=X))⟩⟩) hF ?_;try walk_nrm
 refine tk H (i:=9) (v:=.bool bo) rfl (by decide+kernel) (by decide+kernel) (by decide+kernel) (.inl ⟨by rfl,fun w2 hw=>⟨run_eq_of (fun K Y=>by go_simp;exact Y),by co_quiet (terms (U:=U) (S:=S) (X:=X))⟩⟩) hF ?_;try walk_nrm
 refine tk H (i:=10) (v:=.int .i64 x) rfl (by decide+kernel) (by decide+kernel) (by decide+kernel) (.inl ⟨by rfl,fun w2 hw=>⟨run_eq_of (fun K Y=>by go_simp;exact Y),by co_quiet (terms (U:=U) (S:=S) (X:=X))⟩⟩) hF ?_;try walk_nrm
 refine tk H (i:=11) (v:=.bool bo) rfl (by decide+kernel) (by decide+kernel) (by decide+kernel) (.inl ⟨by rfl,fun w2 hw=>⟨run_eq_of (fun K Y=>by go_simp;exact Y),by co_quiet (terms (U:=U) (S:=S) (X:=X))⟩⟩) hF ?_;try walk_nrm
 refine anyCH_done (by first|kernel_rfl|decide+kernel) ?_ _;exact⟨rfl,D _ _ _ (AM Fd b5 v1 B C F _ _ _ _ _ _ _ _ _ _ _ _ _ _ _ _ _ _ _ _ _ _ _ _ _ _ _ _ _ _ _ _ _ _ _ _ _ _ _ _ _ _) rfl rfl hF,hF⟩
end
noncomputable def Mc:=match ao.body with
 |some (.seq _ (.seq _ (.seq _ (.block _ (.loop (.seq _ (.seq _ (.seq (.block _ (.seq _ (.seq _ (.seq _ (.cond _ Y _))))) _))))))))=>Y
 |_=>.skip
structure AG(Fd Mp b5:Nat)(e d:Int)(w:World):Prop where
 m:w.cell? ⟨Fd,2,none⟩=some (.map (some Mp))
 c0:w.cell? ⟨b5,0,none⟩=some (.int .i64 e)
 c1:w.cell? ⟨b5,1,none⟩=some (.int .i64 d)
section
variable{U:Nat->Nat->Prop}{S X:Nat->Prop}{Fd Mp b5:Nat}{e d:Int}{o:Option Obj}
theorem AG.rely(H:ug U S Fd Mp b5){w w1:World}(h:AG Fd Mp b5 e d w)(r:RU U S w w1):AG Fd Mp b5 e d w1:=
 ⟨qH H.fd H.u2 h.m r,qH H.b (H.ub 0) h.c0 r,qH H.b (H.ub 1) h.c1 r⟩
theorem vK(H:ug U S Fd Mp b5){A:Act->Prop}{P:Program}{md:Region.Mode}{ops:Array _}{Y:Oper}{v:Value}{li:Array _}{a:Act}(F:ops[i]?=some Y)
  (M:bG ops=true)(C:Region.free md ops li i=true)(hr:(Region.ready md ops li).contains i=true)
  (N:YieldsIfC P (DU U S X) fn ops (AG Fd Mp b5 e d) Y v a)(B:AG Fd Mp b5 e d w)(h:AnyCH P (RU U S) (DU U S X) fn md ops (fun ex a' w'=>ex=.normal/\A a'/\AF Fd Mp b5 e d o w') (AG Fd Mp b5 e d) fuel (li.setIfInBounds i true) (a.put Y.dst v) w):
  AnyCH P (RU U S) (DU U S X) fn md ops (fun ex a' w'=>ex=.normal/\A a'/\AF Fd Mp b5 e d o w') (AG Fd Mp b5 e d) (fuel+1) li a w:=
 anyCH_take terms (fun _ _ h r=>AG.rely H h r) (fun _ _ _ h r=>⟨h.1,h.2.1,AF.rely H h.2.2 r⟩) F M C hr N B h
theorem adb{P:Program}{R:World->World->Prop}{D:World->World->Array _->Prop}{ops:Array _}{K:Act->World->Prop}{a:Act}{o:Oper}(A:ops[i]?=some o)(hw:a_ o (yielded ops a.tmps)=true)
  (h:∀w1,R w w1->∀Z:Result _->Prop,(∀w',D w1 w' (listed P fn a o w1)->K (a.put o.dst undef) w'->Z (.ok .skip w'))->Z ((execOp a.eval o).run P w1)):OpC P R D fn ops i K a w:=by
 unfold OpC;rw[A];dsimp only;rw[if_pos hw];exact fun w1 hr=>h w1 hr _ fun w' Y H=>⟨Y,H⟩
theorem Ip{w1:World}{b g:Nat}(h:Env.Eff g w w1)(Y:b≠g):w1.cell? ⟨b,i,none⟩=w.cell? ⟨b,i,none⟩:=by
 simp[aI];rw[h.heap b Y]
theorem ade{w1:World}{es:Array _}(hX:X Mp)(A:S Mp)(h:Env.Eff Mp w w1)(H:∀ev∈es,ev.loc=.obj Mp/\ev.sync=false):DU U S X w w1 es:=
 ⟨⟨fun a _ K=>h.heap a fun e=>K (e▸hX),aY h.size.symm,fun a=>⟨.inl,fun y=>y.resolve_right fun z=>by have:=h.size;omega⟩,fun a=>⟨.inl,fun y=>y.resolve_right fun z=>by have:=h.size;omega⟩,fun ev Y=>.inr (.inl ⟨Mp,(H ev Y).1,(H ev Y).2,.inl ⟨A,fun _=>hX⟩⟩),h.tape,h.env,h.output⟩,fun ev Y a D=>by simp_all⟩
theorem ajf(H:ug U S Fd Mp b5)(hX:X Mp)(V:Fd≠Mp)(O:b5≠Mp)(dd:List Deferred)(v1 Y A B:Value)(u:Nat->Value)(o':Option Obj)
  (p:∀w,w.heap[Mp]?=o->∃v w',(ai 166 (.map (some Mp)) (.int .i64 e) (.int .i64 d)).run Tryz.prog w=.ok v w'/\Env.Eff Mp w w'/\w'.heap[Mp]?=o')
  (z:∀w,w.heap[Mp]?=o->∀ev∈aj Tryz.prog (ai 166 (.map (some Mp)) (.int .i64 e) (.int .i64 d)) w #[],ev.loc=.obj Mp/\ev.sync=false):
  ∃k,∀w,AF Fd Mp b5 e d o w->Mc.wpC Tryz.prog false (RU U S) (DU U S X) 140 k (fun ex a' w'=>ex=.normal/\(∃C,a'=⟨jT Fd b5 v1 Y A B C,dd⟩)/\AF Fd Mp b5 e d o' w') ⟨jT Fd b5 v1 Y A B u,dd⟩ w:=by
 have F:∀(t:Array Value) (C:Nat->Value),t=jT Fd b5 v1 Y A B C->(fun(a':Act)=>∃C,a'=⟨jT Fd b5 v1 Y A B C,dd⟩) ⟨t,dd⟩:=fun t C l=>⟨C,by rw[l]⟩;generalize L:(fun(a':Act)=>∃C,a'=⟨jT Fd b5 v1 Y A B C,dd⟩)=g at F;rw[show(fun(ex:Exit) (a':Act) (w':World)=>ex=.normal/\(∃C,a'=⟨jT Fd b5 v1 Y A B C,dd⟩)/\AF Fd Mp b5 e d o' w')=fun ex a' w'=>ex=.normal/\g a'/\AF Fd Mp b5 e d o' w' by rw[<-L]];clear L
 co_apply Exists.intro
 intro w I;have hF:AG Fd Mp b5 e d w:=⟨I.m,I.c0,I.c1⟩;have M:=I.o;clear I;unfold Mc ao;dsimp only;rw[show jT Fd b5 v1 Y A B u=_ from rfl];simp only[jT]
 co_apply wpC_region_held (terms (U:=U) (S:=S) (X:=X)) lets (S:=AG Fd Mp b5 e d) (by first|kernel_rfl|rfl)
 intro w1 G;replace hF:=AG.rely H (AG.rely H hF G) (Uj w1);replace M:=((G.kept Mp H.mp).eq H.um).trans M;replace M:({w1 with drawn:=w1.drawn+1}:World).heap[Mp]?=o:=M;generalize({w1 with drawn:=w1.drawn+1}:World)=x at *;clear G w1;refine vK H (i:=0) (v:=.pointer (some ⟨Fd,0,none⟩)) rfl (by decide+kernel) (by decide+kernel) (by decide+kernel) (.inl ⟨by rfl,fun w2 hw=>⟨run_eq_of (fun K D=>by go_simp;exact D),by co_quiet (terms (U:=U) (S:=S) (X:=X))⟩⟩) hF ?_;try walk_nrm
 refine vK H (i:=1) (v:=.pointer (some ⟨Fd,0,none⟩)) rfl (by decide+kernel) (by decide+kernel) (by decide+kernel) (.inl ⟨by rfl,fun w2 hw=>⟨run_eq_of (fun K D=>by go_simp;exact D),by co_quiet (terms (U:=U) (S:=S) (X:=X))⟩⟩) hF ?_;try walk_nrm
 refine vK H (i:=2) (v:=.pointer (some ⟨Fd,2,none⟩)) rfl (by decide+kernel) (by decide+kernel) (by decide+kernel) (.inl ⟨by rfl,fun w2 hw=>⟨run_eq_of (fun K D=>by go_simp;exact D),by co_quiet (terms (U:=U) (S:=S) (X:=X))⟩⟩) hF ?_;try walk_nrm
 refine vK H (i:=3) (v:=.map (some Mp)) rfl (by decide+kernel) (by decide+kernel) (by decide+kernel) (.inl ⟨by rfl,fun w2 hw=>⟨run_eq_of (fun K D=>by have P:=hw.m;go_simp;exact D),tP (by have P:=hw.m;co_evs (exact .inl ⟨_,rfl,rfl,rfl,H.fd,H.u2⟩))⟩⟩) hF ?_;try walk_nrm
 refine vK H (i:=4) (v:=.pointer (some ⟨b5,0,none⟩)) rfl (by decide+kernel) (by decide+kernel) (by decide+kernel) (.inl ⟨by rfl,fun w2 hw=>⟨run_eq_of (fun K D=>by go_simp;exact D),by co_quiet (terms (U:=U) (S:=S) (X:=X))⟩⟩) hF ?_;try walk_nrm
 refine vK H (i:=5) (v:=.int .i64 e) rfl (by decide+kernel) (by decide+kernel) (by decide+kernel) (.inl ⟨by rfl,fun w2 hw=>⟨run_eq_of (fun K D=>by have P:=hw.c0;go_simp;exact D),tP (by have P:=hw.c0;co_evs (exact .inl ⟨_,rfl,rfl,rfl,H.b,H.ub 0⟩))⟩⟩) hF ?_;try walk_nrm
 refine vK H (i:=6) (v:=.pointer (some ⟨b5,1,none⟩)) rfl (by decide+kernel) (by decide+kernel) (by decide+kernel) (.inl ⟨by rfl,fun w2 hw=>⟨run_eq_of (fun K D=>by go_simp;exact D),by co_quiet (terms (U:=U) (S:=S) (X:=X))⟩⟩) hF ?_;try walk_nrm
 refine vK H (i:=7) (v:=.int .i64 d) rfl (by decide+kernel) (by decide+kernel) (by decide+kernel) (.inl ⟨by rfl,fun w2 hw=>⟨run_eq_of (fun K D=>by have P:=hw.c1;go_simp;exact D),tP (by have P:=hw.c1;co_evs (exact .inl ⟨_,rfl,rfl,rfl,H.b,H.ub 1⟩))⟩⟩) hF ?_;try walk_nrm
 refine anyCH_all (rs:=[8]) (by decide+kernel) (by simp) fun i j=>?_;simp only[List.mem_singleton]at j;subst j;refine adb rfl (by rfl) fun w1 Q Z q=>?_;have N:w1.heap[Mp]?=o:=((Q.kept Mp H.mp).eq H.um).trans M;have J:=AG.rely H hF Q;obtain⟨v,w',f,R,E⟩:=p w1 N;have r:=z w1 N;have T:AG Fd Mp b5 e d w':=⟨(Ip R V).trans J.m,(Ip R O).trans J.c0,(Ip R O).trans J.c1⟩;have W:=q w' (ade hX H.mp R fun ev s=>by
  have c:=mem_listed s;simp[go_sem]at c;exact r ev c) ⟨T,anyCH_done (by first|kernel_rfl|decide+kernel) ⟨rfl,F _ _ (AM Fd b5 v1 Y A B _ _ _ _ _ _ _ _ _ _ _ _ _ _ _ _ _ _ _ _ _ _ _ _ _ _ _ _ _ _ _ _ _ _ _ _ _ _ _ _ _ _),T.m,T.c0,T.c1,E⟩ _⟩
 clear q
 go_simp
 exact W
end
noncomputable def BU:=match ao.body with
 |some (.seq _ (.seq _ (.seq _ (.block _ (.loop (.seq _ (.seq _ (.seq (.block _ (.seq _ (.seq _ (.seq Y _)))) _))))))))=>Y
 |_=>.skip
section
variable{U:Nat->Nat->Prop}{S X:Nat->Prop}{Fd Mp b5:Nat}{e d:Int}{o:Option Obj}
theorem ahn(H:ug U S Fd Mp b5)(dd:List Deferred)(v1 Y A B:Value)(u:Nat->Value)(M:u 7=.bool false):
  ∃k,∀w,AF Fd Mp b5 e d o w->BU.wpC Tryz.prog false (RU U S) (DU U S X) 140 k (fun ex a' w'=>ex=.normal/\(∃C,C 38=.bool true/\a'=⟨jT Fd b5 v1 Y A B C,dd⟩)/\AF Fd Mp b5 e d o w') ⟨jT Fd b5 v1 Y A B u,dd⟩ w:=by
 have K:∀(t:Array Value) (C:Nat->Value) (w':World),t=jT Fd b5 v1 Y A B C->C 38=.bool true->AF Fd Mp b5 e d o w'->(fun(ex:Exit) (a':Act) w'=>ex=.normal/\(∃C,C 38=.bool true/\a'=⟨jT Fd b5 v1 Y A B C,dd⟩)/\AF Fd Mp b5 e d o w') .normal ⟨t,dd⟩ w':=fun t C w' R I F=>⟨rfl,⟨C,I,by rw[R]⟩,F⟩
 co_apply Exists.intro
 intro w hF;simp only[jT,M];have D:∀{w w1:World},AF Fd Mp b5 e d o w->RU U S w w1->AF Fd Mp b5 e d o w1:=fun h r=>AF.rely H h r
 co_reg (terms (U:=U) (S:=S) (X:=X))
 co_op D hF (co_quiet (terms (U:=U) (S:=S) (X:=X)))
 co_op D hF (co_quiet (terms (U:=U) (S:=S) (X:=X)))
 co_op D hF (co_quiet (terms (U:=U) (S:=S) (X:=X)))
 co_apply opsC_unwanted (terms (U:=U) (S:=S) (X:=X)) rfl (by rfl)
 co_apply opsC_unwanted (terms (U:=U) (S:=S) (X:=X)) rfl (by rfl)
 co_apply opsC_unwanted (terms (U:=U) (S:=S) (X:=X)) rfl (by rfl)
 try walk_nrm
 co_apply opsC_unwanted (terms (U:=U) (S:=S) (X:=X)) rfl (by rfl)
 co_op D hF (co_quiet (terms (U:=U) (S:=S) (X:=X)))
 co_apply opsC_nil (terms (U:=U))
 exact K _ _ _ (AM Fd b5 v1 Y A B _ _ _ _ _ _ _ _ _ _ _ _ _ _ _ _ _ _ _ _ _ _ _ _ _ _ _ _ _ _ _ _ _ _ _ _ _ _ _ _ _ _) rfl hF
theorem afp(H:ug U S Fd Mp b5)(dd:List Deferred)(v1 Y A B:Value)(u:Nat->Value)(N:u 7=.bool true)(x:Int)(M:u 6=.int .i64 x):
  ∃k,∀w,AF Fd Mp b5 e d o w->BU.wpC Tryz.prog false (RU U S) (DU U S X) 140 k (fun ex a' w'=>ex=.normal/\(∃C,C 38=.bool (decide (d<x))/\a'=⟨jT Fd b5 v1 Y A B C,dd⟩)/\AF Fd Mp b5 e d o w') ⟨jT Fd b5 v1 Y A B u,dd⟩ w:=by
 have D:∀(t:Array Value) (C:Nat->Value) (w':World),t=jT Fd b5 v1 Y A B C->C 38=.bool (decide (d<x))->AF Fd Mp b5 e d o w'->(fun(ex:Exit) (a':Act) (w':World)=>ex=.normal/\(∃C,C 38=.bool (decide (d<x))/\a'=⟨jT Fd b5 v1 Y A B C,dd⟩)/\AF Fd Mp b5 e d o w') .normal ⟨t,dd⟩ w':=fun t C w' R I F=>⟨rfl,⟨C,I,by rw[R]⟩,F⟩
 co_apply Exists.intro
 intro w hF;unfold BU ao;dsimp only;simp only[jT,N,M];have K:∀{w w1:World},AF Fd Mp b5 e d o w->RU U S w w1->AF Fd Mp b5 e d o w1:=fun h r=>AF.rely H h r
 co_reg (terms (U:=U) (S:=S) (X:=X))
 co_op K hF (co_quiet (terms (U:=U) (S:=S) (X:=X)))
 co_op K hF (co_quiet (terms (U:=U) (S:=S) (X:=X)))
 co_op K hF (co_quiet (terms (U:=U) (S:=S) (X:=X)))
 co_op K hF (co_quiet (terms (U:=U) (S:=S) (X:=X)))
 co_opw K hF (have J:=hF.c1) (exact tP (by have J:=hF.c1;co_evs (exact .inl ⟨_,rfl,rfl,rfl,H.b,H.ub 1⟩)))
 co_op K hF (co_quiet (terms (U:=U) (S:=S) (X:=X)))
 co_op K hF (co_quiet (terms (U:=U) (S:=S) (X:=X)))
 co_op K hF (co_quiet (terms (U:=U) (S:=S) (X:=X)))
 co_apply opsC_nil (terms (U:=U) (S:=S) (X:=X))
 exact D _ _ _ (AM Fd b5 v1 Y A B _ _ _ _ _ _ _ _ _ _ _ _ _ _ _ _ _ _ _ _ _ _ _ _ _ _ _ _ _ _ _ _ _ _ _ _ _ _ _ _ _ _) rfl hF
end
section
variable{P:Program}{main:Bool}{U:Nat->Nat->Prop}{D:(Nat->Prop)->(Nat->Prop)->Goroutine->World->Prop}{S X:Nat->Prop}{b:Frame}{a:Act}{k:List Item}{cs:List Frame}{w:World}
theorem Tz.op{ops:Array _}{rest:List Nat}{o:Oper}(A:ops[i]?=some o)(hw:a_ o (yielded ops a.tmps)=true)(hk:b.kind≠.early)
  (h:∀w2,gK U S w w2->uponK o a (fun a' w'=>∃S1 X1,kh U S X w2 w' (listed P b.fn a o w2) S1 X1/\Tz P main U D S1 X1 (G (b.at a' (.inRegion ops rest::k)) cs) w') ((execOp a.eval o).run P w2)):
  Tz P main U D S X (G (b.at a (.inRegion ops (i::rest)::k)) cs) w:=by
 refine Tz.one rfl fun w2 hr=>?_;have Y:(stepG P main (G (b.at a (.inRegion ops (i::rest)::k)) cs) w2).goes fun K w' es=>∃S1 X1,kh U S X w2 w' es S1 X1/\Tz P main U D S1 X1 K w':=by
  refine goes_oper A hw hk ?_;have:=h w2 hr;revert this;cases(execOp _ o).run P w2 with
  |ok x w'=>cases x<;>exact id
  |halt _ _=>exact id
 revert Y;generalize stepG P _ _ w2=s;intro Y;cases s with
 |go K w' es=>
  obtain⟨S1,X1,H,R⟩:=Y;exact⟨K,w',es,S1,X1,rfl,H,R⟩
 |_=>exact Y.elim
theorem Tz.yb{ops:Array _}{rest:List Nat}{o:Oper}(Y:ops[i]?=some o)(hw:a_ o (yielded ops a.tmps)=true)(hk:b.kind≠.early)
  (h:∀w2,gK U S w w2->∀K,(∀a' w',(∃S1 X1,kh U S X w2 w' (listed P b.fn a o w2) S1 X1/\Tz P main U D S1 X1 (G (b.at a' (.inRegion ops rest::k)) cs) w')->K a' w')->uponK o a K ((execOp a.eval o).run P w2)):
  Tz P main U D S X (G (b.at a (.inRegion ops (i::rest)::k)) cs) w:=
 Tz.op Y hw hk fun w2 hr=>h w2 hr _ fun _ _ x=>x
theorem Tz.quiet{g:Goroutine}(Y:g.status=.running)(e:∀w,stepG P main g w=.go g1 w #[])(h:∀w2,gK U S w w2->Tz P main U D S X g1 w2):Tz P main U D S X g w:=
 Tz.one Y fun w2 hr=>⟨g1,w2,#[],S,X,e w2,jc _ _ _,h w2 hr⟩
theorem Tz.region{id:Nat}{ops:Array _}(h:∀w2,gK U S w w2->Tz P main U D S X (G (b.at a (.inRegion ops (List.range ops.size)::k)) cs) w2):Tz P main U D S X (G (b.at a (.code (.region id ops false)::k)) cs) w:=
 Tz.quiet rfl (fun w=>stepG_region) h
theorem Tz.HO{ops:Array _}(h:∀w2,gK U S w w2->Tz P main U D S X (G (b.at a k) cs) w2):Tz P main U D S X (G (b.at a (.inRegion ops []::k)) cs) w:=
 Tz.quiet rfl (fun w=>stepG_region_end) h
end
def lU(Fd:Nat)(v1 v5 Y H A:Value)(u:Nat->Value):=#[.pointer (some ⟨Fd,0,none⟩),v1,u 2,u 3,u 4,v5,u 6,u 7,u 8,u 9,u 10,u 11,u 12,u 13,u 14,Y,H,A,u 18,u 19,u 20,u 21,u 22,u 23,u 24,u 25,u 26,u 27,u 28,u 29,u 30,u 31,u 32,u 33,u 34,u 35,u 36,u 37,u 38,u 39,u 40,u 41,u 42,u 43,u 44,u 45,u 46,u 47]
noncomputable def Me:=match ao.body with
 |some (.seq _ (.seq _ (.seq _ (.block _ (.loop (.seq _ (.seq _ (.seq (.block _ (.seq Y _)) _))))))))=>Y
 |_=>.skip
section
variable{U:Nat->Nat->Prop}{D:(Nat->Prop)->(Nat->Prop)->Goroutine->World->Prop}{S X:Nat->Prop}{Fd g:Nat}{e d:Int}
theorem HU(o:Obj):kh U S X w (w.alloc o) #[] (fun a=>S a\/a=w.heap.size) (fun a=>X a\/a=w.heap.size):=by
 have H:(w.alloc o).heap.size=w.heap.size+1:=by simp
 refine⟨⟨fun a Y _=>heap_alloc_old w o Y,by omega,fun a=>?_,fun a=>?_,fun e K=>by simp_all,rfl,.refl _,rfl⟩,fun e K=>by simp_all⟩
 ·exact⟨fun h=>h.imp id fun y=>by omega,fun h=>h.imp id fun y=>by omega⟩
 ·exact⟨fun h=>h.imp id fun y=>by omega,fun h=>h.imp id fun y=>by omega⟩
theorem HX{w1:World}{b:Nat}{es:Array _}(B:S b)(hX:X b)(C:∀i,¬U b i)(h:Env.Eff b w w1)(A:∀ev∈es,∃a:Addr,ev.loc=.cell a/\ev.sync=false/\a.block=b):kh U S X w w1 es S X:=
 ⟨⟨fun a _ R=>h.heap a fun e=>R (e▸hX),aY h.size.symm,fun a=>⟨.inl,fun y=>y.resolve_right fun z=>by have:=h.size;omega⟩,fun a=>⟨.inl,fun y=>y.resolve_right fun z=>by have:=h.size;omega⟩,fun ev K=>by
  obtain⟨a,H,D,Y⟩:=A ev K;exact .inl ⟨a,H,D,.inl ⟨Y▸B,fun _=>Y▸hX⟩⟩,h.tape,h.env,h.output⟩,fun ev K a I=>by
  obtain⟨a',H,D,Y⟩:=A ev K;simp_all⟩
theorem sr{b:Nat}(v:Value):Env.Eff b w (w.setCell ⟨b,i,none⟩ v):=⟨fun a Y=>heap_setCell_other w _ a v Y,by simp,rfl,.refl _,rfl⟩
theorem CJ{w1:World}{b:Nat}(h:Env.Eff b w w1)(k:Env.Eff b w1 w2):Env.Eff b w w2:=⟨fun a Y=>(k.heap a Y).trans (h.heap a Y),k.size.trans h.size,k.tape.trans h.tape,k.env.trans h.env,k.output.trans h.output⟩
theorem ajg{b:Frame}{k:List Item}(hb:b.fn=140)(hk:b.kind≠.early)(dd:List Deferred)(v1 v5 Q:Value)(u:Nat->Value)(i n cap:Nat)(hi:i<n)(V:S g)
  (h:∀w2,gK U S w w2->w2.cell? ⟨g,i *2,none⟩=some (.int .i64 e)/\w2.cell? ⟨g,i *2+1,none⟩=some (.int .i64 d))(z:∀i,¬U g i)(p:∀b i,U b i->b<w.heap.size)(W:∀a,S a->a<w.heap.size)
  (cont:∀C w2 u',w.heap.size<=C->(∀i,¬U C i)->w2.cell? ⟨C,0,none⟩=some (.int .i64 e)->w2.cell? ⟨C,1,none⟩=some (.int .i64 d)->C<w2.heap.size->gK U S w w2->
   Tz Tryz.prog false U D (fun a=>S a\/a=C) (fun a=>X a\/a=C) (G (b.at ⟨jT Fd C v1 (.slice (some ⟨g,0,none⟩) n cap) Q (.int .i64 (i:Int)) u',dd⟩ k) cs) w2):
  Tz Tryz.prog false U D S X (G (b.at ⟨lU Fd v1 v5 (.slice (some ⟨g,0,none⟩) n cap) Q (.int .i64 (i:Int)) u,dd⟩ (.code Me::k)) cs) w:=by
 have b1:(i:Int)<(n:Int):=by omega
 have b2:(0:Int)<=(i:Int):=Int.natCast_nonneg _;unfold Me ao;dsimp only;simp only[lU];refine Tz.region fun w1 J=>?_;refine Tz.yb rfl (by rfl) hk fun w2 L K H=>?_
 go_simp
 refine H _ _ ⟨S,X,?_,?_⟩
 ·rw[listed_nil (by simp[go_sem, *])];exact jc _ _ _
 clear H K;try walk_nrm
 refine Tz.yb rfl (by rfl) hk fun w3 M K H=>?_;obtain⟨e0,e1⟩:=h w3 ((J.trans L).trans M)
 go_simp
 refine H _ _ ⟨S,X,tP fun ev l=>?_,?_⟩
 ·have Z:=mem_listed l;simp[go_sem, *]at Z;rcases Z with rfl|rfl
  ·exact .inl ⟨_,rfl,rfl,rfl,V,z _⟩
  ·exact .inl ⟨_,rfl,rfl,rfl,V,z _⟩
 clear H K;try walk_nrm
 refine Tz.yb rfl (by rfl) hk fun w4 E K H=>?_
 go_simp
 refine H _ _ ⟨_,_,(by rw[listed_nil (by simp[go_sem, *])];exact HU _),?_⟩;clear H K;try walk_nrm
 have B:∀i,¬U w4.heap.size i:=fun j t=>by
  have q:=p _ _ t;have v:=(((J.trans L).trans M).trans E).grow;omega
 have T:(w4.alloc (.cells #[.int .i64 0,.int .i64 0] 173)).heap[w4.heap.size]?=some (.cells #[.int .i64 0,.int .i64 0] 173):=heap_alloc_new w4 _;refine Tz.yb rfl (by rfl) hk fun F N K H=>?_;have R:=((N.kept _ (.inr rfl)).eq B).trans T;have f0:F.cell? ⟨w4.heap.size,0,none⟩=some (.int .i64 0):=by rw[cell_of_row _ _ 0 _ _ _ R];rfl
 have f1:F.cell? ⟨w4.heap.size,1,none⟩=some (.int .i64 0):=by rw[cell_of_row _ _ 1 _ _ _ R];rfl
 have z0:F.frozen? ⟨w4.heap.size,0,none⟩=false:=frozen_of_row _ _ 0 _ _ R;have z1:F.frozen? ⟨w4.heap.size,1,none⟩=false:=frozen_of_row _ _ 1 _ _ R
 go_simp
 try(unfold stored;go_simp)
 have I:Env.Eff w4.heap.size F ((F.setCell ⟨w4.heap.size,0,none⟩ (.int .i64 e)).setCell ⟨w4.heap.size,1,none⟩ (.int .i64 d)):=CJ (sr _) (sr _);have f:((F.setCell ⟨w4.heap.size,0,none⟩ (.int .i64 e)).setCell ⟨w4.heap.size,1,none⟩ (.int .i64 d)).heap[w4.heap.size]?=some (.cells #[.int .i64 e,.int .i64 d] 173):=by
  have q:=heap_setCell_same F w4.heap.size 0 _ _ (.int .i64 e) R;rw[heap_setCell_same _ w4.heap.size 1 _ _ (.int .i64 d) q];rfl
 refine H _ _ ⟨_,_,HX (.inr rfl) (.inr rfl) B I fun ev l=>?_,?_⟩
 ·have Z:=mem_listed l;simp[go_sem, *]at Z;rcases Z with rfl|rfl
  ·exact⟨_,rfl,rfl,rfl⟩
  ·exact⟨_,rfl,rfl,rfl⟩
 clear H K;try walk_nrm
 refine Tz.HO fun c O=>?_;have Y:=((J.trans L).trans M).trans E;have A:c.heap[w4.heap.size]?=some (.cells #[.int .i64 e,.int .i64 d] 173):=((O.kept _ (.inr rfl)).eq B).trans f;have o:w4.heap.size<c.heap.size:=aH fun y=>by rw[aL y]at A;cases A
 have r:∀a,S a->a≠w4.heap.size:=fun a P ee=>by
  have q:=W a P;have v:=Y.grow;omega
 have s:gK U S w c:=by
  refine Y.trans ⟨fun a P=>?_,by omega,?_⟩
  ·have x:=N.kept a (.inl P);have m:=O.kept a (.inl P);rw[heap_alloc_old w4 _ (by have q:=W a P;have v:=Y.grow;omega)]at x;rw[I.heap a (r a P)]at m;exact x.trans m
  ·exact O.env.trans (I.env.trans N.env)
 rw[AM Fd w4.heap.size v1 _ Q _ _ _ _ _ _ _ _ _ _ _ _ _ _ _ _ _ _ _ _ _ _ _ _ _ _ _ _ _ _ _ _ _ _ _ _ _ _ _ _ _ _ _];exact cont w4.heap.size c _ Y.grow B (by rw[cell_of_row _ _ 0 _ _ _ A];rfl) (by rw[cell_of_row _ _ 1 _ _ _ A];rfl) o s
end
theorem JD:ko PR (isAgg 214)=some false:=by kernel_rfl
theorem Bm:ko PR (isAgg 3)=some false:=by kernel_rfl
theorem zt:(PR.funcs[137]?).any (·.norace)=false:=by kernel_rfl
theorem u213:PR.underlying 213=some (.slice (PR.elem 213)):=by kernel_rfl
theorem z213:(PR.info? (PR.elem 213)).map (·.size)=some 1:=by kernel_rfl
theorem u25:PR.underlying 25=some (.slice (PR.elem 25)):=by kernel_rfl
theorem z25:(PR.info? (PR.elem 25)).map (·.size)=some 1:=by kernel_rfl
theorem y1:yes lD=.code .skip::lD.tail:=by kernel_rfl
theorem n1:no lD=.code (.exit 0)::lD.tail:=by kernel_rfl
theorem y2:yes lK=.code .skip::lK.tail:=by kernel_rfl
theorem n2:no lK=.code (.exit 2)::lK.tail:=by kernel_rfl
theorem y3:yes lL=.code .skip::lL.tail:=by kernel_rfl
theorem n3:no lL=.code (.exit 4)::lL.tail:=by kernel_rfl
theorem t1:lD=.code (.cond (.tmp 18) .skip (.exit 0))::lD.tail:=by kernel_rfl
theorem t2:lK=.code (.cond (.tmp 34) .skip (.exit 2))::lK.tail:=by kernel_rfl
theorem t3:lL=.code (.cond (.tmp 49) .skip (.exit 4))::lL.tail:=by kernel_rfl
theorem aho{b:Option _}{len Wg Gv:Nat}{J:Nat->Value}{c:Frame}{cs:List _}:gF PR 3 ((dF FH (ie (gN b len cap) n work Wg Gv) J).finish unit) (c::cs)=(c.finish unit,cs):=by kernel_rfl
theorem RH(P:Program):∀n m f l,gF P (n+m) f l=gF P m (gF P n f l).1 (gF P n f l).2
 |0,m,f,l=>by rw[aK];rfl
 |n+1,m,f,l=>by
  rw[show n+1+m=(n+m)+1 by omega];cases e:oF P f l with
  |some x=>
   obtain⟨f1,l1⟩:=x;have Y:gF P (n+m+1) f l=gF P (n+m) f1 l1:=by simp[gF,e]
   have K:gF P (n+1) f l=gF P n f1 l1:=by simp[gF,e]
   rw[Y,K];exact RH P n m f1 l1
  |none=>
   cases m with
   |zero=>rfl
   |succ m=>simp[gF,e]
theorem kJ.less{site:List _}{s s':Nat->Option _}(h:kJ fn n site s f)(Y:∀i v,s' i=some v->s i=some v):kJ fn n site s' f:=⟨h.fn,h.todo,h.defers,h.mode,h.kind,h.round,h.size,fun i v e=>h.slot i v (Y i v e)⟩
theorem kJ.kz{site ve:List _}{s:Nat->Option _}(h:kJ fn n site s f):kJ fn n ve s {f with todo:=ve}:=⟨h.fn,rfl,h.defers,h.mode,h.kind,h.round,h.size,h.slot⟩
theorem xj{a b:List _}{v:Value}(h:sA a i=some v):sA (a++b) i=some v:=by
 unfold sA at h⊢;rw[List.lookup_append,h];rfl
def oR(R:List Nat)(n:Nat):=(R.map (fun c=>Value.chan (some c))++List.replicate (n-R.length) (Value.chan none)).toArray
theorem abu(R:List Nat)(n:Nat)(h:R.length<=n):(oR R n).size=n:=by simp[oR];omega
theorem adf(R:List Nat)(n c:Nat)(h:R.length<n):(oR R n).setIfInBounds R.length (.chan (some c))=oR (R++[c]) n:=by
 unfold oR;rw[show n-R.length=(n-(R++[c]).length)+1 by simp;omega,List.replicate_succ];simp
theorem I0{c:Nat}(h:R[i]?=some c):(oR R n)[i]?=some (.chan (some c)):=by
 unfold oR;have Y:=(List.getElem?_eq_some_iff.1 h).1;rw[List.getElem?_toArray,List.getElem?_append_left (by simp_all),List.getElem?_map,h];rfl
section
variable(E:Env)(RO:Nat->Prop)(jO:World)(Gv n:Nat)
def sY(w:World):=gK E.U RO jO w
structure DW(R L:List Nat)(S X:Nat->Prop)(w:World):Prop where
 ro:∀a,RO a->S a
 mS:∀a,RO a->¬X a
 gs:S Gv
 gx:X Gv
 gv:w.heap[Gv]?=some (.cells (oR R n) 214)
 fx:sY E RO jO w
 low:∀a,S a->a<w.heap.size
 vL:∀c∈L,¬S c/\c<w.heap.size
end
section
variable{E:Env}{RO:Nat->Prop}{jO:World}{Gv n:Nat}{R L:List Nat}{S X:Nat->Prop}{w w2:World}
theorem DW.rely(H:∀i,¬E.U Gv i)(h:DW E RO jO Gv n R L S X w)(hr:gK E.U S w w2):DW E RO jO Gv n R L S X w2:=
 ⟨h.ro,h.mS,h.gs,h.gx,((hr.kept Gv h.gs).eq H).trans h.gv,gK.trans h.fx ⟨fun a Y=>hr.kept a (h.ro a Y),hr.grow,hr.env⟩,fun a Y=>ar (h.low a Y) hr.grow,fun c K=>⟨(h.vL c K).1,ar (h.vL c K).2 hr.grow⟩⟩
theorem DW.lI(B:Gv≠E.Wg)(h:DW E RO jO Gv n R L S X w){v wt ws v' ib ia:Nat}(H:E.WgAt w v wt ws)(Y:Env.Eff E.Wg w w2)(A:E.WgAt w2 v' ib ia):DW E RO jO Gv n R L S X w2:=
 ⟨h.ro,h.mS,h.gs,h.gx,(Y.heap _ B).trans h.gv,gK.trans h.fx (IU RO H A Y),fun a K=>by rw[Y.size];exact h.low a K,fun c D=>by rw[Y.size];exact h.vL c D⟩
end
theorem Ay{j:Nat}(h:j<1000000000):IntKind.i64.wrap (j+1)=((j+1:Nat)):=by
 rw[Go.IntWalk.i64_in _ (by omega)];omega
section
variable(E:Env)(RO:Nat->Prop)(jO:World)(work:Value)(c:Frame)(cs:List Frame)
def Uk(ch:Nat)(g:Goroutine)(w:World):=g=G (IV ch E.Wg work) []/\sY E RO jO w
def Ul(S X:Nat->Prop)(g:Goroutine)(w:World):=∃n f l,g=G f l/\gF PR n f l=(c.finish unit,cs)/\sY E RO jO w/\(∀a,RO a->S a)/\(∀a,RO a->¬X a)
end
section
variable{E:Env}{RO:Nat->Prop}{jO:World}{Gv:Nat}{J:iq}{b:Option Addr}{cap:Nat}{work:Value}{c:Frame}{cs:List Frame}
structure Dl(E:Env)(RO:Nat->Prop)(jO:World)(Gv:Nat)(J:iq)(b:Option Addr):Prop where
 n0:0<J.n
 n8:J.n<=8
 len:J.gE.length<1000000
 nu:∀i,¬E.U Gv i
 gw:Gv≠E.Wg
 gro:¬RO Gv
 Mf:RO E.Wg
 FY:E.pA jO
 aky:∀a i,E.U a i->a<jO.heap.size
 num:∀i x:Nat,J.gE[i]?=some x->∃Nb o,b=some ⟨Nb,o,none⟩/\RO Nb/\¬E.U Nb (o+i)/\∀w,sY E RO jO w->w.cell? ⟨Nb,o+i,none⟩=some (.int .i64 (x:Int))
abbrev ri(E:Env)(J:iq)(b:Option _)(cap:Nat)(work:Value)(Gv:Nat):=ie (gN b J.gE.length cap) J.n work E.Wg Gv
abbrev TD(E:Env)(RO:Nat->Prop)(jO:World)(J:iq)(work:Value)(c:Frame)(cs:List _)(k:Nat)(d:jo)(S X:Nat->Prop)(f:Frame)(w:World):=
 E.Tree PR true (E.lA PR J (Uk E RO jO work) (Ul E RO jO c cs) k d) S X (G f (c::cs)) w
theorem ajh(D:Dl E RO jO Gv J b)(hL:L.length=J.n):∀(m i:Nat),i+m=J.n->∀(k:Nat) (S X:Nat->Prop) (f:Frame) (w:World),kJ 137 55 lL (sA (pQ (ri E J b cap work Gv) Gv J.n i)) f->f.tmps.getD 49 undef=.bool (decide (i<J.n))->DW E RO jO Gv J.n L L S X w->
  TD E RO jO J work c cs k (J.closes L i) S X f w:=by
 intro m;induction m with
 |zero=>
  intro i hi k S X f w H K hw;have Z:J.closes L i=.kd:=by unfold bc;rw[if_neg (by omega)]
  rw[Z];rw[decide_eq_false (by omega)]at K;refine Tz.one rfl fun w1 F=>⟨_,w1,#[],S,X,wZ H.mode H.round (by rw[H.kind];nofun) (H.todo.trans t3) K,jc _ _ _,?_⟩;have U:kJ 137 55 (no lL) (sA (pQ (ri E J b cap work Gv) Gv J.n i)) {f with todo:=.code (.exit 4)::lL.tail}:=by
   have:=H.kz (ve:=.code (.exit 4)::lL.tail);rw[<-n3]at this;rw[<-n3];exact this
  change E.Tree PR true _ S X (G {f with todo:=.code (.exit 4)::lL.tail} (c::cs)) w1;rw[U.eq];generalize(fun i=>({f with todo:=.code (.exit 4)::lL.tail}:Frame).tmps.getD i undef)=R;refine ah 60 fun w2 M=>?_;change E.Tree PR true _ S X (G (L1 b J.gE.length cap J.n i E.Wg Gv work R (c::cs)).1 (L1 b J.gE.length cap J.n i E.Wg Gv work R (c::cs)).2) w2;have Y:=jV (rc2 (b:=b) (len:=J.gE.length) (cap:=cap) (n:=J.n) (i:=i) (Wg:=E.Wg) (Gv:=Gv) (work:=work) (J:=R) (l:=c::cs)) rfl;rw[Y.callers,Y.fr.eq];refine Tz.pure 1 fun w3 N=>?_;rw[aiV];have x:=((hw.rely D.nu F).rely D.nu M).rely D.nu N;refine Env.afb ⟨fun h hr=>h.rely D.nu hr,fun h=>Env.pA.rely D.FY D.Mf h.fx,fun h h1 he h2=>h.lI D.gw h1 he h2⟩ (fun q f' l' w' hF hp=>?_) k x;exact⟨q+3,f',l',rfl,by rw[RH,hp];exact aho,hF.fx,hF.ro,hF.mS⟩
 |succ m ih=>
  intro i hi k S X f w H K hw;have P:i<J.n:=by omega
  have Z:J.closes L i=.close L i:=by unfold bc;rw[if_pos (by omega)]
  rw[Z];rw[decide_eq_true P]at K;obtain⟨ch,A⟩:∃ch,L[i]?=some ch:=⟨L[i],aP (by omega)⟩;refine Tz.one rfl fun w1 F=>⟨_,w1,#[],S,X,wZ H.mode H.round (by rw[H.kind];nofun) (H.todo.trans t3) K,jc _ _ _,?_⟩;have U:kJ 137 55 (yes lL) (sA (pQ (ri E J b cap work Gv) Gv J.n i)) {f with todo:=.code .skip::lL.tail}:=by
   have:=H.kz (ve:=.code .skip::lL.tail);rw[<-y3]at this;rw[<-y3];exact this
  change E.Tree PR true _ S X (G {f with todo:=.code .skip::lL.tail} (c::cs)) w1;rw[U.eq];generalize(fun i=>({f with todo:=.code .skip::lL.tail}:Frame).tmps.getD i undef)=R;refine ah 60 fun w2 M=>?_;change E.Tree PR true _ S X (G (FM b J.gE.length cap J.n i E.Wg Gv work R (c::cs)).1 (FM b J.gE.length cap J.n i E.Wg Gv work R (c::cs)).2) w2;have Y:=jV (ri5 (b:=b) (len:=J.gE.length) (cap:=cap) (n:=J.n) (i:=i) (Wg:=E.Wg) (Gv:=Gv) (work:=work) (J:=R) (l:=c::cs)) rfl;rw[Y.callers,Y.fr.eq];generalize(fun j=>(FM b J.gE.length cap J.n i E.Wg Gv work R (c::cs)).1.tmps.getD j undef)=T;clear Y;have u:=(hw.rely D.nu F).rely D.nu M;refine Tz.one rfl fun w3 N=>⟨_,w3,#[],S,X,AL (i:=i) ai2 (B:=Gv) (o:=0) (n:=J.n) (cap:=J.n) rfl rfl P u213 z213,jc _ _ _,?_⟩;rw[aK];refine ah 60 fun w4 z=>?_;change E.Tree PR true _ S X (G (FN b J.gE.length cap J.n i E.Wg Gv work T (c::cs)).1 (FN b J.gE.length cap J.n i E.Wg Gv work T (c::cs)).2) w4;have Y:=jV (rl5 (b:=b) (len:=J.gE.length) (cap:=cap) (n:=J.n) (i:=i) (Wg:=E.Wg) (Gv:=Gv) (work:=work) (J:=T) (l:=c::cs)) rfl;have nC:=Y.load;rw[Y.callers];rw[Y.fr.eq]at nC⊢;generalize(fun j=>(FN b J.gE.length cap J.n i E.Wg Gv work T (c::cs)).1.tmps.getD j undef)=V at nC⊢;clear Y;have y:=(u.rely D.nu N).rely D.nu z;refine Tz.one rfl fun w5 d=>?_;have O:=y.rely D.nu d;have I:w5.cell? ⟨Gv,i,none⟩=some (.chan (some ch)):=by
   simp only[aI,O.gv];exact I0 A
  refine⟨_,w5,_,S,X,sa nC JD I zt,uP O.gs (D.nu _),?_⟩;refine ah 60 fun w6 g=>?_;change E.Tree PR true _ S X (G (FO b J.gE.length cap J.n i E.Wg Gv ch work V (c::cs)).1 (FO b J.gE.length cap J.n i E.Wg Gv ch work V (c::cs)).2) w6;have Y:=jV (rcl (b:=b) (len:=J.gE.length) (cap:=cap) (n:=J.n) (i:=i) (Wg:=E.Wg) (Gv:=Gv) (ch:=ch) (work:=work) (J:=V) (l:=c::cs)) rfl;rw[Y.callers,Y.fr.eq];generalize(fun j=>(FO b J.gE.length cap J.n i E.Wg Gv ch work V (c::cs)).1.tmps.getD j undef)=e;clear Y;have t:=O.rely D.nu g;refine .stop ?_;cases k with
  |zero=>trivial
  |succ k=>
   refine⟨rfl,rfl,ac2 Tp,ch,A,fun w7 s p gC=>⟨_,rfl,afc Tp rfl gC zt,?_⟩⟩;have Q:=t.rely D.nu p;have W:¬S ch:=(Q.vL ch (bC A)).1;have a:DW E RO jO Gv J.n L L S X (w7.setChan ch 0 #[] true s s false):=Q.rely D.nu (vW W);refine ah 60 fun w9 r=>?_;change E.Tree PR true _ S X (G _ (Uf b J.gE.length cap J.n i E.Wg Gv ch work e (c::cs)).2) w9;have Y:=jV (akq (b:=b) (len:=J.gE.length) (cap:=cap) (n:=J.n) (i:=i) (Wg:=E.Wg) (Gv:=Gv) (ch:=ch) (work:=work) (J:=e) (l:=c::cs)) rfl;have Lt:=D.n8;have C:=Y.fr;rw[Ay (by omega)]at C;rw[Y.callers];refine ih (i+1) (by omega) k S X _ w9 (C.less fun q v hv=>?_) ((C.slot 49 _ rfl).trans ?_) (a.rely D.nu r)
   ·exact xj (b:=[(49,.bool _)]) hv
   ·simp only[aW]
theorem aji(D:Dl E RO jO Gv J b)(hL:L.length=J.n):∀(m i:Nat),i+m=J.gE.length->∀(k:Nat) (S X:Nat->Prop) (f:Frame) (w:World),kJ 137 55 lK (sA (pP (ri E J b cap work Gv) (gN b J.gE.length cap) J.gE.length i)) f->f.tmps.getD 34 undef=.bool (decide (i<J.gE.length))->DW E RO jO Gv J.n L L S X w->
  TD E RO jO J work c cs k (J.sends L i) S X f w:=by
 intro m;induction m with
 |zero=>
  intro i hi k S X f w R H hw;have u:J.sends L i=J.closes L 0:=by
   unfold iq.sends bc;rw[if_neg (by omega),if_pos (by rw[hL];exact D.n0)]
  rw[u];rw[decide_eq_false (by omega)]at H;refine Tz.one rfl fun w1 N=>⟨_,w1,#[],S,X,wZ R.mode R.round (by rw[R.kind];nofun) (R.todo.trans t2) H,jc _ _ _,?_⟩;have F:kJ 137 55 (no lK) (sA (pP (ri E J b cap work Gv) (gN b J.gE.length cap) J.gE.length i)) {f with todo:=.code (.exit 2)::lK.tail}:=by
   have:=R.kz (ve:=.code (.exit 2)::lK.tail);rw[<-n2]at this;rw[<-n2];exact this
  change E.Tree PR true _ S X (G {f with todo:=.code (.exit 2)::lK.tail} (c::cs)) w1;rw[F.eq];generalize(fun i=>({f with todo:=.code (.exit 2)::lK.tail}:Frame).tmps.getD i undef)=A;refine ah 60 fun w2 O=>?_;change E.Tree PR true _ S X (G _ (UX b J.gE.length cap J.n i E.Wg Gv work A (c::cs)).2) w2;have Y:=jV (rk3 (b:=b) (len:=J.gE.length) (cap:=cap) (n:=J.n) (i:=i) (Wg:=E.Wg) (Gv:=Gv) (work:=work) (J:=A) (l:=c::cs)) rfl;rw[Y.callers];refine ajh (cap:=cap) D hL J.n 0 (by omega) k S X _ w2 (Y.fr.less fun q v hv=>?_) ((Y.fr.slot 49 _ rfl).trans ?_) ((hw.rely D.nu N).rely D.nu O)
  ·exact xj hv
  ·congr 1;simp
 |succ m ih=>
  intro i hi k S X f w R H hw;have I:i<J.gE.length:=by omega
  have u:J.sends L i=.send L i:=by unfold iq.sends;rw[if_pos I]
  rw[u];rw[decide_eq_true I]at H;obtain⟨x,hx⟩:∃x,J.gE[i]?=some x:=⟨J.gE[i],aP I⟩;obtain⟨Nb,o,hb,t,a,y⟩:=D.num i x hx;have V:i%J.n<J.n:=Nat.mod_lt _ D.n0;obtain⟨ch,C⟩:∃ch,L[i%J.n]?=some ch:=⟨L[i%J.n],aP (by omega)⟩;have hlen:=D.len;refine Tz.one rfl fun w1 N=>⟨_,w1,#[],S,X,wZ R.mode R.round (by rw[R.kind];nofun) (R.todo.trans t2) H,jc _ _ _,?_⟩;have F:kJ 137 55 (yes lK) (sA (pP (ri E J b cap work Gv) (gN b J.gE.length cap) J.gE.length i)) {f with todo:=.code .skip::lK.tail}:=by
   have:=R.kz (ve:=.code .skip::lK.tail);rw[<-y2]at this;rw[<-y2];exact this
  change E.Tree PR true _ S X (G {f with todo:=.code .skip::lK.tail} (c::cs)) w1;rw[F.eq];generalize(fun i=>({f with todo:=.code .skip::lK.tail}:Frame).tmps.getD i undef)=A;refine ah 60 fun w2 O=>?_;change E.Tree PR true _ S X (G (FI b J.gE.length cap J.n i E.Wg Gv work A (c::cs)).1 (FI b J.gE.length cap J.n i E.Wg Gv work A (c::cs)).2) w2;have Y:=jV (ri3 (b:=b) (len:=J.gE.length) (cap:=cap) (n:=J.n) (i:=i) (Wg:=E.Wg) (Gv:=Gv) (work:=work) (J:=A) (l:=c::cs)) rfl;rw[Y.callers,Y.fr.eq];generalize(fun j=>(FI b J.gE.length cap J.n i E.Wg Gv work A (c::cs)).1.tmps.getD j undef)=T;clear Y;have rY:=(hw.rely D.nu N).rely D.nu O;have W:(dF BL (BM (ri E J b cap work Gv) (gN b J.gE.length cap) J.gE.length i) T).eval (.tmp 31)=.slice (some ⟨Nb,o,none⟩) J.gE.length cap:=by
   show gN b J.gE.length cap=_
   rw[hb];rfl
  refine Tz.one rfl fun w3 h=>⟨_,w3,#[],S,X,AL (i:=i) ai0 W rfl I u25 z25,jc _ _ _,?_⟩;refine ah 60 fun w4 e=>?_;change E.Tree PR true _ S X (G (FJ b J.gE.length cap J.n i E.Wg Gv ⟨Nb,o+i,none⟩ work T (c::cs)).1 (FJ b J.gE.length cap J.n i E.Wg Gv ⟨Nb,o+i,none⟩ work T (c::cs)).2) w4;have Y:=jV (rl3 (b:=b) (len:=J.gE.length) (cap:=cap) (n:=J.n) (i:=i) (Wg:=E.Wg) (Gv:=Gv) (p:=⟨Nb,o+i,none⟩) (work:=work) (J:=T) (l:=c::cs)) rfl;have nC:=Y.load;rw[Y.callers];rw[Y.fr.eq]at nC⊢;generalize(fun j=>(FJ b J.gE.length cap J.n i E.Wg Gv ⟨Nb,o+i,none⟩ work T (c::cs)).1.tmps.getD j undef)=z at nC⊢;clear Y;have uw:=(rY.rely D.nu h).rely D.nu e;refine Tz.one rfl fun w5 zS=>?_;have P:=uw.rely D.nu zS;refine⟨_,w5,_,S,X,sa nC Bm (y w5 P.fx) zt,uP (P.ro _ t) a,?_⟩;refine ah 60 fun w6 Mg=>?_;change E.Tree PR true _ S X (G (RR b J.gE.length cap J.n i x E.Wg Gv ⟨Nb,o+i,none⟩ work z (c::cs)).1 (RR b J.gE.length cap J.n i x E.Wg Gv ⟨Nb,o+i,none⟩ work z (c::cs)).2) w6;have Y:=jV (rr (b:=b) (len:=J.gE.length) (cap:=cap) (n:=J.n) (i:=i) (x:=x) (Wg:=E.Wg) (Gv:=Gv) (p:=⟨Nb,o+i,none⟩) (work:=work) (J:=z) (l:=c::cs)) rfl;rw[Y.callers,Y.fr.eq];generalize(fun j=>(RR b J.gE.length cap J.n i x E.Wg Gv ⟨Nb,o+i,none⟩ work z (c::cs)).1.tmps.getD j undef)=d;clear Y;have hw6:=P.rely D.nu Mg;refine Tz.one rfl fun w7 zT=>⟨_,w7,#[],S,X,ac1 (i:=i) (n:=J.n) akr rfl rfl D.n0 (by omega),jc _ _ _,?_⟩;generalize hm:i%J.n=K at C V⊢;refine ah 60 fun w8 zU=>?_;change E.Tree PR true _ S X (G (FK b J.gE.length cap J.n i x K E.Wg Gv work d (c::cs)).1 (FK b J.gE.length cap J.n i x K E.Wg Gv work d (c::cs)).2) w8;have Y:=jV (ri4 (b:=b) (len:=J.gE.length) (cap:=cap) (n:=J.n) (i:=i) (x:=x) (m:=K) (Wg:=E.Wg) (Gv:=Gv) (work:=work) (J:=d) (l:=c::cs)) rfl;rw[Y.callers,Y.fr.eq];generalize(fun j=>(FK b J.gE.length cap J.n i x K E.Wg Gv work d (c::cs)).1.tmps.getD j undef)=g;clear Y;have Va:=(hw6.rely D.nu zT).rely D.nu zU;refine Tz.one rfl fun w9 BR=>⟨_,w9,#[],S,X,AL (i:=K) ai1 (B:=Gv) (o:=0) (n:=J.n) (cap:=J.n) rfl rfl V u213 z213,jc _ _ _,?_⟩;rw[aK];refine ah 60 fun wA FZ=>?_;change E.Tree PR true _ S X (G (FL b J.gE.length cap J.n i x K E.Wg Gv work g (c::cs)).1 (FL b J.gE.length cap J.n i x K E.Wg Gv work g (c::cs)).2) wA;have Y:=jV (rl4 (b:=b) (len:=J.gE.length) (cap:=cap) (n:=J.n) (i:=i) (x:=x) (m:=K) (Wg:=E.Wg) (Gv:=Gv) (work:=work) (J:=g) (l:=c::cs)) rfl;have nC:=Y.load;rw[Y.callers];rw[Y.fr.eq]at nC⊢;generalize(fun j=>(FL b J.gE.length cap J.n i x K E.Wg Gv work g (c::cs)).1.tmps.getD j undef)=r at nC⊢;clear Y;have hwA:=(Va.rely D.nu BR).rely D.nu FZ;refine Tz.one rfl fun wB F0=>?_;have Q:=hwA.rely D.nu F0;have U:wB.cell? ⟨Gv,K,none⟩=some (.chan (some ch)):=by
   simp only[aI,Q.gv];exact I0 C
  refine⟨_,wB,_,S,X,sa nC JD U zt,uP Q.gs (D.nu _),?_⟩;refine ah 60 fun wC hrC=>?_;change E.Tree PR true _ S X (G (RS b J.gE.length cap J.n i x K E.Wg Gv ch work r (c::cs)).1 (RS b J.gE.length cap J.n i x K E.Wg Gv ch work r (c::cs)).2) wC;have Y:=jV (rs (b:=b) (len:=J.gE.length) (cap:=cap) (n:=J.n) (i:=i) (x:=x) (m:=K) (Wg:=E.Wg) (Gv:=Gv) (ch:=ch) (work:=work) (J:=r) (l:=c::cs)) rfl;rw[Y.callers,Y.fr.eq];generalize(fun j=>(RS b J.gE.length cap J.n i x K E.Wg Gv ch work r (c::cs)).1.tmps.getD j undef)=J7;clear Y;have Mh:=Q.rely D.nu hrC;refine .stop ?_;cases k with
  |zero=>trivial
  |succ k=>
   refine⟨rfl,rfl,ch,x,by rw[hm];exact C,hx,undef,fun wD s Z gC=>Po ako,fun wD Z=>?_⟩;refine ah 60 fun wE zO=>?_;change E.Tree PR true _ S X (G _ (Ue b J.gE.length cap J.n i x E.Wg Gv ch work J7 (c::cs)).2) wE;have Y:=jV (akp (b:=b) (len:=J.gE.length) (cap:=cap) (n:=J.n) (i:=i) (x:=x) (Wg:=E.Wg) (Gv:=Gv) (ch:=ch) (work:=work) (J:=J7) (l:=c::cs)) rfl;have M:=Y.fr;rw[Ay (by omega)]at M;rw[Y.callers];refine ih (i+1) (by omega) k S X _ wE (M.less fun q v hv=>?_) ((M.slot 34 _ rfl).trans ?_) ((Mh.rely D.nu Z).rely D.nu zO)
   ·exact xj (b:=[(34,.bool _)]) hv
   ·simp only[aW]
end
section
variable{E:Env}{RO:Nat->Prop}{jO:World}{Gv:Nat}{J:iq}{b:Option Addr}{cap:Nat}{work:Value}{c:Frame}{cs:List Frame}
theorem ry{B:Nat}{row:Array _}{v:Value}(h:w.heap[B]?=some (.cells row t)):(w.setCell ⟨B,i,none⟩ v).heap[B]?=some (.cells (row.setIfInBounds i v) t):=Env.Aj h
theorem ajj(D:Dl E RO jO Gv J b):∀(m:Nat) (L:List Nat),L.length+m=J.n->∀(k:Nat) (S X:Nat->Prop) (f:Frame) (w:World),kJ 137 55 lD (sA (oH (ri E J b cap work Gv) J.n L.length)) f->f.tmps.getD 18 undef=.bool (decide (L.length<J.n))->DW E RO jO Gv J.n L L S X w->
  TD E RO jO J work c cs k (J.ky L) S X f w:=by
 intro m;induction m with
 |zero=>
  intro L hL k S X f w M F hw;have e0:J.ky L=J.sends L 0:=by unfold iq.ky;rw[if_neg (by omega)]
  rw[e0];rw[show decide (L.length<J.n)=false from decide_eq_false (by omega)]at F;refine Tz.one rfl fun w1 W=>⟨_,w1,#[],S,X,wZ M.mode M.round (by rw[M.kind];nofun) (M.todo.trans t1) F,jc _ _ _,?_⟩;have T:kJ 137 55 (no lD) (sA (oH (ri E J b cap work Gv) J.n L.length)) {f with todo:=.code (.exit 0)::lD.tail}:=by
   have:=M.kz (ve:=.code (.exit 0)::lD.tail);rw[<-n1]at this;rw[<-n1];exact this
  change E.Tree PR true _ S X (G {f with todo:=.code (.exit 0)::lD.tail} (c::cs)) w1;rw[T.eq];generalize(fun i=>({f with todo:=.code (.exit 0)::lD.tail}:Frame).tmps.getD i undef)=N;refine ah 60 fun w2 d=>?_;change E.Tree PR true _ S X (G _ (UW b J.gE.length cap J.n L.length E.Wg Gv work N (c::cs)).2) w2;have Y:=jV (rk2 (b:=b) (len:=J.gE.length) (cap:=cap) (n:=J.n) (i:=L.length) (Wg:=E.Wg) (Gv:=Gv) (work:=work) (J:=N) (l:=c::cs)) rfl;rw[Y.callers];refine aji (cap:=cap) D (by omega) J.gE.length 0 (by omega) k S X _ w2 (Y.fr.less fun q v hv=>?_) ((Y.fr.slot 34 _ rfl).trans ?_) ((hw.rely D.nu W).rely D.nu d)
  ·exact xj hv
  ·congr 1;simp
 |succ m ih=>
  intro L hL k S X f w M F hw;have Lt:=D.n8;have C:L.length<J.n:=by omega
  have e0:J.ky L=.st L:=by unfold iq.ky;rw[if_pos C]
  rw[e0];rw[show decide (L.length<J.n)=true from decide_eq_true C]at F;refine Tz.one rfl fun w1 W=>⟨_,w1,#[],S,X,wZ M.mode M.round (by rw[M.kind];nofun) (M.todo.trans t1) F,jc _ _ _,?_⟩;have T:kJ 137 55 (yes lD) (sA (oH (ri E J b cap work Gv) J.n L.length)) {f with todo:=.code .skip::lD.tail}:=by
   have:=M.kz (ve:=.code .skip::lD.tail);rw[<-y1]at this;rw[<-y1];exact this
  change E.Tree PR true _ S X (G {f with todo:=.code .skip::lD.tail} (c::cs)) w1;rw[T.eq];generalize(fun i=>({f with todo:=.code .skip::lD.tail}:Frame).tmps.getD i undef)=N;refine ah 60 fun w2 d=>?_;change E.Tree PR true _ S X (G (Fs b J.gE.length cap J.n L.length E.Wg Gv work N (c::cs)).1 (Fs b J.gE.length cap J.n L.length E.Wg Gv work N (c::cs)).2) w2;have Y:=jV (rmk (b:=b) (len:=J.gE.length) (cap:=cap) (n:=J.n) (j:=L.length) (Wg:=E.Wg) (Gv:=Gv) (work:=work) (J:=N) (l:=c::cs)) rfl;rw[Y.callers,Y.fr.eq];generalize(fun j=>(Fs b J.gE.length cap J.n L.length E.Wg Gv work N (c::cs)).1.tmps.getD j undef)=J2;clear Y;have rY:=(hw.rely D.nu W).rely D.nu d;refine Tz.one rfl fun w3 vJ=>⟨_,_,#[],_,_,step_mk aiU rfl,HU _,?_⟩;have K:=rY.rely D.nu vJ;generalize u:w3.heap.size=ch;have hcu:∀i,¬E.U ch i:=fun i hu=>by
   have h1:=D.aky _ _ hu;have h2:=K.fx.grow;omega
  have s:¬S ch:=fun y=>by have:=K.low _ y;omega
  have P:¬RO ch:=fun y=>s (K.ro _ y);have O:ch≠Gv:=fun y=>s (y▸K.gs);have Vb:(w3.alloc (.chan 0 #[] false 0 0 false)).heap.size=ch+1:=by simp[u]
  have uw:DW E RO jO Gv J.n L L (fun a=>S a\/a=ch) (fun a=>X a\/a=ch) (w3.alloc (.chan 0 #[] false 0 0 false)):=by
   refine⟨fun a R=>.inl (K.ro a R),fun a R y=>y.elim (K.mS a R) fun e=>P (e▸R),.inl K.gs,.inl K.gx,?_,?_,fun a R=>?_,fun a R=>?_⟩
   ·rw[heap_alloc_old w3 _ (K.low _ K.gs)];exact K.gv
   ·refine gK.trans K.fx ⟨fun a R=>.inl (heap_alloc_old w3 _ (K.low _ (K.ro a R))),by simp,.refl _⟩
   ·rw[Vb];rcases R with y|y
    ·have:=K.low a y;omega
    ·omega
   ·have h1:=K.vL a R;refine⟨fun y=>y.elim h1.1 fun e=>?_,by rw[Vb];omega⟩;omega
  have ho4:ot (w3.alloc (.chan 0 #[] false 0 0 false)) ch 0:=by
   unfold ot;rw[<-u];exact heap_alloc_new w3 _
  refine ah 60 fun w5 x=>?_;change E.Tree PR true _ _ _ (G (Fy b J.gE.length cap J.n L.length E.Wg Gv ch work J2 (c::cs)).1 (Fy b J.gE.length cap J.n L.length E.Wg Gv ch work J2 (c::cs)).2) w5;have Y:=jV (ri1 (b:=b) (len:=J.gE.length) (cap:=cap) (n:=J.n) (j:=L.length) (Wg:=E.Wg) (Gv:=Gv) (ch:=ch) (work:=work) (J:=J2) (l:=c::cs)) rfl;rw[Y.callers,Y.fr.eq];generalize(fun j=>(Fy b J.gE.length cap J.n L.length E.Wg Gv ch work J2 (c::cs)).1.tmps.getD j undef)=J3;clear Y;have zV:=uw.rely D.nu x;have opn:∀{w w2:World},ot w ch 0->gK E.U (fun a=>S a\/a=ch) w w2->ot w2 ch 0:=fun h hr=>((hr.kept ch (.inr rfl)).eq hcu).trans h;have ho5:=opn ho4 x;refine Tz.one rfl fun w6 t=>⟨_,w6,#[],_,_,AL (i:=L.length) aiX (B:=Gv) (o:=0) (n:=J.n) (cap:=J.n) rfl rfl C u213 z213,jc _ _ _,?_⟩;rw[aK];refine ah 60 fun w7 zT=>?_;change E.Tree PR true _ _ _ (G (Fz b J.gE.length cap J.n L.length E.Wg Gv ch work J3 (c::cs)).1 (Fz b J.gE.length cap J.n L.length E.Wg Gv ch work J3 (c::cs)).2) w7;have Y:=jV (vu (b:=b) (len:=J.gE.length) (cap:=cap) (n:=J.n) (j:=L.length) (Wg:=E.Wg) (Gv:=Gv) (ch:=ch) (work:=work) (J:=J3) (l:=c::cs)) rfl;rw[Y.callers,Y.fr.eq];generalize(fun j=>(Fz b J.gE.length cap J.n L.length E.Wg Gv ch work J3 (c::cs)).1.tmps.getD j undef)=r;clear Y;have hw7:=(zV.rely D.nu t).rely D.nu zT;have ho7:=opn (opn ho5 t) zT;refine Tz.one rfl fun w8 zU=>?_;have I:=hw7.rely D.nu zU;have ho8:=opn ho7 zU;have gq:=IK (main:=true) (cs:=c::cs) (w:=w8) (f:=dF BH (BI (ri E J b cap work Gv) Gv J.n L.length ch) r) aiY (B:=Gv) (i:=L.length) (v:=some ch) rfl rfl I.gv (by rw[abu _ _ (by omega)];exact C) zt;have H:Env.Eff Gv w8 (w8.setCell ⟨Gv,L.length,none⟩ (.chan (some ch))):=sr _;refine⟨_,_,_,_,_,gq,HX I.gs I.gx D.nu H (fun ev Bv=>by simp_all),?_⟩;have hw9:DW E RO jO Gv J.n (L++[ch]) L (fun a=>S a\/a=ch) (fun a=>X a\/a=ch) (w8.setCell ⟨Gv,L.length,none⟩ (.chan (some ch))):=by
   refine⟨I.ro,I.mS,I.gs,I.gx,?_,gK.trans I.fx ⟨fun a R=>.inl (H.heap a fun e=>D.gro (e▸R)),aY H.size.symm,H.env⟩,fun a R=>by rw[H.size];exact I.low a R,fun a R=>by rw[H.size];exact I.vL a R⟩;rw[ry I.gv,adf _ _ _ C]
  have ho9:=(H.heap ch O).trans ho8;clear gq H;refine ah 60 fun wA FZ=>?_;change E.Tree PR true _ _ _ (G (FA b J.gE.length cap J.n L.length E.Wg Gv ch work r (c::cs)).1 (FA b J.gE.length cap J.n L.length E.Wg Gv ch work r (c::cs)).2) wA;have Y:=jV (rc1 (b:=b) (len:=J.gE.length) (cap:=cap) (n:=J.n) (j:=L.length) (Wg:=E.Wg) (Gv:=Gv) (ch:=ch) (work:=work) (J:=r) (l:=c::cs)) rfl;rw[Y.callers,Y.fr.eq];generalize(fun j=>(FA b J.gE.length cap J.n L.length E.Wg Gv ch work r (c::cs)).1.tmps.getD j undef)=J5;clear Y;refine Tz.pure 1 fun wB F0=>?_;rw[aiW];have hwB:=(hw9.rely D.nu FZ).rely D.nu F0;have hoB:=opn (opn ho9 FZ) F0;refine Env.afa (Fx:=fun w=>DW E RO jO Gv J.n (L++[ch]) L (fun a=>S a\/a=ch) (fun a=>X a\/a=ch) w/\ot w ch 0) (ch:=ch) ⟨fun h hr=>⟨h.1.rely D.nu hr,opn h.2 hr⟩,fun h=>Env.pA.rely D.FY D.Mf h.1.fx,fun h h1 he h2=>⟨h.1.lI D.gw h1 he h2,(he.heap ch fun e=>P (e▸D.Mf)).trans h.2⟩⟩ (by omega) (fun k wC hC=>?_) k ⟨hwB,hoB⟩;obtain⟨Mh,hoC⟩:=hC;refine ah 60 fun wD Vd=>?_;change E.Tree PR true _ _ _ (G (FC b J.gE.length cap J.n L.length E.Wg Gv work J5 (c::cs)).1 (FC b J.gE.length cap J.n L.length E.Wg Gv work J5 (c::cs)).2) wD;have Y:=jV (ri2 (b:=b) (len:=J.gE.length) (cap:=cap) (n:=J.n) (j:=L.length) (Wg:=E.Wg) (Gv:=Gv) (work:=work) (J:=J5) (l:=c::cs)) rfl;rw[Y.callers,Y.fr.eq];generalize(fun j=>(FC b J.gE.length cap J.n L.length E.Wg Gv work J5 (c::cs)).1.tmps.getD j undef)=J6;clear Y;have hwD:=Mh.rely D.nu Vd;have hoD:=opn hoC Vd;refine Tz.one rfl fun wE zO=>⟨_,wE,#[],_,_,AL (i:=L.length) aiZ (B:=Gv) (o:=0) (n:=J.n) (cap:=J.n) rfl rfl C u213 z213,jc _ _ _,?_⟩;rw[aK];refine ah 60 fun wF Fi=>?_;change E.Tree PR true _ _ _ (G (FD b J.gE.length cap J.n L.length E.Wg Gv work J6 (c::cs)).1 (FD b J.gE.length cap J.n L.length E.Wg Gv work J6 (c::cs)).2) wF;have Y:=jV (rl2 (b:=b) (len:=J.gE.length) (cap:=cap) (n:=J.n) (j:=L.length) (Wg:=E.Wg) (Gv:=Gv) (work:=work) (J:=J6) (l:=c::cs)) rfl;have nC:=Y.load;rw[Y.callers];rw[Y.fr.eq]at nC⊢;generalize(fun j=>(FD b J.gE.length cap J.n L.length E.Wg Gv work J6 (c::cs)).1.tmps.getD j undef)=J7 at nC⊢;clear Y;have hwF:=(hwD.rely D.nu zO).rely D.nu Fi;have hoF:=opn (opn hoD zO) Fi;refine Tz.one rfl fun wG Fj=>?_;have p:=hwF.rely D.nu Fj;have hoG:=opn hoF Fj;have Q:wG.cell? ⟨Gv,L.length,none⟩=some (.chan (some ch)):=by
   simp only[aI,p.gv];exact I0 (by simp)
  refine⟨_,wG,_,_,_,sa nC JD Q zt,uP p.gs (D.nu _),?_⟩;refine ah 60 fun wH Fl=>?_;change E.Tree PR true _ _ _ (G (RG b J.gE.length cap J.n L.length E.Wg Gv ch work J7 (c::cs)).1 (RG b J.gE.length cap J.n L.length E.Wg Gv ch work J7 (c::cs)).2) wH;have Y:=jV (z87 (b:=b) (len:=J.gE.length) (cap:=cap) (n:=J.n) (j:=L.length) (Wg:=E.Wg) (Gv:=Gv) (ch:=ch) (work:=work) (J:=J7) (l:=c::cs)) rfl;rw[Y.callers,Y.fr.eq];generalize(fun j=>(RG b J.gE.length cap J.n L.length E.Wg Gv ch work J7 (c::cs)).1.tmps.getD j undef)=J8;clear Y;have Ve:=p.rely D.nu Fl;have hoH:=opn hoG Fl;refine .stop ?_;cases k with
  |zero=>trivial
  |succ k=>
   refine⟨rfl,rfl,.inr rfl,.inr rfl,fun wI g=>⟨opn hoH g,_,_,ZI akm,⟨rfl,(Ve.rely D.nu g).fx⟩,?_⟩⟩;have A:=Ve.rely D.nu g;have hwJ:DW E RO jO Gv J.n (L++[ch]) (L++[ch]) (fun a=>(S a\/a=ch)/\a≠ch) (fun a=>(X a\/a=ch)/\a≠ch) wI:=by
    refine⟨fun a R=>⟨A.ro a R,fun e=>P (e▸R)⟩,fun a R y=>A.mS a R y.1,⟨A.gs,fun e=>O e.symm⟩,⟨A.gx,fun e=>O e.symm⟩,A.gv,A.fx,fun a R=>A.low a R.1,fun a R=>?_⟩;have hm:a∈L\/a=ch:=by simpa using R
    rcases hm with y|rfl
    ·exact⟨fun z=>(A.vL a y).1 z.1,(A.vL a y).2⟩
    ·exact⟨fun z=>z.2 rfl,A.low _ (.inr rfl)⟩
   refine ah 60 fun wK hrK=>?_;change E.Tree PR true _ _ _ (G _ (Ud b J.gE.length cap J.n L.length E.Wg Gv ch work J8 (c::cs)).2) wK;have Y:=jV (akn (b:=b) (len:=J.gE.length) (cap:=cap) (n:=J.n) (j:=L.length) (Wg:=E.Wg) (Gv:=Gv) (ch:=ch) (work:=work) (J:=J8) (l:=c::cs)) rfl;have V:=Y.fr;rw[Ay (by omega)]at V;rw[Y.callers];have Z:(L++[ch]).length=L.length+1:=by simp
   refine ih (L++[ch]) (by rw[Z];omega) k _ _ _ wK (V.less fun q v hv=>?_) ((V.slot 18 _ rfl).trans ?_) (hwJ.rely D.nu hrK)
   ·rw[Z]at hv;exact xj (b:=[(18,.bool _)]) hv
   ·rw[Z];simp only[aW]
end
noncomputable def uy:=match ao.body with
 |some (.seq _ (.seq _ (.seq _ (.block _ (.loop c)))))=>c
 |_=>.skip
noncomputable def Vf:=match ao.body with
 |some (.seq _ (.seq _ (.seq _ (.block _ (.loop (.seq r3 _))))))=>r3
 |_=>.skip
noncomputable def Mi:=match ao.body with
 |some (.seq _ (.seq _ (.seq _ (.block _ (.loop (.seq _ (.seq _ (.seq _ Y))))))))=>Y
 |_=>.skip
theorem api:Kc=[.code (.block 0 (.loop uy))]:=by kernel_rfl
theorem apl:uy=.seq Vf (.seq (.cond (.tmp 18) .skip (.exit 0)) (.seq (.block 1 (.seq Me (.seq Mb (.seq BU (.cond (.tmp 38) Mc .skip))))) Mi)):=by kernel_rfl
section
variable{U:Nat->Nat->Prop}{D:(Nat->Prop)->(Nat->Prop)->Goroutine->World->Prop}{S X:Nat->Prop}{Fd:Nat}
theorem Kd{b:Frame}{k:List _}{cs:List _}(hk:b.kind≠.early)(dd:List _)(v1 v5 Y:Value)(u:Nat->Value)(i n:Nat)
  (cont:∀w2 B,gK U S w w2->B 18=.bool (decide (i<n))->Tz Tryz.prog false U D S X (G (b.at ⟨lU Fd v1 v5 Y (.int .i64 n) (.int .i64 i) B,dd⟩ k) cs) w2):
  Tz Tryz.prog false U D S X (G (b.at ⟨lU Fd v1 v5 Y (.int .i64 n) (.int .i64 i) u,dd⟩ (.code Vf::k)) cs) w:=by
 have key:∀w2,gK U S w w2->Tz _ _ U D S X (G (b.at ⟨lU Fd v1 v5 Y _ _ (fun j=>if j=18 then .bool _ else u j),dd⟩ k) cs) w2:=fun w2 hr=>cont w2 _ hr (if_pos rfl);simp[lU];refine Tz.region fun w1 R=>?_;refine Tz.yb rfl (by rfl) hk fun w2 I K C=>?_;have H:=C _ w2 ⟨S,X,(by rw[listed_nil (by simp[go_sem])];exact jc _ _ _),Tz.HO fun w3 A=>key w3 ((R.trans I).trans A)⟩
 go_simp
 exact H
theorem ajk{b:Frame}{k:List Item}(hk:b.kind≠.early)(dd:List Deferred)(v1 v5 Y H:Value)(u:Nat->Value)(i:Nat)(M:i<=100000)
  (cont:∀w2 F,gK U S w w2->Tz Tryz.prog false U D S X (G (b.at ⟨lU Fd v1 v5 Y H (.int .i64 ((i+1:Nat):Int)) F,dd⟩ k) cs) w2):
  Tz Tryz.prog false U D S X (G (b.at ⟨lU Fd v1 v5 Y H (.int .i64 i) u,dd⟩ (.code Mi::k)) cs) w:=by
 have key:=fun w2 hr=>by
  have h:=cont w2 (fun j=>if j=47 then .int .i64 (i+1)else u j) hr;exact h
 have J:IntKind.i64.wrap _=i+1:=Go.IntWalk.i64_in _ (by omega);simp only[lU];refine Tz.region fun w1 I=>?_;refine Tz.yb rfl (by rfl) hk fun w2 A K R=>?_
 go_simp
 refine R _ _ ⟨S,X,?_,?_⟩
 ·rw[listed_nil (by simp[go_sem])];exact jc _ _ _
 refine Tz.yb rfl (by rfl) hk fun w3 B K R=>?_;refine R _ _ ⟨S,X,?_,?_⟩
 ·rw[listed_nil (by simp[go_sem])];exact jc _ _ _
 exact Tz.HO fun w4 C=>key w4 (((I.trans A).trans B).trans C)
end
theorem apn(Fd b5:Nat)(v1 Y H A:Value)(u:Nat->Value):jT Fd b5 v1 Y H A u=lU Fd v1 (.pointer (some ⟨b5,0,none⟩)) Y H A u:=rfl
section
variable{U:Nat->Nat->Prop}{D:(Nat->Prop)->(Nat->Prop)->Goroutine->World->Prop}{S X:Nat->Prop}{Fd g Mp:Nat}{e d x:Int}{bo:Bool}{o o':Option Obj}
theorem afq{b:Frame}(hb:b.fn=140)(hk:b.kind≠.early)(dd:List Deferred)(v1 v5:Value)(u:Nat->Value)(i n cap:Nat)(hi:i<n)(hn:n<=1000)
  (F:S g)(Q:S Fd)(C:S Mp)(hXM:X Mp)(p:¬U Fd 2)(M:∀i,¬U g i)(Vg:∀i,¬U Mp i)(hFM:Fd≠Mp)(FX:∀b i,U b i->b<w.heap.size)(V:∀a,S a->a<w.heap.size)
  (Vh:w.cell? ⟨g,i *2,none⟩=some (.int .i64 e))(Vi:w.cell? ⟨g,i *2+1,none⟩=some (.int .i64 d))(hm:w.cell? ⟨Fd,2,none⟩=some (.map (some Mp)))(ho:w.heap[Mp]?=o)
  (Mj:∀w,w.heap[Mp]?=o->(ak 166 (.map (some Mp)) (.int .i64 e) true).run Tryz.prog w=.ok (.tuple #[.int .i64 x,.bool bo]) w)
  (W:∀w,w.heap[Mp]?=o->∀ev∈aj Tryz.prog (ak 166 (.map (some Mp)) (.int .i64 e) true) w #[],ev.loc=.obj Mp/\ev.sync=false/\ev.write=false)
  (hup:∀w,w.heap[Mp]?=o->∃v w',(ai 166 (.map (some Mp)) (.int .i64 e) (.int .i64 d)).run Tryz.prog w=.ok v w'/\Env.Eff Mp w w'/\w'.heap[Mp]?=o')
  (akz:∀w,w.heap[Mp]?=o->∀ev∈aj Tryz.prog (ai 166 (.map (some Mp)) (.int .i64 e) (.int .i64 d)) w #[],ev.loc=.obj Mp/\ev.sync=false)
  (cont:∀Y w2 u',w.heap.size<=Y->(∀i,¬U Y i)->AF Fd Mp Y e d (if(!bo||decide (d<x))=true then o' else o) w2->
   Tz Tryz.prog false U D (fun a=>S a\/a=Y) (fun a=>X a\/a=Y) (G (b.at ⟨lU Fd v1 (.pointer (some ⟨Y,0,none⟩)) (.slice (some ⟨g,0,none⟩) n cap) (.int .i64 (n:Int)) (.int .i64 ((i+1:Nat):Int)) u',dd⟩ kk) cs) w2):
  Tz Tryz.prog false U D S X (G (b.at ⟨lU Fd v1 v5 (.slice (some ⟨g,0,none⟩) n cap) (.int .i64 (n:Int)) (.int .i64 (i:Int)) u,dd⟩ (.code uy::kk)) cs) w:=by
 refine Tz.quiet rfl (fun _=>stepG_seq) fun w1 x_=>?_;refine Kd hk dd v1 v5 _ u i n fun w2 u2 qz Vj=>?_;refine Tz.quiet rfl (fun _=>stepG_seq) fun w3 vJ=>?_;have Bv:Act.eval ⟨lU Fd v1 v5 (.slice (some ⟨g,0,none⟩) n cap) (.int .i64 n) (.int .i64 i) u2,dd⟩ (.tmp 18)=.bool true:=by
  show u2 18=_
  simp_all
 refine Tz.quiet rfl (fun _=>stepG_cond Bv) fun w4 hr4=>?_;refine Tz.quiet rfl (fun _=>stepG_skip) fun w5 zS=>?_;refine Tz.quiet rfl (fun _=>stepG_seq) fun w6 Mg=>?_;refine Tz.quiet rfl (fun _=>stepG_block) fun w7 zT=>?_;refine Tz.quiet rfl (fun _=>stepG_seq) fun w8 zU=>?_;have R:=((((((x_.trans qz).trans vJ).trans hr4).trans zS).trans Mg).trans zT).trans zU;refine ajg hb hk dd v1 v5 _ u2 i n cap hi F (fun wz hr=>⟨qH F (M _) Vh (R.trans hr),qH F (M _) Vi (R.trans hr)⟩) M (fun b i hu=>ar (FX b i hu) R.grow) (fun a ha=>ar (V a ha) R.grow) fun Y w9 u3 hnb B d0 d1 vy BR=>?_;have f:=R.trans BR;have KS:=aD R.grow hnb;have H:ug U (fun a=>S a\/a=Y) Fd Mp Y:=⟨.inl Q,.inl C,.inr rfl,p,B,Vg⟩;have hnM:Y≠Mp:=fun ee=>by have:=V Mp C;omega
 have m:AF Fd Mp Y e d o w9:=⟨qH Q p hm f,d0,d1,((f.kept Mp C).eq Vg).trans ho⟩;refine Tz.quiet rfl (fun _=>stepG_seq) fun w10 T=>?_;have J:=AF.rely H m T;obtain⟨k5,h5⟩:=aje H dd v1 _ _ _ u3 x bo (fun w h=>Mj w h.o) (fun w h=>W w h.o);refine Tz.wpC (h5 w10 J) hb hk fun a' w0 w11 P Z=>?_;obtain⟨⟨u5,h6,h7,rfl⟩,y⟩:=P;have L:=AF.rely H y Z;refine Tz.quiet rfl (fun _=>stepG_seq) fun w12 E=>?_;have N:=AF.rely H L E;have six:∃k6,∀w,AF Fd Mp Y e d o w->BU.wpC Tryz.prog false (RU U fun a=>S a\/a=Y) (DU U (fun a=>S a\/a=Y) fun a=>X a\/a=Y) 140 k6 (fun ex a' w'=>ex=.normal/\(∃u',u' 38=.bool (!bo||decide (d<x))/\a'=⟨jT Fd Y v1 (.slice (some ⟨g,0,none⟩) n cap) (.int .i64 n) (.int .i64 i) u',dd⟩)/\AF Fd Mp Y e d o w') ⟨jT Fd Y v1 (.slice (some ⟨g,0,none⟩) n cap) (.int .i64 n) (.int .i64 i) u5,dd⟩ w:=by
  cases bo with
  |false=>exact ahn H dd _ _ _ _ u5 h7
  |true=>exact afp H dd _ _ _ _ u5 h7 x h6
 obtain⟨k6,r⟩:=six;refine Tz.wpC (r w12 N) hb hk fun a' w0 w13 P q=>?_;obtain⟨⟨u6,l,rfl⟩,t⟩:=P;have O:=AF.rely H t q;refine Tz.quiet rfl (fun _=>stepG_cond (by exact l)) fun w14 j=>?_;have A:=AF.rely H O j;have last:∀K u7,AF Fd Mp Y e d (if(!bo||decide (d<x))=true then o' else o) K->Tz Tryz.prog false U D (fun a=>S a\/a=Y) (fun a=>X a\/a=Y) (G (b.at ⟨jT Fd Y v1 (.slice (some ⟨g,0,none⟩) n cap) (.int .i64 n) (.int .i64 i) u7,dd⟩ (.inBlock 1:: .code Mi::kk)) cs) K:=by
  intro K u7 hA;refine Tz.quiet rfl (fun _=>stepG_inBlock) fun w16 z=>?_;exact ajk hk dd _ _ _ _ u7 i (by omega) fun w17 u8 c=>cont Y w17 u8 KS B (AF.rely H (AF.rely H hA z) c)
 cases ht:(!bo||decide (d<x))with
 |true=>
  rw[ht]at last;obtain⟨k7,s⟩:=ajf (X:=fun a=>X a\/a=Y) H (.inl hXM) hFM hnM dd v1 _ _ _ u6 o' hup akz;refine Tz.wpC (s w14 A) hb hk fun a' w0 K P I=>?_;obtain⟨⟨u7,rfl⟩,k⟩:=P;exact last K u7 (AF.rely H k I)
 |false=>
  rw[ht]at last;refine Tz.quiet rfl (fun _=>stepG_skip) fun K I=>?_;exact last K u6 (AF.rely H A I)
end
structure LJ(U:Nat->Nat->Prop)(Fd Mp g:Nat)(og:Option Obj)(S X:Nat->Prop)(w:World):Prop where
 sl:∀a,S a->a<w.heap.size
 ul:∀b i,U b i->b<w.heap.size
 og:w.heap[g]?=og
 sg:S g
 xg:¬X g
 sf:S Fd
 sm:S Mp
 xm:X Mp
theorem LJ.step{U:Nat->Nat->Prop}{Fd Mp g:Nat}{og:Option Obj}{S X S1 X1:Nat->Prop}{w w2 w1:World}{es:Array _}(H:∀i,¬U g i)(h:LJ U Fd Mp g og S X w)(hr:gK U S w w2)(hd:Did S X w2 w1 es S1 X1):LJ U Fd Mp g og S1 X1 w1:=by
 have Y:=ar (h.sl g h.sg) hr.grow;refine⟨fun a K=>?_,fun b i D=>ar (h.ul b i D) (aD hr.grow hd.grow),?_,(hd.held g).2 (.inl h.sg),fun y=>?_,(hd.held Fd).2 (.inl h.sf),(hd.held Mp).2 (.inl h.sm),(hd.may Mp).2 (.inl h.xm)⟩
 ·rcases(hd.held a).1 K with y|y
  ·exact ar (h.sl a y) (aD hr.grow hd.grow)
  ·omega
 ·rw[hd.kept g Y h.xg,(hr.kept g h.sg).eq H,h.og]
 ·rcases(hd.may g).1 y with z|z
  ·exact h.xg z
  ·omega
section
variable{U:Nat->Nat->Prop}{D:(Nat->Prop)->(Nat->Prop)->Goroutine->World->Prop}{Fd g Mp n cap:Nat}{cur:Array Value}{E I:Nat->Int}
theorem SH{b:Frame}(h:b.fn=140)(hk:b.kind≠.early)(dd:List Deferred)(v1:Value)(hn:n<=1000)(N:¬U Fd 2)(H:∀i,¬U g i)(A:∀i,¬U Mp i)(O:Fd≠Mp)
  (M:Nat->Option Obj->Prop)(C:∀i,i<n->cur[i *2]?=some (.int .i64 (E i))/\cur[i *2+1]?=some (.int .i64 (I i)))
  (B:(Nat->Prop)->(Nat->Prop)->World->Prop)(Q:∀S X w w2 w1 es S1 X1,B S X w->gK U S w w2->Did S X w2 w1 es S1 X1->B S1 X1 w1)(F:∀S X w w2,B S X w->gK U S w w2->B S X w2)
  (V:∀i o,i<n->M i o->∃x bo o',(∀w,w.heap[Mp]?=o->(ak 166 (.map (some Mp)) (.int .i64 (E i)) true).run Tryz.prog w=.ok (.tuple #[.int .i64 x,.bool bo]) w)/\
   (∀w,w.heap[Mp]?=o->∀ev∈aj Tryz.prog (ak 166 (.map (some Mp)) (.int .i64 (E i)) true) w #[],ev.loc=.obj Mp/\ev.sync=false/\ev.write=false)/\
   (∀w,w.heap[Mp]?=o->∃v w',(ai 166 (.map (some Mp)) (.int .i64 (E i)) (.int .i64 (I i))).run Tryz.prog w=.ok v w'/\Env.Eff Mp w w'/\w'.heap[Mp]?=o')/\
   (∀w,w.heap[Mp]?=o->∀ev∈aj Tryz.prog (ai 166 (.map (some Mp)) (.int .i64 (E i)) (.int .i64 (I i))) w #[],ev.loc=.obj Mp/\ev.sync=false)/\
   M (i+1) (if(!bo||decide (I i<x))=true then o' else o))
  (fin:∀S X v5 u w,LJ U Fd Mp g (some (.cells cur 173)) S X w->B S X w->M n (w.heap[Mp]?)->Tz Tryz.prog false U D S X (G (b.at ⟨lU Fd v1 v5 (.slice (some ⟨g,0,none⟩) n cap) (.int .i64 (n:Int)) (.int .i64 (n:Int)) u,dd⟩ k0) cs) w):
  ∀(m i:Nat),i+m=n->∀S X v5 u w,LJ U Fd Mp g (some (.cells cur 173)) S X w->B S X w->w.cell? ⟨Fd,2,none⟩=some (.map (some Mp))->M i (w.heap[Mp]?)->
   Tz Tryz.prog false U D S X (G (b.at ⟨lU Fd v1 v5 (.slice (some ⟨g,0,none⟩) n cap) (.int .i64 (n:Int)) (.int .i64 i) u,dd⟩ (.code uy:: .inLoop uy:: .inBlock 0::k0)) cs) w
 |0,i,k,S,X,v5,u,w,K,l,t,W=>by
  obtain rfl:i=n:=by omega
  refine Tz.quiet rfl (fun _=>stepG_seq) fun w1 z=>?_;refine Kd hk dd v1 v5 _ u i i fun w2 u2 Y Z=>?_;refine Tz.quiet rfl (fun _=>stepG_seq) fun w3 c=>?_;have q:Act.eval ⟨lU Fd v1 v5 (.slice (some ⟨g,0,none⟩) i cap) (.int .i64 i) (.int .i64 i) u2,dd⟩ (.tmp 18)=.bool false:=by
   show u2 18=_
   rw[Z,decide_eq_false (Nat.lt_irrefl i)]
  refine Tz.quiet rfl (fun _=>stepG_cond q) fun w4 d=>?_;refine Tz.quiet rfl (fun _=>stepG_exit rfl) fun a f=>?_;have J:=(((z.trans Y).trans c).trans d).trans f;refine fin S X v5 u2 a ?_ (F _ _ _ _ l J) (by rw[(J.kept Mp K.sm).eq A];exact W);exact LJ.step H K J (jc (U:=U) S X a).toDid
 |m+1,i,k,S,X,v5,u,w,K,l,t,W=>by
  obtain⟨x,bo,o',l1,l2,e,l4,l5⟩:=V i _ (by omega) W;obtain⟨c0,c1⟩:=C i (by omega);have hr:=afq (D:=fun S' X' p w'=>∃L P,w.heap.size<=L/\(∀i,¬U L i)/\AF Fd Mp L _ _ _ w'/\p=G (b.at ⟨lU Fd v1 (.pointer (some ⟨L,0,none⟩)) _ _ _ P,dd⟩ (.inLoop uy:: .inBlock 0::k0)) cs)
   h hk dd v1 v5 u i n cap (by omega) hn K.sg K.sf K.sm K.xm N H A O K.ul K.sl (by rw[cell_of_row _ _ _ _ _ _ K.og];exact c0) (by rw[cell_of_row _ _ _ _ _ _ K.og];exact c1) t rfl l1 l2 e l4 (fun L w2 P r s T=>.stop ⟨L,P,r,s,T,rfl⟩)
  refine(Tz.inv (fun S X w=>LJ U Fd Mp g _ S X w/\B S X w) (fun S X w w2 w1 es S1 X1 y hr hd=>⟨y.1.step H hr hd,Q _ _ _ _ _ _ _ _ y.2 hr hd⟩) hr ⟨K,l⟩).bind fun S' X' p w' hd=>?_;obtain⟨⟨L,P,r,s,T,rfl⟩,R,j⟩:=hd;refine Tz.quiet rfl (fun _=>stepG_inLoop) fun w2 Y=>?_;refine SH h hk dd v1 hn N H A O M C B Q F V fin m _ (by omega) S' X' _ P w2 (LJ.step H R Y (jc (U:=U) S' X' w2).toDid) (F _ _ _ _ j Y) (qH R.sf N T.m Y) ?_;rw[(Y.kept Mp R.sm).eq A,T.o];exact l5
end
section
variable{P:Program}{main:Bool}{U:Nat->Nat->Prop}{D I:(Nat->Prop)->(Nat->Prop)->Goroutine->World->Prop}{S X SF XF:Nat->Prop}{g:Goroutine}{w:World}
theorem Tz.more(h:Tz P main U D S X g w)(k:∀S X g w,D S X g w->Tz P main U I (fun a=>S a\/SF a) (fun a=>X a\/XF a) g w):Tz P main U I (fun a=>S a\/SF a) (fun a=>X a\/XF a) g w:=by
 induction h with
 |stop hd=>exact k _ _ _ _ hd
 |@step S X g w R ex _ B=>
  refine Tz.one R fun w2 hr=>?_;have Y:gK U S w w2:=⟨fun a K=>hr.kept a (.inl K),hr.grow,hr.env⟩;obtain⟨g1,w1,es,S1,X1,e,hd⟩:=ex w2 Y;refine⟨g1,w1,es,fun a=>S1 a\/SF a,fun a=>X1 a\/XF a,e,⟨⟨fun a K A=>hd.kept a K fun y=>A (.inl y),hd.grow,fun a=>?_,fun a=>?_,fun e H=>Qm (hd.ev e H),hd.tape,hd.env,hd.output⟩,hd.KW⟩,B w2 g1 w1 es S1 X1 Y e hd⟩
  ·rw[hd.held];constructor
   ·rintro((y|y)|y)
    ·simp_all
    ·exact .inr y
    ·simp_all
   ·rintro((y|y)|y)
    ·simp_all
    ·exact .inr y
    ·omega
  ·rw[hd.may];constructor
   ·rintro((y|y)|y)
    ·simp_all
    ·exact .inr y
    ·exact .inl (.inr y)
   ·rintro((y|y)|y)
    ·simp_all
    ·exact .inr y
    ·omega
end
section
variable{U:Nat->Nat->Prop}{D:(Nat->Prop)->(Nat->Prop)->Goroutine->World->Prop}{S X:Nat->Prop}{Fd:Nat}
theorem ahp{b:Frame}{k0:List _}{cs:List _}(hk:b.kind≠.early)(dd:List _)(v1 v5 Y:Value)(u:Nat->Value)(n:Nat)
  (cont:∀w2 F,gK U S w w2->Tz Tryz.prog false U D S X (G (b.at ⟨lU Fd v1 v5 Y (.int .i64 n) (.int .i64 n) F,dd⟩ k0) cs) w2):
  Tz Tryz.prog false U D S X (G (b.at ⟨lU Fd v1 v5 Y (.int .i64 n) (.int .i64 n) u,dd⟩ (.code uy:: .inLoop uy:: .inBlock 0::k0)) cs) w:=by
 refine Tz.quiet rfl (fun _=>stepG_seq) fun w1 H=>?_;refine Kd hk dd v1 v5 _ u n n fun w2 u2 R C=>?_;refine Tz.quiet rfl (fun _=>stepG_seq) fun w3 I=>?_;have K:Act.eval ⟨lU Fd v1 v5 Y (.int .i64 n) (.int .i64 n) u2,dd⟩ (.tmp 18)=.bool false:=by
  show u2 18=_
  simp_all
 refine Tz.quiet rfl (fun _=>stepG_cond K) fun w4 A=>?_;refine Tz.quiet rfl (fun _=>stepG_exit rfl) fun J B=>?_;exact cont J u2 ((((H.trans R).trans I).trans A).trans B)
end
def F1:Frame:=⟨140,#[],[],[],.run,.normal,none⟩
theorem ahq(Fd:Nat)(v1 Y H A:Value)(j:Nat->Value):TN 48 (sA [(0,ptr Fd),(1,v1),(15,Y),(16,H),(17,A)]) j=lU Fd v1 (j 5) Y H A j:=by kernel_rfl
theorem Jy.eq{a:Option Addr}(h:Jy Fd a n cap f):∃v5 u,f=F1.at ⟨lU Fd (.slice a n cap) v5 (.slice a n cap) (.int .i64 (n:Int)) (.int .i64 ((0:Nat):Int)) u,[dcall 161 #[ptr Fd]]⟩ [.code (.block 0 (.loop uy))]:=by
 obtain⟨fn,tmps,todo,defers,mode,kind,ro⟩:=f;obtain⟨D,R,I,A,U,B,C,g0,g1,K,H,g17⟩:=h;subst D R I A U B;have F:kJ 140 48 [] (sA [(0,ptr Fd),(1,.slice a n cap),(15,.slice a n cap),(16,.int .i64 n),(17,.int .i64 0)]) ⟨140,tmps,[],[],.run,.normal,none⟩:=by
  refine⟨rfl,rfl,rfl,rfl,rfl,rfl,C,fun i v Y=>?_⟩;have:(i,v)∈[(0,ptr Fd),(1,Value.slice a n cap),(15,.slice a n cap),(16,.int .i64 n),(17,.int .i64 0)]:=by
   unfold sA at Y;simp only[List.lookup]at Y
   repeat' split at Y
   all_goals first|(rename_i J;simp_all)
  simp at this;rcases this with⟨rfl,rfl⟩|⟨rfl,rfl⟩|⟨rfl,rfl⟩|⟨rfl,rfl⟩|⟨rfl,rfl⟩<;>assumption
 have e:=congrArg Frame.tmps F.eq;simp only[kR]at e;rw[ahq]at e;refine⟨tmps.getD 5 undef,fun i=>tmps.getD i undef,?_⟩;exact congrArg (fun t=>(⟨140,t,[.code _],[dcall 161 _],.run,.normal,none⟩:Frame)) e
def JE(Mp:Nat)(L:List (Nat×Nat))(M:Nat->Option Obj->Prop):Prop:=∀i o,i<L.length->M i o->∃x bo o',
 (∀w,w.heap[Mp]?=o->(ak 166 (.map (some Mp)) (.int .i64 ((L.getD i (0,0)).1:Int)) true).run Tryz.prog w=.ok (.tuple #[.int .i64 x,.bool bo]) w)/\
 (∀w,w.heap[Mp]?=o->∀ev∈aj Tryz.prog (ak 166 (.map (some Mp)) (.int .i64 ((L.getD i (0,0)).1:Int)) true) w #[],ev.loc=.obj Mp/\ev.sync=false/\ev.write=false)/\
 (∀w,w.heap[Mp]?=o->∃v w',(ai 166 (.map (some Mp)) (.int .i64 ((L.getD i (0,0)).1:Int)) (.int .i64 ((L.getD i (0,0)).2:Int))).run Tryz.prog w=.ok v w'/\Env.Eff Mp w w'/\w'.heap[Mp]?=o')/\
 (∀w,w.heap[Mp]?=o->∀ev∈aj Tryz.prog (ai 166 (.map (some Mp)) (.int .i64 ((L.getD i (0,0)).1:Int)) (.int .i64 ((L.getD i (0,0)).2:Int))) w #[],ev.loc=.obj Mp/\ev.sync=false)/\
 M (i+1) (if(!bo||decide (((L.getD i (0,0)).2:Int)<x))=true then o' else o)
theorem afr(L:List _)(i:Nat)(Y:i<L.length):(jK L)[i *2]?=some (.int .i64 ((L.getD i (0,0)).1))/\(jK L)[i *2+1]?=some (.int .i64 ((L.getD i (0,0)).2)):=by
 induction L generalizing i with
 |nil=>simp at Y
 |cons a L K=>
  cases i with
  |zero=>exact⟨rfl,rfl⟩
  |succ i=>
   rw[show(i+1) *2=i *2+1+1 by omega];exact K i (by simp_all)
section
variable{E:Env}{ok:Nat->Prop}{RO:Nat->Prop}{Fx:World->Prop}
theorem ahr(X P:ByteArray)(k st:Nat)(K:E.xu RO Fx)(Y:∀w,Fx w->(∀b,RO b->b<w.heap.size)/\E.Mp<w.heap.size)(Q:RO E.Fd)(hRW:RO E.Wg)(hRM:¬RO E.Mp)(hFm:∀w,Fx w->w.cell? ⟨E.Fd,2,none⟩=some (.map (some E.Mp)))(O:∀i,¬E.U E.Mp i)(v:E.Fd≠E.Mp)
  (W:∀x,ok x->(ll X P k st x).length<=1000)(hMc:∀γ c t,¬E.mr γ (some (.cells c t)))
  (law:∀γ x,ok x->∃M:Nat->Option Obj->Prop,(∀o,E.mr γ o->M 0 o)/\(∀o,M (ll X P k st x).length o->E.mr (E.upd γ x) o)/\JE E.Mp (ll X P k st x) M):
  Env.Tq E ok RO Fx (E.KH X P k st):=by
 intro D x γ S X' f l w a n cap hx p hX A m hF r hm hf Z;obtain⟨M,m0,m1,ml⟩:=law γ x hx;obtain⟨v5,u,rfl⟩:=hf.eq;clear hf;obtain⟨hn,r⟩:=r;have hu2:¬E.U E.Fd 2:=fun h=>by have:=h.2;omega
 refine Tz.quiet rfl (fun _=>stepG_block) fun w1 x_=>?_;refine Tz.quiet rfl (fun _=>stepG_loop) fun w2 qz=>?_;have hr:=x_.trans qz;have H:=K.rely S _ _ p hF hr;have C:E.mr γ (w2.heap[E.Mp]?):=by rw[(hr.kept _ A).eq O];exact hm
 rcases r with⟨rfl,h0⟩|⟨g,J,rfl,V,hXg,d,hg,zR⟩
 ·subst h0;refine ahp (by simp[F1]) _ _ _ _ u 0 fun w3 u' q=>?_;refine Z S X' _ w3 p hX A (K.rely S _ _ p H q) (m1 _ ?_);rw[<-hn,(q.kept _ A).eq O];exact m0 _ C
 ·have B:=((hr.kept g V).eq d).trans hg;have hgM:g≠E.Mp:=fun ee=>by
   rw[<-ee,B]at C;exact hMc _ _ _ C
  have hgl:=aH fun y=>by rw[aL y]at B;cases B
  have F:∀j,j<n *2->J[j]?=(jK _)[j]?:=fun j I=>by
   rw[<-zR,aX,if_pos I];simp
  have N:=SH (U:=E.U) (D:=fun S1 X1 g1 w1=>(∃T,g1=G (KG E.Fd T) l)/\(∀a,RO a->¬X1 a)/\Fx w1/\E.mr (E.upd γ x) (w1.heap[E.Mp]?)) (Fd:=E.Fd) (g:=g) (Mp:=E.Mp) (n:=n) (cap:=cap) (cur:=J)
   (b:=F1) (k0:=[]) (cs:=l) rfl (by simp[F1]) _ (.slice (some ⟨g,0,none⟩) n cap) (by rw[hn];exact W x hx) hu2 d O v M
   (fun i hi=>by
    obtain⟨f1,f2⟩:=afr (ll X P k st x) i (by omega);exact⟨(F _ (by omega)).trans f1,(F _ (by omega)).trans f2⟩)
   (fun S1 X1 w1=>(∀a,RO a->S1 a)/\(∀a,RO a->¬X1 a)/\Fx w1)
   (fun S1 X1 w3 w4 w5 es S2 X2 I hr hd=>by
    obtain⟨j1,j2,j3⟩:=I;have L:=K.rely S1 _ _ j1 j3 hr;refine⟨fun a R=>(hd.held a).2 (.inl (j1 a R)),fun a R y=>?_,K.rely RO _ _ (fun _ h=>h) L ⟨fun a R=>.inl (hd.kept a ((Y _ L).1 a R) (j2 a R)),hd.grow,hd.env⟩⟩;rcases(hd.may _).1 y with z|z
    ·exact j2 a R z
    ·have:=(Y _ L).1 a R;omega)
   (fun S1 X1 w3 w4 I hr=>⟨I.1,I.2.1,K.rely S1 _ _ I.1 I.2.2 hr⟩)
   (fun i o hi s=>ml i o (by omega) s)
   (fun S1 X1 v6 u6 w3 hL I s=>.stop ⟨⟨_,rfl⟩,I.2.1,I.2.2,m1 _ (by rw[<-hn];exact s)⟩)
   n 0 (by omega) (fun a=>RO a\/a=E.Mp\/a=g) (fun a=>a=E.Mp) v5 u w2
   ⟨fun a R=>(by
    rcases R with y|rfl|rfl
    ·simp_all
    ·exact(Y w2 H).2
    ·exact hgl),fun b i hu=>(by
    rcases hu.1 with rfl|rfl
    ·exact(Y w2 H).1 _ Q
    ·exact(Y w2 H).1 _ hRW),B,.inr (.inr rfl),hgM,.inl Q,.inr (.inl rfl),rfl⟩
   ⟨fun a R=>.inl R,fun a R e=>hRM (e▸R),H⟩ (hFm w2 H) (m0 _ C)
  refine(Tz.more (SF:=S) (XF:=X') N fun S1 X1 g1 w3 hd=>?_).sets (fun a=>⟨fun h=>h.elim (fun y=>y.elim (p a) fun z=>z.elim (fun e=>e▸A) fun e=>e▸V) id,.inr⟩) (fun a=>⟨fun h=>h.elim (fun y=>by subst y;exact m) id,.inr⟩);obtain⟨⟨T,rfl⟩,h1,h2,h3⟩:=hd;simp_all
end
end Ph
namespace Ph
open Conc Ren
open WideElems (Fit rd rg rd_val)
open Maps (Keyed IsMap Tidy has)
theorem u166:PR.underlying 166=some (.map 3 3):=by simp
theorem u3:PR.underlying 3=some (.int .i64):=by simp
theorem Tu(w:World):(zeroValue 3).run PR w=.ok (.int .i64 0) w:=oo (by kernel_rfl) w
theorem BV:Keyed PR 3:=Go.Maps.int_keyed u3
def AN(l:List MapEntry):=∀x∈l,∃a:Int,x.key=.int .i64 a
theorem Cz(e:Int):∀l i,AN l->∃r,az (.int .i64) (.int .i64 e) l i=some r/\∀j v,r=some (j,v)->i<=j/\∃x,l[j-i]?=some x/\x.key=.int .i64 e
 |[],i,_=>⟨none,rfl,fun j v h=>by cases h⟩
 |x::l,i,h=>by
  obtain⟨a,Y⟩:=h x (by simp);by_cases A:e=a
  ·subst A;refine⟨some (i,x.val),?_,fun j v K=>?_⟩
   ·simp[az,bt,Y]
   ·simp_all
  ·obtain⟨r,H,D⟩:=Cz e l (i+1) fun y U=>h y (by simp[U]);refine⟨r,?_,fun j v K=>?_⟩
   ·have I:(e==a)=false:=by simp_all
    simp[az,bt,Y,I,H]
   ·obtain⟨B,x',C,R⟩:=D j v K;refine⟨by omega,x',?_,R⟩;rw[show j-i=(j-(i+1))+1 by omega];simp_all
def yc(es:Array MapEntry)(clock:Nat)(e d:Int):Obj:=match az (.int .i64) (.int .i64 e) es.toList 0 with
 |some (some (i,_))=>.map (es.modify i fun x=>{x with key:=.int .i64 e,val:=.int .i64 d}) clock
 |_=>.map (es.push {key:=.int .i64 e,val:=.int .i64 d,born:=clock}) (clock+1)
section
variable{w:World}{b:Nat}{es:Array MapEntry}{clock:Nat}{e d:Int}
theorem Cg(Y:w.heap[b]?=some (.map es clock))(ev:Array _):(getObj b).events PR w ev=ev.push ⟨.obj b,false,false⟩:=by
 simp[getObj,aj,Sem.runT,Y,Obj.isChan,-Sem.runT_eq]
theorem Np(iD:Array _)(c':Nat)(Y:w.heap[b]?=some (.map es clock))(ev:Array _):(setObj b (.map iD c')).events PR w ev=ev.push ⟨.obj b,true,false⟩:=by
 simp[setObj,aj,Sem.runT,Y,Obj.isChan]
theorem yM(Y:Bool):(bp Y 10000 3 (.int .i64 e)).run PR w=.ok () w:=oo (by kernel_rfl) w
theorem DZ(Y:Bool)(ev:Array _):(bp Y 10000 3 (.int .i64 e)).events PR w ev=ev:=sy (a:=()) (by kernel_rfl) w ev
theorem y7{r:Option _}(h:az (.int .i64) (.int .i64 e) es.toList 0=some r):(aV 3 (.int .i64 e) es.toList).run PR w=.ok r w:=MapKept.run_findKey u3 h
theorem Et{r:Option _}(h:az (.int .i64) (.int .i64 e) es.toList 0=some r)(ev:Array _):(aV 3 (.int .i64 e) es.toList).events PR w ev=ev:=by
 simp[aV,h]
theorem RI(hk:AN es.toList)(H:w.heap[b]?=some (.map es clock)):(ai 166 (.map (some b)) (.int .i64 e) (.int .i64 d)).run PR w=.ok () {w with heap:=w.heap.setIfInBounds b (yc es clock e d)}:=by
 obtain⟨r,Y,D⟩:=Cz e _ 0 hk;cases r with
 |none=>simp[ai,aB H,yM,y7 Y,bF _ H,yc,Y]
 |some x=>
  obtain⟨i,v⟩:=x;obtain⟨_,y,R,I⟩:=D i v rfl;have K:=by simpa using R
  simp[ai,aB H,yM,y7 Y,bF _ H,yc,Y,bq,K,I,br]
theorem ahs(hk:AN es.toList)(H:w.heap[b]?=some (.map es clock)):∀ev∈aj PR (ai 166 (.map (some b)) (.int .i64 e) (.int .i64 d)) w #[],ev.loc=.obj b/\ev.sync=false:=by
 obtain⟨r,K,R⟩:=Cz e es.toList 0 hk;intro ev Y;cases r with
 |none=>
  simp[ai,aB H,Cg H,yM,DZ,y7 K,Et K,Np _ _ H]at Y;rcases Y with rfl|rfl<;>exact⟨rfl,rfl⟩
 |some x=>
  obtain⟨i,v⟩:=x;obtain⟨_,y,I,A⟩:=R i v rfl;have D:=by simpa using I
  simp[ai,aB H,Cg H,yM,DZ,y7 K,Et K,Np _ _ H,bq,D,A,br]at Y;rcases Y with rfl|rfl<;>exact⟨rfl,rfl⟩
theorem afs(hk:AN es.toList)(H:w.heap[b]?=some (.map es clock)):∀ev∈aj PR (ak 166 (.map (some b)) (.int .i64 e) true) w #[],ev.loc=.obj b/\ev.sync=false/\ev.write=false:=by
 obtain⟨r,K,D⟩:=Cz e _ 0 hk;intro ev Y;cases r with
 |none=>
  simp[ak,aB H,Cg H,yM,DZ,y7 K,Et K]at Y;simp_all
 |some x=>
  simp[ak,aB H,Cg H,yM,DZ,y7 K,Et K]at Y;simp_all
end
abbrev KB:=2000
abbrev ma:=Nat->Option Nat
def better(g:ma)(h:Nat×Nat):ma:=fun e=>if e=h.1 then(match g e with|some d=>some (min d h.2)|none=>some h.2)else g e
structure vr(l:List (Lit×DataW Unit))(g:ma):Prop where
 has:∀e:Nat,has (.map l) (.int .i64 (e:Int))=(g e).isSome
 at_:∀e:Nat,(DataW.map l).atKey (.int .i64 (e:Int)) (.lit (.int .i64 0))=.lit (.int .i64 (((g e).getD 0:Nat):Int))
 keys:∀p∈l,∃e:Nat,e<KB/\p.1=.int .i64 (e:Int)
def nj(g:ma)(o:Option Obj):Prop:=∃es clock l,o=some (.map es clock)/\Fit PR 3 (plainElem (H:=Unit) PR 3) es clock/\l=(es.toList.map (rg PR 3 (plainElem (H:=Unit) PR 3))).foldr DataW.insert []/\vr l g
theorem ZX(g:ma)(c:Array _)(t:TypeId):¬nj g (some (.cells c t)):=by
 rintro⟨es,clock,l,h,_⟩;cases h
theorem Iq{es:Array _}(F:Fit PR 3 (plainElem (H:=Unit) PR 3) es clock):AN es.toList:=by
 intro x D;obtain⟨y,I⟩:=F.reads x D;have:∃K,keyOf PR 3 x.key=some K:=by
  obtain⟨K,U,_⟩:=ae.1 I;simp_all
 obtain⟨K,Y⟩:=this;generalize R:x.key=A at Y;unfold keyOf at Y;cases A<;>simp[mapKey]at Y;simp_all
theorem Ir:∀K (l:List Nat),l.Nodup->(∀x∈l,x<K)->l.length<=K
 |0,l,_,h=>by
  cases l with
  |nil=>exact au _
  |cons a l=>have:=h a (by simp);omega
 |K+1,l,H,h=>by
  by_cases hk:K∈l
  ·have I:=Ir K _ (H.erase K) (fun x Y=>by
    have D:=(List.Nodup.mem_erase_iff H).1 Y;have R:=h x D.2;omega)
   simp_all
  ·have:=Ir K l H (fun x Y=>by
    have R:=h x Y;have:x≠K:=fun e=>hk (e▸Y);omega)
   omega
def KI:Lit->Nat
 |.int _ a=>a.toNat
 |_=>0
theorem adg{l:List _}{g:ma}(h:vr l g)(B:l.Pairwise fun p q=>p.1≠q.1):l.length<=KB:=by
 have Y:(l.map fun p=>KI p.1).Nodup:=by
  show List.Pairwise _ _
  rw[List.pairwise_map];refine B.imp_of_mem fun{p q} H U K e=>K ?_;obtain⟨R,_,Y⟩:=h.keys p H;obtain⟨F,_,D⟩:=h.keys q U;rw[Y,D]at e;simp[KI]at e;simp_all
 have D:=Ir KB _ Y (fun x C=>by
  obtain⟨p,H,rfl⟩:=bB.1 C;obtain⟨R,I,A⟩:=h.keys p H;rw[A];simpa[KI]using I)
 simp_all
theorem adh:vr [] (fun _=>none):=⟨fun e=>rfl,fun e=>rfl,fun p Y=>by cases Y⟩
theorem Um(e:Nat):WideAt.IsKeyLit (.int .i64 e):=by first|trivial
theorem adi{l:List _}{g:ma}(h:vr l g){e d:Nat}(A:e<KB):vr (ChangeMaps.putKey (.int .i64 e) (.lit (.int .i64 d)) l) (fun x=>if x=e then some d else g x):=by
 have H:IsMap _:=⟨l,rfl⟩;refine⟨fun x=>?_,fun x=>?_,fun p D=>?_⟩
 ·rw[<-bm];by_cases Y:x=e
  ·subst Y;rw[Go.Maps.has_put_same H (Um x),if_pos rfl];rfl
  ·rw[Go.Maps.has_put_other (by intro y;cases y;omega),if_neg Y];exact h.has x
 ·rw[<-bm];by_cases Y:x=e
  ·subst Y;rw[Go.Maps.atKey_put_same H (Um x),if_pos rfl];rfl
  ·rw[Go.Maps.atKey_put_other (by intro y;cases y;omega),if_neg Y];exact h.at_ x
 ·rcases ChangeMaps.mem_insert_iff.1 D with rfl|K
  ·exact⟨e,A,rfl⟩
  ·exact h.keys p (List.mem_filter.1 K).1
theorem AY{e:Nat}(h:e<1000000):(Lit.int .i64 e).wf=true:=by
 simp[Lit.wf,IntKind.min,IntKind.bits,IntKind.signed];omega
theorem adj{g:ma}{es:Array _}{e d:Nat}(h:nj g (some (.map es clock)))(Q:e<KB)(hd:d<1000000):nj (fun x=>if x=e then some d else g x) (some (yc es clock e d)):=by
 obtain⟨M,A,l,N,F,C,R⟩:=h;cases N
 let w:={(default:World)with heap:=#[.map es clock]}
 have B:w.heap[0]?=some _:=rfl;have own:w.ownsMap PR 3 _ 0 _ (.map l):=⟨es,clock,B,F,au _,by rw[C]⟩;obtain⟨l1,L,P⟩:=own.tidy BV;cases L;have D:es.size<maxLen:=by
  have S:=adg R P;have T:l.length=es.size:=by rw[C,length_sorted];simp
  have V:KB<maxLen:=by decide
  omega
 obtain⟨w',K,I,_⟩:=own.store BV u166 D (Go.Maps.keyOf_int_mk u3 (AY (e:=e) (by have:KB=2000:=rfl;omega))) (plainElem_int u3 (AY hd));rw[RI (Iq F) B]at K;cases K;obtain⟨iD,Y,H,J,_,O⟩:=I;have U:some (yc es clock e d)=some (Obj.map iD Y):=H.symm.trans H▸(by
  have:(w.heap.setIfInBounds 0 (yc es clock e d))[0]?=some _:=rfl;simp_all)
 rw[U];refine⟨iD,Y,_,rfl,J,(DataW.map.inj O),adi R Q⟩
theorem aft(Mp:Nat)(g:ma)(L:List (Nat×Nat))(Q:∀h∈L,h.1<KB/\h.2<1000000):JE Mp L (fun i o=>nj ((L.take i).foldl better g) o):=by
 intro i o E J;have M:L[i]?=some (L.getD i (0,0)):=by simp_all
 generalize Z:L.getD i (0,0)=h at M;obtain⟨e,d⟩:=h;obtain⟨T,hd⟩:=Q _ (bC M);have K:(L.take (i+1)).foldl better g=better ((L.take i).foldl better g) (e,d):=by rw[List.take_add_one,M,List.foldl_append];rfl
 simp only[K];generalize(L.take i).foldl better g=γ at J⊢;have I:=J;obtain⟨es,clock,l,rfl,F,V,R⟩:=J;have hk:=Iq F;refine⟨(((γ e).getD 0:Nat):Int),(γ e).isSome,some (yc es clock (e:Int) (d:Int)),fun w Y=>?_,fun w Y=>afs hk Y,fun w Y=>?_,fun w Y=>ahs hk Y,?_⟩
 ·have own:w.ownsMap PR 3 _ Mp es.size (.map l):=⟨es,clock,Y,F,au _,by rw[V]⟩;obtain⟨v,G,U,X⟩:=own.look_ok BV u166 (Tu w) (plainElem_int (H:=Unit) u3 (AY (e:=0) (by omega))) (Go.Maps.keyOf_int_mk u3 (AY (e:=e) (by have:KB=2000:=rfl;omega)));obtain⟨c,rfl,S,_⟩:=plainElem_int_inv u3 X;have N:=congrArg Prod.fst S;rw[R.at_ e]at N;have O:c=(((γ e).getD 0:Nat):Int):=by simp_all
  rw[U,O,R.has e]
 ·refine⟨(),_,RI hk Y,⟨fun a P=>?_,by simp,rfl,.refl _,rfl⟩,?_⟩
  ·rw[Array.getElem?_setIfInBounds_ne fun y=>P y.symm]
  ·rw[Array.getElem?_setIfInBounds_self_of_lt (aM.1 Y).1]
 ·have Y:=adj I T hd;cases C:γ e with
  |none=>
   have D:better γ (e,d)=fun x=>if x=e then some d else γ x:=by
    funext x;unfold better;simp_all
   rw[D];exact Y
  |some c=>
   by_cases A:d<c
   ·have D:better γ (e,d)=fun x=>if x=e then some d else γ x:=by
     funext x;unfold better;by_cases B:x=e
     ·subst B;simp[C];omega
     ·simp[B]
    rw[D,if_pos (by simpa using A)];exact Y
   ·have D:better γ (e,d)=γ:=by
     funext x;unfold better;by_cases B:x=e
     ·subst B;simp[C];omega
     ·simp[B]
    rw[D,if_neg (by simpa using A)];exact I
end Ph
namespace Ph
open Conc Ren
open Lock (Word PC)
section
variable{P:Program}{main:Bool}{U:Nat->Nat->Prop}{D:(Nat->Prop)->(Nat->Prop)->Frame->List Frame->World->Prop}{S X:Nat->Prop}{f:Frame}{l:List Frame}{w:World}
theorem Tr.one(h:∀w2,gK U S w w2->∃f1 l1 w1 es S1 X1,stepG P main (G f l) w2=.go (G f1 l1) w1 es/\Did S X w2 w1 es S1 X1/\Tr P main U D S1 X1 f1 l1 w1):Tr P main U D S X f l w:=by
 refine .step (fun w2 hr=>?_) fun w2 f1 l1 w1 es S1 X1 hr e hd=>?_
 ·obtain⟨f1,l1,w1,es,S1,X1,e,hd,_⟩:=h w2 hr;exact⟨f1,l1,w1,es,S1,X1,e,hd⟩
 ·obtain⟨R,A,B,iD,K,H,e',Y,I⟩:=h w2 hr;rw[e]at e';cases e';obtain⟨rfl,rfl⟩:=hd.same Y;exact I
theorem Tr.pure:∀n {f:Frame} {l:List _} {w:World},(∀w2,gK U S w w2->Tr P main U D S X (gF P n f l).1 (gF P n f l).2 w2)->Tr P main U D S X f l w
 |0,f,l,w,h=>h w (.refl _ _ _)
 |n+1,f,l,w,h=>by
  unfold gF at h;split at h
  ·rename_i f1 l1 e;exact Tr.one fun w2 hr=>⟨_,_,w2,#[],S,X,tu e,(jc (U:=U) S X w2).toDid,Tr.pure n fun w3 Y=>h w3 (hr.trans Y)⟩
  ·exact h w (.refl _ _ _)
end
theorem gu.pure{P:Program}{Q:QT}(n:Nat)(k:∀w',Kept (fun _=>False) (fun _=>False) w w'->gu P Q Z (gF P n f l).1 (gF P n f l).2 w'):gu P Q Z f l w:=by
 refine gu.tree (U:=fun _ _=>False) (S:=fun _=>False) (X:=fun _=>False) (Done:=fun S X f' l' w'=>X=(fun _=>False)/\f'=(gF P n f l).1/\l'=(gF P n f l).2) (Tr.pure n fun w2 hr=>.stop ⟨rfl,rfl,rfl⟩) (fun a h=>h.elim) fun S' X' f' l' w' hd hk=>?_;obtain⟨rfl,rfl,rfl⟩:=hd;exact k w' hk
structure lu(Z:Loc->Prop)(Fd Mp Wg Gv By Rf Sg Fp k q st n:Nat)(X P:ByteArray)(b:Option Addr)(gE:List Nat)(w:World):Prop where
 cin:ya Fd By Rf Sg Fp k q st X P w
 fd:w.heap[Fd]?=some (.cells #[.int .i32 0,.int .u32 0,.map (some Mp)] 191)
 mp:w.heap[Mp]?=some (.map #[] 0)
 wg:w.heap[Wg]?=some (.cells #[.int .u64 0,.int .u32 0] 212)
 gv:w.heap[Gv]?=some (.cells (oR [] n) 214)
 num:∀i x:Nat,gE[i]?=some x->∃Nb o,b=some ⟨Nb,o,none⟩/\w.cell? ⟨Nb,o+i,none⟩=some (.int .i64 (x:Int))/\Nb≠Mp/\Nb≠Gv/\Nb≠Fd/\Nb≠Wg/\iV Z Nb
 off:∀a,a=Fd\/a=Mp\/a=Wg\/a=Gv\/Kp By Rf Sg Fp a->iV Z a
 fm:Fd≠Mp
 fw:Fd≠Wg
 fg:Fd≠Gv
 mw:Mp≠Wg
 mg:Mp≠Gv
 F2:Gv≠Wg
 kp:∀a,Kp By Rf Sg Fp a->a≠Fd/\a≠Mp/\a≠Wg/\a≠Gv
 n0:0<n
 n8:n<=8
 len:gE.length<1000000
 hX:X.size<=200
 hP:P.size<=30
 hk:k<=6
 gq:st<=200
 ok:∀x∈gE,x *st<=X.size/\x<=100000
def iQ(Fd Mp Wg:Nat)(X P:ByteArray)(k st:Nat):Env where
 Fd:=Fd
 Mp:=Mp
 Wg:=Wg
 tF:=191
 tW:=212
 zc:=FQ
 Γ:=ma
 upd g x:=(ll X P k st x).foldl better g
 mr:=nj
def kF(Z:Loc->Prop)(Mp Gv B:Nat)(a:Nat):=a<B/\a≠Mp/\a≠Gv/\iV Z a
theorem jQ{a:Nat}{o:Obj}(h:w.heap[a]?=some o):a<w.heap.size:=(aM.1 h).1
section
variable{Z:Loc->Prop}{Fd Mp Wg Gv By Rf Sg Fp k q st n:Nat}{X P:ByteArray}{b:Option Addr}{gE:List Nat}{w:World}
theorem lu.KJ(h:lu Z Fd Mp Wg Gv By Rf Sg Fp k q st n X P b gE w){a:Nat}(Y:Kp By Rf Sg Fp a):kF Z Mp Gv w.heap.size a:=by
 obtain⟨D,K,R,H⟩:=h.kp a Y;refine⟨?_,K,H,h.off a (.inr (.inr (.inr (.inr Y))))⟩;rcases Y with rfl|rfl|rfl|rfl
 ·exact jQ h.cin.b
 ·exact jQ h.cin.r
 ·exact jQ h.cin.s
 ·exact jQ h.cin.f
theorem lu.zu(h:lu Z Fd Mp Wg Gv By Rf Sg Fp k q st n X P b gE w):kF Z Mp Gv w.heap.size Fd:=⟨jQ h.fd,h.fm,h.fg,h.off Fd (.inl rfl)⟩
theorem lu.zv(h:lu Z Fd Mp Wg Gv By Rf Sg Fp k q st n X P b gE w):kF Z Mp Gv w.heap.size Wg:=⟨jQ h.wg,fun e=>h.mw e.symm,fun e=>h.F2 e.symm,h.off Wg (.inr (.inr (.inl rfl)))⟩
theorem xw{a:Nat}(Y:a≠Fd)(H:a≠Wg)(i:Nat):¬(iQ Fd Mp Wg X P k st).U a i:=fun y=>y.1.elim Y H
theorem lu.same(h:lu Z Fd Mp Wg Gv By Rf Sg Fp k q st n X P b gE w){a:Nat}(A:kF Z Mp Gv w.heap.size a)(Y:a≠Fd)(H:a≠Wg)(B:sY (iQ Fd Mp Wg X P k st) (kF Z Mp Gv w.heap.size) w w2):w2.heap[a]?=w.heap[a]?:=
 (B.kept a A).eq (xw Y H)
theorem lu.Un(h:lu Z Fd Mp Wg Gv By Rf Sg Fp k q st n X P b gE w)(H:sY (iQ Fd Mp Wg X P k st) (kF Z Mp Gv w.heap.size) w w2):ya Fd By Rf Sg Fp k q st X P w2:=by
 have s:=fun a Y=>h.same (h.KJ Y) (h.kp a Y).1 (h.kp a Y).2.2.1 H;exact⟨(s _ (.inl rfl)).trans h.cin.b,(s _ (.inr (.inl rfl))).trans h.cin.r,(s _ (.inr (.inr (.inl rfl)))).trans h.cin.s,(s _ (.inr (.inr (.inr rfl)))).trans h.cin.f,aD h.cin.low H.grow⟩
theorem lu.known(h:lu Z Fd Mp Wg Gv By Rf Sg Fp k q st n X P b gE w):(iQ Fd Mp Wg X P k st).xu (kF Z Mp Gv w.heap.size) (sY (iQ Fd Mp Wg X P k st) (kF Z Mp Gv w.heap.size) w):=
 ⟨fun S w1 w2 Y hF hr=>gK.trans hF ⟨fun a K=>hr.kept a (Y a K),hr.grow,hr.env⟩,fun w1 hF=>Env.vk.rely ⟨_,_,_,h.fd,rfl⟩ h.zu hF,fun w1 hF=>Env.pA.rely ⟨_,_,_,h.wg,rfl⟩ h.zv hF⟩
theorem OO(t p:ByteArray)(k:Nat):∀n,∀h∈kX t p k n,h.2<=k
 |0,h,Y=>by simp[kX]at Y
 |n+1,h,Y=>by
  have H:=OO t p k n;rw[kX]at Y;split at Y
  ·rcases bA.1 Y with K|K
   ·exact H h K
   ·simp_all
  ·exact H h Y
theorem Pu{x:Nat}(hX:X.size<=200)(hP:P.size<=30)(hk:k<=6)(gq:st<=200)(B:x *st<=X.size/\x<=100000):(ll X P k st x).length<=1000/\∀h∈ll X P k st x,h.1<KB/\h.2<1000000:=by
 have U:(jl X P k st x).size<=300:=by unfold jl;rw[bj];omega
 have A:(ll X P k st x).length=(ln _ P k).length:=yw _ _ _;have D:(ln _ P k).length<=(jl X P k st x).size:=Cu _ _ _ _;refine⟨by omega,fun h K=>?_⟩;unfold ll kz at K;rw[bE,List.drop_length,List.append_nil]at K;obtain⟨H,Y,rfl⟩:=bB.1 K;have R:=Hf _ _ _ _ H Y;have I:=OO _ _ _ _ H Y;have:KB=2000:=rfl;omega
theorem lu.akA(h:lu Z Fd Mp Wg Gv By Rf Sg Fp k q st n X P b gE w)(ch:Nat):Env.HJ (iQ Fd Mp Wg X P k st) ch (fun x=>x *st<=X.size/\x<=100000) (j_ By Rf Sg Fp) (kF Z Mp Gv w.heap.size) (sY (iQ Fd Mp Wg X P k st) (kF Z Mp Gv w.heap.size) w):=by
 have Y:∀w2,sY (iQ Fd Mp Wg X P k st) (kF Z Mp Gv w.heap.size) w w2->(∀b,kF Z Mp Gv w.heap.size b->b<w2.heap.size)/\(iQ Fd Mp Wg X P k st).Mp<w2.heap.size:=fun w2 J=>⟨fun b H=>ar H.1 J.grow,ar (jQ h.mp) J.grow⟩;have D:¬kF Z Mp Gv w.heap.size (iQ Fd Mp Wg X P k st).Mp:=fun y=>y.2.1 rfl;have R:∀i,¬(iQ Fd Mp Wg X P k st).U (iQ Fd Mp Wg X P k st).Mp i:=xw (fun e=>h.fm e.symm) h.mw;refine Env.ZQ R h.known (fun hF L N A=>gK.trans hF (Rw _ L A N)) (fun hF=>gK.trans hF ⟨fun a _=>.inl rfl,au _,⟨_,rfl⟩⟩) (Env.afm _ X P k st) h.zu h.zv (h.KJ (.inr (.inr (.inr rfl)))) (xw (h.kp Fp (.inr (.inr (.inr rfl)))).1 (h.kp Fp (.inr (.inr (.inr rfl)))).2.2.1 0) (fun w2 hF=>?_) D ?_ ?_
 ·rw[cell_of_row _ Fp 0 _ _ _ (h.Un hF).f];rfl
 ·exact afo X P k q st h.hX h.hP h.hk h.gq (fun x I=>I) h.known (fun w2 hF=>h.Un hF) (fun b H=>h.KJ H) (fun b H=>xw (h.kp b H).1 (h.kp b H).2.2.1) Y
 ·have C:∀(γ:ma) (x:Nat),(x *st<=X.size/\x<=100000)->∃M:Nat->Option Obj->Prop,(∀o,nj γ o->M 0 o)/\(∀o,M (ll X P k st x).length o->nj ((ll X P k st x).foldl better γ) o)/\JE Mp (ll X P k st x) M:=fun γ x I=>
   ⟨fun i o=>nj (((ll X P k st x).take i).foldl better γ) o,(fun o B=>by show nj (((ll X P k st x).take 0).foldl better γ) o;rw[List.take_zero];exact B),(fun o B=>by
    have F:nj (((ll X P k st x).take (ll X P k st x).length).foldl better γ) o:=B;rw[bE]at F;exact F),aft Mp γ _ (Pu h.hX h.hP h.hk h.gq I).2⟩
  have K:w.cell? ⟨Fd,2,none⟩=some (.map (some Mp)):=by rw[cell_of_row _ Fd 2 _ _ _ h.fd];rfl
  exact ahr X P k st h.known Y h.zu h.zv D (fun w2 hF=>qH (U:=(iQ Fd Mp Wg X P k st).U) (S:=kF Z Mp Gv w.heap.size) h.zu (fun y=>by have:=y.2;omega) K hF) R h.fm (fun x I=>(Pu h.hX h.hP h.hk h.gq I).1) (fun γ c t=>ZX γ c t) C
end
end Ph
end
end Go.Proofs.YtdcjnhipenbcfaaGreatDoor
