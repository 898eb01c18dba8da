/-
  Own text. Part 6 of what the claim rests on.
-/
import Derived.Test.YtdcjnhipenbcfaaGreatDoorProg
import Derived.Conc.CompanyMem
import Derived.Maps.OwnSet
import Derived.Conc.Events
import Derived.Test.YtdcjnhipenbcfaaGreatDoorPk5
set_option linter.unusedVariables false
set_option linter.unusedSectionVars false
set_option linter.unusedSimpArgs false
set_option maxRecDepth 100000
set_option maxHeartbeats 16000000
open Array renaming getElem?_eq_some_iff->afi,mem_of_getElem?->afj,getElem?_eq_none->afl,getElem?_map->afp,getElem?_setIfInBounds_ne->afq,getElem?_eq_getElem->afu,getElem?_setIfInBounds_self_of_lt->afC,all_eq_true_iff_forall_mem->afF,getD_eq_getD_getElem?->afK,mem_iff_getElem->afQ
open Bool renaming and_eq_true->afG
open ByteArray renaming size_extract->afO
open Go.Instr renaming mapUpdate->afh,lookup->afm,findNow->afB,findKey->afU,keyThatStays->afX
open Go.Made renaming reckonStruct->afz,reckon->afE,infoAt->afN
open Go.MapKept renaming run_getObj_map->afn,run_setObj_map->afP
open Go.MemAct renaming ofEvent->afD,touch?->afL
open Go.Proofs.Tryz renaming f140->afv
open Go.Proofs.YtdcjnhipenbcfaaGreatDoor.Ph.Tz renaming dt->aft
open Go.Proofs.YtdcjnhipenbcfaaGreatDoor.Ph.fL renaming closes->af4
open Go.Proofs.YtdcjnhipenbcfaaGreatDoor.Ren.aH renaming tree->af3
open Go.Region renaming wanted->afT,noSelect->af2
open Go.Sem renaming events->afr
open Go.World renaming cell?->afs
open Int renaming ofNat_lt->afW
open List renaming getElem?_eq_getElem->afw,foldl_cons->afI,getElem?_take->afJ,all_eq_true->afM,getElem?_eq_none->afR,mem_of_getElem?->afS,take_length->afZ,mem_append->af1
open Nat renaming lt_of_lt_of_le->afg,lt_of_not_le->afo,not_lt_zero->afx,le_refl->afy,le_trans->afA,zero_add->afH,le_of_eq->afV,eq_zero_or_pos->afY
open Option renaming bind_eq_some_iff->aff,map_eq_some_iff->afk
namespace Go.Proofs.YtdcjnhipenbcfaaGreatDoor
noncomputable section
variable {main:Bool}{f f1:Frame}{fn:FuncId}{g1:Goroutine}{cs l:List Frame}{kk:List Item}{L R l1 l2:List Nat}{Z:Loc->Prop}{Fd cap clock fuel m n u:Nat}{XX mo:Nat->Nat->Prop}{RO S X' ro:Nat->Prop}{ow:Option Nat}{t:TypeId}{work y:Value}{v0 w w' w2:World}
namespace Ren
def rB:TypeDesc->Bool
 |.float _|.complex _=>false
 |_=>true
theorem Bo{info:TypeId->Option _}{fs:Array Field}{i:TypeInfo}(h:afz info fs=some i):∃out,i.desc=.struct out:=by
 unfold afz at h;simp only[bind,aff]at h;obtain⟨a,_,h⟩:=h;split at h<;>(cases h;exact⟨_,rfl⟩)
theorem reckon_desc{info:TypeId->Option TypeInfo}{d:TypeDesc}{i:TypeInfo}(h:afE info d=some i):rB i.desc=true/\∀n u,i.desc≠.named n u:=by
 unfold afE at h;cases d with
 |pointer e=>
  simp only[bind,aff]at h;obtain⟨a,_,h⟩:=h;split at h
  ·cases h
  ·split at h
   ·cases h
   ·obtain⟨_,_,h⟩:=aff.1 h;cases h;exact⟨rfl,fun _ _ x=>by cases x⟩
  ·obtain⟨_,_,h⟩:=aff.1 h;cases h;exact⟨rfl,fun _ _ x=>by cases x⟩
 |struct fs=>obtain⟨out,e⟩:=Bo h;rw[e];exact⟨rfl,fun _ _ x=>by cases x⟩
 |slice e=>simp only[bind,aff]at h;obtain⟨_,_,_,_,h⟩:=h;cases h;exact⟨rfl,fun _ _ x=>by cases x⟩
 |map k e=>simp only[bind,aff]at h;obtain⟨_,_,_,_,_,_,_,_,h⟩:=h;cases h;exact⟨rfl,fun _ _ x=>by cases x⟩
 |chan dir e=>simp only[bind,aff]at h;obtain⟨_,_,_,_,h⟩:=h;cases h;exact⟨rfl,fun _ _ x=>by cases x⟩
 |func Y rs v=>simp only[bind,aff]at h;obtain⟨_,_,h⟩:=h;cases h;exact⟨rfl,fun _ _ x=>by cases x⟩
 |array n e=>simp only[bind,aff]at h;obtain⟨_,_,_,_,h⟩:=h;cases h;exact⟨rfl,fun _ _ x=>by cases x⟩
 |_=>cases h
theorem xN{α H:Type}(I:H->Prop)(g:α->H->Option _)(K:∀a s x,I s->g a s=some x->∃s',x=.yield s'/\I s'):∀(l:List α) s s1,I s->forIn l s g=some s1->I s1
 |[],s,s1,Y,h=>by simp_all
 |a::l,s,s1,Y,h=>by
  rw[List.forIn_cons]at h;obtain⟨x,R,h⟩:=aff.1 h;obtain⟨s',rfl,D⟩:=K a s x Y R;exact xN I g K l s' s1 D h
section
variable[aj]{r:Rn}
def wq(r:Rn)(z:Value):=V r z z
theorem wq.cells{z:Value}(h:wq r z):∀x∈z.cells,V r x x:=by
 intro x K;cases z with
 |agg c=>
  cases h with
  |agg _ H=>
   obtain⟨i,Y,rfl⟩:=afQ.1 K;exact H i _ _ (afu Y) (afu Y)
 |_=>simp[Value.cells,Array.mem_singleton]at K;rw[K];exact h
theorem zb{c:Array _}(h:∀x∈c,V r x x):V r (.agg c) (.agg c):=.agg rfl fun i x x' e e'=>by
 obtain rfl:=Option.some.inj (e.symm.trans e');exact h x (afj e)
theorem Bp{info:TypeId->Option TypeInfo}(B:∀t i z,info t=some i->i.zero=some z->wq r z){fs:Array Field}{i:TypeInfo}(h:afz info fs=some i):∀z,i.zero=some z->wq r z:=by
 unfold afz at h;simp only[bind,aff,pure]at h;obtain⟨a,D,h⟩:=h;have inv:=xN (fun s:Array Field×Nat×Nat×Nat×Nat×Bool×Bool×Option (Array Value)×String=>∀z,s.2.2.2.2.2.2.2.1=some z->∀x∈z,V r x x) _ ?_ fs.toList _ a ?_ (by rw[Array.forIn_toList];exact D)
 ·have key:∀z,(a.2.2.2.2.2.2.2.1.map Value.agg)=some z->wq r z:=by
   intro z K;obtain⟨c,A,rfl⟩:=afk.1 K;exact zb (inv c A)
  split at h<;>(cases h;exact key)
 ·intro f s x I Y;have fin:∀(i:TypeInfo) (q:Prop) [Decidable q] z,info f.type=some i->(if q then none else s.2.2.2.2.2.2.2.1.bind fun a=>i.zero.bind fun b=>some (a++b.cells))=some z->∀x∈z,V r x x:=by
   intro i q _ z H K;split at K
   ·cases K
   ·simp only[aff]at K;obtain⟨a,D,b,hb,e⟩:=K;cases e;intro x Y;rcases Array.mem_append.1 Y with y|y
    ·exact I a D x y
    ·exact(B _ _ _ H hb).cells x y
  obtain⟨j,R,Y⟩:=aff.1 Y;split at Y
  ·cases Y
  ·split at Y
   ·cases Y
   ·split at Y
    ·simp only[Option.bind_some]at Y;split at Y<;>(cases Y;exact⟨_,rfl,fun z K=>fin j _ z R K⟩)
    ·obtain⟨U,_,Y⟩:=aff.1 Y;split at Y<;>(cases Y;exact⟨_,rfl,fun z K=>fin j _ z R K⟩)
 ·intro z K x Y;cases K;simp at Y
theorem Bq{info:TypeId->Option TypeInfo}(K:∀t i z,info t=some i->i.zero=some z->wq r z){d:TypeDesc}{i:TypeInfo}(h:afE info d=some i):∀z,i.zero=some z->wq r z:=by
 unfold afE at h;cases d with
 |pointer e=>
  simp only[bind,aff]at h;obtain⟨a,_,h⟩:=h;split at h
  ·cases h
  ·split at h
   ·cases h
   ·obtain⟨_,_,h⟩:=aff.1 h;cases h;intro z Y;cases Y;exact .nilPtr
  ·obtain⟨_,_,h⟩:=aff.1 h;cases h;intro z Y;cases Y;exact .nilPtr
 |struct fs=>exact Bp K h
 |slice e=>simp only[bind,aff]at h;obtain⟨_,_,_,_,h⟩:=h;cases h;intro z Y;cases Y;exact .aT _ _
 |map k e=>simp only[bind,aff]at h;obtain⟨_,_,_,_,_,_,_,_,h⟩:=h;cases h;intro z Y;cases Y;exact .eR
 |chan dir e=>simp only[bind,aff]at h;obtain⟨_,_,_,_,h⟩:=h;cases h;intro z Y;cases Y;exact .ep
 |func U rs v=>simp only[bind,aff]at h;obtain⟨_,_,h⟩:=h;cases h;intro z Y;cases Y;exact .nilFunc
 |array n e=>
  simp only[bind,aff]at h;obtain⟨j,D,_,_,h⟩:=h;cases h;intro z Y;split at Y
  ·cases Y
  ·split at Y
   ·cases Y;exact zb fun x H=>by simp_all
   ·obtain⟨y,I,rfl⟩:=afk.1 Y;refine zb fun x H=>(K _ _ _ D I).cells x ?_;obtain⟨c,A,R⟩:=Array.mem_flatten.1 H;simp_all
 |_=>cases h
def lP(T:Tables):=T.types.all fun i=>rB i.desc&&match i.zero with|some z=>fH 4 z|none=>true
theorem Br{T:Tables}(h:lP T=true){i:TypeInfo}(e:T.types[t]?=some i):rB i.desc=true/\∀z,i.zero=some z->wq r z:=by
 have:=afF.1 h i (afj e);simp at this;refine⟨this.1,fun z K=>?_⟩;have Y:=this.2;rw[K]at Y;exact iK Y
theorem HD{T:Tables}(h:lP T=true):∀f t i,afN T f t=some i->rB i.desc=true/\∀z,i.zero=some z->wq r z:=by
 intro f;induction f with
 |zero=>intro t i e;cases e
 |succ f Y=>
  intro t i e;unfold afN at e;split at e
  ·exact Br h e
  ·obtain⟨d,_,e⟩:=aff.1 e;exact⟨(reckon_desc e).1,Bq (fun t i z a b=>(Y t i a).2 z b) e⟩
theorem zd{T:Tables}(h:lP T=true){i:TypeInfo}(e:T.info? t=some i):rB i.desc=true/\∀z,i.zero=some z->wq r z:=by
 unfold Tables.info? at e;split at e
 ·exact Br h e
 ·exact HD h _ _ _ e
theorem KV{P:Program}(h:lP P.toTables=true):kS P:=fun t i z e Y r=>(zd h e).2 z Y
theorem kZ{P:Program}(h:lP P.toTables=true){d:TypeDesc}(e:P.underlying t=some d):rB d=true:=by
 have r:Rn:=⟨fun _=>none,(fun _ _ _ x=>by simp),(fun _ _ x=>by cases x)⟩;unfold Program.underlying at e;split at e
 ·obtain⟨i,Y,rfl⟩:=afk.1 e;exact(zd (r:=r) h Y).1
 ·rename_i i Y;cases e;exact(zd (r:=r) h Y).1
 ·cases e
theorem N1{P:Program}(h:lP P.toTables=true):MS P:=by
 intro d;induction d with
 |zero=>intro u k x e;cases e
 |succ d Y=>
  intro u k x e;unfold plainCell at e;split at e
  ·obtain⟨f,_,e⟩:=Array.exists_of_findSome?_eq_some e;split at e
   ·exact Y _ _ _ e
   ·cases e
  ·dsimp only at e;split at e
   ·cases e
   ·exact Y _ _ _ e
  ·simp_all
  ·split at e<;>cases e;simp_all
  ·rename_i hu;have:=kZ h hu;simp[rB]at this
  ·rename_i hu;have:=kZ h hu;simp[rB]at this
  ·cases e
end
theorem Bt{info:TypeId->Option TypeInfo}{d:TypeDesc}{i:TypeInfo}(h:afE info d=some i):i.methods=#[]:=by
 unfold afE at h;cases d with
 |pointer e=>
  simp only[bind,aff]at h;obtain⟨a,_,h⟩:=h;split at h
  ·cases h
  ·split at h
   ·cases h
   ·obtain⟨_,_,h⟩:=aff.1 h;cases h;rfl
  ·obtain⟨_,_,h⟩:=aff.1 h;cases h;rfl
 |struct fs=>
  unfold afz at h;simp only[bind,aff]at h;obtain⟨a,_,h⟩:=h;split at h<;>(cases h;rfl)
 |slice e=>simp only[bind,aff]at h;obtain⟨_,_,_,_,h⟩:=h;cases h;rfl
 |map k e=>simp only[bind,aff]at h;obtain⟨_,_,_,_,_,_,_,_,h⟩:=h;cases h;rfl
 |chan dir e=>simp only[bind,aff]at h;obtain⟨_,_,_,_,h⟩:=h;cases h;rfl
 |func Y rs v=>simp only[bind,aff]at h;obtain⟨_,_,h⟩:=h;cases h;rfl
 |array n e=>simp only[bind,aff]at h;obtain⟨_,_,_,_,h⟩:=h;cases h;rfl
 |_=>cases h
def KW(P:Program)(t:TypeId):Bool:=
 match P.underlying t with
 |some (.pointer _)=>false
 |_=>true
def Vm(K:FW)(P:Program)(t:TypeId)(i:TypeInfo):=i.methods.all fun m=>!K.rA m.name||(m.path.isEmpty&&(match m.func with
 |some (f,false)=>K.bN f
 |_=>false)&&KW P t)
def t_(K:FW)(P:Program):=(List.range P.types.size).all fun t=>match P.types[t]? with
 |some i=>Vm K P t i
 |none=>true
theorem D_{K:FW}{P:Program}{rest:List Item->Prop}{lh:List _->Prop}(h:t_ K P=true){n:String}(B:K.rA n=true):@te (K.dY P ro mo rest lh) P n:=by
 intro t i m Y hm;have old:∀{i:TypeInfo},P.types[t]?=some i->i.methods.find? (·.name==n)=some m->m.path=#[]/\(∃f,m.func=some (f,false)/\K.bN f=true)/\∀e,P.underlying t≠some (.pointer e):=by
  intro i Y hm;have U:=(afi.1 Y).1;have A:=afM.1 h t (List.mem_range.2 U);simp[Y]at A;have I:=afF.1 A m (Array.mem_of_find?_eq_some hm);have D:=by simpa using Array.find?_some hm
  simp[D,B,Bool.not_true,Bool.false_or,afG]at I;refine⟨by simp_all,?_,fun e he=>?_⟩
  ·have R:=I.1.2;split at R
   ·simp_all
   ·cases R
  ·have R:=I.2;simp[KW,he]at R
 have none_:∀f (i:TypeInfo),afN P.toTables f t=some i->i.methods.find? (·.name==n)=some m->P.types[t]?=some i\/False:=by
  intro f i Y hm;cases f with
  |zero=>cases Y
  |succ f=>
   unfold afN at Y;split at Y
   ·simp_all
   ·obtain⟨d,_,e⟩:=aff.1 Y;rw[Bt e]at hm;simp at hm
 have H:=Y;unfold Tables.info? at H;split at H
 ·exact old H hm
 ·exact old ((none_ _ i H hm).resolve_right id) hm
def pw(K:FW)(P:Program)(ext:FuncId->Bool)(f:FuncId):Bool:=match P.funcs[f]? with
 |some fn=>!(fn.name== "runtime.NumGoroutine")&&(match fn.body with
  |some c=>eg K P false c
  |none=>ext f)
 |none=>false
def Qb(K:FW)(P:Program)(ro:Nat->Prop)(mo:Nat->Nat->Prop)(rest:List _->Prop)(lh:List Deferred->Prop)(fn:Func):=
 letI:=K.dY P ro mo rest lh
 Extern.findNext fn=none/\∃e,Extern.find fn=some e/\∀r a a',VA r a a'->SR P V r (e a) (e a')
theorem Ea{K:FW}{P:Program}{rest:List _->Prop}{lh:List _->Prop}(H:K.tX=true->∀b,¬ro b)(ext:FuncId->Bool)(A:lP P.toTables=true)(hm:t_ K P=true)(I:∀f,K.bN f=true->pw K P ext f=true)(he:∀f fn,ext f=true->P.funcs[f]?=some fn->Qb K P ro mo rest lh fn):@hI (K.dY P ro mo rest lh) P:=by
 letI:=K.dY P ro mo rest lh
 refine⟨⟨KV A,rfl,N1 A,fun f D=>?_,fun n B=>D_ hm B⟩,fun c U=>ga H U,rfl,fun _=>rfl,fun _=>rfl,fun f fn c D Y hb=>?_⟩
 ·have h:=I f D;unfold pw at h;split at h
  ·rename_i fn Y;simp only[afG,Bool.not_eq_true']at h;refine⟨fn,Y,h.1,fun hb=>?_⟩;have R:=h.2;rw[hb]at R;exact he f fn R Y
  ·cases h
 ·have h:=I f D;unfold pw at h;simp[Y,hb,afG]at h;exact ga H h.2
def Vn:List Nat:=[0,1,2,3,4,5,6,7,8,9,10,11,12,13,14,15,16,22,37,38,39,60,92,111,122,137,138,140,157,158,159,160,161,168,169,170,171,172,173,174,175,176,177,178,179,180,181,182,183,184,185,186,187,188,199,200,201,202,203,204,205,206,207,214,215,216,217,218,219,220,222,223,224,225,226,227,228,229,230,231,232,233,234,235,236,237,242,243,244,245]
def Bu(f:Nat):Bool:=[113,134,156].contains f
def K0:FW:={bN:=fun f=>decide (f<246)&&!Vn.contains f,Mw:=fun g=>[0,2,3].contains g,rA:=fun n=>n== "spotter/spotter.told"||n== "spotter/spotter.flag",tX:=true}
theorem qB:lP Tryz.prog.toTables=true:=by decide+kernel
theorem HH:t_ K0 Tryz.prog=true:=by decide+kernel
theorem HI:((List.range 246).all fun f=>!K0.bN f||pw K0 Tryz.prog Bu f)=true:=by decide+kernel
theorem KX(f:Nat)(h:K0.bN f=true):pw K0 Tryz.prog Bu f=true:=by
 have Y:=by
  have:(decide _&&!Vn.contains f)=true:=h;simp only[afG,decide_eq_true_eq]at this;exact this.1
 have:=afM.1 HI f (List.mem_range.2 Y);rw[h]at this;simpa using this
theorem ze(K:FW)(ro:Nat->Prop)(mo:Nat->Nat->Prop)(rest:List Item->Prop)(lh:List Deferred->Prop)(f:Nat)(fn:Func)(h:Bu f=true)(Y:Tryz.prog.funcs[f]?=some fn):Qb K Tryz.prog ro mo rest lh fn:=by
 letI:=K.dY Tryz.prog ro mo rest lh
 have:f=113\/f=134\/f=156:=by simpa[Bu]using h
 rcases this with rfl|rfl|rfl
 ·rw[Tryz.func113]at Y;cases Y;exact⟨by decide+kernel,Extern.AbiNoEscape.same,by rfl,fun r a a' h=>Az h⟩
 ·rw[Tryz.func134]at Y;cases Y;exact⟨by decide+kernel,Extern.BytealgIndexByte.indexByte,by rfl,fun r a a' h=>yF h⟩
 ·rw[Tryz.func156]at Y;cases Y;exact⟨by decide+kernel,_,by rfl,fun r a a' h=>vV _ _ h⟩
def Bv:Nat->Prop:=fun _=>False
def oe:Nat->Nat->Prop:=fun _ _=>False
theorem Bw(rest:List Item->Prop)(lh:List Deferred->Prop):@hI (K0.dY Tryz.prog Bv oe rest lh) Tryz.prog:=Ea (fun _ _ h=>h) _ qB HH KX (ze K0 _ _ _ lh)
def K2:FW:={bN:=fun _=>false,Mw:=fun _=>false,rA:=fun _=>false,tX:=false}
def K3:FW:={bN:=fun f=>[77,139,144,145,150,165].contains f,Mw:=fun _=>false,rA:=fun _=>false,tX:=false}
theorem Eb:t_ K3 Tryz.prog=true:=by decide+kernel
theorem Ec:([77,139,144,145,150,165].all fun f=>pw K3 Tryz.prog Bu f)=true:=by decide+kernel
theorem KY(f:Nat)(h:K3.bN f=true):pw K3 Tryz.prog Bu f=true:=by
 have:f∈[77,139,144,145,150,165]:=by
  have:[77,139,144,145,150,165].contains f=true:=h;simpa using this
 exact afM.1 Ec f this
theorem Vo(ro:Nat->Prop)(mo:Nat->Nat->Prop)(rest:List Item->Prop)(lh:List Deferred->Prop):@hI (K3.dY Tryz.prog ro mo rest lh) Tryz.prog:=Ea (fun h=>by cases h) _ qB Eb KY (ze K3 ro mo _ lh)
end Ren
namespace Ph
open Conc Ren
theorem Tz.inv{P:Program}{U:Nat->Nat->Prop}{D:(Nat->Prop)->(Nat->Prop)->Goroutine->World->Prop}{X:Nat->Prop}{g:Goroutine}(J:(Nat->Prop)->(Nat->Prop)->World->Prop)
  (Y:∀S X w w2 w1 es S1 X1,J S X w->az U S w w2->Did S X w2 w1 es S1 X1->J S1 X1 w1)(h:Tz P main U D S X g w)(j:J S X w):Tz P main U (fun S X g w=>D S X g w/\J S X w) S X g w:=by
 induction h with
 |stop hd=>exact .stop ⟨hd,j⟩
 |step K ex _ H=>exact .step K ex fun w2 g1 w1 es S1 X1 hr e hd=>H w2 g1 w1 es S1 X1 hr e hd (Y _ _ _ _ _ _ _ _ j hr hd.toDid)
theorem Tz.sets{P:Program}{U:Nat->Nat->Prop}{D:(Nat->Prop)->(Nat->Prop)->Goroutine->World->Prop}{X S':Nat->Prop}{g:Goroutine}(h:Tz P main U D S X g w)(Y:∀a,S a↔S' a)(hX:∀a,X a↔X' a):Tz P main U D S' X' g w:=by
 obtain rfl:S=S':=funext fun a=>propext (Y a);obtain rfl:X=X':=funext fun a=>propext (hX a);exact h
def Bx:Value->Value
 |.pointer (some _)=>.tuple #[]
 |v=>v
def Vp:Obj->Obj
 |.cells c e _=>.cells (c.map Bx) e (0,(c.map Bx).size)
 |o=>o
def KZ(ow:Option Nat)(w:World):={w with heap:=w.heap.mapIdx fun i o=>if some i=ow then o else Vp o}
theorem ua{b:Nat}{o:Obj}(h:w.heap[b]?=some o):(KZ ow w).heap[b]?=some (if some b=ow then o else Vp o):=by
 show(w.heap.mapIdx _)[b]?=_
 simp_all
theorem uf:(KZ ow w).heap.size=w.heap.size:=by
 show(w.heap.mapIdx _).size=_
 simp
structure R0(Fd By Rf Sg Fp k q st:Nat)(X P:ByteArray)(w:World):Prop where
 b:w.heap[By]?=some (.cells #[.int .i64 (k:Int),.int .i64 (q:Int),.int .i64 (st:Int)] 75)
 r:w.heap[Rf]?=some (.cells #[.string X] 9)
 s:w.heap[Sg]?=some (.cells #[.string P] 9)
 f:w.heap[Fp]?=some (.cells #[ptr Fd] 182)
 low:PR.globals.size<=w.heap.size
def Kp(By Rf Sg Fp b:Nat):=b=By\/b=Rf\/b=Sg\/b=Fp
section
variable{Fd By Rf Sg Fp k q st:Nat}{X P:ByteArray}{w:World}{ow:Option Nat}
theorem R0.reads(h:R0 Fd By Rf Sg Fp k q st X P w)(K:∀b,Kp By Rf Sg Fp b->some b≠ow)(T:Nat->Question->Nat):Reads (tp (KZ ow w) T) By Rf Sg k q st X P:=by
 have Y:(tp (KZ ow w) T).heap[By]?=_:=(ua h.b).trans (by rw[if_neg (K By (.inl rfl))]);have H:(tp (KZ ow w) T).heap[Rf]?=_:=(ua h.r).trans (by rw[if_neg (K Rf (.inr (.inl rfl)))]);have D:(tp (KZ ow w) T).heap[Sg]?=_:=(ua h.s).trans (by rw[if_neg (K Sg (.inr (.inr (.inl rfl))))]);exact⟨by rw[cell_of_row _ By 0 _ _ _ Y];simp[Bx],by rw[cell_of_row _ By 1 _ _ _ Y];simp[Bx],by rw[cell_of_row _ By 2 _ _ _ Y];simp[Bx],by rw[cell_of_row _ Rf 0 _ _ _ H];simp[Bx],by rw[cell_of_row _ Sg 0 _ _ _ D];simp[Bx]⟩
@[reducible] def gl(By Rf Sg Fp:Nat)(kr:List _):=K3.dY PR (Kp By Rf Sg Fp) oe (fun k=>k=kr) (fun _=>False)
theorem R0.W(kr:List Item)(h:R0 Fd By Rf Sg Fp k q st X P w)(I:∀b,Kp By Rf Sg Fp b->some b≠ow)(A:∀g,ow=some g->∃c e,w.heap[g]?=some (.cells c e)/\∀x∈c,∃z:Int,x=.int .i64 z):
  letI:=gl By Rf Sg Fp kr
  Ren.W (jD fun b=>Kp By Rf Sg Fp b\/some b=ow) 0 (KZ ow w) w:=by
 letI:=gl By Rf Sg Fp kr
 refine⟨fun b b' e=>?_,by rw[uf];exact h.low,h.low,fun b hb=>?_,fun i q R=>by omega,rfl⟩
 ·obtain⟨hk,rfl⟩:=jE.1 e;rcases hk with hk|hk
  ·have key:∀(c:Array _) (t:TypeId),w.heap[b]?=some (.cells c t)->VA (jD fun b=>Kp By Rf Sg Fp b\/some b=ow) (c.map Bx) c->∃o o',(KZ ow w).heap[b]?=some o/\w.heap[b]?=some o'/\OB (jD fun b=>Kp By Rf Sg Fp b\/some b=ow) b o o':=by
    intro c t H D;exact⟨_,_,(ua H).trans (by rw[if_neg (I b hk)];rfl),H,.ro t hk D fun i R=>absurd R id⟩
   rcases hk with rfl|rfl|rfl|rfl
   ·refine key _ _ h.b ⟨by simp,fun i x x' Y K=>?_⟩;rw[afp,K]at Y;cases Y;have:=by
     have:=afj K;simpa using this
    rcases this with rfl|rfl|rfl<;>exact .int _ _
   ·refine key _ _ h.r ⟨by simp,fun i x x' Y K=>?_⟩;rw[afp,K]at Y;cases Y;have:=by
     have:=afj K;simpa using this
    subst this;exact .string _
   ·refine key _ _ h.s ⟨by simp,fun i x x' Y K=>?_⟩;rw[afp,K]at Y;cases Y;have:=by
     have:=afj K;simpa using this
    subst this;exact .string _
   ·refine key _ _ h.f ⟨by simp,fun i x x' Y K=>?_⟩;rw[afp,K]at Y;cases Y;have:=by
     have:=afj K;simpa using this
    subst this;exact .blank rfl
  ·obtain⟨c,t,H,D⟩:=A b hk.symm;refine⟨_,_,(ua H).trans (by simp_all),H,.same (fun y=>I b y hk) (yL t _ fun x U=>?_)⟩;obtain⟨z,rfl⟩:=D x U;exact .int _ _
 ·rw[uf];rcases hb with rfl|rfl|rfl|rfl
  ·exact afo fun y=>by have:=h.b;simp_all
  ·exact afo fun y=>by have:=h.r;simp_all
  ·exact afo fun y=>by have:=h.s;rw[afl y]at this;cases this
  ·exact afo fun y=>by have:=h.f;rw[afl y]at this;cases this
end
noncomputable def g_:List Item:=match Tryz.f138.body with
 |some (.seq _ b)=>[.code b]
 |_=>[]
section
variable{ch Wg By Rf Sg Fp x:Nat}{j:Nat->Value}{l:List Frame}{T:Array Value}
theorem cp0:aQ PR 1 (WG ch Wg (cM By Rf Sg Fp) (.int .i64 x) true j).1 l=(⟨138,zN x By Rf Sg Fp (.tuple #[]) (fun _=>.tuple #[]),.code W_::g_,[],.run,.normal,none⟩,l):=by kernel_rfl
theorem cp1:aQ PR 1 ⟨138,T,g_,[],.run,.normal,none⟩ l=(⟨138,T,.code Ms::pv,[],.run,.normal,none⟩,l):=by kernel_rfl
theorem N3:eg K3 PR false W_=true:=by decide+kernel
theorem N4:eg K3 PR false Ms=true:=by decide+kernel
theorem Ee:∃c k,g_=.code c::k:=⟨_,_,rfl⟩
theorem Ef:∃c k,pv=.code c::k:=⟨_,_,rfl⟩
end
section
variable{U:Nat->Nat->Prop}{Fd By Rf Sg Fp k q st:Nat}{X P:ByteArray}{w:World}{ow:Option Nat}{kr:List Item}{c:Code}
def Vq(U:Nat->Nat->Prop)(By Rf Sg Fp:Nat)(kr:List Item)(r0:@Rn (gl By Rf Sg Fp kr))(R:Array Value->World->Prop)(cs:List Frame)(S X S' X':Nat->Prop)(g:Goroutine)(w':World):Prop:=
 letI:=gl By Rf Sg Fp kr
 ∃(r:Rn) (a' t':Array Value) (v:World),Le r0 r/\Ren.W r 0 v w'/\(∀b,S' b↔Rd r b\/S b)/\(∀b,X' b↔Wr r b\/X b)/\R a' v/\C9 U r/\VA r a' t'/\g=G ⟨138,t',kr,[],.run,.normal,none⟩ cs
theorem piece(hk:∃c k,kr=.code c::k)(V:eg K3 PR false c=true){r0:@Rn (gl By Rf Sg Fp kr)}(hW:@Ren.W (gl By Rf Sg Fp kr) r0 0 v0 w)
  {R:Array Value->World->Prop}{a t:Array Value}(A:∀T,c.wp PR (fun e a' v'=>e=.normal/\a'.defers=[]/\R a'.tmps v') ⟨a,[]⟩ (tp v0 T))
  (H:@VA (gl By Rf Sg Fp kr) r0 a t)(Y:@C9 (gl By Rf Sg Fp kr) U r0)(C:∀b i,U b i->b<w.heap.size)(O:∀b,@Rd (gl By Rf Sg Fp kr) r0 b->S b)(hX:∀b,@Wr (gl By Rf Sg Fp kr) r0 b->X' b):
  Tz PR false U (Vq U By Rf Sg Fp kr r0 R cs S X') S X' (G ⟨138,t,.code c::kr,[],.run,.normal,none⟩ cs) w:=by
 letI:=gl By Rf Sg Fp kr
 have K:cH PR false c:=ga (fun h=>by cases h) V;have P:FR PR r0 true (Frame.at ⟨138,#[],[],[],.run,.normal,none⟩ ⟨a,[]⟩ (.code c::oX)) ⟨138,t,.code c::kr,[],.run,.normal,none⟩:=by
  obtain⟨c0,E,B⟩:=hk;refine⟨rfl,H,?_,.nil,.run,rfl,.inl rfl,.none,fun _=>⟨_,Tryz.func138⟩⟩;show IL PR _ false true (.code c::oX) (.code c::kr)
  refine .cons (.code K) ?_;rw[B];exact .rest rfl rfl B.symm rfl
 have Q:=ts (main:=false) (U:=U) (Vo (Kp By Rf Sg Fp) oe (fun k=>k=kr) fun _=>False) (fun ops h=>by cases h) (fun g h=>by cases h) A rfl K P (bS:=cs) hW Y C;refine(Tz.of (SF:=S) (XF:=X') Q (fun b i hu=>⟨C b i hu,fun h=>?_⟩) fun S1 X1 f l w1 hd=>?_).sets (fun b=>⟨fun h=>h.elim (O b) id,.inr⟩) (fun b=>⟨fun h=>h.elim (hX b) id,.inr⟩)
 ·obtain⟨b0,e⟩:=h;exact(Y b0 b i e hu).2
 ·obtain⟨rfl,r,a',v,L,M,F,J,⟨D,N⟩,X,Z,I,f1,f2,f3,f4,f5,f6⟩:=xw (kr:=kr) (fun k h=>h) hd;subst F J;refine .stop ⟨r,a'.tmps,f.tmps,v,L,M,fun b=>Iff.rfl,fun b=>Iff.rfl,N,X,I,?_⟩;obtain⟨fn,tmps,todo,defers,mode,kind,ro⟩:=f;simp only at f1 f2 f3 f4 f5 f6;rw[D]at f6;have:defers=[]:=by
   generalize defers=d at f6;cases f6 with
   |nil=>rfl
   |rest _ h=>exact h.elim
  subst this f1 f2 f3 f4 f5;rfl
end
inductive VL[aj](r:Rn):List Value->List Value->Prop
 |nil:VL r [] []
 |cons {x y:Value} {l l':List Value}:V r x y->VL r l l'->VL r (x::l) (y::l')
theorem VL.va[aj]{r:Rn}{l l':List _}(h:VL r l l'):VA r l.toArray l'.toArray:=by
 have K:l.length=l'.length:=by
  induction h with
  |nil=>rfl
  |cons _ _ Y=>simp[Y]
 refine⟨by omega,fun i x x' e e'=>?_⟩;clear K;induction h generalizing i with
 |nil=>simp at e
 |cons H _ Y=>
  cases i with
  |zero=>simp at e e';simp_all
  |succ i=>exact Y i (by simp_all) (by simp_all)
theorem R2[aj]{r:Rn}{x By Rf Sg Fp:Nat}(hb:r By=some By)(hr:r Rf=some Rf)(K:r Sg=some Sg)(Y:r Fp=some Fp):VA r (zN x By Rf Sg Fp (.tuple #[]) (fun _=>.tuple #[])) (zN x By Rf Sg Fp (.tuple #[]) (fun _=>.tuple #[])):=
 VL.va (.cons (.int _ _) (.cons (.ptr ⟨hb,rfl,rfl⟩) (.cons (.ptr ⟨hr,rfl,rfl⟩) (.cons (.ptr ⟨K,rfl,rfl⟩) (.cons (.ptr ⟨Y,rfl,rfl⟩) (.cons (.blank rfl) (.cons (.blank rfl) (.cons (.blank rfl) (.cons (.blank rfl) (.cons (.blank rfl) (.cons (.blank rfl) (.cons (.blank rfl) (.cons (.blank rfl) (.cons (.blank rfl) (.cons (.blank rfl) (.cons (.blank rfl) (.cons (.blank rfl) (.cons (.blank rfl) (.cons (.blank rfl) (.cons (.blank rfl) (.cons (.blank rfl) (.cons (.blank rfl) (.cons (.blank rfl) (.cons (.blank rfl) (.cons (.blank rfl) (.cons (.blank rfl) (.cons (.blank rfl) (.cons (.blank rfl) (.cons (.blank rfl) (.cons (.blank rfl) (.cons (.blank rfl) (.cons (.blank rfl) (.cons (.blank rfl) (.cons (.blank rfl) (.cons (.blank rfl) (.cons (.blank rfl) (.cons (.blank rfl) (.cons (.blank rfl) (.cons (.blank rfl) .nil)))))))))))))))))))))))))))))))))))))))
theorem oh(t p:ByteArray)(k:Nat):∀n,∀h∈bT t p k n,h.1<=n
 |0,h,Y=>by simp[bT]at Y
 |n+1,h,Y=>by
  have H:=oh t p k n;rw[bT]at Y;split at Y
  ·rcases af1.1 Y with K|K
   ·have:=H h K;omega
   ·simp_all
  ·have:=H h Y;omega
def rC(X P:ByteArray)(k st x:Nat):=cT (x *st) (dE (dM X P k st x) P k) (dE (dM X P k st x) P k).length
def Env.R3(E:Env)(X P:ByteArray)(k st x:Nat)(a:Option Addr)(n:Nat)(S X':Nat->Prop)(w:World):=
 n=(rC X P k st x).length/\((a=none/\n=0)\/∃g cur,a=some ⟨g,0,none⟩/\S g/\X' g/\(∀i,¬E.U g i)/\w.heap[g]?=some (.cells cur 173)/\cur.toList.take (n *2)=ck (rC X P k st x))
theorem Env.N5(E:Env)(X P:ByteArray)(k st:Nat):E.KQ (E.R3 X P k st):=by
 refine⟨fun h hr=>?_,fun h he=>?_,fun h U hX=>?_⟩
 ·obtain⟨K,Y|⟨g,cur,Y,D,R,H,I,A⟩⟩:=h
  ·exact⟨K,.inl Y⟩
  ·exact⟨K,.inr ⟨g,cur,Y,D,R,H,((hr.kept g D).eq H).trans I,A⟩⟩
 ·obtain⟨K,Y|⟨g,cur,Y,D,R,H,I,A⟩⟩:=h
  ·exact⟨K,.inl Y⟩
  ·exact⟨K,.inr ⟨g,cur,Y,D,R,H,(he.heap g fun e=>H 0 ⟨.inl e,by omega⟩).trans I,A⟩⟩
 ·obtain⟨K,Y|⟨g,cur,Y,D,R,H,I,A⟩⟩:=h
  ·exact⟨K,.inl Y⟩
  ·exact⟨K,.inr ⟨g,cur,Y,U g D,hX g R,H,I,A⟩⟩
theorem K1(By Rf Sg Fp:Nat)(k1 Y:List _):TT (gl By Rf Sg Fp k1) (gl By Rf Sg Fp Y):=⟨rfl,fun _ h=>h,fun _ h=>h,fun _ h=>h,fun _=>Iff.rfl,fun _ _ h=>h⟩
theorem Reads.later{By Rf Sg k q st B:Nat}{X P:ByteArray}(h:Reads w By Rf Sg k q st X P)(hb:Go.RowKit.Below B w w')(Y:By<B)(K:Rf<B)(H:Sg<B)(T:Nat->Question->Nat):Reads (tp w' T) By Rf Sg k q st X P:=
 ⟨(hb.cell Y).trans h.c0,(hb.cell Y).trans h.c1,(hb.cell Y).trans h.c2,(hb.cell K).trans h.x,(hb.cell H).trans h.p⟩
theorem Eg(F:List _):∀x∈ck F,∃z:Int,x=.int .i64 z:=by
 intro x K;simp only[ck,List.mem_flatMap]at K;obtain⟨h,_,Y⟩:=K;simp at Y;rcases Y with rfl|rfl
 ·exact⟨_,rfl⟩
 ·exact⟨_,rfl⟩
theorem N6[aj]{r:Rn}{c c':Array _}(h:VA r c c'){l:List _}(I:∀x∈l,∃z:Int,x=.int .i64 z)(hm:l.length=m)(e:c.toList.take m=l):c'.toList.take m=l:=by
 apply List.ext_getElem?;intro i;rcases Nat.lt_or_ge i m with K|K
 ·have Y:(c.toList.take m)[i]?=l[i]?:=by rw[e]
  rw[afJ,if_pos K]at Y;rw[afJ,if_pos K];have D:l[i]?=some l[i]:=afw _;rw[D]at Y⊢;obtain⟨z,R⟩:=I _ (List.getElem_mem _);rw[R]at Y⊢;obtain⟨y,A,H⟩:=h.get (by simpa using Y);cases H;simp_all
 ·rw[afR (by simp;omega),afR (by omega)]
theorem zf(F:List _):(ck F).length=F.length *2:=GD F
theorem Vr[aj]{r:Rn}{b:Nat}(h:V r (ptr b) y)(e:r b=some b):y=ptr b:=by
 cases h with
 |@ptr a a' k=>
  obtain⟨Y,K,H⟩:=k;obtain⟨b',o',s'⟩:=a';simp only at Y K H;rw[e]at Y;cases Y;subst K H;rfl
section
variable{E:Env}{ch:Nat}{ok:Nat->Prop}{By Rf Sg Fp:Nat}{RO:Nat->Prop}{Fx:World->Prop}
theorem N7(X P:ByteArray)(k q st:Nat)(hX:X.size<=200)(hP:P.size<=30)(hk:k<=6)(hs:st<=200)(ZW:∀x,ok x->x *st<=X.size/\x<=100000)
  (K:E.tU RO Fx)(hIn:∀w,Fx w->R0 E.Fd By Rf Sg Fp k q st X P w)(C:∀b,Kp By Rf Sg Fp b->RO b)(hKU:∀b,Kp By Rf Sg Fp b->∀i,¬E.U b i)(Y:∀w,Fx w->(∀b,RO b->b<w.heap.size)/\E.Mp<w.heap.size):
  Env.KR E ch ok By Rf Sg Fp RO Fx (E.R3 X P k st):=by
 intro D x S X' j w hx hW hF F;obtain⟨hx1,Vs⟩:=ZW x hx;generalize ZX:[TC ch E.Wg (cM By Rf Sg Fp) (.int .i64 (x:Int)) j,bot]=cs at F⊢;clear ZX;refine Tz.pure 1 fun w1 Vt=>?_;rw[cp0];have H:Fx w1:=K.rely S _ _ hW.ro hF Vt;have Z:=hIn w1 H;have XZ:∀w,Fx w->∀b i,E.U b i->b<w.heap.size:=fun w h b i hu=>by
  rcases hu.1 with rfl|rfl
  ·exact(Y w h).1 _ hW.fd
  ·exact(Y w h).1 _ hW.wg
 have hJ:∀(S X:Nat->Prop) (w w2 w1:World) (es:Array Event) (S1 X1:Nat->Prop),((∀a,RO a->S a)/\¬S E.Mp/\¬X E.Mp/\(∀a,RO a->¬X a)/\Fx w)->az E.U S w w2->Did S X w2 w1 es S1 X1->((∀a,RO a->S1 a)/\¬S1 E.Mp/\¬X1 E.Mp/\(∀a,RO a->¬X1 a)/\Fx w1):=by
  rintro S X w w2 w1 es S1 X1 ⟨j1,j2,j3,j4,j5⟩ hr hd;have B:=K.rely S _ _ j1 j5 hr;refine⟨fun a L=>(hd.held a).2 (.inl (j1 a L)),fun y=>?_,fun y=>?_,fun a L y=>?_,K.rely RO _ _ (fun _ h=>h) B ⟨fun a L=>.inl (hd.kept a ((Y _ B).1 a L) (j4 a L)),hd.grow,hd.env⟩⟩
  ·rcases(hd.held _).1 y with z|z
   ·exact j2 z
   ·have:=(Y _ B).2;omega
  ·rcases(hd.may _).1 y with z|z
   ·exact j3 z
   ·have:=(Y _ B).2;omega
  ·rcases(hd.may _).1 y with z|z
   ·exact j4 a L z
   ·have:=(Y _ B).1 a L;omega
 have f:∀b,Kp By Rf Sg Fp b->some b≠(none:Option Nat):=fun b _ e=>by cases e
 have p1:=piece (U:=E.U) (cs:=cs) (S:=S) (X':=X') Ee N3 (Z.W (ow:=none) g_ f (fun g e=>by cases e))
  (R:=fun a' v=>∃T val,a'=zN x By Rf Sg Fp val (uA By k q st x X P (dM X P k st x) val)/\v.ownsRow w1.heap.size 173 2 val (dE (dM X P k st x) P k).length (ck (dE (dM X P k st x) P k))/\Go.RowKit.Below w1.heap.size (tp (KZ none w1) T) v)
  (fun T=>by
   have s:(tp (KZ none w1) T).heap.size=w1.heap.size:=uf;have h:=QE x By Rf Sg Fp k q st X P (tp (KZ none w1) T) (Z.reads f T) hX hP hk hs hx1 Vs;rw[s]at h;refine Code.wp_mono (fun e a w' d=>?_) h;obtain⟨I,val,rfl,N,h3⟩:=d;exact⟨I,rfl,T,val,rfl,N,h3⟩)
  (@R2 (gl By Rf Sg Fp g_) _ x By Rf Sg Fp (@gu (gl By Rf Sg Fp g_) _ _ (.inl (.inl rfl))) (@gu (gl By Rf Sg Fp g_) _ _ (.inl (.inr (.inl rfl)))) (@gu (gl By Rf Sg Fp g_) _ _ (.inl (.inr (.inr (.inl rfl))))) (@gu (gl By Rf Sg Fp g_) _ _ (.inl (.inr (.inr (.inr rfl))))))
  (fun b b' i e hu=>by
   obtain⟨I,rfl⟩:=(@jE (gl By Rf Sg Fp g_) _ _ _).1 e;exact absurd hu (hKU b (I.resolve_right fun y=>by cases y) i))
  (XZ w1 H)
  (fun b hb=>hW.ro b (C b (((@mD (gl By Rf Sg Fp g_) _ _).1 hb).resolve_right fun y=>by cases y)))
  (fun b hb=>by
   obtain⟨I,N⟩:=(@M6 (gl By Rf Sg Fp g_) _ _).1 hb;exact absurd (I.resolve_right fun y=>by cases y) N)
 refine(p1.inv _ hJ ⟨hW.ro,hW.mp,hW.mpx,hW.xJ,H⟩).bind fun S1 X1 g w2 hd=>?_;obtain⟨⟨r,a',t',v,hle,hWr,hS1,hX1,⟨T0,val,rfl,Q,ZY⟩,V,hva,rfl⟩,t⟩:=hd;clear p1;refine Tz.pure 1 fun w3 M=>?_;rw[cp1];have Vu:Fx w3:=K.rely S1 _ _ t.1 t.2.2.2.2 M;have hW3:=@Ren.W.rely (gl By Rf Sg Fp g_) _ _ _ _ _ _ hWr V ⟨fun a L=>M.kept a ((hS1 a).2 (.inl L)),M.grow,M.env⟩;have lB:By<w1.heap.size:=(Y w1 H).1 _ (C _ (.inl rfl));have lR:Rf<w1.heap.size:=(Y w1 H).1 _ (C _ (.inr (.inl rfl)));have lS:Sg<w1.heap.size:=(Y w1 H).1 _ (C _ (.inr (.inr (.inl rfl))));have au:(dM X P k st x).size<=300:=by unfold dM;rw[afO];omega
 have hL:(dE (dM X P k st x) P k).length<=1000:=afA (jS _ _ _ _) (by omega);have hL2:∀h∈dE (dM X P k st x) P k,h.1<=1000:=fun h d=>afA (oh _ _ _ _ h d) (by omega);have hgB:∀g,val.ownBlock=some g->g≠By:=fun g hg e=>by
  have:=(Q.lt g hg).1;omega
 have p2:=piece (U:=E.U) (cs:=cs) (S:=S1) (X':=X1) Ef N4 (Jx (K1 By Rf Sg Fp g_ pv) hW3)
  (R:=fun a' v2=>∃u2,a'=zN x By Rf Sg Fp val u2/\v2.ownsRow w1.heap.size 173 2 val (dE (dM X P k st x) P k).length (ck (rC X P k st x)))
  (fun T=>by
   have h:=QF x By Rf Sg Fp k q st X P (dE (dM X P k st x) P k) val (uA By k q st x X P (dM X P k st x) val) w1.heap.size (tp v T) (Reads.later (Z.reads f T0) ZY lB lR lS T) hgB hL hL2 (by omega) (by omega) Vs Q;refine Code.wp_mono (fun e a w' d=>?_) h;obtain⟨I,u2,rfl,N⟩:=d;exact⟨I,rfl,u2,rfl,N⟩)
  (lF (K1 By Rf Sg Fp g_ pv) hva) (fun b b' i e hu=>V b b' i e hu) (XZ w3 Vu) (fun b hb=>(hS1 b).2 (.inl hb)) (fun b hb=>(hX1 b).2 (.inl hb))
 refine(p2.inv _ hJ ⟨t.1,t.2.1,t.2.2.1,t.2.2.2.1,Vu⟩).bind fun S2 X2 g w4 hd=>?_;obtain⟨⟨r2,a2,t2,v2,ZZ,Z3,hS2,hX2,⟨u2,rfl,p⟩,u,J,rfl⟩,A⟩:=hd;clear p2
 letI:=gl By Rf Sg Fp pv
 have hFp:r2 Fp=some Fp:=ZZ _ _ (hle _ _ (@gu (gl By Rf Sg Fp g_) _ _ (.inl (.inr (.inr (.inr rfl))))));obtain⟨y4,e4,hv4⟩:=J.get (i:=4) (x:=ptr Fp) rfl;obtain rfl:=Vr hv4 hFp;obtain⟨y6,e6,hv6⟩:=J.get (i:=6) (x:=val) rfl;have s:t2.size=39:=J.size.symm;have hWS:E.Hw RO S2 X2:=⟨A.1,A.2.1,A.2.2.1,hW.fd,hW.wg,A.2.2.2.1⟩;have G:(rC X P k st x).length=(dE (dM X P k st x) P k).length:=im _ _ _;have hfr:∀sl,y6=sl->pY 138 39 pv (sA (NY Fp sl)) ⟨138,t2,pv,[],.run,.normal,none⟩:=fun sl e=>by
  subst e;refine⟨rfl,rfl,rfl,rfl,rfl,rfl,s,fun i y hy=>?_⟩;unfold sA NY at hy;by_cases h4:i=4
  ·subst h4;cases hy;show t2.getD 4 undef=_
   rw[afK,e4];rfl
  ·by_cases h6:i=6
   ·subst h6;cases hy;show t2.getD 6 undef=_
    rw[afK,e6];rfl
   ·have b4:(i==4)=false:=by simpa using h4
    have b6:(i==6)=false:=by simpa using h6
    simp[List.lookup,b4,b6]at hy
 rcases p.2 with⟨ev,en⟩|⟨g,cap,cur,ev,hg,d,hnc,hcm,ZX,TE⟩
 ·subst ev;cases hv6;exact F S2 X2 _ w4 none 0 0 hWS A.2.2.2.2 (hfr _ rfl) ⟨by rw[G,en],.inl ⟨rfl,rfl⟩⟩
 ·subst ev;cases hv6 with
  |@slice a a' l c ad=>
   obtain⟨I,N,h3⟩:=ad;obtain⟨m,o',s'⟩:=a';simp only at I N h3;subst N h3;obtain⟨o,o',ho,ho',hob⟩:=Z3.obj g m I;have O:¬Kp By Rf Sg Fp g:=fun y=>by
    have:=(Y w1 H).1 g (C g y);omega
   cases hob with
   |ro e n _ _=>exact absurd n O
   |same n hO=>
    rw[d]at ho;cases ho;cases hO with
    |cells e fz hv=>
     exact F S2 X2 _ w4 (some ⟨m,0,none⟩) _ cap hWS A.2.2.2.2 (hfr _ rfl) ⟨G.symm,.inr ⟨m,_,rfl,(hS2 m).2 (.inl ⟨g,I⟩),(hX2 m).2 (.inl ⟨g,I,O⟩),fun i hu=>(u g m i I hu).2,ho',N6 hv (Eg _) (by rw[zf,G]) TE⟩⟩
end
section
variable{P:Program}{main:Bool}{U:Nat->Nat->Prop}{D:(Nat->Prop)->(Nat->Prop)->Goroutine->World->Prop}{S X:Nat->Prop}
abbrev RU(U:Nat->Nat->Prop)(S:Nat->Prop):=az U S
abbrev DU(U:Nat->Nat->Prop)(S X:Nat->Prop):=fun w w1 es=>fj U S X w w1 es S X
theorem terms:Terms (RU U S) (DU U S X):=⟨fun _ _ _ h k=>h.trans k,fun w=>ay _ _ _⟩
theorem Tz.Qc{Stop:Goroutine->World->Prop}(k:∀g w,Stop g w->Tz P main U D S X g w):∀n {g:Goroutine} {w:World},Goes P main (RU U S) (DU U S X) Stop n g w->Tz P main U D S X g w
 |0,g,w,h=>k g w (h w (.refl _ _ _))
 |n+1,g,w,h=>by
  rcases h with h|⟨K,h⟩
  ·exact k g w (h w (.refl _ _ _))
  ·refine Tz.one K fun w2 hr=>?_;have au:=h w2 hr;revert au;generalize stepG P _ g w2=s;intro au;cases s with
   |go Y w' es=>exact⟨Y,w',es,S,X,rfl,au.1,Tz.Qc k n au.2⟩
   |_=>exact au.elim
theorem Tz.wpC{c:Code}{a:Act}{M:Act->World->Prop}(h:c.wpC P main (RU U S) (DU U S X) fn n (fun e a' w'=>e=.normal/\M a' w') a w){b:Frame}(hb:b.fn=fn)(hk:b.kind≠.early){k:List _}{cs:List _}
  (cont:∀a' w0 w',M a' w0->az U S w0 w'->Tz P main U D S X (G (b.at a' k) cs) w'):Tz P main U D S X (G (b.at a (.code c::k)) cs) w:=by
 refine Tz.Qc (Stop:=fun g w'=>∃a' w0,g=G (b.at a' k) cs/\M a' w0/\az U S w0 w') (fun g w' H=>?_) _ (h b k cs _ 0 hb hk fun e a' w' R=>?_)
 ·obtain⟨a',w0,rfl,Y,K⟩:=H;exact cont a' w0 w' Y K
 ·obtain⟨rfl,hm⟩:=R;exact fun w1 hr=>⟨a',w',rfl,hm,hr⟩
end
def nz(Fd b5:Nat)(v1 Y K H:Value)(u:Nat->Value):=#[.pointer (some ⟨Fd,0,none⟩),v1,u 2,u 3,u 4,.pointer (some ⟨b5,0,none⟩),u 6,u 7,u 8,u 9,u 10,u 11,u 12,u 13,u 14,Y,K,H,u 18,u 19,u 20,u 21,u 22,u 23,u 24,u 25,u 26,u 27,u 28,u 29,u 30,u 31,u 32,u 33,u 34,u 35,u 36,u 37,u 38,u 39,u 40,u 41,u 42,u 43,u 44,u 45,u 46,u 47]
theorem px(Fd b5:Nat)(v1 z p s a2 a3 a4 u v y a9 Y K a12 H I A B a20 a21 a22 a23 a24 a25 a26 a27 a28 a29 C a31 a32 a33 F a35 a36 a37 M N a40 a41 O V a44 G a46 W:Value):#[.pointer (some ⟨Fd,0,none⟩),v1,a2,a3,a4,.pointer (some ⟨b5,0,none⟩),u,v,y,a9,Y,K,a12,H,I,z,p,s,A,B,a20,a21,a22,a23,a24,a25,a26,a27,a28,a29,C,a31,a32,a33,F,a35,a36,a37,M,N,a40,a41,O,V,a44,G,a46,W]=nz Fd b5 v1 z p s (fun i=>[.tuple #[],.tuple #[],a2,a3,a4,.tuple #[],u,v,y,a9,Y,K,a12,H,I,.tuple #[],.tuple #[],.tuple #[],A,B,a20,a21,a22,a23,a24,a25,a26,a27,a28,a29,C,a31,a32,a33,F,a35,a36,a37,M,N,a40,a41,O,V,a44,G,a46,W].getD i (.tuple #[])):=rfl
noncomputable def Z4:=match afv.body with
 |some (.seq _ (.seq _ (.seq _ (.block _ (.loop (.seq _ (.seq _ (.seq (.block _ (.seq _ (.seq Y _))) _))))))))=>Y
 |_=>.skip
structure AF(Fd Mp b5:Nat)(e d:Int)(o:Option Obj)(w:World):Prop where
 m:w.cell? ⟨Fd,2,none⟩=some (.map (some Mp))
 c0:w.cell? ⟨b5,0,none⟩=some (.int .i64 e)
 c1:w.cell? ⟨b5,1,none⟩=some (.int .i64 d)
 o:w.heap[Mp]?=o
section
variable{U:Nat->Nat->Prop}{S X:Nat->Prop}{Fd Mp b5:Nat}{e d:Int}{o:Option Obj}
theorem km{es:Array _}(h:∀e∈es,(∃a:Addr,e.loc=.cell a/\e.sync=false/\e.write=false/\S a.block/\¬U a.block a.off)\/∃b,e.loc=.obj b/\e.sync=false/\e.write=false/\S b):DU U S X w w es:=
 ⟨⟨fun _ _ _=>rfl,afy _,fun a=>⟨.inl,fun h=>h.resolve_right fun y=>by omega⟩,fun a=>⟨.inl,fun h=>h.resolve_right fun y=>by omega⟩,fun e he=>by
  rcases h e he with⟨a,Y,K,D,H,R⟩|⟨b,Y,K,D,H⟩
  ·exact .inl ⟨a,Y,K,.inl ⟨H,fun y=>by simp_all⟩⟩
  ·exact .inr (.inl ⟨b,Y,K,.inl ⟨H,fun y=>by simp_all⟩⟩),rfl,.refl _,rfl⟩,fun e he b hb=>by
  rcases h e he with⟨a,Y,K,D,H,R⟩|⟨b,Y,K,D,H⟩
  ·simp_all
  ·simp_all⟩
theorem lets:LetsDraw (DU U S X):=fun w=>⟨⟨fun _ _ _=>rfl,afy _,fun a=>⟨.inl,fun h=>h.resolve_right fun y=>by have Y:=y.1;have K:=y.2;exact absurd K (Nat.not_lt.2 Y)⟩,fun a=>⟨.inl,fun h=>h.resolve_right fun y=>by have Y:=y.1;have K:=y.2;exact absurd K (Nat.not_lt.2 Y)⟩,fun e he=>by simp_all,rfl,.refl _,rfl⟩,fun e he=>by simp_all⟩
theorem Vv(w:World):RU U S w {w with drawn:=w.drawn+1}:=⟨fun a _=>.inl rfl,afy _,.refl _⟩
structure zg(U:Nat->Nat->Prop)(S:Nat->Prop)(Fd Mp b5:Nat):Prop where
 fd:S Fd
 mp:S Mp
 b:S b5
 u2:¬U Fd 2
 ub:∀i,¬U b5 i
 um:∀i,¬U Mp i
theorem cI{w1:World}{b i:Nat}{v:Value}(Y:S b)(hu:¬U b i)(h:w.cell? ⟨b,i,none⟩=some v)(r:RU U S w w1):w1.cell? ⟨b,i,none⟩=some v:=by
 rcases r.kept b Y with K|⟨c,c2,t,fz,_,H,D,R,I,_⟩
 ·simp only[afs]at h⊢;simp_all
 ·simp only[afs]at h⊢;simp_all
theorem AF.rely(H:zg U S Fd Mp b5){w w1:World}(h:AF Fd Mp b5 e d o w)(r:RU U S w w1):AF Fd Mp b5 e d o w1:=
 ⟨cI H.fd H.u2 h.m r,cI H.b (H.ub 0) h.c0 r,cI H.b (H.ub 1) h.c1 r,((r.kept Mp H.mp).eq H.um).trans h.o⟩
theorem tk(H:zg U S Fd Mp b5){K:Act->Prop}{P:Program}{md:Region.Mode}{ops:Array _}{i:Nat}{Y:Oper}{v:Value}{li:Array _}{a:Act}(B:ops[i]?=some Y)
  (C:af2 ops=true)(A:Region.free md ops li i=true)(hr:(Region.ready md ops li).contains i=true)
  (F:YieldsIfC P (DU U S X) fn ops (AF Fd Mp b5 e d o) Y v a)(I:AF Fd Mp b5 e d o w)(h:AnyCH P (RU U S) (DU U S X) fn md ops (fun ex a' w'=>ex=.normal/\K a'/\AF Fd Mp b5 e d o w') (AF Fd Mp b5 e d o) fuel (li.setIfInBounds i true) (a.put Y.dst v) w):
  AnyCH P (RU U S) (DU U S X) fn md ops (fun ex a' w'=>ex=.normal/\K a'/\AF Fd Mp b5 e d o w') (AF Fd Mp b5 e d o) (fuel+1) li a w:=
 anyCH_take terms (fun _ _ h r=>AF.rely H h r) (fun _ _ _ h r=>⟨h.1,h.2.1,AF.rely H h.2.2 r⟩) B C A hr F I h
theorem Vw(H:zg U S Fd Mp b5)(dd:List Deferred)(v1 A B C:Value)(u:Nat->Value)(x:Int)(bo:Bool)(N:∀w,AF Fd Mp b5 e d o w->(afm 166 (.map (some Mp)) (.int .i64 e) true).run Tryz.prog w=.ok (.tuple #[.int .i64 x,.bool bo]) w)
  (M:∀w,AF Fd Mp b5 e d o w->∀ev∈afr Tryz.prog (afm 166 (.map (some Mp)) (.int .i64 e) true) w #[],ev.loc=.obj Mp/\ev.sync=false/\ev.write=false):
  ∃k,∀w,AF Fd Mp b5 e d o w->Z4.wpC Tryz.prog false (RU U S) (DU U S X) 140 k (fun ex a' w'=>ex=.normal/\(∃I,I 6=.int .i64 x/\I 7=.bool bo/\a'=⟨nz Fd b5 v1 A B C I,dd⟩)/\AF Fd Mp b5 e d o w') ⟨nz Fd b5 v1 A B C u,dd⟩ w:=by
 have D:∀(t:Array Value) (I:Nat->Value) (w':World),t=nz Fd b5 v1 A B C I->I 6=.int .i64 x->I 7=.bool bo->AF Fd Mp b5 e d o w'->(fun(a':Act)=>∃I,I 6=.int .i64 x/\I 7=.bool bo/\a'=⟨nz Fd b5 v1 A B C I,dd⟩) ⟨t,dd⟩:=fun t I w' O P Q _=>⟨I,P,Q,by rw[O]⟩;generalize R:(fun(a':Act)=>∃I,I 6=.int .i64 x/\I 7=.bool bo/\a'=⟨nz Fd b5 v1 A B C I,dd⟩)=L at D;rw[show(fun(ex:Exit) (a':Act) (w':World)=>ex=.normal/\(∃I,I 6=.int .i64 x/\I 7=.bool bo/\a'=⟨nz Fd b5 v1 A B C I,dd⟩)/\AF Fd Mp b5 e d o w')=fun ex a' w'=>ex=.normal/\L a'/\AF Fd Mp b5 e d o w' by rw[<-R]];clear R
 co_apply Exists.intro
 intro w hF;unfold Z4 afv;dsimp only;rw[show nz Fd b5 v1 A B C u=_ from rfl];simp only[nz];have T:∀{w w1:World},AF Fd Mp b5 e d o w->RU U S w w1->AF Fd Mp b5 e d o w1:=fun h r=>AF.rely H h r
 co_held (terms (U:=U) (S:=S) (X:=X)) lets Vv (AF Fd Mp b5 e d o) T hF
 refine tk H (i:=0) (v:=.pointer (some ⟨Fd,0,none⟩)) rfl (by decide+kernel) (by decide+kernel) (by decide+kernel) (.inl ⟨by rfl,fun w2 hw=>⟨run_eq_of (fun K Y=>by go_simp;exact Y),by co_quiet (terms (U:=U) (S:=S) (X:=X))⟩⟩) hF ?_;try walk_nrm
 refine tk H (i:=1) (v:=.pointer (some ⟨Fd,0,none⟩)) rfl (by decide+kernel) (by decide+kernel) (by decide+kernel) (.inl ⟨by rfl,fun w2 hw=>⟨run_eq_of (fun K Y=>by go_simp;exact Y),by co_quiet (terms (U:=U) (S:=S) (X:=X))⟩⟩) hF ?_;try walk_nrm
 refine tk H (i:=2) (v:=.pointer (some ⟨Fd,2,none⟩)) rfl (by decide+kernel) (by decide+kernel) (by decide+kernel) (.inl ⟨by rfl,fun w2 hw=>⟨run_eq_of (fun K Y=>by go_simp;exact Y),by co_quiet (terms (U:=U) (S:=S) (X:=X))⟩⟩) hF ?_;try walk_nrm
 refine tk H (i:=3) (v:=.map (some Mp)) rfl (by decide+kernel) (by decide+kernel) (by decide+kernel) (.inl ⟨by rfl,fun w2 hw=>⟨run_eq_of (fun K Y=>by have F:=hw.m;go_simp;exact Y),km (by have F:=hw.m;co_evs (exact .inl ⟨_,rfl,rfl,rfl,H.fd,H.u2⟩))⟩⟩) hF ?_;try walk_nrm
 refine tk H (i:=4) (v:=.pointer (some ⟨b5,0,none⟩)) rfl (by decide+kernel) (by decide+kernel) (by decide+kernel) (.inl ⟨by rfl,fun w2 hw=>⟨run_eq_of (fun K Y=>by go_simp;exact Y),by co_quiet (terms (U:=U) (S:=S) (X:=X))⟩⟩) hF ?_;try walk_nrm
 refine tk H (i:=5) (v:=.int .i64 e) rfl (by decide+kernel) (by decide+kernel) (by decide+kernel) (.inl ⟨by rfl,fun w2 hw=>⟨run_eq_of (fun K Y=>by have F:=hw.c0;go_simp;exact Y),km (by have F:=hw.c0;co_evs (exact .inl ⟨_,rfl,rfl,rfl,H.b,H.ub 0⟩))⟩⟩) hF ?_;try walk_nrm
 refine tk H (i:=6) (v:=.tuple #[.int .i64 x,.bool bo]) rfl (by decide+kernel) (by decide+kernel) (by decide+kernel) (.inl ⟨by rfl,fun w2 hw=>⟨run_eq_of (fun K Y=>by have F:=N w2 hw;go_simp;exact Y),km (by intro ev he;have hm:=mem_listed he;simp[go_sem]at hm;have J:=M w2 hw ev hm;exact .inr ⟨Mp,J.1,J.2.1,J.2.2,H.mp⟩)⟩⟩) hF ?_;try walk_nrm
 refine tk H (i:=7) (v:=.tuple #[.int .i64 x,.bool bo]) rfl (by decide+kernel) (by decide+kernel) (by decide+kernel) (.inl ⟨by rfl,fun w2 hw=>⟨run_eq_of (fun K Y=>by go_simp;exact Y),by co_quiet (terms (U:=U) (S:=S) (X:=X))⟩⟩) hF ?_;try walk_nrm
 refine tk H (i:=8) (v:=.int .i64 x) rfl (by decide+kernel) (by decide+kernel) (by decide+kernel) (.inl ⟨by rfl,fun w2 hw=>⟨run_eq_of (fun K Y=>by go_simp;exact Y),by co_quiet (terms (U:=U) (S:=S) (X:=X))⟩⟩) hF ?_;try walk_nrm
 refine tk H (i:=9) (v:=.bool bo) rfl (by decide+kernel) (by decide+kernel) (by decide+kernel) (.inl ⟨by rfl,fun w2 hw=>⟨run_eq_of (fun K Y=>by go_simp;exact Y),by co_quiet (terms (U:=U) (S:=S) (X:=X))⟩⟩) hF ?_;try walk_nrm
 refine tk H (i:=10) (v:=.int .i64 x) rfl (by decide+kernel) (by decide+kernel) (by decide+kernel) (.inl ⟨by rfl,fun w2 hw=>⟨run_eq_of (fun K Y=>by go_simp;exact Y),by co_quiet (terms (U:=U) (S:=S) (X:=X))⟩⟩) hF ?_;try walk_nrm
 refine tk H (i:=11) (v:=.bool bo) rfl (by decide+kernel) (by decide+kernel) (by decide+kernel) (.inl ⟨by rfl,fun w2 hw=>⟨run_eq_of (fun K Y=>by go_simp;exact Y),by co_quiet (terms (U:=U) (S:=S) (X:=X))⟩⟩) hF ?_;try walk_nrm
 refine anyCH_done (by first|kernel_rfl|decide+kernel) ?_ _;exact⟨rfl,D _ _ _ (px Fd b5 v1 A B C _ _ _ _ _ _ _ _ _ _ _ _ _ _ _ _ _ _ _ _ _ _ _ _ _ _ _ _ _ _ _ _ _ _ _ _ _ _ _ _ _ _) rfl rfl hF,hF⟩
end
noncomputable def Z5:=match afv.body with
 |some (.seq _ (.seq _ (.seq _ (.block _ (.loop (.seq _ (.seq _ (.seq (.block _ (.seq _ (.seq _ (.seq _ (.cond _ Y _))))) _))))))))=>Y
 |_=>.skip
structure AG(Fd Mp b5:Nat)(e d:Int)(w:World):Prop where
 m:w.cell? ⟨Fd,2,none⟩=some (.map (some Mp))
 c0:w.cell? ⟨b5,0,none⟩=some (.int .i64 e)
 c1:w.cell? ⟨b5,1,none⟩=some (.int .i64 d)
section
variable{U:Nat->Nat->Prop}{S X:Nat->Prop}{Fd Mp b5:Nat}{e d:Int}{o:Option Obj}
theorem AG.rely(H:zg U S Fd Mp b5){w w1:World}(h:AG Fd Mp b5 e d w)(r:RU U S w w1):AG Fd Mp b5 e d w1:=
 ⟨cI H.fd H.u2 h.m r,cI H.b (H.ub 0) h.c0 r,cI H.b (H.ub 1) h.c1 r⟩
theorem Qd(H:zg U S Fd Mp b5){K:Act->Prop}{P:Program}{md:Region.Mode}{ops:Array _}{i:Nat}{Y:Oper}{v:Value}{li:Array _}{a:Act}(B:ops[i]?=some Y)
  (C:af2 ops=true)(A:Region.free md ops li i=true)(hr:(Region.ready md ops li).contains i=true)
  (F:YieldsIfC P (DU U S X) fn ops (AG Fd Mp b5 e d) Y v a)(I:AG Fd Mp b5 e d w)(h:AnyCH P (RU U S) (DU U S X) fn md ops (fun ex a' w'=>ex=.normal/\K a'/\AF Fd Mp b5 e d o w') (AG Fd Mp b5 e d) fuel (li.setIfInBounds i true) (a.put Y.dst v) w):
  AnyCH P (RU U S) (DU U S X) fn md ops (fun ex a' w'=>ex=.normal/\K a'/\AF Fd Mp b5 e d o w') (AG Fd Mp b5 e d) (fuel+1) li a w:=
 anyCH_take terms (fun _ _ h r=>AG.rely H h r) (fun _ _ _ h r=>⟨h.1,h.2.1,AF.rely H h.2.2 r⟩) B C A hr F I h
theorem K6{P:Program}{R:World->World->Prop}{D:World->World->Array _->Prop}{ops:Array _}{i:Nat}{K:Act->World->Prop}{a:Act}{o:Oper}(I:ops[i]?=some o)(hw:afT o (yielded ops a.tmps)=true)
  (h:∀w1,R w w1->∀Z:Result _->Prop,(∀w',D w1 w' (listed P fn a o w1)->K (a.put o.dst undef) w'->Z (.ok .skip w'))->Z ((execOp a.eval o).run P w1)):OpC P R D fn ops i K a w:=by
 unfold OpC;rw[I];dsimp only;rw[if_pos hw];exact fun w1 hr=>h w1 hr _ fun w' Y H=>⟨Y,H⟩
theorem ug{w1:World}{b i g:Nat}(h:Env.Eff g w w1)(hb:b≠g):w1.cell? ⟨b,i,none⟩=w.cell? ⟨b,i,none⟩:=by
 simp[afs];rw[h.heap b hb]
theorem K8{w1:World}{es:Array _}(hX:X Mp)(Y:S Mp)(h:Env.Eff Mp w w1)(he:∀ev∈es,ev.loc=.obj Mp/\ev.sync=false):DU U S X w w1 es:=
 ⟨⟨fun a _ K=>h.heap a fun e=>K (e▸hX),afV h.size.symm,fun a=>⟨.inl,fun y=>y.resolve_right fun z=>by have:=h.size;omega⟩,fun a=>⟨.inl,fun y=>y.resolve_right fun z=>by have:=h.size;omega⟩,fun ev hm=>.inr (.inl ⟨Mp,(he ev hm).1,(he ev hm).2,.inl ⟨Y,fun _=>hX⟩⟩),h.tape,h.env,h.output⟩,fun ev hm a H=>by simp_all⟩
theorem Vx(H:zg U S Fd Mp b5)(hX:X Mp)(V:Fd≠Mp)(O:b5≠Mp)(dd:List Deferred)(v1 Y I A:Value)(u:Nat->Value)(o':Option Obj)
  (p:∀w,w.heap[Mp]?=o->∃v w',(afh 166 (.map (some Mp)) (.int .i64 e) (.int .i64 d)).run Tryz.prog w=.ok v w'/\Env.Eff Mp w w'/\w'.heap[Mp]?=o')
  (z:∀w,w.heap[Mp]?=o->∀ev∈afr Tryz.prog (afh 166 (.map (some Mp)) (.int .i64 e) (.int .i64 d)) w #[],ev.loc=.obj Mp/\ev.sync=false):
  ∃k,∀w,AF Fd Mp b5 e d o w->Z5.wpC Tryz.prog false (RU U S) (DU U S X) 140 k (fun ex a' w'=>ex=.normal/\(∃C,a'=⟨nz Fd b5 v1 Y I A C,dd⟩)/\AF Fd Mp b5 e d o' w') ⟨nz Fd b5 v1 Y I A u,dd⟩ w:=by
 have F:∀(t:Array Value) (C:Nat->Value),t=nz Fd b5 v1 Y I A C->(fun(a':Act)=>∃C,a'=⟨nz Fd b5 v1 Y I A C,dd⟩) ⟨t,dd⟩:=fun t C g=>⟨C,by rw[g]⟩;generalize L:(fun(a':Act)=>∃C,a'=⟨nz Fd b5 v1 Y I A C,dd⟩)=f at F;rw[show(fun(ex:Exit) (a':Act) (w':World)=>ex=.normal/\(∃C,a'=⟨nz Fd b5 v1 Y I A C,dd⟩)/\AF Fd Mp b5 e d o' w')=fun ex a' w'=>ex=.normal/\f a'/\AF Fd Mp b5 e d o' w' by rw[<-L]];clear L
 co_apply Exists.intro
 intro w B;have hF:AG Fd Mp b5 e d w:=⟨B.m,B.c0,B.c1⟩;have M:=B.o;clear B;unfold Z5 afv;dsimp only;rw[show nz Fd b5 v1 Y I A u=_ from rfl];simp only[nz]
 co_apply wpC_region_held (terms (U:=U) (S:=S) (X:=X)) lets (S:=AG Fd Mp b5 e d) (by first|kernel_rfl|rfl)
 intro w1 G;replace hF:=AG.rely H (AG.rely H hF G) (Vv w1);replace M:=((G.kept Mp H.mp).eq H.um).trans M;replace M:({w1 with drawn:=w1.drawn+1}:World).heap[Mp]?=o:=M;generalize({w1 with drawn:=w1.drawn+1}:World)=r at *;clear G w1;refine Qd H (i:=0) (v:=.pointer (some ⟨Fd,0,none⟩)) rfl (by decide+kernel) (by decide+kernel) (by decide+kernel) (.inl ⟨by rfl,fun w2 hw=>⟨run_eq_of (fun K D=>by go_simp;exact D),by co_quiet (terms (U:=U) (S:=S) (X:=X))⟩⟩) hF ?_;try walk_nrm
 refine Qd H (i:=1) (v:=.pointer (some ⟨Fd,0,none⟩)) rfl (by decide+kernel) (by decide+kernel) (by decide+kernel) (.inl ⟨by rfl,fun w2 hw=>⟨run_eq_of (fun K D=>by go_simp;exact D),by co_quiet (terms (U:=U) (S:=S) (X:=X))⟩⟩) hF ?_;try walk_nrm
 refine Qd H (i:=2) (v:=.pointer (some ⟨Fd,2,none⟩)) rfl (by decide+kernel) (by decide+kernel) (by decide+kernel) (.inl ⟨by rfl,fun w2 hw=>⟨run_eq_of (fun K D=>by go_simp;exact D),by co_quiet (terms (U:=U) (S:=S) (X:=X))⟩⟩) hF ?_;try walk_nrm
 refine Qd H (i:=3) (v:=.map (some Mp)) rfl (by decide+kernel) (by decide+kernel) (by decide+kernel) (.inl ⟨by rfl,fun w2 hw=>⟨run_eq_of (fun K D=>by have P:=hw.m;go_simp;exact D),km (by have P:=hw.m;co_evs (exact .inl ⟨_,rfl,rfl,rfl,H.fd,H.u2⟩))⟩⟩) hF ?_;try walk_nrm
 refine Qd H (i:=4) (v:=.pointer (some ⟨b5,0,none⟩)) rfl (by decide+kernel) (by decide+kernel) (by decide+kernel) (.inl ⟨by rfl,fun w2 hw=>⟨run_eq_of (fun K D=>by go_simp;exact D),by co_quiet (terms (U:=U) (S:=S) (X:=X))⟩⟩) hF ?_;try walk_nrm
 refine Qd H (i:=5) (v:=.int .i64 e) rfl (by decide+kernel) (by decide+kernel) (by decide+kernel) (.inl ⟨by rfl,fun w2 hw=>⟨run_eq_of (fun K D=>by have P:=hw.c0;go_simp;exact D),km (by have P:=hw.c0;co_evs (exact .inl ⟨_,rfl,rfl,rfl,H.b,H.ub 0⟩))⟩⟩) hF ?_;try walk_nrm
 refine Qd H (i:=6) (v:=.pointer (some ⟨b5,1,none⟩)) rfl (by decide+kernel) (by decide+kernel) (by decide+kernel) (.inl ⟨by rfl,fun w2 hw=>⟨run_eq_of (fun K D=>by go_simp;exact D),by co_quiet (terms (U:=U) (S:=S) (X:=X))⟩⟩) hF ?_;try walk_nrm
 refine Qd H (i:=7) (v:=.int .i64 d) rfl (by decide+kernel) (by decide+kernel) (by decide+kernel) (.inl ⟨by rfl,fun w2 hw=>⟨run_eq_of (fun K D=>by have P:=hw.c1;go_simp;exact D),km (by have P:=hw.c1;co_evs (exact .inl ⟨_,rfl,rfl,rfl,H.b,H.ub 1⟩))⟩⟩) hF ?_;try walk_nrm
 refine anyCH_all (rs:=[8]) (by decide+kernel) (by simp) fun i j=>?_;simp only[List.mem_singleton]at j;subst j;refine K6 rfl (by rfl) fun w1 Q Z q=>?_;have N:w1.heap[Mp]?=o:=((Q.kept Mp H.mp).eq H.um).trans M;have J:=AG.rely H hF Q;obtain⟨v,w',c,R,E⟩:=p w1 N;have l:=z w1 N;have T:AG Fd Mp b5 e d w':=⟨(ug R V).trans J.m,(ug R O).trans J.c0,(ug R O).trans J.c1⟩;have W:=q w' (K8 hX H.mp R fun ev he=>by
  have hm:=mem_listed he;simp[go_sem]at hm;exact l ev hm) ⟨T,anyCH_done (by first|kernel_rfl|decide+kernel) ⟨rfl,F _ _ (px Fd b5 v1 Y I A _ _ _ _ _ _ _ _ _ _ _ _ _ _ _ _ _ _ _ _ _ _ _ _ _ _ _ _ _ _ _ _ _ _ _ _ _ _ _ _ _ _),T.m,T.c0,T.c1,E⟩ _⟩
 clear q
 go_simp
 exact W
end
noncomputable def Vy:=match afv.body with
 |some (.seq _ (.seq _ (.seq _ (.block _ (.loop (.seq _ (.seq _ (.seq (.block _ (.seq _ (.seq _ (.seq Y _)))) _))))))))=>Y
 |_=>.skip
section
variable{U:Nat->Nat->Prop}{S X:Nat->Prop}{Fd Mp b5:Nat}{e d:Int}{o:Option Obj}
theorem R4(H:zg U S Fd Mp b5)(dd:List Deferred)(v1 Y K I:Value)(u:Nat->Value)(M:u 7=.bool false):
  ∃k,∀w,AF Fd Mp b5 e d o w->Vy.wpC Tryz.prog false (RU U S) (DU U S X) 140 k (fun ex a' w'=>ex=.normal/\(∃A,A 38=.bool true/\a'=⟨nz Fd b5 v1 Y K I A,dd⟩)/\AF Fd Mp b5 e d o w') ⟨nz Fd b5 v1 Y K I u,dd⟩ w:=by
 have D:∀(t:Array Value) (A:Nat->Value) (w':World),t=nz Fd b5 v1 Y K I A->A 38=.bool true->AF Fd Mp b5 e d o w'->(fun(ex:Exit) (a':Act) w'=>ex=.normal/\(∃A,A 38=.bool true/\a'=⟨nz Fd b5 v1 Y K I A,dd⟩)/\AF Fd Mp b5 e d o w') .normal ⟨t,dd⟩ w':=fun t A w' B C F=>⟨rfl,⟨A,C,by rw[B]⟩,F⟩
 co_apply Exists.intro
 intro w hF;simp only[nz,M];have R:∀{w w1:World},AF Fd Mp b5 e d o w->RU U S w w1->AF Fd Mp b5 e d o w1:=fun h r=>AF.rely H h r
 co_reg (terms (U:=U) (S:=S) (X:=X))
 co_op R hF (co_quiet (terms (U:=U) (S:=S) (X:=X)))
 co_op R hF (co_quiet (terms (U:=U) (S:=S) (X:=X)))
 co_op R hF (co_quiet (terms (U:=U) (S:=S) (X:=X)))
 co_apply opsC_unwanted (terms (U:=U) (S:=S) (X:=X)) rfl (by rfl)
 co_apply opsC_unwanted (terms (U:=U) (S:=S) (X:=X)) rfl (by rfl)
 co_apply opsC_unwanted (terms (U:=U) (S:=S) (X:=X)) rfl (by rfl)
 try walk_nrm
 co_apply opsC_unwanted (terms (U:=U) (S:=S) (X:=X)) rfl (by rfl)
 co_op R hF (co_quiet (terms (U:=U) (S:=S) (X:=X)))
 co_apply opsC_nil (terms (U:=U))
 exact D _ _ _ (px Fd b5 v1 Y K I _ _ _ _ _ _ _ _ _ _ _ _ _ _ _ _ _ _ _ _ _ _ _ _ _ _ _ _ _ _ _ _ _ _ _ _ _ _ _ _ _ _) rfl hF
theorem N8(H:zg U S Fd Mp b5)(dd:List Deferred)(v1 Y K I:Value)(u:Nat->Value)(N:u 7=.bool true)(x:Int)(M:u 6=.int .i64 x):
  ∃k,∀w,AF Fd Mp b5 e d o w->Vy.wpC Tryz.prog false (RU U S) (DU U S X) 140 k (fun ex a' w'=>ex=.normal/\(∃A,A 38=.bool (decide (d<x))/\a'=⟨nz Fd b5 v1 Y K I A,dd⟩)/\AF Fd Mp b5 e d o w') ⟨nz Fd b5 v1 Y K I u,dd⟩ w:=by
 have R:∀(t:Array Value) (A:Nat->Value) (w':World),t=nz Fd b5 v1 Y K I A->A 38=.bool (decide (d<x))->AF Fd Mp b5 e d o w'->(fun(ex:Exit) (a':Act) (w':World)=>ex=.normal/\(∃A,A 38=.bool (decide (d<x))/\a'=⟨nz Fd b5 v1 Y K I A,dd⟩)/\AF Fd Mp b5 e d o w') .normal ⟨t,dd⟩ w':=fun t A w' B C F=>⟨rfl,⟨A,C,by rw[B]⟩,F⟩
 co_apply Exists.intro
 intro w hF;unfold Vy afv;dsimp only;simp only[nz,N,M];have D:∀{w w1:World},AF Fd Mp b5 e d o w->RU U S w w1->AF Fd Mp b5 e d o w1:=fun h r=>AF.rely H h r
 co_reg (terms (U:=U) (S:=S) (X:=X))
 co_op D hF (co_quiet (terms (U:=U) (S:=S) (X:=X)))
 co_op D hF (co_quiet (terms (U:=U) (S:=S) (X:=X)))
 co_op D hF (co_quiet (terms (U:=U) (S:=S) (X:=X)))
 co_op D hF (co_quiet (terms (U:=U) (S:=S) (X:=X)))
 co_opw D hF (have J:=hF.c1) (exact km (by have J:=hF.c1;co_evs (exact .inl ⟨_,rfl,rfl,rfl,H.b,H.ub 1⟩)))
 co_op D hF (co_quiet (terms (U:=U) (S:=S) (X:=X)))
 co_op D hF (co_quiet (terms (U:=U) (S:=S) (X:=X)))
 co_op D hF (co_quiet (terms (U:=U) (S:=S) (X:=X)))
 co_apply opsC_nil (terms (U:=U) (S:=S) (X:=X))
 exact R _ _ _ (px Fd b5 v1 Y K I _ _ _ _ _ _ _ _ _ _ _ _ _ _ _ _ _ _ _ _ _ _ _ _ _ _ _ _ _ _ _ _ _ _ _ _ _ _ _ _ _ _) rfl hF
end
section
variable{P:Program}{main:Bool}{U:Nat->Nat->Prop}{D:(Nat->Prop)->(Nat->Prop)->Goroutine->World->Prop}{S X:Nat->Prop}{b:Frame}{a:Act}{k:List Item}{cs:List Frame}{w:World}
theorem Tz.op{ops:Array _}{i:Nat}{rest:List Nat}{o:Oper}(I:ops[i]?=some o)(hw:afT o (yielded ops a.tmps)=true)(hk:b.kind≠.early)
  (h:∀w2,az U S w w2->uponK o a (fun a' w'=>∃S1 X1,fj U S X w2 w' (listed P b.fn a o w2) S1 X1/\Tz P main U D S1 X1 (G (b.at a' (.inRegion ops rest::k)) cs) w') ((execOp a.eval o).run P w2)):
  Tz P main U D S X (G (b.at a (.inRegion ops (i::rest)::k)) cs) w:=by
 refine Tz.one rfl fun w2 hr=>?_;have Y:(stepG P main (G (b.at a (.inRegion ops (i::rest)::k)) cs) w2).goes fun K w' es=>∃S1 X1,fj U S X w2 w' es S1 X1/\Tz P main U D S1 X1 K w':=by
  refine goes_oper I hw hk ?_;have:=h w2 hr;revert this;cases(execOp _ o).run P w2 with
  |ok x w'=>cases x<;>exact id
  |halt _ _=>exact id
 revert Y;generalize stepG P _ _ w2=s;intro Y;cases s with
 |go K w' es=>
  obtain⟨S1,X1,H,R⟩:=Y;exact⟨K,w',es,S1,X1,rfl,H,R⟩
 |_=>exact Y.elim
theorem Tz.R5{ops:Array _}{i:Nat}{rest:List Nat}{o:Oper}(Y:ops[i]?=some o)(hw:afT o (yielded ops a.tmps)=true)(hk:b.kind≠.early)
  (h:∀w2,az U S w w2->∀K,(∀a' w',(∃S1 X1,fj U S X w2 w' (listed P b.fn a o w2) S1 X1/\Tz P main U D S1 X1 (G (b.at a' (.inRegion ops rest::k)) cs) w')->K a' w')->uponK o a K ((execOp a.eval o).run P w2)):
  Tz P main U D S X (G (b.at a (.inRegion ops (i::rest)::k)) cs) w:=
 Tz.op Y hw hk fun w2 hr=>h w2 hr _ fun _ _ x=>x
theorem Tz.quiet{g:Goroutine}(Y:g.status=.running)(e:∀w,stepG P main g w=.go g1 w #[])(h:∀w2,az U S w w2->Tz P main U D S X g1 w2):Tz P main U D S X g w:=
 Tz.one Y fun w2 hr=>⟨g1,w2,#[],S,X,e w2,ay _ _ _,h w2 hr⟩
theorem Tz.region{id:Nat}{ops:Array _}(h:∀w2,az U S w w2->Tz P main U D S X (G (b.at a (.inRegion ops (List.range ops.size)::k)) cs) w2):Tz P main U D S X (G (b.at a (.code (.region id ops false)::k)) cs) w:=
 Tz.quiet rfl (fun w=>stepG_region) h
theorem Tz.qC{ops:Array _}(h:∀w2,az U S w w2->Tz P main U D S X (G (b.at a k) cs) w2):Tz P main U D S X (G (b.at a (.inRegion ops []::k)) cs) w:=
 Tz.quiet rfl (fun w=>stepG_region_end) h
end
def vq(Fd:Nat)(v1 v5 Y K H:Value)(u:Nat->Value):=#[.pointer (some ⟨Fd,0,none⟩),v1,u 2,u 3,u 4,v5,u 6,u 7,u 8,u 9,u 10,u 11,u 12,u 13,u 14,Y,K,H,u 18,u 19,u 20,u 21,u 22,u 23,u 24,u 25,u 26,u 27,u 28,u 29,u 30,u 31,u 32,u 33,u 34,u 35,u 36,u 37,u 38,u 39,u 40,u 41,u 42,u 43,u 44,u 45,u 46,u 47]
noncomputable def Z6:=match afv.body with
 |some (.seq _ (.seq _ (.seq _ (.block _ (.loop (.seq _ (.seq _ (.seq (.block _ (.seq Y _)) _))))))))=>Y
 |_=>.skip
section
variable{U:Nat->Nat->Prop}{D:(Nat->Prop)->(Nat->Prop)->Goroutine->World->Prop}{S X:Nat->Prop}{Fd g:Nat}{e d:Int}
theorem qD(o:Obj):fj U S X w (w.alloc o) #[] (fun a=>S a\/a=w.heap.size) (fun a=>X a\/a=w.heap.size):=by
 have K:(w.alloc o).heap.size=w.heap.size+1:=by simp
 refine⟨⟨fun a Y _=>heap_alloc_old w o Y,by omega,fun a=>?_,fun a=>?_,fun e he=>by simp_all,rfl,.refl _,rfl⟩,fun e he=>by simp_all⟩
 ·exact⟨fun h=>h.imp id fun y=>by omega,fun h=>h.imp id fun y=>by omega⟩
 ·exact⟨fun h=>h.imp id fun y=>by omega,fun h=>h.imp id fun y=>by omega⟩
theorem qE{w1:World}{b:Nat}{es:Array _}(I:S b)(hX:X b)(hu:∀i,¬U b i)(h:Env.Eff b w w1)(he:∀ev∈es,∃a:Addr,ev.loc=.cell a/\ev.sync=false/\a.block=b):fj U S X w w1 es S X:=
 ⟨⟨fun a _ D=>h.heap a fun e=>D (e▸hX),afV h.size.symm,fun a=>⟨.inl,fun y=>y.resolve_right fun z=>by have:=h.size;omega⟩,fun a=>⟨.inl,fun y=>y.resolve_right fun z=>by have:=h.size;omega⟩,fun ev hm=>by
  obtain⟨a,K,H,Y⟩:=he ev hm;exact .inl ⟨a,K,H,.inl ⟨Y▸I,fun _=>Y▸hX⟩⟩,h.tape,h.env,h.output⟩,fun ev hm a R=>by
  obtain⟨a',K,H,Y⟩:=he ev hm;simp_all⟩
theorem ic{b i:Nat}(v:Value):Env.Eff b w (w.setCell ⟨b,i,none⟩ v):=⟨fun a Y=>heap_setCell_other w _ a v Y,by simp,rfl,.refl _,rfl⟩
theorem mQ{w1:World}{b:Nat}(h:Env.Eff b w w1)(k:Env.Eff b w1 w2):Env.Eff b w w2:=⟨fun a Y=>(k.heap a Y).trans (h.heap a Y),k.size.trans h.size,k.tape.trans h.tape,k.env.trans h.env,k.output.trans h.output⟩
theorem Vz{b:Frame}{k:List Item}(hb:b.fn=140)(hk:b.kind≠.early)(dd:List Deferred)(v1 v5 V:Value)(u:Nat->Value)(i n cap:Nat)(h:i<n)(W:S g)
  (v:∀w2,az U S w w2->w2.cell? ⟨g,i *2,none⟩=some (.int .i64 e)/\w2.cell? ⟨g,i *2+1,none⟩=some (.int .i64 d))(p:∀i,¬U g i)(s:∀b i,U b i->b<w.heap.size)(z:∀a,S a->a<w.heap.size)
  (cont:∀C w2 m,w.heap.size<=C->(∀i,¬U C i)->w2.cell? ⟨C,0,none⟩=some (.int .i64 e)->w2.cell? ⟨C,1,none⟩=some (.int .i64 d)->C<w2.heap.size->az U S w w2->
   Tz Tryz.prog false U D (fun a=>S a\/a=C) (fun a=>X a\/a=C) (G (b.at ⟨nz Fd C v1 (.slice (some ⟨g,0,none⟩) n cap) V (.int .i64 (i:Int)) m,dd⟩ k) cs) w2):
  Tz Tryz.prog false U D S X (G (b.at ⟨vq Fd v1 v5 (.slice (some ⟨g,0,none⟩) n cap) V (.int .i64 (i:Int)) u,dd⟩ (.code Z6::k)) cs) w:=by
 have b1:(i:Int)<(n:Int):=by omega
 have b2:(0:Int)<=(i:Int):=Int.natCast_nonneg _;unfold Z6 afv;dsimp only;simp only[vq];refine Tz.region fun w1 J=>?_;refine Tz.R5 rfl (by rfl) hk fun w2 L K H=>?_
 go_simp
 refine H _ _ ⟨S,X,?_,?_⟩
 ·rw[listed_nil (by simp[go_sem, *])];exact ay _ _ _
 clear H K;try walk_nrm
 refine Tz.R5 rfl (by rfl) hk fun w3 M K H=>?_;obtain⟨x,t⟩:=v w3 ((J.trans L).trans M)
 go_simp
 refine H _ _ ⟨S,X,km fun ev he=>?_,?_⟩
 ·have hm:=mem_listed he;simp[go_sem, *]at hm;rcases hm with rfl|rfl
  ·exact .inl ⟨_,rfl,rfl,rfl,W,p _⟩
  ·exact .inl ⟨_,rfl,rfl,rfl,W,p _⟩
 clear H K;try walk_nrm
 refine Tz.R5 rfl (by rfl) hk fun w4 T K H=>?_
 go_simp
 refine H _ _ ⟨_,_,(by rw[listed_nil (by simp[go_sem, *])];exact qD _),?_⟩;clear H K;try walk_nrm
 have B:∀i,¬U w4.heap.size i:=fun j hu=>by
  have Z:=s _ _ hu;have o:=(((J.trans L).trans M).trans T).grow;omega
 have Q:(w4.alloc (.cells #[.int .i64 0,.int .i64 0] 173)).heap[w4.heap.size]?=some (.cells #[.int .i64 0,.int .i64 0] 173):=heap_alloc_new w4 _;refine Tz.R5 rfl (by rfl) hk fun F N K H=>?_;have R:=((N.kept _ (.inr rfl)).eq B).trans Q;have f0:F.cell? ⟨w4.heap.size,0,none⟩=some (.int .i64 0):=by rw[cell_of_row _ _ 0 _ _ _ R];rfl
 have f1:F.cell? ⟨w4.heap.size,1,none⟩=some (.int .i64 0):=by rw[cell_of_row _ _ 1 _ _ _ R];rfl
 have z0:F.frozen? ⟨w4.heap.size,0,none⟩=false:=frozen_of_row _ _ 0 _ _ R;have z1:F.frozen? ⟨w4.heap.size,1,none⟩=false:=frozen_of_row _ _ 1 _ _ R
 go_simp
 try(unfold stored;go_simp)
 have I:Env.Eff w4.heap.size F ((F.setCell ⟨w4.heap.size,0,none⟩ (.int .i64 e)).setCell ⟨w4.heap.size,1,none⟩ (.int .i64 d)):=mQ (ic _) (ic _);have q:((F.setCell ⟨w4.heap.size,0,none⟩ (.int .i64 e)).setCell ⟨w4.heap.size,1,none⟩ (.int .i64 d)).heap[w4.heap.size]?=some (.cells #[.int .i64 e,.int .i64 d] 173):=by
  have Z:=heap_setCell_same F w4.heap.size 0 _ _ (.int .i64 e) R;rw[heap_setCell_same _ w4.heap.size 1 _ _ (.int .i64 d) Z];rfl
 refine H _ _ ⟨_,_,qE (.inr rfl) (.inr rfl) B I fun ev he=>?_,?_⟩
 ·have hm:=mem_listed he;simp[go_sem, *]at hm;rcases hm with rfl|rfl
  ·exact⟨_,rfl,rfl,rfl⟩
  ·exact⟨_,rfl,rfl,rfl⟩
 clear H K;try walk_nrm
 refine Tz.qC fun E O=>?_;have Y:=((J.trans L).trans M).trans T;have A:E.heap[w4.heap.size]?=some (.cells #[.int .i64 e,.int .i64 d] 173):=((O.kept _ (.inr rfl)).eq B).trans q;have c:w4.heap.size<E.heap.size:=afo fun y=>by rw[afl y]at A;cases A
 have f:∀a,S a->a≠w4.heap.size:=fun a P ee=>by
  have Z:=z a P;have o:=Y.grow;omega
 have l:az U S w E:=by
  refine Y.trans ⟨fun a P=>?_,by omega,?_⟩
  ·have k1:=N.kept a (.inl P);have r:=O.kept a (.inl P);rw[heap_alloc_old w4 _ (by have Z:=z a P;have o:=Y.grow;omega)]at k1;rw[I.heap a (f a P)]at r;exact k1.trans r
  ·exact O.env.trans (I.env.trans N.env)
 rw[px Fd w4.heap.size v1 _ V _ _ _ _ _ _ _ _ _ _ _ _ _ _ _ _ _ _ _ _ _ _ _ _ _ _ _ _ _ _ _ _ _ _ _ _ _ _ _ _ _ _ _];exact cont w4.heap.size E _ Y.grow B (by rw[cell_of_row _ _ 0 _ _ _ A];rfl) (by rw[cell_of_row _ _ 1 _ _ _ A];rfl) c l
end
theorem Eh:pW PR (isAgg 214)=some false:=by kernel_rfl
theorem K_:pW PR (isAgg 3)=some false:=by kernel_rfl
theorem HJ:(PR.funcs[137]?).any (·.norace)=false:=by kernel_rfl
theorem u213:PR.underlying 213=some (.slice (PR.elem 213)):=by kernel_rfl
theorem z213:(PR.info? (PR.elem 213)).map (·.size)=some 1:=by kernel_rfl
theorem u25:PR.underlying 25=some (.slice (PR.elem 25)):=by kernel_rfl
theorem z25:(PR.info? (PR.elem 25)).map (·.size)=some 1:=by kernel_rfl
theorem y1:yes sD=.code .skip::sD.tail:=by kernel_rfl
theorem n1:no sD=.code (.exit 0)::sD.tail:=by kernel_rfl
theorem y2:yes tS=.code .skip::tS.tail:=by kernel_rfl
theorem n2:no tS=.code (.exit 2)::tS.tail:=by kernel_rfl
theorem y3:yes tT=.code .skip::tT.tail:=by kernel_rfl
theorem n3:no tT=.code (.exit 4)::tT.tail:=by kernel_rfl
theorem t1:sD=.code (.cond (.tmp 18) .skip (.exit 0))::sD.tail:=by kernel_rfl
theorem t2:tS=.code (.cond (.tmp 34) .skip (.exit 2))::tS.tail:=by kernel_rfl
theorem t3:tT=.code (.cond (.tmp 49) .skip (.exit 4))::tT.tail:=by kernel_rfl
theorem R6{b:Option _}{len Wg Gv:Nat}{J:Nat->Value}{c:Frame}{cs:List _}:aQ PR 3 ((dF XL (eS (bZ b len cap) n work Wg Gv) J).finish unit) (c::cs)=(c.finish unit,cs):=by kernel_rfl
theorem F0(P:Program):∀n m f l,aQ P (n+m) f l=aQ P m (aQ P n f l).1 (aQ P n f l).2
 |0,m,f,l=>by rw[afH];rfl
 |n+1,m,f,l=>by
  rw[show n+1+m=(n+m)+1 by omega];cases e:Cr P f l with
  |some x=>
   obtain⟨f1,l1⟩:=x;have Y:aQ P (n+m+1) f l=aQ P (n+m) f1 l1:=by simp[aQ,e]
   have K:aQ P (n+1) f l=aQ P n f1 l1:=by simp[aQ,e]
   rw[Y,K];exact F0 P n m f1 l1
  |none=>
   cases m with
   |zero=>rfl
   |succ m=>simp[aQ,e]
theorem pY.less{site:List _}{s s':Nat->Option _}(h:pY fn n site s f)(Y:∀i v,s' i=some v->s i=some v):pY fn n site s' f:=⟨h.fn,h.todo,h.defers,h.mode,h.kind,h.round,h.size,fun i v e=>h.slot i v (Y i v e)⟩
theorem pY.cT{site rD:List _}{s:Nat->Option _}(h:pY fn n site s f):pY fn n rD s {f with todo:=rD}:=⟨h.fn,rfl,h.defers,h.mode,h.kind,h.round,h.size,h.slot⟩
theorem oi{a b:List _}{i:Nat}{v:Value}(h:sA a i=some v):sA (a++b) i=some v:=by
 unfold sA at h⊢;rw[List.lookup_append,h];rfl
def oj(R:List Nat)(n:Nat):=(R.map (fun c=>Value.chan (some c))++List.replicate (n-R.length) (Value.chan none)).toArray
theorem HN(R:List Nat)(n:Nat)(h:R.length<=n):(oj R n).size=n:=by simp[oj];omega
theorem La(R:List Nat)(n c:Nat)(h:R.length<n):(oj R n).setIfInBounds R.length (.chan (some c))=oj (R++[c]) n:=by
 unfold oj;rw[show n-R.length=(n-(R++[c]).length)+1 by simp;omega,List.replicate_succ];simp
theorem zh{i c:Nat}(h:R[i]?=some c):(oj R n)[i]?=some (.chan (some c)):=by
 unfold oj;have Y:=(List.getElem?_eq_some_iff.1 h).1;rw[List.getElem?_toArray,List.getElem?_append_left (by simp_all),List.getElem?_map,h];rfl
section
variable(E:Env)(RO:Nat->Prop)(ng:World)(Gv n:Nat)
def My(w:World):=az E.U RO ng w
structure DW(R L:List Nat)(S X:Nat->Prop)(w:World):Prop where
 ro:∀a,RO a->S a
 xJ:∀a,RO a->¬X a
 gs:S Gv
 gx:X Gv
 gv:w.heap[Gv]?=some (.cells (oj R n) 214)
 fx:My E RO ng w
 low:∀a,S a->a<w.heap.size
 Qe:∀c∈L,¬S c/\c<w.heap.size
end
section
variable{E:Env}{RO:Nat->Prop}{ng:World}{Gv n:Nat}{R L:List Nat}{S X:Nat->Prop}{w w2:World}
theorem DW.rely(hu:∀i,¬E.U Gv i)(h:DW E RO ng Gv n R L S X w)(hr:az E.U S w w2):DW E RO ng Gv n R L S X w2:=
 ⟨h.ro,h.xJ,h.gs,h.gx,((hr.kept Gv h.gs).eq hu).trans h.gv,az.trans h.fx ⟨fun a Y=>hr.kept a (h.ro a Y),hr.grow,hr.env⟩,fun a Y=>afg (h.low a Y) hr.grow,fun c K=>⟨(h.Qe c K).1,afg (h.Qe c K).2 hr.grow⟩⟩
theorem DW.tw(I:Gv≠E.Wg)(h:DW E RO ng Gv n R L S X w){v wt ws v' dq dk:Nat}(Y:E.WgAt w v wt ws)(he:Env.Eff E.Wg w w2)(K:E.WgAt w2 v' dq dk):DW E RO ng Gv n R L S X w2:=
 ⟨h.ro,h.xJ,h.gs,h.gx,(he.heap _ I).trans h.gv,az.trans h.fx (y7 RO Y K he),fun a H=>by rw[he.size];exact h.low a H,fun c D=>by rw[he.size];exact h.Qe c D⟩
end
theorem lQ{j:Nat}(h:j<1000000000):IntKind.i64.wrap (j+1)=((j+1:Nat)):=by
 rw[Go.IntWalk.i64_in _ (by omega)];omega
section
variable(E:Env)(RO:Nat->Prop)(ng:World)(work:Value)(c:Frame)(cs:List Frame)
def VB(ch:Nat)(g:Goroutine)(w:World):=g=G (y8 ch E.Wg work) []/\My E RO ng w
def VC(S X:Nat->Prop)(g:Goroutine)(w:World):=∃n f l,g=G f l/\aQ PR n f l=(c.finish unit,cs)/\My E RO ng w/\(∀a,RO a->S a)/\(∀a,RO a->¬X a)
end
section
variable{E:Env}{RO:Nat->Prop}{ng:World}{Gv:Nat}{J:fL}{b:Option Addr}{cap:Nat}{work:Value}{c:Frame}{cs:List Frame}
structure Dl(E:Env)(RO:Nat->Prop)(ng:World)(Gv:Nat)(J:fL)(b:Option Addr):Prop where
 n0:0<J.n
 n8:J.n<=8
 len:J.ao.length<1000000
 nu:∀i,¬E.U Gv i
 gw:Gv≠E.Wg
 gro:¬RO Gv
 Z8:RO E.Wg
 X0:E.o8 ng
 Z9:∀a i,E.U a i->a<ng.heap.size
 num:∀i x:Nat,J.ao[i]?=some x->∃Nb o,b=some ⟨Nb,o,none⟩/\RO Nb/\¬E.U Nb (o+i)/\∀w,My E RO ng w->w.cell? ⟨Nb,o+i,none⟩=some (.int .i64 (x:Int))
abbrev IW(E:Env)(J:fL)(b:Option _)(cap:Nat)(work:Value)(Gv:Nat):=eS (bZ b J.ao.length cap) J.n work E.Wg Gv
abbrev TD(E:Env)(RO:Nat->Prop)(ng:World)(J:fL)(work:Value)(c:Frame)(cs:List _)(k:Nat)(d:lp)(S X:Nat->Prop)(f:Frame)(w:World):=
 E.Tree PR true (E.ia PR J (VB E RO ng work) (VC E RO ng c cs) k d) S X (G f (c::cs)) w
theorem VD(D:Dl E RO ng Gv J b)(hL:L.length=J.n):∀(m i:Nat),i+m=J.n->∀(k:Nat) (S X:Nat->Prop) (f:Frame) (w:World),pY 137 55 tT (sA (FQ (IW E J b cap work Gv) Gv J.n i)) f->f.tmps.getD 49 undef=.bool (decide (i<J.n))->DW E RO ng Gv J.n L L S X w->
  TD E RO ng J work c cs k (J.closes L i) S X f w:=by
 intro m;induction m with
 |zero=>
  intro i hi k S X f w H K hw;have Z:J.closes L i=.kd:=by unfold af4;rw[if_neg (by omega)]
  rw[Z];rw[decide_eq_false (by omega)]at K;refine Tz.one rfl fun w1 F=>⟨_,w1,#[],S,X,kj H.mode H.round (by rw[H.kind];nofun) (H.todo.trans t3) K,ay _ _ _,?_⟩;have U:pY 137 55 (no tT) (sA (FQ (IW E J b cap work Gv) Gv J.n i)) {f with todo:=.code (.exit 4)::tT.tail}:=by
   have:=H.cT (rD:=.code (.exit 4)::tT.tail);rw[<-n3]at this;rw[<-n3];exact this
  change E.Tree PR true _ S X (G {f with todo:=.code (.exit 4)::tT.tail} (c::cs)) w1;rw[U.eq];generalize(fun i=>({f with todo:=.code (.exit 4)::tT.tail}:Frame).tmps.getD i undef)=R;refine aft 60 fun w2 M=>?_;change E.Tree PR true _ S X (G (ZA b J.ao.length cap J.n i E.Wg Gv work R (c::cs)).1 (ZA b J.ao.length cap J.n i E.Wg Gv work R (c::cs)).2) w2;have Y:=bt (rc2 (b:=b) (len:=J.ao.length) (cap:=cap) (n:=J.n) (i:=i) (Wg:=E.Wg) (Gv:=Gv) (work:=work) (J:=R) (l:=c::cs)) rfl;rw[Y.callers,Y.fr.eq];refine Tz.pure 1 fun w3 N=>?_;rw[UY];have x:=((hw.rely D.nu F).rely D.nu M).rely D.nu N;refine Env.NP ⟨fun h hr=>h.rely D.nu hr,fun h=>Env.o8.rely D.X0 D.Z8 h.fx,fun h h1 he h2=>h.tw D.gw h1 he h2⟩ (fun q f' l' w' hF hp=>?_) k x;exact⟨q+3,f',l',rfl,by rw[F0,hp];exact R6,hF.fx,hF.ro,hF.xJ⟩
 |succ m ih=>
  intro i hi k S X f w H K hw;have P:i<J.n:=by omega
  have Z:J.closes L i=.close L i:=by unfold af4;rw[if_pos (by omega)]
  rw[Z];rw[decide_eq_true P]at K;obtain⟨ch,A⟩:∃ch,L[i]?=some ch:=⟨L[i],afw (by omega)⟩;refine Tz.one rfl fun w1 F=>⟨_,w1,#[],S,X,kj H.mode H.round (by rw[H.kind];nofun) (H.todo.trans t3) K,ay _ _ _,?_⟩;have U:pY 137 55 (yes tT) (sA (FQ (IW E J b cap work Gv) Gv J.n i)) {f with todo:=.code .skip::tT.tail}:=by
   have:=H.cT (rD:=.code .skip::tT.tail);rw[<-y3]at this;rw[<-y3];exact this
  change E.Tree PR true _ S X (G {f with todo:=.code .skip::tT.tail} (c::cs)) w1;rw[U.eq];generalize(fun i=>({f with todo:=.code .skip::tT.tail}:Frame).tmps.getD i undef)=R;refine aft 60 fun w2 M=>?_;change E.Tree PR true _ S X (G (XR b J.ao.length cap J.n i E.Wg Gv work R (c::cs)).1 (XR b J.ao.length cap J.n i E.Wg Gv work R (c::cs)).2) w2;have Y:=bt (ri5 (b:=b) (len:=J.ao.length) (cap:=cap) (n:=J.n) (i:=i) (Wg:=E.Wg) (Gv:=Gv) (work:=work) (J:=R) (l:=c::cs)) rfl;rw[Y.callers,Y.fr.eq];generalize(fun j=>(XR b J.ao.length cap J.n i E.Wg Gv work R (c::cs)).1.tmps.getD j undef)=T;clear Y;have u:=(hw.rely D.nu F).rely D.nu M;refine Tz.one rfl fun w3 N=>⟨_,w3,#[],S,X,pq (i:=i) U8 (B:=Gv) (o:=0) (n:=J.n) (cap:=J.n) rfl rfl P u213 z213,ay _ _ _,?_⟩;rw[afH];refine aft 60 fun w4 z=>?_;change E.Tree PR true _ S X (G (XS b J.ao.length cap J.n i E.Wg Gv work T (c::cs)).1 (XS b J.ao.length cap J.n i E.Wg Gv work T (c::cs)).2) w4;have Y:=bt (rl5 (b:=b) (len:=J.ao.length) (cap:=cap) (n:=J.n) (i:=i) (Wg:=E.Wg) (Gv:=Gv) (work:=work) (J:=T) (l:=c::cs)) rfl;have yV:=Y.load;rw[Y.callers];rw[Y.fr.eq]at yV⊢;generalize(fun j=>(XS b J.ao.length cap J.n i E.Wg Gv work T (c::cs)).1.tmps.getD j undef)=V at yV⊢;clear Y;have y:=(u.rely D.nu N).rely D.nu z;refine Tz.one rfl fun w5 d=>?_;have O:=y.rely D.nu d;have I:w5.cell? ⟨Gv,i,none⟩=some (.chan (some ch)):=by
   simp only[afs,O.gv];exact zh A
  refine⟨_,w5,_,S,X,dL yV Eh I HJ,gO O.gs (D.nu _),?_⟩;refine aft 60 fun w6 g=>?_;change E.Tree PR true _ S X (G (XT b J.ao.length cap J.n i E.Wg Gv ch work V (c::cs)).1 (XT b J.ao.length cap J.n i E.Wg Gv ch work V (c::cs)).2) w6;have Y:=bt (rcl (b:=b) (len:=J.ao.length) (cap:=cap) (n:=J.n) (i:=i) (Wg:=E.Wg) (Gv:=Gv) (ch:=ch) (work:=work) (J:=V) (l:=c::cs)) rfl;rw[Y.callers,Y.fr.eq];generalize(fun j=>(XT b J.ao.length cap J.n i E.Wg Gv ch work V (c::cs)).1.tmps.getD j undef)=e;clear Y;have t:=O.rely D.nu g;refine .stop ?_;cases k with
  |zero=>trivial
  |succ k=>
   refine⟨rfl,rfl,KF P8,ch,A,fun w7 s p aM=>⟨_,rfl,NQ P8 rfl aM HJ,?_⟩⟩;have Q:=t.rely D.nu p;have W:¬S ch:=(Q.Qe ch (afS A)).1;have a:DW E RO ng Gv J.n L L S X (w7.setChan ch 0 #[] true s s false):=Q.rely D.nu (fX W);refine aft 60 fun w9 r=>?_;change E.Tree PR true _ S X (G _ (UX b J.ao.length cap J.n i E.Wg Gv ch work e (c::cs)).2) w9;have Y:=bt (ZG (b:=b) (len:=J.ao.length) (cap:=cap) (n:=J.n) (i:=i) (Wg:=E.Wg) (Gv:=Gv) (ch:=ch) (work:=work) (J:=e) (l:=c::cs)) rfl;have YZ:=D.n8;have C:=Y.fr;rw[lQ (by omega)]at C;rw[Y.callers];refine ih (i+1) (by omega) k S X _ w9 (C.less fun q v hv=>?_) ((C.slot 49 _ rfl).trans ?_) (a.rely D.nu r)
   ·exact oi (b:=[(49,.bool _)]) hv
   ·simp only[afW]
theorem VE(D:Dl E RO ng Gv J b)(hL:L.length=J.n):∀(m i:Nat),i+m=J.ao.length->∀(k:Nat) (S X:Nat->Prop) (f:Frame) (w:World),pY 137 55 tS (sA (FP (IW E J b cap work Gv) (bZ b J.ao.length cap) J.ao.length i)) f->f.tmps.getD 34 undef=.bool (decide (i<J.ao.length))->DW E RO ng Gv J.n L L S X w->
  TD E RO ng J work c cs k (J.sends L i) S X f w:=by
 intro m;induction m with
 |zero=>
  intro i hi k S X f w R H hw;have u:J.sends L i=J.closes L 0:=by
   unfold fL.sends af4;rw[if_neg (by omega),if_pos (by rw[hL];exact D.n0)]
  rw[u];rw[decide_eq_false (by omega)]at H;refine Tz.one rfl fun w1 N=>⟨_,w1,#[],S,X,kj R.mode R.round (by rw[R.kind];nofun) (R.todo.trans t2) H,ay _ _ _,?_⟩;have F:pY 137 55 (no tS) (sA (FP (IW E J b cap work Gv) (bZ b J.ao.length cap) J.ao.length i)) {f with todo:=.code (.exit 2)::tS.tail}:=by
   have:=R.cT (rD:=.code (.exit 2)::tS.tail);rw[<-n2]at this;rw[<-n2];exact this
  change E.Tree PR true _ S X (G {f with todo:=.code (.exit 2)::tS.tail} (c::cs)) w1;rw[F.eq];generalize(fun i=>({f with todo:=.code (.exit 2)::tS.tail}:Frame).tmps.getD i undef)=A;refine aft 60 fun w2 O=>?_;change E.Tree PR true _ S X (G _ (RK3 b J.ao.length cap J.n i E.Wg Gv work A (c::cs)).2) w2;have Y:=bt (rk3 (b:=b) (len:=J.ao.length) (cap:=cap) (n:=J.n) (i:=i) (Wg:=E.Wg) (Gv:=Gv) (work:=work) (J:=A) (l:=c::cs)) rfl;rw[Y.callers];refine VD (cap:=cap) D hL J.n 0 (by omega) k S X _ w2 (Y.fr.less fun q v hv=>?_) ((Y.fr.slot 49 _ rfl).trans ?_) ((hw.rely D.nu N).rely D.nu O)
  ·exact oi hv
  ·congr 1;simp
 |succ m ih=>
  intro i hi k S X f w R H hw;have I:i<J.ao.length:=by omega
  have u:J.sends L i=.send L i:=by unfold fL.sends;rw[if_pos I]
  rw[u];rw[decide_eq_true I]at H;obtain⟨x,hx⟩:∃x,J.ao[i]?=some x:=⟨J.ao[i],afw I⟩;obtain⟨Nb,o,hb,t,a,y⟩:=D.num i x hx;have V:i%J.n<J.n:=Nat.mod_lt _ D.n0;obtain⟨ch,C⟩:∃ch,L[i%J.n]?=some ch:=⟨L[i%J.n],afw (by omega)⟩;have hlen:=D.len;refine Tz.one rfl fun w1 N=>⟨_,w1,#[],S,X,kj R.mode R.round (by rw[R.kind];nofun) (R.todo.trans t2) H,ay _ _ _,?_⟩;have F:pY 137 55 (yes tS) (sA (FP (IW E J b cap work Gv) (bZ b J.ao.length cap) J.ao.length i)) {f with todo:=.code .skip::tS.tail}:=by
   have:=R.cT (rD:=.code .skip::tS.tail);rw[<-y2]at this;rw[<-y2];exact this
  change E.Tree PR true _ S X (G {f with todo:=.code .skip::tS.tail} (c::cs)) w1;rw[F.eq];generalize(fun i=>({f with todo:=.code .skip::tS.tail}:Frame).tmps.getD i undef)=A;refine aft 60 fun w2 O=>?_;change E.Tree PR true _ S X (G (XM b J.ao.length cap J.n i E.Wg Gv work A (c::cs)).1 (XM b J.ao.length cap J.n i E.Wg Gv work A (c::cs)).2) w2;have Y:=bt (ri3 (b:=b) (len:=J.ao.length) (cap:=cap) (n:=J.n) (i:=i) (Wg:=E.Wg) (Gv:=Gv) (work:=work) (J:=A) (l:=c::cs)) rfl;rw[Y.callers,Y.fr.eq];generalize(fun j=>(XM b J.ao.length cap J.n i E.Wg Gv work A (c::cs)).1.tmps.getD j undef)=T;clear Y;have Kr:=(hw.rely D.nu N).rely D.nu O;have W:(dF UT (UU (IW E J b cap work Gv) (bZ b J.ao.length cap) J.ao.length i) T).eval (.tmp 31)=.slice (some ⟨Nb,o,none⟩) J.ao.length cap:=by
   show bZ b J.ao.length cap=_
   rw[hb];rfl
  refine Tz.one rfl fun w3 h=>⟨_,w3,#[],S,X,pq (i:=i) U6 W rfl I u25 z25,ay _ _ _,?_⟩;refine aft 60 fun w4 e=>?_;change E.Tree PR true _ S X (G (XO b J.ao.length cap J.n i E.Wg Gv ⟨Nb,o+i,none⟩ work T (c::cs)).1 (XO b J.ao.length cap J.n i E.Wg Gv ⟨Nb,o+i,none⟩ work T (c::cs)).2) w4;have Y:=bt (rl3 (b:=b) (len:=J.ao.length) (cap:=cap) (n:=J.n) (i:=i) (Wg:=E.Wg) (Gv:=Gv) (p:=⟨Nb,o+i,none⟩) (work:=work) (J:=T) (l:=c::cs)) rfl;have yV:=Y.load;rw[Y.callers];rw[Y.fr.eq]at yV⊢;generalize(fun j=>(XO b J.ao.length cap J.n i E.Wg Gv ⟨Nb,o+i,none⟩ work T (c::cs)).1.tmps.getD j undef)=z at yV⊢;clear Y;have N_:=(Kr.rely D.nu h).rely D.nu e;refine Tz.one rfl fun w5 TF=>?_;have P:=N_.rely D.nu TF;refine⟨_,w5,_,S,X,dL yV K_ (y w5 P.fx) HJ,gO (P.ro _ t) a,?_⟩;refine aft 60 fun w6 Z_=>?_;change E.Tree PR true _ S X (G (RR b J.ao.length cap J.n i x E.Wg Gv ⟨Nb,o+i,none⟩ work z (c::cs)).1 (RR b J.ao.length cap J.n i x E.Wg Gv ⟨Nb,o+i,none⟩ work z (c::cs)).2) w6;have Y:=bt (rr (b:=b) (len:=J.ao.length) (cap:=cap) (n:=J.n) (i:=i) (x:=x) (Wg:=E.Wg) (Gv:=Gv) (p:=⟨Nb,o+i,none⟩) (work:=work) (J:=z) (l:=c::cs)) rfl;rw[Y.callers,Y.fr.eq];generalize(fun j=>(RR b J.ao.length cap J.n i x E.Wg Gv ⟨Nb,o+i,none⟩ work z (c::cs)).1.tmps.getD j undef)=d;clear Y;have hw6:=P.rely D.nu Z_;refine Tz.one rfl fun w7 TG=>⟨_,w7,#[],S,X,KD (i:=i) (n:=J.n) ZI rfl rfl D.n0 (by omega),ay _ _ _,?_⟩;generalize hm:i%J.n=K at C V⊢;refine aft 60 fun w8 TH=>?_;change E.Tree PR true _ S X (G (XP b J.ao.length cap J.n i x K E.Wg Gv work d (c::cs)).1 (XP b J.ao.length cap J.n i x K E.Wg Gv work d (c::cs)).2) w8;have Y:=bt (ri4 (b:=b) (len:=J.ao.length) (cap:=cap) (n:=J.n) (i:=i) (x:=x) (m:=K) (Wg:=E.Wg) (Gv:=Gv) (work:=work) (J:=d) (l:=c::cs)) rfl;rw[Y.callers,Y.fr.eq];generalize(fun j=>(XP b J.ao.length cap J.n i x K E.Wg Gv work d (c::cs)).1.tmps.getD j undef)=g;clear Y;have hw8:=(hw6.rely D.nu TG).rely D.nu TH;refine Tz.one rfl fun w9 Vl=>⟨_,w9,#[],S,X,pq (i:=K) U7 (B:=Gv) (o:=0) (n:=J.n) (cap:=J.n) rfl rfl V u213 z213,ay _ _ _,?_⟩;rw[afH];refine aft 60 fun wA X3=>?_;change E.Tree PR true _ S X (G (XQ b J.ao.length cap J.n i x K E.Wg Gv work g (c::cs)).1 (XQ b J.ao.length cap J.n i x K E.Wg Gv work g (c::cs)).2) wA;have Y:=bt (rl4 (b:=b) (len:=J.ao.length) (cap:=cap) (n:=J.n) (i:=i) (x:=x) (m:=K) (Wg:=E.Wg) (Gv:=Gv) (work:=work) (J:=g) (l:=c::cs)) rfl;have yV:=Y.load;rw[Y.callers];rw[Y.fr.eq]at yV⊢;generalize(fun j=>(XQ b J.ao.length cap J.n i x K E.Wg Gv work g (c::cs)).1.tmps.getD j undef)=r at yV⊢;clear Y;have hwA:=(hw8.rely D.nu Vl).rely D.nu X3;refine Tz.one rfl fun wB X4=>?_;have Q:=hwA.rely D.nu X4;have U:wB.cell? ⟨Gv,K,none⟩=some (.chan (some ch)):=by
   simp only[afs,Q.gv];exact zh C
  refine⟨_,wB,_,S,X,dL yV Eh U HJ,gO Q.gs (D.nu _),?_⟩;refine aft 60 fun wC hrC=>?_;change E.Tree PR true _ S X (G (RS b J.ao.length cap J.n i x K E.Wg Gv ch work r (c::cs)).1 (RS b J.ao.length cap J.n i x K E.Wg Gv ch work r (c::cs)).2) wC;have Y:=bt (rs (b:=b) (len:=J.ao.length) (cap:=cap) (n:=J.n) (i:=i) (x:=x) (m:=K) (Wg:=E.Wg) (Gv:=Gv) (ch:=ch) (work:=work) (J:=r) (l:=c::cs)) rfl;rw[Y.callers,Y.fr.eq];generalize(fun j=>(RS b J.ao.length cap J.n i x K E.Wg Gv ch work r (c::cs)).1.tmps.getD j undef)=J7;clear Y;have hwC:=Q.rely D.nu hrC;refine .stop ?_;cases k with
  |zero=>trivial
  |succ k=>
   refine⟨rfl,rfl,ch,x,by rw[hm];exact C,hx,undef,fun wD s Z aM=>xB ZC,fun wD Z=>?_⟩;refine aft 60 fun wE X5=>?_;change E.Tree PR true _ S X (G _ (UW b J.ao.length cap J.n i x E.Wg Gv ch work J7 (c::cs)).2) wE;have Y:=bt (ZD (b:=b) (len:=J.ao.length) (cap:=cap) (n:=J.n) (i:=i) (x:=x) (Wg:=E.Wg) (Gv:=Gv) (ch:=ch) (work:=work) (J:=J7) (l:=c::cs)) rfl;have M:=Y.fr;rw[lQ (by omega)]at M;rw[Y.callers];refine ih (i+1) (by omega) k S X _ wE (M.less fun q v hv=>?_) ((M.slot 34 _ rfl).trans ?_) ((hwC.rely D.nu Z).rely D.nu X5)
   ·exact oi (b:=[(34,.bool _)]) hv
   ·simp only[afW]
end
section
variable{E:Env}{RO:Nat->Prop}{ng:World}{Gv:Nat}{J:fL}{b:Option Addr}{cap:Nat}{work:Value}{c:Frame}{cs:List Frame}
theorem cx{B i:Nat}{row:Array _}{v:Value}(h:w.heap[B]?=some (.cells row t)):(w.setCell ⟨B,i,none⟩ v).heap[B]?=some (.cells (row.setIfInBounds i v) t):=Env.ft h
theorem VF(D:Dl E RO ng Gv J b):∀(m:Nat) (L:List Nat),L.length+m=J.n->∀(k:Nat) (S X:Nat->Prop) (f:Frame) (w:World),pY 137 55 sD (sA (Cs (IW E J b cap work Gv) J.n L.length)) f->f.tmps.getD 18 undef=.bool (decide (L.length<J.n))->DW E RO ng Gv J.n L L S X w->
  TD E RO ng J work c cs k (J.bK L) S X f w:=by
 intro m;induction m with
 |zero=>
  intro L hL k S X f w M F hw;have e0:J.bK L=J.sends L 0:=by unfold fL.bK;rw[if_neg (by omega)]
  rw[e0];rw[show decide (L.length<J.n)=false from decide_eq_false (by omega)]at F;refine Tz.one rfl fun w1 W=>⟨_,w1,#[],S,X,kj M.mode M.round (by rw[M.kind];nofun) (M.todo.trans t1) F,ay _ _ _,?_⟩;have T:pY 137 55 (no sD) (sA (Cs (IW E J b cap work Gv) J.n L.length)) {f with todo:=.code (.exit 0)::sD.tail}:=by
   have:=M.cT (rD:=.code (.exit 0)::sD.tail);rw[<-n1]at this;rw[<-n1];exact this
  change E.Tree PR true _ S X (G {f with todo:=.code (.exit 0)::sD.tail} (c::cs)) w1;rw[T.eq];generalize(fun i=>({f with todo:=.code (.exit 0)::sD.tail}:Frame).tmps.getD i undef)=N;refine aft 60 fun w2 d=>?_;change E.Tree PR true _ S X (G _ (RK2 b J.ao.length cap J.n L.length E.Wg Gv work N (c::cs)).2) w2;have Y:=bt (rk2 (b:=b) (len:=J.ao.length) (cap:=cap) (n:=J.n) (i:=L.length) (Wg:=E.Wg) (Gv:=Gv) (work:=work) (J:=N) (l:=c::cs)) rfl;rw[Y.callers];refine VE (cap:=cap) D (by omega) J.ao.length 0 (by omega) k S X _ w2 (Y.fr.less fun q v hv=>?_) ((Y.fr.slot 34 _ rfl).trans ?_) ((hw.rely D.nu W).rely D.nu d)
  ·exact oi hv
  ·congr 1;simp
 |succ m ih=>
  intro L hL k S X f w M F hw;have YZ:=D.n8;have C:L.length<J.n:=by omega
  have e0:J.bK L=.st L:=by unfold fL.bK;rw[if_pos C]
  rw[e0];rw[show decide (L.length<J.n)=true from decide_eq_true C]at F;refine Tz.one rfl fun w1 W=>⟨_,w1,#[],S,X,kj M.mode M.round (by rw[M.kind];nofun) (M.todo.trans t1) F,ay _ _ _,?_⟩;have T:pY 137 55 (yes sD) (sA (Cs (IW E J b cap work Gv) J.n L.length)) {f with todo:=.code .skip::sD.tail}:=by
   have:=M.cT (rD:=.code .skip::sD.tail);rw[<-y1]at this;rw[<-y1];exact this
  change E.Tree PR true _ S X (G {f with todo:=.code .skip::sD.tail} (c::cs)) w1;rw[T.eq];generalize(fun i=>({f with todo:=.code .skip::sD.tail}:Frame).tmps.getD i undef)=N;refine aft 60 fun w2 d=>?_;change E.Tree PR true _ S X (G (Xx b J.ao.length cap J.n L.length E.Wg Gv work N (c::cs)).1 (Xx b J.ao.length cap J.n L.length E.Wg Gv work N (c::cs)).2) w2;have Y:=bt (rmk (b:=b) (len:=J.ao.length) (cap:=cap) (n:=J.n) (j:=L.length) (Wg:=E.Wg) (Gv:=Gv) (work:=work) (J:=N) (l:=c::cs)) rfl;rw[Y.callers,Y.fr.eq];generalize(fun j=>(Xx b J.ao.length cap J.n L.length E.Wg Gv work N (c::cs)).1.tmps.getD j undef)=J2;clear Y;have Kr:=(hw.rely D.nu W).rely D.nu d;refine Tz.one rfl fun w3 Qa=>⟨_,_,#[],_,_,step_mk US rfl,qD _,?_⟩;have K:=Kr.rely D.nu Qa;generalize u:w3.heap.size=ch;have hcu:∀i,¬E.U ch i:=fun i hu=>by
   have h1:=D.Z9 _ _ hu;have h2:=K.fx.grow;omega
  have s:¬S ch:=fun y=>by have:=K.low _ y;omega
  have P:¬RO ch:=fun y=>s (K.ro _ y);have O:ch≠Gv:=fun y=>s (y▸K.gs);have sz4:(w3.alloc (.chan 0 #[] false 0 0 false)).heap.size=ch+1:=by simp[u]
  have N_:DW E RO ng Gv J.n L L (fun a=>S a\/a=ch) (fun a=>X a\/a=ch) (w3.alloc (.chan 0 #[] false 0 0 false)):=by
   refine⟨fun a R=>.inl (K.ro a R),fun a R y=>y.elim (K.xJ a R) fun e=>P (e▸R),.inl K.gs,.inl K.gx,?_,?_,fun a R=>?_,fun a R=>?_⟩
   ·rw[heap_alloc_old w3 _ (K.low _ K.gs)];exact K.gv
   ·refine az.trans K.fx ⟨fun a R=>.inl (heap_alloc_old w3 _ (K.low _ (K.ro a R))),by simp,.refl _⟩
   ·rw[sz4];rcases R with y|y
    ·have:=K.low a y;omega
    ·omega
   ·have h1:=K.Qe a R;refine⟨fun y=>y.elim h1.1 fun e=>?_,by rw[sz4];omega⟩;omega
  have ho4:eH (w3.alloc (.chan 0 #[] false 0 0 false)) ch 0:=by
   unfold eH;rw[<-u];exact heap_alloc_new w3 _
  refine aft 60 fun w5 x=>?_;change E.Tree PR true _ _ _ (G (XC b J.ao.length cap J.n L.length E.Wg Gv ch work J2 (c::cs)).1 (XC b J.ao.length cap J.n L.length E.Wg Gv ch work J2 (c::cs)).2) w5;have Y:=bt (ri1 (b:=b) (len:=J.ao.length) (cap:=cap) (n:=J.n) (j:=L.length) (Wg:=E.Wg) (Gv:=Gv) (ch:=ch) (work:=work) (J:=J2) (l:=c::cs)) rfl;rw[Y.callers,Y.fr.eq];generalize(fun j=>(XC b J.ao.length cap J.n L.length E.Wg Gv ch work J2 (c::cs)).1.tmps.getD j undef)=J3;clear Y;have TI:=N_.rely D.nu x;have opn:∀{w w2:World},eH w ch 0->az E.U (fun a=>S a\/a=ch) w w2->eH w2 ch 0:=fun h hr=>((hr.kept ch (.inr rfl)).eq hcu).trans h;have ho5:=opn ho4 x;refine Tz.one rfl fun w6 t=>⟨_,w6,#[],_,_,pq (i:=L.length) U0 (B:=Gv) (o:=0) (n:=J.n) (cap:=J.n) rfl rfl C u213 z213,ay _ _ _,?_⟩;rw[afH];refine aft 60 fun w7 TG=>?_;change E.Tree PR true _ _ _ (G (XD b J.ao.length cap J.n L.length E.Wg Gv ch work J3 (c::cs)).1 (XD b J.ao.length cap J.n L.length E.Wg Gv ch work J3 (c::cs)).2) w7;have Y:=bt (PJ (b:=b) (len:=J.ao.length) (cap:=cap) (n:=J.n) (j:=L.length) (Wg:=E.Wg) (Gv:=Gv) (ch:=ch) (work:=work) (J:=J3) (l:=c::cs)) rfl;rw[Y.callers,Y.fr.eq];generalize(fun j=>(XD b J.ao.length cap J.n L.length E.Wg Gv ch work J3 (c::cs)).1.tmps.getD j undef)=r;clear Y;have hw7:=(TI.rely D.nu t).rely D.nu TG;have ho7:=opn (opn ho5 t) TG;refine Tz.one rfl fun w8 TH=>?_;have I:=hw7.rely D.nu TH;have ho8:=opn ho7 TH;have au:=yJ (main:=true) (cs:=c::cs) (w:=w8) (f:=dF UM (UN (IW E J b cap work Gv) Gv J.n L.length ch) r) U4 (B:=Gv) (i:=L.length) (v:=some ch) rfl rfl I.gv (by rw[HN _ _ (by omega)];exact C) HJ;have H:Env.Eff Gv w8 (w8.setCell ⟨Gv,L.length,none⟩ (.chan (some ch))):=ic _;refine⟨_,_,_,_,_,au,qE I.gs I.gx D.nu H (fun ev TX=>by simp_all),?_⟩;have hw9:DW E RO ng Gv J.n (L++[ch]) L (fun a=>S a\/a=ch) (fun a=>X a\/a=ch) (w8.setCell ⟨Gv,L.length,none⟩ (.chan (some ch))):=by
   refine⟨I.ro,I.xJ,I.gs,I.gx,?_,az.trans I.fx ⟨fun a R=>.inl (H.heap a fun e=>D.gro (e▸R)),afV H.size.symm,H.env⟩,fun a R=>by rw[H.size];exact I.low a R,fun a R=>by rw[H.size];exact I.Qe a R⟩;rw[cx I.gv,La _ _ _ C]
  have ho9:=(H.heap ch O).trans ho8;clear au H;refine aft 60 fun wA X3=>?_;change E.Tree PR true _ _ _ (G (XE b J.ao.length cap J.n L.length E.Wg Gv ch work r (c::cs)).1 (XE b J.ao.length cap J.n L.length E.Wg Gv ch work r (c::cs)).2) wA;have Y:=bt (rc1 (b:=b) (len:=J.ao.length) (cap:=cap) (n:=J.n) (j:=L.length) (Wg:=E.Wg) (Gv:=Gv) (ch:=ch) (work:=work) (J:=r) (l:=c::cs)) rfl;rw[Y.callers,Y.fr.eq];generalize(fun j=>(XE b J.ao.length cap J.n L.length E.Wg Gv ch work r (c::cs)).1.tmps.getD j undef)=J5;clear Y;refine Tz.pure 1 fun wB X4=>?_;rw[UZ];have hwB:=(hw9.rely D.nu X3).rely D.nu X4;have hoB:=opn (opn ho9 X3) X4;refine Env.NN (Fx:=fun w=>DW E RO ng Gv J.n (L++[ch]) L (fun a=>S a\/a=ch) (fun a=>X a\/a=ch) w/\eH w ch 0) (ch:=ch) ⟨fun h hr=>⟨h.1.rely D.nu hr,opn h.2 hr⟩,fun h=>Env.o8.rely D.X0 D.Z8 h.1.fx,fun h h1 he h2=>⟨h.1.tw D.gw h1 he h2,(he.heap ch fun e=>P (e▸D.Z8)).trans h.2⟩⟩ (by omega) (fun k wC hC=>?_) k ⟨hwB,hoB⟩;obtain⟨hwC,hoC⟩:=hC;refine aft 60 fun wD hrD=>?_;change E.Tree PR true _ _ _ (G (XG b J.ao.length cap J.n L.length E.Wg Gv work J5 (c::cs)).1 (XG b J.ao.length cap J.n L.length E.Wg Gv work J5 (c::cs)).2) wD;have Y:=bt (ri2 (b:=b) (len:=J.ao.length) (cap:=cap) (n:=J.n) (j:=L.length) (Wg:=E.Wg) (Gv:=Gv) (work:=work) (J:=J5) (l:=c::cs)) rfl;rw[Y.callers,Y.fr.eq];generalize(fun j=>(XG b J.ao.length cap J.n L.length E.Wg Gv work J5 (c::cs)).1.tmps.getD j undef)=J6;clear Y;have hwD:=hwC.rely D.nu hrD;have hoD:=opn hoC hrD;refine Tz.one rfl fun wE X5=>⟨_,wE,#[],_,_,pq (i:=L.length) U5 (B:=Gv) (o:=0) (n:=J.n) (cap:=J.n) rfl rfl C u213 z213,ay _ _ _,?_⟩;rw[afH];refine aft 60 fun wF Xs=>?_;change E.Tree PR true _ _ _ (G (XH b J.ao.length cap J.n L.length E.Wg Gv work J6 (c::cs)).1 (XH b J.ao.length cap J.n L.length E.Wg Gv work J6 (c::cs)).2) wF;have Y:=bt (rl2 (b:=b) (len:=J.ao.length) (cap:=cap) (n:=J.n) (j:=L.length) (Wg:=E.Wg) (Gv:=Gv) (work:=work) (J:=J6) (l:=c::cs)) rfl;have yV:=Y.load;rw[Y.callers];rw[Y.fr.eq]at yV⊢;generalize(fun j=>(XH b J.ao.length cap J.n L.length E.Wg Gv work J6 (c::cs)).1.tmps.getD j undef)=J7 at yV⊢;clear Y;have hwF:=(hwD.rely D.nu X5).rely D.nu Xs;have hoF:=opn (opn hoD X5) Xs;refine Tz.one rfl fun wG Xt=>?_;have p:=hwF.rely D.nu Xt;have hoG:=opn hoF Xt;have Q:wG.cell? ⟨Gv,L.length,none⟩=some (.chan (some ch)):=by
   simp only[afs,p.gv];exact zh (by simp)
  refine⟨_,wG,_,_,_,dL yV Eh Q HJ,gO p.gs (D.nu _),?_⟩;refine aft 60 fun wH Xu=>?_;change E.Tree PR true _ _ _ (G (RG b J.ao.length cap J.n L.length E.Wg Gv ch work J7 (c::cs)).1 (RG b J.ao.length cap J.n L.length E.Wg Gv ch work J7 (c::cs)).2) wH;have Y:=bt (z87 (b:=b) (len:=J.ao.length) (cap:=cap) (n:=J.n) (j:=L.length) (Wg:=E.Wg) (Gv:=Gv) (ch:=ch) (work:=work) (J:=J7) (l:=c::cs)) rfl;rw[Y.callers,Y.fr.eq];generalize(fun j=>(RG b J.ao.length cap J.n L.length E.Wg Gv ch work J7 (c::cs)).1.tmps.getD j undef)=J8;clear Y;have hwH:=p.rely D.nu Xu;have hoH:=opn hoG Xu;refine .stop ?_;cases k with
  |zero=>trivial
  |succ k=>
   refine⟨rfl,rfl,.inr rfl,.inr rfl,fun wI g=>⟨opn hoH g,_,_,Dg Zq,⟨rfl,(hwH.rely D.nu g).fx⟩,?_⟩⟩;have A:=hwH.rely D.nu g;have hwJ:DW E RO ng Gv J.n (L++[ch]) (L++[ch]) (fun a=>(S a\/a=ch)/\a≠ch) (fun a=>(X a\/a=ch)/\a≠ch) wI:=by
    refine⟨fun a R=>⟨A.ro a R,fun e=>P (e▸R)⟩,fun a R y=>A.xJ a R y.1,⟨A.gs,fun e=>O e.symm⟩,⟨A.gx,fun e=>O e.symm⟩,A.gv,A.fx,fun a R=>A.low a R.1,fun a R=>?_⟩;have hm:a∈L\/a=ch:=by simpa using R
    rcases hm with y|rfl
    ·exact⟨fun z=>(A.Qe a y).1 z.1,(A.Qe a y).2⟩
    ·exact⟨fun z=>z.2 rfl,A.low _ (.inr rfl)⟩
   refine aft 60 fun wK hrK=>?_;change E.Tree PR true _ _ _ (G _ (UR b J.ao.length cap J.n L.length E.Wg Gv ch work J8 (c::cs)).2) wK;have Y:=bt (Zr (b:=b) (len:=J.ao.length) (cap:=cap) (n:=J.n) (j:=L.length) (Wg:=E.Wg) (Gv:=Gv) (ch:=ch) (work:=work) (J:=J8) (l:=c::cs)) rfl;have V:=Y.fr;rw[lQ (by omega)]at V;rw[Y.callers];have Z:(L++[ch]).length=L.length+1:=by simp
   refine ih (L++[ch]) (by rw[Z];omega) k _ _ _ wK (V.less fun q v hv=>?_) ((V.slot 18 _ rfl).trans ?_) (hwJ.rely D.nu hrK)
   ·rw[Z]at hv;exact oi (b:=[(18,.bool _)]) hv
   ·rw[Z];simp only[afW]
end
noncomputable def Oa:=match afv.body with
 |some (.seq _ (.seq _ (.seq _ (.block _ (.loop c)))))=>c
 |_=>.skip
noncomputable def ad3:=match afv.body with
 |some (.seq _ (.seq _ (.seq _ (.block _ (.loop (.seq r3 _))))))=>r3
 |_=>.skip
noncomputable def ad8:=match afv.body with
 |some (.seq _ (.seq _ (.seq _ (.block _ (.loop (.seq _ (.seq _ (.seq _ Y))))))))=>Y
 |_=>.skip
theorem VG:KN=[.code (.block 0 (.loop Oa))]:=by kernel_rfl
theorem aae:Oa=.seq ad3 (.seq (.cond (.tmp 18) .skip (.exit 0)) (.seq (.block 1 (.seq Z6 (.seq Z4 (.seq Vy (.cond (.tmp 38) Z5 .skip))))) ad8)):=by kernel_rfl
section
variable{U:Nat->Nat->Prop}{D:(Nat->Prop)->(Nat->Prop)->Goroutine->World->Prop}{S X:Nat->Prop}{Fd:Nat}
theorem Lb{b:Frame}{k:List _}{cs:List _}(hk:b.kind≠.early)(dd:List _)(v1 v5 Y:Value)(u:Nat->Value)(i n:Nat)
  (cont:∀w2 B,az U S w w2->B 18=.bool (decide (i<n))->Tz Tryz.prog false U D S X (G (b.at ⟨vq Fd v1 v5 Y (.int .i64 n) (.int .i64 i) B,dd⟩ k) cs) w2):
  Tz Tryz.prog false U D S X (G (b.at ⟨vq Fd v1 v5 Y (.int .i64 n) (.int .i64 i) u,dd⟩ (.code ad3::k)) cs) w:=by
 have key:∀w2,az U S w w2->Tz _ _ U D S X (G (b.at ⟨vq Fd v1 v5 Y _ _ (fun j=>if j=18 then .bool _ else u j),dd⟩ k) cs) w2:=fun w2 hr=>cont w2 _ hr (if_pos rfl);simp[vq];refine Tz.region fun w1 R=>?_;refine Tz.R5 rfl (by rfl) hk fun w2 I K C=>?_;have H:=C _ w2 ⟨S,X,(by rw[listed_nil (by simp[go_sem])];exact ay _ _ _),Tz.qC fun w3 A=>key w3 ((R.trans I).trans A)⟩
 go_simp
 exact H
theorem VH{b:Frame}{k:List Item}(hk:b.kind≠.early)(dd:List Deferred)(v1 v5 Y H:Value)(u:Nat->Value)(i:Nat)(M:i<=100000)
  (cont:∀w2 F,az U S w w2->Tz Tryz.prog false U D S X (G (b.at ⟨vq Fd v1 v5 Y H (.int .i64 ((i+1:Nat):Int)) F,dd⟩ k) cs) w2):
  Tz Tryz.prog false U D S X (G (b.at ⟨vq Fd v1 v5 Y H (.int .i64 i) u,dd⟩ (.code ad8::k)) cs) w:=by
 have key:=fun w2 hr=>by
  have h:=cont w2 (fun j=>if j=47 then .int .i64 (i+1)else u j) hr;exact h
 have J:IntKind.i64.wrap _=i+1:=Go.IntWalk.i64_in _ (by omega);simp only[vq];refine Tz.region fun w1 I=>?_;refine Tz.R5 rfl (by rfl) hk fun w2 A K R=>?_
 go_simp
 refine R _ _ ⟨S,X,?_,?_⟩
 ·rw[listed_nil (by simp[go_sem])];exact ay _ _ _
 refine Tz.R5 rfl (by rfl) hk fun w3 B K R=>?_;refine R _ _ ⟨S,X,?_,?_⟩
 ·rw[listed_nil (by simp[go_sem])];exact ay _ _ _
 exact Tz.qC fun w4 C=>key w4 (((I.trans A).trans B).trans C)
end
theorem ab_(Fd b5:Nat)(v1 Y K H:Value)(u:Nat->Value):nz Fd b5 v1 Y K H u=vq Fd v1 (.pointer (some ⟨b5,0,none⟩)) Y K H u:=rfl
section
variable{U:Nat->Nat->Prop}{D:(Nat->Prop)->(Nat->Prop)->Goroutine->World->Prop}{S X:Nat->Prop}{Fd g Mp:Nat}{e d x:Int}{bo:Bool}{o o':Option Obj}
theorem Ob{b:Frame}(hb:b.fn=140)(hk:b.kind≠.early)(dd:List Deferred)(v1 v5:Value)(u:Nat->Value)(i n cap:Nat)(hi:i<n)(hn:n<=1000)
  (F:S g)(V:S Fd)(C:S Mp)(hXM:X Mp)(p:¬U Fd 2)(M:∀i,¬U g i)(y:∀i,¬U Mp i)(hFM:Fd≠Mp)(XZ:∀b i,U b i->b<w.heap.size)(W:∀a,S a->a<w.heap.size)
  (hc0:w.cell? ⟨g,i *2,none⟩=some (.int .i64 e))(hc1:w.cell? ⟨g,i *2+1,none⟩=some (.int .i64 d))(hm:w.cell? ⟨Fd,2,none⟩=some (.map (some Mp)))(ho:w.heap[Mp]?=o)
  (hlk:∀w,w.heap[Mp]?=o->(afm 166 (.map (some Mp)) (.int .i64 e) true).run Tryz.prog w=.ok (.tuple #[.int .i64 x,.bool bo]) w)
  (z:∀w,w.heap[Mp]?=o->∀ev∈afr Tryz.prog (afm 166 (.map (some Mp)) (.int .i64 e) true) w #[],ev.loc=.obj Mp/\ev.sync=false/\ev.write=false)
  (hup:∀w,w.heap[Mp]?=o->∃v w',(afh 166 (.map (some Mp)) (.int .i64 e) (.int .i64 d)).run Tryz.prog w=.ok v w'/\Env.Eff Mp w w'/\w'.heap[Mp]?=o')
  (s:∀w,w.heap[Mp]?=o->∀ev∈afr Tryz.prog (afh 166 (.map (some Mp)) (.int .i64 e) (.int .i64 d)) w #[],ev.loc=.obj Mp/\ev.sync=false)
  (cont:∀Y w2 m,w.heap.size<=Y->(∀i,¬U Y i)->AF Fd Mp Y e d (if(!bo||decide (d<x))=true then o' else o) w2->
   Tz Tryz.prog false U D (fun a=>S a\/a=Y) (fun a=>X a\/a=Y) (G (b.at ⟨vq Fd v1 (.pointer (some ⟨Y,0,none⟩)) (.slice (some ⟨g,0,none⟩) n cap) (.int .i64 (n:Int)) (.int .i64 ((i+1:Nat):Int)) m,dd⟩ kk) cs) w2):
  Tz Tryz.prog false U D S X (G (b.at ⟨vq Fd v1 v5 (.slice (some ⟨g,0,none⟩) n cap) (.int .i64 (n:Int)) (.int .i64 (i:Int)) u,dd⟩ (.code Oa::kk)) cs) w:=by
 refine Tz.quiet rfl (fun _=>stepG_seq) fun w1 Vt=>?_;refine Lb hk dd v1 v5 _ u i n fun w2 u2 G6 h18=>?_;refine Tz.quiet rfl (fun _=>stepG_seq) fun w3 Qa=>?_;have TX:Act.eval ⟨vq Fd v1 v5 (.slice (some ⟨g,0,none⟩) n cap) (.int .i64 n) (.int .i64 i) u2,dd⟩ (.tmp 18)=.bool true:=by
  show u2 18=_
  simp_all
 refine Tz.quiet rfl (fun _=>stepG_cond TX) fun w4 hr4=>?_;refine Tz.quiet rfl (fun _=>stepG_skip) fun w5 TF=>?_;refine Tz.quiet rfl (fun _=>stepG_seq) fun w6 Z_=>?_;refine Tz.quiet rfl (fun _=>stepG_block) fun w7 TG=>?_;refine Tz.quiet rfl (fun _=>stepG_seq) fun w8 TH=>?_;have R:=((((((Vt.trans G6).trans Qa).trans hr4).trans TF).trans Z_).trans TG).trans TH;refine Vz hb hk dd v1 v5 _ u2 i n cap hi F (fun wz hr=>⟨cI F (M _) hc0 (R.trans hr),cI F (M _) hc1 (R.trans hr)⟩) M (fun b i hu=>afg (XZ b i hu) R.grow) (fun a ha=>afg (W a ha) R.grow) fun Y w9 u3 hnb B d0 d1 Rs Vl=>?_;have f:=R.trans Vl;have Yq:=afA R.grow hnb;have H:zg U (fun a=>S a\/a=Y) Fd Mp Y:=⟨.inl V,.inl C,.inr rfl,p,B,y⟩;have hnM:Y≠Mp:=fun ee=>by have:=W Mp C;omega
 have hA9:AF Fd Mp Y e d o w9:=⟨cI V p hm f,d0,d1,((f.kept Mp C).eq y).trans ho⟩;refine Tz.quiet rfl (fun _=>stepG_seq) fun w10 Q=>?_;have J:=AF.rely H hA9 Q;obtain⟨k5,h5⟩:=Vw H dd v1 _ _ _ u3 x bo (fun w h=>hlk w h.o) (fun w h=>z w h.o);refine Tz.wpC (h5 w10 J) hb hk fun a' w0 w11 P T=>?_;obtain⟨⟨u5,h6,h7,rfl⟩,k⟩:=P;have L:=AF.rely H k T;refine Tz.quiet rfl (fun _=>stepG_seq) fun w12 Z=>?_;have N:=AF.rely H L Z;have six:∃k6,∀w,AF Fd Mp Y e d o w->Vy.wpC Tryz.prog false (RU U fun a=>S a\/a=Y) (DU U (fun a=>S a\/a=Y) fun a=>X a\/a=Y) 140 k6 (fun ex a' w'=>ex=.normal/\(∃m,m 38=.bool (!bo||decide (d<x))/\a'=⟨nz Fd Y v1 (.slice (some ⟨g,0,none⟩) n cap) (.int .i64 n) (.int .i64 i) m,dd⟩)/\AF Fd Mp Y e d o w') ⟨nz Fd Y v1 (.slice (some ⟨g,0,none⟩) n cap) (.int .i64 n) (.int .i64 i) u5,dd⟩ w:=by
  cases bo with
  |false=>exact R4 H dd _ _ _ _ u5 h7
  |true=>exact N8 H dd _ _ _ _ u5 h7 x h6
 obtain⟨k6,r⟩:=six;refine Tz.wpC (r w12 N) hb hk fun a' w0 w13 P E=>?_;obtain⟨⟨u6,l,rfl⟩,hB0⟩:=P;have O:=AF.rely H hB0 E;refine Tz.quiet rfl (fun _=>stepG_cond (by exact l)) fun w14 q=>?_;have A:=AF.rely H O q;have last:∀K u7,AF Fd Mp Y e d (if(!bo||decide (d<x))=true then o' else o) K->Tz Tryz.prog false U D (fun a=>S a\/a=Y) (fun a=>X a\/a=Y) (G (b.at ⟨nz Fd Y v1 (.slice (some ⟨g,0,none⟩) n cap) (.int .i64 n) (.int .i64 i) u7,dd⟩ (.inBlock 1:: .code ad8::kk)) cs) K:=by
  intro K u7 hA;refine Tz.quiet rfl (fun _=>stepG_inBlock) fun w16 j=>?_;exact VH hk dd _ _ _ _ u7 i (by omega) fun w17 u8 c=>cont Y w17 u8 Yq B (AF.rely H (AF.rely H hA j) c)
 cases ht:(!bo||decide (d<x))with
 |true=>
  rw[ht]at last;obtain⟨k7,t⟩:=Vx (X:=fun a=>X a\/a=Y) H (.inl hXM) hFM hnM dd v1 _ _ _ u6 o' hup s;refine Tz.wpC (t w14 A) hb hk fun a' w0 K P I=>?_;obtain⟨⟨u7,rfl⟩,hC0⟩:=P;exact last K u7 (AF.rely H hC0 I)
 |false=>
  rw[ht]at last;refine Tz.quiet rfl (fun _=>stepG_skip) fun K I=>?_;exact last K u6 (AF.rely H A I)
end
structure LJ(U:Nat->Nat->Prop)(Fd Mp g:Nat)(og:Option Obj)(S X:Nat->Prop)(w:World):Prop where
 sl:∀a,S a->a<w.heap.size
 ul:∀b i,U b i->b<w.heap.size
 og:w.heap[g]?=og
 sg:S g
 xg:¬X g
 sf:S Fd
 sm:S Mp
 xm:X Mp
theorem LJ.step{U:Nat->Nat->Prop}{Fd Mp g:Nat}{og:Option Obj}{S X S1 X1:Nat->Prop}{w w2 w1:World}{es:Array _}(K:∀i,¬U g i)(h:LJ U Fd Mp g og S X w)(hr:az U S w w2)(hd:Did S X w2 w1 es S1 X1):LJ U Fd Mp g og S1 X1 w1:=by
 have Y:=afg (h.sl g h.sg) hr.grow;refine⟨fun a H=>?_,fun b i hu=>afg (h.ul b i hu) (afA hr.grow hd.grow),?_,(hd.held g).2 (.inl h.sg),fun y=>?_,(hd.held Fd).2 (.inl h.sf),(hd.held Mp).2 (.inl h.sm),(hd.may Mp).2 (.inl h.xm)⟩
 ·rcases(hd.held a).1 H with y|y
  ·exact afg (h.sl a y) (afA hr.grow hd.grow)
  ·omega
 ·rw[hd.kept g Y h.xg,(hr.kept g h.sg).eq K,h.og]
 ·rcases(hd.may g).1 y with z|z
  ·exact h.xg z
  ·omega
section
variable{U:Nat->Nat->Prop}{D:(Nat->Prop)->(Nat->Prop)->Goroutine->World->Prop}{Fd g Mp n cap:Nat}{cur:Array Value}{E Dd:Nat->Int}
theorem Lc{b:Frame}{k0:List Item}(hb:b.fn=140)(hk:b.kind≠.early)(dd:List Deferred)(v1:Value)(s:n<=1000)(N:¬U Fd 2)(H:∀i,¬U g i)(I:∀i,¬U Mp i)(O:Fd≠Mp)
  (M:Nat->Option Obj->Prop)(B:∀i,i<n->cur[i *2]?=some (.int .i64 (E i))/\cur[i *2+1]?=some (.int .i64 (Dd i)))
  (A:(Nat->Prop)->(Nat->Prop)->World->Prop)(V:∀S X w w2 w1 es S1 X1,A S X w->az U S w w2->Did S X w2 w1 es S1 X1->A S1 X1 w1)(C:∀S X w w2,A S X w->az U S w w2->A S X w2)
  (law:∀i o,i<n->M i o->∃x bo o',(∀w,w.heap[Mp]?=o->(afm 166 (.map (some Mp)) (.int .i64 (E i)) true).run Tryz.prog w=.ok (.tuple #[.int .i64 x,.bool bo]) w)/\
   (∀w,w.heap[Mp]?=o->∀ev∈afr Tryz.prog (afm 166 (.map (some Mp)) (.int .i64 (E i)) true) w #[],ev.loc=.obj Mp/\ev.sync=false/\ev.write=false)/\
   (∀w,w.heap[Mp]?=o->∃v w',(afh 166 (.map (some Mp)) (.int .i64 (E i)) (.int .i64 (Dd i))).run Tryz.prog w=.ok v w'/\Env.Eff Mp w w'/\w'.heap[Mp]?=o')/\
   (∀w,w.heap[Mp]?=o->∀ev∈afr Tryz.prog (afh 166 (.map (some Mp)) (.int .i64 (E i)) (.int .i64 (Dd i))) w #[],ev.loc=.obj Mp/\ev.sync=false)/\
   M (i+1) (if(!bo||decide (Dd i<x))=true then o' else o))
  (fin:∀S X v5 u w,LJ U Fd Mp g (some (.cells cur 173)) S X w->A S X w->M n (w.heap[Mp]?)->Tz Tryz.prog false U D S X (G (b.at ⟨vq Fd v1 v5 (.slice (some ⟨g,0,none⟩) n cap) (.int .i64 (n:Int)) (.int .i64 (n:Int)) u,dd⟩ k0) cs) w):
  ∀(m i:Nat),i+m=n->∀S X v5 u w,LJ U Fd Mp g (some (.cells cur 173)) S X w->A S X w->w.cell? ⟨Fd,2,none⟩=some (.map (some Mp))->M i (w.heap[Mp]?)->
   Tz Tryz.prog false U D S X (G (b.at ⟨vq Fd v1 v5 (.slice (some ⟨g,0,none⟩) n cap) (.int .i64 (n:Int)) (.int .i64 i) u,dd⟩ (.code Oa:: .inLoop Oa:: .inBlock 0::k0)) cs) w
 |0,i,t,S,X,v5,u,w,K,d,hm,T=>by
  obtain rfl:i=n:=by omega
  refine Tz.quiet rfl (fun _=>stepG_seq) fun w1 q=>?_;refine Lb hk dd v1 v5 _ u i i fun w2 u2 Y Q=>?_;refine Tz.quiet rfl (fun _=>stepG_seq) fun w3 j=>?_;have Z:Act.eval ⟨vq Fd v1 v5 (.slice (some ⟨g,0,none⟩) i cap) (.int .i64 i) (.int .i64 i) u2,dd⟩ (.tmp 18)=.bool false:=by
   show u2 18=_
   rw[Q,decide_eq_false (Nat.lt_irrefl i)]
  refine Tz.quiet rfl (fun _=>stepG_cond Z) fun w4 z=>?_;refine Tz.quiet rfl (fun _=>stepG_exit rfl) fun y c=>?_;have F:=(((q.trans Y).trans j).trans z).trans c;refine fin S X v5 u2 y ?_ (C _ _ _ _ d F) (by rw[(F.kept Mp K.sm).eq I];exact T);exact LJ.step H K F (ay (U:=U) S X y).toDid
 |m+1,i,t,S,X,v5,u,w,K,d,hm,T=>by
  obtain⟨x,bo,o',l1,l2,a,l4,k⟩:=law i _ (by omega) T;obtain⟨c0,c1⟩:=B i (by omega);have hr:=Ob (D:=fun S' X' f w'=>∃J L,w.heap.size<=J/\(∀i,¬U J i)/\AF Fd Mp J _ _ _ w'/\f=G (b.at ⟨vq Fd v1 (.pointer (some ⟨J,0,none⟩)) _ _ _ L,dd⟩ (.inLoop Oa:: .inBlock 0::k0)) cs)
   hb hk dd v1 v5 u i n cap (by omega) s K.sg K.sf K.sm K.xm N H I O K.ul K.sl (by rw[cell_of_row _ _ _ _ _ _ K.og];exact c0) (by rw[cell_of_row _ _ _ _ _ _ K.og];exact c1) hm rfl l1 l2 a l4 (fun J w2 L l p P=>.stop ⟨J,L,l,p,P,rfl⟩)
  refine(Tz.inv (fun S X w=>LJ U Fd Mp g _ S X w/\A S X w) (fun S X w w2 w1 es S1 X1 r hr hd=>⟨r.1.step H hr hd,V _ _ _ _ _ _ _ _ r.2 hr hd⟩) hr ⟨K,d⟩).bind fun S' X' f w' hd=>?_;obtain⟨⟨J,L,l,p,P,rfl⟩,R,W⟩:=hd;refine Tz.quiet rfl (fun _=>stepG_inLoop) fun w2 Y=>?_;refine Lc hb hk dd v1 s N H I O M B A V C law fin m _ (by omega) S' X' _ L w2 (LJ.step H R Y (ay (U:=U) S' X' w2).toDid) (C _ _ _ _ W Y) (cI R.sf N P.m Y) ?_;rw[(Y.kept Mp R.sm).eq I,P.o];exact k
end
section
variable{P:Program}{main:Bool}{U:Nat->Nat->Prop}{D D':(Nat->Prop)->(Nat->Prop)->Goroutine->World->Prop}{S X SF XF:Nat->Prop}{g:Goroutine}{w:World}
theorem Tz.more(h:Tz P main U D S X g w)(k:∀S X g w,D S X g w->Tz P main U D' (fun a=>S a\/SF a) (fun a=>X a\/XF a) g w):Tz P main U D' (fun a=>S a\/SF a) (fun a=>X a\/XF a) g w:=by
 induction h with
 |stop hd=>exact k _ _ _ _ hd
 |@step S X g w H ex _ I=>
  refine Tz.one H fun w2 hr=>?_;have Y:az U S w w2:=⟨fun a K=>hr.kept a (.inl K),hr.grow,hr.env⟩;obtain⟨g1,w1,es,S1,X1,e,hd⟩:=ex w2 Y;refine⟨g1,w1,es,fun a=>S1 a\/SF a,fun a=>X1 a\/XF a,e,⟨⟨fun a K R=>hd.kept a K fun y=>R (.inl y),hd.grow,fun a=>?_,fun a=>?_,fun e he=>AL (hd.ev e he),hd.tape,hd.env,hd.output⟩,hd.Yx⟩,I w2 g1 w1 es S1 X1 Y e hd⟩
  ·rw[hd.held];constructor
   ·rintro((y|y)|y)
    ·simp_all
    ·exact .inr y
    ·simp_all
   ·rintro((y|y)|y)
    ·simp_all
    ·exact .inr y
    ·omega
  ·rw[hd.may];constructor
   ·rintro((y|y)|y)
    ·simp_all
    ·exact .inr y
    ·exact .inl (.inr y)
   ·rintro((y|y)|y)
    ·simp_all
    ·exact .inr y
    ·omega
end
section
variable{U:Nat->Nat->Prop}{D:(Nat->Prop)->(Nat->Prop)->Goroutine->World->Prop}{S X:Nat->Prop}{Fd:Nat}
theorem R7{b:Frame}{k0:List _}{cs:List _}(hk:b.kind≠.early)(dd:List _)(v1 v5 Y:Value)(u:Nat->Value)(n:Nat)
  (cont:∀w2 F,az U S w w2->Tz Tryz.prog false U D S X (G (b.at ⟨vq Fd v1 v5 Y (.int .i64 n) (.int .i64 n) F,dd⟩ k0) cs) w2):
  Tz Tryz.prog false U D S X (G (b.at ⟨vq Fd v1 v5 Y (.int .i64 n) (.int .i64 n) u,dd⟩ (.code Oa:: .inLoop Oa:: .inBlock 0::k0)) cs) w:=by
 refine Tz.quiet rfl (fun _=>stepG_seq) fun w1 H=>?_;refine Lb hk dd v1 v5 _ u n n fun w2 u2 R C=>?_;refine Tz.quiet rfl (fun _=>stepG_seq) fun w3 I=>?_;have K:Act.eval ⟨vq Fd v1 v5 Y (.int .i64 n) (.int .i64 n) u2,dd⟩ (.tmp 18)=.bool false:=by
  show u2 18=_
  simp_all
 refine Tz.quiet rfl (fun _=>stepG_cond K) fun w4 A=>?_;refine Tz.quiet rfl (fun _=>stepG_exit rfl) fun J B=>?_;exact cont J u2 ((((H.trans R).trans I).trans A).trans B)
end
def X6:Frame:=⟨140,#[],[],[],.run,.normal,none⟩
theorem R8(Fd:Nat)(v1 Y K H:Value)(j:Nat->Value):TN 48 (sA [(0,ptr Fd),(1,v1),(15,Y),(16,K),(17,H)]) j=vq Fd v1 (j 5) Y K H j:=by kernel_rfl
theorem D8.eq{a:Option Addr}(h:D8 Fd a n cap f):∃v5 u,f=X6.at ⟨vq Fd (.slice a n cap) v5 (.slice a n cap) (.int .i64 (n:Int)) (.int .i64 ((0:Nat):Int)) u,[dcall 161 #[ptr Fd]]⟩ [.code (.block 0 (.loop Oa))]:=by
 obtain⟨fn,tmps,todo,defers,mode,kind,ro⟩:=f;obtain⟨K,H,D,R,I,A,U,g0,g1,g15,g16,g17⟩:=h;subst K H D R I A;have B:pY 140 48 [] (sA [(0,ptr Fd),(1,.slice a n cap),(15,.slice a n cap),(16,.int .i64 n),(17,.int .i64 0)]) ⟨140,tmps,[],[],.run,.normal,none⟩:=by
  refine⟨rfl,rfl,rfl,rfl,rfl,rfl,U,fun i v Y=>?_⟩;have:(i,v)∈[(0,ptr Fd),(1,Value.slice a n cap),(15,.slice a n cap),(16,.int .i64 n),(17,.int .i64 0)]:=by
   unfold sA at Y;simp only[List.lookup]at Y
   repeat' split at Y
   all_goals first|(rename_i hb;simp_all)
  simp at this;rcases this with⟨rfl,rfl⟩|⟨rfl,rfl⟩|⟨rfl,rfl⟩|⟨rfl,rfl⟩|⟨rfl,rfl⟩<;>assumption
 have e:=congrArg Frame.tmps B.eq;simp only[ru]at e;rw[R8]at e;refine⟨tmps.getD 5 undef,fun i=>tmps.getD i undef,?_⟩;exact congrArg (fun t=>(⟨140,t,[.code _],[dcall 161 _],.run,.normal,none⟩:Frame)) e
def Ei(Mp:Nat)(L:List (Nat×Nat))(M:Nat->Option Obj->Prop):Prop:=∀i o,i<L.length->M i o->∃x bo o',
 (∀w,w.heap[Mp]?=o->(afm 166 (.map (some Mp)) (.int .i64 ((L.getD i (0,0)).1:Int)) true).run Tryz.prog w=.ok (.tuple #[.int .i64 x,.bool bo]) w)/\
 (∀w,w.heap[Mp]?=o->∀ev∈afr Tryz.prog (afm 166 (.map (some Mp)) (.int .i64 ((L.getD i (0,0)).1:Int)) true) w #[],ev.loc=.obj Mp/\ev.sync=false/\ev.write=false)/\
 (∀w,w.heap[Mp]?=o->∃v w',(afh 166 (.map (some Mp)) (.int .i64 ((L.getD i (0,0)).1:Int)) (.int .i64 ((L.getD i (0,0)).2:Int))).run Tryz.prog w=.ok v w'/\Env.Eff Mp w w'/\w'.heap[Mp]?=o')/\
 (∀w,w.heap[Mp]?=o->∀ev∈afr Tryz.prog (afh 166 (.map (some Mp)) (.int .i64 ((L.getD i (0,0)).1:Int)) (.int .i64 ((L.getD i (0,0)).2:Int))) w #[],ev.loc=.obj Mp/\ev.sync=false)/\
 M (i+1) (if(!bo||decide (((L.getD i (0,0)).2:Int)<x))=true then o' else o)
theorem Oc(L:List _)(i:Nat)(Y:i<L.length):(ck L)[i *2]?=some (.int .i64 ((L.getD i (0,0)).1))/\(ck L)[i *2+1]?=some (.int .i64 ((L.getD i (0,0)).2)):=by
 induction L generalizing i with
 |nil=>simp at Y
 |cons a L K=>
  cases i with
  |zero=>exact⟨rfl,rfl⟩
  |succ i=>
   rw[show(i+1) *2=i *2+1+1 by omega];exact K i (by simp_all)
section
variable{E:Env}{ok:Nat->Prop}{RO:Nat->Prop}{Fx:World->Prop}
theorem R9(X P:ByteArray)(k st:Nat)(K:E.tU RO Fx)(Y:∀w,Fx w->(∀b,RO b->b<w.heap.size)/\E.Mp<w.heap.size)(O:RO E.Fd)(hRW:RO E.Wg)(m:¬RO E.Mp)(s:∀w,Fx w->w.cell? ⟨E.Fd,2,none⟩=some (.map (some E.Mp)))(N:∀i,¬E.U E.Mp i)(p:E.Fd≠E.Mp)
  (hlen:∀x,ok x->(rC X P k st x).length<=1000)(v:∀γ c t,¬E.eZ γ (some (.cells c t)))
  (law:∀γ x,ok x->∃M:Nat->Option Obj->Prop,(∀o,E.eZ γ o->M 0 o)/\(∀o,M (rC X P k st x).length o->E.eZ (E.upd γ x) o)/\Ei E.Mp (rC X P k st x) M):
  Env.P_ E ok RO Fx (E.R3 X P k st):=by
 intro D x γ S X' f l w a n cap hx q hX A hXM hF d hm hf V;obtain⟨M,m0,m1,ml⟩:=law γ x hx;obtain⟨v5,u,rfl⟩:=hf.eq;clear hf;obtain⟨hn,d⟩:=d;have hu2:¬E.U E.Fd 2:=fun h=>by have:=h.2;omega
 refine Tz.quiet rfl (fun _=>stepG_block) fun w1 Vt=>?_;refine Tz.quiet rfl (fun _=>stepG_loop) fun w2 G6=>?_;have hr:=Vt.trans G6;have H:=K.rely S _ _ q hF hr;have C:E.eZ γ (w2.heap[E.Mp]?):=by rw[(hr.kept _ A).eq N];exact hm
 rcases d with⟨rfl,h0⟩|⟨g,cur,rfl,Q,hXg,W,hg,TE⟩
 ·subst h0;refine R7 (by simp[X6]) _ _ _ _ u 0 fun w3 u' Z=>?_;refine V S X' _ w3 q hX A (K.rely S _ _ q H Z) (m1 _ ?_);rw[<-hn,(Z.kept _ A).eq N];exact m0 _ C
 ·have B:=((hr.kept g Q).eq W).trans hg;have hgM:g≠E.Mp:=fun ee=>by
   rw[<-ee,B]at C;exact v _ _ _ C
  have hgl:=afo fun y=>by rw[afl y]at B;cases B
  have F:∀j,j<n *2->cur[j]?=(ck _)[j]?:=fun j I=>by
   rw[<-TE,afJ,if_pos I];simp
  have L:=Lc (U:=E.U) (D:=fun S1 X1 g1 w1=>(∃T,g1=G (RZ E.Fd T) l)/\(∀a,RO a->¬X1 a)/\Fx w1/\E.eZ (E.upd γ x) (w1.heap[E.Mp]?)) (Fd:=E.Fd) (g:=g) (Mp:=E.Mp) (n:=n) (cap:=cap) (cur:=cur)
   (b:=X6) (k0:=[]) (cs:=l) rfl (by simp[X6]) _ (.slice (some ⟨g,0,none⟩) n cap) (by rw[hn];exact hlen x hx) hu2 W N p M
   (fun i hi=>by
    obtain⟨f1,f2⟩:=Oc (rC X P k st x) i (by omega);exact⟨(F _ (by omega)).trans f1,(F _ (by omega)).trans f2⟩)
   (fun S1 X1 w1=>(∀a,RO a->S1 a)/\(∀a,RO a->¬X1 a)/\Fx w1)
   (fun S1 X1 w3 w4 w5 es S2 X2 I hr hd=>by
    obtain⟨j1,j2,j3⟩:=I;have J:=K.rely S1 _ _ j1 j3 hr;refine⟨fun a R=>(hd.held a).2 (.inl (j1 a R)),fun a R y=>?_,K.rely RO _ _ (fun _ h=>h) J ⟨fun a R=>.inl (hd.kept a ((Y _ J).1 a R) (j2 a R)),hd.grow,hd.env⟩⟩;rcases(hd.may _).1 y with z|z
    ·exact j2 a R z
    ·have:=(Y _ J).1 a R;omega)
   (fun S1 X1 w3 w4 I hr=>⟨I.1,I.2.1,K.rely S1 _ _ I.1 I.2.2 hr⟩)
   (fun i o hi r=>ml i o (by omega) r)
   (fun S1 X1 v6 u6 w3 hL I r=>.stop ⟨⟨_,rfl⟩,I.2.1,I.2.2,m1 _ (by rw[<-hn];exact r)⟩)
   n 0 (by omega) (fun a=>RO a\/a=E.Mp\/a=g) (fun a=>a=E.Mp) v5 u w2
   ⟨fun a R=>(by
    rcases R with y|rfl|rfl
    ·simp_all
    ·exact(Y w2 H).2
    ·exact hgl),fun b i hu=>(by
    rcases hu.1 with rfl|rfl
    ·exact(Y w2 H).1 _ O
    ·exact(Y w2 H).1 _ hRW),B,.inr (.inr rfl),hgM,.inl O,.inr (.inl rfl),rfl⟩
   ⟨fun a R=>.inl R,fun a R e=>m (e▸R),H⟩ (s w2 H) (m0 _ C)
  refine(Tz.more (SF:=S) (XF:=X') L fun S1 X1 g1 w3 hd=>?_).sets (fun a=>⟨fun h=>h.elim (fun y=>y.elim (q a) fun z=>z.elim (fun e=>e▸A) fun e=>e▸Q) id,.inr⟩) (fun a=>⟨fun h=>h.elim (fun y=>by subst y;exact hXM) id,.inr⟩);obtain⟨⟨T,rfl⟩,h1,h2,h3⟩:=hd;simp_all
end
end Ph
namespace Ph
open Conc Ren
open WideElems (Fit rd rg rd_val)
open Maps (Keyed IsMap Tidy has)
theorem u166:PR.underlying 166=some (.map 3 3):=by simp
theorem u3:PR.underlying 3=some (.int .i64):=by simp
theorem Qf(w:World):(zeroValue 3).run PR w=.ok (.int .i64 0) w:=eD (by kernel_rfl) w
theorem VI:Keyed PR 3:=Go.Maps.int_keyed u3
def py(l:List MapEntry):=∀x∈l,∃a:Int,x.key=.int .i64 a
theorem ko(e:Int):∀l i,py l->∃r,afB (.int .i64) (.int .i64 e) l i=some r/\∀j v,r=some (j,v)->i<=j/\∃x,l[j-i]?=some x/\x.key=.int .i64 e
 |[],i,_=>⟨none,rfl,fun j v h=>by cases h⟩
 |x::l,i,h=>by
  obtain⟨a,Y⟩:=h x (by simp);by_cases he:e=a
  ·subst he;refine⟨some (i,x.val),?_,fun j v K=>?_⟩
   ·simp[afB,Instr.sameNow,Y]
   ·simp_all
  ·obtain⟨r,H,D⟩:=ko e l (i+1) fun y I=>h y (by simp[I]);refine⟨r,?_,fun j v K=>?_⟩
   ·have hb:(e==a)=false:=by simp_all
    simp[afB,Instr.sameNow,Y,hb,H]
   ·obtain⟨A,x',U,R⟩:=D j v K;refine⟨by omega,x',?_,R⟩;rw[show j-i=(j-(i+1))+1 by omega];simp_all
def Sa(es:Array MapEntry)(clock:Nat)(e d:Int):Obj:=match afB (.int .i64) (.int .i64 e) es.toList 0 with
 |some (some (i,_))=>.map (es.modify i fun x=>{x with key:=.int .i64 e,val:=.int .i64 d}) clock
 |_=>.map (es.push {key:=.int .i64 e,val:=.int .i64 d,born:=clock}) (clock+1)
section
variable{w:World}{b:Nat}{es:Array MapEntry}{clock:Nat}{e d:Int}
theorem gB(hb:w.heap[b]?=some (.map es clock))(ev:Array _):(getObj b).events PR w ev=ev.push ⟨.obj b,false,false⟩:=by
 simp[getObj,afr,Sem.runT,hb,Obj.isChan,-Sem.runT_eq]
theorem nA(gR:Array _)(c':Nat)(hb:w.heap[b]?=some (.map es clock))(ev:Array _):(setObj b (.map gR c')).events PR w ev=ev.push ⟨.obj b,true,false⟩:=by
 simp[setObj,afr,Sem.runT,hb,Obj.isChan]
theorem mR(em:Bool):(Instr.checkKey em 10000 3 (.int .i64 e)).run PR w=.ok () w:=eD (by kernel_rfl) w
theorem zi(em:Bool)(ev:Array _):(Instr.checkKey em 10000 3 (.int .i64 e)).events PR w ev=ev:=jm (a:=()) (by kernel_rfl) w ev
theorem qF{r:Option _}(h:afB (.int .i64) (.int .i64 e) es.toList 0=some r):(afU 3 (.int .i64 e) es.toList).run PR w=.ok r w:=MapKept.run_findKey u3 h
theorem F1{r:Option _}(h:afB (.int .i64) (.int .i64 e) es.toList 0=some r)(ev:Array _):(afU 3 (.int .i64 e) es.toList).events PR w ev=ev:=by
 simp[afU,h]
theorem F2(hk:py es.toList)(hb:w.heap[b]?=some (.map es clock)):(afh 166 (.map (some b)) (.int .i64 e) (.int .i64 d)).run PR w=.ok () {w with heap:=w.heap.setIfInBounds b (Sa es clock e d)}:=by
 obtain⟨r,Y,H⟩:=ko e _ 0 hk;cases r with
 |none=>simp[afh,afn hb,mR,qF Y,afP _ hb,Sa,Y]
 |some x=>
  obtain⟨i,v⟩:=x;obtain⟨_,y,D,R⟩:=H i v rfl;have K:=by simpa using D
  simp[afh,afn hb,mR,qF Y,afP _ hb,Sa,Y,afX,K,R,Instr.sameBits]
theorem Sb(hk:py es.toList)(hb:w.heap[b]?=some (.map es clock)):∀ev∈afr PR (afh 166 (.map (some b)) (.int .i64 e) (.int .i64 d)) w #[],ev.loc=.obj b/\ev.sync=false:=by
 obtain⟨r,K,D⟩:=ko e es.toList 0 hk;intro ev Y;cases r with
 |none=>
  simp[afh,afn hb,gB hb,mR,zi,qF K,F1 K,nA _ _ hb]at Y;rcases Y with rfl|rfl<;>exact⟨rfl,rfl⟩
 |some x=>
  obtain⟨i,v⟩:=x;obtain⟨_,y,R,I⟩:=D i v rfl;have H:=by simpa using R
  simp[afh,afn hb,gB hb,mR,zi,qF K,F1 K,nA _ _ hb,afX,H,I,Instr.sameBits]at Y;rcases Y with rfl|rfl<;>exact⟨rfl,rfl⟩
theorem Od(hk:py es.toList)(hb:w.heap[b]?=some (.map es clock)):∀ev∈afr PR (afm 166 (.map (some b)) (.int .i64 e) true) w #[],ev.loc=.obj b/\ev.sync=false/\ev.write=false:=by
 obtain⟨r,K,H⟩:=ko e _ 0 hk;intro ev Y;cases r with
 |none=>
  simp[afm,afn hb,gB hb,mR,zi,qF K,F1 K]at Y;simp_all
 |some x=>
  simp[afm,afn hb,gB hb,mR,zi,qF K,F1 K]at Y;simp_all
end
abbrev KB:=2000
abbrev wu:=Nat->Option Nat
def better(g:wu)(h:Nat×Nat):wu:=fun e=>if e=h.1 then(match g e with|some d=>some (min d h.2)|none=>some h.2)else g e
structure Bz(l:List (Lit×DataW Unit))(g:wu):Prop where
 has:∀e:Nat,has (.map l) (.int .i64 (e:Int))=(g e).isSome
 at_:∀e:Nat,(DataW.map l).atKey (.int .i64 (e:Int)) (.lit (.int .i64 0))=.lit (.int .i64 (((g e).getD 0:Nat):Int))
 keys:∀p∈l,∃e:Nat,e<KB/\p.1=.int .i64 (e:Int)
def kq(g:wu)(o:Option Obj):Prop:=∃es clock l,o=some (.map es clock)/\Fit PR 3 (plainElem (H:=Unit) PR 3) es clock/\l=(es.toList.map (rg PR 3 (plainElem (H:=Unit) PR 3))).foldr DataW.insert []/\Bz l g
theorem Ej(g:wu)(c:Array _)(t:TypeId):¬kq g (some (.cells c t)):=by
 rintro⟨es,clock,l,h,_⟩;cases h
theorem ui{es:Array _}(F:Fit PR 3 (plainElem (H:=Unit) PR 3) es clock):py es.toList:=by
 intro x D;obtain⟨y,I⟩:=F.reads x D;have:∃K,keyOf PR 3 x.key=some K:=by
  obtain⟨K,U,_⟩:=aff.1 I;simp_all
 obtain⟨K,Y⟩:=this;generalize R:x.key=A at Y;unfold keyOf at Y;cases A<;>simp[mapKey]at Y;simp_all
theorem uj:∀K (l:List Nat),l.Nodup->(∀x∈l,x<K)->l.length<=K
 |0,l,_,h=>by
  cases l with
  |nil=>exact afy _
  |cons a l=>have:=h a (by simp);omega
 |K+1,l,H,h=>by
  by_cases hk:K∈l
  ·have I:=uj K _ (H.erase K) (fun x Y=>by
    have D:=(List.Nodup.mem_erase_iff H).1 Y;have R:=h x D.2;omega)
   simp_all
  ·have:=uj K l H (fun x Y=>by
    have R:=h x Y;have:x≠K:=fun e=>hk (e▸Y);omega)
   omega
def Sc:Lit->Nat
 |.int _ a=>a.toNat
 |_=>0
theorem Ld{l:List _}{g:wu}(h:Bz l g)(B:l.Pairwise fun p q=>p.1≠q.1):l.length<=KB:=by
 have Y:(l.map fun p=>Sc p.1).Nodup:=by
  show List.Pairwise _ _
  rw[List.pairwise_map];refine B.imp_of_mem fun{p q} H U K e=>K ?_;obtain⟨R,_,Y⟩:=h.keys p H;obtain⟨F,_,D⟩:=h.keys q U;rw[Y,D]at e;simp[Sc]at e;simp_all
 have D:=uj KB _ Y (fun x C=>by
  obtain⟨p,H,rfl⟩:=List.mem_map.1 C;obtain⟨R,I,A⟩:=h.keys p H;rw[A];simpa[Sc]using I)
 simp_all
theorem Lf:Bz [] (fun _=>none):=⟨fun e=>rfl,fun e=>rfl,fun p Y=>by cases Y⟩
theorem VJ(e:Nat):WideAt.IsKeyLit (.int .i64 e):=by first|trivial
theorem Lg{l:List _}{g:wu}(h:Bz l g){e d:Nat}(he:e<KB):Bz (ChangeMaps.putKey (.int .i64 e) (.lit (.int .i64 d)) l) (fun x=>if x=e then some d else g x):=by
 have hm:IsMap _:=⟨l,rfl⟩;refine⟨fun x=>?_,fun x=>?_,fun p H=>?_⟩
 ·rw[<-DataW.put_eq];by_cases Y:x=e
  ·subst Y;rw[Go.Maps.has_put_same hm (VJ x),if_pos rfl];rfl
  ·rw[Go.Maps.has_put_other (by intro y;cases y;omega),if_neg Y];exact h.has x
 ·rw[<-DataW.put_eq];by_cases Y:x=e
  ·subst Y;rw[Go.Maps.atKey_put_same hm (VJ x),if_pos rfl];rfl
  ·rw[Go.Maps.atKey_put_other (by intro y;cases y;omega),if_neg Y];exact h.at_ x
 ·rcases ChangeMaps.mem_insert_iff.1 H with rfl|K
  ·exact⟨e,he,rfl⟩
  ·exact h.keys p (List.mem_filter.1 K).1
theorem uk{e:Nat}(h:e<1000000):(Lit.int .i64 e).wf=true:=by
 simp[Lit.wf,IntKind.min,IntKind.bits,IntKind.signed];omega
theorem Lh{g:wu}{es:Array _}{e d:Nat}(h:kq g (some (.map es clock)))(he:e<KB)(hd:d<1000000):kq (fun x=>if x=e then some d else g x) (some (Sa es clock e d)):=by
 obtain⟨J,I,l,L,F,U,R⟩:=h;cases L
 let w:={(default:World)with heap:=#[.map es clock]}
 have hb:w.heap[0]?=some _:=rfl;have own:w.ownsMap PR 3 _ 0 _ (.map l):=⟨es,clock,hb,F,afy _,by rw[U]⟩;obtain⟨l1,C,N⟩:=own.tidy VI;cases C;have hlen:es.size<maxLen:=by
  have O:=Ld R N;have P:l.length=es.size:=by rw[U,length_sorted];simp
  have Q:KB<maxLen:=by decide
  omega
 obtain⟨w',K,D,_⟩:=own.store VI u166 hlen (Go.Maps.keyOf_int_mk u3 (uk (e:=e) (by have:KB=2000:=rfl;omega))) (plainElem_int u3 (uk hd));rw[F2 (ui F) hb]at K;cases K;obtain⟨gR,Y,H,B,_,M⟩:=D;have A:some (Sa es clock e d)=some (Obj.map gR Y):=H.symm.trans H▸(by
  have:(w.heap.setIfInBounds 0 (Sa es clock e d))[0]?=some _:=rfl;simp_all)
 rw[A];refine⟨gR,Y,_,rfl,B,(DataW.map.inj M),Lg R he⟩
theorem Oe(Mp:Nat)(g:wu)(L:List (Nat×Nat))(O:∀h∈L,h.1<KB/\h.2<1000000):Ei Mp L (fun i o=>kq ((L.take i).foldl better g) o):=by
 intro i o X C;have J:L[i]?=some (L.getD i (0,0)):=by simp_all
 generalize V:L.getD i (0,0)=h at J;obtain⟨e,d⟩:=h;obtain⟨he,hd⟩:=O _ (afS J);have Y:(L.take (i+1)).foldl better g=better ((L.take i).foldl better g) (e,d):=by rw[List.take_add_one,J,List.foldl_append];rfl
 simp only[Y];generalize(L.take i).foldl better g=γ at C⊢;have D:=C;obtain⟨es,clock,l,rfl,F,S,R⟩:=C;have hk:=ui F;refine⟨(((γ e).getD 0:Nat):Int),(γ e).isSome,some (Sa es clock (e:Int) (d:Int)),fun w hb=>?_,fun w hb=>Od hk hb,fun w hb=>?_,fun w hb=>Sb hk hb,?_⟩
 ·have own:w.ownsMap PR 3 _ Mp es.size (.map l):=⟨es,clock,hb,F,afy _,by rw[S]⟩;obtain⟨v,Z,A,T⟩:=own.look_ok VI u166 (Qf w) (plainElem_int (H:=Unit) u3 (uk (e:=0) (by omega))) (Go.Maps.keyOf_int_mk u3 (uk (e:=e) (by have:KB=2000:=rfl;omega)));obtain⟨c,rfl,Q,_⟩:=plainElem_int_inv u3 T;have M:=congrArg Prod.fst Q;rw[R.at_ e]at M;have N:c=(((γ e).getD 0:Nat):Int):=by simp_all
  rw[A,N,R.has e]
 ·refine⟨(),_,F2 hk hb,⟨fun a P=>?_,by simp,rfl,.refl _,rfl⟩,?_⟩
  ·rw[afq fun y=>P y.symm]
  ·rw[afC (afi.1 hb).1]
 ·have hb:=Lh D he hd;cases B:γ e with
  |none=>
   have K:better γ (e,d)=fun x=>if x=e then some d else γ x:=by
    funext x;unfold better;simp_all
   rw[K];exact hb
  |some c=>
   by_cases I:d<c
   ·have K:better γ (e,d)=fun x=>if x=e then some d else γ x:=by
     funext x;unfold better;by_cases U:x=e
     ·subst U;simp[B];omega
     ·simp[U]
    rw[K,if_pos (by simpa using I)];exact hb
   ·have K:better γ (e,d)=γ:=by
     funext x;unfold better;by_cases U:x=e
     ·subst U;simp[B];omega
     ·simp[U]
    rw[K,if_neg (by simpa using I)];exact D
end Ph
namespace Ph
open Conc Ren
open Lock (Word PC)
section
variable{P:Program}{main:Bool}{U:Nat->Nat->Prop}{D:(Nat->Prop)->(Nat->Prop)->Frame->List Frame->World->Prop}{S X:Nat->Prop}{f:Frame}{l:List Frame}{w:World}
theorem Tr.one(h:∀w2,az U S w w2->∃f1 l1 w1 es S1 X1,stepG P main (G f l) w2=.go (G f1 l1) w1 es/\Did S X w2 w1 es S1 X1/\Tr P main U D S1 X1 f1 l1 w1):Tr P main U D S X f l w:=by
 refine .step (fun w2 hr=>?_) fun w2 f1 l1 w1 es S1 X1 hr e hd=>?_
 ·obtain⟨f1,l1,w1,es,S1,X1,e,hd,_⟩:=h w2 hr;exact⟨f1,l1,w1,es,S1,X1,e,hd⟩
 ·obtain⟨R,A,B,gR,K,H,e',Y,I⟩:=h w2 hr;rw[e]at e';cases e';obtain⟨rfl,rfl⟩:=hd.same Y;exact I
theorem Tr.pure:∀n {f:Frame} {l:List _} {w:World},(∀w2,az U S w w2->Tr P main U D S X (aQ P n f l).1 (aQ P n f l).2 w2)->Tr P main U D S X f l w
 |0,f,l,w,h=>h w (.refl _ _ _)
 |n+1,f,l,w,h=>by
  unfold aQ at h;split at h
  ·rename_i f1 l1 e;exact Tr.one fun w2 hr=>⟨_,_,w2,#[],S,X,et e,(ay (U:=U) S X w2).toDid,Tr.pure n fun w3 Y=>h w3 (hr.trans Y)⟩
  ·exact h w (.refl _ _ _)
end
theorem aH.pure{P:Program}{Q:QT}(n:Nat)(k:∀w',Kept (fun _=>False) (fun _=>False) w w'->aH P Q Z (aQ P n f l).1 (aQ P n f l).2 w'):aH P Q Z f l w:=by
 refine af3 (U:=fun _ _=>False) (S:=fun _=>False) (X:=fun _=>False) (Done:=fun S X f' l' w'=>X=(fun _=>False)/\f'=(aQ P n f l).1/\l'=(aQ P n f l).2) (Tr.pure n fun w2 hr=>.stop ⟨rfl,rfl,rfl⟩) (fun a h=>h.elim) fun S' X' f' l' w' hd hk=>?_;obtain⟨rfl,rfl,rfl⟩:=hd;exact k w' hk
structure sa(Z:Loc->Prop)(Fd Mp Wg Gv By Rf Sg Fp k q st n:Nat)(X P:ByteArray)(b:Option Addr)(ao:List Nat)(w:World):Prop where
 cin:R0 Fd By Rf Sg Fp k q st X P w
 fd:w.heap[Fd]?=some (.cells #[.int .i32 0,.int .u32 0,.map (some Mp)] 191)
 mp:w.heap[Mp]?=some (.map #[] 0)
 wg:w.heap[Wg]?=some (.cells #[.int .u64 0,.int .u32 0] 212)
 gv:w.heap[Gv]?=some (.cells (oj [] n) 214)
 num:∀i x:Nat,ao[i]?=some x->∃Nb o,b=some ⟨Nb,o,none⟩/\w.cell? ⟨Nb,o+i,none⟩=some (.int .i64 (x:Int))/\Nb≠Mp/\Nb≠Gv/\Nb≠Fd/\Nb≠Wg/\jl Z Nb
 off:∀a,a=Fd\/a=Mp\/a=Wg\/a=Gv\/Kp By Rf Sg Fp a->jl Z a
 fm:Fd≠Mp
 fw:Fd≠Wg
 fg:Fd≠Gv
 mw:Mp≠Wg
 mg:Mp≠Gv
 X7:Gv≠Wg
 kp:∀a,Kp By Rf Sg Fp a->a≠Fd/\a≠Mp/\a≠Wg/\a≠Gv
 n0:0<n
 n8:n<=8
 len:ao.length<1000000
 hX:X.size<=200
 hP:P.size<=30
 hk:k<=6
 au:st<=200
 ok:∀x∈ao,x *st<=X.size/\x<=100000
def iV(Fd Mp Wg:Nat)(X P:ByteArray)(k st:Nat):Env where
 Fd:=Fd
 Mp:=Mp
 Wg:=Wg
 tF:=191
 tW:=212
 zc:=XV
 Γ:=wu
 upd g x:=(rC X P k st x).foldl better g
 eZ:=kq
def fP(Z:Loc->Prop)(Mp Gv B:Nat)(a:Nat):=a<B/\a≠Mp/\a≠Gv/\jl Z a
theorem ax{a:Nat}{o:Obj}(h:w.heap[a]?=some o):a<w.heap.size:=(afi.1 h).1
section
variable{Z:Loc->Prop}{Fd Mp Wg Gv By Rf Sg Fp k q st n:Nat}{X P:ByteArray}{b:Option Addr}{ao:List Nat}{w:World}
theorem sa.Sd(h:sa Z Fd Mp Wg Gv By Rf Sg Fp k q st n X P b ao w){a:Nat}(Y:Kp By Rf Sg Fp a):fP Z Mp Gv w.heap.size a:=by
 obtain⟨D,K,R,H⟩:=h.kp a Y;refine⟨?_,K,H,h.off a (.inr (.inr (.inr (.inr Y))))⟩;rcases Y with rfl|rfl|rfl|rfl
 ·exact ax h.cin.b
 ·exact ax h.cin.r
 ·exact ax h.cin.s
 ·exact ax h.cin.f
theorem sa.HO(h:sa Z Fd Mp Wg Gv By Rf Sg Fp k q st n X P b ao w):fP Z Mp Gv w.heap.size Fd:=⟨ax h.fd,h.fm,h.fg,h.off Fd (.inl rfl)⟩
theorem sa.HU(h:sa Z Fd Mp Wg Gv By Rf Sg Fp k q st n X P b ao w):fP Z Mp Gv w.heap.size Wg:=⟨ax h.wg,fun e=>h.mw e.symm,fun e=>h.X7 e.symm,h.off Wg (.inr (.inr (.inl rfl)))⟩
theorem uo{a:Nat}(Y:a≠Fd)(K:a≠Wg)(i:Nat):¬(iV Fd Mp Wg X P k st).U a i:=fun y=>y.1.elim Y K
theorem sa.same(h:sa Z Fd Mp Wg Gv By Rf Sg Fp k q st n X P b ao w){a:Nat}(H:fP Z Mp Gv w.heap.size a)(Y:a≠Fd)(K:a≠Wg)(I:My (iV Fd Mp Wg X P k st) (fP Z Mp Gv w.heap.size) w w2):w2.heap[a]?=w.heap[a]?:=
 (I.kept a H).eq (uo Y K)
theorem sa.VK(h:sa Z Fd Mp Wg Gv By Rf Sg Fp k q st n X P b ao w)(K:My (iV Fd Mp Wg X P k st) (fP Z Mp Gv w.heap.size) w w2):R0 Fd By Rf Sg Fp k q st X P w2:=by
 have s:=fun a Y=>h.same (h.Sd Y) (h.kp a Y).1 (h.kp a Y).2.2.1 K;exact⟨(s _ (.inl rfl)).trans h.cin.b,(s _ (.inr (.inl rfl))).trans h.cin.r,(s _ (.inr (.inr (.inl rfl)))).trans h.cin.s,(s _ (.inr (.inr (.inr rfl)))).trans h.cin.f,afA h.cin.low K.grow⟩
theorem sa.known(h:sa Z Fd Mp Wg Gv By Rf Sg Fp k q st n X P b ao w):(iV Fd Mp Wg X P k st).tU (fP Z Mp Gv w.heap.size) (My (iV Fd Mp Wg X P k st) (fP Z Mp Gv w.heap.size) w):=
 ⟨fun S w1 w2 Y hF hr=>az.trans hF ⟨fun a K=>hr.kept a (Y a K),hr.grow,hr.env⟩,fun w1 hF=>Env.AR.rely ⟨_,_,_,h.fd,rfl⟩ h.HO hF,fun w1 hF=>Env.o8.rely ⟨_,_,_,h.wg,rfl⟩ h.HU hF⟩
theorem uq(t p:ByteArray)(k:Nat):∀n,∀h∈bT t p k n,h.2<=k
 |0,h,Y=>by simp[bT]at Y
 |n+1,h,Y=>by
  have H:=uq t p k n;rw[bT]at Y;split at Y
  ·rcases af1.1 Y with K|K
   ·exact H h K
   ·simp_all
  ·exact H h Y
theorem xO{x:Nat}(hX:X.size<=200)(hP:P.size<=30)(hk:k<=6)(au:st<=200)(B:x *st<=X.size/\x<=100000):(rC X P k st x).length<=1000/\∀h∈rC X P k st x,h.1<KB/\h.2<1000000:=by
 have U:(dM X P k st x).size<=300:=by unfold dM;rw[afO];omega
 have A:(rC X P k st x).length=(dE _ P k).length:=im _ _ _;have D:(dE _ P k).length<=(dM X P k st x).size:=jS _ _ _ _;refine⟨by omega,fun h K=>?_⟩;unfold rC cT at K;rw[afZ,List.drop_length,List.append_nil]at K;obtain⟨H,Y,rfl⟩:=List.mem_map.1 K;have R:=oh _ _ _ _ H Y;have I:=uq _ _ _ _ H Y;have:KB=2000:=rfl;omega
theorem sa.aah(h:sa Z Fd Mp Wg Gv By Rf Sg Fp k q st n X P b ao w)(ch:Nat):Env.qz (iV Fd Mp Wg X P k st) ch (fun x=>x *st<=X.size/\x<=100000) (cM By Rf Sg Fp) (fP Z Mp Gv w.heap.size) (My (iV Fd Mp Wg X P k st) (fP Z Mp Gv w.heap.size) w):=by
 have Y:∀w2,My (iV Fd Mp Wg X P k st) (fP Z Mp Gv w.heap.size) w w2->(∀b,fP Z Mp Gv w.heap.size b->b<w2.heap.size)/\(iV Fd Mp Wg X P k st).Mp<w2.heap.size:=fun w2 C=>⟨fun b hb=>afg hb.1 C.grow,afg (ax h.mp) C.grow⟩;have H:¬fP Z Mp Gv w.heap.size (iV Fd Mp Wg X P k st).Mp:=fun y=>y.2.1 rfl;have D:∀i,¬(iV Fd Mp Wg X P k st).U (iV Fd Mp Wg X P k st).Mp i:=uo (fun e=>h.fm e.symm) h.mw;refine Env.D9 D h.known (fun hF F he I=>az.trans hF (FF _ F I he)) (fun hF=>az.trans hF ⟨fun a _=>.inl rfl,afy _,⟨_,rfl⟩⟩) (Env.N5 _ X P k st) h.HO h.HU (h.Sd (.inr (.inr (.inr rfl)))) (uo (h.kp Fp (.inr (.inr (.inr rfl)))).1 (h.kp Fp (.inr (.inr (.inr rfl)))).2.2.1 0) (fun w2 hF=>?_) H ?_ ?_
 ·rw[cell_of_row _ Fp 0 _ _ _ (h.VK hF).f];rfl
 ·exact N7 X P k q st h.hX h.hP h.hk h.au (fun x R=>R) h.known (fun w2 hF=>h.VK hF) (fun b hb=>h.Sd hb) (fun b hb=>uo (h.kp b hb).1 (h.kp b hb).2.2.1) Y
 ·have law:∀(γ:wu) (x:Nat),(x *st<=X.size/\x<=100000)->∃M:Nat->Option Obj->Prop,(∀o,kq γ o->M 0 o)/\(∀o,M (rC X P k st x).length o->kq ((rC X P k st x).foldl better γ) o)/\Ei Mp (rC X P k st x) M:=fun γ x R=>
   ⟨fun i o=>kq (((rC X P k st x).take i).foldl better γ) o,(fun o A=>by show kq (((rC X P k st x).take 0).foldl better γ) o;rw[List.take_zero];exact A),(fun o A=>by
    have B:kq (((rC X P k st x).take (rC X P k st x).length).foldl better γ) o:=A;rw[afZ]at B;exact B),Oe Mp γ _ (xO h.hX h.hP h.hk h.au R).2⟩
  have K:w.cell? ⟨Fd,2,none⟩=some (.map (some Mp)):=by rw[cell_of_row _ Fd 2 _ _ _ h.fd];rfl
  exact R9 X P k st h.known Y h.HO h.HU H (fun w2 hF=>cI (U:=(iV Fd Mp Wg X P k st).U) (S:=fP Z Mp Gv w.heap.size) h.HO (fun y=>by have:=y.2;omega) K hF) D h.fm (fun x R=>(xO h.hX h.hP h.hk h.au R).1) (fun γ c t=>Ej γ c t) law
end
end Ph
namespace Ph
open Conc Ren
open Lock (Word PC)
open ConcN (sumTo upd sumTo_upd upd_ne upd_same sumTo_le)
theorem xP{E:Env}{b:Nat}{a:Addr}(h:¬E.U a.block a.off):fC E RO b XX (.cell a)=jH E RO b XX a.block:=by
 simp[fC];simp_all
theorem HV{E:Env}{b:Nat}{a:Addr}(h:E.U a.block a.off):fC E RO b XX (.cell a)=.at:=by
 simp[fC];simp_all
def Of(E:Env)(bR:E.Γ):fW E:=⟨0,[],fun _=>.no,.st [],.run,Word.zero,0,0,0,0,bR,[],none⟩
theorem uu(n:Nat):sumTo n (fun _=>0)=0:=by
 induction n with
 |zero=>rfl
 |succ n Y=>simp[sumTo,Y]
theorem ci0{E:Env}{J:fL}{bR:E.Γ}(K:0<J.n):CI J bR (Of E bR):=by
 have Y:Lock.Inv (fun _=>PC.out) J.n Word.zero 0:=by
  refine⟨fun i _=>trivial,by rw[cE _ rfl];rfl,fun _=>⟨by rw[cE Lock.lr rfl,cE Lock.ei rfl,cE Lock.eE rfl];rfl,by rw[cE Lock.ll rfl,cE Lock.eE rfl];rfl,cE _ rfl _,cE _ rfl _,fun _ _ h=>absurd h (Nat.lt_irrefl 0)⟩,fun h=>by cases h⟩
 refine⟨Nat.zero_le _,rfl,List.nodup_nil,fun _ _=>rfl,fun k hk=>absurd hk (afx _),Y,nofun,nofun,nofun,⟨nofun,nofun,nofun⟩,fun y=>?_,rfl,?_,?_,fun k hk=>hk.elim,⟨rfl,K⟩,nofun,nofun,nofun,nofun⟩
 ·show 0+sumTo J.n (fun _=>0)=(J.ao.take 0).count y
  rw[uu];simp
 ·show 0+sumTo J.n (fun _=>0)=0+0
  rw[uu]
 ·show yZ (.st []) 0 0 0 (sumTo J.n fun _=>0) (sumTo J.n fun _=>0)
  rw[uu];exact .inl ⟨rfl,rfl,rfl,rfl,id,nofun⟩
theorem VM{E:Env}{J:fL}{bR:E.Γ}:Calm J (Of E bR):=⟨nofun,nofun,nofun,nofun⟩
theorem BA(g:wu)(Y K:Nat×Nat):better (better g Y) K=better (better g K) Y:=by
 funext e;unfold better;by_cases H:e=Y.1<;>by_cases R:e=K.1<;>simp[H]<;>(try rfl)
 ·subst H;by_cases D:Y.1=K.1
  ·rw[if_pos D,if_pos D];cases g _ with
   |none=>simp;omega
   |some d=>simp;omega
  ·omega
 simp_all
theorem jf(g:wu):∀(L:List _) h,L.foldl better (better g h)=better (L.foldl better g) h
 |[],h=>rfl
 |a::L,h=>by
  rw[afI,afI,BA g h a];exact jf _ L h
theorem uv(g:wu):∀(K Y:List _),Y.foldl better (K.foldl better g)=K.foldl better (Y.foldl better g)
 |[],Y=>rfl
 |a::K,Y=>by
  rw[afI,afI,uv _ K Y,jf g Y a]
theorem Ek{f:wu->Nat->wu}(I:∀g x y,f (f g x) y=f (f g y) x)(h:l1.Perm l2):∀g,l1.foldl f g=l2.foldl f g:=by
 induction h with
 |nil=>exact fun _=>rfl
 |cons x _ H=>exact fun g=>H _
 |swap x y l=>exact fun g=>by simp_all
 |trans _ _ Y K=>exact fun g=>(Y g).trans (K g)
def gX(X P:ByteArray)(k st:Nat)(ao:List Nat):=ao.foldl (fun g x=>(rC X P k st x).foldl better g) (fun _=>none)
section
variable{Z:Loc->Prop}{Fd Mp Wg Gv By Rf Sg Fp k q st n:Nat}{X P:ByteArray}{b:Option Addr}{ao:List Nat}{w:World}
def VN (Z:Loc->Prop) (Fd Mp Wg Gv By Rf Sg Fp k st n:Nat) (X P:ByteArray) (ao:List Nat) (w:World) (c:Frame) (cs:List Frame) (b:Nat):aU where
 P:=PR
 E:=iV Fd Mp Wg X P k st
 J:=⟨n,ao⟩
 b:=b
 A ch:=Env.AtRecv (iV Fd Mp Wg X P k st) ch (cM By Rf Sg Fp) (fP Z Mp Gv w.heap.size) (My (iV Fd Mp Wg X P k st) (fP Z Mp Gv w.heap.size) w)
 o_:=VB (iV Fd Mp Wg X P k st) (fP Z Mp Gv w.heap.size) w (cM By Rf Sg Fp)
 Fin:=VC (iV Fd Mp Wg X P k st) (fP Z Mp Gv w.heap.size) w c cs
 RO:=fP Z Mp Gv w.heap.size
 cW l:=Z l\/tN (iV Fd Mp Wg X P k st) l
 ok x:=x *st<=X.size/\x<=100000
 bR:=fun _=>none
 w0:=w
theorem sa.aai(h:sa Z Fd Mp Wg Gv By Rf Sg Fp k q st n X P b ao w)(c:Frame)(cs:List _)(H:Nat)(hb:0<H):(VN Z Fd Mp Wg Gv By Rf Sg Fp k st n X P ao w c cs H).Laws where
 n0:=h.n0
 n8:=h.n8
 b0:=hb
 YT:=h.ok
 fw:=h.fw
 mf:=fun e=>h.fm e.symm
 mw:=h.mw
 rf:=h.HO
 rw:=h.HU
 rm:=fun y=>y.2.1 rfl
 YU:=fun l R=>.inr R
 Kf:=fun Y=>Env.Bg Y
 Kg:=fun Y w2=>Env.Hx Y
 Rl:=fun Y hr I K=>Env.Bh h.known (h.aah _) Y hr I K
 PX:=fun Y hr K=>Env.Bi h.known Y hr _ K
 Xh:=fun{ch g w2} D=>by
  obtain⟨rfl,hF⟩:=D;exact Env.NS h.known ⟨fun _ y=>y,fun y=>y.2.1 rfl,id,h.HO,h.HU,fun _ _ y=>y⟩ hF
theorem sa.dl(h:sa Z Fd Mp Wg Gv By Rf Sg Fp k q st n X P b ao w):Dl (iV Fd Mp Wg X P k st) (fP Z Mp Gv w.heap.size) w Gv ⟨n,ao⟩ b:=by
 refine⟨h.n0,h.n8,h.len,uo (fun e=>h.fg e.symm) h.X7,h.X7,fun y=>y.2.2.1 rfl,h.HU,⟨_,_,_,h.wg,rfl⟩,fun a i hu=>?_,fun i x B=>?_⟩
 ·rcases hu.1 with e|e
  ·rw[e];exact ax h.fd
  ·rw[e];exact ax h.wg
 ·obtain⟨Nb,o,hb,K,I,A,D,R,U⟩:=h.num i x B;have H:Nb<w.heap.size:=afo fun y=>by
   simp[afs,afl y]at K
  have Y:fP Z Mp Gv _ Nb:=⟨H,I,A,U⟩;refine⟨Nb,o,hb,Y,uo D R _,fun w2 hF=>?_⟩;simp[afs]at K⊢;rw[h.same Y D R hF];exact K
theorem sa.mu0(h:sa Z Fd Mp Wg Gv By Rf Sg Fp k q st n X P b ao w):(iV Fd Mp Wg X P k st).MuAt w Word.zero 0:=by
 exact h.fd
theorem sa.X0(h:sa Z Fd Mp Wg Gv By Rf Sg Fp k q st n X P b ao w):(iV Fd Mp Wg X P k st).WgAt w 0 0 0:=by
 exact h.wg
theorem sa.phase(h:sa Z Fd Mp Wg Gv By Rf Sg Fp k q st n X P b ao w){Qq:QT}{c:Frame}
  (hf:pY 137 55 sD (sA (Cs (IW (iV Fd Mp Wg X P k st) ⟨n,ao⟩ b cap (cM By Rf Sg Fp) Gv) n 0)) f)(h18:f.tmps.getD 18 undef=.bool (decide (0<n)))
  (kk:∀w',az (iV Fd Mp Wg X P k st).U (fP Z Mp Gv w.heap.size) w w'->kq (gX X P k st ao) (w'.heap[Mp]?)->(iV Fd Mp Wg X P k st).MuAt w' Word.zero 0->w'.tape=w.tape->w'.output=w.output->Mp<w'.heap.size->aH PR Qq (fun l=>Z l\/tN (iV Fd Mp Wg X P k st) l) (c.finish unit) cs w'):
  aH PR Qq Z f (c::cs) w:=by
 rintro m t ⟨gs,sl,qq,rfl,H⟩;have B:0<gs.size:=(afi.1 H.g0).1;have hQ:=h.aai c cs gs.size B
 let R:=VN Z Fd Mp Wg Gv By Rf Sg Fp k st n X P ao w c cs gs.size
 let I:Nat->Prop:=fun a=>fP Z Mp Gv w.heap.size a\/a=Gv
 let A:Nat->Prop:=fun a=>a=Gv
 have hG:Gv<w.heap.size:=ax h.gv;have hDW:DW (iV Fd Mp Wg X P k st) (fP Z Mp Gv w.heap.size) w Gv n [] [] I A w:=
  ⟨fun a Y=>.inl Y,fun a Y e=>Y.2.2.1 e,.inr rfl,rfl,h.gv,az.refl _ _ _,fun a Y=>Y.elim (fun y=>y.1) fun e=>e▸hG,nofun⟩
 have au:(⟨n,ao⟩:fL).bK []=.st []:=by unfold fL.bK;rw[if_pos (show([]:List Nat).length<n from h.n0)]
 have j:∀fu,Tz PR true (iV Fd Mp Wg X P k st).U (R.DS fu (.st [])) I A (G f (c::cs)) w:=by
  intro fu;have:=VF (E:=iV Fd Mp Wg X P k st) (cap:=cap) (work:=cM By Rf Sg Fp) (c:=c) (cs:=cs) h.dl n [] (by simp) fu I A f w hf h18 hDW;rw[au]at this;exact this
 have o:∀l,R.cls (fun _=>⟨I,A,G f (c::cs),w⟩) 0 [] l≠.no->¬Z l:=by
  have hU:∀l,tN (iV Fd Mp Wg X P k st) l->¬Z l:=by
   intro l K;cases l with
   |cell a=>
    rcases K.1 with e|e
    ·exact h.off Fd (.inl rfl) _ e
    ·exact h.off Wg (.inr (.inr (.inl rfl))) _ e
   |_=>exact K.elim
  have hb:∀a,jH (iV Fd Mp Wg X P k st) (fP Z Mp Gv w.heap.size) gs.size (aU.nc (fun _=>⟨I,A,G f (c::cs),w⟩) 0 []) a≠.no->jl Z a:=by
   intro a Y;unfold jH at Y;split at Y
   ·rename_i y;exact y.2.2.2
   ·split at Y
    ·rename_i y;rw[show a=Mp from y];exact h.off Mp (.inr (.inl rfl))
    ·split at Y
     ·rename_i y;obtain⟨i,y⟩:=y;rcases y with⟨_,y⟩|⟨_,y⟩
      ·rw[show a=Gv from y];exact h.off Gv (.inr (.inr (.inr (.inl rfl))))
      ·cases y
     ·exact absurd rfl Y
  intro l K;cases l with
  |cell a=>
   by_cases hu:(iV Fd Mp Wg X P k st).U a.block a.off
   ·exact hU (.cell a) hu
   ·refine hb _ (fun e=>K ?_) (.cell a) rfl;exact(xP hu).trans e
  |obj a=>exact hb a K (.obj a) rfl
  |output=>exact absurd rfl K
  |goroutines=>exact absurd rfl K
  |mark m=>exact absurd rfl K
 have u:∀l g,R.cls (fun _=>⟨I,A,G f (c::cs),w⟩) 0 [] l=.own g->g=0:=by
  have hb:∀a g,jH (iV Fd Mp Wg X P k st) (fP Z Mp Gv w.heap.size) gs.size (aU.nc (fun _=>⟨I,A,G f (c::cs),w⟩) 0 []) a=.own g->g=0:=by
   intro a g Y;unfold jH at Y;split at Y
   ·cases Y
   ·split at Y
    ·cases Y
    ·split at Y
     ·rename_i y;have hs:=Classical.choose_spec y;have:Classical.choose y=0:=by
       rcases hs with⟨z,_⟩|⟨z,_⟩
       ·omega
       ·exact z
      rw[this]at Y;cases Y;rfl
     ·cases Y
  intro l g K;cases l with
  |cell a=>
   by_cases hu:(iV Fd Mp Wg X P k st).U a.block a.off
   ·have d:=(HV hu).symm.trans K;cases d
   ·exact hb _ _ ((xP hu).symm.trans K)
  |obj a=>exact hb a g K
  |output=>cases K
  |goroutines=>cases K
  |mark m=>cases K
 have F:∀a,NoRelease a t:=fun a i M=>by
  obtain⟨op,ho,he⟩:=afk.1 M;exact H.nr op (afj ho) a he
 have V:∀op∈t,Seen w.heap.size op:=fun op aM=>⟨H.past.seen op aM,H.nr op aM⟩;have hMI:R.MI (Of R.E R.bR) (fun _=>⟨I,A,G f (c::cs),w⟩) (fun _=>mu R.J (Of R.E R.bR)) gs w t qq (fun _=>none):=by
  refine⟨rfl,⟨H.g0,j _⟩,fun kx hk=>absurd hk (afx _),fun i g M _ hg=>H.gq.old i g M hg,fun _ _=>afy _,fun _ _=>az.refl _ _ _,?_,?_,?_,H.past.hears,fun kx hk=>absurd hk (afx _),fun i M=>H.gq.above i M,fun kx hk=>absurd hk (afx _),fun _ _=>rfl,V⟩
  ·refine⟨fun i i' M Xe jJ=>?_,fun i _ a Y=>Y.elim (fun y=>y.1) fun e=>e▸hG,fun i _ a Y=>Y,fun i _ a Y e=>Y.2.2.1 e,fun i _ a e=>.inr e,fun i _ Y=>?_,fun a Y=>Y.1,ax h.mp,nofun⟩
   ·have d:i=0:=Nat.le_zero.1 M;have h2:i'=0:=Nat.le_zero.1 Xe;exact absurd (d.trans h2.symm) jJ
   ·rcases Y with y|y
    ·exact absurd rfl y.2.1
    ·exact absurd y h.mg
  ·refine⟨h.mu0,h.X0,fun _=>?_,fun kx hk=>absurd hk (afx _),fun kx hk=>absurd hk (afx _),rfl,rfl⟩;rw[show w.heap[R.E.Mp]?=some (.map #[] 0)from h.mp];exact⟨#[],0,[],rfl,⟨by simp,Go.MapKept.stamped_empty 0,by simp⟩,rfl,Lf⟩
  ·exact PT.init H.past B o u xI (fun l K=>.inr (A3 K)) (fun l K=>.inl K) ⟨F _,F _⟩
 obtain⟨N,m',t',aaj,p⟩:=aU.phase (sl:=sl) hQ (ci0 h.n0) VM hMI;obtain⟨nf,w',sl',q',S',X',g',dn,rfl,hg',hF,hL,hP,r,S,YY,hwg,W,s,af0,_,C,hsn⟩:=p;obtain⟨np,f',l',rfl,v,D,_,_⟩:=hF;have Q:kq (gX X P k st ao) (w'.heap[Mp]?):=by
  have e:dn.foldl (fun g x=>(rC X P k st x).foldl better g) (fun _=>none)=gX X P k st ao:=Ek (fun g x y=>uv g _ _) S _;rw[<-e];exact r
 have O:qj (fun l=>Z l\/tN (iV Fd Mp Wg X P k st) l) w'.heap.size:=by
  intro l K;rcases K with y|y
  ·exact⟨(H.lH l y).1,Loc.low_mono D.grow (H.lH l y).2⟩
  ·cases l with
   |cell a=>
    refine⟨rfl,?_⟩;show a.block<_
    rcases y.1 with e|e
    ·rw[e];exact afg (ax h.fd) D.grow
    ·rw[e];exact afg (ax h.wg) D.grow
   |_=>exact y.elim
 have L:aH PR Qq (fun l=>Z l\/tN (iV Fd Mp Wg X P k st) l) f' l' w':=by
  refine aH.pure np fun w2 hk=>?_;rw[v];have T:az (iV Fd Mp Wg X P k st).U (fP Z Mp Gv w.heap.size) w w2:=az.trans D ⟨fun a Y=>.inl (hk.kept a (afg Y.1 D.grow) id),hk.grow,hk.env⟩;refine kk w2 T ?_ ?_ (hk.tape.trans W) (hk.output.trans s) (afg C hk.grow)
  ·rw[hk.kept Mp C id];exact Q
  ·have d:w'.heap[(iV Fd Mp Wg X P k st).Fd]?=_:=YY;have h2:w2.heap[Fd]?=w'.heap[Fd]?:=hk.kept Fd (ax d) id;exact h2.trans d
 obtain⟨N2,m2,t2,Z2,f2,l2,w2,G6,hA2,hQ2⟩:=L _ t' ⟨nf,sl',q',rfl,hg',hL,hP,(fun a y=>y.elim),O,fun op aM=>(hsn op aM).2⟩;exact⟨N+N2,m2,t2,Z2,f2,l2,w2,by rw[Go.Proofs.YtdcjnhipenbcfaaGreatDoor.Ren.runNT_add PR N N2 _ _ _ _ aaj];exact G6,hA2,hQ2⟩
end
end Ph
namespace Ph
open Conc Ren
structure aZ(Z:Loc->Prop)(w w':World):Prop where
 old:∀a,a<w.heap.size->jl Z a->w'.heap[a]?=w.heap[a]?
 grow:w.heap.size<=w'.heap.size
 tape:w'.tape=w.tape
 env:j8 w'.os w.os
 output:w'.output=w.output
theorem aZ.trans{Z:Loc->Prop}{w w1 w2:World}(h:aZ Z w w1)(k:aZ Z w1 w2):aZ Z w w2:=⟨fun a Y K=>(k.old a (afg Y h.grow) K).trans (h.old a Y K),afA h.grow k.grow,k.tape.trans h.tape,k.env.trans h.env,k.output.trans h.output⟩
theorem aZ.of(h:Kept (fun _=>False) X' w w'):aZ Z w w':=⟨fun a Y _=>h.kept a Y id,h.grow,h.tape,h.env,h.output⟩
section
variable{P:Program}{Q:QT}{Z:Loc->Prop}{f:Frame}{l:List Frame}{w:World}
theorem aH.El(k:qj Z w.heap.size->aH P Q Z f l w):aH P Q Z f l w:=by
 rintro m t ⟨gs,sl,q,rfl,Y⟩;exact k Y.lH _ t ⟨gs,sl,q,rfl,Y⟩
theorem aH.alloc{F:Nat->Frame}{o:Obj}(au:∀w2,stepG P true (G f l) w2=.go (G (F w2.heap.size) l) (w2.alloc o) #[])
  (k:∀B w',w.heap.size<=B->B<w'.heap.size->w'.heap[B]?=some o->jl Z B->aZ Z w w'->aH P Q Z (F B) l w'):aH P Q Z f l w:=by
 refine aH.El fun Y=>?_;refine af3 (U:=fun _ _=>False) (S:=fun _=>False) (X:=fun _=>False) (Done:=fun S X f' l' w'=>∃B,w.heap.size<=B/\B<w'.heap.size/\w'.heap[B]?=some o/\f'=F B/\l'=l) (Tr.one fun w2 hr=>⟨_,_,_,_,_,_,au w2,(qD (U:=fun _ _=>False) o).toDid,.stop ⟨w2.heap.size,hr.grow,by simp,heap_alloc_new w2 o,rfl,rfl⟩⟩) (fun a h=>h.elim) fun S' X' f' l' w' hd hk=>?_;obtain⟨B,K,H,D,rfl,rfl⟩:=hd;exact k B w' K H D (Y.off K) (aZ.of hk)
theorem aH.read{a:Addr}{v:Value}(au:∀w2,w2.cell? a=some v->stepG P true (G f l) w2=.go (G f1 l) w2 #[⟨.cell a,false,false⟩])(Y:w.cell? a=some v)(I:jl Z a.block)(k:∀w',aZ Z w w'->aH P Q Z f1 l w'):aH P Q Z f l w:=by
 have H:a.block<w.heap.size:=afo fun y=>by simp[afs,afl y]at Y
 refine af3 (U:=fun _ _=>False) (S:=fun b=>b=a.block) (X:=fun _=>False) (Done:=fun S X f' l' w'=>X=(fun _=>False)/\f'=f1/\l'=l) (Tr.one fun w2 hr=>?_) (fun b h=>by simp_all) fun S' X' f' l' w' hd hk=>?_
 ·have K:w2.cell? a=some v:=by
   simp[afs]at Y⊢;rw[(hr.kept _ rfl).eq (fun i y=>y)];exact Y
  exact⟨_,_,_,_,_,_,au w2 K,(gO (U:=fun _ _=>False) (S:=fun b=>b=a.block) rfl id).toDid,.stop ⟨rfl,rfl,rfl⟩⟩
 ·obtain⟨rfl,rfl,rfl⟩:=hd;exact k w' (aZ.of hk)
theorem aH.dt(n:Nat)(k:∀w',aZ Z w w'->(∀b,b<w.heap.size->w'.heap[b]?=w.heap[b]?)->aH P Q Z (aY P n f l).1 (aY P n f l).2 w'):aH P Q Z f l w:=by
 have tr:∀(n:Nat) (f:Frame) (l:List _) (w:World) (D:(Nat->Prop)->(Nat->Prop)->Frame->List _->World->Prop),(∀w2,az (fun _ _=>False) (fun _=>False) w w2->Tr P true (fun _ _=>False) D (fun _=>False) (fun _=>False) (aY P n f l).1 (aY P n f l).2 w2)->Tr P true (fun _ _=>False) D (fun _=>False) (fun _=>False) f l w:=by
  intro n;induction n with
  |zero=>exact fun f l w D h=>h w (.refl _ _ _)
  |succ n K=>
   intro f l w D h;unfold aY at h;split at h
   ·exact h w (.refl _ _ _)
   ·split at h
    ·rename_i f1 l1 e;exact Tr.one fun w2 hr=>⟨_,_,w2,#[],_,_,et e,(ay (U:=fun _ _=>False) _ _ w2).toDid,K f1 l1 w2 D fun w3 Y=>h w3 (hr.trans Y)⟩
    ·exact h w (.refl _ _ _)
 refine af3 (Done:=fun S X f' l' w'=>X=(fun _=>False)/\f'=(aY P n f l).1/\l'=(aY P n f l).2) (tr n f l w _ fun w2 hr=>.stop ⟨rfl,rfl,rfl⟩) (fun a h=>h.elim) fun S' X' f' l' w' hd hk=>?_;obtain⟨rfl,rfl,rfl⟩:=hd;exact k w' (aZ.of hk) fun b hb=>hk.kept b hb id
end
theorem VP{U:Nat->Nat->Prop}{X:Nat->Prop}(I:∀a,S a->a<w.heap.size/\∀l,Xf a l->Z l->∃ad:Addr,l=.cell ad/\U ad.block ad.off)(A:qj Z w.heap.size)(hu:w.heap.size<=u){e:Event}(h:Ts S X w u e)(C:∀a,e.loc=.cell a->¬U a.block a.off):EvL Z u e:=by
 obtain⟨loc,wr,F⟩:=e;rcases h with⟨a,rfl,K,R⟩|⟨a,rfl,K,R⟩|⟨m,rfl,K⟩|rfl
 ·have H:¬Z (.cell a)/\a.block<u:=by
   rcases R with⟨h,_⟩|h
   ·refine⟨fun H=>?_,afg (I _ h).1 hu⟩;obtain⟨ad,e,B⟩:=(I _ h).2 (.cell a) rfl H;simp_all
   ·exact⟨A.off h.1 _ rfl,h.2⟩
  refine⟨fun x Y D=>?_,by simp,by simp,?_⟩
  ·simp[afD,afL]at Y;subst Y;simp_all
  ·exact H.2
 ·subst K;have H:¬Z (.obj a)/\a<u:=by
   rcases R with⟨h,_⟩|h
   ·refine⟨fun H=>?_,afg (I _ h).1 hu⟩;obtain⟨ad,e,_⟩:=(I _ h).2 (.obj a) rfl H;cases e
   ·exact⟨A.off h.1 _ rfl,h.2⟩
  refine⟨fun x Y D=>?_,by simp,by simp,?_⟩
  ·simp[afD,afL]at Y;subst Y;simp_all
  ·simp[afD];exact H.2
 ·refine⟨fun x Y D=>?_,?_,?_,?_⟩
  ·rcases K with rfl|⟨f,rfl⟩<;>simp[afD,afL]at Y
  ·rcases K with rfl|⟨f,rfl⟩<;>simp
  ·rcases K with rfl|⟨f,rfl⟩<;>simp
  ·rcases K with rfl|⟨f,rfl⟩<;>trivial
 ·refine⟨fun x Y D=>?_,by simp,by simp,trivial⟩;simp[afD,afL]at Y;subst Y;have:=(A _ D).1;cases this
structure mS(P:Program)(Z:Loc->Prop)(U:Nat->Nat->Prop)(S:Nat->Prop)(g:Goroutine)(w:World)(gs:Array Goroutine)(t:Trace)(q:Nat->Nat):Prop where
 g0:gs[0]?=some g
 gq:Leavers P t gs q
 past:Past Z w.heap.size t
 held:∀a,S a->a<w.heap.size/\∀l,Xf a l->Z l->∃ad:Addr,l=.cell ad/\U ad.block ad.off
 lH:qj Z w.heap.size
 nr:∀op∈t,∀a,op.act≠.mark (.release a)
open Go.ConcN (sumTo upd sumTo_upd upd_ne upd_same)
theorem HX{P:Program}{U:Nat->Nat->Prop}{Done:(Nat->Prop)->(Nat->Prop)->Goroutine->World->Prop}{X:Nat->Prop}{g:Goroutine}(h:Tz P true U Done S X g w):
  ∀(gs:Array Goroutine) (sl:Option (Nat×Nat)) (t:Trace) (q:Nat->Nat),mS P Z U S g w gs t q->
   ∃(N:Nat) (Y:Array Goroutine) (g':Goroutine) (w':World) (I:Option (Nat×Nat)) (t':Trace) (p:Nat->Nat) (S' X':Nat->Prop),
    runNT P N (crowd gs w sl) t=(.next (crowd Y w' I),t')/\Done S' X' g' w'/\mS P Z U S' g' w' Y t' p/\Kept X X' w w':=by
 induction h with
 |stop hd=>exact fun gs sl t q H=>⟨0,gs,_,_,sl,t,q,_,_,rfl,hd,H,Kept.refl _ _⟩
 |@step S X g w hs ex _ ih=>
  have inner:∀(M:Nat) (gs:Array Goroutine) (w0:World) (sl:Option (Nat×Nat)) (t:Trace) (q:Nat->Nat),sumTo gs.size q=M->az U S w w0->mS P Z U S g w0 gs t q->
    ∃(N:Nat) (Y:Array Goroutine) (g':Goroutine) (w':World) (I:Option (Nat×Nat)) (t':Trace) (p:Nat->Nat) (S' X':Nat->Prop),
     runNT P N (crowd gs w0 sl) t=(.next (crowd Y w' I),t')/\Done S' X' g' w'/\mS P Z U S' g' w' Y t' p/\Kept X X' w0 w':=by
   intro M;induction M using Nat.strongRecOn with
   |_ M Yt=>
   intro gs w0 sl t q hM hr H;have f:=H.gq;have r:=H.g0;have Yu:∀x∈gs,awake x:=by
    intro x o;obtain⟨i,B,rfl⟩:=afQ.1 o;rcases afY i with rfl|R
    ·have:gs[0]=g:=by simpa[afu B]using r
     rw[this];exact awake_of (.inl hs)
    ·exact awake_of ((f.old i _ R (afu B)).status.elim .inl fun x=>.inr (.inr x))
   obtain⟨i,x,d,I,B,o,au⟩:=crowd_pick (P:=P) (w:=w0) (sl:=sl) Yu ⟨0,_,r,hs⟩;rcases afY i with rfl|R
   ·obtain rfl:x=g:=by rw[r]at B;exact(Option.some.inj B).symm
    have u:=hr.trans (oW U S w0 d);obtain⟨g1,w1,es,S1,X1,hgo,hd⟩:=ex (w0.at d) u;have D:=runT_crowd_go (P:=P) (sl:=I) (i:=0) B (hgo);have J:0<gs.size:=(afi.1 r).1;have K:=hd.grow;have O:mS P Z U S1 g1 w1 ((gs.map (woken P x g1 w1)).setIfInBounds 0 g1) (t++MemOp.ofEvents 0 x.frame.fn x.frame.place es) q:=by
     refine⟨by simp[J],⟨fun j y C c=>?_,fun j C=>?_⟩,?_,fun a ha=>?_,H.lH.mono K,yK H.nr (JG hd.ev)⟩
     ·have V:0≠j:=by omega
      rw[afq V,afp]at c;obtain⟨z,m,rfl⟩:=afk.1 c;have E:=f.old j z C m;rw[woken_quitsD E,Deaf_other t (by omega) _ (fun op aM=>Ren.ofEvents_g aM)];exact E
     ·rw[Deaf_other t (g':=0) (by simp at C;omega) _ (fun op aM=>Ren.ofEvents_g aM)];exact f.above j (by simpa using C)
     ·exact(H.past.mono K).own fun e he=>VP (w:=w0.at d) H.held H.lH K (hd.ev e he) (hd.Yx e he)
     ·rcases(hd.held a).1 ha with y|y
      ·exact⟨afg (H.held a y).1 K,(H.held a y).2⟩
      ·exact⟨y.2,fun l hl m=>absurd m (H.lH.off y.1 l hl)⟩
    obtain⟨N,Y,g',w',A,t',p,S',X',W,Q,L,T⟩:=ih (w0.at d) g1 w1 es S1 X1 u hgo hd _ I _ q O;exact⟨N+1,Y,g',w',A,t',p,S',X',by simp only[runNT,au,D];exact W,Q,L,((Kept.at w0 d).trans hd.toDid.toKept).trans T⟩
   ·have E:=f.old i x R B;have Xg:(i==0)=false:=by simp;omega
    have J:i<gs.size:=(afi.1 B).1;cases G:q i with
    |zero=>rw[G]at E;rw[E.1]at o;cases o
    |succ k=>
     rw[G]at E;rcases E with⟨hf,_⟩|⟨_,g',es,hm,v,Tu⟩
     ·rw[hf]at o;cases o
     have D:=runT_crowd_go (P:=P) (sl:=I) (i:=i) B (by rw[Xg];exact v (w0.at d));have hsz:((gs.map (woken P x g' (w0.at d))).setIfInBounds i g').size=gs.size:=by simp
     have Yw:sumTo gs.size (upd q i k)+(k+1)=sumTo gs.size q+k:=by
      have:=sumTo_upd q k id J;simpa[G]using this
     have O:mS P Z U S g (w0.at d) ((gs.map (woken P x g' (w0.at d))).setIfInBounds i g') (t++MemOp.ofEvents i x.frame.fn x.frame.place es) (upd q i k):=by
      refine⟨?_,⟨fun j y C c=>?_,fun j C=>?_⟩,H.past.mute (by omega) hm,H.held,H.lH,yK H.nr (Fo hm)⟩
      ·have V:i≠0:=by omega
       rw[afq V,afp,r];simp[woken_run (b:=g) hs]
      ·by_cases F:i=j
       ·subst F;rw[afC (by simpa using J)]at c;obtain rfl:=Option.some.inj c;rw[upd_same,Deaf_own];exact Tu
       ·rw[afq F,afp]at c;obtain⟨z,m,rfl⟩:=afk.1 c;have s:=f.old j z C m;rw[woken_quitsD s,upd_ne q k (Ne.symm F),Deaf_other t F _ (fun op aM=>Ren.ofEvents_g aM)];exact s
      ·rw[Deaf_other t (g':=i) (by simp at C;omega) _ (fun op aM=>Ren.ofEvents_g aM)];exact f.above j (by simpa using C)
     obtain⟨N,Y,n,w',A,t',p,S',X',W,Q,L,T⟩:=Yt (sumTo gs.size (upd q i k)) (by omega) _ (w0.at d) I _ (upd q i k) (by rw[hsz]) (hr.trans (oW U S w0 d)) O;exact⟨N+1,Y,n,w',A,t',p,S',X',by simp only[runNT,au,D];exact W,Q,L,(Kept.at w0 d).trans T⟩
  exact fun gs sl t q H=>inner _ gs w sl t q rfl (az.refl U S w) H
theorem aH.tz{P:Program}{Q:QT}{U:Nat->Nat->Prop}{Done:(Nat->Prop)->(Nat->Prop)->Goroutine->World->Prop}{X:Nat->Prop}(h:Tz P true U Done S X (G f l) w)(M:qj Z w.heap.size->∀a,S a->a<w.heap.size/\∀l,Xf a l->Z l->∃ad:Addr,l=.cell ad/\U ad.block ad.off)
  (k:∀S' X' g' w',Done S' X' g' w'->Kept X X' w w'->∃f' l',g'=G f' l'/\aH P Q Z f' l' w'):aH P Q Z f l w:=by
 rintro m t ⟨gs,sl,q,rfl,K⟩;obtain⟨N,H,g',w',A,t',O,S',X',hr,F,Y,L⟩:=HX (Z:=Z) h gs sl t q ⟨K.g0,K.gq,K.past,M K.lH,K.lH,K.nr⟩;obtain⟨f',l',rfl,J⟩:=k S' X' g' w' F L;obtain⟨B,m2,t2,C,f2,l2,w2,I,D,R⟩:=J _ t' ⟨H,A,O,rfl,Y.g0,Y.gq,Y.past,(fun a h=>h.elim),Y.lH,Y.nr⟩;exact⟨N+B,m2,t2,C,f2,l2,w2,by rw[Go.Proofs.YtdcjnhipenbcfaaGreatDoor.Ren.runNT_add P N B _ _ _ _ hr];exact I,D,R⟩
end Ph
end
end Go.Proofs.YtdcjnhipenbcfaaGreatDoor
