/-
  Own text. Part 9 of what the claim rests on.
-/
import Derived.Deep.AppendLies
import Derived.Deep.RegionLaw
import Derived.Conc.HoldsTime
import Derived.StillGives
import Derived.LaidLaws
import Derived.SevenTiedAt
import Derived.Maps.Range
import Derived.Test.YtdcjnhipenbcfaaGreatDoorPk8
set_option linter.unusedVariables false
set_option linter.unusedSectionVars false
set_option linter.unusedSimpArgs false
set_option maxRecDepth 100000
set_option maxHeartbeats 16000000
open Array renaming getElem?_eq_some_iff->aq8,getElem?_eq_getElem->arB,getElem?_toList->arQ,toList_extract->arR,getElem?_eq_none->arY
open Bool renaming not_eq_true->ar4
open ByteArray renaming size_extract->arG,data_extract->arK
open Go.Addr renaming add->arF
open Go.Frame renaming enter->asj
open Go.Instr renaming typeAssert->asb
open Go.IntKind renaming i64->arb
open Go.IntWalk renaming i64_in->aq_
open Go.Lib renaming IsBuilder->arZ,byteCells->ar0,cell_of_heap->ar2,join->ar3,BuilderAt->asn,frozen_of_heap->aso
open Go.Lib.BuilderAt renaming put->asv
open Go.Proofs.Tryz renaming prog->aq1,underlying79->arE,underlying65->arW,ntmps147->ar1,func147->ar6,underlying131->asp,f111->ast,underlying9->asz
open Go.Proofs.YtdcjnhipenbcfaaGreatDoor.Ph.Tr renaming one->asI
open Go.Proofs.YtdcjnhipenbcfaaGreatDoor.Ph.aZ renaming bg->arN,alloc->ar5
open Go.Proofs.YtdcjnhipenbcfaaGreatDoor.Ren.aZ renaming tree->asu
open Go.RowKit.Below renaming refl->ara
open Go.World renaming drewN_drewN->arX,news_of_block->ar7,ownsRow_nil->asx
open Int renaming natCast_nonneg->ass
open List renaming length_append->aq3,getElem?_eq_getElem->aq5,getD_eq_getElem?_getD->aq9,getElem?_take_of_lt->arc,mem_append->arC,map_append->arD,length_singleton->arH,take_of_length_le->arL,pairwise_map->arM,mem_map->arO,getElem?_eq_none->arP,reverse_append->arS,mem_singleton->arT,range->arU,getElem?_map->arV,getElem?_take->ar9,getElem?_drop->ar_,extract_eq_take_drop->asa,length_nil->asf,range_succ->asg,getElem?_reverse->asl,pairwise_append->asm,countP_append->asq,ext_getElem?->asw,length_cons->asA,take_length->asB,getElem_mem->asC,mem_flatMap->asD,length_map->asF
open Nat renaming le_refl->aq7,le_trans->arw,lt_of_lt_of_le->arx,zero_le->arI,lt_or_ge->arJ,div_mul_le_self->ar8,le_total->asd,min_eq_right->ase,min_eq_left->ash,mul_comm->asr,mul_add->asy,div_add_mod->asG,le_antisymm->asH
open Option.some renaming inj->asi
namespace Go.Proofs.YtdcjnhipenbcfaaGreatDoor
variable {es:Array Event}{S X p s t:ByteArray}{c f1:Frame}{cs:List Frame}{ay:List Nat}{Z Z':Loc->Prop}{A B By Fd Fp Mp Rf Sg b cap d e i j n q x:Nat}{g:Nat->Nat}{o o':Obj}{PP:Program}{a:UInt8}{y:Value}{w w' w0:World}
section
open RowKit
def Kp(b:Nat)(w w':World):Prop:=∀(x:Nat) (c:Array Value) (T:TypeId) (fz:Nat×Nat),x≠b->T≠5->w.heap[x]?=some (.cells c T fz)->w'.heap[x]?=some (.cells c T fz)
theorem Kp.refl(b:Nat)(w:World):Kp b w w:=fun _ _ _ _ _ _ h=>h
theorem Kp.trans{b:Nat}{w w' lF:World}(h:Kp b w w')(k:Kp b w' lF):Kp b w lF:=fun x c T fz h1 h2 h3=>k x c T fz h1 h2 (h x c T fz h1 h2 h3)
theorem Kp.ky(h:Below w.heap.size w w'):Kp b w w':=fun x c T fz h1 h2 h3=>by
 have hl:=(aq8.1 h3).1;rw[h.block x hl];exact h3
theorem Kp.put(b k:Nat)(v:Value)(w:World):Kp b w (w.setCell ⟨b,k,none⟩ v):=fun x c T fz h1 h2 h3=>by
 have hl:=(aq8.1 h3).1;have:=(aB w b k v).block x hl (fun e=>h1 (by simp_all));simp_all
theorem Kp.alloc(b:Nat)(w:World)(o:Obj):Kp b w (w.alloc o):=fun x c T fz h1 h2 h3=>by
 have hl:=(aq8.1 h3).1;rw[heap_alloc_old w _ hl];exact h3
theorem Kp.row{v:Value}{xs:List _}(ho:w.ownsRow B 5 1 v n xs)(h:w.grownBy w' v.ownBlock):Kp b w w':=fun x c T fz h1 h2 h3=>by
 have hl:=(aq8.1 h3).1;rw[h.block x hl (fun e=>lE ho h3 h2 e.symm)];exact h3
theorem yC(B b:Nat)(bs:List _)(w:World)(h:arZ 102 5 B b bs w):
  Calls aq1 96 #[.pointer (some ⟨b,0,none⟩)] w fun e w'=>e=.returned (.tuple #[])/\asn 102 5 B b (.pointer (some ⟨b,0,none⟩)) bs w'/\Below B w w'/\Kp b w w':=by
 rcases h with h|h
 ·refine(pA b w h.cell0 h.shape h.frozen0).mono ?_;rintro e w' ⟨rfl,rfl⟩;exact⟨rfl,h.used _,(ara B w).setCell h.1 _,Kp.put b 0 _ w⟩
 ·refine(qu b w h.cell0).mono ?_;rintro e w' ⟨rfl,rfl⟩;exact⟨rfl,h,ara B _,Kp.refl b _⟩
theorem Cw(B b:Nat)(bs:List Value)(s:ByteArray)(w:World)(h:arZ 102 5 B b bs w)(hlen:bs.length+s.size<=1000000000)(hBw:B<=w.heap.size):
  Calls aq1 63 #[.pointer (some ⟨b,0,none⟩),.string s] w fun e w'=>e=.returned (.tuple #[.int .i64 (s.size:Int),.nilIface])/\arZ 102 5 B b (bs++Lib.strCells s) w'/\Below B w w'/\Kp b w w':=by
 obtain⟨i0,hi,nJ,kK,iI⟩:=info_parts OA
 go_enter Tryz.func63,Tryz.ntmps63
 go_wp2_with(go_at_call 96;refine(yC B b bs _ h).mono ?_)
 rintro e w1 ⟨rfl,⟨hB,v,Fs,aJ,bj⟩,cn,Vh⟩;have c1:w1.cell? ⟨b,1,none⟩=some v:=by rw[ar2 Fs];rfl
 go_wp2_with(at_builtin;refine Lib.wpList_append_own_string _ rfl _ _ 79 9 rfl B 5 i0 arE asz hi nJ kK iI _ _ _ rfl aJ s rfl ?c3 ?c4 ?c5 ?_)
 case c3=>unfold maxLen;omega
 case c4=>omega
 case c5=>have:=cn.size;omega
 intro v' w2 aW aD _;have aV:b<w1.heap.size:=by
  rcases arJ b w1.heap.size with h'|h'
  ·exact h'
  ·simp[arY h']at Fs
 have di:w2.heap[b]?=some (.cells #[.pointer (some ⟨b,0,none⟩),v] 102 (0,0)):=by
  rw[aD.block b aV (fun e=>bj e.symm)];exact Fs
 have d1:w2.cell? ⟨b,1,none⟩=some v:=by rw[ar2 di];rfl
 have f1:w2.frozen? ⟨b,1,none⟩=false:=aso di 1;obtain⟨ao,n',cap,rfl⟩:∃ao n' cap,v'=.slice ao n' cap:=by
  rcases aW.2 with⟨hv,_⟩|⟨g,cap,cur,hv,_⟩
  ·exact⟨_,_,_,hv⟩
  ·exact⟨_,_,_,hv⟩
 go_wp2
 go_ret2
 refine⟨rfl,.inr ?_,?_,?_⟩
 ·exact asv (T:=102) (e:=5) hB di (bs':=bs++Lib.strCells s) (by simpa[Lib.strCells_length]using aW) bNe
 ·exact(cn.grown aD (by have:=cn.size;omega) (fun k hk=>(aJ.lt k hk).1)).setCell (p:=⟨b,1,none⟩) hB _
 ·exact(Vh.trans (Kp.row aJ aD)).trans (Kp.put b 1 _ w2)
theorem Jg(B b:Nat)(bs:List Value)(c:Int)(w:World)(h:arZ 102 5 B b bs w)(hlen:bs.length+1<=1000000000)(hBw:B<=w.heap.size):
  Calls aq1 73 #[.pointer (some ⟨b,0,none⟩),.int .u8 c] w fun e w'=>e=.returned .nilIface/\arZ 102 5 B b (bs++[.int .u8 c]) w'/\Below B w w'/\Kp b w w':=by
 obtain⟨i0,hi,nJ,kK,iI⟩:=info_parts OA
 go_enter Tryz.func73,Tryz.ntmps73
 go_wp2_with(go_at_call 96;refine(yC B b bs _ h).mono ?_)
 rintro e w1 ⟨rfl,⟨hB,v,Fs,aJ,bj⟩,cn,Vh⟩;have c1:w1.cell? ⟨b,1,none⟩=some v:=by rw[ar2 Fs];rfl
 go_wp2_with(at_builtin;refine wpList_append_own _ rfl _ _ 79 rfl B 5 i0 (.int .u8 0) 1 1 arE hi nJ kK iI rfl (by decide) _ _ _ rfl (aJ.alloc _) ⟨w1.heap.size,0,none⟩ 1 1 [.int .u8 c] rfl rfl ?c1 ?c2 ?c3 ?c4 ?c5 ?_)
 case c1=>
  intro j u hj
  match j,hj with
  |0,hj=>simp at hj;subst hj;simp[arF]
 case c2=>intro u hu;simp at hu;subst hu;rfl
 case c3=>unfold maxLen;omega
 case c4=>omega
 case c5=>have:=cn.size;simp;omega
 intro v' w2 aW aD _;have aV:b<w1.heap.size:=by
  rcases arJ b w1.heap.size with h'|h'
  ·exact h'
  ·simp[arY h']at Fs
 have di:w2.heap[b]?=some (.cells #[.pointer (some ⟨b,0,none⟩),v] 102 (0,0)):=by
  rw[aD.block b (by simp;omega) (fun e=>bj e.symm),Lib.alloc_old w1 _ b aV];exact Fs
 have d1:w2.cell? ⟨b,1,none⟩=some v:=by rw[ar2 di];rfl
 have f1:w2.frozen? ⟨b,1,none⟩=false:=aso di 1;obtain⟨g,cap,rfl⟩:∃g cap,v'=.slice (some ⟨g,0,none⟩) (bs.length+1) cap:=by
  rcases aW.2 with⟨_,h0⟩|⟨g,cap,cur,hv,_⟩
  ·omega
  ·exact⟨g,cap,hv⟩
 go_wp2
 go_ret
 refine⟨rfl,.inr ?_,?_,?_⟩
 ·exact asv (T:=102) (e:=5) hB di (bs':=bs++[.int .u8 c]) (by simpa using aW) bNe
 ·exact((cn.alloc (by have:=cn.size;omega) _).grown aD (by have:=cn.size;simp;omega) (fun k hk=>(aJ.lt k hk).1)).setCell (p:=⟨b,1,none⟩) hB _
 ·exact((Vh.trans (Kp.alloc b w1 _)).trans (Kp.row (aJ.alloc _) aD)).trans (Kp.put b 1 _ w2)
theorem D7(B:Nat)(acc:List _)(x:ByteArray)(w:World)(h:ie B acc w)(hl:acc.length+x.size<=1000000000):
  Calls aq1 63 #[.pointer (some ⟨B,0,none⟩),.string x] w fun e w'=>e=.returned (.tuple #[.int .i64 x.size,.nilIface])/\ie B (acc++x.data.toList) w'/\Below B w w'/\Kp B w w':=by
 refine(Cw B B _ x w h (by simp[ar0];omega) (by have:=h.lt;omega)).mono ?_;rintro e w' ⟨he,h1,h2,h3⟩;rw[DG]at h1;simp_all
theorem mn(B:Nat)(acc:List _)(c:UInt8)(w:World)(h:ie B acc w)(hl:acc.length+1<=1000000000):
  Calls aq1 73 #[.pointer (some ⟨B,0,none⟩),.int .u8 c.toNat] w fun e w'=>e=.returned .nilIface/\ie B (acc++[c]) w'/\Below B w w'/\Kp B w w':=by
 refine(Jg B B _ _ w h (by simp[ar0];omega) (by have:=h.lt;omega)).mono ?_;rintro e w' ⟨he,h1,h2,h3⟩;have e1:ar0 acc++[Value.int .u8 c.toNat]=ar0 (acc++[c]):=by simp[ar0]
 simp_all
def oY(xs:List ByteArray):=ar3 (xs.map (·.data.toList)) [9]
def sv8(x:ByteArray):Value:=.string x
theorem nE(B B0:Nat)(acc:List UInt8)(xs:List ByteArray)(v:Value)(w:World)(pK:ie B acc w)(dz:w.ownsRow B0 9 1 v xs.length (xs.map sv8))(h1:1<=xs.length)(hn:xs.length<=100)(hl:acc.length+(oY xs).length+1<=1000000000):
  Calls aq1 91 #[.pointer (some ⟨B,0,none⟩),v] w fun e w'=>e=.returned (.tuple #[])/\ie B (acc++oY xs++[10]) w'/\Below B w w'/\Kp B w w':=by
 rcases dz.2 with⟨_,h0⟩|⟨g,cap,cur,rfl,ju,fS,om,Ns,hg5,ZF⟩
 ·omega
 have HJ:Hid (Calls aq1 110 _ w fun e w'=>e=.returned (.string (str (oY xs)))/\Below w.heap.size w w'):=laid (by
  refine(Tryz.strings_Join g 0 cap xs ⟨#[9]⟩ w (fun j x hj=>?_) (aq8.1 fS).1 (by omega) om (by unfold oY at hl;show(ar3 _ [9]).length<=_;omega)).mono ?_
  ·have h:=(dz.cells (g:=g) rfl) j (sv8 x) (by rw[arV,hj];rfl);rw[iM]at h;rw[Nat.zero_add];exact h
  ·rintro e w' ⟨rfl,hb⟩;exact⟨rfl,hb⟩)
 clear dz fS hg5 ZF
 go_enter Tryz.func91,Tryz.ntmps91
 go_wp2_with fail
 refine HJ.out.mono ?_;rintro e w1 ⟨rfl,cn⟩;have FJ:=pK.below cn;have Vh:Kp B w w1:=Kp.ky cn;have vm:Below B w w1:=cn.mono (by have:=pK.lt;omega);clear cn HJ pK;go_wp2_with fail
 refine(D7 _ _ (str (oY xs)) _ FJ (by rw[au];omega)).mono ?_;rintro e w2 ⟨rfl,jN,di,UU⟩;have Rw:=Vh.trans UU;have aM:=vm.trans di;go_wp2_with fail
 refine(mn _ _ 10 _ jN (by rw[aq3];show _+(oY xs).length+1<=_;omega)).mono ?_;rintro e w3 ⟨rfl,pM,fj,Wh⟩;have HF:Hid (ie B (acc++oY xs++[10]) w3/\Below B w w3/\Kp B w w3):=laid ⟨pM,aM.trans fj,Rw.trans Wh⟩;go_wp2
 go_end0
 exact⟨rfl,HF.out⟩
theorem ON:(aq1.info? 9).map (fun i=>(i.zero,i.size,i.bytes))=some (some (.string ⟨#[]⟩),1,16):=by kernel_rfl
theorem Jh:∀l m,(∀x∈l,x.length<=m)->(ar3 l [9]).length<=l.length *(m+1)
 |[],m,_=>by simp[ar3]
 |[a],m,h=>by have:=h a (by simp);simp[ar3];omega
 |a::b::l,m,h=>by
  have h1:=h a (by simp);have h2:=Jh (b::l) m (fun x hx=>h x (by simp[hx]));have e:ar3 (a::b::l) [9]=a++([9]++ar3 (b::l) [9]):=by simp[ar3]
  rw[e,aq3,aq3];simp at *;rw[Nat.add_mul _ 1 _];omega
theorem OO(xs:List _)(m:Nat)(h:∀x∈xs,x.size<=m):(oY xs).length<=xs.length *(m+1):=by
 have:=Jh _ m (fun x hx=>by
  rw[arO]at hx;obtain⟨y,hy,rfl⟩:=hx;exact h y hy)
 rw[asF]at this;exact this
def rS(rn rb rm:ByteArray):Value:=.agg #[.string rn,.string rb,.string rm]
structure Pl where
 rn:ByteArray
 rb:ByteArray
 rm:ByteArray
 fl:Bool
 st:Nat
 er:Nat
 lt:ByteArray
 df:ByteArray
def Pl.val(p:Pl):Value:=.agg #[.string p.rn,.string p.rb,.string p.rm,.bool p.fl,.int .i64 (p.st:Int),.int .i64 (p.er:Int),.string p.lt,.string p.df]
def yD(fl first:Bool):=(if fl then 16 else 0)+(if first then 0 else 256)
theorem QQ(p:Pl)(w:World):
  Calls aq1 241 #[p.val] w fun e w'=>e=.returned (rS p.rn p.rb p.rm)/\Below w.heap.size w w':=by
 unfold Pl.val rS;obtain⟨rn,rb,rm,fl,st,er,lt,df⟩:=p;simp only;go_wp2
 refine bodyPost_ret (results_cell_row rfl _ _ _ _ _ _ _ rfl (heap_alloc2_new _ _ _) asp rfl MC) rfl ?_;exact⟨rfl,((ara _ _).alloc (aq7 _) _).alloc (by simp) _⟩
theorem QR(p:Pl)(first:Bool)(w:World):
  Calls aq1 240 #[p.val,.bool first] w fun e w'=>e=.returned (.int .i64 (yD p.fl first:Int))/\Below w.heap.size w w':=by
 unfold Pl.val;obtain⟨rn,rb,rm,fl,st,er,lt,df⟩:=p;simp only;cases fl<;>cases first
 all_goals
  go_wp2
  go_ret
  exact⟨rfl,(ara _ _).alloc (aq7 _) _⟩
theorem QS(rn rb rm:ByteArray)(w:World):
  Calls aq1 239 #[rS rn rb rm] w fun e w'=>e=.returned (rS rn rb rm)/\Below w.heap.size w w':=by
 unfold rS;go_wp2
 refine bodyPost_ret (results_cell_row rfl _ _ _ _ _ _ _ rfl (heap_alloc2_new _ _ _) asp rfl MC) rfl ?_;exact⟨rfl,((ara _ _).alloc (aq7 _) _).alloc (by simp) _⟩
theorem QU(rn rb rm:ByteArray)(first:Bool)(w:World):
  Calls aq1 238 #[rS rn rb rm,.bool first] w fun e w'=>e=.returned (.int .i64 4)/\Below w.heap.size w w':=by
 go_wp2
 go_ret
 exact⟨rfl,(ara _ _).alloc (aq7 _) _⟩
theorem QV(a b c:ByteArray)(w:World):(asb (.iface 155 (.agg #[.string a,.string b,.string c])) 136 158 true).run aq1 w=.ok (.tuple #[.agg #[.string ⟨#[]⟩,.string ⟨#[]⟩,.string ⟨#[]⟩,.bool false,.int .i64 0,.int .i64 0,.string ⟨#[]⟩,.string ⟨#[]⟩],.bool false]) w:=by kernel_rfl
theorem QW(a b c:ByteArray)(w:World):(asb (.iface 155 (.agg #[.string a,.string b,.string c])) 136 155 true).run aq1 w=.ok (.tuple #[.agg #[.string a,.string b,.string c],.bool true]) w:=by kernel_rfl
theorem QX(p:Pl)(w:World):(asb (.iface 158 p.val) 136 158 true).run aq1 w=.ok (.tuple #[p.val,.bool true]) w:=by kernel_rfl
theorem xE(B:Nat)(acc:List UInt8)(XN rn rb rm:ByteArray)(first:Bool)(w:World)(pK:ie B acc w)(h1:rn.size<=1000)(h2:rb.size<=1000)(h3:rm.size<=1000)(hl:acc.length<=500000000)(mD:cf w):
  Calls aq1 93 #[.pointer (some ⟨B,0,none⟩),.string XN,.iface 155 (rS rn rb rm),.bool first] w fun e w'=>e=.returned (.tuple #[])/\ie B (acc++oY [rn,str (a_ 4),str [42],str [48],str [42],str [45],str [45],rb,rm]++[10]) w'/\Below B w w'/\Kp B w w':=by
 have HT:=laid mD;have OI:=laid (fun W:World=>QU rn rb rm first W);have HTD:=laid (QS rn rb rm w);clear mD;unfold rS at *
 go_enter Tryz.func93,Tryz.ntmps93
 go_wp2_with fail
 refine HTD.out.mono ?_;rintro e w1 ⟨rfl,cn⟩;have FJ:=pK.below cn;have Vh:Kp B w w1:=Kp.ky cn;have vm:Below B w w1:=cn.mono (by have:=pK.lt;omega);have hT1:=laid (HT.out.on cn);clear cn HTD pK HT;go_wp2_with fail
 obtain⟨i0,hi,nJ,kK,iI⟩:=info_parts ON;obtain⟨w2,b8,nP,hb8,eM,jN,aM,UU,hT2⟩:∃(w2:World) (b8:Nat),w1.alloc (.cells #[.string rn,.string rb,.string rm] 131)=w2/\w1.heap.size=b8/\w2.heap[b8]?=some (.cells #[.string rn,.string rb,.string rm] 131 (0,0))/\ie B acc w2/\Below B w w2/\Kp B w w2/\cf w2:=by
  have hb:Below w1.heap.size w1 (w1.alloc (.cells #[.string rn,.string rb,.string rm] 131)):=(ara _ _).alloc (aq7 _) _;exact⟨_,_,rfl,rfl,heap_alloc_new w1 _,FJ.below hb,vm.trans (hb.mono (by have:=FJ.lt;omega)),Vh.trans (Kp.ky hb),hT1.out.on hb⟩
 rw[nP,hb8];clear nP hb8 FJ vm Vh hT1;have a0:w2.cell? ⟨b8,0,none⟩=some (.string rn):=by rw[cell_of_row w2 _ 0 _ _ _ eM];rfl
 have hl8:b8<w2.heap.size:=(aq8.1 eM).1;have HRD:=laid eM;have Wi:=laid jN;have HIT:Hid (∀W:World,Below w2.drew.heap.size w2.drew W->Calls aq1 74 #[.int .i64 4] W fun e w'=>e=.returned (.string (str (a_ 4)))/\Below W.heap.size W w'):=laid fun W hW=>qW 4 4 rfl W (by omega) (hT2.on (w':=W) ⟨hW.os,hW.tape,hW.output,hW.size,hW.block⟩);obtain⟨D4,hD4⟩:∃D,D=str (a_ 4):=⟨_,rfl⟩;rw[<-hD4]at HIT;have HD4:=laid hD4;clear hD4 eM jN hT2
 go_region_held3 (fun w'=>w'.cell? ⟨b8,0,none⟩=some (.string rn))
  (first
   |go_keep
   |(rw[ox.cell (by have:=dk.size;simp at this⊢;omega),dk.cell (by first|omega|(simp;omega))];assumption)
   |(rw[dk.cell (by first|omega|(simp;omega))];assumption))
  (first
   |(go_at_call 238;refine(OI.out _).mono ?_;rintro e w' ⟨rfl,dk⟩)
   |(go_at_call 74;refine(HIT.out _ dk).mono ?_;rintro e lF ⟨rfl,ox⟩))
 have Bv:Below w2.heap.size w2 (lF.alloc (.cells #[.string rn,.string D4] 9)):=by
  have h1:Below w2.heap.size w2 w':=⟨dk.os,dk.tape,dk.output,dk.size,dk.block⟩;have h2:=h1.trans (ox.mono h1.size);exact h2.alloc h2.size _
 have ku:(lF.alloc (.cells #[.string rn,.string D4] 9)).ownsRow w2.heap.size 9 1 (.slice (some ⟨lF.heap.size,0,none⟩) 2 2) 2 [.string rn,.string D4]:=
  ⟨rfl,.inr ⟨lF.heap.size,2,_,rfl,by have h1:=dk.size;have h2:=ox.size;simp at h1;omega,heap_alloc_new lF _,aq7 _,by unfold maxLen;omega,rfl,rfl⟩⟩
 obtain⟨w4,Uw⟩:∃w4:World,lF.alloc (.cells #[.string rn,.string D4] 9)=w4:=⟨_,rfl⟩;rw[Uw]at Bv ku⊢;generalize lF.heap.size=g4 at *;clear Uw dk ox HIT OI;have hls:w2.heap.size<=w4.heap.size:=Bv.size;have q1:=QV rn rb rm;have q2:=QW rn rb rm;clear a0;go_wp2_with(first
  |(at_builtin;refine wpList_append_own _ rfl _ _ 65 rfl w2.heap.size 9 i0 (.string ⟨#[]⟩) 1 16 arW hi nJ kK iI rfl (by decide) _ _ _ rfl ((ku.alloc _).alloc _) ⟨w4.heap.size+1,0,none⟩ 5 5 [.string ⟨#[42]⟩,.string ⟨#[48]⟩,.string ⟨#[42]⟩,.string ⟨#[45]⟩,.string ⟨#[45]⟩] rfl rfl ?c1 ?c2 ?c3 ?c4 ?c5 ?_)
  |go_in)
 case c1=>
  intro j u hj
  match j,hj with
  |0,hj=>simp at hj;subst hj;simp[arF,go_sem]
  |1,hj=>simp at hj;subst hj;simp[arF,go_sem]
  |2,hj=>simp at hj;subst hj;simp[arF,go_sem]
  |3,hj=>simp at hj;subst hj;simp[arF,go_sem]
  |4,hj=>simp at hj;subst hj;simp[arF,go_sem]
 case c2=>intro u hu;simp at hu;rcases hu with rfl|rfl|rfl|rfl|rfl<;>rfl
 case c3=>unfold maxLen;omega
 case c4=>omega
 case c5=>simp;omega
 intro v5 w5 nh aD _;have Vi:Below w2.heap.size w2 w5:=((Bv.alloc Bv.size _).alloc (by simp;omega) _).grown aD (by simp;omega) (fun j hj=>(ku.lt j hj).1);obtain⟨g5,YO,rfl⟩:∃g cap,v5=.slice (some ⟨g,0,none⟩) 7 cap:=by
  rcases nh.2 with⟨_,h0⟩|⟨gg,cap,cur,hv,_⟩
  ·omega
  ·exact⟨gg,cap,hv⟩
 clear aD ku Bv q1 q2 hls;have adP:w5.heap[b8]?=some (.cells #[.string rn,.string rb,.string rm] 131 (0,0)):=by rw[Vi.block b8 hl8];exact HRD.out
 have a1:w5.cell? ⟨b8,1,none⟩=some (.string rb):=by rw[cell_of_row w5 _ 1 _ _ _ adP];rfl
 have a2:w5.cell? ⟨b8,2,none⟩=some (.string rm):=by rw[cell_of_row w5 _ 2 _ _ _ adP];rfl
 have hls:w2.heap.size<=w5.heap.size:=Vi.size;clear adP HRD;go_wp2_with(first
  |(at_builtin;refine wpList_append_own _ rfl _ _ 65 rfl w2.heap.size 9 i0 (.string ⟨#[]⟩) 1 16 arW hi nJ kK iI rfl (by decide) _ _ _ rfl (nh.alloc _) ⟨w5.heap.size,0,none⟩ 2 2 [.string rb,.string rm] rfl rfl ?c1 ?c2 ?c3 ?c4 ?c5 ?_)
  |go_in)
 case c1=>
  intro j u hj
  match j,hj with
  |0,hj=>simp at hj;subst hj;simp[arF,go_sem]
  |1,hj=>simp at hj;subst hj;simp[arF,go_sem]
 case c2=>intro u hu;simp at hu;rcases hu with rfl|rfl<;>rfl
 case c3=>unfold maxLen;omega
 case c4=>omega
 case c5=>simp;omega
 intro v6 w6 Vj aD _;have Cx:Below w2.heap.size w2 w6:=(Vi.alloc Vi.size _).grown aD (by simp;omega) (fun j hj=>(nh.lt j hj).1);obtain⟨g6,ay7,rfl⟩:∃g cap,v6=.slice (some ⟨g,0,none⟩) 9 cap:=by
  rcases Vj.2 with⟨_,h0⟩|⟨gg,cap,cur,hv,_⟩
  ·omega
  ·exact⟨gg,cap,hv⟩
 have HW:=laid (nE B w2.heap.size acc [rn,D4,str [42],str [48],str [42],str [45],str [45],rb,rm] _ w6 (Wi.out.below Cx) Vj (by simp) (by simp) (by
  have h:=OO [rn,D4,str [42],str [48],str [42],str [45],str [45],rb,rm] 1000 (fun x hx=>by
   have hd:=bZ 4 (by omega);have hd4:D4.size<=1000:=by rw[HD4.out,au];omega
   simp at hx;rcases hx with rfl|rfl|rfl|rfl|rfl|rfl|rfl|rfl|rfl<;>first|assumption|(rw[au];simp))
  simp at h;omega))
 have HB6:=laid (aM.trans (Cx.mono (by have:=Wi.out.lt;omega)));have HK6:=laid (UU.trans (Kp.ky Cx));clear aD nh Vi hls a1 a2 Vj Cx Wi aM UU;go_wp2_with fail
 refine HW.out.mono ?_;rintro e w7 ⟨rfl,ajy,KH,hk7⟩;have HF:Hid (ie B (acc++oY [rn,str (a_ 4),str [42],str [48],str [42],str [45],str [45],rb,rm]++[10]) w7/\Below B w w7/\Kp B w w7):=laid ⟨by rw[<-HD4.out];exact ajy,HB6.out.trans KH,HK6.out.trans hk7⟩;clear ajy KH hk7 HB6 HK6 HW HD4;go_wp2
 go_end0
 exact⟨rfl,HF.out⟩
theorem xF(B:Nat)(acc:List UInt8)(XN:ByteArray)(p:Pl)(first:Bool)(w:World)(pK:ie B acc w)(h0:XN.size<=1000)(h1:p.rn.size<=1000)(h2:p.rb.size<=1000)(h3:p.rm.size<=1000)(h4:p.lt.size<=10000)(h5:p.df.size<=10000)(h6:p.st<=1000)(h7:p.er<=1000)(hl:acc.length<=500000000)(mD:cf w):
  Calls aq1 93 #[.pointer (some ⟨B,0,none⟩),.string XN,.iface 158 p.val,.bool first] w fun e w'=>e=.returned (.tuple #[])/\ie B (acc++oY [p.rn,str (a_ (yD p.fl first)),XN,str (a_ (p.st+1)),p.lt,str (a_ p.er),p.df,p.rb,p.rm]++[10]) w'/\Below B w w'/\Kp B w w':=by
 have HT:=laid mD;have OI:=laid (fun W:World=>QR p first W);have HTD:=laid (QQ p w);have q1:=QX p;clear mD;unfold rS Pl.val at *;have hF:yD p.fl first<=272:=by unfold yD;cases p.fl<;>cases first<;>decide
 generalize hFF:yD p.fl first=F at *
 obtain⟨rn,rb,rm,fl,st,er,lt,df⟩:=p;simp only at *;clear hFF
 go_enter Tryz.func93,Tryz.ntmps93
 go_wp2_with fail
 refine HTD.out.mono ?_;rintro e w1 ⟨rfl,cn⟩;have FJ:=pK.below cn;have Vh:Kp B w w1:=Kp.ky cn;have vm:Below B w w1:=cn.mono (by have:=pK.lt;omega);have hT1:=laid (HT.out.on cn);clear cn HTD pK HT;go_wp2_with fail
 obtain⟨i0,hi,nJ,kK,iI⟩:=info_parts ON;obtain⟨w2,b8,nP,hb8,eM,jN,aM,UU,hT2⟩:∃(w2:World) (b8:Nat),w1.alloc (.cells #[.string rn,.string rb,.string rm] 131)=w2/\w1.heap.size=b8/\w2.heap[b8]?=some (.cells #[.string rn,.string rb,.string rm] 131 (0,0))/\ie B acc w2/\Below B w w2/\Kp B w w2/\cf w2:=by
  have hb:Below w1.heap.size w1 (w1.alloc (.cells #[.string rn,.string rb,.string rm] 131)):=(ara _ _).alloc (aq7 _) _;exact⟨_,_,rfl,rfl,heap_alloc_new w1 _,FJ.below hb,vm.trans (hb.mono (by have:=FJ.lt;omega)),Vh.trans (Kp.ky hb),hT1.out.on hb⟩
 rw[nP,hb8];clear nP hb8 FJ vm Vh hT1;have a0:w2.cell? ⟨b8,0,none⟩=some (.string rn):=by rw[cell_of_row w2 _ 0 _ _ _ eM];rfl
 have hl8:b8<w2.heap.size:=(aq8.1 eM).1;have HRD:=laid eM;have Wi:=laid jN;have HIT:Hid (∀W:World,Below w2.drew.heap.size w2.drew W->Calls aq1 74 #[.int .i64 (F:Int)] W fun e w'=>e=.returned (.string (str (a_ F)))/\Below W.heap.size W w'):=laid fun W hW=>qW (F:Int) F rfl W (by omega) (hT2.on (w':=W) ⟨hW.os,hW.tape,hW.output,hW.size,hW.block⟩);have HT2:=laid hT2;obtain⟨D4,hD4⟩:∃D,D=str (a_ F):=⟨_,rfl⟩;rw[<-hD4]at HIT;have HD4:=laid hD4;clear hD4 eM jN hT2
 go_region_held3 (fun w'=>w'.cell? ⟨b8,0,none⟩=some (.string rn))
  (first
   |go_keep
   |(rw[ox.cell (by have:=dk.size;simp at this⊢;omega),dk.cell (by first|omega|(simp;omega))];assumption)
   |(rw[dk.cell (by first|omega|(simp;omega))];assumption))
  (first
   |(go_at_call 240;refine(OI.out _).mono ?_;rintro e w' ⟨rfl,dk⟩)
   |(go_at_call 74;refine(HIT.out _ dk).mono ?_;rintro e lF ⟨rfl,ox⟩))
 have Bv:Below w2.heap.size w2 (lF.alloc (.cells #[.string rn,.string D4] 9)):=by
  have h1:Below w2.heap.size w2 w':=⟨dk.os,dk.tape,dk.output,dk.size,dk.block⟩;have h2:=h1.trans (ox.mono h1.size);exact h2.alloc h2.size _
 have ku:(lF.alloc (.cells #[.string rn,.string D4] 9)).ownsRow w2.heap.size 9 1 (.slice (some ⟨lF.heap.size,0,none⟩) 2 2) 2 [.string rn,.string D4]:=
  ⟨rfl,.inr ⟨lF.heap.size,2,_,rfl,by have h1:=dk.size;have h2:=ox.size;simp at h1;omega,heap_alloc_new lF _,aq7 _,by unfold maxLen;omega,rfl,rfl⟩⟩
 obtain⟨w4,Uw⟩:∃w4:World,lF.alloc (.cells #[.string rn,.string D4] 9)=w4:=⟨_,rfl⟩;rw[Uw]at Bv ku⊢;generalize lF.heap.size=g4 at *;clear Uw dk ox HIT OI;have hls:w2.heap.size<=w4.heap.size:=Bv.size;clear a0;go_wp2_with fail
 obtain⟨w5,xG,Ov,ajz,BL,MU,yE⟩:∃(w5:World) (xG:Nat),w4.alloc (.cells #[.string rn,.string rb,.string rm,.bool fl,.int .i64 (st:Int),.int .i64 (er:Int),.string lt,.string df] 158)=w5/\w4.heap.size=xG/\w5.heap[xG]?=some (.cells #[.string rn,.string rb,.string rm,.bool fl,.int .i64 (st:Int),.int .i64 (er:Int),.string lt,.string df] 158 (0,0))/\w5.ownsRow w2.heap.size 9 1 (.slice (some ⟨g4,0,none⟩) 2 2) 2 [.string rn,.string D4]/\Below w2.heap.size w2 w5:=
  ⟨_,_,rfl,rfl,heap_alloc_new w4 _,ku.alloc _,Bv.alloc Bv.size _⟩
 rw[Ov,ajz];have aqo:w2.heap.size<=g4:=by
  rcases ku.2 with⟨h,_⟩|⟨g,cap,cur,h,h',_⟩
  ·cases h
  ·cases h;exact h'
 clear Ov ajz ku Bv hls q1;have Vk:xG<w5.heap.size:=(aq8.1 BL).1;have p4:w5.cell? ⟨xG,4,none⟩=some (.int .i64 (st:Int)):=by rw[cell_of_row w5 _ 4 _ _ _ BL];rfl
 have p5:w5.cell? ⟨xG,5,none⟩=some (.int .i64 (er:Int)):=by rw[cell_of_row w5 _ 5 _ _ _ BL];rfl
 have p6:w5.cell? ⟨xG,6,none⟩=some (.string lt):=by rw[cell_of_row w5 _ 6 _ _ _ BL];rfl
 have p7:w5.cell? ⟨xG,7,none⟩=some (.string df):=by rw[cell_of_row w5 _ 7 _ _ _ BL];rfl
 have x1:arb.wrap ((st:Int)+1)=(st:Int)+1:=aq_ _ (by omega);have un:∀{W:World},Below w5.drew.heap.size w5.drew W->Below w5.heap.size w5 W:=fun hW=>⟨hW.os,hW.tape,hW.output,hW.size,hW.block⟩;have HP:Hid (∀W:World,Below w5.drew.heap.size w5.drew W->W.cell? ⟨xG,4,none⟩=some (.int .i64 (st:Int))/\W.cell? ⟨xG,5,none⟩=some (.int .i64 (er:Int))/\W.cell? ⟨xG,6,none⟩=some (.string lt)/\W.cell? ⟨xG,7,none⟩=some (.string df)):=laid fun W hW=>⟨by rw[(un hW).cell (p:=⟨xG,4,none⟩) Vk];exact p4,by rw[(un hW).cell (p:=⟨xG,5,none⟩) Vk];exact p5,by rw[(un hW).cell (p:=⟨xG,6,none⟩) Vk];exact p6,by rw[(un hW).cell (p:=⟨xG,7,none⟩) Vk];exact p7⟩;obtain⟨D1,hD1⟩:∃D,D=str (a_ (st+1)):=⟨_,rfl⟩;obtain⟨D2,hD2⟩:∃D,D=str (a_ er):=⟨_,rfl⟩;have HD1:=laid hD1;have HD2:=laid hD2;have OP:Hid (∀W:World,W=w5.drew\/Below w5.drew.heap.size w5.drew W->Calls aq1 74 #[.int .i64 ((st:Int)+1)] W fun e w'=>e=.returned (.string D1)/\Below W.heap.size W w'):=laid fun W hW=>by
  rw[hD1];refine qW _ (st+1) (by omega) W (by omega) (HT2.out.on ?_);rcases hW with rfl|hW
  ·exact Go.below_drewN yE 1
  ·exact yE.trans ((un hW).mono yE.size)
 have HI2:Hid (∀W:World,Below w5.drew.heap.size w5.drew W->Calls aq1 74 #[.int .i64 (er:Int)] W fun e w'=>e=.returned (.string D2)/\Below W.heap.size W w'):=laid fun W hW=>by
  rw[hD2];exact qW _ er rfl W (by omega) (HT2.out.on (yE.trans ((un hW).mono yE.size)))
 have HOW:Hid (∀(W:World),Below w5.drew.heap.size w5.drew W->∀o:Obj,(W.alloc o).ownsRow w2.heap.size 9 1 (.slice (some ⟨g4,0,none⟩) 2 2) 2 [.string rn,.string D4]):=laid fun W hW o=>(mE MU (un hW)).alloc _;have HBS:Hid (∀(W:World),Below w5.drew.heap.size w5.drew W->∀o:Obj,w2.heap.size<=(W.alloc o).heap.size):=laid fun W hW o=>by have h1:=yE.size;have h2:=(un hW).size;simp;omega
 have HB5:=laid yE;have HSA:Hid (∀(W1 W2:World) (o:Obj),Below w5.drew.heap.size w5.drew W1->(W1.alloc o).grownBy W2 (some g4)->W2.cell? ⟨xG,4,none⟩=some (.int .i64 (st:Int))/\W2.cell? ⟨xG,5,none⟩=some (.int .i64 (er:Int))/\W2.cell? ⟨xG,6,none⟩=some (.string lt)/\W2.cell? ⟨xG,7,none⟩=some (.string df)):=laid fun W1 W2 o hW hg=>by
  have e1:W2.heap[xG]?=some (.cells #[.string rn,.string rb,.string rm,.bool fl,.int .i64 (st:Int),.int .i64 (er:Int),.string lt,.string df] 158 (0,0)):=by
   have hs:=(un hW).size;rw[hg.block xG (by simp;omega) (fun e=>lE MU BL (by decide) e.symm),heap_alloc_old W1 _ (by omega),(un hW).block xG Vk];exact BL
  exact⟨by rw[cell_of_row W2 _ 4 _ _ _ e1];rfl,by rw[cell_of_row W2 _ 5 _ _ _ e1];rfl,by rw[cell_of_row W2 _ 6 _ _ _ e1];rfl,by rw[cell_of_row W2 _ 7 _ _ _ e1];rfl⟩
 clear hD1 hD2 MU yE BL un
 go_region_held3 (fun w'=>w'.cell? ⟨xG,4,none⟩=some (.int .i64 (st:Int))/\w'.cell? ⟨xG,5,none⟩=some (.int .i64 (er:Int))/\w'.cell? ⟨xG,6,none⟩=some (.string lt)/\w'.cell? ⟨xG,7,none⟩=some (.string df))
  (first
   |go_keep
   |exact HSA.out _ _ _ (dk.trans (ox.mono dk.size)) aD
   |exact HP.out _ (dk.trans (ox.mono dk.size))
   |exact HP.out _ dk)
  (first
   |(go_at_call 74;refine(OP.out _ (.inl rfl)).mono ?_;rintro e w' ⟨rfl,dk⟩)
   |(go_at_call 74;refine(HI2.out _ dk).mono ?_;rintro e lF ⟨rfl,ox⟩)
   |(refine step_append_lies _ rfl _ _ 65 rfl w2.heap.size 9 i0 (.string ⟨#[]⟩) 1 16 arW hi nJ kK iI rfl (by decide) _ 2 _ rfl (HOW.out lF (dk.trans (ox.mono dk.size)) _) ⟨lF.heap.size,0,none⟩ 5 5 [.string XN,.string D1,.string lt,.string D2,.string df] rfl rfl (ar7 (heap_alloc_new lF _)) (fun u hu=>by simp at hu;rcases hu with rfl|rfl|rfl|rfl|rfl<;>rfl) (by omega) (by unfold maxLen;omega) (by omega) (HBS.out lF (dk.trans (ox.mono dk.size)) _) _ rfl ?_;intro g5 YO w6 nh aD tt adQ))
 rename_i I7;clear I7;have Cx:Below w2.heap.size w2 w6:=by
  have h1:Below w5.heap.size w5 w':=⟨dk.os,dk.tape,dk.output,dk.size,dk.block⟩;have h2:=HB5.out.trans (h1.mono HB5.out.size);have h3:=h2.trans (ox.mono h2.size);exact(h3.alloc h3.size _).grown aD (by have:=h3.size;simp;omega) (fun j hj=>by cases hj;exact aqo)
 have Vl:w6.ownsRow w2.heap.size 9 1 (.slice (some ⟨g5,0,none⟩) 7 YO) 7 [.string rn,.string D4,.string XN,.string D1,.string lt,.string D2,.string df]:=nh;simp only[Nat.reduceAdd];clear nh;clear aD tt adQ dk ox OP HI2 HOW HBS HSA HP p4 p5 p6 p7 HB5 HT2;have adR:w6.heap[b8]?=some (.cells #[.string rn,.string rb,.string rm] 131 (0,0)):=by rw[Cx.block b8 hl8];exact HRD.out
 have a1:w6.cell? ⟨b8,1,none⟩=some (.string rb):=by rw[cell_of_row w6 _ 1 _ _ _ adR];rfl
 have a2:w6.cell? ⟨b8,2,none⟩=some (.string rm):=by rw[cell_of_row w6 _ 2 _ _ _ adR];rfl
 have hls:w2.heap.size<=w6.heap.size:=Cx.size;clear adR HRD;go_wp2_with(first
  |(at_builtin;refine wpList_append_own _ rfl _ _ 65 rfl w2.heap.size 9 i0 (.string ⟨#[]⟩) 1 16 arW hi nJ kK iI rfl (by decide) _ _ _ rfl (Vl.alloc _) ⟨w6.heap.size,0,none⟩ 2 2 [.string rb,.string rm] rfl rfl ?c1 ?c2 ?c3 ?c4 ?c5 ?_)
  |go_in)
 case c1=>
  intro j u hj
  match j,hj with
  |0,hj=>simp at hj;subst hj;simp[arF,go_sem]
  |1,hj=>simp at hj;subst hj;simp[arF,go_sem]
 case c2=>intro u hu;simp at hu;rcases hu with rfl|rfl<;>rfl
 case c3=>unfold maxLen;omega
 case c4=>omega
 case c5=>simp;omega
 intro v8 w8 Vm aD _;have YP:Below w2.heap.size w2 w8:=(Cx.alloc Cx.size _).grown aD (by simp;omega) (fun j hj=>(Vl.lt j hj).1);obtain⟨g8,ay9,rfl⟩:∃g cap,v8=.slice (some ⟨g,0,none⟩) 9 cap:=by
  rcases Vm.2 with⟨_,h0⟩|⟨gg,cap,cur,hv,_⟩
  ·omega
  ·exact⟨gg,cap,hv⟩
 have HW:=laid (nE B w2.heap.size acc [rn,D4,XN,D1,lt,D2,df,rb,rm] _ w8 (Wi.out.below YP) Vm (by simp) (by simp) (by
  have h:=OO [rn,D4,XN,D1,lt,D2,df,rb,rm] 10000 (fun x hx=>by
   have hd:=bZ F (by omega);have hd4:D4.size<=10000:=by rw[HD4.out,au];omega
   have he:=bZ (st+1) (by omega);have te:D1.size<=10000:=by rw[HD1.out,au];omega
   have hf:=bZ er (by omega);have F2:D2.size<=10000:=by rw[HD2.out,au];omega
   simp at hx;rcases hx with rfl|rfl|rfl|rfl|rfl|rfl|rfl|rfl|rfl<;>omega)
  simp at h;omega))
 have HB6:=laid (aM.trans (YP.mono (by have:=Wi.out.lt;omega)));have HK6:=laid (UU.trans (Kp.ky YP));clear aD Vl Cx hls a1 a2 Vm YP Wi aM UU;go_wp2_with fail
 refine HW.out.mono ?_;rintro e w9 ⟨rfl,ajA,hb9,hk9⟩;have HF:Hid (ie B (acc++oY [rn,str (a_ F),XN,str (a_ (st+1)),lt,str (a_ er),df,rb,rm]++[10]) w9/\Below B w w9/\Kp B w w9):=laid ⟨by rw[<-HD4.out,<-HD1.out,<-HD2.out];exact ajA,HB6.out.trans hb9,HK6.out.trans hk9⟩;clear ajA hb9 hk9 HB6 HK6 HW HD4 HD1 HD2;go_wp2
 go_end0
 exact⟨rfl,HF.out⟩
def AG(w:World)(A n:Nat):Prop:=w.heap[A]?=some (.cells #[.int .i64 (n:Int)] 3 (0,0))
theorem AG.c0(h:AG w A n):w.cell? ⟨A,0,none⟩=some (.int .i64 (n:Int)):=by rw[cell_of_row w A 0 _ _ _ h];rfl
theorem AG.fz(h:AG w A n):w.frozen? ⟨A,0,none⟩=false:=lK h (by simp)
theorem AG.kp(h:AG w A n)(k:Kp B w w')(bj:A≠B):AG w' A n:=k A _ _ _ bj (by simp) h
theorem AG.put(h:AG w A n)(m:Nat):AG (w.setCell ⟨A,0,none⟩ (.int .i64 (m:Int))) A m:=by
 exact jM _ h
theorem D8{p:Value}{bs:List Value}{v:Value}(h:asn 102 5 B B p bs w)(ha:AG w A n)(bj:A≠B):asn 102 5 B B p bs (w.setCell ⟨A,0,none⟩ v):=by
 obtain⟨hB,u,hh,aJ,hn⟩:=h;have aV:=Lib.BuilderAt.lt ⟨hB,u,hh,aJ,hn⟩;have hg:=aB w A 0 v;refine⟨hB,u,?_,aJ.kept hg (.inr (lE aJ ha (by simp))),hn⟩;rw[hg.block B aV (fun e=>bj (by simp_all))];exact hh
theorem ie.put{acc:List UInt8}{v:Value}(h:ie B acc w)(ha:AG w A n)(bj:A≠B):ie B acc (w.setCell ⟨A,0,none⟩ v):=
 h.imp (fun h=>D8 h ha bj) (fun h=>D8 h ha bj)
theorem D9{v:Value}(h:B<=A):Below B w (w.setCell ⟨A,0,none⟩ v):=(ara B w).setCell h v
theorem Ji(B A n:Nat)(acc:List UInt8)(W:World)(pK:ie B acc W)(pe:AG W A n)(hAB:B<A)(hn:n<=9999)(hl:acc.length+10<=1000000)(mD:cf W):
  Calls aq1 149 #[.pointer (some ⟨B,0,none⟩),.pointer (some ⟨A,0,none⟩)] W fun e w'=>e=.returned (.tuple #[])/\ie B (acc++a_ n) w'/\AG w' A 0/\Below B W w':=by
 have c0:=pe.c0;have V4:=bZ n hn
 go_enter Tryz.func149,Tryz.ntmps149
 go_wp2_with fail
 refine(Je n _ hn mD).mono ?_;rintro e w2 ⟨rfl,di⟩;have jN:=pK.below di;have y5:AG w2 A n:=pe.kp (B:=B) (Kp.ky di) (by omega);have aM:Below B W w2:=di.mono (by have:=pK.lt;omega);clear di c0;go_wp2_with fail
 refine(D7 _ _ (str (a_ n)) _ jN (by rw[au];omega)).mono ?_;rintro e w3 ⟨rfl,pM,fj,Rw⟩;have Cy:=y5.kp Rw (by omega);have dx:=aM.trans fj;have f3:=Cy.fz;have c3:=Cy.c0;have HF:Hid (ie B (acc++a_ n) (w3.setCell _ (.int .i64 0))/\AG _ A 0/\Below B W (w3.setCell ⟨A,0,none⟩ (.int .i64 0))):=laid ⟨pM.put Cy (by omega),Cy.put 0,dx.trans (D9 (by omega))⟩;go_wp2
 go_end0
 exact⟨rfl,HF.out.1,HF.out.2.1,HF.out.2.2⟩
theorem y7(p t s:ByteArray)(w:World)(hp:p.size<=1000)(ht:t.size<=1000)(hs:s.size<=1000)(jr:Fits p t s)(ajB:∀x,x<s.size->at8 s x=77\/at8 s x=73\/at8 s x=68)(mD:cf w):
  Calls aq1 128 #[.string s,.string p,.string t] w fun e w'=>e=.returned (.string (str (pL p t s)))/\Below w.heap.size w w':=by
 have UZ:=laid jr;have aqu:=laid ajB;have HT:=laid mD;clear jr ajB mD
 go_enter Tryz.func128,Tryz.ntmps128
 go_wp2
 have h0:Hid (ie w.heap.size [] ((w.alloc (.cells #[.pointer none,.slice none 0 0] 102)).alloc (.cells #[.int .i64 0] 3))/\AG ((w.alloc (.cells #[.pointer none,.slice none 0 0] 102)).alloc (.cells #[.int .i64 0] 3)) (w.heap.size+1) 0/\Below w.heap.size w ((w.alloc (.cells #[.pointer none,.slice none 0 0] 102)).alloc (.cells #[.int .i64 0] 3))):=laid (by
  refine⟨(ie.new w).below ((ara _ _).alloc (aq7 _) _),?_,((ara _ _).alloc (aq7 _) _).alloc (by simp) _⟩;unfold AG;have:=heap_alloc_new (w.alloc (.cells #[.pointer none,.slice none 0 0] 102)) (.cells #[.int .i64 0] 3);simpa using this)
 go_loopw [8,9,16] (fun iv jv xv wr=>∃x:Nat,iv=.int .i64 ((cu p t s x).i:Int)/\jv=.int .i64 ((cu p t s x).j:Int)/\xv=.int .i64 (x:Int)/\x<=s.size/\ie w.heap.size (cu p t s x).o wr/\AG wr (w.heap.size+1) (cu p t s x).n/\Below w.heap.size w wr) (fun _ _ xv _=>s.size-(intOf xv).toNat)
 case atStart=>exact⟨0,rfl,rfl,rfl,arI _,h0.out.1,h0.out.2.1,h0.out.2.2⟩
 case round=>
  obtain⟨x,rfl,rfl,rfl,hxs,pK,pe,aH⟩:=hrel;clear h0;have hle:=zq p t s x (by omega);by_cases aV:x<s.size
  ·have pN:(x:Int)<(s.size:Int):=by omega
   have hx0:(0:Int)<=(x:Int):=by omega
   have tt:=cZ s x aV;have U0:=UZ.out x aV;have hlx:=aqu.out x aV;have x1:arb.wrap ((x:Int)+1)=(x:Int)+1:=aq_ _ (by omega);have Gu:Hid (cu p t s (x+1)=mi p t s x (cu p t s x)):=laid rfl;generalize cu p t s x=st at *;obtain⟨O,I,J,N⟩:=st;simp only at *;have V4:=bZ N (by omega);have x2:arb.wrap ((I:Int)+1)=(I:Int)+1:=aq_ _ (by omega);have x3:arb.wrap ((J:Int)+1)=(J:Int)+1:=aq_ _ (by omega);have x4:arb.wrap ((N:Int)+1)=(N:Int)+1:=aq_ _ (by omega);have HTL:Hid (∀W:World,ie w.heap.size O W->AG W (w.heap.size+1) N->Below w.heap.size w W->Calls aq1 149 #[.pointer (some ⟨w.heap.size,0,none⟩),.pointer (some ⟨w.heap.size+1,0,none⟩)] W fun e w'=>e=.returned (.tuple #[])/\ie w.heap.size (O++a_ N) w'/\AG w' (w.heap.size+1) 0/\Below w.heap.size W w'):=laid (fun W h1 h2 h3=>Ji _ _ N O W h1 h2 (by omega) (by omega) (by omega) (HT.out.on h3));rcases hlx with zr|Bi|QF
   ·have e1:(((at8 s x).toNat:Int)==77)=true:=by rw[zr];rfl
    have hIJ:=U0.1 zr;have ry:(I:Int)<(p.size:Int):=by omega
    have tG:(0:Int)<=(I:Int):=by omega
    have KN:(J:Int)<(t.size:Int):=by omega
    have F3:(0:Int)<=(J:Int):=by omega
    have hpI:=cZ p I hIJ.1;have htJ:=cZ t J hIJ.2;have FA:Hid (cu p t s (x+1)=if ag (at8 p I) (at8 t J)=true then⟨O,I+1,J+1,N+1⟩else⟨O++a_ N++[at8 t J],I+1,J+1,0⟩):=laid (by rw[Gu.out,mi,if_pos zr]);clear zr U0 Gu;have Wi:=laid pK;have HAG:=laid pe;clear pK pe;go_wp2_with fail
    go_quiet((go_at_call 150;refine(Ei _ _ _).mono ?_;rintro e lF ⟨rfl,rfl⟩;exact⟨rfl,_,rfl⟩))
    have kU:=Go.below_drewN aH nq;have Cv:=Wi.out.drewN nq;have MV:AG (wr.drewN nq) (w.heap.size+1) N:=HAG.out;clear Wi HAG;generalize wr.drewN nq=w1 at *;clear aH;by_cases MW:ag (at8 p I) (at8 t J)=true
    ·have HE:Hid (cu p t s (x+1)=⟨O,I+1,J+1,N+1⟩):=laid (by rw[FA.out,if_pos MW]);rw[MW];have c0:=MV.c0;have f0:=MV.fz;have HF:Hid (ie w.heap.size O (w1.setCell ⟨w.heap.size+1,0,none⟩ (.int .i64 ((N:Int)+1)))/\AG (w1.setCell ⟨w.heap.size+1,0,none⟩ (.int .i64 ((N:Int)+1))) (w.heap.size+1) (N+1)/\Below w.heap.size w (w1.setCell ⟨w.heap.size+1,0,none⟩ (.int .i64 ((N:Int)+1)))):=laid ⟨Cv.put MV (by omega),MV.put (N+1),kU.trans (D9 (by omega))⟩;clear FA MW Cv MV HTL;go_wp2
     go_roundw
     case rel=>go_light;exact⟨x+1,ax (by rw[HE.out];simp),ax (by rw[HE.out];simp),by go_num,by omega,by rw[HE.out];exact HF.out.1,by rw[HE.out];exact HF.out.2.1,HF.out.2.2⟩
     case measure=>go_light;simp[intOf];omega
    ·have HE:Hid (cu p t s (x+1)=⟨O++a_ N++[at8 t J],I+1,J+1,0⟩):=laid (by rw[FA.out,if_neg MW]);rw[ar4]at MW;rw[MW];have HC:=laid (HTL.out w1 Cv MV kU);clear FA MW HTL Cv MV;go_wp2_with fail
     refine HC.out.mono ?_;rintro e w2 ⟨rfl,jN,y5,di⟩;have aM:=kU.trans di;clear di HC;go_wp2_with fail
     refine(mn _ _ (at8 t J) _ jN (by rw[aq3];omega)).mono ?_;rintro e w3 ⟨rfl,pM,fj,Rw⟩;have HF:Hid (ie w.heap.size (O++a_ N++[at8 t J]) w3/\AG w3 (w.heap.size+1) 0/\Below w.heap.size w w3):=laid ⟨pM,y5.kp Rw (by omega),aM.trans fj⟩;clear fj Rw pM y5 jN aM kU;go_wp2
     go_roundw
     case rel=>go_light;exact⟨x+1,ax (by rw[HE.out];simp),ax (by rw[HE.out];simp),by go_num,by omega,by rw[HE.out];exact HF.out.1,by rw[HE.out];exact HF.out.2.1,HF.out.2.2⟩
     case measure=>go_light;simp[intOf];omega
   ·have e1:(((at8 s x).toNat:Int)==77)=false:=by rw[Bi];rfl
    have e2:(((at8 s x).toNat:Int)==73)=true:=by rw[Bi];rfl
    have HE:Hid (cu p t s (x+1)=⟨O,I+1,J,N⟩):=laid (by rw[Gu.out,mi,if_neg (by rw[Bi];decide),if_pos Bi]);have HF:=laid (And.intro pK pe);clear Bi U0 Gu HTL pK pe;go_wp2
    go_roundw
    case rel=>go_light;exact⟨x+1,ax (by rw[HE.out];simp),ax (by rw[HE.out]),by go_num,by omega,by rw[HE.out];exact HF.out.1,by rw[HE.out];exact HF.out.2,aH⟩
    case measure=>go_light;simp[intOf];omega
   ·have e1:(((at8 s x).toNat:Int)==77)=false:=by rw[QF];rfl
    have e2:(((at8 s x).toNat:Int)==73)=false:=by rw[QF];rfl
    have e3:(((at8 s x).toNat:Int)==68)=true:=by rw[QF];rfl
    have n77:at8 s x≠77:=by rw[QF];decide
    have n73:at8 s x≠73:=by rw[QF];decide
    have hJ:=U0.2 n77 n73;have KN:(J:Int)<(t.size:Int):=by omega
    have F3:(0:Int)<=(J:Int):=by omega
    have htJ:=cZ t J hJ;have FA:Hid (cu p t s (x+1)=if x=0\/at8 s (x-1)≠68 then⟨O++a_ N++[94]++[at8 t J],I,J+1,0⟩else⟨O++[at8 t J],I,J+1,N⟩):=laid (by rw[Gu.out,mi,if_neg n77,if_neg n73]);have HC:=laid (HTL.out wr pK pe aH);clear QF U0 Gu HTL n77 n73;have Vg:(((x:Int)==0)=true/\Hid (cu p t s (x+1)=⟨O++a_ N++[94]++[at8 t J],I,J+1,0⟩))\/∃y:Nat,((x:Int)==0)=false/\y<s.size/\arb.wrap ((x:Int)-1)=(y:Int)/\(((((at8 s y).toNat:Int) != 68)=true/\Hid (cu p t s (x+1)=⟨O++a_ N++[94]++[at8 t J],I,J+1,0⟩))\/((((at8 s y).toNat:Int) != 68)=false/\Hid (cu p t s (x+1)=⟨O++[at8 t J],I,J+1,N⟩))):=by
     by_cases hx9:x=0
     ·exact .inl ⟨by simp;omega,laid (by rw[FA.out,if_pos (.inl hx9)])⟩
     ·refine .inr ⟨x-1,by simp;omega,by omega,by rw[show(x:Int)-1=((x-1:Nat):Int) by omega];exact aq_ _ (by omega),?_⟩;by_cases h:at8 s (x-1)=68
      ·exact .inr ⟨by rw[h];rfl,laid (by rw[FA.out,if_neg (by rintro(h'|h');exact hx9 h';exact h' h)])⟩
      ·exact .inl ⟨toNat_ne h,laid (by rw[FA.out,if_pos (.inr h)])⟩
    clear FA;rcases Vg with⟨hd,HE⟩|⟨y,hd,hyl,Ku,⟨hq,HE⟩|⟨hq,HE⟩⟩
    ·skip
     clear pK pe;go_wp2_with fail
     refine HC.out.mono ?_;rintro e w2 ⟨rfl,jN,y5,di⟩;have aM:=aH.trans di;clear di HC aH;go_wp2_with fail
     refine(mn _ _ 94 _ jN (by rw[aq3];omega)).mono ?_;rintro e w3 ⟨rfl,pM,fj,Rw⟩;have Cy:=y5.kp Rw (by omega);have dx:=aM.trans fj;clear fj Rw y5 jN aM;go_wp2_with fail
     refine(mn _ _ (at8 t J) _ pM (by rw[aq3,aq3];simp;omega)).mono ?_;rintro e w4 ⟨rfl,vk,sU,Wh⟩;have HF:Hid (ie w.heap.size (O++a_ N++[94]++[at8 t J]) w4/\AG w4 (w.heap.size+1) 0/\Below w.heap.size w w4):=laid ⟨vk,Cy.kp Wh (by omega),dx.trans sU⟩;clear sU Wh vk Cy pM dx;go_wp2
     go_roundw
     case rel=>go_light;exact⟨x+1,ax (by rw[HE.out]),ax (by rw[HE.out];simp),by go_num,by omega,by rw[HE.out];exact HF.out.1,by rw[HE.out];exact HF.out.2.1,HF.out.2.2⟩
     case measure=>go_light;simp[intOf];omega
    ·obtain⟨aja,ti,hy0⟩:s[y]=at8 s y/\(y:Int)<(s.size:Int)/\(0:Int)<=(y:Int):=⟨cZ s y hyl,by omega,by omega⟩;clear pK pe;go_wp2_with fail
     refine HC.out.mono ?_;rintro e w2 ⟨rfl,jN,y5,di⟩;have aM:=aH.trans di;clear di HC aH;go_wp2_with fail
     refine(mn _ _ 94 _ jN (by rw[aq3];omega)).mono ?_;rintro e w3 ⟨rfl,pM,fj,Rw⟩;have Cy:=y5.kp Rw (by omega);have dx:=aM.trans fj;clear fj Rw y5 jN aM;go_wp2_with fail
     refine(mn _ _ (at8 t J) _ pM (by rw[aq3,aq3];simp;omega)).mono ?_;rintro e w4 ⟨rfl,vk,sU,Wh⟩;have HF:Hid (ie w.heap.size (O++a_ N++[94]++[at8 t J]) w4/\AG w4 (w.heap.size+1) 0/\Below w.heap.size w w4):=laid ⟨vk,Cy.kp Wh (by omega),dx.trans sU⟩;clear sU Wh vk Cy pM dx;go_wp2
     go_roundw
     case rel=>go_light;exact⟨x+1,ax (by rw[HE.out]),ax (by rw[HE.out];simp),by go_num,by omega,by rw[HE.out];exact HF.out.1,by rw[HE.out];exact HF.out.2.1,HF.out.2.2⟩
     case measure=>go_light;simp[intOf];omega
    ·have aja:=cZ s y hyl;have ti:(y:Int)<(s.size:Int):=by omega
     have hy0:(0:Int)<=(y:Int):=by omega
     have HAG:=laid pe;clear pe HC;go_wp2_with fail
     refine(mn _ _ (at8 t J) _ pK (by omega)).mono ?_;rintro e w4 ⟨rfl,vk,sU,Wh⟩;have HF:Hid (ie w.heap.size (O++[at8 t J]) w4/\AG w4 (w.heap.size+1) N/\Below w.heap.size w w4):=laid ⟨vk,HAG.out.kp Wh (by omega),aH.trans sU⟩;clear sU Wh vk HAG pK aH;go_wp2
     go_roundw
     case rel=>go_light;exact⟨x+1,ax (by rw[HE.out]),ax (by rw[HE.out];simp),by go_num,by omega,by rw[HE.out];exact HF.out.1,by rw[HE.out];exact HF.out.2.1,HF.out.2.2⟩
     case measure=>go_light;simp[intOf];omega
  ·have V5:x=s.size:=by omega
   have HF:Hid (str ((cu p t s x).o++a_ (cu p t s x).n)=str (pL p t s)):=laid (by unfold pL;rw[V5]);have HC:=laid (Ji _ _ (cu p t s x).n (cu p t s x).o wr pK pe (by omega) (by omega) (by omega) (HT.out.on aH));clear V5 hle;generalize cu p t s x=st at *;obtain⟨O,I,J,N⟩:=st;simp only at *;clear pK pe;go_wp2_with fail
   refine HC.out.mono ?_;rintro e w2 ⟨rfl,jN,y5,di⟩;have aM:=aH.trans di;clear di HC y5;go_wp2_with fail
   refine(qS _ _ _ jN).mono ?_;rintro e w3 ⟨rfl,fj⟩;have dx:=aM.trans fj;clear fj jN;go_wp2
   go_ret
   exact⟨cP HF.out,dx⟩
end
section
open RowKit Maps Go.Sort Shelf
theorem Vn(m:Nat):AnyZI.SortsIn aq1 Tryz.yl Fence.wide m:=
 ⟨fun blk off cap ss W hH ac6 mK=>callsIn_wide.2 (AnyM.slices_Sort_int Tryz.aax blk off cap ss W hH ac6 mK),
  fun p cap W=>callsIn_wide.2 (AnyM.slices_Sort_int_none Tryz.aax p cap W)⟩
theorem Jj(mb:Option Nat)(W:World):
  Calls aq1 124 #[.map mb] W fun e w'=>e=.returned (.func (.func 143) #[] #[.pointer (some ⟨W.heap.size,0,none⟩)])/\w'=W.alloc (.cells #[.map mb] 166):=by
 refine(callsIn_wide (n:=5)).1 ?_;exact AnyZI.keys_in Tryz.aaw _ 5 trivial rfl mb W
theorem Cz{H:Type}(b nn:Nat)(D0:DataW H)(R:Value->Option _)(w:World)(aJ:w.ownsMap aq1 3 R b nn D0)(mK:Maps.size D0<=10000):
  Calls aq1 123 #[.func (.func 143) #[] #[.pointer (some ⟨w.heap.size,0,none⟩)]] (w.alloc (.cells #[.map (some b)] 166)) fun e w'=>∃(v:Value) (ss:List Int),e=.returned v/\ss.Perm (intKeys D0)/\
   w'.ownsRow w.heap.size 3 1 v ss.length ((ss.mergeSort (fun x y=>decide (x<=y))).map encZ)/\Below w.heap.size w w':=by
 refine(callsIn_wide (n:=5)).1 ?_;have hbl:=aJ.lt;have aqx:SeqGives Fence.wide 2 _ 143 _ _ _ _ (w.alloc (.cells #[.map (some b)] 166)):=
  AnyZI.keys_gives {Tryz.aaw with} _ _ trivial rfl (by omega) w.heap.size b nn D0 _ (by simp) (by simp) (by
   obtain⟨es,clock,hb,Ft,hs,hD⟩:=aJ;exact⟨es,clock,(Below.heap_alloc _ _ b hbl).trans hb,Ft,hs,hD⟩)
 have cS:=AnyZI.sorted_in Tryz.Yv _ 5 trivial trivial trivial trivial rfl (by omega) (Vn _) (enters_of Tryz.func142 (by kernel_rfl) rfl) 143 _ trivial (enters_of Tryz.func143 (by kernel_rfl) rfl) _ _ (by unfold maxLen;omega) (by omega) _ aqx;refine cS.mono ?_;rintro e w' ⟨v,ss,rfl,hS,dz,Xc,hb⟩;exact⟨v,ss,rfl,hS,ownsRow_base_a dz (by simp),((ara _ w).alloc (aq7 _) _).trans (hb.mono (by simp))⟩
end
section
structure Good(q:Nat)(p t:ByteArray)(i j:Nat)(l:List (Nat×Nat)):Prop where
 inn:∀w∈l,w.1+q<=i/\w.2+q<=j/\∀u,u<q->ag (at8 p (w.1+u)) (at8 t (w.2+u))=true
 up:l.Pairwise fun a b=>a.1<b.1/\a.2<b.2
theorem Good.nil(q:Nat)(p t:ByteArray)(i j:Nat):Good q p t i j []:=⟨fun _ h=>by simp at h,List.Pairwise.nil⟩
theorem Good.mono{i' j':Nat}{l:List _}(h:Good q p t i j l)(hi:i<=i')(hj:j<=j'):Good q p t i' j' l:=
 ⟨fun w hw=>by have:=h.inn w hw;exact⟨by omega,by omega,this.2.2⟩,h.up⟩
structure Vo(p t:ByteArray)(i j r:Nat):Prop where
 li:r<=i
 lj:r<=j
 all:∀u,u<r->ag (at8 p (i-1-u)) (at8 t (j-1-u))=true
theorem Vo.zero(p t:ByteArray)(i j:Nat):Vo p t i j 0:=⟨arI _,arI _,fun u h=>by omega⟩
theorem Vo.succ{r:Nat}(h:Vo p t i j r)(ha:ag (at8 p i) (at8 t j)=true):Vo p t (i+1) (j+1) (r+1):=
 ⟨by have:=h.li;omega,by have:=h.lj;omega,fun u hu=>by
  cases u with
  |zero=>simpa using ha
  |succ u=>
   have:=h.all u (by omega);rw[show i+1-1-(u+1)=i-1-u by omega,show j+1-1-(u+1)=j-1-u by omega];omega⟩
theorem oZ(q:Nat)(hq:1<=q)(p t:ByteArray):∀i j,∃l r,Good q p t i j l/\Vo p t i j r/\i+(q-1-min r (q-1))<=l.length+q *dT p t i j+(q-1)
 |0,j=>⟨[],0,Good.nil _ _ _ _ _,Vo.zero _ _ _ _,by
   have:0<=q *dT p t 0 j:=arI _;simp only[asf];omega⟩
 |i+1,0=>⟨[],0,Good.nil _ _ _ _ _,Vo.zero _ _ _ _,by
   rw[dT];have:i+1<=q *(i+1):=Nat.le_mul_of_pos_left _ hq;simp only[asf];omega⟩
 |i+1,j+1=>by
  have RX:dT p t (i+1) (j+1)=dT p t i j+cost p t i j\/dT p t (i+1) (j+1)=dT p t i (j+1)+1\/dT p t (i+1) (j+1)=dT p t (i+1) j+1:=by rw[dT];omega
  rcases RX with h|h|h
  ·obtain⟨l,r,hg,hr,hle⟩:=oZ q hq p t i j;by_cases ha:ag (at8 p i) (at8 t j)=true
   ·have hc:cost p t i j=0:=if_pos ha;have h:dT p t (i+1) (j+1)=dT p t i j:=by rw[h,hc];rfl
    rw[h];have F7:=hr.succ ha;by_cases hrq:q<=r+1
    ·refine⟨l++[(i+1-q,j+1-q)],r+1,⟨fun w hw=>?_,?_⟩,F7,?_⟩
     ·rw[arC,arT]at hw;rcases hw with hw|hw
      ·have:=hg.inn w hw;exact⟨by omega,by omega,this.2.2⟩
      ·subst hw;have h1:=F7.li;have h2:=F7.lj;refine⟨by simp only;omega,by simp only;omega,fun u hu=>?_⟩;have:=F7.all (q-1-u) (by omega);simp only;rw[show i+1-q+u=i+1-1-(q-1-u) by omega,show j+1-q+u=j+1-1-(q-1-u) by omega];exact this
     ·refine asm.2 ⟨hg.up,List.pairwise_singleton _ _,fun a ha' b hb=>?_⟩;rw[arT]at hb;subst hb;have:=hg.inn a ha';simp only;omega
     ·rw[aq3];simp only[asA,asf];omega
    ·exact⟨l,r+1,hg.mono (by omega) (by omega),F7,by omega⟩
   ·have hc:cost p t i j=1:=if_neg ha;rw[hc]at h;rw[h,asy];exact⟨l,0,hg.mono (by omega) (by omega),Vo.zero _ _ _ _,by omega⟩
  ·obtain⟨l,r,hg,hr,hle⟩:=oZ q hq p t i (j+1);rw[h,asy];exact⟨l,0,hg.mono (by omega) (by omega),Vo.zero _ _ _ _,by omega⟩
  ·obtain⟨l,r,hg,hr,hle⟩:=oZ q hq p t (i+1) j;rw[h,asy];exact⟨l,0,hg.mono (by omega) (by omega),Vo.zero _ _ _ _,by omega⟩
theorem qX(P:Nat->Bool):∀k (xs:List Nat),xs.Nodup->(∀x∈xs,x<k/\P x=true)->xs.length<=((arU k).countP P)
 |0,xs,_,h=>by
  cases xs with
  |nil=>simp
  |cons a l=>have:=(h a (by simp)).1;omega
 |k+1,xs,hn,h=>by
  rw[asg,asq];by_cases hk:k∈xs
  ·have hp:=(h k hk).2;have ih:=qX P k _ (hn.erase k) (fun x hx=>by
    have oj:=(hn.mem_erase_iff).1 hx;have:=h x oj.2;exact⟨by omega,this.2⟩)
   simp_all
  ·have ih:=qX P k xs hn (fun x hx=>by
    have:x≠k:=fun e=>hk (e▸hx);have:=h x hx;exact⟨by omega,this.2⟩)
   omega
theorem qY(s:ByteArray)(q:Nat)(z:List _)(hz:zt z=true):∀k,cg s q z k=(arU k).countP (fun x=>decide (jh s q x=z))
 |0=>rfl
 |k+1=>by
  rw[cg,qY s q z hz k,asg,asq];simp_all
theorem D_(f:Nat×Nat->List _)(ss:List _):∀(l:List _),(∀w∈l,f w∈ss)->l.length<=gy (fun z=>l.countP (fun w=>decide (f w=z))) ss
 |[],_=>arI _
 |w::l,h=>by
  have ih:=D_ f ss l (fun w' Rs=>h w' (by simp_all));have aqy:1<=gy (fun z=>if f w=z then 1 else 0) ss:=by
   have hm:=h w (by simp);clear ih h;induction ss with
   |nil=>simp at hm
   |cons a ss ihs=>
    have e:gy (fun z=>if f w=z then 1 else 0) (a::ss)=(if f w=a then 1 else 0)+gy (fun z=>if f w=z then 1 else 0) ss:=by simp[gy]
    rw[e];by_cases ha:f w=a
    ·simp_all
    ·simp_all
  have KQ:gy (fun z=>(w::l).countP (fun w=>decide (f w=z))) ss=gy (fun z=>l.countP (fun w=>decide (f w=z))) ss+gy (fun z=>if f w=z then 1 else 0) ss:=by
   clear ih aqy h;induction ss with
   |nil=>rfl
   |cons a ss ihs=>
    have e1:∀g,gy g (a::ss)=g a+gy g ss:=fun g=>by simp[gy]
    rw[e1,e1,e1,ihs];have:(w::l).countP (fun w=>decide (f w=a))=l.countP (fun w=>decide (f w=a))+(if f w=a then 1 else 0):=by
     rw[List.countP_cons];simp
    omega
  rw[KQ,asA];omega
theorem Vp(f g:List _->Nat)(ss:List _)(h:∀z∈ss,f z<=g z):gy f ss<=gy g ss:=by
 induction ss with
 |nil=>exact aq7 _
 |cons a ss ih=>
  have e1:∀g,gy g (a::ss)=g a+gy g ss:=fun g=>by simp[gy]
  rw[e1,e1];have:=ih (fun z hz=>h z (by simp[hz]));have:=h a (by simp);omega
theorem Jk(p S:ByteArray)(q:Nat)(hq:1<=q)(l:List (Nat×Nat))(hup:l.Pairwise fun a b=>a.1<b.1/\a.2<b.2)
  (hin:∀w∈l,w.1+q<=p.size/\w.2+q<=S.size/\jh p q w.1=jh S q w.2/\zt (jh p q w.1)=true):l.length<=BZ p S q:=by
 have hnd:=lC p q (p.size+1-q);have dU:=fun z=>oX p q z (p.size+1-q);rw[<-Bu p S q hq _ hnd dU];refine arw (D_ (fun w=>jh p q w.1) _ l (fun w hw=>?_)) (Vp _ _ _ (fun z hz=>?_))
 ·have h:=hin w hw;rw[dU,qY p q _ h.2.2.2];refine List.countP_pos_iff.2 ⟨w.1,by rw[List.mem_range];omega,by simp⟩
 ·have nJ:=(dU z).1 hz;have hzn:zt z=true:=by
   cases hn:zt z with
   |true=>rfl
   |false=>
    have:∀k,cg p q z k=0:=fun k=>by
     induction k with
     |zero=>rfl
     |succ k ih=>rw[cg,ih,if_neg (fun e=>by simp_all)]
    simp_all
  have aqz:l.countP _=(l.filter (fun w=>decide (jh p q w.1=z))).length:=List.countP_eq_length_filter;have hf:(l.filter (fun w=>decide (jh p q w.1=z))).Pairwise _:=hup.filter _;have hfm:∀w∈l.filter (fun w=>decide (jh p q w.1=z)),w.1+q<=p.size/\w.2+q<=S.size/\jh p q w.1=z/\jh S q w.2=z:=fun w hw=>by
   rw[List.mem_filter]at hw;have h:=hin w hw.1;simp_all
  generalize l.filter (fun w=>decide (jh p q w.1=z))=m at *;have h1:m.length<=nD p q z:=by
   unfold nD;rw[qY p q z hzn];have hn:(m.map (·.1)).Nodup:=arM.2 (hf.imp fun h=>by omega);have:=qX (fun x=>decide (jh p q x=z)) (p.size+1-q) _ hn (fun x hx=>by
    rw[arO]at hx;obtain⟨w,hw,rfl⟩:=hx;have:=hfm w hw;exact⟨by omega,decide_eq_true this.2.2.1⟩)
   simpa using this
  have h2:m.length<=nD S q z:=by
   unfold nD;rw[qY S q z hzn];have hn:(m.map (·.2)).Nodup:=arM.2 (hf.imp fun h=>by omega);have:=qX (fun x=>decide (jh S q x=z)) (S.size+1-q) (m.map (·.2)) hn (fun x hx=>by
    rw[arO]at hx;obtain⟨w,hw,rfl⟩:=hx;have:=hfm w hw;exact⟨by omega,decide_eq_true this.2.2.2⟩)
   simpa using this
  unfold gu;omega
theorem iD(X:ByteArray)(a c i:Nat)(hc:c<=X.size)(hi:a+i<c):at8 (X.extract a c) i=at8 X (a+i):=by
 unfold at8;rw[arK,arR];simp only[aq9];rw[ar9,if_pos (by omega),ar_]
theorem aaR{b:UInt8}(h:ag a b=true):a=b/\a≠78:=by
 unfold ag at h;simp at h;exact h
theorem FK(s:ByteArray)(q x:Nat)(h:x+q<=s.size):(jh s q x).length=q:=by
 show(s.extract x _).size=q;simp_all
theorem FL(s:ByteArray)(q x u:Nat)(h:x+q<=s.size)(hu:u<q):(jh s q x)[u]?=some (at8 s (x+u)):=by
 have h1:=iD s x _ u h (by omega);unfold at8 at h1;unfold jh;have hl:u<(s.extract x (x+q)).data.toList.length:=by
  show u<(s.extract x _).size;simp_all
 rw[aq9,aq5 hl]at h1;rw[aq5 hl];simp only[Option.getD_some]at h1;rw[h1];rfl
theorem YQ{y:Nat}(hx:x+q<=p.size)(hy:y+q<=S.size)(h:∀u,u<q->at8 p (x+u)=at8 S (y+u)):jh p q x=jh S q y:=by
 apply asw;intro u;by_cases hu:u<q
 ·rw[FL p q x u hx hu,FL S q y u hy hu,h u hu]
 ·rw[arP (by rw[FK p q x hx];omega),arP (by rw[FK S q y hy];omega)]
theorem adS(hx:x+q<=p.size)(h:∀u,u<q->at8 p (x+u)≠78):zt (jh p q x)=true:=by
 unfold zt;rw[Bool.not_eq_true',<-ar4,List.contains_iff_mem];intro hm;obtain⟨u,hu,e⟩:=List.getElem_of_mem hm;have hl:=FK p q x hx;have h1:=FL p q x u hx (by omega);rw[aq5 hu,e]at h1;exact h u (by omega) (by simp_all)
theorem Bw(p X:ByteArray)(k q a c s e:Nat)(hq:1<=q)(has:a<=s)(KP:s<=e)(hec:e<=c)(hcX:c<=X.size)(hd:bX p (X.extract s e)<=k):
  MB p.size k q<=(BZ p (X.extract a c) q:Int):=by
 obtain⟨l,r,hg,hr,hle⟩:=oZ q hq p (X.extract s e) p.size (X.extract s e).size;have hTS:(X.extract s e).size=e-s:=by rw[arG];omega
 have hS:(X.extract a c).size=c-a:=by simp_all
 have hlen:l.length<=BZ p (X.extract a c) q:=by
  have hl:(l.map fun w=>(w.1,w.2+(s-a))).length=l.length:=asF ..;rw[<-hl];refine Jk p (X.extract a c) q hq _ (arM.2 (hg.up.imp fun h=>by simp only;omega)) (fun w hw=>?_);rw[arO]at hw;obtain⟨v,hv,rfl⟩:=hw;have h:=hg.inn v hv;rw[hTS]at h;refine⟨h.1,by rw[hS];simp only;omega,YQ h.1 (by rw[hS];simp only;omega) (fun u hu=>?_),adS h.1 (fun u hu=>(aaR (h.2.2 u hu)).2)⟩;have h1:=(aaR (h.2.2 u hu)).1;rw[iD X s e _ (by omega) (by omega)]at h1;simp only;rw[iD X a c _ hcX (by omega),h1];congr 1;omega
 unfold bX at hd;have hm:=Nat.mul_le_mul_left q hd;unfold MB;rw[asr k q];omega
theorem OQ(p t:ByteArray):∀i j,j<=i+dT p t i j/\i<=j+dT p t i j
 |0,j=>by simp[dT]
 |i+1,0=>by simp[dT]
 |i+1,j+1=>by
  have h1:=OQ p t i j;have h2:=OQ p t i (j+1);have h3:=OQ p t (i+1) j;rw[dT];omega
theorem Bx(p X:ByteArray)(k s e:Nat)(KP:s<=e)(YR:e<=X.size)(hd:bX p (X.extract s e)<=k):e<=s+p.size+k:=by
 have h:=(OQ p (X.extract s e) p.size (X.extract s e).size).1;have hTS:(X.extract s e).size=e-s:=by simp_all
 unfold bX at hd;omega
theorem MX(p X:ByteArray)(k q st s e:Nat)(hq:1<=q)(aA:1<=st)(KP:s<=e)(YR:e<=X.size)(hd:bX p (X.extract s e)<=k):
  looked p X k q st (MB p.size k q) ((e-(p.size+k))/st)=true:=by
 have hlen:=Bx p X k s e KP YR hd;have hb:(e-(p.size+k))/st *st<=e-(p.size+k):=ar8 _ _;have di:e-(p.size+k)<(e-(p.size+k))/st *st+st:=by
  have:=asG (e-(p.size+k)) st;have hm:=Nat.mod_lt (e-(p.size+k)) (show 0<st by omega);rw[asr]at this;omega
 unfold looked;rw[Bool.or_eq_true];right;refine decide_eq_true ?_;refine Bw p X k q _ _ s e hq (by omega) KP ?_ ?_ hd
 ·unfold ve;omega
 ·unfold ve;omega
theorem qA{p' t':ByteArray}:∀i j,(∀x,x<i->at8 p x=at8 p' x)->(∀y,y<j->at8 t y=at8 t' y)->dT p t i j=dT p' t' i j
 |0,j,_,_=>by simp[dT]
 |i+1,0,_,_=>by simp[dT]
 |i+1,j+1,hp,ht=>by
  rw[dT,dT,qA i j (fun x h=>hp x (by omega)) (fun y h=>ht y (by omega)),qA i _ (fun x h=>hp x (by omega)) ht,qA _ j hp (fun y h=>ht y (by omega))];unfold cost;simp_all
def dF(p t:ByteArray)(s i j:Nat):=dT p (t.extract s t.size) i (j-s)
theorem ajD(p t:ByteArray)(s e i:Nat)(KP:s<=e)(het:e<=t.size):dT p (t.extract s e) i (e-s)=dF p t s i e:=by
 refine qA i _ (fun _ _=>rfl) (fun y hy=>?_);rw[iD t s e y het (by omega),iD t s _ y (aq7 _) (by omega)]
theorem Jl(p t:ByteArray)(s e:Nat)(KP:s<=e)(het:e<=t.size):bX p (t.extract s e)=dF p t s p.size e:=by
 have h:(t.extract s e).size=e-s:=by simp_all
 unfold bX;rw[h];exact ajD p t s e _ KP het
theorem n_(p t:ByteArray)(s i:Nat):dF p t s i s=i:=by
 unfold dF;cases i<;>simp[dT]
theorem zv(p t:ByteArray)(s i j:Nat)(hsj:s<=j)(hjt:j<t.size):dF p t s (i+1) (j+1)=min (min (dF p t s i j+cost p t i j) (dF p t s i (j+1)+1)) (dF p t s (i+1) j+1):=by
 unfold dF;rw[show j+1-s=(j-s)+1 by omega,dT];have:cost p (t.extract s t.size) i (j-s)=cost p t i j:=by
  unfold cost;rw[iD t s _ _ (aq7 _) (by omega),show s+(j-s)=j by omega]
 omega
def sT(p t:ByteArray)
 |0,_=>0
 |i+1,0=>i+1
 |i+1,j+1=>min (min (sT p t i j+cost p t i j) (sT p t i (j+1)+1)) (sT p t (i+1) j+1)
theorem FM(p t:ByteArray):∀i j,sT p t i j<=i
 |0,j=>by simp[sT]
 |i+1,0=>by simp[sT]
 |i+1,j+1=>by have:=FM p t i (j+1);rw[sT];omega
theorem Jm(p t:ByteArray):∀i j,j<=t.size->∀s,s<=j->sT p t i j<=dF p t s i j
 |0,j,_,s,_=>by simp[sT]
 |i+1,0,_,s,hs=>by
  have:s=0:=by omega
  subst this;rw[n_];exact FM p t _ _
 |i+1,j+1,hj,s,hs=>by
  rcases arJ j s with h|h
  ·have:s=j+1:=by omega
   subst this;rw[n_];exact FM p t _ _
  ·have h1:=Jm p t i j (by omega) s h;have h2:=Jm p t i (j+1) hj s hs;have h3:=Jm p t (i+1) j (by omega) s h;rw[sT,zv p t s i j h (by omega)];omega
theorem OR(p t:ByteArray):∀i j,j<=t.size->∃s,s<=j/\dF p t s i j=sT p t i j
 |0,j,_=>⟨j,aq7 _,by rw[n_,sT]⟩
 |i+1,0,_=>⟨0,aq7 _,by rw[n_,sT]⟩
 |i+1,j+1,hj=>by
  have key:∃s,s<=j+1/\dF p t s (i+1) (j+1)<=sT p t (i+1) (j+1):=by
   have RX:sT p t (i+1) (j+1)=sT p t i j+cost p t i j\/sT p t (i+1) (j+1)=sT p t i (j+1)+1\/sT p t (i+1) (j+1)=sT p t (i+1) j+1:=by rw[sT];omega
   rcases RX with h|h|h
   ·obtain⟨s,hs,e⟩:=OR p t i j (by omega);exact⟨s,by omega,by rw[zv p t s i j hs (by omega),h];omega⟩
   ·obtain⟨s,hs,e⟩:=OR p t i (j+1) hj;rcases arJ j s with h'|h'
    ·have:s=j+1:=by omega
     subst this;rw[n_]at e;exact⟨j+1,aq7 _,by rw[n_,h];omega⟩
    ·exact⟨s,hs,by rw[zv p t s i j h' (by omega),h];omega⟩
   ·obtain⟨s,hs,e⟩:=OR p t (i+1) j (by omega);exact⟨s,by omega,by rw[zv p t s i j hs (by omega),h];omega⟩
  obtain⟨s,hs,hle⟩:=key;exact⟨s,hs,asH hle (Jm p t (i+1) (j+1) hj s hs)⟩
theorem yF(p t:ByteArray)(k e:Nat):∀c,c<=e+1->
  (∀x,x<c->(bp p t k e c).1<=bX p (t.extract (e-x) e))/\
  ((bp p t k e c).1<=k->∃x,x<c/\(bp p t k e c).2=e-x/\bX p (t.extract (e-x) e)=(bp p t k e c).1/\∀y,y<x->(bp p t k e c).1<bX p (t.extract (e-y) e))
 |0,_=>⟨fun x h=>by omega,fun h=>by simp[bp]at h;omega⟩
 |c+1,hc=>by
  obtain⟨h1,h2⟩:=yF p t k e c (by omega);by_cases h:bX p (t.extract (e-c) e)<(bp p t k e c).1
  ·rw[bp,if_pos h];refine⟨fun x hx=>?_,fun hk=>⟨c,by omega,rfl,rfl,fun y hy=>?_⟩⟩
   ·rcases arJ x c with hxc|hxc
    ·have:=h1 x hxc;omega
    ·have:x=c:=by omega
     simp_all
   ·have:=h1 y hy;omega
  ·rw[bp,if_neg h];refine⟨fun x hx=>?_,fun hk=>?_⟩
   ·rcases arJ x c with hxc|hxc
    ·simp_all
    ·have:x=c:=by omega
     subst this;omega
   ·obtain⟨x,hx,a,b,d⟩:=h2 hk;exact⟨x,by omega,a,b,d⟩
theorem qZ(p t:ByteArray)(k e:Nat)(het:e<=t.size):
  (∀s,s<=e->bX p (t.extract s e)<=k->(best p t k e).1<=bX p (t.extract s e))/\
  ((best p t k e).1<=k->(best p t k e).2<=e/\bX p (t.extract (best p t k e).2 e)=(best p t k e).1/\(∀s,s<=e->(best p t k e).1<=bX p (t.extract s e))/\∀s,(best p t k e).2<s->s<=e->(best p t k e).1<bX p (t.extract s e)):=by
 have ZJ:tries p k e=min e _+1:=rfl;obtain⟨h1,h2⟩:=yF p t k e (tries p k e) (by omega);have hA:=fun s hs hd=>by
  have hl:=Bx p t k s e hs het hd;have:=h1 (e-s) (by omega);rw[show e-(e-s)=s by omega]at this;exact this
 refine⟨hA,fun hk=>?_⟩;obtain⟨x,hx,a,b,d⟩:=h2 hk;refine⟨kW p t k e _,by unfold best;rw[a];exact b,fun s hs=>?_,fun s hs KP=>?_⟩
 ·rcases arJ k (bX p (t.extract s e))with h|h
  ·omega
  ·exact hA s hs h
 ·have Dx:(best p t k e).2=e-x:=a;have:=d (e-s) (by omega);rw[show e-(e-s)=s by omega]at this;exact this
theorem qB(X:ByteArray)(a c s e:Nat)(has:a<=s)(KP:s<=e)(hec:e<=c)(hcX:c<=X.size):(X.extract a c).extract (s-a) (e-a)=X.extract s e:=by
 rw[<-qV];simp only[arK,arR,asa];rw[List.drop_take,List.drop_drop,List.take_take,show a+(s-a)=s by omega];congr 1;omega
theorem MY(p X:ByteArray)(a c s e:Nat)(has:a<=s)(KP:s<=e)(hec:e<=c)(hcX:c<=X.size):sT p (X.extract a c) p.size (e-a)<=bX p (X.extract s e):=by
 have hS:(X.extract a c).size=c-a:=by simp_all
 have:=Jm p (X.extract a c) p.size (e-a) (by omega) (s-a) (by omega);rw[<-Jl p _ _ _ (by omega) (by omega),qB X a c s e has KP hec hcX]at this;omega
theorem MZ(p X:ByteArray)(a c e:Nat)(hae:a<=e)(hec:e<=c)(hcX:c<=X.size):∃s,a<=s/\s<=e/\bX p (X.extract s e)=sT p (X.extract a c) p.size (e-a):=by
 have hS:(X.extract a c).size=c-a:=by simp_all
 obtain⟨s,hs,h⟩:=OR p (X.extract a c) _ (e-a) (by omega);rw[<-Jl p _ s _ hs (by omega)]at h;have:=qB X a c (a+s) e (by omega) (by omega) hec hcX;rw[show a+s-a=s by omega]at this;rw[this]at h;exact⟨a+s,by omega,by omega,h⟩
theorem pC(p X:ByteArray)(k a c e:Nat)(hae:a<=e)(hec:e<=c)(hcX:c<=X.size)(hk:sT p (X.extract a c) p.size (e-a)<=k):(best p X k e).1<=sT p (X.extract a c) p.size (e-a):=by
 obtain⟨s,has,KP,h⟩:=MZ p X a c e hae hec hcX;rw[<-h]at hk⊢;exact(qZ p X k e (by omega)).1 s KP hk
theorem FN(p X:ByteArray)(k st e:Nat)(aA:1<=st)(YR:e<=X.size)(hk:(best p X k e).1<=k):
  (e-(p.size+k))/st *st<=e/\e<=ve p.size X.size k st ((e-(p.size+k))/st)/\sT p (X.extract ((e-(p.size+k))/st *st) (ve p.size X.size k st ((e-(p.size+k))/st))) p.size (e-(e-(p.size+k))/st *st)=(best p X k e).1:=by
 obtain⟨h1,h2,h3,h4⟩:=(qZ p X k e YR).2 hk;have hlen:=Bx p X k _ e h1 YR (by omega);have hb:(e-(p.size+k))/st *st<=e-(p.size+k):=ar8 _ _;have di:e-(p.size+k)<(e-(p.size+k))/st *st+st:=by
  have:=asG (e-(p.size+k)) st;have hm:=Nat.mod_lt (e-(p.size+k)) (show 0<st by omega);rw[asr]at this;omega
 have fq:e<=ve p.size X.size k st ((e-(p.size+k))/st):=by unfold ve;omega
 have BT:ve p.size X.size k st ((e-(p.size+k))/st)<=X.size:=by unfold ve;omega
 refine⟨by omega,fq,?_⟩;have hle:=MY p X _ _ _ e (show(e-(p.size+k))/st *st<=(best p X k e).2 by omega) h1 fq BT;rw[h2]at hle;exact asH hle (pC p X k _ _ e (by omega) fq BT (by omega))
inductive Ed:List UInt8->List UInt8->Nat->Prop
 |nil:Ed [] [] 0
 |sub {x y:List UInt8} {n:Nat} (a b:UInt8):Ed x y n->Ed (x++[a]) (y++[b]) (n+co a b)
 |del {x y:List UInt8} {n:Nat} (a:UInt8):Ed x y n->Ed (x++[a]) y (n+1)
 |ins {x y:List UInt8} {n:Nat} (b:UInt8):Ed x y n->Ed x (y++[b]) (n+1)
theorem Ed.aqA{x y:List _}(a b:UInt8)(h:Ed x y n):Ed (a::x) (b::y) (n+co a b):=by
 induction h with
 |nil=>simpa using Ed.sub a b Ed.nil
 |@sub x y n c d _ ih=>have:=Ed.sub c d ih;rw[show n+co c d+co a b=n+co a b+co c d by omega];exact this
 |@del x y n c _ ih=>have:=Ed.del c ih;rw[show n+1+co a b=n+co a b+1 by omega];exact this
 |@ins x y n d _ ih=>have:=Ed.ins d ih;rw[show n+1+co a b=n+co a b+1 by omega];exact this
theorem Ed.aqB{x y:List _}(a:UInt8)(h:Ed x y n):Ed (a::x) y (n+1):=by
 induction h with
 |nil=>simpa using Ed.del a Ed.nil
 |@sub x y n c d _ ih=>have:=Ed.sub c d ih;rw[show n+co c d+1=n+1+co c d by omega];exact this
 |@del x y n c _ ih=>exact Ed.del c ih
 |@ins x y n d _ ih=>exact Ed.ins d ih
theorem Ed.aqC{x y:List _}(b:UInt8)(h:Ed x y n):Ed x (b::y) (n+1):=by
 induction h with
 |nil=>simpa using Ed.ins b Ed.nil
 |@sub x y n c d _ ih=>have:=Ed.sub c d ih;rw[show n+co c d+1=n+1+co c d by omega];exact this
 |@del x y n c _ ih=>exact Ed.del c ih
 |@ins x y n d _ ih=>exact Ed.ins d ih
theorem Ed.rev{x y:List _}(h:Ed x y n):Ed x.reverse y.reverse n:=by
 induction h with
 |nil=>exact .nil
 |sub a b _ ih=>rw[arS,arS];exact ih.aqA a b
 |del a _ ih=>rw[arS];exact ih.aqB a
 |ins b _ ih=>rw[arS];exact ih.aqC b
theorem iq(s:ByteArray)(i:Nat)(h:i<s.size):s.data.toList.take (i+1)=s.data.toList.take i++[at8 s i]:=by
 rw[List.take_succ_eq_append_getElem _];unfold at8;rw[aq9,aq5 (by simp_all)];rfl
theorem M0(p t:ByteArray)(i:Nat):dT p t i 0=i:=by
 cases i with
 |zero=>rw[dT]
 |succ i=>rw[dT]
theorem Ed.Ea(p t:ByteArray):∀i j,i<=p.size->j<=t.size->Ed (p.data.toList.take i) (t.data.toList.take j) (dT p t i j)
 |0,0,_,_=>by simpa[dT]using Ed.nil
 |0,j+1,hi,hj=>by
  have:=Ed.ins (at8 t j) (Ed.Ea p t 0 j hi (by omega));rw[<-iq t j (by omega)]at this;simpa[dT]using this
 |i+1,0,hi,hj=>by
  have h0:dT p t i 0=i:=M0 p t i;have:=Ed.del (at8 p i) (Ed.Ea p t i 0 (by omega) hj);rw[<-iq p i (by omega),h0]at this;simpa[dT]using this
 |i+1,j+1,hi,hj=>by
  have h1:=Ed.sub (at8 p i) (at8 t j) (Ed.Ea p t i j (by omega) (by omega));have h2:=Ed.del (at8 p i) (Ed.Ea p t i (j+1) (by omega) hj);have h3:=Ed.ins (at8 t j) (Ed.Ea p t (i+1) j hi (by omega));rw[<-iq p i (by omega),<-iq t j (by omega)]at h1;rw[<-iq p i (by omega)]at h2;rw[<-iq t j (by omega)]at h3;have hc:co (at8 p i) (at8 t j)=cost p t i j:=rfl;rw[hc]at h1;rw[dT];rcases asd (dT p t i j+cost p t i j) (dT p t i (j+1)+1)with a|a
  ·rw[ash a];rcases asd (dT p t i j+cost p t i j) (dT p t (i+1) j+1)with b|b
   ·rw[ash b];exact h1
   ·rw[ase b];exact h3
  ·rw[ase a];rcases asd (dT p t i (j+1)+1) (dT p t (i+1) j+1)with b|b
   ·rw[ash b];exact h2
   ·rw[ase b];exact h3
theorem vn{x:List _}(hl:(x++[a]).length<=s.size)(h:x++[a]=s.data.toList.take (x++[a]).length):x.length<s.size/\x=s.data.toList.take x.length/\a=at8 s x.length:=by
 have hx:=by simp at hl;omega
 rw[aq3,arH,iq s _ hx]at h;have:=List.append_inj h (by simp;omega);refine⟨hx,this.1,?_⟩;have h2:=this.2;simpa using h2
theorem Ed.le{x y:List UInt8}(h:Ed x y n)(p t:ByteArray):x.length<=p.size->y.length<=t.size->x=p.data.toList.take x.length->y=t.data.toList.take y.length->dT p t x.length y.length<=n:=by
 induction h with
 |nil=>simp[dT]
 |@sub x y n a b _ ih=>
  intro h1 h2 h3 h4;obtain⟨a1,a2,a3⟩:=vn h1 h3;obtain⟨b1,b2,b3⟩:=vn h2 h4;have:=ih (by omega) (by omega) a2 b2;rw[aq3,aq3,arH,arH,dT,a3,b3];have hc:co _ _=cost p t x.length y.length:=rfl;omega
 |@del x y n a _ ih=>
  intro h1 h2 h3 h4;obtain⟨a1,a2,a3⟩:=vn h1 h3;have:=ih (by omega) h2 a2 h4;rw[aq3,arH];cases hy:y.length with
  |zero=>
   rw[hy]at this;have h0:dT p t _ 0=x.length:=M0 p t _;rw[dT];omega
  |succ j=>rw[hy]at this;rw[dT];omega
 |@ins x y n b _ ih=>
  intro h1 h2 h3 h4;obtain⟨b1,b2,b3⟩:=vn h2 h4;have:=ih h1 (by omega) h3 b2;rw[aq3,arH];cases hx:x.length with
  |zero=>rw[hx]at this;simp[dT]at this⊢;omega
  |succ i=>rw[hx]at this;rw[dT];omega
def rev8(s:ByteArray):=str s.data.toList.reverse
theorem jO(s:ByteArray):(rev8 s).size=s.size:=by unfold rev8;rw[au];simp
theorem q_(s:ByteArray):(rev8 s).data.toList=s.data.toList.reverse:=by simp[rev8,str]
theorem yG(p t:ByteArray):bX (rev8 p) (rev8 t)<=bX p t:=by
 have h:=(Ed.Ea p t _ _ (aq7 _) (aq7 _)).rev;have e1:p.data.toList.take p.size=p.data.toList:=arL (by simp);have e2:t.data.toList.take t.size=t.data.toList:=arL (by simp);rw[e1,e2]at h;have:=h.le (rev8 p) (rev8 t) (by rw[jO];simp) (by rw[jO];simp) (by rw[q_,arL (by simp)]) (by rw[q_,arL (by simp)]);unfold bX;rw[jO,jO];simp_all
theorem Eb(s:ByteArray):rev8 (rev8 s)=s:=by
 simp[rev8,str]
theorem Vq(p t:ByteArray):bX (rev8 p) (rev8 t)=bX p t:=by
 have h1:=yG p t;have h2:=yG (rev8 p) (rev8 t);rw[Eb,Eb]at h2;omega
def Gd(X o:ByteArray)(e:Nat)
 |0=>id
 |c+1=>CJ (Gd X o e c) (c+1) (at8 X (e-(c+1))) o
theorem YS(a b:UInt8):co a b=co b a:=by
 unfold co ag;by_cases h:a=b
 ·simp_all
 ·have h1:(a==b)=false:=by simp_all
  have h2:(b==a)=false:=by simpa using fun e=>h e.symm
  simp_all
theorem OS(X:ByteArray)(e c:Nat)(he:e<=X.size)(hc:c<e):at8 (rev8 (X.extract 0 e)) c=at8 X (e-(c+1)):=by
 unfold at8;rw[q_];have hl:(X.extract 0 e).data.toList.length=e:=by simp;omega
 rw[aq9,asl (by omega),aq9,hl];congr 1;simp only[arK,arR];rw[arc (by omega),ar_];congr 1;omega
theorem FO(X o:ByteArray)(e:Nat)(he:e<=X.size):∀c,c<=e->∀j,Gd X o e c j=dT o (rev8 (X.extract 0 e)) j c
 |0,_,j=>by rw[M0];rfl
 |c+1,hc,0=>by rw[dT];rfl
 |c+1,hc,j+1=>by
  have i1:=FO X o e he c (by omega) j;have i2:=FO X o e he c (by omega) (j+1);have i3:=FO X o e he (c+1) hc j;rw[dT];show min _ (Gd X o e (c+1) j+1)=_
  rw[i1,i2,i3,YS,<-OS X e c he (by omega)];have hc:co _ _=cost o (rev8 (X.extract 0 e)) j c:=rfl;omega
theorem Jn(X P:ByteArray)(e c:Nat)(he:e<=X.size)(hc:c<=e):Gd X (rev8 P) e c P.size=bX P (X.extract (e-c) e):=by
 rw[FO X (rev8 P) e he c hc,<-Vq P (X.extract (e-c) e)];unfold bX;have hs:(rev8 (X.extract (e-c) e)).size=c:=by rw[jO,arG];omega
 rw[jO,hs];refine qA _ _ (fun _ _=>rfl) fun y hy=>?_;rw[OS X e y he (by omega)];unfold at8;rw[q_];have hl:(X.extract (e-c) e).data.toList.length=c:=by simp;omega
 rw[aq9,aq9,asl (by omega),hl];congr 1;simp only[arK,arR];rw[asa];rw[arc (by omega),ar_];congr 1;omega
def oa(p t:ByteArray)(k n:Nat):=(bq p t k n).map (·.2.1)
def cw(p t:ByteArray)(k:Nat):=(gh p t k).map (·.2.1)
theorem xH(p t:ByteArray)(k e:Nat):∀n,e∈oa p t k n↔e<n/\(best p t k e).1<=k
 |0=>by simp[oa,bq]
 |n+1=>by
  have ih:=xH p t k e n;unfold oa at *;rw[bq];split
  ·rw[arD,arC,ih];simp;constructor
   ·rintro(⟨a,b⟩|rfl)
    ·omega
    ·omega
   ·omega
  ·rename_i h;rw[ih];constructor
   ·omega
   ·rintro⟨a,b⟩;by_cases h2:e<n
    ·omega
    ·have:e=n:=by omega
     subst this;omega
theorem Bz(p t:ByteArray)(k:Nat):∀n,(oa p t k n).Pairwise (· < ·)
 |0=>by simp[oa,bq]
 |n+1=>by
  have ih:=Bz p t k n;have hm:=fun e=>xH p t k e n;unfold oa at *;rw[bq];split
  ·rw[arD,asm];simp_all
  ·omega
theorem xI(p t:ByteArray)(k e:Nat):e∈cw p t k↔e<=t.size/\(best p t k e).1<=k:=by
 have:=xH p t k e (t.size+1);unfold oa at this;unfold cw gh;rw[this];omega
theorem M3(p t:ByteArray)(k:Nat):(cw p t k).Pairwise (· < ·):=Bz p t k _
theorem Ec(p t:ByteArray)(k:Nat):∀n,(oa p t k n).length<=n
 |0=>by simp[oa,bq]
 |n+1=>by
  have ih:=Ec p t k n;unfold oa at *;rw[bq];split
  ·simp_all
  ·omega
theorem oc(p t:ByteArray)(k:Nat):(cw p t k).length<=t.size+1:=Ec p t k _
theorem yH(p t:ByteArray)(k e:Nat)(h:e∈cw p t k):e<=t.size/\(best p t k e).1<=k/\(best p t k e).2<=e/\bX p (t.extract (best p t k e).2 e)<=(best p t k e).1/\∀c,c<e-(best p t k e).2->(best p t k e).1<bX p (t.extract (e-c) e):=by
 obtain⟨h1,h2⟩:=(xI p t k e).1 h;obtain⟨b1,b2,b3,b4⟩:=(qZ p t k e h1).2 h2;exact⟨h1,h2,b1,by omega,fun c hc=>b4 _ (by omega) (by omega)⟩
theorem FP{H:Type}{enc:TypeId×Value->H}{C:Checked}{os:Os}{f:FuncId}{fn:Func}{s:ChangeSpec}{conds:List _}{apart:Bool}{X:World->Array _->Prop}(w0:World)(args:Array _)(fuel:Nat)(hos:w0.os=os)
  (ZU:(w0.forCall (fun _ _=>0) ⟨#[],args,[]⟩).Shaped C.prog)
  (ib:Input.okWideB C.prog (w0.forCall (fun _ _=>0) ⟨#[],args,[]⟩) f ⟨#[],args,[]⟩=true)
  (nC:s.preB enc C.prog fn conds apart (w0.forCall (fun _ _=>0) ⟨#[],args,[]⟩).memory args fuel=true)
  (mK:s.sizedB enc C.prog fn apart (w0.forCall (fun _ _=>0) ⟨#[],args,[]⟩).memory args fuel=true)
  (hx:X (w0.forCall (fun _ _=>0) ⟨#[],args,[]⟩).memory args):
  ∃(w:World) (tape:Tape) (i:Input),w.os=os/\(w.forCall tape i).Shaped C.prog/\i.vars=[]/\Input.okWide C.prog (w.forCall tape i) .any w.heap.size f i/\
   ((s.pre enc C.prog fn conds apart (w.forCall tape i).memory i.args/\X (w.forCall tape i).memory i.args)/\sizedMet enc C.prog fn (OpenSpec.ofChange s) apart (w.forCall tape i).memory i.args)/\
   ({calm:=true}:Assume).holds C.prog (lone (asj C.prog f i.args .normal) [] (w.forCall tape i)):=by
 have h:=Input.okWide_of_okWideB (base:=w0.heap.size) ib;refine⟨w0,fun _ _=>0,⟨#[],args,[]⟩,hos,ZU,h.1,h.2,⟨⟨ChangeSpec.pre_of_preB nC,hx⟩,sizedMet_of_sizedB mK⟩,?_⟩;exact⟨by simp,fun _ _ _ _=>rfl,by simp,by simp,by simp⟩
theorem QY{p:Pinned}{s:OpenSpec}{c:OpenClaim}(kinds:List _)(Vr:Bool)(har:Bool×String)(lk:Bool)
  (hc:c.holds p s)(hw:c.wfByText s=true)(aqE:c.laidByTextAt .later p kinds Vr)
  (aA:c.start=.entering)(Uu:c.noBlocks=false/\c.again=false)(hm:p.checked.prog.mainIs=some (har.1,har.2.toList))(hn:(!har.1&&har.2.isEmpty&&!lk)=false)
  (hl:∀f fn,p.checked.prog.funcNamed c.func=some f->p.checked.prog.funcs[f]?=some fn->lk=p.checked.prog.looks []/\∀(j:Nat) t,fn.params[j]?=some t->p.checked.prog.wantsStandIn t=false)
  (hg:true=c.goesBy p.checked.prog):
  Claim7.holds p (.plain s) {stood:={row:=c,standIns:=[],harness:=har,looks:=lk},kinds:=[],alts:=[],goes:=true,laidByText:=true,laidKinds:=kinds,laidTests:=Vr,laidLooks:=.later}:=by
 have h6:Claim7.isSixth {stood:={row:=c,standIns:=[],harness:=har,looks:=lk},kinds:=[]}=false:=by simpa[Claim7.isSixth]using hn
 exact⟨Claim7.tied_new_at .later kinds Vr (Claim7.new_of_sixth hc har lk aA Uu hm h6 hl) hw,(fun _ h=>by cases h),aqE,(fun h=>by cases h),hg⟩
end
section
open RowKit
def M4(w:World)(p:Nat)(e d:Nat):Prop:=w.heap[p]?=some (.cells #[.int .i64 (e:Int),.int .i64 (d:Int)] 173 (0,0))
theorem M4.c0{p:Nat}(h:M4 w p e d):w.cell? ⟨p,0,none⟩=some (.int .i64 e):=by rw[cell_of_row w p 0 _ _ _ h];rfl
theorem M4.c1{p:Nat}(h:M4 w p e d):w.cell? ⟨p,1,none⟩=some (.int .i64 d):=by rw[cell_of_row w p 1 _ _ _ h];rfl
theorem M4.below{p:Nat}(h:M4 w p e d)(hb:Below B w w')(aV:p<B):M4 w' p e d:=by unfold M4 at *;rw[hb.block p aV];exact h
theorem M4.drewN{p:Nat}(h:M4 w p e d)(k:Nat):M4 (w.drewN k) p e d:=h
theorem dM.drewN{G:Nat}(h:dM w G g n)(k:Nat):dM (w.drewN k) G g n:=h
theorem Vs(X o:ByteArray)(e:Nat):∀c j,Gd X o e c j<=c+j
 |0,j=>by simp[Gd]
 |c+1,j=>Ek _ _ _ _ j
theorem QZ(s:ByteArray):str (dh s)=rev8 s:=by unfold rev8;rw[vf]
theorem Jo(X P:ByteArray)(e d c0:Nat)(w:World)(hX:X.size<=200)(hP:P.size<=100)(he:e<=X.size)(hd:d<=1000)(hc:c0<=e)(h1:bX P (X.extract (e-c0) e)<=d)(h2:∀c,c<c0->d<bX P (X.extract (e-c) e)):
  Calls aq1 125 #[.string X,.string P,.agg #[.int .i64 (e:Int),.int .i64 (d:Int)]] w fun r w'=>r=.returned (.int .i64 ((e-c0:Nat):Int))/\Below w.heap.size w w':=by
 have HA:Hid (Gd X (rev8 P) e c0 P.size<=d):=laid (by rw[Jn X P e c0 he hc];exact h1);have HB:Hid (∀c,c<c0->d<Gd X (rev8 P) e c P.size):=laid fun c F9=>by rw[Jn X P e c he (by omega)];exact h2 c F9
 clear h1 h2;have hRs:(rev8 P).size=P.size:=jO P;have hBK:Hid (∀W:World,Calls aq1 129 #[.string P] W fun e w'=>e=.returned (.string (rev8 P))/\Below W.heap.size W w'):=laid fun W=>by
  have:=rQ P W (by omega);rw[QZ]at this;exact this
 generalize rev8 P=R at *;have hw0:M4 (w.alloc (.cells #[.int .i64 (e:Int),.int .i64 (d:Int)] 173)) w.heap.size e d:=heap_alloc_new w _;have ajE:∀o,Below w.heap.size w (w.alloc o):=fun o=>(ara _ _).alloc (aq7 _) o;have OI:=laid (fun W:World=>nj R.size W (by omega));rw[<-hRs]at HA HB hP;clear hRs;have HW0:=laid hw0;clear hw0
 go_enter Tryz.func125,Tryz.ntmps125
 go_wp2_with fail
 refine(hBK.out _).mono ?_;rintro e1 w1 ⟨rfl,cn⟩;have rE:=HW0.out.below cn (by simp);have Cu:Below w.heap.size w w1:=(ajE _).trans (cn.mono (by simp));clear cn HW0 hBK;go_wp2_with fail
 refine(OI.out _).mono ?_;rintro e2 w2 ⟨rfl,vG,di⟩;have Zz:w.heap.size<w1.heap.size:=by have:=rE.c0;exact block_lt_of_cell this
 have tY:=rE.below di Zz;have vg:Below w.heap.size w w2:=Cu.trans (di.mono Cu.size);clear di OI rE Cu ajE;have d0:=tY.c0;have HF2:=laid tY;have BW:=laid vG;clear tY vG;generalize w1.heap.size=H1 at *;go_wp2
 go_loopw [8,9] (fun lv sv wr=>∃c G:Nat,sv=.int .i64 ((e:Int)-(c:Int))/\lv=.slice (some ⟨G,0,none⟩) (R.size+1) (R.size+1)/\c<=c0/\dM wr G (Gd X R e c) (R.size+1)/\M4 wr w.heap.size e d/\Below w.heap.size w wr) (fun _ sv _=>(intOf sv).toNat)
 case atStart=>exact⟨0,H1,by simp,rfl,arI _,BW.out,HF2.out,vg⟩
 case round=>
  obtain⟨c,G,rfl,rfl,F9,CK,YT,aH⟩:=hrel;clear BW HF2 vg d0;have c0':=YT.c0;have ZN:=YT.c1;have hln:=CK.cell R.size (by omega);have hll:=Vs X R e c R.size;by_cases aV:c<c0
  ·have hgt:(d:Int)<(Gd X R e c R.size:Int):=by have:=HB.out c aV;omega
   obtain⟨m,hm⟩:∃m:Nat,m=e-(c+1):=⟨_,rfl⟩;have ajF:arb.wrap ((e:Int)-(c:Int)-1)=(m:Int):=by rw[show(e:Int)-(c:Int)-1=(m:Int) by omega];exact aq_ _ (by omega)
   have atN:arb.wrap ((e:Int)-(m:Int))=(c:Int)+1:=by rw[show(e:Int)-(m:Int)=(c:Int)+1 by omega];exact aq_ _ (by omega)
   have hmX:m<X.size:=by omega
   have tt:=cZ X m hmX;have b1:(m:Int)<(X.size:Int):=by omega
   have b2:(0:Int)<=(m:Int):=ass _;have HNX:Hid (∀W:World,dM W G (Gd X R e c) (R.size+1)->Calls aq1 145 #[.slice (some ⟨G,0,none⟩) (R.size+1) (R.size+1),.int .i64 ((c:Int)+1),.int .u8 ((at8 X m).toNat:Int),.string R] W fun e' w'=>e'=.returned (.slice (some ⟨W.heap.size,0,none⟩) (R.size+1) (R.size+1))/\dM w' W.heap.size (Gd X R e (c+1)) (R.size+1)/\Below W.heap.size W w'):=laid fun W hW=>by
    have:=oq (Gd X R e c) (c+1) (at8 X m) R G W (by omega) (by omega) (fun j hj=>by have:=Vs X R e c j;omega) hW;have e1:Gd X R e (c+1)=CJ (Gd X R e c) (c+1) (at8 X m) R:=by rw[hm];rfl
    rw[e1];rw[show((c+1:Nat):Int)=(c:Int)+1 by omega]at this;exact this
   have HL:=laid CK;have HFN:=laid YT;have HM:=laid hm;clear CK YT hm;generalize Gd X R e c R.size=LV at *;have hpw:w.heap.size<wr.heap.size:=block_lt_of_cell c0';go_wp2_with fail
   go_quiet(fail)
   go_wp2_with fail
   go_region_held3 (fun w'=>w'.cell? ⟨w.heap.size,0,none⟩=some (.int .i64 (e:Int)))
    (first|go_keep|(rw[dk.cell (by first|exact hpw|(simp;omega))];assumption))
    (first|(go_at_call 145;refine(HNX.out _ (HL.out.drewN _)).mono ?_;rintro e' w' ⟨rfl,V2,dk⟩))
   have aM:Below w.heap.size w w':=(Go.below_drewN aH _).trans (dk.mono aH.size);have hfz:=M4.below (w:=wr.drewN _) (HFN.out.drewN _) dk hpw;clear dk HNX HL HFN hln hgt hll tt;go_wp2
   go_roundw
   case rel=>go_light;exact⟨c+1,_,by have:=HM.out;congr 1;omega,rfl,by omega,V2,hfz,aM⟩
   case measure=>go_light;have:=HM.out;simp[intOf];omega
  ·have RV:c=c0:=by omega
   have hle:¬((d:Int)<(Gd X R e c R.size:Int)):=by have:=HA.out;rw[RV];omega
   have HC:Hid ((e:Int)-(c:Int)=((e-c0:Nat):Int)):=laid (by omega);generalize Gd X R e c R.size=LV at *;clear RV;go_wp2_with fail
   go_quiet(fail)
   go_wp2
   go_ret
   exact⟨jQ HC.out,Go.below_drewN aH _⟩
theorem YU(p t:ByteArray)(i:Nat):CJ (dT p t i) (i+1) (at8 p i) t=dT p t (i+1):=by
 funext j;induction j with
 |zero=>rw[CJ,dT]
 |succ j ih=>rw[CJ,ih,dT];rfl
theorem Vt(p t:ByteArray):(id:Nat->Nat)=dT p t 0:=by
 funext j;rw[dT];rfl
theorem Vu{wr wz:World}{g' G GG:Nat}(nK:kQ wr B p t (.slice (some ⟨G,0,none⟩) (i+1) cap) (i+1) g)(hB:B<=wr.heap.size)(dk:Below wr.drew.heap.size wr.drew w')(V2:dM w' wr.heap.size (dT p t (i+1)) (t.size+1))
  (aD:(w'.alloc o).grownBy wz (some G))(aW:wz.ownsRow B 25 1 (.slice (some ⟨g',0,none⟩) (i+1+1) GG) (i+1+1) ((arU (i+1)).map (sv t g)++[.slice (some ⟨wr.heap.size,0,none⟩) (t.size+1) (t.size+1)])):
  kQ wz B p t (.slice (some ⟨g',0,none⟩) (i+1+1) GG) (i+1+1) (fun x=>if x<i+1 then g x else wr.heap.size):=by
 have h1:wr.drew.ownsRow B 25 1 _ (i+1) _:=nK.own;have h2:=mE h1 dk;have GD:∀(k:Nat) (c:Array Value),w'.heap[k]?=some (.cells c 3 (0,0))->wz.heap[k]?=some (.cells c 3 (0,0)):=fun k c hk=>by
  have hl:k<w'.heap.size:=by
   rcases arJ k w'.heap.size with h'|h'
   ·exact h'
   ·simp_all
  rw[aD.block k (by simp;omega) (fun e=>Lib.ownBlock_ne h2 hk (by decide) e.symm),heap_alloc_old w' _ hl];exact hk
 refine⟨?_,fun x hx=>?_,fun x hx=>?_⟩
 ·have e1:(arU (i+1+1)).map (sv t fun x=>if x<i+1 then g x else wr.heap.size)=(arU (i+1)).map (sv t g)++[.slice (some ⟨wr.heap.size,0,none⟩) (t.size+1) (t.size+1)]:=by
   rw[asg,arD];congr 1
   ·apply List.map_congr_left;intro x hx;rw[List.mem_range]at hx;simp[sv,hx]
   ·simp[sv]
  rw[e1];exact aW
 ·by_cases KJ:x<i+1
  ·simp only[KJ,if_true];have hr:=nK.rows x KJ;have hl:=hr.lt;refine GD _ _ ?_;rw[dk.block (g x) hl];exact hr
  ·have oB:x=i+1:=by omega
   subst oB;simp only[KJ,if_false];exact GD _ _ V2
 ·by_cases KJ:x<i+1
  ·simp only[KJ,if_true];exact nK.base x KJ
  ·simp only[KJ,if_false];exact hB
theorem CA(p t:ByteArray)(w:World)(hp:p.size<=100)(ht:t.size<=300):
  Calls aq1 146 #[.string p,.string t] w fun e w'=>∃v g,e=.returned v/\kQ w' w.heap.size p t v (p.size+1) g/\Below w.heap.size w w':=by
 obtain⟨i0,hi,nJ,kK,iI⟩:=info_parts Nv;have OI:=laid (fun W:World=>nj t.size W ht)
 go_enter Tryz.func146,Tryz.ntmps146
 go_wp2_with fail
 refine(OI.out _).mono ?_;rintro e1 w1 ⟨rfl,ns,cn⟩;have ajH:Hid (kQ (w1.alloc (.cells #[.slice (some ⟨w.heap.size,0,none⟩) (t.size+1) (t.size+1)] 25)) w.heap.size p t (.slice (some ⟨w1.heap.size,0,none⟩) 1 1) 1 (fun _=>w.heap.size)):=laid (by
  have hl:=ns.lt;refine⟨⟨rfl,.inr ⟨w1.heap.size,1,_,rfl,cn.size,heap_alloc_new w1 _,aq7 _,by unfold maxLen;omega,rfl,rfl⟩⟩,fun x hx=>?_,fun x hx=>aq7 _⟩;have:x=0:=by omega
  subst this;unfold pT;rw[heap_alloc_old w1 _ hl];have:=ns;rw[Vt p t]at this;exact this)
 have Cu:Below w.heap.size w (w1.alloc (.cells #[.slice (some ⟨w.heap.size,0,none⟩) (t.size+1) (t.size+1)] 25)):=cn.alloc cn.size _;clear ns cn OI;go_wp2
 go_loopw [5,13] (fun v iv wr=>∃(i:Nat) (g:Nat->Nat),iv=.int .i64 (i:Int)/\i<=p.size/\kQ wr w.heap.size p t v (i+1) g/\Below w.heap.size w wr) (fun _ iv _=>p.size-(intOf iv).toNat)
 case atStart=>exact⟨0,_,rfl,arI _,ajH.out,Cu⟩
 case round=>
  obtain⟨i,g,rfl,hip,nK,aH⟩:=hrel;clear ajH Cu;by_cases aV:i<p.size
  ·obtain⟨G,cap,rfl,Sb,hG⟩:=nK.get (by omega);have hGi:=hG i (by omega);have hpa:=cZ p i aV;have b1:(i:Int)<(p.size:Int):=by omega
   have b2:(0:Int)<=(i:Int):=ass _;have b3:(i:Int)<(i:Int)+1:=by omega
   have x1:arb.wrap ((i:Int)+1)=(i:Int)+1:=aq_ _ (by omega);have Kf:=nK.rows i (by omega);have hGb:w.heap.size<=G:=by
    rcases nK.own.2 with⟨h0,_⟩|⟨g1,aze,azf,h0,h1,_⟩
    ·cases h0
    ·cases h0;exact h1
   have HNX:=laid fun W hW=>by
    have:=oq (dT p t i) (i+1) (at8 p i) t (g i) W ht (by omega) (fun j hj=>by have:=o_ p t i j;omega) hW;rw[YU]at this;rw[show((i+1:Nat):Int)=(i:Int)+1 by omega]at this;exact this
   have HL:Hid (dM wr (g i) (dT p t i) (t.size+1)):=laid Kf;have ZI:=laid nK;have HOW:Hid (∀(W:World),Below wr.drew.heap.size wr.drew W->∀o:Obj,(W.alloc o).ownsRow w.heap.size 25 1 (.slice (some ⟨G,0,none⟩) (i+1) cap) (i+1) ((arU (i+1)).map (sv t g))):=laid fun W hW o=>by
    have h1:wr.drew.ownsRow w.heap.size 25 1 (.slice (some ⟨G,0,none⟩) (i+1) cap) (i+1) ((arU (i+1)).map (sv t g)):=nK.own;exact(mE h1 hW).alloc _
   have HBS:Hid (∀(W:World),Below wr.drew.heap.size wr.drew W->∀o:Obj,w.heap.size<=(W.alloc o).heap.size):=laid fun W hW o=>by have h1:=aH.size;have h2:=hW.size;simp at h2⊢;omega
   clear nK Kf hG;go_wp2_with fail
   go_region_law
    (first
     |(go_simp;go_at_call 145;refine(HNX.out wr.drew HL.out).mono ?_;rintro e' w' ⟨rfl,V2,dk⟩)
     |(refine step_append_lies _ rfl _ _ 162 rfl w.heap.size 25 i0 (.slice none 0 0) 1 24 Tryz.underlying162 hi nJ kK iI rfl (by decide) _ (i+1) _ rfl (HOW.out w' dk _) ⟨w'.heap.size,0,none⟩ 1 1 [.slice (some ⟨wr.heap.size,0,none⟩) (t.size+1) (t.size+1)] rfl rfl (ar7 (heap_alloc_new w' _)) (fun u hu=>by simp at hu;subst hu;rfl) (by omega) (by unfold maxLen;omega) (by omega) (HBS.out w' dk _) _ rfl ?_;intro g' GG wz aW aD tt WN))
   all_goals
    have htz:=Vu ZI.out aH.size dk V2 aD aW;have gV:Below w.heap.size w wz:=((Go.below_drewN aH 1).trans (dk.mono aH.size)).trans (Below.grown (ara _ _|>.alloc (by have:=dk.size;have:=aH.size;simp at *;omega) _) aD (by have:=dk.size;have:=aH.size;simp at *;omega) (fun k e=>by cases e;exact hGb));clear HNX HL ZI HOW HBS V2 dk aW aD tt hGi hpa;go_wp2
    go_roundw
    case rel=>go_light;exact⟨i+1,_,by go_num,by omega,htz,gV⟩
    case measure=>go_light;simp[intOf];omega
  ·have RV:i=p.size:=by omega
   have HE:Hid (kQ wr w.heap.size p t u5 (p.size+1) g):=laid (by rw[<-RV];exact nK);clear RV nK;go_wp2
   go_ret
   exact⟨u5,g,rfl,HE.out,aH⟩
def letter(p t:ByteArray)(i j:Nat):UInt8:=if B6 p t i j=true then 77 else if CR p t i j=true then 73 else 68
theorem FQ(p t:ByteArray)(B:Nat)(v:Value)(g:Nat->Nat)(i j:Nat)(w:World)(hp:p.size<=100)(ht:t.size<=300)(hi:i<=p.size)(hj:j<=t.size)(nK:kQ w B p t v (p.size+1) g):
  Calls aq1 147 #[v,.string p,.string t,.int .i64 (i:Int),.int .i64 (j:Int)] w fun e w'=>e=.returned (.int .u8 ((letter p t i j).toNat:Int))/\∃d,w'=w.drewN d:=by
 obtain⟨G,cap,rfl,Sb,hG⟩:=nK.get (by omega);have HG:=laid hG;have HR:=laid (fun i hi j hj=>(nK.rows i hi).cell j hj);clear nK hG;by_cases tG:i=0
 ·have HL:Hid (letter p t i j=68):=laid (by unfold letter B6 CR;rw[tG];rfl);have te:decide ((0:Int)<(i:Int))=false:=by simp;omega
  have hn1:¬(0:Int)<(i:Int):=by omega
  clear HG HR
  go_enter ar6,ar1
  go_wp2_with fail
  go_quiet(fail)
  go_wp2_with fail
  go_quiet(fail)
  rw[arX];go_wp2
  go_ret
  exact⟨by rw[HL.out];rfl,_,rfl⟩
 ·obtain⟨a,Nw⟩:∃a,i=a+1:=⟨i-1,by omega⟩;have ry:(0:Int)<(i:Int):=by omega
  have WB:0<i:=by omega
  have hi3:decide (0<i)=true:=decide_eq_true WB;have hi4:decide ((0:Int)<(i:Int))=true:=decide_eq_true ry;have hGi:=HG.out i (by omega);have hGa:=HG.out a (by omega);have r1:=HR.out i (by omega) j (by omega);have r3:=HR.out a (by omega) j (by omega);have b1:(0:Int)<=(i:Int):=by omega
  have b2:(i:Int)<(p.size:Int)+1:=by omega
  have b3:(0:Int)<=(a:Int):=by omega
  have b4:(a:Int)<(p.size:Int)+1:=by omega
  have b5:(0:Int)<=(j:Int):=by omega
  have b6:(j:Int)<(t.size:Int)+1:=by omega
  have Ku:arb.wrap ((i:Int)-1)=(a:Int):=by rw[show(i:Int)-1=(a:Int) by omega];exact aq_ _ (by omega)
  have hX:dT p t i j<=1000:=by have:=o_ p t i j;omega
  have hZ:dT p t a j<=1000:=by have:=o_ p t a j;omega
  have z1:arb.wrap ((dT p t a j:Int)+1)=(dT p t a j:Int)+1:=aq_ _ (by omega);have CS:Hid (CR p t i j=decide (dT p t i j=dT p t a j+1)):=laid (by unfold CR;rw[Nw];simp);by_cases F3:j=0
  ·have F2:decide ((0:Int)<(j:Int))=false:=by simp;omega
   have HI:Hid (CR p t i j=true):=laid (by rw[F3];exact Ey p t i (by omega));have HL:Hid (letter p t i j=73):=laid (by unfold letter;rw[HI.out];unfold B6;rw[F3];simp);have hxz:((dT p t i j:Int)==(dT p t a j:Int)+1)=true:=by
    have h1:=HI.out;rw[CS.out]at h1;have:=of_decide_eq_true h1;simp;omega
   have hj9:¬(0:Int)<(j:Int):=by omega
   have hj8:¬0<j:=by omega
   have hj7:decide (0<j)=false:=decide_eq_false hj8;clear HI CS Nw F3 tG;generalize dT p t i j=X at *;generalize dT p t a j=Z at *
   go_enter ar6,ar1
   go_wp2_with fail
   go_quiet(fail)
   go_wp2_with fail
   go_quiet(fail)
   rw[arX];go_wp2
   go_ret
   exact⟨by rw[HL.out];rfl,_,rfl⟩
  ·obtain⟨b,V3⟩:∃b,j=b+1:=⟨j-1,by omega⟩;have KN:(0:Int)<(j:Int):=by omega
   have F_:0<j:=by omega
   have hj3:decide (0<j)=true:=decide_eq_true F_;have hj4:decide ((0:Int)<(j:Int))=true:=decide_eq_true KN;have r2:=HR.out a (by omega) b (by omega);have b7:(0:Int)<=(b:Int):=by omega
   have b8:(b:Int)<(t.size:Int)+1:=by omega
   have ha1:(a:Int)<(p.size:Int):=by omega
   have cn:(b:Int)<(t.size:Int):=by omega
   have hap:a<p.size:=by omega
   have hbt:b<t.size:=by omega
   have hpa:=cZ p a hap;have htb:=cZ t b hbt;have nP:arb.wrap ((j:Int)-1)=(b:Int):=by rw[show(j:Int)-1=(b:Int) by omega];exact aq_ _ (by omega)
   have hY:dT p t a b<=1000:=by have:=o_ p t a b;omega
   have Zw:=Zv (at8 p a) (at8 t b)
   have Si:Hid (B6 p t i j=decide (dT p t i j=dT p t a b+co (at8 p a) (at8 t b))):=laid (by unfold B6;rw[Nw,V3];simp[cost,co];rfl);have HCA:=laid (fun W:World=>Gn (at8 p a) (at8 t b) W);have y1:arb.wrap ((dT p t a b:Int)+(co (at8 p a) (at8 t b):Int))=(dT p t a b:Int)+(co (at8 p a) (at8 t b):Int):=aq_ _ (by omega);clear Nw V3 tG F3;generalize dT p t i j=X at *;generalize dT p t a j=Z at *;generalize dT p t a b=Y at *;generalize co (at8 p a) (at8 t b)=C at *;by_cases hM:X=Y+C
   ·have HL:Hid (letter p t i j=77):=laid (by unfold letter;rw[Si.out,decide_eq_true hM];rfl);have CU:((X:Int)==(Y:Int)+(C:Int))=true:=by simp;omega
    clear Si CS hM
    go_enter ar6,ar1
    go_wp2_with fail
    go_quiet((go_at_call 165;refine(HCA.out _).mono ?_;rintro e lF ⟨rfl,rfl⟩;exact⟨rfl,_,rfl⟩))
    go_wp2
    go_ret
    exact⟨by rw[HL.out];rfl,_,rfl⟩
   ·have CU:((X:Int)==(Y:Int)+(C:Int))=false:=by simp;omega
    by_cases hI:X=Z+1
    ·have HL:Hid (letter p t i j=73):=laid (by unfold letter;rw[Si.out,decide_eq_false hM,CS.out,decide_eq_true hI];rfl);have hxz:((X:Int)==(Z:Int)+1)=true:=by simp;omega
     clear Si CS hM hI
     go_enter ar6,ar1
     go_wp2_with fail
     go_quiet((go_at_call 165;refine(HCA.out _).mono ?_;rintro e lF ⟨rfl,rfl⟩;exact⟨rfl,_,rfl⟩))
     go_wp2_with fail
     go_quiet(fail)
     rw[arX];go_wp2
     go_ret
     exact⟨by rw[HL.out];rfl,_,rfl⟩
    ·have HL:Hid (letter p t i j=68):=laid (by unfold letter;rw[Si.out,decide_eq_false hM,CS.out,decide_eq_false hI];rfl);have hxz:((X:Int)==(Z:Int)+1)=false:=by simp;omega
     clear Si CS hM hI
     go_enter ar6,ar1
     go_wp2_with fail
     go_quiet((go_at_call 165;refine(HCA.out _).mono ?_;rintro e lF ⟨rfl,rfl⟩;exact⟨rfl,_,rfl⟩))
     go_wp2_with fail
     go_quiet(fail)
     rw[arX];go_wp2
     go_ret
     exact⟨by rw[HL.out];rfl,_,rfl⟩
theorem kQ.below{v:Value}(h:kQ w B p t v n g)(hb:Below w.heap.size w w'):kQ w' B p t v n g:=by
 refine⟨mE h.own hb,fun x hx=>?_,h.base⟩;have hr:=h.rows x hx;have hl:=hr.lt;unfold pT at *;rw[hb.block _ hl];exact hr
theorem adV:(aq1.info? 5).map (fun i=>(i.zero,i.size,i.bytes))=some (some (.int .u8 0),1,1):=by kernel_rfl
theorem Jp{L:List _}(h0:¬(i=0/\j=0))(h:d_ p t (i+j) i j++L.reverse=ck p t):
  (letter p t i j=77/\0<i/\0<j/\d_ p t (i-1+(j-1)) (i-1) (j-1)++(L++[77]).reverse=ck p t)\/
  (letter p t i j=73/\0<i/\d_ p t (i-1+j) (i-1) j++(L++[73]).reverse=ck p t)\/
  (letter p t i j=68/\0<j/\d_ p t (i+(j-1)) i (j-1)++(L++[68]).reverse=ck p t):=by
 simp;unfold letter;by_cases hM:B6 p t i j=true
 ·have:=ze hM;exact .inl ⟨if_pos hM,this.1,this.2.1,KM hM h⟩
 ·rw[ar4]at hM;by_cases hI:CR p t i j=true
  ·exact .inr (.inl ⟨by simp_all,(zf hI).1,Ez hM hI h⟩)
  ·rw[ar4]at hI;exact .inr (.inr ⟨by simp_all,tJ hI h0,EB h0 hM hI h⟩)
theorem Q0{C:Array _}{L:List _}{g:Nat}(ado:L.length<=cap)(hC:C.size=cap *1)(hc:C.toList.take (L.length *1)=L.map bv)(h2:w.heap[g]?=some (.cells (OH C L.length L.length) 5 (0,0))):
  ∀j hj,w.cell? ((⟨g,0,none⟩:Addr).add j)=some (.int .u8 (L.reverse[j].toNat)):=by
 intro j hj;have F_:=by simpa using hj
 rw[iM,cell_of_row w g j _ _ _ h2,oU C _ _ j (by omega),if_pos ⟨F_,.inl F_⟩];have hx:L.length-1-j<C.size:=by omega
 have e1:C.toList[L.length-1-j]?=(L.map bv)[L.length-1-j]?:=by
  rw[<-hc,ar9,if_pos (by omega)]
 rw[arV,aq5 (by omega:L.length-1-j<L.length),aq5 (by omega)]at e1;have e2:=asi e1;rw[Array.getD,dif_pos hx];have e3:=by simpa using e2
 show some (C[L.length-1-j])=_
 rw[e3,List.getElem_reverse];rfl
theorem Q3(p t:ByteArray)(w:World)(hp:p.size<=100)(Zz:1<=p.size)(ht:t.size<=300):
  Calls aq1 126 #[.string p,.string t] w fun e w'=>e=.returned (.string (str (ck p t)))/\Below w.heap.size w w':=by
 obtain⟨i0,hi,nJ,kK,iI⟩:=info_parts adV
 go_enter Tryz.func126,Tryz.ntmps126
 go_wp2_with fail
 refine(CA p t _ hp ht).mono ?_;rintro e w1 ⟨v,g,rfl,nK,Kd⟩;have ZI:=laid nK;clear nK;go_wp2
 go_loopw [6,7,8] (fun sv iv jv wr=>∃(i j:Nat) (L:List UInt8),iv=.int .i64 (i:Int)/\jv=.int .i64 (j:Int)/\i<=p.size/\j<=t.size/\L.length+i+j<=p.size+t.size/\p.size<=i+L.length/\Hid (d_ p t (i+j) i j++L.reverse=ck p t)/\wr.ownsRow w1.heap.size 5 1 sv L.length (L.map bv)/\Below w1.heap.size w1 wr) (fun _ iv jv _=>(intOf iv).toNat+(intOf jv).toNat)
 case atStart=>exact⟨p.size,t.size,[],rfl,rfl,aq7 _,aq7 _,by simp,by simp,laid (by simp[ck]),asx _ _ _ _,ara _ _⟩
 case round=>
  obtain⟨i,j,L,rfl,rfl,hip,hjt,hlen,BL,HL,aJ,aH⟩:=hrel;by_cases h0:i=0/\j=0
  ·obtain⟨rfl,rfl⟩:=h0;have HF:Hid (L.reverse=ck p t):=laid (by rw[<-HL.out];rfl);rcases aJ.2 with⟨_,h1⟩|⟨G,cap,cur,rfl,hG1,hG2,hG3,hG4,hG5,hG6⟩
   ·omega
   ·have HC:=laid (⟨hG3,hG5,hG6⟩:L.length<=cap/\cur.size=cap *1/\cur.toList.take (L.length *1)=L.map bv);have HRV:=laid (yx cur G L.length cap (0,0) wr (by omega) (by omega) (fun k hk=>by simp) (fun x hx=>by
     refine⟨((L.getD x 0).toNat:Int),?_⟩;have oB:x<cur.size:=by omega
     have e1:cur.toList[x]?=(L.map bv)[x]?:=by rw[<-hG6,ar9,if_pos (by omega)]
     rw[arV,aq5 hx,aq5 (by simpa using oB)]at e1;have e2:=asi e1;rw[Array.getD,dif_pos oB];show cur[x]=_
     have e3:cur[x]=bv (L[x]):=by simpa using e2
     rw[e3,aq9,aq5 hx];rfl) hG2)
    have HB:=laid (Kd.trans (aH.mono Kd.size));have HW:=laid Kd.size;clear HL ZI aJ hG2 hG3 hG5 hG6 Kd;go_wp2_with fail
    refine HRV.out.mono ?_;rintro e w2 ⟨⟨v2,rfl⟩,h2,fS⟩;have aaG:(convert 79 9 (.slice (some ⟨G,0,none⟩) L.length cap)).run aq1 w2=.ok (.string (str L.reverse)) w2:=by
     have:=run_convert_bytes_back (P:=aq1) w2 79 9 5 ⟨G,0,none⟩ cap L.reverse arE Tryz.underlying5 asz (Q0 HC.out.1 HC.out.2.1 HC.out.2.2 h2);rw[List.length_reverse]at this;exact this
    rw[HF.out]at aaG;have Wx:Hid (Below w.heap.size w w2):=laid (HB.out.grown fS HB.out.size (fun k e=>by cases e;have:=HW.out;omega));clear HRV fS h2 HC HF HB;go_wp2
    go_ret
    exact⟨rfl,Wx.out⟩
  ·have nK:=ZI.out.below aH;have Vd:=laid (FQ p t w.heap.size v g i j wr hp ht hip hjt nK);have KJ:arb.wrap ((i:Int)-1)=(i:Int)-1:=aq_ _ (by omega);have hxj:arb.wrap ((j:Int)-1)=(j:Int)-1:=aq_ _ (by omega);have key:=Jp h0 HL.out;have aqH:(letter p t i j=77/\0<i/\0<j/\Hid (d_ p t (i-1+(j-1)) (i-1) (j-1)++(L++[77]).reverse=ck p t))\/(letter p t i j=73/\0<i/\Hid (d_ p t (i-1+j) (i-1) j++(L++[73]).reverse=ck p t))\/(letter p t i j=68/\0<i/\0<j/\Hid (d_ p t (i+(j-1)) i (j-1)++(L++[68]).reverse=ck p t))\/(letter p t i j=68/\i=0/\0<j/\Hid (d_ p t (i+(j-1)) i (j-1)++(L++[68]).reverse=ck p t)):=by
    rcases key with h|h|h
    ·exact .inl h
    ·exact .inr (.inl h)
    ·by_cases hi9:0<i
     ·exact .inr (.inr (.inl ⟨h.1,hi9,h.2.1,h.2.2⟩))
     ·exact .inr (.inr (.inr ⟨h.1,by omega,h.2.1,h.2.2⟩))
   clear HL key ZI nK h0;rcases aqH with⟨hl,ry,KN,HN⟩|⟨hl,ry,HN⟩|⟨hl,ry,KN,HN⟩|⟨hl,ry,KN,HN⟩
   ·have q1:(0:Int)<(i:Int):=by omega
    have BW:Hid (Calls aq1 147 #[v,.string p,.string t,.int .i64 (i:Int),.int .i64 (j:Int)] wr fun e w'=>e=.returned (.int .u8 77)/\∃d,w'=wr.drewN d):=laid (by have:=Vd.out;rw[hl]at this;exact this);have q2:decide ((0:Int)<(i:Int))=decide ((0:Int)<(i:Int)):=rfl;have OP:=laid ry;clear Vd hl q2 ry;go_wp2_with fail
    refine BW.out.mono ?_;rintro e w2 ⟨rfl,nP⟩;have bP:w2.ownsRow w1.heap.size 5 1 u6 L.length (L.map bv):=by obtain⟨d,rfl⟩:=nP;exact aJ
    have aM:Below w1.heap.size w1 w2:=by obtain⟨d,rfl⟩:=nP;exact Go.below_drewN aH d
    clear BW aJ nP aH;go_wp2_with(first
     |(at_builtin;refine wpList_append_own _ rfl _ _ 79 rfl w1.heap.size 5 i0 (.int .u8 0) 1 1 arE hi nJ kK iI rfl (by decide) _ _ _ rfl (bP.alloc _) ⟨w2.heap.size,0,none⟩ 1 1 [.int .u8 77] rfl rfl ?c1 ?c2 ?c3 ?c4 ?c5 ?_)
     |go_in)
    case c1=>
     intro j u hj
     match j,hj with
     |0,hj=>simp at hj;subst hj;simp[arF]
    case c2=>intro u hu;simp at hu;subst hu;rfl
    case c3=>unfold maxLen;omega
    case c4=>omega
    case c5=>have:=aM.size;simp;omega
    intro v' wz aW aD _;have gV:Below w1.heap.size w1 wz:=(aM.alloc aM.size _).grown aD (by have:=aM.size;simp;omega) (fun j hj=>(bP.lt j hj).1);have fc:wz.ownsRow w1.heap.size 5 1 v' (L++[77]).length ((L++[77]).map bv):=by
     rw[aq3,arD];exact aW
    obtain⟨gg,cap,n',rfl⟩:∃gg cap n',v'=.slice (some ⟨gg,0,none⟩) n' cap:=by
     rcases aW.2 with⟨_,h0⟩|⟨gg,cap,cur,hv,_⟩
     ·omega
     ·exact⟨gg,cap,_,hv⟩
    clear aW aD bP aM;go_wp2
    go_roundw
    case rel=>go_light;have:=OP.out;exact⟨i-1,j-1,L++[77],ax (by omega),ax (by omega),by omega,by omega,by rw[aq3];simp;omega,by rw[aq3];simp;omega,HN,fc,gV⟩
    case measure=>go_light;have:=OP.out;simp[intOf];omega
   ·have q1:(0:Int)<(i:Int):=by omega
    have BW:Hid (Calls aq1 147 #[v,.string p,.string t,.int .i64 (i:Int),.int .i64 (j:Int)] wr fun e w'=>e=.returned (.int .u8 73)/\∃d,w'=wr.drewN d):=laid (by have:=Vd.out;rw[hl]at this;exact this);have q2:decide ((0:Int)<(i:Int))=decide ((0:Int)<(i:Int)):=rfl;have OP:=laid ry;clear Vd hl q2 ry;go_wp2_with fail
    refine BW.out.mono ?_;rintro e w2 ⟨rfl,nP⟩;have bP:w2.ownsRow w1.heap.size 5 1 u6 L.length (L.map bv):=by obtain⟨d,rfl⟩:=nP;exact aJ
    have aM:Below w1.heap.size w1 w2:=by obtain⟨d,rfl⟩:=nP;exact Go.below_drewN aH d
    clear BW aJ nP aH;go_wp2_with(first
     |(at_builtin;refine wpList_append_own _ rfl _ _ 79 rfl w1.heap.size 5 i0 (.int .u8 0) 1 1 arE hi nJ kK iI rfl (by decide) _ _ _ rfl (bP.alloc _) ⟨w2.heap.size,0,none⟩ 1 1 [.int .u8 73] rfl rfl ?c1 ?c2 ?c3 ?c4 ?c5 ?_)
     |go_in)
    case c1=>
     intro j u hj
     match j,hj with
     |0,hj=>simp at hj;subst hj;simp[arF]
    case c2=>intro u hu;simp at hu;subst hu;rfl
    case c3=>unfold maxLen;omega
    case c4=>omega
    case c5=>have:=aM.size;simp;omega
    intro v' wz aW aD _;have gV:Below w1.heap.size w1 wz:=(aM.alloc aM.size _).grown aD (by have:=aM.size;simp;omega) (fun j hj=>(bP.lt j hj).1);have fc:wz.ownsRow w1.heap.size 5 1 v' (L++[73]).length ((L++[73]).map bv):=by
     rw[aq3,arD];exact aW
    obtain⟨gg,cap,n',rfl⟩:∃gg cap n',v'=.slice (some ⟨gg,0,none⟩) n' cap:=by
     rcases aW.2 with⟨_,h0⟩|⟨gg,cap,cur,hv,_⟩
     ·omega
     ·exact⟨gg,cap,_,hv⟩
    clear aW aD bP aM;go_wp2
    go_roundw
    case rel=>go_light;have:=OP.out;exact⟨i-1,j,L++[73],ax (by omega),ax (by omega),by omega,by omega,by rw[aq3];simp;omega,by rw[aq3];simp;omega,HN,fc,gV⟩
    case measure=>go_light;have:=OP.out;simp[intOf];omega
   ·have q1:(0:Int)<(i:Int):=by omega
    have BW:Hid (Calls aq1 147 #[v,.string p,.string t,.int .i64 (i:Int),.int .i64 (j:Int)] wr fun e w'=>e=.returned (.int .u8 68)/\∃d,w'=wr.drewN d):=laid (by have:=Vd.out;rw[hl]at this;exact this);have q2:decide ((0:Int)<(i:Int))=decide ((0:Int)<(i:Int)):=rfl;have OP:=laid ry;clear Vd hl q2 ry;go_wp2_with fail
    refine BW.out.mono ?_;rintro e w2 ⟨rfl,nP⟩;have bP:w2.ownsRow w1.heap.size 5 1 u6 L.length (L.map bv):=by obtain⟨d,rfl⟩:=nP;exact aJ
    have aM:Below w1.heap.size w1 w2:=by obtain⟨d,rfl⟩:=nP;exact Go.below_drewN aH d
    clear BW aJ nP aH;go_wp2_with(first
     |(at_builtin;refine wpList_append_own _ rfl _ _ 79 rfl w1.heap.size 5 i0 (.int .u8 0) 1 1 arE hi nJ kK iI rfl (by decide) _ _ _ rfl (bP.alloc _) ⟨w2.heap.size,0,none⟩ 1 1 [.int .u8 68] rfl rfl ?c1 ?c2 ?c3 ?c4 ?c5 ?_)
     |go_in)
    case c1=>
     intro j u hj
     match j,hj with
     |0,hj=>simp at hj;subst hj;simp[arF]
    case c2=>intro u hu;simp at hu;subst hu;rfl
    case c3=>unfold maxLen;omega
    case c4=>omega
    case c5=>have:=aM.size;simp;omega
    intro v' wz aW aD _;have gV:Below w1.heap.size w1 wz:=(aM.alloc aM.size _).grown aD (by have:=aM.size;simp;omega) (fun j hj=>(bP.lt j hj).1);have fc:wz.ownsRow w1.heap.size 5 1 v' (L++[68]).length ((L++[68]).map bv):=by
     rw[aq3,arD];exact aW
    obtain⟨gg,cap,n',rfl⟩:∃gg cap n',v'=.slice (some ⟨gg,0,none⟩) n' cap:=by
     rcases aW.2 with⟨_,h0⟩|⟨gg,cap,cur,hv,_⟩
     ·omega
     ·exact⟨gg,cap,_,hv⟩
    clear aW aD bP aM;go_wp2
    go_roundw
    case rel=>go_light;have:=OP.out;exact⟨i,j-1,L++[68],ax (by omega),ax (by omega),by omega,by omega,by rw[aq3];simp;omega,by rw[aq3];simp;omega,HN,fc,gV⟩
    case measure=>go_light;have:=OP.out;simp[intOf];omega
   ·obtain⟨q3,q1,q4⟩:(0:Int)<(j:Int)/\¬(0:Int)<(i:Int)/\¬0<i:=⟨by omega,by omega,by omega⟩;have BW:Hid (Calls aq1 147 #[v,.string p,.string t,.int .i64 (i:Int),.int .i64 (j:Int)] wr fun e w'=>e=.returned (.int .u8 68)/\∃d,w'=wr.drewN d):=laid (by have:=Vd.out;rw[hl]at this;exact this);have q2:decide ((0:Int)<(i:Int))=decide ((0:Int)<(i:Int)):=rfl;have OP:=laid ry;clear Vd hl q2 ry;go_wp2_with fail
    refine BW.out.mono ?_;rintro e w2 ⟨rfl,nP⟩;have bP:w2.ownsRow w1.heap.size 5 1 u6 L.length (L.map bv):=by obtain⟨d,rfl⟩:=nP;exact aJ
    have aM:Below w1.heap.size w1 w2:=by obtain⟨d,rfl⟩:=nP;exact Go.below_drewN aH d
    clear BW aJ nP aH;go_wp2_with(first
     |(at_builtin;refine wpList_append_own _ rfl _ _ 79 rfl w1.heap.size 5 i0 (.int .u8 0) 1 1 arE hi nJ kK iI rfl (by decide) _ _ _ rfl (bP.alloc _) ⟨w2.heap.size,0,none⟩ 1 1 [.int .u8 68] rfl rfl ?c1 ?c2 ?c3 ?c4 ?c5 ?_)
     |go_in)
    case c1=>
     intro j u hj
     match j,hj with
     |0,hj=>simp at hj;subst hj;simp[arF]
    case c2=>intro u hu;simp at hu;subst hu;rfl
    case c3=>unfold maxLen;omega
    case c4=>omega
    case c5=>have:=aM.size;simp;omega
    intro v' wz aW aD _;have gV:Below w1.heap.size w1 wz:=(aM.alloc aM.size _).grown aD (by have:=aM.size;simp;omega) (fun j hj=>(bP.lt j hj).1);have fc:wz.ownsRow w1.heap.size 5 1 v' (L++[68]).length ((L++[68]).map bv):=by
     rw[aq3,arD];exact aW
    obtain⟨gg,cap,n',rfl⟩:∃gg cap n',v'=.slice (some ⟨gg,0,none⟩) n' cap:=by
     rcases aW.2 with⟨_,h0⟩|⟨gg,cap,cur,hv,_⟩
     ·omega
     ·exact⟨gg,cap,_,hv⟩
    clear aW aD bP aM;go_wp2
    go_roundw
    case rel=>go_light;have:=OP.out;exact⟨i,j-1,L++[68],ax (by omega),ax (by omega),by omega,by omega,by rw[aq3];simp;omega,by rw[aq3];simp;omega,HN,fc,gV⟩
    case measure=>go_light;have:=OP.out;simp[intOf];omega
theorem YV(a b:UInt8):ag a b=ag b a:=by
 unfold ag;by_cases h:a=b
 ·rw[h]
 ·have h1:(a==b)=false:=by simp_all
  have h2:(b==a)=false:=by simpa using fun e=>h e.symm
  rw[h1,h2];rfl
theorem BA(t p:ByteArray):∀i j,BV t p i j=sT p t j i
 |0,0=>by simp[BV,sT]
 |0,j+1=>by simp[BV,sT]
 |i+1,0=>by simp[BV,CJ,sT]
 |i+1,j+1=>by
  have h1:=BA t p i j;have h2:=BA t p i (j+1);have h3:=BA t p (i+1) j;rw[sT,<-h1,<-h2,<-h3];simp only[BV];rw[CJ];have e:co (at8 t i) (at8 p j)=cost p t j i:=by unfold co cost;rw[YV]
  omega
theorem sZ(t p:ByteArray)(k e d:Nat):∀n,(e,d)∈cQ t p k n↔1<=e/\e<=n/\d=BV t p e p.size/\d<=k
 |0=>by simp[cQ];omega
 |n+1=>by
  have ih:=sZ t p k e d n;rw[cQ];split
  ·rename_i h;rw[arC,ih];simp only[arT,Prod.mk.injEq];constructor
   ·rintro(⟨a,b,c,x⟩|⟨rfl,rfl⟩)
    ·omega
    ·omega
   ·rintro⟨a,b,c,x⟩;by_cases h2:e<=n
    ·omega
    ·have:e=n+1:=by omega
     subst this;exact .inr ⟨rfl,c⟩
  ·rw[ih];constructor
   ·omega
   ·rintro⟨a,b,c,x⟩;by_cases h2:e<=n
    ·omega
    ·have:e=n+1:=by omega
     subst this;omega
theorem OT(X P:ByteArray)(k st x e d:Nat):(e,d)∈dQ (x *st) (e_ (fA X P k st x) P k) (e_ (fA X P k st x) P k).length↔∃i,1<=i/\i<=(fA X P k st x).size/\e=i+x *st/\d=sT P (fA X P k st x) P.size i/\d<=k:=by
 unfold dQ;rw[asB,List.drop_length,List.append_nil,arO];constructor
 ·rintro⟨⟨i,d'⟩,hm,he⟩;obtain⟨rfl,rfl⟩:=he;obtain⟨a,b,c,h⟩:=(sZ _ _ _ _ _ _).1 hm;exact⟨i,a,b,rfl,by rw[<-BA];exact c,h⟩
 ·rintro⟨i,a,b,rfl,c,h⟩;exact⟨(i,d),(sZ _ _ _ _ _ _).2 ⟨a,b,by rw[BA];exact c,h⟩,rfl⟩
theorem qC{P:ByteArray}{k st:Nat}{t:Int}:∀n,x∈bH P X k q st t n↔x<n/\looked P X k q st t x=true
 |0=>by simp[bH]
 |n+1=>by
  have ih:x∈bH P X k q st t n↔x<n/\looked P X k q st t x=true:=qC n;rw[bH];split
  ·rename_i h;rw[arC,ih];simp only[arT];constructor
   ·rintro(⟨a,b⟩|rfl)
    ·exact⟨by omega,b⟩
    ·exact⟨by omega,h⟩
   ·rintro⟨a,b⟩;by_cases h2:x<n
    ·exact .inl ⟨h2,b⟩
    ·exact .inr (by omega)
  ·rename_i h;rw[ih];constructor
   ·rintro⟨a,b⟩;exact⟨by omega,b⟩
   ·rintro⟨a,b⟩;by_cases h2:x<n
    ·exact⟨h2,b⟩
    ·have:x=n:=by omega
     subst this;exact absurd b h
theorem Vv(X P:ByteArray)(k q st x e d:Nat)(hx:x *st<=X.size)(h:(e,d)∈dQ (x *st) (e_ (fA X P k st x) P k) (e_ (fA X P k st x) P k).length):e<=X.size/\d<=k/\(best P X k e).1<=d:=by
 obtain⟨i,h1,h2,rfl,h3,h4⟩:=(OT X P k st x e d).1 h;have mK:(fA X P k st x).size=min (x *st+st+P.size+k) X.size-x *st:=by unfold fA;simp_all
 have he:i+x *st<=min (x *st+st+P.size+k) X.size:=by omega
 refine⟨by omega,h4,?_⟩;have:=pC P X k (x *st) _ _ (by omega) he (by omega) (by rw[show i+x *st-x *st=i by omega];show sT P (fA X P k st x) _ i<=k;omega);rw[show i+x *st-x *st=i by omega]at this;rw[h3];exact this
theorem M5(X P:ByteArray)(k q st e:Nat)(hq:1<=q)(aA:1<=st)(YR:e<=X.size)(hk:(best P X k e).1<=k)(hkP:k<P.size):∃x∈bH P X k q st (MB P.size k q) (stretches X.size st),(e,(best P X k e).1)∈dQ (x *st) (e_ (fA X P k st x) P k) (e_ (fA X P k st x) P k).length:=by
 obtain⟨h1,h2,h3⟩:=FN P X k st e aA YR hk;obtain⟨b1,b2,b3,b4⟩:=(qZ P X k e YR).2 hk;have hl:=MX P X k q st (best P X k e).2 e hq aA b1 YR (by omega);generalize hx:(e-(P.size+k))/st=x at *;have he0:0<e:=by
  rcases Nat.eq_zero_or_pos e with h0|h0
  ·exfalso;subst h0;have hs0:(best P X k 0).2=0:=by omega
   rw[hs0]at b2;have e1:bX P (X.extract 0 0)=P.size:=by
    unfold bX;rw[show(X.extract 0 0).size=0 by rw[arG];omega];cases P.size<;>simp[dT]
   omega
  ·exact h0
 have aV:x *st<e:=by
  have hb:x *st<=e-(P.size+k):=by rw[<-hx];exact ar8 _ _
  omega
 refine⟨x,(qC _).2 ⟨(lr X.size st x aA).1 (by omega),hl⟩,?_⟩;rw[OT];have mK:(fA X P k st x).size=min (x *st+st+P.size+k) X.size-x *st:=by unfold fA;rw[arG];omega
 have h2':e<=min (x *st+st+P.size+k) X.size:=h2;exact⟨e-x *st,by omega,by omega,by omega,h3.symm,hk⟩
end
section
open RowKit Maps
noncomputable def plC:=match ast.body with
 |some (.seq _ (.seq _ c))=>c
 |_=>.skip
def slP(a0 a1 a3 a4:Value)(fl:Bool)(b5 b6 b8 b:Nat)(u:Nat->Value):=#[a0,a1,.bool fl,a3,a4,pt b5,pt b6,u 7,pt b8,u 9,.slice none 0 0,.map (some b),u 12,u 13,u 14,u 15,u 16,u 17,u 18,u 19,u 20,u 21,u 22,u 23,u 24,u 25,u 26,u 27,u 28,u 29,u 30,u 31,u 32,u 33,u 34,u 35,u 36,u 37,u 38,u 39,u 40,u 41,u 42,u 43,u 44,u 45,u 46,u 47,u 48,u 49,u 50,u 51,u 52,u 53,u 54,u 55,u 56,u 57,u 58,u 59,u 60,u 61,u 62,u 63,u 64,u 65,u 66,u 67,u 68,u 69,u 70,u 71,u 72]
def vo(X P rn rm:ByteArray)(fl:Bool)(st dd:Nat->Nat)(e:Nat):Pl:=
 ⟨rn,P,rm,fl,st e,dd e,str (jm (str (ck P (X.extract (st e) e)))),str (pL P (X.extract (st e) e) (str (ck P (X.extract (st e) e))))⟩
def y8(p:Pl):Value:=.iface 158 p.val
theorem lD(p t:ByteArray):∀f i j,∀c∈d_ p t f i j,c=77\/c=73\/c=68
 |0,i,j=>by simp[d_]
 |f+1,i,j=>by
  intro c hc;rw[d_]at hc;split at hc
  ·simp at hc
  ·split at hc
   ·rw[arC]at hc;rcases hc with hc|hc
    ·exact lD p t f _ _ c hc
    ·simp_all
   ·split at hc
    ·rw[arC]at hc;rcases hc with hc|hc
     ·exact lD p t f _ _ c hc
     ·simp_all
    ·rw[arC]at hc;rcases hc with hc|hc
     ·exact lD p t f _ _ c hc
     ·simp_all
theorem Jq(p t:ByteArray):∀x,x<(str (ck p t)).size->at8 (str (ck p t)) x=77\/at8 (str (ck p t)) x=73\/at8 (str (ck p t)) x=68:=by
 intro x hx;rw[YI,aq9,aq5 hx];exact lD p t _ _ _ _ (asC hx)
theorem OU:(aq1.info? 136).map (fun i=>(i.zero,i.size,i.bytes))=some (some .nilIface,1,16):=by kernel_rfl
theorem Q4(X P rn rm XN:ByteArray)(fl:Bool)(es:List Nat)(st dd:Nat->Nat)(a0 a1 a3 a4:Value)(b5 b6 b8 b:Nat)(u:Nat->Value)(w:World)
  (hX:X.size<=200)(hP:P.size<=30)(hP1:1<=P.size)(jI:es.length<=1000)
  (h5:w.heap[b5]?=some (.cells #[.string XN,.string X] 68 (0,0)))(h6:w.heap[b6]?=some (.cells #[.string rn,.string P,.string rm] 131 (0,0)))
  (HS:Calls aq1 123 #[.func (.func 143) #[] #[.pointer (some ⟨w.heap.size,0,none⟩)]] (w.alloc (.cells #[.map (some b)] 166)) fun e w'=>∃v,e=.returned v/\w'.ownsRow w.heap.size 3 1 v es.length (es.map sY)/\Below w.heap.size w w')
  (HLK:∀W:World,W.heap[b]?=w.heap[b]?->∀e∈es,(Instr.lookup 166 (.map (some b)) (.int .i64 (e:Int)) false).run aq1 W=.ok (.int .i64 (dd e:Int)) W)(hbl:b<w.heap.size)
  (HE:∀e∈es,e<=X.size/\dd e<=1000/\st e<=e/\bX P (X.extract (st e) e)<=dd e/\∀c,c<e-st e->dd e<bX P (X.extract (e-c) e))(mD:cf w):
  plC.wp aq1 (bodyPost aq1 ast fun e w'=>∃v,e=.returned v/\w'.ownsRow w.heap.size 136 1 v es.length (es.map fun e=>y8 (vo X P rn rm fl st dd e))/\Below w.heap.size w w'/\(es=[]->v=.slice none 0 0)) ⟨slP a0 a1 a3 a4 fl b5 b6 b8 b u,[]⟩ w:=by
 obtain⟨i0,hi,nJ,kK,iI⟩:=info_parts OU;have HHS:=laid HS;have HHL:=laid HLK;have HHE:=laid HE;have HT:=laid mD;have H5:=laid h5;have H6:=laid h6;have Nu:b5<w.heap.size:=(aq8.1 h5).1;have hl6:b6<w.heap.size:=(aq8.1 h6).1;clear HS HLK HE mD h5 h6;obtain⟨Q,hQ⟩:∃Q,Q=(bodyPost aq1 ast fun e w'=>∃v,e=.returned v/\w'.ownsRow w.heap.size 136 1 v es.length (es.map fun e=>y8 (vo X P rn rm fl st dd e))/\Below w.heap.size w w'/\(es=[]->v=.slice none 0 0)):=⟨_,rfl⟩;rw[<-hQ];have HQ:=laid hQ;clear hQ;unfold plC ast slP;dsimp only;simp only[pt];go_wp2_with fail
 refine(Jj _ _).mono ?_;rintro e w1 ⟨rfl,rfl⟩;go_wp2_with fail
 refine HHS.out.mono ?_;rintro e w2 ⟨v,rfl,dz,di⟩;clear HHS;have YJ:=laid dz;obtain⟨p28,c28,hv,fF⟩:∃(p28:Option Addr) (c28:Nat),v=.slice p28 es.length c28/\Hid (∀i,i<es.length->∃g,p28=some ⟨g,0,none⟩/\g<w2.heap.size/\w2.cell? ⟨g,i,none⟩=some (.int .i64 ((es.getD i 0:Nat):Int))):=by
  rcases dz.2 with⟨rfl,h0⟩|⟨g,cap,cur,rfl,hB,hg,fq,BT,hc3,hc4⟩
  ·exact⟨none,0,by rw[h0],laid fun i hi=>by omega⟩
  ·refine⟨some ⟨g,0,none⟩,cap,rfl,laid fun i hi=>⟨g,rfl,(aq8.1 hg).1,?_⟩⟩;have h:=(dz.cells (g:=g) rfl) i (sY (es.getD i 0)) (by rw[arV,aq9,aq5 hi];rfl);rw[iM]at h;exact h
 subst hv;clear dz YJ;have adW:w.heap.size<=w2.heap.size:=di.size;go_wp2
 go_loopw [12,30] (fun rv iv wr=>∃i:Nat,iv=.int .i64 (i:Int)/\i<=es.length/\Hid (i=0->rv=.slice none 0 0)/\wr.ownsRow w2.heap.size 136 1 rv i ((es.take i).map fun e=>y8 (vo X P rn rm fl st dd e))/\Below w2.heap.size w2 wr) (fun _ iv _=>es.length-(intOf iv).toNat)
 case atStart=>exact⟨0,rfl,arI _,laid fun _=>rfl,by simpa using asx _ _ _ _,ara _ _⟩
 case round=>
  obtain⟨i,rfl,Kc,HNL,aJ,aH⟩:=hrel;have Kd:Below w.heap.size w wr:=di.trans (aH.mono adW);by_cases aV:i<es.length
  ·obtain⟨g28,rfl,aqJ,ajJ⟩:=fF.out i aV;have hci:wr.cell? ⟨g28,i,none⟩=some (.int .i64 ((es.getD i 0:Nat):Int)):=by rw[aH.cell (p:=⟨g28,i,none⟩) aqJ];exact ajJ
   have dU:es.getD i 0∈es:=by rw[aq9,aq5 aV];exact asC _
   have htk:Hid ((es.take (i+1)).map (fun e=>y8 (vo X P rn rm fl st dd e))=(es.take i).map (fun e=>y8 (vo X P rn rm fl st dd e))++[y8 (vo X P rn rm fl st dd (es.getD i 0))]):=laid (by
    rw[List.take_add_one,aq5 aV,arD,aq9,aq5 aV];rfl)
   obtain⟨he1,he2,he3,he4,he5⟩:=HHE.out _ dU;have Mo:=HHL.out wr (by rw[Kd.block b hbl]) _ dU;generalize es.getD i 0=E at *;have Vw:=laid (And.intro he4 he5);clear he4 he5 ajJ dU;have b1:(i:Int)<(es.length:Int):=by omega
   have b2:(0:Int)<=(i:Int):=by omega
   have aqK:b5<wr.heap.size:=arx Nu Kd.size;have aqL:b6<wr.heap.size:=arx hl6 Kd.size;have k5:wr.heap[b5]?=some (.cells #[.string XN,.string X] 68 (0,0)):=by rw[Kd.block b5 Nu];exact H5.out
   have k6:wr.heap[b6]?=some (.cells #[.string rn,.string P,.string rm] 131 (0,0)):=by rw[Kd.block b6 hl6];exact H6.out
   have c5:wr.cell? ⟨b5,1,none⟩=some (.string X):=by rw[cell_of_row wr _ 1 _ _ _ k5];rfl
   have c6:wr.cell? ⟨b6,1,none⟩=some (.string P):=by rw[cell_of_row wr _ 1 _ _ _ k6];rfl
   have HSO:Hid (∀W:World,Calls aq1 125 #[.string X,.string P,.agg #[.int .i64 (E:Int),.int .i64 (dd E:Int)]] W fun r w'=>r=.returned (.int .i64 (st E:Int))/\Below W.heap.size W w'):=laid fun W=>by
    have:=Jo X P E (dd E) (E-st E) W hX (by omega) he1 he2 (by omega) (by rw[show E-(E-st E)=st E by omega];exact Vw.out.1) Vw.out.2;rw[show E-(E-st E)=st E by omega]at this;exact this
   have hF0:M4 (wr.alloc (.cells #[.int .i64 (E:Int),.int .i64 (dd E:Int)] 173)) wr.heap.size E (dd E):=heap_alloc_new wr _;have HF0:=laid hF0;have HK5:=laid k5;have HK6:=laid k6;clear hF0 k5 k6 Vw;go_wp2_with fail
   refine(HSO.out _).mono ?_;rintro e w3 ⟨rfl,fj⟩;have Vx:Below wr.heap.size wr w3:=((ara _ _).alloc (aq7 _) _).trans (fj.mono (by simp));have wY:=HF0.out.below fj (by simp);have D6:=mE aJ Vx;have dx:=aH.trans (Vx.mono aH.size);have k5:w3.heap[b5]?=some (.cells #[.string XN,.string X] 68 (0,0)):=by rw[Vx.block b5 aqK];exact HK5.out
   have k6:w3.heap[b6]?=some (.cells #[.string rn,.string P,.string rm] 131 (0,0)):=by rw[Vx.block b6 aqL];exact HK6.out
   have d5:w3.cell? ⟨b5,1,none⟩=some (.string X):=by rw[cell_of_row w3 _ 1 _ _ _ k5];rfl
   have d6:w3.cell? ⟨b6,1,none⟩=some (.string P):=by rw[cell_of_row w3 _ 1 _ _ _ k6];rfl
   have hbF:wr.heap.size<w3.heap.size:=by have:=fj.size;simp at this;omega
   have ajK:b6<w3.heap.size:=by omega
   have ajL:=laid k6;have HF3:=laid wY;generalize wr.heap.size=bF at *;clear fj Vx aJ aH HF0 HK5 HK6 k5 k6 wY c5 c6 HSO Mo hci;have s1:(st E:Int)<=(E:Int):=by omega
   have s2:(E:Int)<=(X.size:Int):=by omega
   have s3:(0:Int)<=(st E:Int):=by omega
   have s4:E<=X.size:=he1;have hAs:(X.extract (st E) E).size<=300:=by rw[arG];omega
   have HLD:=laid (fun W:World=>Q3 P (X.extract (st E) E) W (by omega) hP1 hAs);have HRV:Hid (y8 (vo X P rn rm fl st dd E)=.iface 158 (.agg #[.string rn,.string P,.string rm,.bool fl,.int .i64 (st E:Int),.int .i64 (dd E:Int),.string (str (jm (str (ck P (X.extract (st E) E))))),.string (str (pL P (X.extract (st E) E) (str (ck P (X.extract (st E) E)))))])):=laid rfl;have hLs:(str (ck P (X.extract (st E) E))).size<=1000:=by rw[au];have:=tL P (X.extract (st E) E);omega
   have HIR:Hid (∀W:World,cf W->Calls aq1 127 #[.string (str (ck P (X.extract (st E) E)))] W fun e w'=>e=.returned (.string (str (jm (str (ck P (X.extract (st E) E))))))/\Below W.heap.size W w'):=laid fun W hW=>MT _ W hLs hW;have HDF:Hid (∀W:World,cf W->Calls aq1 128 #[.string (str (ck P (X.extract (st E) E))),.string P,.string (X.extract (st E) E)] W fun e w'=>e=.returned (.string (str (pL P (X.extract (st E) E) (str (ck P (X.extract (st E) E))))))/\Below W.heap.size W w'):=laid fun W hW=>y7 P (X.extract (st E) E) _ W (by omega) (by omega) hLs (DJ P _) (Jq P _) hW;generalize str (pL P (X.extract (st E) E) (str (ck P (X.extract (st E) E))))=DF at *;generalize str (jm (str (ck P (X.extract (st E) E))))=RN at *;generalize str (ck P (X.extract (st E) E))=LL at *;generalize hA:X.extract (st E) E=A at *;go_wp2_with fail
   refine(HLD.out _).mono ?_;rintro e w4 ⟨rfl,sU⟩;have Gb:=HF3.out.below sU hbF;have ku:=mE D6 sU;have iN:=dx.trans (sU.mono dx.size);have k6:w4.heap[b6]?=some (.cells #[.string rn,.string P,.string rm] 131 (0,0)):=by rw[sU.block b6 ajK];exact ajL.out
   have c0:w4.cell? ⟨b6,0,none⟩=some (.string rn):=by rw[cell_of_row w4 _ 0 _ _ _ k6];rfl
   have c1:w4.cell? ⟨b6,1,none⟩=some (.string P):=by rw[cell_of_row w4 _ 1 _ _ _ k6];rfl
   have c2:w4.cell? ⟨b6,2,none⟩=some (.string rm):=by rw[cell_of_row w4 _ 2 _ _ _ k6];rfl
   have cF:=Gb.c1;have ajN:bF<w4.heap.size:=arx hbF sU.size;have YW:b6<w4.heap.size:=arx ajK sU.size;have ajO:Below w.heap.size w w4:=di.trans (iN.mono adW);have hT4:cf w4:=HT.out.on ajO;have un:∀{W:World},Below w4.drew.heap.size w4.drew W->Below w4.heap.size w4 W:=fun hW=>⟨hW.os,hW.tape,hW.output,hW.size,hW.block⟩;have HTW:Hid (∀W:World,W=w4.drew\/Below w4.drew.heap.size w4.drew W->cf W):=laid fun W hW=>by
    rcases hW with rfl|hW
    ·exact hT4
    ·exact hT4.on (un hW)
   have HSB:Hid (∀W:World,Below w4.drew.heap.size w4.drew W->W.cell? ⟨b6,0,none⟩=some (.string rn)/\W.cell? ⟨b6,1,none⟩=some (.string P)/\W.cell? ⟨b6,2,none⟩=some (.string rm)/\W.cell? ⟨bF,1,none⟩=some (.int .i64 (dd E:Int))):=laid fun W hW=>⟨by rw[(un hW).cell (p:=⟨b6,0,none⟩) YW];exact c0,by rw[(un hW).cell (p:=⟨b6,1,none⟩) YW];exact c1,by rw[(un hW).cell (p:=⟨b6,2,none⟩) YW];exact c2,by rw[(un hW).cell (p:=⟨bF,1,none⟩) ajN];exact cF⟩;have HSA:Hid (∀(W1 W2:World) (o:Obj),Below w4.drew.heap.size w4.drew W1->(W1.alloc o).grownBy W2 u12.ownBlock->W2.cell? ⟨b6,0,none⟩=some (.string rn)/\W2.cell? ⟨b6,1,none⟩=some (.string P)/\W2.cell? ⟨b6,2,none⟩=some (.string rm)/\W2.cell? ⟨bF,1,none⟩=some (.int .i64 (dd E:Int))):=laid fun W1 W2 o hW hg=>by
    have hs:=(un hW).size;have e1:W2.heap[b6]?=some (.cells #[.string rn,.string P,.string rm] 131 (0,0)):=by
     rw[hg.block b6 (by simp;omega) (fun e=>lE ku k6 (by decide) e.symm),heap_alloc_old W1 _ (by omega),(un hW).block b6 YW];exact k6
    have e2:W2.heap[bF]?=some (.cells #[.int .i64 (E:Int),.int .i64 (dd E:Int)] 173 (0,0)):=by
     rw[hg.block bF (by simp;omega) (fun e=>lE ku Gb (by decide) e.symm),heap_alloc_old W1 _ (by omega),(un hW).block bF ajN];exact Gb
    exact⟨by rw[cell_of_row W2 _ 0 _ _ _ e1];rfl,by rw[cell_of_row W2 _ 1 _ _ _ e1];rfl,by rw[cell_of_row W2 _ 2 _ _ _ e1];rfl,by rw[cell_of_row W2 _ 1 _ _ _ e2];rfl⟩
   have HOW:Hid (∀(W:World),Below w4.drew.heap.size w4.drew W->∀o:Obj,(W.alloc o).ownsRow w2.heap.size 136 1 u12 i ((es.take i).map fun e=>y8 (vo X P rn rm fl st dd e))):=laid fun W hW o=>(mE ku (un hW)).alloc _;have HBS:Hid (∀(W:World),Below w4.drew.heap.size w4.drew W->∀o:Obj,w2.heap.size<=(W.alloc o).heap.size):=laid fun W hW o=>by have h1:=iN.size;have h2:=(un hW).size;simp;omega
   have HB4:=laid iN;have HR4:=laid ku;clear sU Gb ku D6 iN dx k6 un hT4 ajO HF3 ajL d5 d6 HLD Kd;go_wp2_with fail
   go_region_held3 (fun w'=>w'.cell? ⟨b6,0,none⟩=some (.string rn)/\w'.cell? ⟨b6,1,none⟩=some (.string P)/\w'.cell? ⟨b6,2,none⟩=some (.string rm)/\w'.cell? ⟨bF,1,none⟩=some (.int .i64 (dd E:Int)))
    (first
     |go_keep
     |exact HSA.out _ _ _ (dk.trans (ox.mono dk.size)) aD
     |exact HSB.out _ (dk.trans (ox.mono dk.size))
     |exact HSB.out _ dk)
    (first
     |(go_at_call 127;refine(HIR.out _ (HTW.out _ (.inl rfl))).mono ?_;rintro e w' ⟨rfl,dk⟩)
     |(go_at_call 128;refine(HDF.out _ (HTW.out _ (.inr dk))).mono ?_;rintro e lF ⟨rfl,ox⟩)
     |(refine step_append_lies _ rfl _ _ 133 rfl w2.heap.size 136 i0 .nilIface 1 16 Tryz.underlying133 hi nJ kK iI rfl (by decide) _ i _ rfl (HOW.out lF (dk.trans (ox.mono dk.size)) _) ⟨lF.heap.size,0,none⟩ 1 1 [.iface 158 (.agg #[.string rn,.string P,.string rm,.bool fl,.int .i64 (st E:Int),.int .i64 (dd E:Int),.string RN,.string DF])] rfl rfl (ar7 (heap_alloc_new lF _)) (fun u hu=>by simp at hu;subst hu;rfl) (by omega) (by unfold maxLen;omega) (by omega) (HBS.out lF (dk.trans (ox.mono dk.size)) _) _ rfl ?_;intro g5 YO w6 nh aD tt adQ))
   rename_i I7;clear I7;have aqQ:Below w2.heap.size w2 w6:=by
    have h1:Below w4.heap.size w4 w':=⟨dk.os,dk.tape,dk.output,dk.size,dk.block⟩;have h2:=HB4.out.trans (h1.mono HB4.out.size);have h3:=h2.trans (ox.mono h2.size);exact(h3.alloc h3.size _).grown aD (by have:=h3.size;simp;omega) (fun j hj=>(HR4.out.lt j hj).1)
   have HR6:Hid (w6.ownsRow w2.heap.size 136 1 (.slice (some ⟨g5,0,none⟩) (i+1) YO) (i+1) ((es.take (i+1)).map fun e=>y8 (vo X P rn rm fl st dd e))):=laid (by
    rw[htk.out,HRV.out];exact nh)
   clear nh aD tt adQ dk ox HIR HDF HTW HSB HSA HOW HBS HB4 HR4 HRV htk c0 c1 c2 cF hA;go_wp2
   go_roundw
   case rel=>go_light;exact⟨i+1,by go_num,by omega,laid (fun h=>by omega),HR6.out,aqQ⟩
   case measure=>go_light;simp[intOf];omega
  ·have F0:i=es.length:=by omega
   have HF:Hid (wr.ownsRow w.heap.size 136 1 u12 es.length (es.map fun e=>y8 (vo X P rn rm fl st dd e))):=laid (by
    have h:=nZ aJ adW;rw[F0,asB]at h;exact h)
   have HNN:Hid (es=[]->u12=.slice none 0 0):=laid fun h=>HNL.out (by rw[F0,h];rfl);clear F0 aJ HHL HHE HNL;go_wp2
   (try simp only[Exit.inBlock,Exit.then])
   rw[HQ.out];refine bodyPost_ret (results_tmp rfl _ _ _) rfl ?_;exact⟨_,rfl,HF.out,Kd,HNN.out⟩
end
namespace Ph
open Conc Ren
section
variable{P:Program}{Q:QT}{Z:Loc->Prop}{f:Frame}{l:List Frame}{w:World}
theorem aZ.aqR(m:Nat)(r:Frame)(hr:bu P m f l=(r,l))(k:∀w',cA Z w w'->(∀b,b<w.heap.size->w'.heap[b]?=w.heap[b]?)->aZ P Q Z r l w'):aZ P Q Z f l w:=by
 refine aZ.eR m fun w' hg hh=>?_;simp_all
end
abbrev vp(XN X:ByteArray):Value:=.agg #[.string XN,.string X]
abbrev KG(rn P rm:ByteArray):Value:=.agg #[.string rn,.string P,.string rm]
def Vy(b i:Nat):Value:=.pointer (some ⟨b,i,none⟩)
theorem cA.at(h:cA Z w w')(hB:w.heap[B]?=some o)(ho:lJ Z B):w'.heap[B]?=some o:=(h.old B (aO hB) ho).trans hB
section
variable{P:Program}{Q:QT}{Z:Loc->Prop}{f:Frame}{l:List Frame}{w:World}
theorem aZ.reads{es:Array _}(hB:w.heap[B]?=some o)(aA:∀w2,w2.heap[B]?=some o->stepG P true (G f l) w2=.go (G f1 l) w2 es)(pF:∀e∈es,∃a:Addr,e=⟨.cell a,false,false⟩/\a.block=B)(hz:lJ Z B)(k:∀w',cA Z w w'->aZ P Q Z f1 l w'):aZ P Q Z f l w:=by
 have aV:=aO hB;refine asu (U:=fun _ _=>False) (S:=fun b=>b=B) (X:=fun _=>False) (Done:=fun S X f' l' w'=>X=(fun _=>False)/\f'=f1/\l'=l) (asI fun w2 hr=>?_) (fun b h=>by simp_all) fun S' X' f' l' w' hd hk=>?_
 ·have BT:=((hr.kept B rfl).eq (fun i y=>y)).trans hB;refine⟨_,_,_,_,_,_,aA w2 BT,iF.toDid (U:=fun _ _=>False) (oO fun e he=>?_),.stop ⟨rfl,rfl,rfl⟩⟩;obtain⟨a,rfl,ha⟩:=pF e he;simp_all
 ·obtain⟨rfl,rfl,rfl⟩:=hd;exact k w' (cA.of hk)
theorem aZ.write{v:Value}{c:Array _}{t:TypeId}(hB:w.heap[B]?=some (.cells c t))(aA:∀w2,w2.heap[B]?=some (.cells c t)->stepG P true (G f l) w2=.go (G f1 l) (w2.setCell ⟨B,i,none⟩ v) #[⟨.cell ⟨B,i,none⟩,true,false⟩])(hz:lJ Z B)
  (k:∀w',w'.heap[B]?=some (.cells (c.setIfInBounds i v) t)->(∀b,b<w.heap.size->b≠B->w'.heap[b]?=w.heap[b]?)->w.heap.size<=w'.heap.size->w'.tape=w.tape->pG w'.os w.os->w'.output=w.output->aZ P Q Z f1 l w'):aZ P Q Z f l w:=by
 have aV:=aO hB;refine asu (U:=fun _ _=>False) (S:=fun b=>b=B) (X:=fun b=>b=B) (Done:=fun S X f' l' w'=>w'.heap[B]?=some (.cells (c.setIfInBounds i v) t)/\f'=f1/\l'=l) (asI fun w2 hr=>?_) (fun b h=>by simp_all) fun S' X' f' l' w' hd hk=>?_
 ·have BT:=((hr.kept B rfl).eq (fun i y=>y)).trans hB;refine⟨_,_,_,_,_,_,aA w2 BT,iF.toDid (U:=fun _ _=>False) (qO rfl rfl (fun _=>id) (dW v) fun e he=>?_),.stop ⟨aX BT,rfl,rfl⟩⟩;simp_all
 ·obtain⟨h1,rfl,rfl⟩:=hd;exact k w' h1 (fun b hb bj=>hk.kept b hb bj) hk.grow hk.tape hk.env hk.output
end
section
variable[ak]{r:Rn}{v w:World}
theorem OB.plain(h:OB r b o o')(fL:∀b,¬ak.ro b):O r o o':=by
 cases h with
 |same _ x=>exact x
 |ro _ y=>exact absurd y (fL _)
theorem Vz{base C3:Nat}{e:TypeId}{size:Nat}{sv sv':Value}{xs:List _}(h:v.ownsRow base e size sv n xs)(hp:∀x∈xs,∀y,V r x y->y=x)(hV:V r sv sv')(hW:W r 0 v w)(fL:∀b,¬ak.ro b)(hb:∀b b',r b=some b'->base<=b->C3<=b'):w.ownsRow C3 e size sv' n xs:=by
 refine⟨h.1,?_⟩;rcases h.2 with⟨rfl,h0⟩|⟨g,cap,cur,rfl,h2,h3,h4,h5,h6,h7⟩
 ·cases hV;simp_all
 ·cases hV with
  |@slice a a' _ _ had=>
   obtain⟨b',o',s'⟩:=a';obtain⟨h8,h9,h10⟩:=had;subst h9 h10;obtain⟨o,o',e1,e2,e3⟩:=hW.obj _ _ h8;rw[h3]at e1;cases e1;have e3:=OB.plain e3 fL
   ·cases e3 with
    |@cells _ ajQ _ _ hc=>
     refine .inr ⟨b',cap,ajQ,rfl,hb _ _ h8 h2,e2,h4,h5,hc.size.symm.trans h6,?_⟩;rw[<-h7];apply asw;intro i;by_cases hi:i<n *size
     ·rw[arc hi,arc hi,arQ,arQ];have aV:i<cur.size:=by
       rw[h6];exact arx hi (Nat.mul_le_mul_right _ h4)
      have WN:=hc.size▸aV;rw[arB aV,arB WN];congr 1;refine hp _ ?_ _ (hc.at_ i _ _ (arB aV) (arB _));rw[<-h7];refine List.mem_iff_getElem?.2 ⟨i,?_⟩;rw[arc hi,arQ,arB aV]
     ·rw[arP (by simp;omega),arP (by simp;omega)]
theorem Ee{k:IntKind}{n:Int}(h:V r (.int k n) y):y=.int k n:=by cases h;rfl
theorem VB{r0:Rn}(fL:∀b,¬ak.ro b)(hle:Le r0 r)(hk:Kept (Wr r0) (Wr r) w0 w)(hd:∀b,B<=b->r0 b=none){b':Nat}(h:r b=some b')(hb:B<=b):w0.heap.size<=b':=by
 rcases hk.may b' ⟨b,h,fL b⟩with⟨c,hc,_⟩|y
 ·have:=r.inj c b b' (hle _ _ hc) h;simp_all
 omega
end
def K4:Qm:={cV:=fun f=>[48,75,76,77,78,99,115,134].contains f,WM:=fun _=>false,AN:=fun _=>false,Cn:=true}
theorem M6:AR K4 aq1=true:=by decide+kernel
theorem M7:([48,75,76,77,78,99,115,134].all fun f=>uS K4 aq1 IB f)=true:=by decide+kernel
theorem VC(f:Nat)(h:K4.cV f=true):uS K4 aq1 IB f=true:=by
 have:f∈[48,75,76,77,78,99,115,134]:=by
  have:[48,75,76,77,78,99,115,134].contains f=true:=h;simp_all
 exact List.all_eq_true.1 M7 f this
def s_:List Item->Prop:=fun _=>False
def yI:List Deferred->Prop:=fun _=>False
theorem ajR:@kX (K4.fK aq1 IC sK s_ yI) aq1:=Mi (fun _ _ h=>h) _ xc M6 VC (Fh K4 _ _ _ _)
def cv(X P:ByteArray)(k q st:Nat):=bH P X k q st (MB P.size k q) (stretches X.size st)
theorem Jr{Q:QT}{P:ByteArray}{k st:Nat}(hX:X.size<=200)(hP:P.size<=30)(hk:k<=6)(hq:1<=q)(vy:q<=8)(hs:1<=st)(qb:st<=200)(bY:PR.globals.size<=w.heap.size)
  (kk:∀v w',w'.ownsRow w.heap.size 3 1 v (cv X P k q st).length ((cv X P k q st).map sY)->cA Z w w'->aZ PR Q Z (c.finish v) cs w'):
  aZ PR Q Z (asj PR 48 #[.string X,.string P,qp k q st] .normal) (c::cs) w:=by
 letI:ak:=K4.fK aq1 IC sK s_ yI
 have fL:∀b,¬ak.ro b:=fun b h=>h;have hem:∀b,su (fun _=>False) b=none:=fun b=>by
  cases e:su (fun _=>False) b with
  |none=>rfl
  |some c=>exact((nU.1 e).1).elim
 refine aZ.call (r0:=su (fun _=>False)) (v0:=w) ajR (fun _ h=>by cases h) (fun _ h=>h) (fun g h=>by cases h) (args:=#[.string X,.string P,qp k q st]) (R:=fun e w'=>∃v,e=.returned v/\w'.ownsRow w.heap.size 3 1 v (cv X P k q st).length ((cv X P k q st).map sY)) (fun T=>(FI X P k q st (tp w T) hX hP hk hq vy hs qb).mono fun e w' ⟨v,h1,h2,_⟩=>⟨v,h1,h2⟩) (fun e u ⟨v,h,_⟩=>⟨v,h⟩) (show K4.cV 48=true by decide) ⟨rfl,fun i x x' e e'=>?_⟩ (S5 fL bY fun b h=>h.elim) (fun a h=>(zi.1 h).elim) ?_
 ·obtain rfl:=asi (e.symm.trans e');have hi:i<3:=by
   have:=(aq8.1 e).1;simpa using this
  have:i=0\/i=1\/i=2:=by omega
  rcases this with rfl|rfl|rfl<;>(simp at e;subst e)
  ·exact .string _
  ·exact .string _
  ·exact oN (n:=2) (by simp[qp,iv,jl])
 ·intro r v x x' w' hle hV hW hR hK;obtain⟨y,hy,dz⟩:=hR;cases hy;refine kk x' w' (Vz dz (fun z hz y hy=>?_) hV hW fL fun b b' h1 h2=>VB fL hle hK (B:=0) (fun b _=>hem b) h1 (arI _)) ?_
  ·obtain⟨n,_,rfl⟩:=arO.1 hz;exact Ee hy
  ·exact⟨fun a ha _=>hK.kept a ha (fun⟨b,hb,_⟩=>by rw[hem b]at hb;cases hb),hK.grow,hK.tape,hK.env,hK.output⟩
section
variable{P:Program}{Q:QT}{Z:Loc->Prop}{f:Frame}{l:List Frame}{w:World}
theorem aZ.still(aA:∀w2,stepG P true (G f l) w2=.go (G f1 l) w2 #[])(k:∀w',cA Z w w'->(∀a,a<w.heap.size->w'.heap[a]?=w.heap[a]?)->aZ P Q Z f1 l w'):aZ P Q Z f l w:=by
 refine asu (U:=fun _ _=>False) (S:=fun _=>False) (Done:=fun S X f' l' w'=>X=(fun _=>False)/\f'=f1/\l'=l) (asI fun w2 hr=>⟨_,_,_,_,_,_,aA w2,(aL (U:=fun _ _=>False) _ _ w2).toDid,.stop ⟨rfl,rfl,rfl⟩⟩) (fun b h=>h.elim) fun S' X' f' l' w' hd hk=>?_;obtain⟨rfl,rfl,rfl⟩:=hd;exact k w' (cA.of hk) fun a ha=>hk.kept a ha id
theorem aZ.lays{E:World->World}(hB:w.heap[B]?=some o)(aA:∀w2,w2.heap[B]?=some o->stepG P true (G f l) w2=.go (G f1 l) (E w2) es)(hE:∀w2,w2.heap[B]?=some o->Env.Eff B w2 (E w2)/\(E w2).heap[B]?=some o')(pF:∀e∈es,∃a:Addr,e.loc=.cell a/\e.sync=false/\a.block=B)(hz:lJ Z B)
  (k:∀w',w'.heap[B]?=some o'->(∀b,b<w.heap.size->b≠B->w'.heap[b]?=w.heap[b]?)->w.heap.size<=w'.heap.size->w'.tape=w.tape->pG w'.os w.os->w'.output=w.output->aZ P Q Z f1 l w'):aZ P Q Z f l w:=by
 have aV:=aO hB;refine asu (U:=fun _ _=>False) (S:=fun b=>b=B) (X:=fun b=>b=B) (Done:=fun S X f' l' w'=>w'.heap[B]?=some o'/\f'=f1/\l'=l) (asI fun w2 hr=>?_) (fun b h=>by simp_all) fun S' X' f' l' w' hd hk=>?_
 ·have BT:=((hr.kept B rfl).eq (fun i y=>y)).trans hB;exact⟨_,_,_,_,_,_,aA w2 BT,iF.toDid (U:=fun _ _=>False) (qO rfl rfl (fun _=>id) (hE w2 BT).1 pF),.stop ⟨(hE w2 BT).2,rfl,rfl⟩⟩
 ·obtain⟨h1,rfl,rfl⟩:=hd;exact k w' h1 (fun b hb bj=>hk.kept b hb bj) hk.grow hk.tape hk.env hk.output
end
section
variable{main:Bool}{f:Frame}{cs:List Frame}
def YX(B:Nat)(a b c:Value)(w:World):World:=((w.setCell ⟨B,0,none⟩ a).setCell ⟨B,1,none⟩ b).setCell ⟨B,2,none⟩ c
theorem aqS{a b c x z:Value}{t:TypeId}(w:World)(h:w.heap[B]?=some (.cells #[x,y,z] t)):Env.Eff B w (YX B a b c w)/\(YX B a b c w).heap[B]?=some (.cells #[a,b,c] t):=by
 refine⟨fv (fv (dW _) (dW _)) (dW _),?_⟩;have h1:=aX (i:=0) (v:=a) h;have h2:=aX (i:=1) (v:=b) h1;exact aX h2
end
section
variable{main:Bool}{f:Frame}{cs:List Frame}
def YY(B:Nat)(a b:Value)(w:World):World:=(w.setCell ⟨B,0,none⟩ a).setCell ⟨B,1,none⟩ b
theorem aqT{a b x:Value}{t:TypeId}(w:World)(h:w.heap[B]?=some (.cells #[x,y] t)):Env.Eff B w (YY B a b w)/\(YY B a b w).heap[B]?=some (.cells #[a,b] t):=by
 refine⟨fv (dW _) (dW _),?_⟩;have h1:=aX (i:=0) (v:=a) h;exact aX h1
end
end Ph
namespace Ph
open Conc Ren
open Lock (Word PC)
theorem M8:ua PR (isAgg 9)=some false:=by kernel_rfl
theorem adX:ua PR (isAgg 166)=some false:=by kernel_rfl
theorem jP:(PR.funcs[122]?).any (·.norace)=false:=by kernel_rfl
theorem YZ:(PR.info? 182).map (·.zero)=some (some (.pointer none)):=by kernel_rfl
theorem Y0:(PR.info? 182).map (·.size)=some 1:=by kernel_rfl
theorem Y1:(PR.info? 212).map (·.zero)=some (some (.agg #[.int .u64 0,.int .u32 0])):=by kernel_rfl
section
variable{X P:ByteArray}{k q st n Rf Sg By Mp Fd Fp:Nat}{J:Nat->Value}{c:Frame}{cs:List Frame}
theorem adY:bD PR 4 ((eF sE7 (qR (aE X P k q st n) Rf Sg By Fp) J).finish (.map (some Mp))) (c::cs)=(c.finish (.map (some Mp)),cs):=by kernel_rfl
end
theorem yJ{P:ByteArray}{k st:Nat}{t:Int}:∀n,x∈bH P X k q st t n->x<n
 |0,h=>by cases h
 |n+1,h=>by
  have ih:x∈bH P X k q st t n->x<n:=yJ n;rw[bH]at h;split at h
  ·rcases arC.1 h with y|y
   ·have:=ih y;omega
   ·simp at y;omega
  ·have:=ih h;omega
structure Lay(Z:Loc->Prop)(w0:World)(X P:ByteArray)(k q st Rf Sg By Mp Fd Fp:Nat)(w:World):Prop where
 rf:w.heap[Rf]?=some (.cells #[.string X] 9)
 sg:w.heap[Sg]?=some (.cells #[.string P] 9)
 by_:w.heap[By]?=some (.cells #[iv k,iv q,iv st] 75)
 mp:w.heap[Mp]?=some (.map #[] 0)
 fd:w.heap[Fd]?=some (.cells #[.int .i32 0,.int .u32 0,.map (some Mp)] 191)
 fp:w.heap[Fp]?=some (.cells #[ptr Fd] 182)
 orf:lJ Z Rf
 osg:lJ Z Sg
 oby:lJ Z By
 omp:lJ Z Mp
 ofd:lJ Z Fd
 ofp:lJ Z Fp
 o1:w0.heap.size<=Rf
 o2:Rf<Sg
 o3:Sg<By
 o4:By<Mp
 o5:Mp<Fd
 o6:Fd<Fp
 o7:Fp<w.heap.size
 ta:cA Z w0 w
theorem Lay.on{P:ByteArray}{k st:Nat}(h:Lay Z w0 X P k q st Rf Sg By Mp Fd Fp w)(g:cA Z w w'):Lay Z w0 X P k q st Rf Sg By Mp Fd Fp w':=
 ⟨g.at h.rf h.orf,g.at h.sg h.osg,g.at h.by_ h.oby,g.at h.mp h.omp,g.at h.fd h.ofd,g.at h.fp h.ofp,h.orf,h.osg,h.oby,h.omp,h.ofd,h.ofp,h.o1,h.o2,h.o3,h.o4,h.o5,h.o6,arx h.o7 g.grow,h.ta.trans g⟩
section
variable{Qq:QT}{Z:Loc->Prop}{w:World}{c:Frame}{cs:List Frame}{X P:ByteArray}{k q st n:Nat}
theorem adZ(kk:∀Rf Sg By Mp Fd Fp J w',Lay Z w X P k q st Rf Sg By Mp Fd Fp w'->aZ PR Qq Z ((eF sFS (qR (aE X P k q st n) Rf Sg By Fp++[(12,ptr Fd)]) J).finish undef) (c::cs) w'):
  aZ PR Qq Z (asj PR 122 #[.string X,.string P,qp k q st,iv n] .normal) (c::cs) w:=by
 refine arN 60 (EB0 X P k q st n (c::cs)) rfl eb0 rfl fun J1 w1 g1 _ _ _ _=>?_;refine ar5 (F:=fun B=>(eF sB0 (aE X P k q st n) J1).finish (ptr B)) (o:=.cells #[.string X] 9) (fun w2=>uW aiM rfl rfl w2) fun Rf w2 l1 u1 hRf oRf g2=>?_;refine arN 60 (EB1 X P k q st n Rf J1 (c::cs)) rfl eb1 rfl fun J2 w3 g3 _ _ _ _=>?_;refine ar5 (F:=fun B=>(eF sB1 (aE4 (aE X P k q st n) Rf) J2).finish (ptr B)) (o:=.cells #[.string P] 9) (fun w2=>uW aiN rfl rfl w2) fun Sg w4 l2 u2 Ut oSg g4=>?_;refine arN 60 _ rfl eb2 rfl fun J3 w5 g5 _ _ _ _=>?_;refine ar5 (F:=fun B=>(eF sB2 (aE5 (aE X P k q st n) Rf Sg) J3).finish (ptr B)) (o:=.cells #[iv k,iv q,iv st] 75) (fun w2=>uW aiO rfl rfl w2) fun By w6 l3 u3 hBy oBy g6=>?_;refine arN 60 _ rfl emm rfl fun J4 w7 g7 _ _ _ _=>?_;refine ar5 (F:=fun B=>(eF sMM _ J4).finish (.map (some B))) (o:=.map #[] 0) (fun w2=>Yq aiP w2) fun Mp w8 l4 u4 hMp oMp g8=>?_;refine arN 60 (EB3 X P k q st n Rf Sg By Mp J4 (c::cs)) rfl eb3 rfl fun J5 w9 g9 _ _ _ _=>?_;refine ar5 (F:=fun B=>(eF sB3 _ J5).finish (ptr B)) (fun w2=>uW aiQ rfl rfl w2) fun Fd wA l5 u5 hFd oFd gA=>?_;refine arN 60 _ rfl eal rfl fun J6 wB gB _ _ _ _=>?_;refine ar5 (F:=fun B=>(eF sAL (Oz (aE X P k q st n) Rf Sg By++[(12,ptr Fd)]) J6).finish (ptr B)) (o:=.cells #[.pointer none] 182) (fun w2=>A3 aiR YZ rfl w2) fun Fp wC l6 u6 hFp oFp gC=>?_;refine arN 60 _ rfl efs rfl fun J7 wD gD _ _ _ _=>?_;have zRf:=((((((((((g3.trans g4).trans g5).trans g6).trans g7).trans g8).trans g9).trans gA).trans gB).trans gC).trans gD);have zSg:=((((((((g5.trans g6).trans g7).trans g8).trans g9).trans gA).trans gB).trans gC).trans gD);have zBy:=((((((g7.trans g8).trans g9).trans gA).trans gB).trans gC).trans gD);have zMp:=((((g9.trans gA).trans gB).trans gC).trans gD);have zFd:=((gB.trans gC).trans gD);have s0:=g1.grow;have s2:=g3.grow;have s4:=g5.grow;have s6:=g7.grow;have s8:=g9.grow;have s10:=gB.grow;have s12:=gD.grow;refine aZ.write (v:=ptr Fd) (i:=0) (gD.at hFp oFp) (fun w2 nP=>Ys aiS rfl rfl nP (by simp) jP Y0) oFp fun wE aqW hkE grE tpE enE ouE=>?_;have rRf:=(hkE Rf (by omega) (by omega)).trans (zRf.at hRf oRf);have rSg:=(hkE Sg (by omega) (by omega)).trans (zSg.at Ut oSg);have rBy:=(hkE By (by omega) (by omega)).trans (zBy.at hBy oBy);have rMp:=(hkE Mp (by omega) (by omega)).trans (zMp.at hMp oMp);have rFd:=(hkE Fd (by omega) (by omega)).trans (zFd.at hFd oFd);have gwD:=(g1.trans g2).trans zRf;exact kk Rf Sg By Mp Fd Fp J7 wE ⟨rRf,rSg,rBy,rMp,rFd,aqW,oRf,oSg,oBy,oMp,oFd,oFp,by omega,by omega,by omega,by omega,by omega,by omega,by omega,⟨fun a ha ho=>(hkE a (by have:=gwD.grow;omega) (by omega)).trans (gwD.old a ha ho),arw gwD.grow grE,tpE.trans gwD.tape,enE.trans gwD.env,ouE.trans gwD.output⟩⟩
def xJ(Z:Loc->Prop)(B:Nat)(ay:List Nat)(b:Option Addr)(w:World):Prop:=∀i x:Nat,ay[i]?=some x->∃Nb cur,b=some ⟨Nb,0,none⟩/\B<=Nb/\Nb<w.heap.size/\w.heap[Nb]?=some (.cells cur 3)/\cur[i]?=some (.int .i64 (x:Int))/\lJ Z Nb
theorem xJ.on{b:Option _}(h:xJ Z B ay b w)(g:cA Z w w'):xJ Z B ay b w':=fun i x hx=>by
 obtain⟨Nb,cur,h1,h2,h3,h4,h5,h6⟩:=h i x hx;exact⟨Nb,cur,h1,h2,arx h3 g.grow,g.at h4 h6,h5,h6⟩
theorem ad0(hX:X.size<=200)(hP:P.size<=30)(hk:k<=6)(hq:1<=q)(vy:q<=8)(hs:1<=st)(qb:st<=200)(bY:PR.globals.size<=w.heap.size)(hL:Lay Z w0 X P k q st Rf Sg By Mp Fd Fp w)(J7:Nat->Value)
  (kk:∀b cap J w',Lay Z w0 X P k q st Rf Sg By Mp Fd Fp w'->xJ Z w.heap.size (cv X P k q st) b w'->aZ PR Qq Z ((eF sE4 (qR (aE X P k q st n) Rf Sg By Fp++[(13,.string X),(14,.string P),(15,qp k q st)]) J).finish (cX b (cv X P k q st).length cap)) (c::cs) w'):
  aZ PR Qq Z ((eF sFS (qR (aE X P k q st n) Rf Sg By Fp++[(12,ptr Fd)]) J7).finish undef) (c::cs) w:=by
 obtain⟨rRf,rSg,rBy,rMp,rFd,rFp,oRf,oSg,oBy,oMp,oFd,oFp,o1,o2,o3,o4,o5,o6,o7,gw⟩:=id hL;refine arN 60 _ rfl ee1 rfl fun J8 wF gF _ _ ld _=>?_;refine aZ.read (fun w2 hc=>ez ld M8 hc jP) (by rw[cell_of_row _ Rf 0 _ _ _ (gF.at rRf oRf)];rfl) oRf fun wG gG=>?_;refine arN 60 _ rfl ee2 rfl fun J9 wH gH _ _ ld _=>?_;refine aZ.read (fun w2 hc=>ez ld M8 hc jP) (by rw[cell_of_row _ Sg 0 _ _ _ (((gF.trans gG).trans gH).at rSg oSg)];rfl) oSg fun wI gI=>?_;refine arN 60 _ rfl ee3 rfl fun JA wJ gJ _ _ ld _=>?_;have gEJ:=(((gF.trans gG).trans gH).trans gI).trans gJ;have aA:∀w2:World,w2.heap[By]?=some (.cells #[iv k,iv q,iv st] 75)->stepG PR true (G _ (c::cs)) w2=.go _ w2 _:=fun w2 hc=>Yt ld hc jP;have pF:∀e∈(#[⟨.cell ⟨By,0,none⟩,false,false⟩,⟨.cell ⟨By,1,none⟩,false,false⟩,⟨.cell ⟨By,2,none⟩,false,false⟩]:Array Event),∃a:Addr,e=⟨.cell a,false,false⟩/\a.block=By:=by simp
 refine aZ.reads (gEJ.at rBy oBy) aA pF oBy fun wK gK=>?_;refine arN 60 _ rfl ee4 rfl fun JB wL gL _ ca _ _=>?_;refine aZ.pure 1 fun wM kM=>?_;rw[aiK];have gM:cA Z wL wM:=cA.of kM;have gEM:=((gEJ.trans gK).trans gL).trans gM;refine aZ.Mw fun hlo=>?_;refine Jr hX hP hk hq vy hs qb (arw bY gEM.grow) fun nv wN dz gN=>?_;obtain⟨b,cap,rfl,aqY⟩:∃(b:Option Addr) (cap:Nat),nv=cX b (cv X P k q st).length cap/\xJ Z w.heap.size (cv X P k q st) b wN:=by
  rcases dz.2 with⟨h1,h2⟩|⟨g,cap,cur,h1,h2,h3,h4,h5,h6,h7⟩
  ·refine⟨none,0,by rw[h1,h2];rfl,fun i x hx=>?_⟩;simp_all
  ·refine⟨some _,cap,h1,fun i x hx=>⟨g,cur,rfl,arw gEM.grow h2,aO h3,h3,?_,hlo.off h2⟩⟩;have e1:((cv X P k q st).map sY)[i]?=some (sY x):=by simp_all
   rw[<-h7,arc (by have:=(List.getElem?_eq_some_iff.1 hx).1;omega),arQ]at e1;exact e1
 exact kk b cap JB wN (hL.on (gEM.trans gN)) aqY
theorem ad1(hX:X.size<=200)(hP:P.size<=30)(hk:k<=6)(hs:1<=st)(qb:st<=200)(hn:1<=n)(Ge:n<=8)(bY:PR.globals.size<=w.heap.size){w1:World}(hL:Lay Z w0 X P k q st Rf Sg By Mp Fd Fp w){b:Option Addr}(azB:Fp<w1.heap.size)(hN:xJ Z w1.heap.size (cv X P k q st) b w)(JB:Nat->Value)
  (kk:∀Wg J w',aP (mC Fd Mp Wg X P k st).U (fun a=>a<w.heap.size/\a≠Mp/\lJ Z a) w w'->w.heap.size<=Wg->Wg<w'.heap.size->oQ (kH X P k st (cv X P k q st)) (w'.heap[Mp]?)->w'.heap[Fd]?=some (.cells #[.int .i32 0,.int .u32 0,.map (some Mp)] 191)->w'.tape=w.tape->w'.output=w.output->Mp<w'.heap.size->aZ PR Qq (fun l=>Z l\/AA (mC Fd Mp Wg X P k st) l) ((eF sE5 (qR (aE X P k q st n) Rf Sg By Fp++[(16,cX b (cv X P k q st).length cap),(17,iv n),(18,dL By Rf Sg Fp)]) J).finish unit) (c::cs) w'):
  aZ PR Qq Z ((eF sE4 (qR (aE X P k q st n) Rf Sg By Fp++[(13,.string X),(14,.string P),(15,qp k q st)]) JB).finish (cX b (cv X P k q st).length cap)) (c::cs) w:=by
 refine arN 60 _ rfl ee5 rfl fun JC wO gO _ _ _ _=>?_;refine aZ.pure 1 fun wP kP=>?_;rw[aiL];have gP:cA Z wO wP:=cA.of kP;refine arN 60 (RA0 (cX b (cv X P k q st).length cap) n (dL By Rf Sg Fp) _) rfl ra0 rfl fun JD wQ gQ _ _ _ _=>?_;refine ar5 (F:=fun B=>(dF sA0 (aA0 (cX b (cv X P k q st).length cap) n (dL By Rf Sg Fp)) JD).finish (ptr B)) (o:=.cells #[.int .u64 0,.int .u32 0] 212) (fun w2=>A3 aiW Y1 rfl w2) fun Wg wR l7 u7 hWg oWg gR=>?_;refine arN 60 (RA1 (cX b (cv X P k q st).length cap) n Wg (dL By Rf Sg Fp) JD _) rfl ra1 rfl fun JE wS gS _ _ _ _=>?_;refine ar5 (F:=fun B=>(dF sA1 (aA1 (cX b (cv X P k q st).length cap) n (dL By Rf Sg Fp) Wg) JE).finish (Rt B n)) (o:=.cells (sO [] n) 214) (fun w2=>Yr aiX Ge rfl rfl w2) fun Gv wT l8 u8 hGv oGv gT=>?_;refine arN 60 (aiV b (cv X P k q st).length cap n Wg Gv (dL By Rf Sg Fp) JE _) rfl apO rfl fun JF wU gU _ _ _ IG=>?_;have gA:=gO.trans (gP.trans gQ);have gB:=(gA.trans gR).trans (gS.trans (gT.trans gU));have aqZ:=((gS.trans gT).trans gU).at hWg oWg;have aq0:=gU.at hGv oGv;have s5:=gA.grow;have s7:=gS.grow;have s9:=gU.grow;have hLU:=hL.on gB;have hNU:=hN.on gB;have sB:=gB.grow;have a1:=hL.o7;clear gO gP gQ gR gS gT gU gA kP hWg hGv;obtain⟨rRf,rSg,rBy,rMp,rFd,rFp,oRf,oSg,oBy,oMp,oFd,oFp,o1,o2,o3,o4,o5,o6,o7,gw⟩:=id hLU;have hG:yV Z Fd Mp Wg Gv By Rf Sg Fp k q st n X P b (cv X P k q st) wU:={
  cin:=⟨rBy,rRf,rSg,rFp,arw bY gB.grow⟩
  fd:=rFd
  mp:=rMp
  wg:=aqZ
  gv:=aq0
  num:=fun i x hx=>by
   obtain⟨Nb,cur,h1,h2,h3,h4,h5,h6⟩:=hN i x hx;refine⟨Nb,0,h1,?_,by omega,by omega,by omega,by omega,h6⟩;rw[cell_of_row _ Nb (0+i) _ _ _ (gB.at h4 h6),Nat.zero_add];exact h5
  off:=fun a ha=>by
   rcases ha with rfl|rfl|rfl|rfl|(rfl|rfl|rfl|rfl)<;>assumption
  fm:=by omega
  fw:=by omega
  fg:=by omega
  mw:=by omega
  mg:=by omega
  wgg:=by omega
  kp:=fun a ha=>by
   rcases ha with rfl|rfl|rfl|rfl<;>(refine⟨?_,?_,?_,?_⟩<;>omega)
  n0:=hn
  n8:=Ge
  len:=by
   have:=qz P X k q st (MB P.size k q) (stretches X.size st);have h2:stretches X.size st<=400:=by
    unfold stretches;have:=Nat.div_le_self (X.size+st-1) st;omega
   unfold cv;omega
  hX:=hX
  hP:=hP
  hk:=hk
  aA:=qb
  ok:=fun x hx=>by
   have h1:=(lr X.size st x hs).2 (yJ _ hx);have h2:x<=x *st:=Nat.le_mul_of_pos_right x hs;omega}
 refine hG.phase (cap:=cap) (IG.less fun i v hv=>sM (b:=[(18,.bool (decide ((0:Int)<(n:Int))))]) hv) ((IG.slot 18 _ rfl).trans (by congr 1;simp)) fun w' hr hm mW ht ho aV=>?_;have ajF:∀a,a<w.heap.size/\a≠Mp/\lJ Z a->jk Z Mp Gv wU.heap.size a:=fun a ha=>⟨by omega,ha.2.1,by omega,ha.2.2⟩;refine kk Wg JC w' ⟨fun a ha=>?_,arw sB hr.grow,hr.env.trans gB.env⟩ (by omega) (by have:=hr.grow;omega) hm mW (ht.trans gB.tape) (ho.trans gB.output) aV;have:=hr.kept a (ajF a ha);rw[gB.old a ha.1 ha.2.2]at this;exact this
theorem aZ.ajV{f:Frame}{l:List _}{a:Addr}{v:Value}(aA:∀w2,w2.cell? a=some v->stepG PP true (G f l) w2=.go (G f1 l) w2 #[⟨.cell a,false,false⟩])(hc:w.cell? a=some v)(hz:lJ Z a.block)(k:∀w',cA Z w w'->(∀b,b<w.heap.size->w'.heap[b]?=w.heap[b]?)->aZ PP Qq Z f1 l w'):aZ PP Qq Z f l w:=by
 have aV:a.block<w.heap.size:=Nat.lt_of_not_le fun y=>by simp[World.cell?,arY y]at hc
 refine asu (U:=fun _ _=>False) (S:=fun b=>b=a.block) (X:=fun _=>False) (Done:=fun S X f' l' w'=>X=(fun _=>False)/\f'=f1/\l'=l) (asI fun w2 hr=>?_) (fun b h=>by simp_all) fun S' X' f' l' w' hd hk=>?_
 ·have BT:w2.cell? a=some v:=by
   simp[World.cell?]at hc⊢;rw[(hr.kept _ rfl).eq (fun i y=>y)];exact hc
  exact⟨_,_,_,_,_,_,aA w2 BT,(km (U:=fun _ _=>False) (S:=fun b=>b=a.block) rfl id).toDid,.stop ⟨rfl,rfl,rfl⟩⟩
 ·obtain⟨rfl,rfl,rfl⟩:=hd;exact k w' (cA.of hk) fun b hb=>hk.kept b hb id
theorem Js{Wg:Nat}{a:Nat}(h:lJ Z a)(h1:a≠Fd)(h2:a≠Wg):lJ (fun l=>Z l\/AA (mC Fd Mp Wg X P k st) l) a:=by
 intro l hl y;rcases y with y|y
 ·exact h l hl y
 ·cases l with
  |cell ad=>
   have:=hl;rcases y.1 with e|e
   ·exact h1 (this.symm.trans e)
   ·exact h2 (this.symm.trans e)
  |_=>exact y.elim
theorem BC(hX:X.size<=200)(hP:P.size<=30)(hk:k<=6)(hq:1<=q)(vy:q<=8)(hs:1<=st)(qb:st<=200)(hn:1<=n)(Ge:n<=8)(bY:PR.globals.size<=w.heap.size)
  (kk:∀Z' Mp w',(∀l,Z l->Z' l)->(∀l,Z' l->Z l\/∃a:Addr,l=.cell a/\w.heap.size<=a.block)->cA Z w w'->w.heap.size<=Mp->lJ Z' Mp->oQ (kH X P k st (cv X P k q st)) (w'.heap[Mp]?)->Mp<w'.heap.size->aZ PR Qq Z' (c.finish (.map (some Mp))) cs w'):
  aZ PR Qq Z (asj PR 122 #[.string X,.string P,qp k q st,iv n] .normal) (c::cs) w:=by
 refine adZ fun Rf Sg By Mp Fd Fp J1 w1 L1=>?_;refine ad0 hX hP hk hq vy hs qb (arw bY L1.ta.grow) L1 J1 fun b cap J2 w2 L2 hN=>?_;refine ad1 hX hP hk hs qb hn Ge (arw bY L2.ta.grow) L2 L1.o7 hN J2 fun Wg J3 w3 hR hW1 hW2 hM hF ht ho aV=>?_;have o1:=L2.o1;have o2:=L2.o2;have o3:=L2.o3;have o4:=L2.o4;have o5:=L2.o5;have o6:=L2.o6;have o7:=L2.o7;have s3:=hR.grow;have key:=fun a h1 h2 h3 h4=>(hR.kept a ⟨h1,h2,h3⟩).eq (AZ h4 (by omega));have rFp:w3.heap[Fp]?=some (.cells #[ptr Fd] 182):=(key Fp o7 (by omega) L2.ofp (by omega)).trans L2.fp;have g13:cA Z w w3:=⟨fun a ha hz=>(key a (by omega) (by omega) hz (by omega)).trans (L2.ta.old a ha hz),arw L2.ta.grow s3,ht.trans L2.ta.tape,hR.env.trans L2.ta.env,ho.trans L2.ta.output⟩;have oFp:lJ (fun l=>Z l\/AA (mC Fd Mp Wg X P k st) l) Fp:=Js L2.ofp (by omega) (by omega);have oMp:lJ (fun l=>Z l\/AA (mC Fd Mp Wg X P k st) l) Mp:=Js L2.omp (by omega) (by omega);clear key;refine arN 60 _ rfl ee6 rfl fun J4 w4 g4 h4 _ ld _=>?_;refine aZ.ajV (a:=⟨Fp,0,none⟩) (fun w2 hc=>ez ld Ue hc jP) (by rw[cell_of_row _ Fp 0 _ _ _ (g4.at rFp oFp)];rfl) oFp fun w5 g5 h5=>?_;refine arN 60 (EE7 X P k q st n Rf Sg By Fd Fp J4 (c::cs)) rfl ee7 rfl fun J5 w6 g6 h6 _ ld2 _=>?_;have L3:=(h6 Fd (by have:=g4.grow;have:=g5.grow;omega)).trans ((h5 Fd (by have:=g4.grow;omega)).trans ((h4 Fd (by omega)).trans hF));have hM6:w6.heap[Mp]?=w3.heap[Mp]?:=(h6 Mp (by have:=g4.grow;have:=g5.grow;omega)).trans ((h5 Mp (by have:=g4.grow;omega)).trans (h4 Mp (by omega)));have g36:=(g4.trans g5).trans g6;have s36:=g36.grow;refine aZ.tz (U:=(mC Fd Mp Wg X P k st).U) (S:=fun a=>a=Fd) (X:=fun _=>False) (Done:=fun S' X' g' w'=>X'=(fun _=>False)/\g'=G ((eF sE7 (qR (aE X P k q st n) Rf Sg By Fp) J5).finish (.map (some Mp))) (c::cs)) (Tz.one rfl fun w7 pW=>?_) (fun hlo a ha=>?_) fun S' X' g' w7 hd hk=>?_
 ·have hc:w7.cell? ⟨Fd,2,none⟩=some (.map (some Mp)):=dG (U:=(mC Fd Mp Wg X P k st).U) (S:=fun a=>a=Fd) rfl (fun y=>by have:=y.2;omega) (by rw[cell_of_row _ Fd 2 _ _ _ L3];rfl) pW;exact⟨_,w7,_,_,_,ez ld2 adX hc jP,km rfl (fun y=>by have h2:(2:Nat)<2:=y.2;omega),.stop ⟨rfl,rfl⟩⟩
 ·subst ha;refine⟨aO L3,fun l hl hz=>?_⟩;rcases hz with y|y
  ·exact absurd y (L2.ofd l hl)
  ·cases l with
   |cell ad=>exact⟨ad,rfl,y⟩
   |_=>exact y.elim
 ·obtain⟨rfl,rfl⟩:=hd;refine⟨_,_,rfl,aZ.pure 4 fun w8 hk8=>?_⟩;rw[adY];have hM8:w8.heap[Mp]?=w3.heap[Mp]?:=(hk8.kept Mp (by have:=hk.grow;omega) id).trans ((hk.kept Mp (by omega) id).trans hM6);have s8:=hk8.grow;have s7:=hk.grow;refine kk _ Mp w8 (fun l hl=>.inl hl) (fun l hl=>?_) ?_ (by omega) oMp (by rw[hM8];exact hM) (by omega)
  ·rcases hl with y|y
   ·exact .inl y
   ·cases l with
    |cell ad=>
     refine .inr ⟨ad,rfl,?_⟩;have:=L2.ta.grow;rcases y.1 with e|e
     ·rw[e];exact arw (by omega) (aq7 Fd)
     ·rw[e];exact arw (by omega) (aq7 Wg)
    |_=>exact y.elim
  ·have k38:∀a,a<w.heap.size->lJ Z a->w8.heap[a]?=w3.heap[a]?:=fun a ha hz=>by
    have h1:=L2.ta.grow;exact(hk8.kept a (by omega) id).trans ((hk.kept a (by omega) id).trans ((h6 a (by have:=g4.grow;have:=g5.grow;omega)).trans ((h5 a (by have:=g4.grow;omega)).trans (h4 a (by omega)))))
   exact⟨fun a ha hz=>(k38 a ha hz).trans (g13.old a ha hz),by have:=g13.grow;omega,hk8.tape.trans (hk.tape.trans (g36.tape.trans g13.tape)),hk8.env.trans (hk.env.trans (g36.env.trans g13.env)),hk8.output.trans (hk.output.trans (g36.output.trans g13.output))⟩
end
end Ph
namespace Ph
open Conc Ren
theorem re{a:Nat}(hZ:∀l,Z' l->Z l\/∃a:Addr,l=.cell a/\w.heap.size<=a.block)(h:lJ Z a)(ha:a<w.heap.size):lJ Z' a:=by
 intro l hl y;rcases hZ l y with y|⟨ad,rfl,hb⟩
 ·exact h l hl y
 ·have:ad.block=a:=hl;omega
end Ph
namespace Ph
open Conc Ren
open Maps (Keyed IsMap Tidy has)
theorem VD{g:Cq}(h:oQ g (w.heap[b]?)):∃nn l,w.ownsMap PR 3 (plainElem PR 3) b nn (.map l)/\IK l g/\l.Pairwise (fun p q=>p.1≠q.1):=by
 obtain⟨es,clock,l,h1,F,h2,hR⟩:=h;have ho:w.ownsMap PR 3 _ b _ (.map l):=⟨es,clock,h1,F,aq7 _,by rw[h2]⟩;refine⟨es.size,l,ho,hR,?_⟩;obtain⟨l',e1,e2,_⟩:=ho.entries K3k;simp_all
theorem VE{g:Cq}{nn:Nat}{l:List _}(ho:w.ownsMap PR 3 (plainElem PR 3) b nn (.map l))(hR:IK l g)(hg:g e=some d)(he:e<1000000):(Instr.lookup 166 (.map (some b)) (.int .i64 e) false).run PR w=.ok (.int .i64 d) w:=by
 have I9:keyOf PR 3 (.int .i64 e)=some (.int .i64 e):=by
  unfold keyOf;simp[mapKey,AY he]
 obtain⟨c,h1,h2,h3⟩:=ho.lookup_int K3k adf u3 (aav w) I9;have:=hR.at_ e;simp_all
theorem Jt{g:Cq}{l:List _}(hR:IK l g)(hp:l.Pairwise (fun p q=>p.1≠q.1))(L:List Nat)(hL:L.Pairwise (· < ·))(hm:∀e,e∈L↔(g e).isSome=true):
  (∀ss:List Int,ss.Perm (intKeys (.map l))->ss.mergeSort (fun x y=>decide (x<=y))=L.map (fun e=>((e:Nat):Int)))/\l.length=L.length:=by
 have Oy:(L.map (fun e=>((e:Nat):Int))).Perm (intKeys (.map l)):=by
  refine perm_intKeys hp (fun p PG=>by obtain⟨e,_,h⟩:=hR.keys p PG;simp_all) ?_ fun x=>?_
  ·show List.Pairwise _ _
   rw[arM];exact hL.imp fun h e=>by omega
  ·rw[arO];constructor
   ·rintro⟨e,he,rfl⟩;rw[hR.has e];simp_all
   ·intro h;have h':=h;rw[Go.Maps.has_eq,List.any_eq_true]at h';obtain⟨p,PG,hs⟩:=h';obtain⟨e,_,h2⟩:=hR.keys p PG;rw[h2]at hs;have hx:=by simpa[Lit.sameKey]using hs
    subst hx;rw[hR.has e]at h;exact⟨e,(hm e).2 h,rfl⟩
 refine⟨fun ss hs=>?_,?_⟩
 ·have e1:=mergeSort_of_perm_i (hs.trans Oy.symm);rw[e1];refine List.mergeSort_of_pairwise ?_;rw[arM];exact hL.imp fun h=>by simp;omega
 ·have:=Oy.length_eq;simp[intKeys]at this;omega
end Ph
namespace Ph
theorem yK(e:Nat):∀(L:List (Nat×Nat)) (g:Cq),(∀d,L.foldl better g e=some d->g e=some d\/(e,d)∈L)/\(∀d',(e,d')∈L->∃d,L.foldl better g e=some d/\d<=d')/\(∀d',g e=some d'->∃d,L.foldl better g e=some d/\d<=d')
 |[],g=>⟨fun d h=>.inl h,(fun d' h=>by cases h),fun d' h=>⟨d',h,aq7 _⟩⟩
 |(x,y)::L,g=>by
  obtain⟨h1,h2,h3⟩:=yK e L (better g (x,y));by_cases hx:e=x
  ·subst hx;have hbN:g e=none->better g (e,y) e=some y:=fun h=>by simp[better,h]
   have hbS:∀z,g e=some z->better g (e,y) e=some (min z y):=fun z h=>by simp[better,h]
   refine⟨fun d hd=>?_,fun d' S4=>?_,fun d' S4=>?_⟩
   ·rcases h1 d hd with h|h
    ·cases hg:g e with
     |none=>rw[hbN hg]at h;simp_all
     |some z=>
      rw[hbS z hg]at h;simp only[Option.some.injEq]at h;rcases asd z y with hh|hh
      ·simp_all
      ·simp_all
    ·simp_all
   ·rcases List.mem_cons.1 S4 with h|h
    ·cases h;have:∃z,better g (e,y) e=some z/\z<=y:=by
      cases hg:g e with
      |none=>exact⟨y,hbN hg,aq7 _⟩
      |some z=>exact⟨min z y,hbS z hg,Nat.min_le_right _ _⟩
     obtain⟨z,hz,YD⟩:=this;obtain⟨d,hd,hdz⟩:=h3 z hz;exact⟨d,hd,by omega⟩
    ·exact h2 d' h
   ·have:=hbS d' S4;obtain⟨d,hd,hdz⟩:=h3 _ this;exact⟨d,hd,by omega⟩
  ·have hb:better g (x,y) e=g e:=by simp[better,hx]
   simp_all
theorem yL(X P:ByteArray)(k st:Nat):∀(ay:List Nat) g,ay.foldl (fun g x=>(yi X P k st x).foldl better g) g=(ay.flatMap (yi X P k st)).foldl better g
 |[],g=>rfl
 |x::l,g=>by simp;exact yL X P k st l _
theorem Ju(X P:ByteArray)(k q st:Nat)(hq:1<=q)(aA:1<=st)(hkP:k<P.size)(e:Nat):kH X P k st (cv X P k q st) e=if e<=X.size/\(best P X k e).1<=k then some (best P X k e).1 else none:=by
 unfold kH;rw[yL];obtain⟨h1,h2,_⟩:=yK e ((cv X P k q st).flatMap (yi X P k st)) _;have ge:∀d,(e,d)∈(cv X P k q st).flatMap (yi X P k st)->e<=X.size/\d<=k/\(best P X k e).1<=d:=by
  intro d hd;obtain⟨x,hx,hm⟩:=asD.1 hd;have hxl:=(qC _).1 hx;have:=(lr _ st x aA).2 hxl.1;exact Vv X P k q st x e d (by omega) hm
 by_cases hc:e<=X.size/\(best P X k e).1<=k
 ·rw[if_pos hc];obtain⟨x,hx,hm⟩:=M5 X P k q st e hq aA hc.1 hc.2 hkP;obtain⟨d,hd,hle⟩:=h2 _ (asD.2 ⟨x,hx,hm⟩);rw[hd];rcases h1 d hd with h|h
  ·cases h
  ·have:=ge d h;congr 1;omega
 ·rw[if_neg hc];cases hr:((cv X P k q st).flatMap _).foldl better _ e with
  |none=>rfl
  |some d=>
   rcases h1 d hr with h|h
   ·cases h
   ·have:=ge d h;omega
end Ph
end Go.Proofs.YtdcjnhipenbcfaaGreatDoor
