import Derived.Test.YtdcjnhipenbcfaaGreatDoorCommas
import Derived.Test.YtdcjnhipenbcfaaGreatDoorAttempt
import Derived.Test.YtdcjnhipenbcfaaGreatDoorBoth
namespace Go.Proofs.YtdcjnhipenbcfaaGreatDoor
open Go.RowKit
set_option linter.unusedVariables false

/-- the error at which Bins' reading ends -/
def binC (ref bases : ByteArray) : Int := if (sRef ref).2 = true then 2 else if bases.size < 1 ∨ 30 < bases.size ∨ bases.data.toList.all isb = false then 5 else 0

set_option maxHeartbeats 1000000 in
theorem binsLit_ok (ref bases : ByteArray) (x y u z : Nat) (a b : ByteArray) (v' : Value) (w : World) (h1 : ref.size ≤ 400) (hr : (sRef ref).2 = false) (hb1 : 1 ≤ bases.size) (hb2 : bases.size ≤ 30) (hb3 : bases.data.toList.all isb = true)
    (hx : w.cell? ⟨x, 0, none⟩ = some (.string ref)) (hu : w.cell? ⟨u, 0, none⟩ = some (.string bases)) (hy : RB w y a b) (hz : w.cell? ⟨z, 0, none⟩ = some v')
    (hfz : w.frozen? ⟨z, 0, none⟩ = false) (huy : u ≠ y) (hzy : z ≠ y) :
    Calls Tryz.prog 42 #[.pointer (some ⟨x, 0, none⟩), .pointer (some ⟨y, 0, none⟩), .pointer (some ⟨u, 0, none⟩), .pointer (some ⟨z, 0, none⟩)] w fun e w' =>
      e = .returned (.tuple #[]) ∧ RB w' y (qNm ref) (str (refAll ref).2) ∧ w'.cell? ⟨z, 0, none⟩ = some (.string (str (bases.data.toList.map gb))) ∧ Kept2 w w' y z := by
  have HR := laid hr
  have HB := laid hb3
  clear hr hb3
  have hyb := hy.lt
  have hub : u < w.heap.size := by have := block_lt_of_cell hu; simpa using this
  have hzb : z < w.heap.size := by have := block_lt_of_cell hz; simpa using this
  generalize hX : str (refAll ref).2 = X
  generalize hQ : qNm ref = QN
  have HQ := laid hQ
  clear hQ
  generalize hY : str (bases.data.toList.map gb) = Y
  have HX := laid hX
  have HY := laid hY
  clear hX hY
  go_enter Tryz.func42, Tryz.ntmps42
  go_wp2_with fail
  refine (readReference_s ref _ (by omega)).mono ?_
  rintro e w1 ⟨k1, k2, hbe1⟩
  rw [HX.out, HQ.out] at k1
  obtain rfl := k1 HR.out
  clear k1 k2 HR HX HQ
  have hy1 : RB w1 y a b := hy.at (hbe1.block y hyb)
  have hu1 : w1.cell? ⟨u, 0, none⟩ = some (.string bases) := by rw [(bcell hbe1).1 u 0 hub]; exact hu
  have hz1 : w1.cell? ⟨z, 0, none⟩ = some v' := by rw [(bcell hbe1).1 z 0 hzb]; exact hz
  have hfz1 : w1.frozen? ⟨z, 0, none⟩ = false := by rw [(bcell hbe1).2 z 0 hzb]; exact hfz
  have c0 := hy1.c0
  have c1 := hy1.c1
  have f0 := hy1.fz 0
  have f1 := hy1.fz 1
  have e1 := hy1.put QN X
  obtain ⟨_, _, hgp⟩ := met_put (.string QN) (.string X) c0 c1
  have hg1 : w.grownBy ((w1.setCell ⟨y, 0, none⟩ (.string QN)).setCell ⟨y, 1, none⟩ (.string X)) (some y) := grownBy_trans (grownBy_of_below hbe1 _) hgp
  have hsz1 : w.heap.size ≤ w1.heap.size := hbe1.size
  have hu2 : ((w1.setCell ⟨y, 0, none⟩ (.string QN)).setCell ⟨y, 1, none⟩ (.string X)).cell? ⟨u, 0, none⟩ = some (.string bases) := by rw [cell_kept hgp (by omega) (by simpa using huy)]; exact hu1
  have hz2 : ((w1.setCell ⟨y, 0, none⟩ (.string QN)).setCell ⟨y, 1, none⟩ (.string X)).cell? ⟨z, 0, none⟩ = some v' := by rw [cell_kept hgp (by omega) (by simpa using hzy)]; exact hz1
  have hfz2 : ((w1.setCell ⟨y, 0, none⟩ (.string QN)).setCell ⟨y, 1, none⟩ (.string X)).frozen? ⟨z, 0, none⟩ = false := by rw [World.frozen?_of_block (hgp.block z (by omega) (by simpa using hzy))]; exact hfz1
  have hzb2 : z < ((w1.setCell ⟨y, 0, none⟩ (.string QN)).setCell ⟨y, 1, none⟩ (.string X)).heap.size := by have := hgp.size; omega
  clear hbe1 hgp
  go_wp2_with fail
  clear c0 c1 f0 f1 hy1 hu1 hz1 hfz1
  generalize (w1.setCell ⟨y, 0, none⟩ (.string QN)).setCell ⟨y, 1, none⟩ (.string X) = w2 at *
  refine (readBases_ok bases 1 30 _ (by omega) (by omega) (by omega) (by omega) HB.out).mono ?_
  rintro e w3 ⟨rfl, hbe3⟩
  rw [HY.out]
  clear HY
  have hz3 : w3.cell? ⟨z, 0, none⟩ = some v' := by rw [(bcell hbe3).1 z 0 hzb2]; exact hz2
  have hfz3 : w3.frozen? ⟨z, 0, none⟩ = false := by rw [(bcell hbe3).2 z 0 hzb2]; exact hfz2
  have hy3 : RB w3 y QN X := e1.at (hbe3.block y e1.lt)
  have hg3 : w2.grownBy (w3.setCell ⟨z, 0, none⟩ (.string Y)) (some z) := grownBy_trans (grownBy_of_below hbe3 _) (grownBy_put w3 z 0 _)
  have hgp := grownBy_put w3 z 0 (.string Y)
  have hsz3 := hbe3.size
  have f1 : RB (w3.setCell ⟨z, 0, none⟩ (.string Y)) y QN X := hy3.at (hgp.block y hy3.lt (by simpa using fun h => hzy h.symm))
  have f2 : (w3.setCell ⟨z, 0, none⟩ (.string Y)).cell? ⟨z, 0, none⟩ = some (.string Y) := World.cell?_setCell_same _ _ _ hz3
  clear hbe3 hgp hy3
  go_wp2
  go_end0
  exact ⟨rfl, f1, f2, Kept2.of hg1 hg3⟩

set_option maxHeartbeats 1000000 in
theorem binsLit_bad (ref bases : ByteArray) (x y u z : Nat) (a b : ByteArray) (v' : Value) (w : World) (h1 : ref.size ≤ 400) (h2 : bases.size ≤ maxLen) (hbad : (sRef ref).2 = true ∨ bases.size < 1 ∨ 30 < bases.size ∨ bases.data.toList.all isb = false)
    (hx : w.cell? ⟨x, 0, none⟩ = some (.string ref)) (hu : w.cell? ⟨u, 0, none⟩ = some (.string bases)) (hy : RB w y a b) (hz : w.cell? ⟨z, 0, none⟩ = some v')
    (huy : u ≠ y) :
    Calls Tryz.prog 42 #[.pointer (some ⟨x, 0, none⟩), .pointer (some ⟨y, 0, none⟩), .pointer (some ⟨u, 0, none⟩), .pointer (some ⟨z, 0, none⟩)] w fun e w' =>
      (∃ p, e = .panicked (gives (binC ref bases) p)) ∧ Kept2 w w' y z := by
  have hyb := hy.lt
  have hub : u < w.heap.size := by have := block_lt_of_cell hu; simpa using this
  by_cases hr : (sRef ref).2 = true
  · have hc : binC ref bases = 2 := if_pos hr
    rw [hc]
    have HR := laid hr
    clear hr hc hbad
    go_enter Tryz.func42, Tryz.ntmps42
    go_wp2_with fail
    refine (readReference_s ref _ (by omega)).mono ?_
    rintro e w1 ⟨k1, k2, hbe1⟩
    obtain rfl := k2 HR.out
    exact ⟨rfl, ⟨_, rfl⟩, kept2_of_below hbe1 _ _⟩
  · have hbd := hbad.resolve_left hr
    have hc : binC ref bases = 5 := by unfold binC; rw [if_neg hr, if_pos hbd]
    rw [hc]
    rw [Bool.not_eq_true] at hr
    have HR := laid hr
    have HBD := laid hbd
    clear hr hc hbad hbd
    have hcall : ∀ W : World, Calls Tryz.prog 44 #[.string bases, .int .i64 1, .int .i64 30] W fun e w' => (∃ p, e = .panicked (gives 5 p)) ∧ Below W.heap.size W w' := by
      intro W
      by_cases hsz : (bases.size : Int) < 1 ∨ 30 < (bases.size : Int)
      · exact readBases_size bases 1 30 W h2 hsz
      · refine readBases_bad bases 1 30 W (by omega) (by omega) (by omega) (by omega) ?_
        rcases HBD.out with h | h | h
        · omega
        · omega
        · exact h
    have HCALL := laid hcall
    clear hcall
    go_enter Tryz.func42, Tryz.ntmps42
    go_wp2_with fail
    refine (readReference_s ref _ (by omega)).mono ?_
    rintro e w1 ⟨k1, k2, hbe1⟩
    obtain rfl := k1 HR.out
    clear k1 k2 HR
    generalize str (refAll ref).2 = X at *
    generalize qNm ref = QN at *
    have hy1 : RB w1 y a b := hy.at (hbe1.block y hyb)
    have hu1 : w1.cell? ⟨u, 0, none⟩ = some (.string bases) := by rw [(bcell hbe1).1 u 0 hub]; exact hu
    have c0 := hy1.c0
    have c1 := hy1.c1
    have f0 := hy1.fz 0
    have f1 := hy1.fz 1
    obtain ⟨_, _, hgp⟩ := met_put (.string QN) (.string X) c0 c1
    have hg1 : w.grownBy ((w1.setCell ⟨y, 0, none⟩ (.string QN)).setCell ⟨y, 1, none⟩ (.string X)) (some y) := grownBy_trans (grownBy_of_below hbe1 _) hgp
    have hsz1 : w.heap.size ≤ w1.heap.size := hbe1.size
    have hu2 : ((w1.setCell ⟨y, 0, none⟩ (.string QN)).setCell ⟨y, 1, none⟩ (.string X)).cell? ⟨u, 0, none⟩ = some (.string bases) := by rw [cell_kept hgp (by omega) (by simpa using huy)]; exact hu1
    clear hbe1 hgp
    go_wp2_with fail
    clear c0 c1 f0 f1 hy1 hu1
    refine (HCALL.out _).mono ?_
    rintro e w3 ⟨⟨p, rfl⟩, hbe3⟩
    exact ⟨rfl, ⟨p, rfl⟩, Kept2.of hg1 (grownBy_of_below hbe3 _)⟩

theorem binC_bad {ref bases : ByteArray} (h : (sRef ref).2 = true ∨ bases.size < 1 ∨ 30 < bases.size ∨ bases.data.toList.all isb = false) : binC ref bases ≠ 0 := by
  unfold binC
  split
  · decide
  · rename_i hr
    rw [if_pos (h.resolve_left hr)]; decide

set_option maxHeartbeats 1000000 in
theorem attemptBins_ok (ref bases : ByteArray) (x y u z : Nat) (a b : ByteArray) (v' : Value) (w : World) (h1 : ref.size ≤ 400) (hr : (sRef ref).2 = false) (hb1 : 1 ≤ bases.size) (hb2 : bases.size ≤ 30) (hb3 : bases.data.toList.all isb = true)
    (hx : w.cell? ⟨x, 0, none⟩ = some (.string ref)) (hu : w.cell? ⟨u, 0, none⟩ = some (.string bases)) (hy : RB w y a b) (hz : w.cell? ⟨z, 0, none⟩ = some v')
    (hfz : w.frozen? ⟨z, 0, none⟩ = false) (huy : u ≠ y) (hzy : z ≠ y) :
    Calls Tryz.prog 41 #[.func (.func 42) #[] #[.pointer (some ⟨x, 0, none⟩), .pointer (some ⟨y, 0, none⟩), .pointer (some ⟨u, 0, none⟩), .pointer (some ⟨z, 0, none⟩)]] w fun e w' =>
      e = .returned (.agg #[.int .i64 0, .int .i64 0]) ∧ RB w' y (qNm ref) (str (refAll ref).2) ∧ w'.cell? ⟨z, 0, none⟩ = some (.string (str (bases.data.toList.map gb))) ∧ Kept2 w w' y z := by
  have hmf : ∀ (fn : Fn) (first cap : Array Value) (w : World), (Instr.makeFunc fn first cap).run Tryz.prog w = .ok (.func fn first cap) w := fun _ _ _ _ => rfl
  have HR := laid hr
  have HB := laid hb3
  clear hr hb3
  have hxb : x < w.heap.size := by have := block_lt_of_cell hx; simpa using this
  have hyb := hy.lt
  have hub : u < w.heap.size := by have := block_lt_of_cell hu; simpa using this
  have hzb : z < w.heap.size := by have := block_lt_of_cell hz; simpa using this
  go_enter_defers Tryz.func41, Tryz.ntmps41
  go_wp2_with fail
  refine (binsLit_ok ref bases x y u z a b v' _ h1 HR.out hb1 hb2 HB.out ?_ ?_ (hy.at (heap_alloc_old _ _ hyb)) ?_ ?_ huy hzy).mono ?_
  · rw [World.cell?_alloc_past _ _ _ hxb]; exact hx
  · rw [World.cell?_alloc_past _ _ _ hub]; exact hu
  · rw [World.cell?_alloc_past _ _ _ hzb]; exact hz
  · rw [World.frozen?_alloc_past _ _ _ hzb]; exact hfz
  rintro e w1 ⟨rfl, hcy, hcz, hg⟩
  have hN := hg.block w.heap.size (by simp) (by omega) (by omega)
  rw [heap_alloc_new] at hN
  have n0 : w1.cell? ⟨w.heap.size, 0, none⟩ = some (.int .i64 0) := by rw [cell_of_row _ _ _ _ _ _ hN]; rfl
  have n1 : w1.cell? ⟨w.heap.size, 1, none⟩ = some (.int .i64 0) := by rw [cell_of_row _ _ _ _ _ _ hN]; rfl
  have z0 : w1.frozen? ⟨w.heap.size, 0, none⟩ = false := frozen_of_row _ _ _ _ _ hN
  have z1 : w1.frozen? ⟨w.heap.size, 1, none⟩ = false := frozen_of_row _ _ _ _ _ hN
  go_wp2
  obtain ⟨m0, m1, hg2⟩ := met_put (.int .i64 0) (.int .i64 0) n0 n1
  have hzw : z < w1.heap.size := by have := block_lt_of_cell hcz; simpa using this
  have hcy2 := hcy.at (hg2.block y hcy.lt (by simp; omega))
  have hcz2 := hcz
  rw [← cell_kept (j := 0) hg2 hzw (by simp; omega)] at hcz2
  have hg3 := Kept2.new hg hg2
  clear hcy hcz hN n0 n1 z0 z1 hg hg2
  generalize (w1.setCell ⟨w.heap.size, 0, none⟩ (.int .i64 0)).setCell ⟨w.heap.size, 1, none⟩ (.int .i64 0) = w2 at *
  refine leaves_cons (f := 61) (args := #[.pointer (some ⟨w.heap.size, 0, none⟩)]) (by simp) (by simp [go_sem]) ?_
  refine (catch_none _ _).mono ?_
  rintro e u' w'' ⟨rfl, rfl, rfl⟩
  refine ⟨.agg #[.int .i64 0, .int .i64 0], ?_, rfl, hcy2, hcz2, hg3⟩
  simp [results, Tryz.results41, go_sem, m0, m1]

set_option maxHeartbeats 1000000 in
theorem attemptBins_bad (ref bases : ByteArray) (x y u z : Nat) (a b : ByteArray) (v' : Value) (w : World) (h1 : ref.size ≤ 400) (h2 : bases.size ≤ maxLen) (hbad : (sRef ref).2 = true ∨ bases.size < 1 ∨ 30 < bases.size ∨ bases.data.toList.all isb = false)
    (hx : w.cell? ⟨x, 0, none⟩ = some (.string ref)) (hu : w.cell? ⟨u, 0, none⟩ = some (.string bases)) (hy : RB w y a b) (hz : w.cell? ⟨z, 0, none⟩ = some v')
    (huy : u ≠ y) :
    Calls Tryz.prog 41 #[.func (.func 42) #[] #[.pointer (some ⟨x, 0, none⟩), .pointer (some ⟨y, 0, none⟩), .pointer (some ⟨u, 0, none⟩), .pointer (some ⟨z, 0, none⟩)]] w fun e w' =>
      (∃ p, e = .returned (.agg #[.int .i64 (binC ref bases), .int .i64 p])) ∧ Kept2 w w' y z := by
  have hmf : ∀ (fn : Fn) (first cap : Array Value) (w : World), (Instr.makeFunc fn first cap).run Tryz.prog w = .ok (.func fn first cap) w := fun _ _ _ _ => rfl
  have HB := laid hbad
  clear hbad
  have hxb : x < w.heap.size := by have := block_lt_of_cell hx; simpa using this
  have hyb := hy.lt
  have hub : u < w.heap.size := by have := block_lt_of_cell hu; simpa using this
  have hzb : z < w.heap.size := by have := block_lt_of_cell hz; simpa using this
  go_enter_defers Tryz.func41, Tryz.ntmps41
  go_wp2_with fail
  refine (binsLit_bad ref bases x y u z a b v' _ h1 h2 HB.out ?_ ?_ (hy.at (heap_alloc_old _ _ hyb)) ?_ huy).mono ?_
  · rw [World.cell?_alloc_past _ _ _ hxb]; exact hx
  · rw [World.cell?_alloc_past _ _ _ hub]; exact hu
  · rw [World.cell?_alloc_past _ _ _ hzb]; exact hz
  rintro e w1 ⟨⟨p, rfl⟩, hg⟩
  have hN := hg.block w.heap.size (by simp) (by omega) (by omega)
  rw [heap_alloc_new] at hN
  have n0 : w1.cell? ⟨w.heap.size, 0, none⟩ = some (.int .i64 0) := by rw [cell_of_row _ _ _ _ _ _ hN]; rfl
  have n1 : w1.cell? ⟨w.heap.size, 1, none⟩ = some (.int .i64 0) := by rw [cell_of_row _ _ _ _ _ _ hN]; rfl
  have z0 : w1.frozen? ⟨w.heap.size, 0, none⟩ = false := frozen_of_row _ _ _ _ _ hN
  have z1 : w1.frozen? ⟨w.heap.size, 1, none⟩ = false := frozen_of_row _ _ _ _ _ hN
  refine leaves_cons (f := 61) (args := #[.pointer (some ⟨w.heap.size, 0, none⟩)]) (by simp) (by simp [go_sem]) ?_
  refine (catch_some _ _ _ (binC ref bases) p [] _ n0 n1 z0 z1).mono ?_
  rintro e u' w'' ⟨rfl, rfl, rfl⟩
  have hnb : w.heap.size < w1.heap.size := by have := block_lt_of_cell n0; simpa using this
  obtain ⟨m0, m1, hg2⟩ := met_put (.int .i64 (binC ref bases)) (.int .i64 p) n0 n1
  generalize hW : (w1.setCell ⟨w.heap.size, 0, none⟩ (.int .i64 (binC ref bases))).setCell ⟨w.heap.size, 1, none⟩ (.int .i64 p) = w2 at *
  have hsz : w.heap.size < w2.heap.size := by have := hg2.size; omega
  refine ⟨.agg #[.int .i64 (binC ref bases), .int .i64 p], ?_, ⟨p, rfl⟩, ?_⟩
  · simp [results, Tryz.results41, go_sem, m0, m1, hsz]
  · exact (Kept2.new hg hg2).alloc _
end Go.Proofs.YtdcjnhipenbcfaaGreatDoor
