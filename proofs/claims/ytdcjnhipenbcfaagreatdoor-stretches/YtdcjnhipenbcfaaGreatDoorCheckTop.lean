import Derived.Test.YtdcjnhipenbcfaaGreatDoorReadAll
import Derived.Test.YtdcjnhipenbcfaaGreatDoorAttempt
namespace Go.Proofs.YtdcjnhipenbcfaaGreatDoor
open Go.RowKit
set_option linter.unusedVariables false

/-- all blocks but two are as they were -/
structure Kept2 (w w' : World) (y z : Nat) : Prop where
  os : w'.os = w.os
  tape : w'.tape = w.tape
  output : w'.output = w.output
  size : w.heap.size ≤ w'.heap.size
  block : ∀ k, k < w.heap.size → k ≠ y → k ≠ z → w'.heap[k]? = w.heap[k]?
theorem Kept2.of {w wm w' : World} {y z : Nat} (h1 : w.grownBy wm (some y)) (h2 : wm.grownBy w' (some z)) : Kept2 w w' y z :=
  ⟨h2.os.trans h1.os, h2.tape.trans h1.tape, h2.output.trans h1.output, Nat.le_trans h1.size h2.size, fun k hk hy hz => by
    rw [h2.block k (by have := h1.size; omega) (by simpa using hz), h1.block k hk (by simpa using hy)]⟩
theorem Kept2.below {w w' : World} {y z B : Nat} (h : Kept2 w w' y z) (hB : B ≤ w.heap.size) (hy : B ≤ y) (hz : B ≤ z) : Below B w w' :=
  ⟨h.os, h.tape, h.output, h.size, fun k hk => h.block k (by omega) (by omega) (by omega)⟩
theorem Kept2.new {w w1 w2 : World} {o : Obj} {y z : Nat} (hg : Kept2 (w.alloc o) w1 y z) (h2 : w1.grownBy w2 (some w.heap.size)) : Kept2 w w2 y z := by
  refine ⟨h2.os.trans hg.os, h2.tape.trans hg.tape, h2.output.trans hg.output, ?_, fun k hk hy hz => ?_⟩
  · have := hg.size; have := h2.size; simp at *; omega
  · have hs := hg.size
    simp at hs
    rw [h2.block k (by omega) (by simp; omega), hg.block k (by simp; omega) hy hz, Below.heap_alloc w o k hk]
theorem Kept2.alloc {w w1 : World} {y z : Nat} (hg : Kept2 w w1 y z) (o : Obj) : Kept2 w (w1.alloc o) y z :=
  ⟨hg.os, hg.tape, hg.output, by have := hg.size; simp; omega, fun k hk hy hz => by
    have := hg.size
    rw [Below.heap_alloc w1 o k (by omega)]; exact hg.block k hk hy hz⟩
theorem kept2_of_below {w w' : World} (h : Below w.heap.size w w') (y z : Nat) : Kept2 w w' y z := ⟨h.os, h.tape, h.output, h.size, fun k hk _ _ => h.block k hk⟩

/-- what the document says of Check, where no text is too long: the error and the place -/
def chk (ref reads : ByteArray) : Nat × Nat :=
  if (sRef ref).2 = true then (2, (sRef ref).1) else if (sReads reads 5 0).2 = true then (3, (sReads reads 5 0).1) else (0, 0)
def checkE (ref reads : ByteArray) : Int := if 400 < ref.size ∨ 600 < reads.size then 1 else ((chk ref reads).1 : Int)
def checkP (ref reads : ByteArray) : Int := if 400 < ref.size ∨ 600 < reads.size then 0 else ((chk ref reads).2 : Int)

/-- block y holds a reference; block z holds a value of reads; block m holds a fault -/
def RB (w : World) (y : Nat) (a b : ByteArray) : Prop := w.heap[y]? = some (.cells #[.string a, .string b] 68 (0, 0))
def ZB (w : World) (z : Nat) (v : Value) : Prop := w.heap[z]? = some (.cells #[v] 90 (0, 0))
def FB (w : World) (m : Nat) (c p : Int) : Prop := w.heap[m]? = some (.cells #[.int .i64 c, .int .i64 p] 70 (0, 0))
theorem RB.c0 {w : World} {y : Nat} {a b : ByteArray} (h : RB w y a b) : w.cell? ⟨y, 0, none⟩ = some (.string a) := by rw [cell_of_row w y 0 _ _ _ h]; rfl
theorem RB.c1 {w : World} {y : Nat} {a b : ByteArray} (h : RB w y a b) : w.cell? ⟨y, 1, none⟩ = some (.string b) := by rw [cell_of_row w y 1 _ _ _ h]; rfl
theorem RB.fz {w : World} {y : Nat} {a b : ByteArray} (h : RB w y a b) (j : Nat) : w.frozen? ⟨y, j, none⟩ = false := frozen_of_row w y j _ _ h
theorem RB.lt {w : World} {y : Nat} {a b : ByteArray} (h : RB w y a b) : y < w.heap.size := by have := block_lt_of_cell h.c0; simpa using this
theorem RB.put {w : World} {y : Nat} {a b : ByteArray} (h : RB w y a b) (a' b' : ByteArray) : RB ((w.setCell ⟨y, 0, none⟩ (.string a')).setCell ⟨y, 1, none⟩ (.string b')) y a' b' := by
  have h1 : RB (w.setCell ⟨y, 0, none⟩ (.string a')) y a' b := by unfold RB at *; rw [heap_setCell_same w y 0 _ _ (.string a') h]; rfl
  unfold RB at *; rw [heap_setCell_same _ y 1 _ _ (.string b') h1]; rfl
theorem RB.at {w w' : World} {y : Nat} {a b : ByteArray} (h : RB w y a b) (he : w'.heap[y]? = w.heap[y]?) : RB w' y a b := by unfold RB at *; rw [he]; exact h
theorem ZB.c0 {w : World} {z : Nat} {v : Value} (h : ZB w z v) : w.cell? ⟨z, 0, none⟩ = some v := by rw [cell_of_row w z 0 _ _ _ h]; rfl
theorem ZB.fz {w : World} {z : Nat} {v : Value} (h : ZB w z v) (j : Nat) : w.frozen? ⟨z, j, none⟩ = false := frozen_of_row w z j _ _ h
theorem ZB.lt {w : World} {z : Nat} {v : Value} (h : ZB w z v) : z < w.heap.size := by have := block_lt_of_cell h.c0; simpa using this
theorem ZB.put {w : World} {z : Nat} {v : Value} (h : ZB w z v) (v' : Value) : ZB (w.setCell ⟨z, 0, none⟩ v') z v' := by
  unfold ZB at *; rw [heap_setCell_same w z 0 _ _ v' h]; rfl
theorem ZB.at {w w' : World} {z : Nat} {v : Value} (h : ZB w z v) (he : w'.heap[z]? = w.heap[z]?) : ZB w' z v := by unfold ZB at *; rw [he]; exact h
theorem FB.c0 {w : World} {m : Nat} {c p : Int} (h : FB w m c p) : w.cell? ⟨m, 0, none⟩ = some (.int .i64 c) := by rw [cell_of_row w m 0 _ _ _ h]; rfl
theorem FB.c1 {w : World} {m : Nat} {c p : Int} (h : FB w m c p) : w.cell? ⟨m, 1, none⟩ = some (.int .i64 p) := by rw [cell_of_row w m 1 _ _ _ h]; rfl
theorem FB.fz {w : World} {m : Nat} {c p : Int} (h : FB w m c p) (j : Nat) : w.frozen? ⟨m, j, none⟩ = false := frozen_of_row w m j _ _ h
theorem FB.lt {w : World} {m : Nat} {c p : Int} (h : FB w m c p) : m < w.heap.size := by have := block_lt_of_cell h.c0; simpa using this
theorem FB.at {w w' : World} {m : Nat} {c p : Int} (h : FB w m c p) (he : w'.heap[m]? = w.heap[m]?) : FB w' m c p := by unfold FB at *; rw [he]; exact h

set_option maxHeartbeats 1000000 in
theorem bothLit_ok (ref reads : ByteArray) (x y u z : Nat) (a b : ByteArray) (v : Value) (w : World) (h1 : ref.size ≤ 400) (h2 : reads.size ≤ 600)
    (hx : w.cell? ⟨x, 0, none⟩ = some (.string ref)) (hu : w.cell? ⟨u, 0, none⟩ = some (.string reads)) (hy : RB w y a b) (hz : ZB w z v) (huy : u ≠ y) (hzy : z ≠ y) (ha : (sRef ref).2 = false) (hb : (sReads reads 5 0).2 = false) :
    Calls Tryz.prog 89 #[.pointer (some ⟨x, 0, none⟩), .pointer (some ⟨y, 0, none⟩), .pointer (some ⟨u, 0, none⟩), .pointer (some ⟨z, 0, none⟩)] w fun e w' =>
      e = .returned (.tuple #[]) ∧ RB w' y (qNm ref) (str (refAll ref).2) ∧ (∃ V, ZB w' z V ∧ w'.ownsRow w.heap.size 131 3 V (readsList reads 5 0).length (flatR (readsList reads 5 0))) ∧ Kept2 w w' y z := by
  have HA := laid ha
  have HB := laid hb
  clear ha hb
  have hyb := hy.lt
  have hzb := hz.lt
  have hub : u < w.heap.size := by have := block_lt_of_cell hu; simpa using this
  generalize hX : str (refAll ref).2 = X
  generalize hY : qNm ref = Y
  have HX := laid hX
  have HY := laid hY
  clear hX hY
  generalize hL : readsList reads 5 0 = LR
  have HL := laid hL
  clear hL
  go_enter Tryz.func89, Tryz.ntmps89
  go_wp2_with fail
  refine (readReference_s ref _ (by omega)).mono ?_
  rintro e w1 ⟨k1, k2, hb1⟩
  rw [HX.out, HY.out] at k1
  obtain rfl := k1 HA.out
  clear k1 k2 HA HX HY
  have hy1 : RB w1 y a b := hy.at (hb1.block y hyb)
  have hz1 : ZB w1 z v := hz.at (hb1.block z hzb)
  have hu1 : w1.cell? ⟨u, 0, none⟩ = some (.string reads) := by rw [(bcell hb1).1 u 0 hub]; exact hu
  have c0 := hy1.c0
  have c1 := hy1.c1
  have f0 := hy1.fz 0
  have f1 := hy1.fz 1
  have hy2 := hy1.put Y X
  obtain ⟨_, _, hgp⟩ := met_put (.string Y) (.string X) c0 c1
  have hsz1 := hb1.size
  have hu2 : ((w1.setCell ⟨y, 0, none⟩ (.string Y)).setCell ⟨y, 1, none⟩ (.string X)).cell? ⟨u, 0, none⟩ = some (.string reads) := by rw [cell_kept hgp (by omega) (by simpa using huy)]; exact hu1
  have hz2 : ZB ((w1.setCell ⟨y, 0, none⟩ (.string Y)).setCell ⟨y, 1, none⟩ (.string X)) z v := hz1.at (hgp.block z (by omega) (by simpa using hzy))
  have hg1 : w.grownBy ((w1.setCell ⟨y, 0, none⟩ (.string Y)).setCell ⟨y, 1, none⟩ (.string X)) (some y) := grownBy_trans (grownBy_of_below hb1 _) hgp
  clear hb1 hgp
  go_wp2_with fail
  clear c0 c1 f0 f1 hy1 hz1 hu1
  generalize (w1.setCell ⟨y, 0, none⟩ (.string Y)).setCell ⟨y, 1, none⟩ (.string X) = w2 at *
  refine (readReads_any reads _ (by omega)).mono ?_
  rintro e w3 ⟨k1, k2, hb3⟩
  rw [HL.out] at k1
  obtain ⟨V, rfl, hown⟩ := k1 HB.out
  clear k1 k2 HB HL
  obtain ⟨va, cap, rfl⟩ : ∃ va cap, V = .slice va LR.length cap := by
    rcases hown.2 with ⟨h1, h2⟩ | ⟨g, cap, cur, h1, _⟩
    · exact ⟨none, 0, by rw [h1, h2]⟩
    · exact ⟨_, cap, h1⟩
  have hy3 : RB w3 y Y X := hy2.at (hb3.block y hy2.lt)
  have hz3 : ZB w3 z v := hz2.at (hb3.block z hz2.lt)
  have c0 := hz3.c0
  have f0 := hz3.fz 0
  have hz4 := hz3.put (.slice va LR.length cap)
  have hgp := grownBy_put w3 z 0 (.slice va LR.length cap)
  have hy4 : RB (w3.setCell ⟨z, 0, none⟩ (.slice va LR.length cap)) y Y X := hy3.at (hgp.block y hy3.lt (by simpa using fun h => hzy h.symm))
  have hg3 : w2.grownBy (w3.setCell ⟨z, 0, none⟩ (.slice va LR.length cap)) (some z) := grownBy_trans (grownBy_of_below hb3 _) hgp
  have hsz2 := hg1.size
  have hown4 : (w3.setCell ⟨z, 0, none⟩ (.slice va LR.length cap)).ownsRow w.heap.size 131 3 (.slice va LR.length cap) LR.length (flatR LR) :=
    row_base3 (hown.kept hgp (row_ne hown z (.inl (by have := hz2.lt; omega)))) (by omega)
  clear hgp hb3 hown
  go_wp2
  go_end0
  exact ⟨rfl, hy4, ⟨_, hz4, hown4⟩, Kept2.of hg1 hg3⟩

set_option maxHeartbeats 1000000 in
theorem bothLit_bad (ref reads : ByteArray) (x y u z : Nat) (a b : ByteArray) (v : Value) (w : World) (h1 : ref.size ≤ 400) (h2 : reads.size ≤ 600)
    (hx : w.cell? ⟨x, 0, none⟩ = some (.string ref)) (hu : w.cell? ⟨u, 0, none⟩ = some (.string reads)) (hy : RB w y a b) (hz : ZB w z v) (huy : u ≠ y) (hzy : z ≠ y) (hbad : (sRef ref).2 = true ∨ (sReads reads 5 0).2 = true) :
    Calls Tryz.prog 89 #[.pointer (some ⟨x, 0, none⟩), .pointer (some ⟨y, 0, none⟩), .pointer (some ⟨u, 0, none⟩), .pointer (some ⟨z, 0, none⟩)] w fun e w' =>
      e = .panicked (gives ((chk ref reads).1 : Int) ((chk ref reads).2 : Int)) ∧ (∃ a' b', RB w' y a' b') ∧ ZB w' z v ∧ Kept2 w w' y z := by
  have hyb := hy.lt
  have hzb := hz.lt
  have hub : u < w.heap.size := by have := block_lt_of_cell hu; simpa using this
  by_cases ha : (sRef ref).2 = true
  · have hc : chk ref reads = (2, (sRef ref).1) := if_pos ha
    rw [hc]
    have HA := laid ha
    clear hbad hc ha
    go_enter Tryz.func89, Tryz.ntmps89
    go_wp2_with fail
    refine (readReference_s ref _ (by omega)).mono ?_
    rintro e w1 ⟨k1, k2, hb1⟩
    obtain rfl := k2 HA.out
    exact ⟨rfl, rfl, ⟨a, b, hy.at (hb1.block y hyb)⟩, hz.at (hb1.block z hzb), kept2_of_below hb1 _ _⟩
  · have hb : (sReads reads 5 0).2 = true := hbad.resolve_left ha
    have hc : chk ref reads = (3, (sReads reads 5 0).1) := by unfold chk; rw [if_neg ha, if_pos hb]
    rw [hc]
    rw [Bool.not_eq_true] at ha
    have HA := laid ha
    have HB := laid hb
    clear hbad hc ha hb
    go_enter Tryz.func89, Tryz.ntmps89
    go_wp2_with fail
    refine (readReference_s ref _ (by omega)).mono ?_
    rintro e w1 ⟨k1, k2, hb1⟩
    generalize str (refAll ref).2 = X at *
    generalize qNm ref = Y at *
    obtain rfl := k1 HA.out
    clear k1 k2 HA
    have hy1 : RB w1 y a b := hy.at (hb1.block y hyb)
    have hz1 : ZB w1 z v := hz.at (hb1.block z hzb)
    have hu1 : w1.cell? ⟨u, 0, none⟩ = some (.string reads) := by rw [(bcell hb1).1 u 0 hub]; exact hu
    have c0 := hy1.c0
    have c1 := hy1.c1
    have f0 := hy1.fz 0
    have f1 := hy1.fz 1
    have hy2 := hy1.put Y X
    obtain ⟨_, _, hgp⟩ := met_put (.string Y) (.string X) c0 c1
    have hsz1 := hb1.size
    have hu2 : ((w1.setCell ⟨y, 0, none⟩ (.string Y)).setCell ⟨y, 1, none⟩ (.string X)).cell? ⟨u, 0, none⟩ = some (.string reads) := by rw [cell_kept hgp (by omega) (by simpa using huy)]; exact hu1
    have hz2 : ZB ((w1.setCell ⟨y, 0, none⟩ (.string Y)).setCell ⟨y, 1, none⟩ (.string X)) z v := hz1.at (hgp.block z (by omega) (by simpa using hzy))
    have hg1 : w.grownBy ((w1.setCell ⟨y, 0, none⟩ (.string Y)).setCell ⟨y, 1, none⟩ (.string X)) (some y) := grownBy_trans (grownBy_of_below hb1 _) hgp
    clear hb1 hgp
    go_wp2_with fail
    clear c0 c1 f0 f1 hy1 hz1 hu1
    generalize (w1.setCell ⟨y, 0, none⟩ (.string Y)).setCell ⟨y, 1, none⟩ (.string X) = w2 at *
    refine (readReads_any reads _ (by omega)).mono ?_
    rintro e w3 ⟨k1, k2, hb3⟩
    obtain rfl := k2 HB.out
    exact ⟨rfl, rfl, ⟨Y, X, hy2.at (hb3.block y hy2.lt)⟩, hz2.at (hb3.block z hz2.lt), Kept2.of hg1 (grownBy_of_below hb3 _)⟩

set_option maxHeartbeats 1000000 in
theorem attemptBoth_ok (ref reads : ByteArray) (x y u z : Nat) (a b : ByteArray) (v : Value) (w : World) (h1 : ref.size ≤ 400) (h2 : reads.size ≤ 600)
    (hx : w.cell? ⟨x, 0, none⟩ = some (.string ref)) (hu : w.cell? ⟨u, 0, none⟩ = some (.string reads)) (hy : RB w y a b) (hz : ZB w z v) (huy : u ≠ y) (hzy : z ≠ y) (ha : (sRef ref).2 = false) (hb : (sReads reads 5 0).2 = false) :
    Calls Tryz.prog 41 #[.func (.func 89) #[] #[.pointer (some ⟨x, 0, none⟩), .pointer (some ⟨y, 0, none⟩), .pointer (some ⟨u, 0, none⟩), .pointer (some ⟨z, 0, none⟩)]] w fun e w' =>
      e = .returned (.agg #[.int .i64 0, .int .i64 0]) ∧ RB w' y (qNm ref) (str (refAll ref).2) ∧ (∃ V, ZB w' z V ∧ w'.ownsRow w.heap.size 131 3 V (readsList reads 5 0).length (flatR (readsList reads 5 0))) ∧ Kept2 w w' y z := by
  have hmf : ∀ (fn : Fn) (first cap : Array Value) (w : World), (Instr.makeFunc fn first cap).run Tryz.prog w = .ok (.func fn first cap) w := fun _ _ _ _ => rfl
  have HA := laid ha
  have HB := laid hb
  clear ha hb
  have hxb : x < w.heap.size := by have := block_lt_of_cell hx; simpa using this
  have hub : u < w.heap.size := by have := block_lt_of_cell hu; simpa using this
  have hyb := hy.lt
  have hzb := hz.lt
  go_enter_defers Tryz.func41, Tryz.ntmps41
  go_wp2_with fail
  refine (bothLit_ok ref reads x y u z a b v _ h1 h2 ?_ ?_ (hy.at (heap_alloc_old _ _ hyb)) (hz.at (heap_alloc_old _ _ hzb)) huy hzy HA.out HB.out).mono ?_
  · rw [World.cell?_alloc_past _ _ _ hxb]; exact hx
  · rw [World.cell?_alloc_past _ _ _ hub]; exact hu
  rintro e w1 ⟨rfl, hcy, ⟨V, hcz, hown⟩, hg⟩
  have hN := hg.block w.heap.size (by simp) (by omega) (by omega)
  rw [heap_alloc_new] at hN
  have n0 : w1.cell? ⟨w.heap.size, 0, none⟩ = some (.int .i64 0) := by rw [cell_of_row _ _ _ _ _ _ hN]; rfl
  have n1 : w1.cell? ⟨w.heap.size, 1, none⟩ = some (.int .i64 0) := by rw [cell_of_row _ _ _ _ _ _ hN]; rfl
  have z0 : w1.frozen? ⟨w.heap.size, 0, none⟩ = false := frozen_of_row _ _ _ _ _ hN
  have z1 : w1.frozen? ⟨w.heap.size, 1, none⟩ = false := frozen_of_row _ _ _ _ _ hN
  go_wp2
  obtain ⟨m0, m1, hg2⟩ := met_put (.int .i64 0) (.int .i64 0) n0 n1
  have hcy2 := hcy.at (hg2.block y hcy.lt (by simp; omega))
  have hcz2 := hcz.at (hg2.block z hcz.lt (by simp; omega))
  have hown2 := row_base3 (hown.kept hg2 (row_ne hown w.heap.size (.inl (by simp)))) (show w.heap.size ≤ _ by simp)
  have hg3 := Kept2.new hg hg2
  clear hcy hcz hN n0 n1 z0 z1 hg hg2 hown
  generalize (w1.setCell ⟨w.heap.size, 0, none⟩ (.int .i64 0)).setCell ⟨w.heap.size, 1, none⟩ (.int .i64 0) = w2 at *
  refine leaves_cons (f := 61) (args := #[.pointer (some ⟨w.heap.size, 0, none⟩)]) (by simp) (by simp [go_sem]) ?_
  refine (catch_none _ _).mono ?_
  rintro e u' w'' ⟨rfl, rfl, rfl⟩
  refine ⟨.agg #[.int .i64 0, .int .i64 0], ?_, rfl, hcy2, ⟨V, hcz2, hown2⟩, hg3⟩
  simp [results, Tryz.results41, go_sem, m0, m1]

set_option maxHeartbeats 1000000 in
theorem attemptBoth_bad (ref reads : ByteArray) (x y u z : Nat) (a b : ByteArray) (v : Value) (w : World) (h1 : ref.size ≤ 400) (h2 : reads.size ≤ 600)
    (hx : w.cell? ⟨x, 0, none⟩ = some (.string ref)) (hu : w.cell? ⟨u, 0, none⟩ = some (.string reads)) (hy : RB w y a b) (hz : ZB w z v) (huy : u ≠ y) (hzy : z ≠ y) (hbad : (sRef ref).2 = true ∨ (sReads reads 5 0).2 = true) :
    Calls Tryz.prog 41 #[.func (.func 89) #[] #[.pointer (some ⟨x, 0, none⟩), .pointer (some ⟨y, 0, none⟩), .pointer (some ⟨u, 0, none⟩), .pointer (some ⟨z, 0, none⟩)]] w fun e w' =>
      e = .returned (.agg #[.int .i64 ((chk ref reads).1 : Int), .int .i64 ((chk ref reads).2 : Int)]) ∧ (∃ a' b', RB w' y a' b') ∧ ZB w' z v ∧ Kept2 w w' y z := by
  have hmf : ∀ (fn : Fn) (first cap : Array Value) (w : World), (Instr.makeFunc fn first cap).run Tryz.prog w = .ok (.func fn first cap) w := fun _ _ _ _ => rfl
  have HB := laid hbad
  clear hbad
  have hxb : x < w.heap.size := by have := block_lt_of_cell hx; simpa using this
  have hub : u < w.heap.size := by have := block_lt_of_cell hu; simpa using this
  have hyb := hy.lt
  have hzb := hz.lt
  go_enter_defers Tryz.func41, Tryz.ntmps41
  go_wp2_with fail
  refine (bothLit_bad ref reads x y u z a b v _ h1 h2 ?_ ?_ (hy.at (heap_alloc_old _ _ hyb)) (hz.at (heap_alloc_old _ _ hzb)) huy hzy HB.out).mono ?_
  · rw [World.cell?_alloc_past _ _ _ hxb]; exact hx
  · rw [World.cell?_alloc_past _ _ _ hub]; exact hu
  rintro e w1 ⟨rfl, ⟨a', b', hcy⟩, hcz, hg⟩
  have hN := hg.block w.heap.size (by simp) (by omega) (by omega)
  rw [heap_alloc_new] at hN
  have n0 : w1.cell? ⟨w.heap.size, 0, none⟩ = some (.int .i64 0) := by rw [cell_of_row _ _ _ _ _ _ hN]; rfl
  have n1 : w1.cell? ⟨w.heap.size, 1, none⟩ = some (.int .i64 0) := by rw [cell_of_row _ _ _ _ _ _ hN]; rfl
  have z0 : w1.frozen? ⟨w.heap.size, 0, none⟩ = false := frozen_of_row _ _ _ _ _ hN
  have z1 : w1.frozen? ⟨w.heap.size, 1, none⟩ = false := frozen_of_row _ _ _ _ _ hN
  refine leaves_cons (f := 61) (args := #[.pointer (some ⟨w.heap.size, 0, none⟩)]) (by simp) (by simp [go_sem]) ?_
  refine (catch_some _ _ _ _ _ [] _ n0 n1 z0 z1).mono ?_
  rintro e u' w'' ⟨rfl, rfl, rfl⟩
  have hnb : w.heap.size < w1.heap.size := by have := block_lt_of_cell n0; simpa using this
  obtain ⟨m0, m1, hg2⟩ := met_put (.int .i64 ((chk ref reads).1 : Int)) (.int .i64 ((chk ref reads).2 : Int)) n0 n1
  have hcy2 := hcy.at (hg2.block y hcy.lt (by simp; omega))
  have hcz2 := hcz.at (hg2.block z hcz.lt (by simp; omega))
  have hg3 := Kept2.new hg hg2
  generalize hW : (w1.setCell ⟨w.heap.size, 0, none⟩ (.int .i64 ((chk ref reads).1 : Int))).setCell ⟨w.heap.size, 1, none⟩ (.int .i64 ((chk ref reads).2 : Int)) = w2 at *
  have hsz : w.heap.size < w2.heap.size := by have := hg2.size; omega
  refine ⟨.agg #[.int .i64 ((chk ref reads).1 : Int), .int .i64 ((chk ref reads).2 : Int)], ?_, rfl, ⟨a', b', hcy2.at (heap_alloc_old _ _ hcy2.lt)⟩, hcz2.at (heap_alloc_old _ _ hcz2.lt), hg3.alloc _⟩
  simp [results, Tryz.results41, go_sem, m0, m1, hsz]

/-- how readBoth ends -/
def bothPost (w : World) (ref reads : ByteArray) (E P : Int) (LR : List (ByteArray × ByteArray × ByteArray)) (e : Ending) (w' : World) : Prop :=
  ∃ a b V, e = .returned (.tuple #[.agg #[.string a, .string b], V, .agg #[.int .i64 E, .int .i64 P]]) ∧ (∃ va n cap, V = .slice va n cap) ∧ Below w.heap.size w w' ∧
    (E = 0 → a = qNm ref ∧ b = str (refAll ref).2 ∧ w'.ownsRow w.heap.size 131 3 V LR.length (flatR LR))

theorem FB.put {w : World} {m : Nat} {c p : Int} (h : FB w m c p) (c' p' : Int) : FB ((w.setCell ⟨m, 0, none⟩ (.int .i64 c')).setCell ⟨m, 1, none⟩ (.int .i64 p')) m c' p' := by
  have h1 : FB (w.setCell ⟨m, 0, none⟩ (.int .i64 c')) m c' p := by unfold FB at *; rw [heap_setCell_same w m 0 _ _ (.int .i64 c') h]; rfl
  unfold FB at *; rw [heap_setCell_same _ m 1 _ _ (.int .i64 p') h1]; rfl
end Go.Proofs.YtdcjnhipenbcfaaGreatDoor
