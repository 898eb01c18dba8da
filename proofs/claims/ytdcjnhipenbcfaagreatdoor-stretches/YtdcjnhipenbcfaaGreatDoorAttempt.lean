import Derived.Test.YtdcjnhipenbcfaaGreatDoorFlipRun
namespace Go.Proofs.YtdcjnhipenbcfaaGreatDoor
open Go.RowKit
set_option linter.unusedVariables false

theorem assert_fault (c p : Int) (w : World) : (Instr.typeAssert (.iface 70 (.agg #[.int .i64 c, .int .i64 p])) 20 70 true).run Tryz.prog w = .ok (.tuple #[.agg #[.int .i64 c, .int .i64 p], .bool true]) w := by kernel_rfl

set_option maxHeartbeats 400000 in
theorem catch_some (m : Nat) (a0 a1 c p : Int) (older : List PanicEntry) (w : World) (h0 : w.cell? ⟨m, 0, none⟩ = some (.int .i64 a0)) (h1 : w.cell? ⟨m, 1, none⟩ = some (.int .i64 a1)) (hz0 : w.frozen? ⟨m, 0, none⟩ = false) (hz1 : w.frozen? ⟨m, 1, none⟩ = false) :
    CallsD Tryz.prog 61 #[.pointer (some ⟨m, 0, none⟩)] (.panicking ({ v := .iface 70 (.agg #[.int .i64 c, .int .i64 p]), recovered := false } :: older)) w fun e u' w' =>
      e = .returned (.tuple #[]) ∧ u' = .panicking ({ v := .iface 70 (.agg #[.int .i64 c, .int .i64 p]), recovered := true } :: older) ∧ w' = ((w.setCell ⟨m, 0, none⟩ (.int .i64 c)).setCell ⟨m, 1, none⟩ (.int .i64 p)).alloc (.cells #[.int .i64 c, .int .i64 p] 70) := by
  refine callsD_of_wpS Tryz.func61 rfl fun c₀ cs hu => ?_
  apply wpS_seq
  apply wpS_region
  simp [wpOpsS, go_sem, recoverD, hu, Tryz.ntmps61, Exit.thenS]
  refine wpS_of_wp ?_
  generalize hV : Value.iface 70 (.agg #[.int .i64 c, .int .i64 p]) = V
  have ht : (#[Value.pointer (some ⟨m, 0, none⟩)] ++ ((Array.replicate 15 undef).setIfInBounds 3 V).setIfInBounds 0 V) = #[.pointer (some ⟨m, 0, none⟩), V, undef, undef, V, undef, undef, undef, undef, undef, undef, undef, undef, undef, undef, undef] := rfl
  rw [ht]
  clear ht
  subst hV
  have HU := laid hu
  clear hu
  have hta := assert_fault c p
  have hm : m < w.heap.size := by have := block_lt_of_cell h0; simpa using this
  go_wp2
  simp [bodyPostS, results, Tryz.results61]

set_option maxHeartbeats 400000 in
theorem catch_none (m : Nat) (w : World) :
    CallsD Tryz.prog 61 #[.pointer (some ⟨m, 0, none⟩)] .returning w fun e u' w' =>
      e = .returned (.tuple #[]) ∧ u' = .returning ∧ w' = w := by
  refine callsD_of_wpS Tryz.func61 rfl fun c₀ cs hu => ?_
  apply wpS_seq
  apply wpS_region
  simp [wpOpsS, go_sem, recoverD, hu, Tryz.ntmps61, Exit.thenS]
  refine wpS_of_wp ?_
  have ht : (#[Value.pointer (some ⟨m, 0, none⟩)] ++ ((Array.replicate 15 undef).setIfInBounds 3 Value.nilIface).setIfInBounds 0 Value.nilIface) = #[.pointer (some ⟨m, 0, none⟩), .nilIface, undef, undef, .nilIface, undef, undef, undef, undef, undef, undef, undef, undef, undef, undef, undef] := rfl
  rw [ht]
  clear ht
  have HU := laid hu
  clear hu
  go_wp2
  have hu := HU.out
  cases c₀
  simp_all [bodyPostS, results, Tryz.results61]

/-- two cells of one block laid anew -/
theorem met_put {w1 : World} {n : Nat} {u0 u1 : Value} (a b : Value) (n0 : w1.cell? ⟨n, 0, none⟩ = some u0) (n1 : w1.cell? ⟨n, 1, none⟩ = some u1) :
    ((w1.setCell ⟨n, 0, none⟩ a).setCell ⟨n, 1, none⟩ b).cell? ⟨n, 0, none⟩ = some a ∧ ((w1.setCell ⟨n, 0, none⟩ a).setCell ⟨n, 1, none⟩ b).cell? ⟨n, 1, none⟩ = some b ∧
      w1.grownBy ((w1.setCell ⟨n, 0, none⟩ a).setCell ⟨n, 1, none⟩ b) (some n) := by
  have e0 := World.cell?_setCell_same w1 ⟨n, 0, none⟩ a n0
  have e1 : (w1.setCell ⟨n, 0, none⟩ a).cell? ⟨n, 1, none⟩ = some u1 := by
    rw [World.cell?_setCell_other (h := by simp)]; exact n1
  refine ⟨?_, World.cell?_setCell_same _ _ b e1, grownBy_trans (grownBy_put w1 n 0 a) (grownBy_put _ n 1 b)⟩
  rw [World.cell?_setCell_other (h := by simp)]; exact e0
/-- .. a block that is new: what was there is as it was, but for row y -/
theorem grown_new {w w1 w2 : World} {o : Obj} {y : Nat} (hg : (w.alloc o).grownBy w1 (some y)) (h2 : w1.grownBy w2 (some w.heap.size)) : w.grownBy w2 (some y) := by
  refine ⟨h2.os.trans hg.os, h2.tape.trans hg.tape, h2.output.trans hg.output, ?_, fun k hk hne => ?_⟩
  · have := hg.size; have := h2.size; simp at *; omega
  · have hs := hg.size
    simp at hs
    rw [h2.block k (by omega) (by simp; omega), hg.block k (by simp; omega) hne, Below.heap_alloc w o k hk]
theorem cell_kept {w w' : World} {r : Option Nat} {b j : Nat} (hg : w.grownBy w' r) (hb : b < w.heap.size) (hne : some b ≠ r) : w'.cell? ⟨b, j, none⟩ = w.cell? ⟨b, j, none⟩ :=
  World.cell?_of_block (hg.block b hb hne)

set_option maxHeartbeats 400000 in
theorem attemptFlip_ok (s : ByteArray) (x y : Nat) (v : Value) (w : World) (hs : s.size ≤ 200) (hb : s.data.toList.all isb = true)
    (hx : w.cell? ⟨x, 0, none⟩ = some (.string s)) (hy : w.cell? ⟨y, 0, none⟩ = some v) (hf : w.frozen? ⟨y, 0, none⟩ = false) :
    Calls Tryz.prog 41 #[.func (.func 50) #[] #[.pointer (some ⟨x, 0, none⟩), .pointer (some ⟨y, 0, none⟩)]] w fun e w' =>
      e = .returned (.agg #[.int .i64 0, .int .i64 0]) ∧ w'.cell? ⟨y, 0, none⟩ = some (.string (flipS s)) ∧ w.grownBy w' (some y) := by
  have hmf : ∀ (fn : Fn) (first cap : Array Value) (w : World), (Instr.makeFunc fn first cap).run Tryz.prog w = .ok (.func fn first cap) w := fun _ _ _ _ => rfl
  have HB := laid hb
  clear hb
  have hxb : x < w.heap.size := by have := block_lt_of_cell hx; simpa using this
  have hyb : y < w.heap.size := by have := block_lt_of_cell hy; simpa using this
  go_enter_defers Tryz.func41, Tryz.ntmps41
  go_wp2_with fail
  refine (flipLit_ok s x y v _ hs HB.out ?_ ?_ ?_).mono ?_
  · rw [World.cell?_alloc_past _ _ _ hxb]; exact hx
  · rw [World.cell?_alloc_past _ _ _ hyb]; exact hy
  · rw [World.frozen?_alloc_past _ _ _ hyb]; exact hf
  rintro e w1 ⟨rfl, hcy, hg⟩
  have hN := hg.block w.heap.size (by simp) (by simp; omega)
  rw [heap_alloc_new] at hN
  have n0 : w1.cell? ⟨w.heap.size, 0, none⟩ = some (.int .i64 0) := by rw [cell_of_row _ _ _ _ _ _ hN]; rfl
  have n1 : w1.cell? ⟨w.heap.size, 1, none⟩ = some (.int .i64 0) := by rw [cell_of_row _ _ _ _ _ _ hN]; rfl
  have z0 : w1.frozen? ⟨w.heap.size, 0, none⟩ = false := frozen_of_row _ _ _ _ _ hN
  have z1 : w1.frozen? ⟨w.heap.size, 1, none⟩ = false := frozen_of_row _ _ _ _ _ hN
  go_wp2
  obtain ⟨m0, m1, hg2⟩ := met_put (.int .i64 0) (.int .i64 0) n0 n1
  have hyw : y < w1.heap.size := by have := block_lt_of_cell hcy; simpa using this
  have hcy2 := hcy
  rw [← cell_kept (j := 0) hg2 hyw (by simp; omega)] at hcy2
  have hg3 := grown_new hg hg2
  clear hcy hN n0 n1 z0 z1 hg hg2
  generalize (w1.setCell ⟨w.heap.size, 0, none⟩ (.int .i64 0)).setCell ⟨w.heap.size, 1, none⟩ (.int .i64 0) = w2 at *
  refine leaves_cons (f := 61) (args := #[.pointer (some ⟨w.heap.size, 0, none⟩)]) (by simp) (by simp [go_sem]) ?_
  refine (catch_none _ _).mono ?_
  rintro e u' w'' ⟨rfl, rfl, rfl⟩
  refine ⟨.agg #[.int .i64 0, .int .i64 0], ?_, rfl, hcy2, hg3⟩
  simp [results, Tryz.results41, go_sem, m0, m1]

set_option maxHeartbeats 400000 in
theorem attemptFlip_bad (s : ByteArray) (x y : Nat) (w : World) (hs : s.size ≤ 200) (hb : s.data.toList.all isb = false)
    (hx : w.cell? ⟨x, 0, none⟩ = some (.string s)) :
    Calls Tryz.prog 41 #[.func (.func 50) #[] #[.pointer (some ⟨x, 0, none⟩), .pointer (some ⟨y, 0, none⟩)]] w fun e w' =>
      (∃ p, e = .returned (.agg #[.int .i64 5, .int .i64 p])) ∧ Below w.heap.size w w' := by
  have hmf : ∀ (fn : Fn) (first cap : Array Value) (w : World), (Instr.makeFunc fn first cap).run Tryz.prog w = .ok (.func fn first cap) w := fun _ _ _ _ => rfl
  have HB := laid hb
  clear hb
  have hxb : x < w.heap.size := by have := block_lt_of_cell hx; simpa using this
  go_enter_defers Tryz.func41, Tryz.ntmps41
  go_wp2_with fail
  refine (flipLit_bad s x y _ hs HB.out ?_).mono ?_
  · rw [World.cell?_alloc_past _ _ _ hxb]; exact hx
  rintro e w1 ⟨⟨p, rfl⟩, hb1⟩
  have hN := hb1.block w.heap.size (by simp)
  rw [heap_alloc_new] at hN
  have n0 : w1.cell? ⟨w.heap.size, 0, none⟩ = some (.int .i64 0) := by rw [cell_of_row _ _ _ _ _ _ hN]; rfl
  have n1 : w1.cell? ⟨w.heap.size, 1, none⟩ = some (.int .i64 0) := by rw [cell_of_row _ _ _ _ _ _ hN]; rfl
  have z0 : w1.frozen? ⟨w.heap.size, 0, none⟩ = false := frozen_of_row _ _ _ _ _ hN
  have z1 : w1.frozen? ⟨w.heap.size, 1, none⟩ = false := frozen_of_row _ _ _ _ _ hN
  refine leaves_cons (f := 61) (args := #[.pointer (some ⟨w.heap.size, 0, none⟩)]) (by simp) (by simp [go_sem]) ?_
  refine (catch_some _ _ _ 5 p [] _ n0 n1 z0 z1).mono ?_
  rintro e u' w'' ⟨rfl, rfl, rfl⟩
  have hnb : w.heap.size < w1.heap.size := by have := block_lt_of_cell n0; simpa using this
  obtain ⟨m0, m1, hg2⟩ := met_put (.int .i64 5) (.int .i64 p) n0 n1
  generalize hW : (w1.setCell ⟨w.heap.size, 0, none⟩ (.int .i64 5)).setCell ⟨w.heap.size, 1, none⟩ (.int .i64 p) = w2 at *
  have hsz : w.heap.size < w2.heap.size := by have := hg2.size; omega
  refine ⟨.agg #[.int .i64 5, .int .i64 p], ?_, ⟨p, rfl⟩, ?_⟩
  · simp [results, Tryz.results41, go_sem, m0, m1, hsz]
  · have hb0 : Below w.heap.size w w1 := ((Below.refl _ _).alloc (Nat.le_refl _) _).trans (hb1.mono (by simp))
    exact (hb0.grown hg2 (by omega) (by intro k hk; cases hk; exact Nat.le_refl _)).alloc (by omega) _
end Go.Proofs.YtdcjnhipenbcfaaGreatDoor
