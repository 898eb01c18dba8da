import Derived.Test.YtkhkjihcpgkknaaDoorReadAll
import Derived.Test.YtkhkjihcpgkknaaDoorAttempt
namespace Go.Proofs.YtkhkjihcpgkknaaDoor
open Go.RowKit
set_option linter.unusedVariables false

/-- what the document says of Check, where no text is too long: the error and the place -/
def chk (ref reads : ByteArray) : Nat × Nat :=
  if (sRef ref).2 = true then (2, (sRef ref).1) else if (sReads reads 5 0).2 = true then (3, (sReads reads 5 0).1) else (0, 0)

set_option maxHeartbeats 400000 in
theorem checkLit_ok (ref reads : ByteArray) (x y : Nat) (w : World) (h1 : ref.size ≤ 400) (h2 : reads.size ≤ 600)
    (hx : w.cell? ⟨x, 0, none⟩ = some (.string ref)) (hy : w.cell? ⟨y, 0, none⟩ = some (.string reads)) (ha : (sRef ref).2 = false) (hb : (sReads reads 5 0).2 = false) :
    Calls Tryd.prog 18 #[.pointer (some ⟨x, 0, none⟩), .pointer (some ⟨y, 0, none⟩)] w fun e w' => e = .returned (.tuple #[]) ∧ Below w.heap.size w w' := by
  have HA := laid ha
  have HB := laid hb
  clear ha hb
  have hyb : y < w.heap.size := by have := block_lt_of_cell hy; simpa using this
  go_enter Tryd.func18, Tryd.ntmps18
  go_wp2_with fail
  refine (readReference_s ref _ (by omega)).mono ?_
  rintro e w1 ⟨k1, k2, hb1⟩
  obtain rfl := k1 HA.out
  clear k1 k2
  have hy1 : w1.cell? ⟨y, 0, none⟩ = some (.string reads) := by rw [(bcell hb1).1 y 0 hyb]; exact hy
  go_wp2_with fail
  refine (readReads_any reads _ (by omega)).mono ?_
  rintro e w2 ⟨k1, k2, hb2⟩
  obtain rfl := k1 HB.out
  clear k1 k2
  go_wp2
  go_end0
  exact ⟨rfl, hb1.trans (hb2.mono hb1.size)⟩

set_option maxHeartbeats 400000 in
theorem checkLit_bad (ref reads : ByteArray) (x y : Nat) (w : World) (h1 : ref.size ≤ 400) (h2 : reads.size ≤ 600)
    (hx : w.cell? ⟨x, 0, none⟩ = some (.string ref)) (hy : w.cell? ⟨y, 0, none⟩ = some (.string reads)) (hbad : (sRef ref).2 = true ∨ (sReads reads 5 0).2 = true) :
    Calls Tryd.prog 18 #[.pointer (some ⟨x, 0, none⟩), .pointer (some ⟨y, 0, none⟩)] w fun e w' => e = .panicked (gives ((chk ref reads).1 : Int) ((chk ref reads).2 : Int)) ∧ Below w.heap.size w w' := by
  have hyb : y < w.heap.size := by have := block_lt_of_cell hy; simpa using this
  by_cases ha : (sRef ref).2 = true
  · have hc : chk ref reads = (2, (sRef ref).1) := if_pos ha
    rw [hc]
    have HA := laid ha
    clear hbad hc ha
    go_enter Tryd.func18, Tryd.ntmps18
    go_wp2_with fail
    refine (readReference_s ref _ (by omega)).mono ?_
    rintro e w1 ⟨k1, k2, hb1⟩
    obtain rfl := k2 HA.out
    exact ⟨rfl, rfl, hb1⟩
  · have hb : (sReads reads 5 0).2 = true := hbad.resolve_left ha
    have hc : chk ref reads = (3, (sReads reads 5 0).1) := by unfold chk; rw [if_neg ha, if_pos hb]
    rw [hc]
    rw [Bool.not_eq_true] at ha
    have HA := laid ha
    have HB := laid hb
    clear hbad hc ha hb
    go_enter Tryd.func18, Tryd.ntmps18
    go_wp2_with fail
    refine (readReference_s ref _ (by omega)).mono ?_
    rintro e w1 ⟨k1, k2, hb1⟩
    obtain rfl := k1 HA.out
    clear k1 k2
    have hy1 : w1.cell? ⟨y, 0, none⟩ = some (.string reads) := by rw [(bcell hb1).1 y 0 hyb]; exact hy
    go_wp2_with fail
    refine (readReads_any reads _ (by omega)).mono ?_
    rintro e w2 ⟨k1, k2, hb2⟩
    obtain rfl := k2 HB.out
    exact ⟨rfl, rfl, hb1.trans (hb2.mono hb1.size)⟩

set_option maxHeartbeats 400000 in
theorem attemptCheck (ref reads : ByteArray) (x y : Nat) (w : World) (h1 : ref.size ≤ 400) (h2 : reads.size ≤ 600)
    (hx : w.cell? ⟨x, 0, none⟩ = some (.string ref)) (hy : w.cell? ⟨y, 0, none⟩ = some (.string reads)) :
    Calls Tryd.prog 17 #[.func (.func 18) #[] #[.pointer (some ⟨x, 0, none⟩), .pointer (some ⟨y, 0, none⟩)]] w fun e w' =>
      e = .returned (.agg #[.int .i64 ((chk ref reads).1 : Int), .int .i64 ((chk ref reads).2 : Int)]) ∧ Below w.heap.size w w' := by
  have hmf : ∀ (fn : Fn) (first cap : Array Value) (w : World), (Instr.makeFunc fn first cap).run Tryd.prog w = .ok (.func fn first cap) w := fun _ _ _ _ => rfl
  have hxb : x < w.heap.size := by have := block_lt_of_cell hx; simpa using this
  have hyb : y < w.heap.size := by have := block_lt_of_cell hy; simpa using this
  by_cases hbad : (sRef ref).2 = true ∨ (sReads reads 5 0).2 = true
  · have HB := laid hbad
    clear hbad
    go_enter_defers Tryd.func17, Tryd.ntmps17
    go_wp2_with fail
    refine (checkLit_bad ref reads x y _ h1 h2 ?_ ?_ HB.out).mono ?_
    · rw [World.cell?_alloc_past _ _ _ hxb]; exact hx
    · rw [World.cell?_alloc_past _ _ _ hyb]; exact hy
    rintro e w1 ⟨rfl, hb1⟩
    have hN := hb1.block w.heap.size (by simp)
    rw [heap_alloc_new] at hN
    have n0 : w1.cell? ⟨w.heap.size, 0, none⟩ = some (.int .i64 0) := by rw [cell_of_row _ _ _ _ _ _ hN]; rfl
    have n1 : w1.cell? ⟨w.heap.size, 1, none⟩ = some (.int .i64 0) := by rw [cell_of_row _ _ _ _ _ _ hN]; rfl
    have z0 : w1.frozen? ⟨w.heap.size, 0, none⟩ = false := frozen_of_row _ _ _ _ _ hN
    have z1 : w1.frozen? ⟨w.heap.size, 1, none⟩ = false := frozen_of_row _ _ _ _ _ hN
    refine leaves_cons (f := 37) (args := #[.pointer (some ⟨w.heap.size, 0, none⟩)]) (by simp) (by simp [go_sem]) ?_
    refine (catch_some _ _ _ _ _ [] _ n0 n1 z0 z1).mono ?_
    rintro e u' w'' ⟨rfl, rfl, rfl⟩
    have hnb : w.heap.size < w1.heap.size := by have := block_lt_of_cell n0; simpa using this
    obtain ⟨m0, m1, hg2⟩ := met_put (.int .i64 ((chk ref reads).1 : Int)) (.int .i64 ((chk ref reads).2 : Int)) n0 n1
    generalize hW : (w1.setCell ⟨w.heap.size, 0, none⟩ (.int .i64 ((chk ref reads).1 : Int))).setCell ⟨w.heap.size, 1, none⟩ (.int .i64 ((chk ref reads).2 : Int)) = w2 at *
    have hsz : w.heap.size < w2.heap.size := by have := hg2.size; omega
    refine ⟨.agg #[.int .i64 ((chk ref reads).1 : Int), .int .i64 ((chk ref reads).2 : Int)], ?_, rfl, ?_⟩
    · simp [results, Tryd.results17, go_sem, m0, m1, hsz]
    · have hb0 : Below w.heap.size w w1 := ((Below.refl _ _).alloc (Nat.le_refl _) _).trans (hb1.mono (by simp))
      exact (hb0.grown hg2 (by omega) (by intro k hk; cases hk; exact Nat.le_refl _)).alloc (by omega) _
  · have ha : (sRef ref).2 = false := by simpa using fun h => hbad (.inl h)
    have hb : (sReads reads 5 0).2 = false := by simpa using fun h => hbad (.inr h)
    have hc : chk ref reads = (0, 0) := by unfold chk; rw [ha, hb]; rfl
    rw [hc]
    have HA := laid ha
    have HB := laid hb
    clear ha hb hc hbad
    go_enter_defers Tryd.func17, Tryd.ntmps17
    go_wp2_with fail
    refine (checkLit_ok ref reads x y _ h1 h2 ?_ ?_ HA.out HB.out).mono ?_
    · rw [World.cell?_alloc_past _ _ _ hxb]; exact hx
    · rw [World.cell?_alloc_past _ _ _ hyb]; exact hy
    rintro e w1 ⟨rfl, hb1⟩
    have hN := hb1.block w.heap.size (by simp)
    rw [heap_alloc_new] at hN
    have n0 : w1.cell? ⟨w.heap.size, 0, none⟩ = some (.int .i64 0) := by rw [cell_of_row _ _ _ _ _ _ hN]; rfl
    have n1 : w1.cell? ⟨w.heap.size, 1, none⟩ = some (.int .i64 0) := by rw [cell_of_row _ _ _ _ _ _ hN]; rfl
    have z0 : w1.frozen? ⟨w.heap.size, 0, none⟩ = false := frozen_of_row _ _ _ _ _ hN
    have z1 : w1.frozen? ⟨w.heap.size, 1, none⟩ = false := frozen_of_row _ _ _ _ _ hN
    go_wp2
    obtain ⟨m0, m1, hg2⟩ := met_put (.int .i64 0) (.int .i64 0) n0 n1
    have hnb : w.heap.size < w1.heap.size := by have := block_lt_of_cell n0; simpa using this
    have hb0 : Below w.heap.size w w1 := ((Below.refl _ _).alloc (Nat.le_refl _) _).trans (hb1.mono (by simp))
    have hb2 := hb0.grown hg2 (by omega) (by intro k hk; cases hk; exact Nat.le_refl _)
    clear hN n0 n1 z0 z1 hg2 hb1 hb0
    generalize (w1.setCell ⟨w.heap.size, 0, none⟩ (.int .i64 0)).setCell ⟨w.heap.size, 1, none⟩ (.int .i64 0) = w2 at *
    refine leaves_cons (f := 37) (args := #[.pointer (some ⟨w.heap.size, 0, none⟩)]) (by simp) (by simp [go_sem]) ?_
    refine (catch_none _ _).mono ?_
    rintro e u' w'' ⟨rfl, rfl, rfl⟩
    refine ⟨.agg #[.int .i64 0, .int .i64 0], ?_, rfl, hb2⟩
    simp [results, Tryd.results17, go_sem, m0, m1]

def checkE (ref reads : ByteArray) : Int := if 400 < ref.size ∨ 600 < reads.size then 1 else ((chk ref reads).1 : Int)
def checkP (ref reads : ByteArray) : Int := if 400 < ref.size ∨ 600 < reads.size then 0 else ((chk ref reads).2 : Int)

set_option maxHeartbeats 400000 in
theorem checkTop_any (ref reads : ByteArray) (w : World) (h1 : ref.size ≤ maxLen) (h2 : reads.size ≤ maxLen) :
    Calls Tryd.prog 8 #[.string ref, .string reads] w fun e w' => e = .returned (.tuple #[.int .i64 (checkE ref reads), .int .i64 (checkP ref reads)]) ∧ Below w.heap.size w w' := by
  have hmf : ∀ (fn : Fn) (first cap : Array Value) (w : World), (Instr.makeFunc fn first cap).run Tryd.prog w = .ok (.func fn first cap) w := fun _ _ _ _ => rfl
  unfold maxLen at h1 h2
  by_cases ha : 400 < ref.size
  · have e1 : checkE ref reads = 1 := if_pos (.inl ha)
    have e2 : checkP ref reads = 0 := if_pos (.inl ha)
    rw [e1, e2]
    clear e1 e2
    go_enter Tryd.func8, Tryd.ntmps8
    go_wp2
    go_ret2
    exact ⟨rfl, ((Below.refl _ _).alloc (Nat.le_refl _) _).alloc (by simp) _⟩
  · by_cases hb : 600 < reads.size
    · have e1 : checkE ref reads = 1 := if_pos (.inr hb)
      have e2 : checkP ref reads = 0 := if_pos (.inr hb)
      rw [e1, e2]
      clear e1 e2
      go_enter Tryd.func8, Tryd.ntmps8
      go_wp2
      go_ret2
      exact ⟨rfl, ((Below.refl _ _).alloc (Nat.le_refl _) _).alloc (by simp) _⟩
    · have e1 : checkE ref reads = ((chk ref reads).1 : Int) := if_neg (by omega)
      have e2 : checkP ref reads = ((chk ref reads).2 : Int) := if_neg (by omega)
      rw [e1, e2]
      clear e1 e2
      go_enter Tryd.func8, Tryd.ntmps8
      go_wp2_with fail
      refine (attemptCheck ref reads w.heap.size (w.heap.size + 1) _ (by omega) (by omega) (by simp [go_sem]) (by simp [go_sem])).mono ?_
      rintro e w1 ⟨rfl, hb1⟩
      have hsz : w.heap.size + 1 < w1.heap.size := by have := hb1.size; simp at this; omega
      have hbel : Below w.heap.size w w1 := (((Below.refl _ _).alloc (Nat.le_refl _) _).alloc (by simp) _).trans (hb1.mono (by simp; omega))
      clear hb1
      go_wp2
      go_quiet (fail)
      go_wp2
      go_ret2
      exact ⟨rfl, below_drewN (hbel.alloc (by omega) _) _⟩
end Go.Proofs.YtkhkjihcpgkknaaDoor
