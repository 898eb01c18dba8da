import Derived.Test.YtdcjnhipenbcfaaGreatDoorUpTo
import Derived.ProofKit
import Derived.OpenShut
import Derived.ShutString
import Derived.ChangeOld
import Derived.Deep.Slices
namespace Go.Proofs.YtdcjnhipenbcfaaGreatDoor
open Go.ChangeShapes Go.WideShapes Go.ChangeAt Go.RowKit Go.Deep
set_option linter.unusedVariables false

theorem cellsOp : Tryz.prog.cellsOf 59 = 7 := by kernel_rfl
theorem cellsInt : Tryz.prog.cellsOf 3 = 1 := by kernel_rfl
theorem cellsString : Tryz.prog.cellsOf 9 = 1 := by kernel_rfl

set_option maxRecDepth 100000 in
/-- one step, read: its seven cells -/
theorem op_of {H : Type} {enc : TypeId × Value → H} {W : World} {base : Nat} {spare : Nat → Bool} {held : Bool} {n : Nat} {cs : List Value} {x : DataW H × List MemPlace}
    (h : DataW.trod enc Tryz.prog W base spare held n 59 cs = some x) :
    ∃ o : OpV, cs = [.int .i64 o.kind, .int .i64 o.k, .int .i64 o.q, .int .i64 o.step, .int .i64 o.workers, .string o.ref, .string o.s] ∧ o.ref.size ≤ maxLen ∧ o.s.size ≤ maxLen := by
  obtain ⟨xs, m, _, _, hl, hxl, hf⟩ := DataW.trod_struct Tryz.underlying59 h
  rw [cellsOp] at hl
  match cs, hl with
  | [c0, c1, c2, c3, c4, c5, c6], _ =>
    have hx : xs.length = 7 := by simpa using hxl
    match xs, hx with
    | [x0, x1, x2, x3, x4, x5, x6], _ =>
      have f0 : DataW.trod enc Tryz.prog W base spare held m 3 [c0] = some x0 := by simpa [cellsInt] using hf 0 _ rfl
      have f1 : DataW.trod enc Tryz.prog W base spare held m 3 [c1] = some x1 := by simpa [cellsInt] using hf 1 _ rfl
      have f2 : DataW.trod enc Tryz.prog W base spare held m 3 [c2] = some x2 := by simpa [cellsInt] using hf 2 _ rfl
      have f3 : DataW.trod enc Tryz.prog W base spare held m 3 [c3] = some x3 := by simpa [cellsInt] using hf 3 _ rfl
      have f4 : DataW.trod enc Tryz.prog W base spare held m 3 [c4] = some x4 := by simpa [cellsInt] using hf 4 _ rfl
      have f5 : DataW.trod enc Tryz.prog W base spare held m 9 [c5] = some x5 := by simpa [cellsString] using hf 5 _ rfl
      have f6 : DataW.trod enc Tryz.prog W base spare held m 9 [c6] = some x6 := by simpa [cellsString] using hf 6 _ rfl
      obtain ⟨a0, e0, _, _⟩ := DataW.trod_int Tryz.underlying3 f0
      obtain ⟨a1, e1, _, _⟩ := DataW.trod_int Tryz.underlying3 f1
      obtain ⟨a2, e2, _, _⟩ := DataW.trod_int Tryz.underlying3 f2
      obtain ⟨a3, e3, _, _⟩ := DataW.trod_int Tryz.underlying3 f3
      obtain ⟨a4, e4, _, _⟩ := DataW.trod_int Tryz.underlying3 f4
      obtain ⟨s5, e5, _, z5⟩ := DataW.trod_string Tryz.underlying9 f5
      obtain ⟨s6, e6, _, z6⟩ := DataW.trod_string Tryz.underlying9 f6
      simp at e0 e1 e2 e3 e4 e5 e6
      subst e0 e1 e2 e3 e4 e5 e6
      exact ⟨⟨a0, a1, a2, a3, a4, s5, s6⟩, rfl, z5, z6⟩

theorem ops_of {H : Type} {enc : TypeId × Value → H} {W : World} {base : Nat} {spare : Nat → Bool} {held : Bool} {fuel : Nat} {a : Option Addr} {len cap : Nat} {x : DataW H × List MemPlace}
    (h : DataW.trod enc Tryz.prog W base spare held fuel 22 [.slice a len cap] = some x) : ∃ os, IsOps W a len cap os := by
  rcases open_slice Tryz.underlying22 h with ⟨hcs, _⟩ | ⟨ad, len', cap', m, n, D, Pl, hcs, _, hl, hm, hmm, _, hel⟩
  · simp at hcs
    obtain ⟨rfl, rfl, rfl⟩ := hcs
    exact ⟨fun _ => ⟨0, 0, 0, 0, 0, ByteArray.empty, ByteArray.empty⟩, .inl rfl⟩
  · simp at hcs
    obtain ⟨rfl, rfl, rfl⟩ := hcs
    have hlm : len ≤ m := by rw [hmm]; split <;> omega
    have hall : ∀ i, i < len → ∃ o : OpV, (∀ j, j < 7 → W.cell? (ad.add (i * 7 + j)) = [Value.int .i64 o.kind, .int .i64 o.k, .int .i64 o.q, .int .i64 o.step, .int .i64 o.workers, .string o.ref, .string o.s][j]?) ∧ o.ref.size ≤ maxLen ∧ o.s.size ≤ maxLen := by
      intro i hi
      obtain ⟨cs', hc, ht⟩ := hel i (by omega)
      obtain ⟨o, rfl, z1, z2⟩ := op_of ht
      rw [cellsOp] at hc
      refine ⟨o, fun j hj => ?_, z1, z2⟩
      have := (World.cells?_some hc).2.2 j hj
      rwa [add_add] at this
    by_cases h0 : len = 0
    · exact ⟨fun _ => ⟨0, 0, 0, 0, 0, ByteArray.empty, ByteArray.empty⟩, .inl h0⟩
    · obtain ⟨b, off, sp⟩ := ad
      have hsp : sp = none := by
        obtain ⟨o, hc, _⟩ := hall 0 (by omega)
        have h1 := hc 0 (by omega)
        have h2 := World.cell?_spot (show W.cell? ((⟨b, off, sp⟩ : Addr).add 0) = some (Value.int .i64 o.kind) by simpa using h1)
        simpa [Addr.add] using h2
      subst hsp
      have hadd : ∀ j, (⟨b, off, none⟩ : Addr).add j = ⟨b, off + j, none⟩ := by
        intro j; unfold Addr.add; split <;> simp_all
      refine ⟨fun i => if hi : i < len then (hall i hi).choose else ⟨0, 0, 0, 0, 0, ByteArray.empty, ByteArray.empty⟩, .inr ⟨b, off, rfl, by omega, fun i hi => ?_, fun i hi => ?_⟩⟩
      · simp only [hi, dif_pos]
        have hc := (hall i hi).choose_spec.1
        generalize (hall i hi).choose = o at hc ⊢
        have g : ∀ j, j < 7 → W.cell? ⟨b, off + i * 7 + j, none⟩ = [Value.int .i64 o.kind, .int .i64 o.k, .int .i64 o.q, .int .i64 o.step, .int .i64 o.workers, .string o.ref, .string o.s][j]? := by
          intro j hj
          have := hc j hj
          rwa [hadd, ← Nat.add_assoc] at this
        exact ⟨g 0 (by omega), g 1 (by omega), g 2 (by omega), g 3 (by omega), g 4 (by omega), g 5 (by omega), g 6 (by omega)⟩
      · simp only [hi, dif_pos]
        exact (hall i hi).choose_spec.2
end Go.Proofs.YtdcjnhipenbcfaaGreatDoor
