import Derived.Test.YtdcjnhipenbcfaaGreatDoorBinsFace
namespace Go.Proofs.YtdcjnhipenbcfaaGreatDoor
open Go.RowKit
set_option linter.unusedVariables false

set_option maxHeartbeats 400000 in
theorem playsBins (k q st wk : Int) (ref s : ByteArray) (w : World) (htab : TabOk w) (h1 : ref.size ≤ maxLen) (h2 : s.size ≤ maxLen) :
    Calls Tryz.prog 38 #[.agg #[.int .i64 3, .int .i64 k, .int .i64 q, .int .i64 st, .int .i64 wk, .string ref, .string s]] w fun e w' => e = .returned (.bool true) ∧ Below w.heap.size w w' := by
  have HT := laid htab
  clear htab
  go_enter Tryz.func38, Tryz.ntmps38
  go_wp2_with fail
  refine (bins_any ref s k q st _ (HT.out.on ((Below.refl _ _).alloc (Nat.le_refl _) _)) h1 h2).mono ?_
  rintro e w1 ⟨rfl, hb1⟩
  obtain ⟨hc, hf⟩ := bcell hb1
  have hz : w.heap.size < w1.heap.size := by have := hb1.size; simp at this; omega
  have hbel : Below w.heap.size w w1 := ((Below.refl _ _).alloc (Nat.le_refl _) _).trans (hb1.mono (by simp))
  clear hb1
  go_wp2_with fail
  refine (refBins_any ref s k q st _ h1 h2).mono ?_
  rintro e w2 ⟨rfl, hb2⟩
  have hbel2 : Below w.heap.size w w2 := hbel.trans (hb2.mono hbel.size)
  clear hb2 hbel
  generalize binsS ref s k q st = A at *
  generalize binsE ref s k q st = E at *
  go_wp2_with (go_at_call 54; refine (num_any _ _).mono ?_; rintro e w' ⟨rfl, rfl⟩)
  go_ret
  exact ⟨rfl, hbel2⟩
end Go.Proofs.YtdcjnhipenbcfaaGreatDoor
