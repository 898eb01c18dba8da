import Derived.Test.YtdcjnhipenbcfaaGreatDoorRefReadsW
import Derived.Test.YtdcjnhipenbcfaaGreatDoorBoth
namespace Go.Proofs.YtdcjnhipenbcfaaGreatDoor
open Go.RowKit
set_option linter.unusedVariables false

set_option maxHeartbeats 1000000 in
theorem refCheck_any (ref reads : ByteArray) (w : World) (h1 : ref.size ≤ maxLen) (h2 : reads.size ≤ maxLen) :
    Calls Tryz.prog 53 #[.string ref, .string reads] w fun e w' => e = .returned (.tuple #[.int .i64 (checkE ref reads), .int .i64 (checkP ref reads)]) ∧ Below w.heap.size w w' := by
  unfold maxLen at h1 h2
  by_cases ha : 400 < ref.size
  · have e1 : checkE ref reads = 1 := if_pos (.inl ha)
    have e2 : checkP ref reads = 0 := if_pos (.inl ha)
    rw [e1, e2]
    clear e1 e2
    go_enter Tryz.func53, Tryz.ntmps53
    go_wp2
    go_ret2
    exact ⟨rfl, Below.refl _ _⟩
  · by_cases hb : 600 < reads.size
    · have e1 : checkE ref reads = 1 := if_pos (.inr hb)
      have e2 : checkP ref reads = 0 := if_pos (.inr hb)
      rw [e1, e2]
      clear e1 e2
      go_enter Tryz.func53, Tryz.ntmps53
      go_wp2
      go_ret2
      exact ⟨rfl, Below.refl _ _⟩
    · have e1 : checkE ref reads = ((chk ref reads).1 : Int) := if_neg (by omega)
      have e2 : checkP ref reads = ((chk ref reads).2 : Int) := if_neg (by omega)
      rw [e1, e2]
      clear e1 e2
      by_cases hr : (sRef ref).2 = true
      · have hc : chk ref reads = (2, (sRef ref).1) := if_pos hr
        rw [hc]
        have HP := laid (show placeOf (refAll ref).1 = ((sRef ref).1 : Int) by rw [refAll_eq]; exact placeOf_bad hr)
        clear hc hr
        go_enter Tryz.func53, Tryz.ntmps53
        go_wp2_with fail
        refine (reference_any ref _ (by omega)).mono ?_
        rintro e w1 ⟨rfl, hb1⟩
        rw [HP.out]
        clear HP
        go_wp2
        go_ret2
        exact ⟨rfl, hb1.alloc hb1.size _⟩
      · rw [Bool.not_eq_true] at hr
        have HP := laid (show placeOf (refAll ref).1 = -1 by rw [refAll_eq]; exact placeOf_good hr)
        by_cases hq : (sReads reads 5 0).2 = true
        · have hc : chk ref reads = (3, (sReads reads 5 0).1) := by unfold chk; rw [if_neg (by simp [hr]), if_pos hq]
          rw [hc]
          have HQ := laid (placeOf_bad hq)
          clear hc hr hq
          go_enter Tryz.func53, Tryz.ntmps53
          go_wp2_with fail
          refine (reference_any ref _ (by omega)).mono ?_
          rintro e w1 ⟨rfl, hb1⟩
          rw [HP.out]
          clear HP
          go_wp2_with fail
          refine (reads_any reads _ (by omega)).mono ?_
          rintro e w2 ⟨V, rfl, hb2, _⟩
          rw [HQ.out]
          clear HQ
          have hb3 : Below w.heap.size w w2 := (hb1.alloc hb1.size _).trans (hb2.mono (by simp; have := hb1.size; omega))
          clear hb1 hb2
          go_wp2
          go_ret2
          exact ⟨rfl, hb3⟩
        · rw [Bool.not_eq_true] at hq
          have hc : chk ref reads = (0, 0) := by unfold chk; rw [hr, hq]; rfl
          rw [hc]
          have HQ := laid (placeOf_good hq)
          clear hc hr hq
          go_enter Tryz.func53, Tryz.ntmps53
          go_wp2_with fail
          refine (reference_any ref _ (by omega)).mono ?_
          rintro e w1 ⟨rfl, hb1⟩
          rw [HP.out]
          clear HP
          go_wp2_with fail
          refine (reads_any reads _ (by omega)).mono ?_
          rintro e w2 ⟨V, rfl, hb2, _⟩
          rw [HQ.out]
          clear HQ
          have hb3 : Below w.heap.size w w2 := (hb1.alloc hb1.size _).trans (hb2.mono (by simp; have := hb1.size; omega))
          clear hb1 hb2
          go_wp2
          go_ret2
          exact ⟨rfl, hb3⟩

set_option maxHeartbeats 1000000 in
theorem playsCheck (k q st wk : Int) (ref s : ByteArray) (w : World) (hr : ref.size ≤ maxLen) (hs : s.size ≤ maxLen) :
    Calls Tryz.prog 38 #[.agg #[.int .i64 1, .int .i64 k, .int .i64 q, .int .i64 st, .int .i64 wk, .string ref, .string s]] w fun e w' => e = .returned (.bool true) ∧ Below w.heap.size w w' := by
  go_enter Tryz.func38, Tryz.ntmps38
  go_wp2_with fail
  refine (checkTop_any ref s _ hr hs).mono ?_
  rintro e w1 ⟨rfl, hb1⟩
  obtain ⟨hc, hf⟩ := bcell hb1
  have hz : w.heap.size < w1.heap.size := by have := hb1.size; simp at this; omega
  have hbel : Below w.heap.size w w1 := ((Below.refl _ _).alloc (Nat.le_refl _) _).trans (hb1.mono (by simp))
  clear hb1
  go_wp2_with fail
  refine (refCheck_any ref s _ hr hs).mono ?_
  rintro e w2 ⟨rfl, hb2⟩
  have hb3 := hbel.trans (hb2.mono hbel.size)
  clear hc hf hbel hb2
  generalize checkE ref s = E
  generalize checkP ref s = P
  go_wp2_with (go_at_call 54; refine (num_any _ _).mono ?_; rintro e w' ⟨rfl, rfl⟩)
  go_ret
  exact ⟨rfl, hb3⟩
end Go.Proofs.YtdcjnhipenbcfaaGreatDoor
