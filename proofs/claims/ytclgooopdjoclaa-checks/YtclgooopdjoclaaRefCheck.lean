import Derived.Test.YtclgooopdjoclaaRefReadsW
import Derived.Test.YtclgooopdjoclaaCheckTop
namespace Go.Proofs.Ytclgooopdjoclaa
open Go.RowKit
set_option linter.unusedVariables false

theorem refLoop_bad (s : ByteArray) (f : Nat) (acc : List UInt8) (st : Nat × Bool) (h : st.2 = true) : refLoop s f acc st = (st, acc) := refLoop_off (.inl h) rfl
theorem refLoop_lines (s : ByteArray) : ∀ (f : Nat) (acc : List UInt8) (p : Nat), acc ≠ [] → p ≤ s.size → (refLoop s f acc (p, false)).1 = sLines s f acc.length p
  | 0, acc, p, _, _ => rfl
  | f + 1, acc, p, ha, hp => by
    by_cases h : p < s.size
    · have h1 := refLoop_on (s := s) (f := f + 1) (acc := acc) (st := (p, false)) (by omega) rfl (.inr h) rfl
      rw [← h1, Nat.add_sub_cancel]
      simp only [sLines]
      rw [if_neg (by omega)]
      by_cases hb : (sLine s (200 - acc.length) p).2 = true
      · rw [refLoop_bad _ _ _ _ hb, andS_bad hb]
      · rw [Bool.not_eq_true] at hb
        rw [andS_ok hb]
        have hle := (sLine_le s (200 - acc.length) p hp).2
        have hlen : (acc ++ lnL s (200 - acc.length) p).length = acc.length + nLine s (200 - acc.length) p := by rw [List.length_append, lnL_len s _ p hp]
        rw [← hlen]
        have e : sLine s (200 - acc.length) p = ((sLine s (200 - acc.length) p).1, false) := by rw [← hb]
        rw [e]
        exact refLoop_lines s f _ _ (by simp [ha]) hle
    · rw [refLoop_off (.inr ⟨ha, by simp only; omega⟩) rfl]
      simp only [sLines]
      rw [if_pos (by omega)]
theorem refAll_eq (s : ByteArray) : (refAll s).1 = sRef s := by
  unfold refAll
  rw [sRef_eq]
  have e : andS (sMust s 62 0) (sName s) = sHead s 62 0 := rfl
  rw [e]
  by_cases hb : (sHead s 62 0).2 = true
  · rw [refLoop_bad _ _ _ _ hb, andS_bad hb]
  · rw [Bool.not_eq_true] at hb
    rw [andS_ok hb]
    have hle := (sHead_le s 62 0 (by omega)).2
    generalize sHead s 62 0 = st at *
    obtain ⟨p, b⟩ := st
    simp only at hb
    subst hb
    have h1 := refLoop_on (s := s) (f := s.size + 2) (acc := []) (st := (p, false)) (by omega) rfl (.inl rfl) rfl
    rw [← h1]
    simp only [List.nil_append, List.length_nil, Nat.sub_zero] at *
    by_cases hb : (sLine s 200 p).2 = true
    · rw [refLoop_bad _ _ _ _ hb, andS_bad hb]
    · rw [Bool.not_eq_true] at hb
      rw [andS_ok hb]
      have hm := sLine_more s 200 p hb
      have hlen := lnL_len s 200 p hle
      have e2 : sLine s 200 p = ((sLine s 200 p).1, false) := by rw [← hb]
      rw [e2, ← hlen]
      refine refLoop_lines s _ _ _ ?_ (sLine_le s 200 p hle).2
      intro h; rw [h] at hlen; simp at hlen; omega
theorem placeOf_bad {R : Nat × Bool} (h : R.2 = true) : placeOf R = (R.1 : Int) := if_pos h
theorem placeOf_good {R : Nat × Bool} (h : R.2 = false) : placeOf R = -1 := if_neg (by simp [h])

set_option maxHeartbeats 1000000 in
theorem refCheck_any (ref reads : ByteArray) (w : World) (h1 : ref.size ≤ maxLen) (h2 : reads.size ≤ maxLen) :
    Calls Try.prog 8 #[.string ref, .string reads] w fun e w' => e = .returned (.tuple #[.int .i64 (checkE ref reads), .int .i64 (checkP ref reads)]) ∧ Below w.heap.size w w' := by
  unfold maxLen at h1 h2
  by_cases ha : 400 < ref.size
  · have e1 : checkE ref reads = 1 := if_pos (.inl ha)
    have e2 : checkP ref reads = 0 := if_pos (.inl ha)
    rw [e1, e2]
    clear e1 e2
    go_enter Try.func8, Try.ntmps8
    go_wp2
    go_ret2
    exact ⟨rfl, Below.refl _ _⟩
  · by_cases hb : 600 < reads.size
    · have e1 : checkE ref reads = 1 := if_pos (.inr hb)
      have e2 : checkP ref reads = 0 := if_pos (.inr hb)
      rw [e1, e2]
      clear e1 e2
      go_enter Try.func8, Try.ntmps8
      go_wp2
      go_ret2
      exact ⟨rfl, Below.refl _ _⟩
    · have e1 : checkE ref reads = ((chk ref reads).1 : Int) := if_neg (by omega)
      have e2 : checkP ref reads = ((chk ref reads).2 : Int) := if_neg (by omega)
      rw [e1, e2]
      clear e1 e2
      by_cases hr : (sRef ref).2 = true
      · have hc : chk ref reads = (2, (sRef ref).1) := if_pos hr
        rw [hc]
        have HP := laid (show placeOf (refAll ref).1 = ((sRef ref).1 : Int) by rw [refAll_eq]; exact placeOf_bad hr)
        clear hc hr
        go_enter Try.func8, Try.ntmps8
        go_wp2_with fail
        refine (reference_any ref _ (by omega)).mono ?_
        rintro e w1 ⟨rfl, hb1⟩
        rw [HP.out]
        clear HP
        go_wp2
        go_ret2
        exact ⟨rfl, hb1.alloc hb1.size _⟩
      · rw [Bool.not_eq_true] at hr
        have HP := laid (show placeOf (refAll ref).1 = -1 by rw [refAll_eq]; exact placeOf_good hr)
        by_cases hq : (sReads reads 5 0).2 = true
        · have hc : chk ref reads = (3, (sReads reads 5 0).1) := by unfold chk; rw [if_neg (by simp [hr]), if_pos hq]
          rw [hc]
          have HQ := laid (placeOf_bad hq)
          clear hc hr hq
          go_enter Try.func8, Try.ntmps8
          go_wp2_with fail
          refine (reference_any ref _ (by omega)).mono ?_
          rintro e w1 ⟨rfl, hb1⟩
          rw [HP.out]
          clear HP
          go_wp2_with fail
          refine (reads_any reads _ (by omega)).mono ?_
          rintro e w2 ⟨V, rfl, hb2, _⟩
          rw [HQ.out]
          clear HQ
          have hb3 : Below w.heap.size w w2 := (hb1.alloc hb1.size _).trans (hb2.mono (by simp; have := hb1.size; omega))
          clear hb1 hb2
          go_wp2
          go_ret2
          exact ⟨rfl, hb3⟩
        · rw [Bool.not_eq_true] at hq
          have hc : chk ref reads = (0, 0) := by unfold chk; rw [hr, hq]; rfl
          rw [hc]
          have HQ := laid (placeOf_good hq)
          clear hc hr hq
          go_enter Try.func8, Try.ntmps8
          go_wp2_with fail
          refine (reference_any ref _ (by omega)).mono ?_
          rintro e w1 ⟨rfl, hb1⟩
          rw [HP.out]
          clear HP
          go_wp2_with fail
          refine (reads_any reads _ (by omega)).mono ?_
          rintro e w2 ⟨V, rfl, hb2, _⟩
          rw [HQ.out]
          clear HQ
          have hb3 : Below w.heap.size w w2 := (hb1.alloc hb1.size _).trans (hb2.mono (by simp; have := hb1.size; omega))
          clear hb1 hb2
          go_wp2
          go_ret2
          exact ⟨rfl, hb3⟩

set_option maxHeartbeats 1000000 in
theorem playsCheck (k q st wk : Int) (ref s : ByteArray) (w : World) (hr : ref.size ≤ maxLen) (hs : s.size ≤ maxLen) :
    Calls Try.prog 6 #[.agg #[.int .i64 1, .int .i64 k, .int .i64 q, .int .i64 st, .int .i64 wk, .string ref, .string s]] w fun e w' => e = .returned (.bool true) ∧ Below w.heap.size w w' := by
  go_enter Try.func6, Try.ntmps6
  go_wp2_with fail
  refine (checkTop_any ref s _ hr hs).mono ?_
  rintro e w1 ⟨rfl, hb1⟩
  obtain ⟨hc, hf⟩ := bcell hb1
  have hz : w.heap.size < w1.heap.size := by have := hb1.size; simp at this; omega
  have hbel : Below w.heap.size w w1 := ((Below.refl _ _).alloc (Nat.le_refl _) _).trans (hb1.mono (by simp))
  clear hb1
  go_wp2_with fail
  refine (refCheck_any ref s _ hr hs).mono ?_
  rintro e w2 ⟨rfl, hb2⟩
  have hb3 := hbel.trans (hb2.mono hbel.size)
  clear hc hf hbel hb2
  generalize checkE ref s = E
  generalize checkP ref s = P
  go_wp2_with (go_at_call 9; refine (num_any _ _).mono ?_; rintro e w' ⟨rfl, rfl⟩)
  go_ret
  exact ⟨rfl, hb3⟩
end Go.Proofs.Ytclgooopdjoclaa
