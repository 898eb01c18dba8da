import Derived.Test.YtdcjnhipenbcfaaGreatDoorRefBins
import Derived.Test.YtdcjnhipenbcfaaGreatDoorRefCheck
namespace Go.Proofs.YtdcjnhipenbcfaaGreatDoor
open Go.RowKit
set_option linter.unusedVariables false

/-- the end of stretch b -/
def stTo (len X k st b : Nat) : Nat := min (b * st + st + len + k) X
/-- is stretch b looked at? -/
def looked (P X : ByteArray) (k q st : Nat) (t : Int) (b : Nat) : Bool := decide (t ≤ 0) || decide (t ≤ (comB P (X.extract (b * st) (stTo P.size X.size k st b)) q : Int))
/-- the numbers of those of the first n stretches that are looked at -/
def binsUp (P X : ByteArray) (k q st : Nat) (t : Int) : Nat → List UInt8
  | 0 => []
  | b + 1 => if looked P X k q st t b = true then (if binsUp P X k q st t b = [] then decL b else binsUp P X k q st t b ++ (44 :: decL b)) else binsUp P X k q st t b
theorem decL_len (n : Nat) (h : n ≤ 9999) : 1 ≤ (decL n).length ∧ (decL n).length ≤ 4 := by
  by_cases h1 : n ≤ 9
  · rw [decL_small n h1]; simp
  rw [decL_big n h1]
  by_cases h2 : n / 10 ≤ 9
  · rw [decL_small _ h2]; simp
  rw [decL_big _ h2]
  by_cases h3 : n / 10 / 10 ≤ 9
  · rw [decL_small _ h3]; simp
  rw [decL_big _ h3, decL_small _ (by omega)]; simp
theorem binsUp_len (P X : ByteArray) (k q st : Nat) (t : Int) : ∀ b, b ≤ 9999 → (binsUp P X k q st t b).length ≤ 5 * b
  | 0, _ => by simp [binsUp]
  | b + 1, h => by
    have h1 := binsUp_len P X k q st t b (by omega)
    have h2 := decL_len b (by omega)
    simp only [binsUp]
    split
    · split
      · omega
      · rw [List.length_append, List.length_cons]; omega
    · omega
/-- the number of stretches -/
def stretches (X st : Nat) : Nat := (X + st - 1) / st
theorem stretches_lt (X st b : Nat) (hs : 1 ≤ st) : b * st < X ↔ b < stretches X st := by
  unfold stretches
  rw [Nat.lt_div_iff_mul_lt (by omega)]
  constructor <;> intro h <;> omega
def thr (len k q : Nat) : Int := (len : Int) - (q : Int) + 1 - ((k * q : Nat) : Int)

/-- the document's Bins -/
def binsRaw (ref bases : ByteArray) (k q step : Int) : List UInt8 :=
  binsUp (str (bases.data.toList.map gb)) (str (refAll ref).2) k.toNat q.toNat step.toNat (thr bases.size k.toNat q.toNat) (stretches (refAll ref).2.length step.toNat)
def binsS (ref bases : ByteArray) (k q step : Int) : ByteArray :=
  if 400 < ref.size ∨ (sRef ref).2 = true ∨ bases.size < 1 ∨ 30 < bases.size ∨ bases.data.toList.all isb = false ∨ rightI k bases.size q step = false then ⟨#[]⟩ else str (binsRaw ref bases k q step)
def binsE (ref bases : ByteArray) (k q step : Int) : Int :=
  if 400 < ref.size then 1 else if (sRef ref).2 = true then 2 else if bases.size < 1 ∨ 30 < bases.size ∨ bases.data.toList.all isb = false then 5 else if rightI k bases.size q step = false then 4 else 0

theorem refLoop_len (s : ByteArray) : ∀ (f : Nat) (acc : List UInt8) (st : Nat × Bool), acc.length ≤ 200 → st.1 ≤ s.size → (refLoop s f acc st).2.length ≤ 200
  | 0, acc, st, h, _ => h
  | f + 1, acc, st, h, hp => by
    simp only [refLoop]
    split
    · refine refLoop_len s f _ _ ?_ (sLine_le s _ _ hp).2
      have := lnL_len s (200 - acc.length) st.1 hp
      have := nLine_le s (200 - acc.length) st.1
      rw [List.length_append]; omega
    · exact h
theorem refAll_len (s : ByteArray) : (refAll s).2.length ≤ 200 := refLoop_len s _ _ _ (by simp) (sHead_le s 62 0 (by omega)).2

set_option maxHeartbeats 1000000 in
theorem refBins_bad1 (ref bases : ByteArray) (k q step : Int) (w : World) (h1 : ref.size ≤ maxLen) (ha : 400 < ref.size) :
    Calls Tryz.prog 56 #[.string ref, .string bases, .int .i64 k, .int .i64 q, .int .i64 step] w fun e w' => e = .returned (.tuple #[.string ⟨#[]⟩, .int .i64 1]) ∧ Below w.heap.size w w' := by
  unfold maxLen at h1
  go_enter Tryz.func56, Tryz.ntmps56
  go_wp2
  go_ret2
  exact ⟨rfl, Below.refl _ _⟩

set_option maxHeartbeats 1000000 in
theorem refBins_bad2 (ref bases : ByteArray) (k q step : Int) (w : World) (ha : ¬ 400 < ref.size) (hr : (sRef ref).2 = true) :
    Calls Tryz.prog 56 #[.string ref, .string bases, .int .i64 k, .int .i64 q, .int .i64 step] w fun e w' => e = .returned (.tuple #[.string ⟨#[]⟩, .int .i64 2]) ∧ Below w.heap.size w w' := by
  have HP := laid (show placeOf (refAll ref).1 = ((sRef ref).1 : Int) by rw [refAll_eq]; exact placeOf_bad hr)
  clear hr
  go_enter Tryz.func56, Tryz.ntmps56
  go_wp2_with fail
  refine (reference_any ref _ (by omega)).mono ?_
  rintro e w1 ⟨rfl, hb1⟩
  rw [HP.out]
  clear HP
  go_wp2
  go_ret2
  exact ⟨rfl, hb1.alloc hb1.size _⟩

set_option maxHeartbeats 1000000 in
theorem refBins_bad5 (ref bases : ByteArray) (k q step : Int) (w : World) (h2 : bases.size ≤ maxLen) (ha : ¬ 400 < ref.size) (hr : (sRef ref).2 = false) (hb : bases.size < 1 ∨ 30 < bases.size ∨ bases.data.toList.all isb = false) :
    Calls Tryz.prog 56 #[.string ref, .string bases, .int .i64 k, .int .i64 q, .int .i64 step] w fun e w' => e = .returned (.tuple #[.string ⟨#[]⟩, .int .i64 5]) ∧ Below w.heap.size w w' := by
  unfold maxLen at h2
  have HP := laid (show placeOf (refAll ref).1 = -1 by rw [refAll_eq]; exact placeOf_good hr)
  clear hr
  by_cases hb1 : bases.size < 1
  · go_enter Tryz.func56, Tryz.ntmps56
    clear hb
    go_wp2_with fail
    refine (reference_any ref _ (by omega)).mono ?_
    rintro e w1 ⟨rfl, hbel⟩
    rw [HP.out]
    clear HP
    go_wp2
    go_ret2
    exact ⟨rfl, hbel.alloc hbel.size _⟩
  · by_cases hb2 : 30 < bases.size
    · clear hb
      go_enter Tryz.func56, Tryz.ntmps56
      go_wp2_with fail
      refine (reference_any ref _ (by omega)).mono ?_
      rintro e w1 ⟨rfl, hbel⟩
      rw [HP.out]
      clear HP
      go_wp2
      go_ret2
      exact ⟨rfl, hbel.alloc hbel.size _⟩
    · have hb3 := laid ((hb.resolve_left hb1).resolve_left hb2)
      clear hb
      go_enter Tryz.func56, Tryz.ntmps56
      go_wp2_with fail
      refine (reference_any ref _ (by omega)).mono ?_
      rintro e w1 ⟨rfl, hbel⟩
      rw [HP.out]
      clear HP
      go_wp2_with fail
      refine (great_none bases _ (by omega) hb3.out).mono ?_
      rintro e w2 ⟨rfl, rfl⟩
      go_wp2
      go_ret2
      exact ⟨rfl, hbel.alloc hbel.size _⟩

set_option maxHeartbeats 1000000 in
theorem refBins_bad4 (ref bases : ByteArray) (k q step : Int) (w : World) (ha : ¬ 400 < ref.size) (hr : (sRef ref).2 = false) (hb1 : ¬ bases.size < 1) (hb2 : ¬ 30 < bases.size) (hb3 : bases.data.toList.all isb = true) (hri : rightI k bases.size q step = false) :
    Calls Tryz.prog 56 #[.string ref, .string bases, .int .i64 k, .int .i64 q, .int .i64 step] w fun e w' => e = .returned (.tuple #[.string ⟨#[]⟩, .int .i64 4]) ∧ Below w.heap.size w w' := by
  have HP := laid (show placeOf (refAll ref).1 = -1 by rw [refAll_eq]; exact placeOf_good hr)
  have HB := laid hb3
  have hlen : (str (bases.data.toList.map gb)).size = bases.size := by rw [str_size]; simp
  have HLEN := laid hlen
  have HRI := laid hri
  clear hr hb3 hlen hri
  go_enter Tryz.func56, Tryz.ntmps56
  go_wp2_with fail
  refine (reference_any ref _ (by omega)).mono ?_
  rintro e w1 ⟨rfl, hbel⟩
  rw [HP.out]
  clear HP
  go_wp2_with fail
  refine (great_text bases _ (by omega) HB.out).mono ?_
  rintro e w2 ⟨rfl, rfl⟩
  go_wp2_with fail
  refine (right_any _ _ _ _ _).mono ?_
  rintro e w3 ⟨rfl, rfl⟩
  rw [HLEN.out, HRI.out]
  go_wp2
  go_ret2
  exact ⟨rfl, hbel.alloc hbel.size _⟩
end Go.Proofs.YtdcjnhipenbcfaaGreatDoor
