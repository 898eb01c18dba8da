import Derived.Test.YtdcjnhipenbcfaaGreatDoorRefBins2
import Derived.Test.YtdcjnhipenbcfaaGreatDoorShared
namespace Go.Proofs.YtdcjnhipenbcfaaGreatDoor
open Go.RowKit
set_option linter.unusedVariables false

/-- may the settings be, whatever is sought? -/
def mayI (k q st : Int) : Bool := decide (0 ≤ k ∧ k ≤ 6 ∧ 1 ≤ q ∧ q ≤ 8 ∧ 1 ≤ st ∧ st ≤ 200)
theorem right_may (k m q st : Int) : rightI k m q st = (mayI k q st && decide (k < m)) := by
  unfold rightI mayI
  rw [Bool.eq_iff_iff]
  simp
  omega

set_option maxHeartbeats 4000000 in
theorem mayBe_any (k q st : Int) (w : World) :
    Calls Tryz.prog 45 #[.agg #[.int .i64 k, .int .i64 q, .int .i64 st]] w fun e w' => e = .returned (.bool (mayI k q st)) ∧ Below w.heap.size w w' := by
  have hb : ∀ o, Below w.heap.size w (w.alloc o) := fun o => (Below.refl _ _).alloc (Nat.le_refl _) o
  by_cases h1 : 0 ≤ k
  case neg => 
    go_enter Tryz.func45, Tryz.ntmps45
    go_wp2
    go_ret
    exact ⟨ret_bool (by unfold mayI; rw [decide_eq_false (by omega)]), hb _⟩
  by_cases h2 : k ≤ 6
  case neg => 
    go_enter Tryz.func45, Tryz.ntmps45
    go_wp2
    go_ret
    exact ⟨ret_bool (by unfold mayI; rw [decide_eq_false (by omega)]), hb _⟩
  by_cases h3 : 1 ≤ q
  case neg => 
    go_enter Tryz.func45, Tryz.ntmps45
    go_wp2
    go_ret
    exact ⟨ret_bool (by unfold mayI; rw [decide_eq_false (by omega)]), hb _⟩
  by_cases h4 : q ≤ 8
  case neg => 
    go_enter Tryz.func45, Tryz.ntmps45
    go_wp2
    go_ret
    exact ⟨ret_bool (by unfold mayI; rw [decide_eq_false (by omega)]), hb _⟩
  by_cases h5 : 1 ≤ st
  case neg => 
    go_enter Tryz.func45, Tryz.ntmps45
    go_wp2
    go_ret
    exact ⟨ret_bool (by unfold mayI; rw [decide_eq_false (by omega)]), hb _⟩
  by_cases h6 : st ≤ 200
  case neg => 
    go_enter Tryz.func45, Tryz.ntmps45
    go_wp2
    go_ret
    exact ⟨ret_bool (by unfold mayI; rw [decide_eq_false (by omega)]), hb _⟩
  go_enter Tryz.func45, Tryz.ntmps45
  go_wp2
  go_ret
  exact ⟨ret_bool (by unfold mayI; rw [decide_eq_true (by omega)]), hb _⟩

set_option maxHeartbeats 400000 in
theorem mayServe_any (k q st : Int) (S : ByteArray) (w : World) (hS : S.size ≤ 1000) :
    Calls Tryz.prog 46 #[.agg #[.int .i64 k, .int .i64 q, .int .i64 st], .string S] w fun e w' => e = .returned (.bool (decide (k < (S.size : Int)))) ∧ Below w.heap.size w w' := by
  go_enter Tryz.func46, Tryz.ntmps46
  go_wp2
  go_ret
  exact ⟨rfl, (Below.refl _ _).alloc (Nat.le_refl _) _⟩

theorem thr_eq (len k q m : Nat) (hm : (k : Int) * (q : Int) = (m : Int)) : thr len k q = (len : Int) - (q : Int) + 1 - (m : Int) := by
  unfold thr
  have : k * q = m := by exact_mod_cast hm
  rw [this]

set_option maxHeartbeats 1000000 in
theorem needed_any (k q st len : Nat) (w : World) (hk : k ≤ 6) (hq : q ≤ 8) (hl : len ≤ 1000) :
    Calls Tryz.prog 75 #[.agg #[.int .i64 (k : Int), .int .i64 (q : Int), .int .i64 (st : Int)], .int .i64 (len : Int)] w fun e w' => e = .returned (.int .i64 (thr len k q)) ∧ Below w.heap.size w w' := by
  obtain ⟨m, hm, hm2⟩ : ∃ m : Nat, (k : Int) * (q : Int) = (m : Int) ∧ m ≤ 48 := ⟨k * q, by simp, by have := Nat.mul_le_mul hk hq; omega⟩
  rw [thr_eq len k q m hm]
  go_enter Tryz.func75, Tryz.ntmps75
  go_wp2
  go_ret
  exact ⟨rfl, (Below.refl _ _).alloc (Nat.le_refl _) _⟩

set_option maxHeartbeats 1000000 in
theorem stretch_any (X : ByteArray) (k q st len b : Nat) (w : World) (hX : X.size ≤ 1000) (hk : k ≤ 6) (hs : st ≤ 200) (hl : len ≤ 1000) (hb : b * st ≤ X.size) (hb' : b ≤ 100000) :
    Calls Tryz.prog 77 #[.agg #[.int .i64 (k : Int), .int .i64 (q : Int), .int .i64 (st : Int)], .string X, .int .i64 (len : Int), .int .i64 (b : Int)] w fun e w' => e = .returned (.string (X.extract (b * st) (stTo len X.size k st b))) ∧ Below w.heap.size w w' := by
  have hstTo : stTo len X.size k st b = min (b * st + st + len + k) X.size := rfl
  rw [hstTo]
  obtain ⟨m, hmn, hm⟩ : ∃ m : Nat, b * st = m ∧ (b : Int) * (st : Int) = (m : Int) := ⟨b * st, rfl, by simp⟩
  rw [hmn] at hb ⊢
  clear hmn hstTo
  have hmin : min ((m : Int) + (st : Int) + (len : Int) + (k : Int)) (X.size : Int) = ((min (m + st + len + k) X.size : Nat) : Int) := by omega
  have hle : m ≤ min (m + st + len + k) X.size := by omega
  have hle2 : min (m + st + len + k) X.size ≤ X.size := by omega
  generalize min (m + st + len + k) X.size = to at *
  go_enter Tryz.func77, Tryz.ntmps77
  go_wp2
  go_ret
  exact ⟨rfl, (Below.refl _ _).alloc (Nat.le_refl _) _⟩
end Go.Proofs.YtdcjnhipenbcfaaGreatDoor
