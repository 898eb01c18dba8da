import Derived.Test.YtdcjnhipenbcfaaGreatDoorProg
import Derived.WalkKit
import Derived.WalkSpells
import Derived.WalkLawsBesides
import Derived.Deep.Light
namespace Go.Proofs.YtdcjnhipenbcfaaGreatDoor
open Go.RowKit
set_option linter.unusedVariables false

theorem ret_int {k : IntKind} {a b : Int} (h : a = b) : Ending.returned (.int k a) = .returned (.int k b) := by rw [h]
theorem ret_bool {a b : Bool} (h : a = b) : Ending.returned (.bool a) = .returned (.bool b) := by rw [h]

def grI (n : Int) : Int := if 97 ≤ n ∧ n ≤ 122 then n - 32 else n
def isBI (n : Int) : Bool := decide (grI n = 65) || decide (grI n = 67) || decide (grI n = 71) || decide (grI n = 84) || decide (grI n = 78)
def parI (n : Int) : Int := if n = 65 then 84 else if n = 84 then 65 else if n = 67 then 71 else if n = 71 then 67 else 78

set_option maxHeartbeats 400000 in
theorem great_any (n : Int) (h0 : 0 ≤ n) (h1 : n ≤ 255) (w : World) :
    Calls Tryz.prog 97 #[.int .u8 n] w fun e w' => e = .returned (.int .u8 (grI n)) ∧ w' = w := by
  by_cases ha : 97 ≤ n
  · by_cases hb : n ≤ 122
    · go_enter Tryz.func97, Tryz.ntmps97
      go_wp2
      go_ret
      exact ⟨ret_int (by unfold grI; rw [if_pos ⟨ha, hb⟩]; omega), rfl⟩
    · go_enter Tryz.func97, Tryz.ntmps97
      go_wp2
      go_ret
      exact ⟨ret_int (by unfold grI; rw [if_neg (by omega)]), rfl⟩
  · go_enter Tryz.func97, Tryz.ntmps97
    go_wp2
    go_ret
    exact ⟨ret_int (by unfold grI; rw [if_neg (by omega)]), rfl⟩

set_option maxHeartbeats 400000 in
theorem isBase_any (n : Int) (h0 : 0 ≤ n) (h1 : n ≤ 255) (w : World) :
    Calls Tryz.prog 71 #[.int .u8 n] w fun e w' => e = .returned (.bool (isBI n)) ∧ w' = w := by
  go_enter Tryz.func71, Tryz.ntmps71
  go_wp2_with (go_at_call 97; refine (great_any _ h0 h1 _).mono ?_; rintro e w' ⟨rfl, rfl⟩)
  all_goals go_ret
  all_goals (go_light; exact ⟨ret_bool (by simp_all [isBI]), rfl⟩)

set_option maxHeartbeats 400000 in
theorem partner_any (n : Int) (h0 : 0 ≤ n) (h1 : n ≤ 255) (w : World) :
    Calls Tryz.prog 79 #[.int .u8 n] w fun e w' => e = .returned (.int .u8 (parI n)) ∧ w' = w := by
  go_enter Tryz.func79, Tryz.ntmps79
  go_wp2
  all_goals go_ret
  all_goals (go_light; exact ⟨ret_int (by simp_all [parI]), rfl⟩)

set_option maxHeartbeats 400000 in
theorem num_any (n : Int) (w : World) :
    Calls Tryz.prog 54 #[.int .i64 n] w fun e w' => e = .returned (.int .i64 n) ∧ w' = w := by
  go_enter Tryz.func54, Tryz.ntmps54
  go_wp2
  go_ret
  exact ⟨rfl, rfl⟩

/-- the reference's base: the great letter as a text, or the empty text -/
def bsI (n : Int) : ByteArray :=
  if n = 65 ∨ n = 97 then ⟨#[65]⟩ else if n = 67 ∨ n = 99 then ⟨#[67]⟩ else if n = 71 ∨ n = 103 then ⟨#[71]⟩ else if n = 84 ∨ n = 116 then ⟨#[84]⟩ else if n = 78 ∨ n = 110 then ⟨#[78]⟩ else ⟨#[]⟩

theorem ret_str {a b : ByteArray} (h : a = b) : Ending.returned (.string a) = .returned (.string b) := by rw [h]

set_option maxHeartbeats 400000 in
theorem base_any (n : Int) (h0 : 0 ≤ n) (h1 : n ≤ 255) (w : World) :
    Calls Tryz.prog 103 #[.int .u8 n] w fun e w' => e = .returned (.string (bsI n)) ∧ w' = w := by
  go_enter Tryz.func103, Tryz.ntmps103
  go_wp2
  all_goals go_ret
  all_goals (go_light; exact ⟨ret_str (by simp_all [bsI]), rfl⟩)

def gb (b : UInt8) : UInt8 := UInt8.ofNat (grI b.toNat).toNat
def isb (b : UInt8) : Bool := isBI b.toNat
def pb (b : UInt8) : UInt8 := UInt8.ofNat (parI b.toNat).toNat

theorem bsI_eq (n : Int) (h0 : 0 ≤ n) (h1 : n ≤ 255) : bsI n = if isBI n then ⟨#[UInt8.ofNat (grI n).toNat]⟩ else ⟨#[]⟩ := by
  unfold bsI isBI grI
  by_cases a : 97 ≤ n ∧ n ≤ 122
  · simp only [if_pos a]
    by_cases e1 : n = 97
    · subst e1; decide
    by_cases e2 : n = 99
    · subst e2; decide
    by_cases e3 : n = 103
    · subst e3; decide
    by_cases e4 : n = 116
    · subst e4; decide
    by_cases e5 : n = 110
    · subst e5; decide
    rw [if_neg (by omega), if_neg (by omega), if_neg (by omega), if_neg (by omega), if_neg (by omega), if_neg]
    simp; omega
  · simp only [if_neg a]
    by_cases e1 : n = 65
    · subst e1; decide
    by_cases e2 : n = 67
    · subst e2; decide
    by_cases e3 : n = 71
    · subst e3; decide
    by_cases e4 : n = 84
    · subst e4; decide
    by_cases e5 : n = 78
    · subst e5; decide
    rw [if_neg (by omega), if_neg (by omega), if_neg (by omega), if_neg (by omega), if_neg (by omega), if_neg]
    simp; omega

theorem byte_lo (b : UInt8) : 0 ≤ (b.toNat : Int) := by omega
theorem byte_hi (b : UInt8) : (b.toNat : Int) ≤ 255 := by have := b.toNat_lt; omega
theorem laid {p : Prop} (h : p) : Hid p := h

theorem base_yes (b : UInt8) (hb : isb b = true) (w : World) :
    Calls Tryz.prog 103 #[.int .u8 (b.toNat : Int)] w fun e w' => e = .returned (.string ⟨#[gb b]⟩) ∧ w' = w := by
  have h := base_any b.toNat (byte_lo b) (byte_hi b) w
  rw [bsI_eq _ (byte_lo b) (byte_hi b)] at h
  unfold isb at hb
  simpa only [hb, if_true, gb] using h

theorem base_no (b : UInt8) (hb : isb b = false) (w : World) :
    Calls Tryz.prog 103 #[.int .u8 (b.toNat : Int)] w fun e w' => e = .returned (.string ⟨#[]⟩) ∧ w' = w := by
  have h := base_any b.toNat (byte_lo b) (byte_hi b) w
  rw [bsI_eq _ (byte_lo b) (byte_hi b)] at h
  unfold isb at hb
  simpa only [hb, Bool.false_eq_true, if_false] using h
end Go.Proofs.YtdcjnhipenbcfaaGreatDoor
