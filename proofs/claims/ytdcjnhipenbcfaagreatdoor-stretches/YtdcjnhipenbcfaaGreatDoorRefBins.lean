import Derived.Test.YtdcjnhipenbcfaaGreatDoorRefRef
namespace Go.Proofs.YtdcjnhipenbcfaaGreatDoor
open Go.RowKit
set_option linter.unusedVariables false

def eqB (a b : ByteArray) : Bool := a.toList == b.toList
theorem eqB_iff (a b : ByteArray) : eqB a b = true ↔ a = b := by
  unfold eqB; rw [ByteArray.toList_eq, ByteArray.toList_eq, beq_iff_eq]
  constructor
  · intro h; exact ByteArray.ext (Array.ext' h)
  · rintro rfl; rfl
/-- how often r stands in s at places below k -/
def oftUp (r s : ByteArray) : Nat → Nat
  | 0 => 0
  | k + 1 => oftUp r s k + (if eqB (s.extract k (k + r.size)) r = true then 1 else 0)
theorem oftUp_le (r s : ByteArray) : ∀ k, oftUp r s k ≤ k
  | 0 => Nat.le_refl _
  | k + 1 => by have := oftUp_le r s k; simp only [oftUp]; split <;> omega
/-- how often r stands in s -/
def oftB (r s : ByteArray) : Nat := oftUp r s (s.size + 1 - r.size)

set_option maxHeartbeats 400000 in
theorem often_any (r s : ByteArray) (w : World) (hr : r.size ≤ 1000) (hs : s.size ≤ 1000) :
    Calls Tryz.prog 104 #[.string r, .string s] w fun e w' => e = .returned (.int .i64 (oftB r s : Int)) ∧ w' = w := by
  go_enter Tryz.func104, Tryz.ntmps104
  go_wp2
  go_loop [5, 6] (fun n i => ∃ k : Nat, k ≤ s.size + 1 - r.size ∧ i = .int .i64 k ∧ n = .int .i64 (oftUp r s k : Int)) (fun _ i => s.size + 1 - (intOf i).toNat)
  case atStart => exact ⟨0, Nat.zero_le _, rfl, rfl⟩
  case round =>
    obtain ⟨k, hk, rfl, rfl⟩ := hrel
    have hle := oftUp_le r s k
    by_cases hlt : k + r.size ≤ s.size
    · go_wp2
      · go_round
        case rel => go_light; exact ⟨k + 1, by omega, by go_num, val_int (by simp only [oftUp]; rw [if_pos (show eqB _ _ = true from ‹_›)]; omega)⟩
        case measure => go_light; simp [intOf]; omega
      · go_round
        case rel => go_light; exact ⟨k + 1, by omega, by go_num, val_int (by simp only [oftUp]; rw [if_neg (by rw [Bool.not_eq_true]; exact (show eqB _ _ = false from ‹_›))]; omega)⟩
        case measure => go_light; simp [intOf]; omega
    · go_wp2
      go_ret
      exact ⟨ret_int (by unfold oftB; rw [show s.size + 1 - r.size = k by omega]), rfl⟩

/-- one place of P5's sum -/
def comT (p s : ByteArray) (q i : Nat) : Nat :=
  if 0 < oftB (p.extract i (i + q)) (p.extract 0 (i + q - 1)) ∨ 0 < oftB ⟨#[78]⟩ (p.extract i (i + q)) then 0 else min (oftB (p.extract i (i + q)) p) (oftB (p.extract i (i + q)) s)
def comUp (p s : ByteArray) (q : Nat) : Nat → Nat
  | 0 => 0
  | k + 1 => comUp p s q k + comT p s q k
/-- P5's sum -/
def comB (p s : ByteArray) (q : Nat) : Nat := comUp p s q (p.size + 1 - q)
theorem oftB_le (r s : ByteArray) : oftB r s ≤ s.size + 1 := by
  have := oftUp_le r s (s.size + 1 - r.size); unfold oftB; omega
theorem comT_le (p s : ByteArray) (q i : Nat) : comT p s q i ≤ s.size + 1 := by
  unfold comT; split
  · omega
  · have := oftB_le (p.extract i (i + q)) s; omega
theorem comUp_le (p s : ByteArray) (q : Nat) : ∀ k, comUp p s q k ≤ k * (s.size + 1)
  | 0 => by simp [comUp]
  | k + 1 => by
    have := comUp_le p s q k
    have := comT_le p s q k
    simp only [comUp]
    rw [Nat.succ_mul]; omega
theorem comUp_small (p s : ByteArray) (q k : Nat) (hk : k ≤ 1000) (hs : s.size ≤ 1000) : comUp p s q k ≤ 1001000 := by
  have h := comUp_le p s q k
  have : k * (s.size + 1) ≤ 1000 * 1001 := Nat.mul_le_mul hk (by omega)
  omega

set_option maxHeartbeats 400000 in
theorem common_any (p s : ByteArray) (q : Nat) (w : World) (hp : p.size ≤ 1000) (hs : s.size ≤ 1000) (hq : 1 ≤ q) (hq' : q ≤ 1000) :
    Calls Tryz.prog 85 #[.string p, .string s, .int .i64 (q : Int)] w fun e w' => e = .returned (.int .i64 (comB p s q : Int)) ∧ w' = w := by
  go_enter Tryz.func85, Tryz.ntmps85
  go_wp2
  go_loop [7, 8] (fun n i => ∃ k : Nat, k ≤ p.size + 1 - q ∧ i = .int .i64 k ∧ n = .int .i64 (comUp p s q k : Int)) (fun _ i => p.size + 1 - (intOf i).toNat)
  case atStart => exact ⟨0, Nat.zero_le _, rfl, rfl⟩
  case round =>
    obtain ⟨k, hk, rfl, rfl⟩ := hrel
    have hcu := comUp_small p s q k (by omega) hs
    by_cases hlt : k + q ≤ p.size
    · have hz1 : (p.extract k (k + q)).size ≤ 1000 := by rw [ByteArray.size_extract]; omega
      have hz2 : (p.extract 0 (k + q - 1)).size ≤ 1000 := by rw [ByteArray.size_extract]; omega
      have hT : Hid (comT p s q k = if 0 < oftB (p.extract k (k + q)) (p.extract 0 (k + q - 1)) ∨ 0 < oftB ⟨#[78]⟩ (p.extract k (k + q)) then 0 else min (oftB (p.extract k (k + q)) p) (oftB (p.extract k (k + q)) s)) := laid rfl
      have hA := oftB_le (p.extract k (k + q)) (p.extract 0 (k + q - 1))
      have hB := oftB_le ⟨#[78]⟩ (p.extract k (k + q))
      have hC := oftB_le (p.extract k (k + q)) p
      have hD := oftB_le (p.extract k (k + q)) s
      have cA := fun W => often_any (p.extract k (k + q)) (p.extract 0 (k + q - 1)) W hz1 hz2
      have cB := fun W => often_any ⟨#[78]⟩ (p.extract k (k + q)) W (by decide) hz1
      have cC := fun W => often_any (p.extract k (k + q)) p W hz1 hp
      have cD := fun W => often_any (p.extract k (k + q)) s W hz1 hs
      have HA := laid cA
      have HB := laid cB
      have HC := laid cC
      have HD := laid cD
      clear cA cB cC cD
      generalize oftB (p.extract k (k + q)) (p.extract 0 (k + q - 1)) = A at *
      generalize oftB ⟨#[78]⟩ (p.extract k (k + q)) = B at *
      generalize oftB (p.extract k (k + q)) p = C at *
      generalize oftB (p.extract k (k + q)) s = D at *
      have hmeas : p.size + 1 - (intOf (.int .i64 ((k : Int) + 1))).toNat < p.size + 1 - (intOf (.int .i64 (k : Int))).toNat := by simp [intOf]; omega
      have HME := laid hmeas
      clear hmeas
      go_wp2_with fail
      refine (HA.out _).mono ?_
      rintro e w' ⟨rfl, rfl⟩
      by_cases h1 : 0 < A
      · go_wp2
        go_round
        case rel => go_light; exact ⟨k + 1, by omega, by go_num, val_int (by simp only [comUp]; rw [hT.out, if_pos (.inl h1)]; omega)⟩
        case measure => go_light; exact HME.out
      · go_wp2_with fail
        refine (HB.out _).mono ?_
        rintro e w' ⟨rfl, rfl⟩
        by_cases h2 : 0 < B
        · go_wp2
          go_round
          case rel => go_light; exact ⟨k + 1, by omega, by go_num, val_int (by simp only [comUp]; rw [hT.out, if_pos (.inr h2)]; omega)⟩
          case measure => go_light; exact HME.out
        · go_wp2_with fail
          refine (HC.out _).mono ?_
          rintro e w' ⟨rfl, rfl⟩
          go_wp2_with fail
          refine (HD.out _).mono ?_
          rintro e w' ⟨rfl, rfl⟩
          by_cases h3 : D < C
          · go_wp2
            go_round
            case rel => go_light; exact ⟨k + 1, by omega, by go_num, val_int (by simp only [comUp]; rw [hT.out, if_neg (by omega)]; omega)⟩
            case measure => go_light; exact HME.out
          · go_wp2
            go_round
            case rel => go_light; exact ⟨k + 1, by omega, by go_num, val_int (by simp only [comUp]; rw [hT.out, if_neg (by omega)]; omega)⟩
            case measure => go_light; exact HME.out
    · go_wp2
      go_ret
      exact ⟨ret_int (by unfold comB; rw [show p.size + 1 - q = k by omega]), rfl⟩

/-! ### Decimal digits -/
def dg (d : Nat) : UInt8 := UInt8.ofNat (48 + d)
/-- a number's decimal digits; the first number only bounds the steps -/
def decGo : Nat → Nat → List UInt8
  | 0, n => [dg n]
  | f + 1, n => if n ≤ 9 then [dg n] else decGo f (n / 10) ++ [dg (n % 10)]
def decL (n : Nat) : List UInt8 := decGo n n
theorem decGo_fuel : ∀ (f n : Nat), n ≤ f → decGo f n = decGo n n
  | 0, n, h => by have : n = 0 := by omega
                  subst this; rfl
  | f + 1, n, h => by
    cases n with
    | zero => simp [decGo]
    | succ n =>
      simp only [decGo]
      split
      · rfl
      · rw [decGo_fuel f ((n + 1) / 10) (by omega), decGo_fuel n ((n + 1) / 10) (by omega)]
theorem decL_small (n : Nat) (h : n ≤ 9) : decL n = [dg n] := by
  unfold decL
  cases n with
  | zero => rfl
  | succ n => simp only [decGo]; rw [if_pos h]
theorem decL_big (n : Nat) (h : ¬ n ≤ 9) : decL n = decL (n / 10) ++ [dg (n % 10)] := by
  unfold decL
  cases n with
  | zero => omega
  | succ n => simp only [decGo]; rw [if_neg h, decGo_fuel n _ (by omega)]
theorem digit_at (d : Nat) (h : d ≤ 9) : (⟨#[48, 49, 50, 51, 52, 53, 54, 55, 56, 57]⟩ : ByteArray).extract d (d + 1) = ⟨#[dg d]⟩ := by
  have : d = 0 ∨ d = 1 ∨ d = 2 ∨ d = 3 ∨ d = 4 ∨ d = 5 ∨ d = 6 ∨ d = 7 ∨ d = 8 ∨ d = 9 := by omega
  rcases this with rfl | rfl | rfl | rfl | rfl | rfl | rfl | rfl | rfl | rfl <;> decide
theorem str_cons (b : UInt8) (l : List UInt8) : (⟨#[b]⟩ : ByteArray) ++ str l = str (b :: l) := str_append [b] l

set_option maxHeartbeats 400000 in
theorem decimal_any (n : Nat) (w : World) (hn : n ≤ 1000000) :
    Calls Tryz.prog 86 #[.int .i64 (n : Int)] w fun e w' => e = .returned (.string (str (decL n))) ∧ w' = w := by
  go_enter Tryz.func86, Tryz.ntmps86
  go_wp2
  go_loop [0, 3] (fun i s => ∃ (m : Nat) (l : List UInt8), i = .int .i64 m ∧ s = .string (str l) ∧ m ≤ n ∧ l.length ≤ n - m ∧ Hid (decL m ++ l = decL n)) (fun i _ => (intOf i).toNat)
  case atStart => exact ⟨n, [], rfl, rfl, Nat.le_refl _, by simp, laid (by simp)⟩
  case round =>
    obtain ⟨m, l, rfl, rfl, hm, hl, H⟩ := hrel
    have hz : (str l).size ≤ 1000000 := by rw [str_size]; omega
    by_cases hlt : m ≤ 9
    · have hex := digit_at m hlt
      have HF := laid (show str (decL n) = str (dg m :: l) by rw [← H.out, decL_small m hlt]; rfl)
      have HC := laid (str_cons (dg m) l)
      go_wp2
      go_ret
      exact ⟨ret_str (by rw [HF.out]; exact HC.out), rfl⟩
    · have hd : m % 10 ≤ 9 := by omega
      have hex := digit_at (m % 10) hd
      have HF := laid (show decL (m / 10) ++ (dg (m % 10) :: l) = decL n by rw [← H.out, decL_big m hlt, List.append_assoc]; rfl)
      have HC := laid (str_cons (dg (m % 10)) l)
      go_wp2
      go_round
      case rel => go_light; exact ⟨m / 10, dg (m % 10) :: l, val_int (by omega), val_str HC.out, by omega, by simp; omega, HF⟩
      case measure => go_light; simp [intOf]; omega

/-! ### The numbers that may be -/
def rightI (k many q step : Int) : Bool := decide (0 ≤ k ∧ k ≤ 6 ∧ k < many ∧ 1 ≤ q ∧ q ≤ 8 ∧ 1 ≤ step ∧ step ≤ 200)
set_option maxHeartbeats 1000000 in
theorem right_any (k many q step : Int) (w : World) :
    Calls Tryz.prog 84 #[.int .i64 k, .int .i64 many, .int .i64 q, .int .i64 step] w fun e w' => e = .returned (.bool (rightI k many q step)) ∧ w' = w := by
  by_cases h1 : 0 ≤ k
  · by_cases h2 : k ≤ 6
    · by_cases h3 : k < many
      · by_cases h4 : 1 ≤ q
        · by_cases h5 : q ≤ 8
          · by_cases h6 : 1 ≤ step
            · by_cases h7 : step ≤ 200
              all_goals
                go_enter Tryz.func84, Tryz.ntmps84
                go_wp2
                go_ret
                exact ⟨ret_bool (by unfold rightI; first | (rw [decide_eq_true (by omega)]; done) | (rw [decide_eq_false (by omega)]; done)), rfl⟩
            · go_enter Tryz.func84, Tryz.ntmps84
              go_wp2
              go_ret
              exact ⟨ret_bool (by unfold rightI; rw [decide_eq_false (by omega)]), rfl⟩
          · go_enter Tryz.func84, Tryz.ntmps84
            go_wp2
            go_ret
            exact ⟨ret_bool (by unfold rightI; rw [decide_eq_false (by omega)]), rfl⟩
        · go_enter Tryz.func84, Tryz.ntmps84
          go_wp2
          go_ret
          exact ⟨ret_bool (by unfold rightI; rw [decide_eq_false (by omega)]), rfl⟩
      · go_enter Tryz.func84, Tryz.ntmps84
        go_wp2
        go_ret
        exact ⟨ret_bool (by unfold rightI; rw [decide_eq_false (by omega)]), rfl⟩
    · go_enter Tryz.func84, Tryz.ntmps84
      go_wp2
      go_ret
      exact ⟨ret_bool (by unfold rightI; rw [decide_eq_false (by omega)]), rfl⟩
  · go_enter Tryz.func84, Tryz.ntmps84
    go_wp2
    go_ret
    exact ⟨ret_bool (by unfold rightI; rw [decide_eq_false (by omega)]), rfl⟩
end Go.Proofs.YtdcjnhipenbcfaaGreatDoor
