import Derived.Test.YtdcjnhipenbcfaaGreatDoorLeaf
namespace Go.Proofs.YtdcjnhipenbcfaaGreatDoor
open Go.RowKit
set_option linter.unusedVariables false

/-- a text of these bytes -/
def str (l : List UInt8) : ByteArray := ⟨l.toArray⟩
theorem str_size (l : List UInt8) : (str l).size = l.length := rfl
theorem str_append (l m : List UInt8) : str l ++ str m = str (l ++ m) := by
  apply ByteArray.ext
  simp [str]
theorem str_snoc (l : List UInt8) (b : UInt8) : str l ++ ⟨#[b]⟩ = str (l ++ [b]) := str_append l [b]

theorem len_bytes (s : ByteArray) : s.data.toList.length = s.size := by simp
theorem take_snoc (s : ByteArray) (k : Nat) (h : k < s.size) : s.data.toList.take (k + 1) = s.data.toList.take k ++ [s[k]] := by
  rw [List.take_succ_eq_append_getElem (by simpa using h)]; rfl
theorem mem_bytes (s : ByteArray) (k : Nat) (h : k < s.size) : s[k] ∈ s.data.toList := by
  have : s[k] = s.data.toList[k]'(by simpa using h) := by simp [ByteArray.getElem_eq_getElem_data]
  rw [this]; exact List.getElem_mem _
theorem ret_str_bool {a b : ByteArray} {t : Bool} (h : a = b) : Ending.returned (.tuple #[.string a, .bool t]) = .returned (.tuple #[.string b, .bool t]) := by rw [h]
theorem val_int {k : IntKind} {a b : Int} (h : a = b) : Value.int k a = Value.int k b := by rw [h]
theorem val_str {a b : ByteArray} (h : a = b) : Value.string a = Value.string b := by rw [h]

/-- the great letters of the first k bytes -/
def gtake (s : ByteArray) (k : Nat) : ByteArray := str ((s.data.toList.take k).map gb)
theorem gtake_size (s : ByteArray) (k : Nat) : (gtake s k).size ≤ k := by
  unfold gtake; rw [str_size]; simp; omega
theorem gtake_succ (s : ByteArray) (k : Nat) (h : k < s.size) : gtake s k ++ ⟨#[gb s[k]]⟩ = gtake s (k + 1) := by
  unfold gtake; rw [take_snoc s k h, str_snoc]; simp
theorem gtake_all (s : ByteArray) (k : Nat) (h : s.size ≤ k) : gtake s k = str (s.data.toList.map gb) := by
  unfold gtake; rw [List.take_of_length_le (by simpa using h)]

set_option maxHeartbeats 400000 in
theorem great_text (s : ByteArray) (w : World) (hs : s.size ≤ 200) (hb : (s.data.toList.all isb) = true) :
    Calls Tryz.prog 82 #[.string s] w fun e w' => e = .returned (.tuple #[.string (str (s.data.toList.map gb)), .bool true]) ∧ w' = w := by
  have HB := laid hb
  clear hb
  go_enter Tryz.func82, Tryz.ntmps82
  go_wp2
  go_loop [4, 5] (fun t i => ∃ k : Nat, k ≤ s.size ∧ i = .int .i64 k ∧ t = .string (gtake s k)) (fun _ i => s.size - (intOf i).toNat)
  case atStart => exact ⟨0, Nat.zero_le _, rfl, rfl⟩
  case round =>
    obtain ⟨k, hk, rfl, rfl⟩ := hrel
    have hz := gtake_size s k
    by_cases hlt : k < s.size
    · have hy : isb s[k] = true := by
        have := HB.out
        rw [List.all_eq_true] at this
        exact this _ (mem_bytes s k hlt)
      go_wp2_with (go_at_call 103; refine (base_yes _ hy _).mono ?_; rintro e w' ⟨rfl, rfl⟩)
      go_round
      case rel => go_light; exact ⟨k + 1, by omega, by go_num, val_str (gtake_succ s k hlt)⟩
      case measure => go_light; simp [intOf]; omega
    · go_wp2
      go_ret2
      exact ⟨ret_str_bool (gtake_all s k (by omega)), rfl⟩

set_option maxHeartbeats 400000 in
theorem great_none (s : ByteArray) (w : World) (hs : s.size ≤ 200) (hb : (s.data.toList.all isb) = false) :
    Calls Tryz.prog 82 #[.string s] w fun e w' => e = .returned (.tuple #[.string ⟨#[]⟩, .bool false]) ∧ w' = w := by
  have HB := laid hb
  clear hb
  go_enter Tryz.func82, Tryz.ntmps82
  go_wp2
  go_loop [4, 5] (fun t i => ∃ k : Nat, k ≤ s.size ∧ i = .int .i64 k ∧ t = .string (gtake s k) ∧ Hid ((s.data.toList.take k).all isb = true)) (fun _ i => s.size - (intOf i).toNat)
  case atStart => exact ⟨0, Nat.zero_le _, rfl, rfl, laid rfl⟩
  case round =>
    obtain ⟨k, hk, rfl, rfl, HK⟩ := hrel
    have hz := gtake_size s k
    by_cases hlt : k < s.size
    · by_cases hy : isb s[k] = true
      · go_wp2_with (go_at_call 103; refine (base_yes _ hy _).mono ?_; rintro e w' ⟨rfl, rfl⟩)
        go_round
        case rel => go_light; exact ⟨k + 1, by omega, by go_num, val_str (gtake_succ s k hlt), laid (by rw [take_snoc s k hlt, List.all_append, HK.out]; simp [hy])⟩
        case measure => go_light; simp [intOf]; omega
      · rw [Bool.not_eq_true] at hy
        go_wp2_with (go_at_call 103; refine (base_no _ hy _).mono ?_; rintro e w' ⟨rfl, rfl⟩)
        go_ret2
        exact ⟨rfl, rfl⟩
    · exfalso
      have h1 := HK.out
      rw [List.take_of_length_le (by simp; omega)] at h1
      have h2 := HB.out
      rw [h1] at h2
      exact Bool.noConfusion h2

/-- the partners of the bytes from j on, from the last to the first -/
def otake (s : ByteArray) (j : Nat) : ByteArray := str ((s.data.toList.drop j).map pb).reverse
theorem otake_size (s : ByteArray) (j : Nat) : (otake s j).size ≤ s.size := by
  unfold otake; rw [str_size]; simp
theorem drop_cons (s : ByteArray) (k : Nat) (h : k < s.size) : s.data.toList.drop k = s[k] :: s.data.toList.drop (k + 1) := by
  rw [List.drop_eq_getElem_cons (by simpa using h)]; rfl
theorem otake_succ (s : ByteArray) (j : Nat) (h : j < s.size) : otake s (j + 1) ++ ⟨#[pb s[j]]⟩ = otake s j := by
  unfold otake; rw [drop_cons s j h, str_snoc]; simp
theorem pb_A (b : UInt8) (h : ((b.toNat : Int) == 65) = true) : pb b = 84 := by
  have h' := eq_of_beq h; unfold pb parI; rw [if_pos h']; rfl
theorem pb_T (b : UInt8) (h : ((b.toNat : Int) == 84) = true) : pb b = 65 := by
  have h' := eq_of_beq h; unfold pb parI; rw [h']; rfl
theorem pb_C (b : UInt8) (h : ((b.toNat : Int) == 67) = true) : pb b = 71 := by
  have h' := eq_of_beq h; unfold pb parI; rw [h']; rfl
theorem pb_G (b : UInt8) (h : ((b.toNat : Int) == 71) = true) : pb b = 67 := by
  have h' := eq_of_beq h; unfold pb parI; rw [h']; rfl
theorem pb_N (b : UInt8) (h1 : ((b.toNat : Int) == 65) = false) (h2 : ((b.toNat : Int) == 84) = false) (h3 : ((b.toNat : Int) == 67) = false) (h4 : ((b.toNat : Int) == 71) = false) : pb b = 78 := by
  have h1' := beq_eq_false_iff_ne.1 h1
  have h2' := beq_eq_false_iff_ne.1 h2
  have h3' := beq_eq_false_iff_ne.1 h3
  have h4' := beq_eq_false_iff_ne.1 h4
  unfold pb parI; rw [if_neg h1', if_neg h2', if_neg h3', if_neg h4']; rfl

def oRel (s : ByteArray) (t i : Value) : Prop :=
  (i = .int .i64 (-1) ∧ t = .string (otake s 0)) ∨ ∃ j : Nat, j < s.size ∧ i = .int .i64 j ∧ t = .string (otake s (j + 1))
theorem oRel_next (s : ByteArray) (j : Nat) (h : j < s.size) (c : UInt8) (hc : pb s[j] = c) : oRel s (.string (otake s (j + 1) ++ ⟨#[c]⟩)) (.int .i64 ((j : Int) - 1)) := by
  subst hc
  rw [otake_succ s j h]
  rcases Nat.eq_zero_or_pos j with rfl | hp
  · exact .inl ⟨rfl, rfl⟩
  · exact .inr ⟨j - 1, by omega, val_int (by omega), by rw [show j - 1 + 1 = j by omega]⟩

set_option maxHeartbeats 1000000 in
theorem other_any (s : ByteArray) (w : World) (hs : s.size ≤ 200) :
    Calls Tryz.prog 83 #[.string s] w fun e w' => e = .returned (.string (otake s 0)) ∧ w' = w := by
  go_enter Tryz.func83, Tryz.ntmps83
  go_wp2
  go_loop [3, 4] (fun t i => oRel s t i) (fun _ i => (intOf i + 1).toNat)
  case atStart =>
    rcases Nat.eq_zero_or_pos s.size with h0 | hp
    · left
      refine ⟨by rw [h0]; rfl, val_str ?_⟩
      unfold otake
      rw [List.drop_of_length_le (by rw [len_bytes]; omega)]
      rfl
    · refine .inr ⟨s.size - 1, by omega, val_int (by omega), val_str ?_⟩
      unfold otake
      rw [List.drop_of_length_le (by rw [len_bytes]; omega)]
      rfl
  case round =>
    rcases hrel with ⟨rfl, rfl⟩ | ⟨j, hj, rfl, rfl⟩
    · go_wp2
      go_ret
      exact ⟨rfl, rfl⟩
    · have hz := otake_size s (j + 1)
      go_wp2
      all_goals
        go_round
        case rel =>
          go_light
          first
            | exact oRel_next s j hj _ (pb_A _ ‹_›)
            | exact oRel_next s j hj _ (pb_T _ ‹_›)
            | exact oRel_next s j hj _ (pb_C _ ‹_›)
            | exact oRel_next s j hj _ (pb_G _ ‹_›)
            | exact oRel_next s j hj _ (pb_N _ ‹_› ‹_› ‹_› ‹_›)
        case measure => go_light; simp [intOf]

theorem ret_str_int {a b : ByteArray} {k : IntKind} {n : Int} (h : a = b) : Ending.returned (.tuple #[.string a, .int k n]) = .returned (.tuple #[.string b, .int k n]) := by rw [h]

/-- what the document says of Flip -/
def flipS (s : ByteArray) : ByteArray := if 200 < s.size then ⟨#[]⟩ else if s.data.toList.all isb then otake (str (s.data.toList.map gb)) 0 else ⟨#[]⟩
def flipE (s : ByteArray) : Int := if 200 < s.size then 1 else if s.data.toList.all isb then 0 else 5

set_option maxHeartbeats 400000 in
theorem refFlip_any (s : ByteArray) (w : World) (hs : s.size ≤ maxLen) :
    Calls Tryz.prog 55 #[.string s] w fun e w' => e = .returned (.tuple #[.string (flipS s), .int .i64 (flipE s)]) ∧ w' = w := by
  unfold maxLen at hs
  by_cases h1 : 200 < s.size
  · have e1 : flipS s = ⟨#[]⟩ := by unfold flipS; rw [if_pos h1]
    have e2 : flipE s = 1 := by unfold flipE; rw [if_pos h1]
    rw [e1, e2]
    clear e1 e2
    go_enter Tryz.func55, Tryz.ntmps55
    go_wp2
    go_ret2
    exact ⟨rfl, rfl⟩
  · by_cases h2 : s.data.toList.all isb = true
    · have e1 : flipS s = otake (str (s.data.toList.map gb)) 0 := by unfold flipS; rw [if_neg h1, if_pos h2]
      have e2 : flipE s = 0 := by unfold flipE; rw [if_neg h1, if_pos h2]
      rw [e1, e2]
      clear e1 e2
      have H2 := laid h2
      clear h2
      go_enter Tryz.func55, Tryz.ntmps55
      go_wp2_with fail
      refine (great_text s _ (by omega) H2.out).mono ?_
      rintro e w' ⟨rfl, rfl⟩
      go_wp2_with fail
      refine (other_any _ _ (by rw [str_size]; simp; omega)).mono ?_
      rintro e w' ⟨rfl, rfl⟩
      go_wp2
      go_ret2
      exact ⟨rfl, rfl⟩
    · rw [Bool.not_eq_true] at h2
      have e1 : flipS s = ⟨#[]⟩ := by unfold flipS; rw [if_neg h1, h2]; rfl
      have e2 : flipE s = 5 := by unfold flipE; rw [if_neg h1, h2]; rfl
      rw [e1, e2]
      clear e1 e2
      have H2 := laid h2
      clear h2
      go_enter Tryz.func55, Tryz.ntmps55
      go_wp2_with fail
      refine (great_none s _ (by omega) H2.out).mono ?_
      rintro e w' ⟨rfl, rfl⟩
      go_wp2
      go_ret2
      exact ⟨rfl, rfl⟩
end Go.Proofs.YtdcjnhipenbcfaaGreatDoor
