import Derived.Test.YtdcjnhipenbcfaaGreatDoorTake
namespace Go.Proofs.YtdcjnhipenbcfaaGreatDoor
open Go.RowKit
set_option linter.unusedVariables false

def isnI (n : Int) : Bool := decide (65 ≤ n ∧ n ≤ 90) || decide (97 ≤ n ∧ n ≤ 122) || decide (48 ≤ n ∧ n ≤ 57) || decide (n = 95) || decide (n = 46)
def ismI (n : Int) : Bool := decide (33 ≤ n ∧ n ≤ 126)
def isn (b : UInt8) : Bool := isnI b.toNat
def ism (b : UInt8) : Bool := ismI b.toNat

set_option maxHeartbeats 400000 in
theorem isName_any (n : Int) (h0 : 0 ≤ n) (h1 : n ≤ 255) (w : World) :
    Calls Tryz.prog 95 #[.int .u8 n] w fun e w' => e = .returned (.bool (isnI n)) ∧ w' = w := by
  by_cases a1 : 65 ≤ n <;> by_cases a2 : n ≤ 90 <;> by_cases a3 : 97 ≤ n <;> by_cases a4 : n ≤ 122 <;> by_cases a5 : 48 ≤ n <;> by_cases a6 : n ≤ 57 <;> first | (exfalso; omega) | skip
  all_goals
    go_enter Tryz.func95, Tryz.ntmps95
    go_wp2
    all_goals go_ret
    all_goals (go_light; refine ⟨ret_bool ?_, rfl⟩; first | (simp_all [isnI]; done) | (rw [Bool.eq_iff_iff]; simp [isnI]; omega))

set_option maxHeartbeats 400000 in
theorem inName_any (n : Int) (h0 : 0 ≤ n) (h1 : n ≤ 255) (w : World) :
    Calls Tryz.prog 116 #[.int .u8 n] w fun e w' => e = .returned (.bool (isnI n)) ∧ w' = w := by
  by_cases a1 : 65 ≤ n <;> by_cases a2 : n ≤ 90 <;> by_cases a3 : 97 ≤ n <;> by_cases a4 : n ≤ 122 <;> by_cases a5 : 48 ≤ n <;> by_cases a6 : n ≤ 57 <;> first | (exfalso; omega) | skip
  all_goals
    go_enter Tryz.func116, Tryz.ntmps116
    go_wp2
    all_goals go_ret
    all_goals (go_light; exact ⟨ret_bool (by simp_all [isnI]), rfl⟩)

set_option maxHeartbeats 400000 in
theorem isMark_any (n : Int) (h0 : 0 ≤ n) (h1 : n ≤ 255) (w : World) :
    Calls Tryz.prog 120 #[.int .u8 n] w fun e w' => e = .returned (.bool (ismI n)) ∧ w' = w := by
  by_cases a1 : 33 ≤ n <;> by_cases a2 : n ≤ 126
  all_goals
    go_enter Tryz.func120, Tryz.ntmps120
    go_wp2
    all_goals go_ret
    all_goals (go_light; exact ⟨ret_bool (by simp_all [ismI]), rfl⟩)

theorem isName_byte (x : UInt8) (w : World) :
    Calls Tryz.prog 95 #[.int .u8 (x.toNat : Int)] w fun e w' => e = .returned (.bool (isn x)) ∧ w' = w := isName_any x.toNat (byte_lo x) (byte_hi x) w
theorem inName_byte (x : UInt8) (w : World) :
    Calls Tryz.prog 116 #[.int .u8 (x.toNat : Int)] w fun e w' => e = .returned (.bool (isn x)) ∧ w' = w := inName_any x.toNat (byte_lo x) (byte_hi x) w
theorem isMark_byte (x : UInt8) (w : World) :
    Calls Tryz.prog 120 #[.int .u8 (x.toNat : Int)] w fun e w' => e = .returned (.bool (ism x)) ∧ w' = w := isMark_any x.toNat (byte_lo x) (byte_hi x) w

/-! ### What a reader does, as plain functions: a state is a place and whether it has given up there -/
def andS (st : Nat × Bool) (f : Nat → Nat × Bool) : Nat × Bool := if st.2 = true then st else f st.1
theorem andS_bad {st : Nat × Bool} (h : st.2 = true) (f : Nat → Nat × Bool) : andS st f = st := if_pos h
theorem andS_ok {st : Nat × Bool} (h : st.2 = false) (f : Nat → Nat × Bool) : andS st f = f st.1 := if_neg (by simp [h])
/-- this byte must come -/
def sMust (s : ByteArray) (c : UInt8) (p : Nat) : Nat × Bool := if h : p < s.size then (if s[p] = c then (p + 1, false) else (p, true)) else (p, true)
/-- least to most bytes that fit -/
def sTake (s : ByteArray) (f : UInt8 → Bool) (least most p : Nat) : Nat × Bool := (p + runLen f (rest s p) most, decide (runLen f (rest s p) most < least))
/-- a name and a newline -/
def sName (s : ByteArray) (p : Nat) : Nat × Bool := andS (sTake s isn 1 10 p) (sMust s 10)
/-- bases and a newline -/
def sLine (s : ByteArray) (most p : Nat) : Nat × Bool := andS (sTake s isb 1 most p) (sMust s 10)
/-- how many bases a line has -/
def nLine (s : ByteArray) (most p : Nat) : Nat := runLen isb (rest s p) most
/-- the lines behind the first -/
def sLines (s : ByteArray) : Nat → Nat → Nat → Nat × Bool
  | 0, _, p => (p, false)
  | fuel + 1, n, p => if s.size ≤ p then (p, false) else andS (sLine s (200 - n) p) (sLines s fuel (n + nLine s (200 - n) p))
/-- a reference -/
def sRef (s : ByteArray) : Nat × Bool :=
  andS (sMust s 62 0) fun p => andS (sName s p) fun p => andS (sLine s 200 p) (sLines s (s.size + 1) (nLine s 200 p))
/-- one read -/
def sRead (s : ByteArray) (p : Nat) : Nat × Bool :=
  andS (sMust s 64 p) fun p => andS (sName s p) fun p => andS (sLine s 30 p) fun p' => andS (sMust s 43 p') fun p' => andS (sMust s 10 p') fun p' => andS (sTake s ism (nLine s 30 p) (nLine s 30 p) p') (sMust s 10)
/-- no more than n reads -/
def sReads (s : ByteArray) : Nat → Nat → Nat × Bool
  | 0, p => (p, decide (p < s.size))
  | n + 1, p => if s.size ≤ p then (p, false) else andS (sRead s p) (sReads s n)

theorem sMust_le (s : ByteArray) (c : UInt8) (p : Nat) (h : p ≤ s.size) : p ≤ (sMust s c p).1 ∧ (sMust s c p).1 ≤ s.size := by
  unfold sMust; split
  · split <;> simp <;> omega
  · simp; omega
theorem sMust_more (s : ByteArray) (c : UInt8) (p : Nat) (h : (sMust s c p).2 = false) : (sMust s c p).1 = p + 1 ∧ p < s.size := by
  unfold sMust at *; split at h
  · rename_i hp
    split at h
    · rename_i hc
      rw [dif_pos hp, if_pos hc]; exact ⟨rfl, hp⟩
    · simp at h
  · simp at h
theorem sTake_le (s : ByteArray) (f : UInt8 → Bool) (least most p : Nat) (h : p ≤ s.size) : p ≤ (sTake s f least most p).1 ∧ (sTake s f least most p).1 ≤ s.size := by
  have := (runLen_le f (rest s p) most).2
  rw [rest_len] at this
  unfold sTake; simp; omega
theorem andS_le {s : ByteArray} {st : Nat × Bool} {f : Nat → Nat × Bool} {p : Nat} (h : p ≤ st.1 ∧ st.1 ≤ s.size) (hf : ∀ q, q ≤ s.size → q ≤ (f q).1 ∧ (f q).1 ≤ s.size) : p ≤ (andS st f).1 ∧ (andS st f).1 ≤ s.size := by
  unfold andS; split
  · exact h
  · have := hf st.1 h.2; omega
theorem sName_le (s : ByteArray) (p : Nat) (h : p ≤ s.size) : p ≤ (sName s p).1 ∧ (sName s p).1 ≤ s.size := andS_le (sTake_le s _ _ _ p h) fun q hq => sMust_le s _ q hq
theorem sLine_le (s : ByteArray) (m p : Nat) (h : p ≤ s.size) : p ≤ (sLine s m p).1 ∧ (sLine s m p).1 ≤ s.size := andS_le (sTake_le s _ _ _ p h) fun q hq => sMust_le s _ q hq
theorem andS_false {st : Nat × Bool} {f : Nat → Nat × Bool} (h : (andS st f).2 = false) : st.2 = false ∧ (f st.1).2 = false := by
  unfold andS at h; split at h
  · rename_i h1; rw [h1] at h; simp at h
  · rename_i h1; exact ⟨by simpa using h1, h⟩
/-- a line that is read goes on by more than its bases -/
theorem sLine_more (s : ByteArray) (m p : Nat) (h : (sLine s m p).2 = false) : (sLine s m p).1 = p + nLine s m p + 1 ∧ 1 ≤ nLine s m p ∧ p + nLine s m p < s.size := by
  unfold sLine at *
  obtain ⟨h1, h2⟩ := andS_false h
  rw [andS_ok h1]
  have := sMust_more s 10 _ h2
  unfold sTake at this h1 ⊢
  simp at h1 this ⊢
  unfold nLine
  omega
theorem nLine_le (s : ByteArray) (m p : Nat) : nLine s m p ≤ m := (runLen_le _ _ _).1
end Go.Proofs.YtdcjnhipenbcfaaGreatDoor
