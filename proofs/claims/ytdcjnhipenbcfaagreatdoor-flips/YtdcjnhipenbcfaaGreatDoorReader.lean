import Derived.Test.YtdcjnhipenbcfaaGreatDoorFlipOwn
import Derived.Deep.QuietTactic
import Derived.BigQuiet
import Derived.RegionTactic
import Derived.ChangeAlike
import Derived.RegionDies
namespace Go.Proofs.YtdcjnhipenbcfaaGreatDoor
open Go.RowKit
set_option linter.unusedVariables false

/-- block b holds the program's reader: its text, its place, its error -/
def RD (w : World) (b : Nat) (s : ByteArray) (p : Int) (c : Int) : Prop :=
  w.heap[b]? = some (.cells #[.string s, .int .i64 p, .int .i64 c] 98 (0, 0))
theorem RD.c0 {w : World} {b : Nat} {s : ByteArray} {p c : Int} (h : RD w b s p c) : w.cell? ⟨b, 0, none⟩ = some (.string s) := by
  rw [cell_of_row w b 0 _ _ _ h]; rfl
theorem RD.c1 {w : World} {b : Nat} {s : ByteArray} {p c : Int} (h : RD w b s p c) : w.cell? ⟨b, 1, none⟩ = some (.int .i64 p) := by
  rw [cell_of_row w b 1 _ _ _ h]; rfl
theorem RD.c2 {w : World} {b : Nat} {s : ByteArray} {p c : Int} (h : RD w b s p c) : w.cell? ⟨b, 2, none⟩ = some (.int .i64 c) := by
  rw [cell_of_row w b 2 _ _ _ h]; rfl
theorem RD.fz {w : World} {b : Nat} {s : ByteArray} {p c : Int} (h : RD w b s p c) (j : Nat) : w.frozen? ⟨b, j, none⟩ = false := frozen_of_row w b j _ _ h

/-- the panic with which a reader gives up -/
def gives (c p : Int) : List PanicEntry := [{ v := .iface 70 (.agg #[.int .i64 c, .int .i64 p]), recovered := false }]

set_option maxHeartbeats 400000 in
theorem atEnd_any (w : World) (b : Nat) (s : ByteArray) (p c : Int) (h : RD w b s p c) :
    Calls Tryz.prog 65 #[.pointer (some ⟨b, 0, none⟩)] w fun e w' => e = .returned (.bool (p == (s.size : Int))) ∧ ∃ m, w' = w.drewN m := by
  have h0 := h.c0
  have h1 := h.c1
  go_enter Tryz.func65, Tryz.ntmps65
  go_wp2
  go_quiet (fail)
  go_wp2
  go_ret
  exact ⟨rfl, nq, rfl⟩

set_option maxHeartbeats 400000 in
theorem giveUp_any (w : World) (b : Nat) (s : ByteArray) (p c : Int) (h : RD w b s p c) :
    Calls Tryz.prog 69 #[.pointer (some ⟨b, 0, none⟩)] w fun e w' => e = .panicked (gives c p) ∧ ∃ m, w' = w.drewN m := by
  have h1 := h.c1
  have h2 := h.c2
  go_enter Tryz.func69, Tryz.ntmps69
  go_wp2
  go_region_dies
  all_goals (try go_wp2)
  all_goals exact ⟨rfl, rfl, 1, rfl⟩

/-- how many bytes fit from the first on, no more than m -/
def runLen (f : UInt8 → Bool) (l : List UInt8) (m : Nat) : Nat := ((l.take m).takeWhile f).length
theorem runLen_nil (f : UInt8 → Bool) (m : Nat) : runLen f [] m = 0 := by simp [runLen]
theorem runLen_zero (f : UInt8 → Bool) (l : List UInt8) : runLen f l 0 = 0 := by simp [runLen]
theorem runLen_cons (f : UInt8 → Bool) (x : UInt8) (l : List UInt8) (m : Nat) : runLen f (x :: l) (m + 1) = if f x = true then runLen f l m + 1 else 0 := by
  unfold runLen
  by_cases h : f x = true <;> simp [h]
theorem runLen_le (f : UInt8 → Bool) : ∀ (l : List UInt8) (m : Nat), runLen f l m ≤ m ∧ runLen f l m ≤ l.length
  | [], m => by rw [runLen_nil]; simp
  | x :: l, 0 => by rw [runLen_zero]; simp
  | x :: l, m + 1 => by
    have := runLen_le f l m
    rw [runLen_cons]; split <;> simp <;> omega
theorem runLen_more (f : UInt8 → Bool) : ∀ (l : List UInt8) (m k : Nat) (h : k < l.length), k ≤ runLen f l m → k < m → f l[k] = true → k + 1 ≤ runLen f l m
  | [], m, k, h, _, _, _ => by simp at h
  | x :: l, 0, k, h, _, hm, _ => by omega
  | x :: l, m + 1, 0, h, _, _, hf => by
    rw [runLen_cons, if_pos (by simpa using hf)]; omega
  | x :: l, m + 1, k + 1, h, hk, hm, hf => by
    rw [runLen_cons] at hk ⊢
    by_cases hx : f x = true
    · rw [if_pos hx] at hk ⊢
      have := runLen_more f l m k (by simpa using h) (by omega) (by omega) (by simpa using hf)
      omega
    · rw [if_neg hx] at hk; omega
theorem runLen_stop (f : UInt8 → Bool) : ∀ (l : List UInt8) (m k : Nat) (h : k < l.length), k ≤ runLen f l m → f l[k] = false → runLen f l m = k
  | [], m, k, h, _, _ => by simp at h
  | x :: l, 0, k, h, hk, _ => by rw [runLen_zero] at hk ⊢; omega
  | x :: l, m + 1, 0, h, _, hf => by
    rw [runLen_cons, if_neg (by simp at hf; simp [hf])]
  | x :: l, m + 1, k + 1, h, hk, hf => by
    rw [runLen_cons] at hk ⊢
    by_cases hx : f x = true
    · rw [if_pos hx] at hk ⊢
      have := runLen_stop f l m k (by simpa using h) (by omega) (by simpa using hf)
      omega
    · rw [if_neg hx] at hk; omega

/-- the bytes from a place on -/
def rest (s : ByteArray) (p : Nat) : List UInt8 := s.data.toList.drop p
theorem rest_len (s : ByteArray) (p : Nat) : (rest s p).length = s.size - p := by simp [rest]
theorem rest_at (s : ByteArray) (p k : Nat) (h : p + k < s.size) : (rest s p)[k]'(by rw [rest_len]; omega) = s[p + k] := by
  simp [rest, ByteArray.getElem_eq_getElem_data]

theorem RD.put {w : World} {b : Nat} {s : ByteArray} {p c : Int} (h : RD w b s p c) (q : Int) : RD (w.setCell ⟨b, 1, none⟩ (.int .i64 q)) b s q c := by
  unfold RD at *
  have := heap_setCell_same w b 1 _ _ (.int .i64 q) h
  rw [this]; rfl
theorem grownBy_put (w : World) (b : Nat) (j : Nat) (v : Value) : w.grownBy (w.setCell ⟨b, j, none⟩ v) (some b) :=
  ⟨rfl, rfl, rfl, by simp, fun k hk hne => heap_setCell_other w _ k v (by rintro rfl; exact hne rfl)⟩
theorem grownBy_refl (w : World) (r : Option Nat) : w.grownBy w r := ⟨rfl, rfl, rfl, Nat.le_refl _, fun _ _ _ => rfl⟩
theorem grownBy_drewN (w : World) (n : Nat) (r : Option Nat) : w.grownBy (w.drewN n) r := ⟨rfl, rfl, rfl, Nat.le_refl _, fun _ _ _ => rfl⟩
theorem grownBy_trans {a b c : World} {r : Option Nat} (h : a.grownBy b r) (k : b.grownBy c r) : a.grownBy c r :=
  ⟨k.os.trans h.os, k.tape.trans h.tape, k.output.trans h.output, Nat.le_trans h.size k.size, fun j hj hne => (k.block j (Nat.lt_of_lt_of_le hj h.size) hne).trans (h.block j hj hne)⟩
theorem RD.drewN {w : World} {b : Nat} {s : ByteArray} {p c : Int} (h : RD w b s p c) (n : Nat) : RD (w.drewN n) b s p c := h

theorem isBase_byte (x : UInt8) (w : World) :
    Calls Tryz.prog 71 #[.int .u8 (x.toNat : Int)] w fun e w' => e = .returned (.bool (isb x)) ∧ w' = w := isBase_any x.toNat (byte_lo x) (byte_hi x) w

def takeRel (w : World) (b : Nat) (s : ByteArray) (p : Nat) (c : Int) (f : UInt8 → Bool) (m : Nat) (q : Nat) (wr : World) : Prop :=
  p ≤ q ∧ q ≤ p + runLen f (rest s p) m ∧ RD wr b s (q : Int) c ∧ w.grownBy wr (some b)
theorem rest_at' (s : ByteArray) (p q : Nat) (hp : p ≤ q) (h : q < s.size) : (rest s p)[q - p]'(by rw [rest_len]; omega) = s[q] := by
  rw [rest_at s p (q - p) (by omega)]
  congr 1; omega

def placeN (w : World) (b : Nat) : Nat := (intOf ((w.cell? ⟨b, 1, none⟩).getD undef)).toNat
theorem RD.placeN {w : World} {b : Nat} {s : ByteArray} {p c : Int} (h : RD w b s p c) : placeN w b = p.toNat := by
  unfold Go.Proofs.YtdcjnhipenbcfaaGreatDoor.placeN; rw [h.c1]; rfl
end Go.Proofs.YtdcjnhipenbcfaaGreatDoor
