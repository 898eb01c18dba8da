import Derived.Test.YtdcjnhipenbcfaaGreatDoorLeaf
import Derived.Lib.LaidTab
import Derived.Lib.ItoaNum
import Derived.Below
namespace Go.Proofs.YtdcjnhipenbcfaaGreatDoor
open Go.RowKit
set_option linter.unusedVariables false

/-- one step of a script, as it lies in memory -/
structure OpV where
  kind : Int
  k : Int
  q : Int
  step : Int
  workers : Int
  ref : ByteArray
  s : ByteArray

def OpV.val (o : OpV) : Value := .agg #[.int .i64 o.kind, .int .i64 o.k, .int .i64 o.q, .int .i64 o.step, .int .i64 o.workers, .string o.ref, .string o.s]

/-- cells of step i, at a block and an offset -/
def OpAt (w : World) (b off : Nat) (o : OpV) : Prop :=
  w.cell? ⟨b, off, none⟩ = some (.int .i64 o.kind) ∧ w.cell? ⟨b, off + 1, none⟩ = some (.int .i64 o.k) ∧ w.cell? ⟨b, off + 2, none⟩ = some (.int .i64 o.q) ∧
  w.cell? ⟨b, off + 3, none⟩ = some (.int .i64 o.step) ∧ w.cell? ⟨b, off + 4, none⟩ = some (.int .i64 o.workers) ∧
  w.cell? ⟨b, off + 5, none⟩ = some (.string o.ref) ∧ w.cell? ⟨b, off + 6, none⟩ = some (.string o.s)

/-- the library's table of powers of ten reads as its initialiser lays it -/
def TabOk (w : World) : Prop := Lib.TabIs Tryz.prog w "internal/strconv.uint64pow10" .u64 Lib.pow10Tab
theorem TabOk.on {w w' : World} (h : TabOk w) (hb : Below w.heap.size w w') : TabOk w' := by
  unfold TabOk Lib.TabIs World.var? at *
  cases hg : Program.globalNamed Tryz.prog "internal/strconv.uint64pow10" with
  | none => simp [hg] at h
  | some g =>
    simp only [hg, Option.bind_some] at h ⊢
    have hlt : g < w.heap.size := by
      rcases Nat.lt_or_ge g w.heap.size with h' | h'
      · exact h'
      · rw [Array.getElem?_eq_none h'] at h; simp at h
    rw [hb.block g hlt]
    exact h

/-- 'plays' says yes, and turns nothing that was there -/
def PlaysYes (o : OpV) : Prop := ∀ w : World, TabOk w → Calls Tryz.prog 38 #[o.val] w fun e w' => e = .returned (.bool true) ∧ Below w.heap.size w w'

set_option maxHeartbeats 1000000 in
theorem upTo_any (b off len cap : Nat) (os : Nat → OpV) (lo hi : Int) (w : World) (htab : TabOk w) (hlen : len ≤ maxLen)
    (hat : ∀ i, i < len → OpAt w b (off + i * 7) (os i)) (hyes : ∀ i, i < len → lo ≤ (os i).kind → (os i).kind ≤ hi → PlaysYes (os i)) :
    Calls Tryz.prog 15 #[.slice (some ⟨b, off, none⟩) len cap, .int .i64 lo, .int .i64 hi] w fun e w' => e = .returned (.int .i64 (-1)) ∧ Below w.heap.size w w' := by
  unfold maxLen at hlen
  have HAT := (show Hid (∀ i, i < len → OpAt w b (off + i * 7) (os i)) from hat)
  have HYES := (show Hid (∀ i, i < len → lo ≤ (os i).kind → (os i).kind ≤ hi → PlaysYes (os i)) from hyes)
  have HT := laid htab
  clear hat hyes htab
  go_enter Tryz.func15, Tryz.ntmps15
  go_wp2
  go_loopw [7] (fun i wr => ∃ k : Nat, k ≤ len ∧ i = .int .i64 k ∧ Below w.heap.size w wr) (fun i _ => len - (intOf i).toNat)
  case atStart => exact ⟨0, Nat.zero_le _, rfl, Below.refl _ _⟩
  case round =>
    obtain ⟨k, hk, rfl, hbel⟩ := hrel
    by_cases hlt : k < len
    · obtain ⟨a0, a1, a2, a3, a4, a5, a6⟩ := HAT.out k hlt
      have hbb : b < w.heap.size := by have := block_lt_of_cell a0; simpa using this
      have hbw : b < wr.heap.size := by have := hbel.size; omega
      have hcell : ∀ o : Nat, wr.cell? ⟨b, o, none⟩ = w.cell? ⟨b, o, none⟩ := fun o => hbel.cell (p := ⟨b, o, none⟩) hbb
      rw [← hcell] at a0 a1 a2 a3 a4 a5 a6
      clear hcell
      have hky := HYES.out k hlt
      generalize os k = op at a0 a1 a2 a3 a4 a5 a6 hky
      obtain ⟨kd, kk, kq, ks, kw, rf, sf⟩ := op
      simp only at a0 a1 a2 a3 a4 a5 a6 hky
      by_cases h1 : lo ≤ kd
      · by_cases h2 : kd ≤ hi
        · have HP := laid (hky h1 h2)
          clear hky
          go_wp2_with fail
          refine (HP.out _ (HT.out.on (hbel.alloc hbel.size _))).mono ?_
          rintro e w1 ⟨rfl, hb1⟩
          have hb2 : Below w.heap.size w w1 := (hbel.alloc hbel.size _).trans (hb1.mono (by simp; have := hbel.size; omega))
          clear hb1 HP
          go_wp2
          go_roundw
          case rel => go_light; exact ⟨k + 1, by omega, by go_num, hb2⟩
          case measure => go_light; simp [intOf]; omega
        · clear hky
          have hb2 := fun o => hbel.alloc hbel.size o
          go_wp2
          go_roundw
          case rel => go_light; exact ⟨k + 1, by omega, by go_num, hb2 _⟩
          case measure => go_light; simp [intOf]; omega
      · clear hky
        have hb2 := fun o => hbel.alloc hbel.size o
        go_wp2
        go_roundw
        case rel => go_light; exact ⟨k + 1, by omega, by go_num, hb2 _⟩
        case measure => go_light; simp [intOf]; omega
    · go_wp2
      go_ret
      exact ⟨rfl, hbel⟩

set_option maxHeartbeats 400000 in
theorem upTo_nil (a : Option Addr) (cap : Nat) (lo hi : Int) (w : World) :
    Calls Tryz.prog 15 #[.slice a 0 cap, .int .i64 lo, .int .i64 hi] w fun e w' => e = .returned (.int .i64 (-1)) ∧ Below w.heap.size w w' := by
  go_enter Tryz.func15, Tryz.ntmps15
  go_wp2
  go_loopw [7] (fun i wr => i = .int .i64 0 ∧ wr = w) (fun i _ => 0)
  case atStart => exact ⟨rfl, rfl⟩
  case round =>
    obtain ⟨rfl, rfl⟩ := hrel
    go_wp2
    go_ret
    exact ⟨rfl, Below.refl _ _⟩

/-- what is told of a script that came in: it is empty, or it leads to cells, step by step -/
def IsOps (w : World) (a : Option Addr) (len cap : Nat) (os : Nat → OpV) : Prop :=
  len = 0 ∨ ∃ b off, a = some ⟨b, off, none⟩ ∧ len ≤ maxLen ∧ (∀ i, i < len → OpAt w b (off + i * 7) (os i)) ∧ ∀ i, i < len → (os i).ref.size ≤ maxLen ∧ (os i).s.size ≤ maxLen

theorem upTo_ops (w : World) (a : Option Addr) (len cap : Nat) (os : Nat → OpV) (lo hi : Int) (htab : TabOk w) (h : IsOps w a len cap os)
    (hyes : ∀ o : OpV, o.ref.size ≤ maxLen → o.s.size ≤ maxLen → lo ≤ o.kind → o.kind ≤ hi → PlaysYes o) :
    Calls Tryz.prog 15 #[.slice a len cap, .int .i64 lo, .int .i64 hi] w fun e w' => e = .returned (.int .i64 (-1)) ∧ Below w.heap.size w w' := by
  rcases h with rfl | ⟨b, off, rfl, hl, hat, hsz⟩
  · exact upTo_nil a cap lo hi w
  · exact upTo_any b off len cap os lo hi w htab hl hat fun i hi1 h1 h2 => hyes (os i) (hsz i hi1).1 (hsz i hi1).2 h1 h2

set_option maxHeartbeats 400000 in
theorem lawChecks (w : World) (a : Option Addr) (len cap : Nat) (os : Nat → OpV) (htab : TabOk w) (h : IsOps w a len cap os)
    (hyes : ∀ o : OpV, o.ref.size ≤ maxLen → o.s.size ≤ maxLen → 1 ≤ o.kind → o.kind ≤ 1 → PlaysYes o) :
    Calls Tryz.prog 3 #[.slice a len cap] w fun e w' => e = .returned (.bool true) ∧ Below w.heap.size w w' := by
  have H := laid (upTo_ops w a len cap os 1 1 htab h hyes)
  clear hyes h htab
  go_enter Tryz.func3, Tryz.ntmps3
  go_wp2_with (go_at_call 15; refine H.out.mono ?_; rintro e w1 ⟨rfl, hb⟩)
  go_ret
  exact ⟨rfl, hb⟩
set_option maxHeartbeats 400000 in
theorem lawFlips (w : World) (a : Option Addr) (len cap : Nat) (os : Nat → OpV) (htab : TabOk w) (h : IsOps w a len cap os)
    (hyes : ∀ o : OpV, o.ref.size ≤ maxLen → o.s.size ≤ maxLen → 2 ≤ o.kind → o.kind ≤ 2 → PlaysYes o) :
    Calls Tryz.prog 4 #[.slice a len cap] w fun e w' => e = .returned (.bool true) ∧ Below w.heap.size w w' := by
  have H := laid (upTo_ops w a len cap os 2 2 htab h hyes)
  clear hyes h htab
  go_enter Tryz.func4, Tryz.ntmps4
  go_wp2_with (go_at_call 15; refine H.out.mono ?_; rintro e w1 ⟨rfl, hb⟩)
  go_ret
  exact ⟨rfl, hb⟩
set_option maxHeartbeats 400000 in
theorem lawStretches (w : World) (a : Option Addr) (len cap : Nat) (os : Nat → OpV) (htab : TabOk w) (h : IsOps w a len cap os)
    (hyes : ∀ o : OpV, o.ref.size ≤ maxLen → o.s.size ≤ maxLen → 3 ≤ o.kind → o.kind ≤ 3 → PlaysYes o) :
    Calls Tryz.prog 5 #[.slice a len cap] w fun e w' => e = .returned (.bool true) ∧ Below w.heap.size w w' := by
  have H := laid (upTo_ops w a len cap os 3 3 htab h hyes)
  clear hyes h htab
  go_enter Tryz.func5, Tryz.ntmps5
  go_wp2_with (go_at_call 15; refine H.out.mono ?_; rintro e w1 ⟨rfl, hb⟩)
  go_ret
  exact ⟨rfl, hb⟩
end Go.Proofs.YtdcjnhipenbcfaaGreatDoor
