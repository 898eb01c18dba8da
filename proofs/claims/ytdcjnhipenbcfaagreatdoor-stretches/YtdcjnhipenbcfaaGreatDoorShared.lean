import Derived.Test.YtdcjnhipenbcfaaGreatDoorSums
import Derived.Test.YtdcjnhipenbcfaaGreatDoorFlipRun
namespace Go.Proofs.YtdcjnhipenbcfaaGreatDoor
open Go.RowKit Go.Maps
open Go.Proofs (encStr)
set_option linter.unusedVariables false

theorem ownsC_size {w : World} {b n : Nat} {D : DataW Unit} (h : OwnsC w b n D) : Maps.size D ≤ n := by
  obtain ⟨es, clock, _, _, hn, rfl⟩ := h
  rw [size_eq, length_sorted, List.length_map, Array.length_toList]; exact hn

set_option maxHeartbeats 2000000 in
set_option maxRecDepth 100000 in
theorem shared_any (P S : ByteArray) (q b1 n1 b2 n2 : Nat) (D1 D2 : DataW Unit) (w : World) (hq : 1 ≤ q) (hs : S.size ≤ 1000) (hn1 : n1 ≤ 1001)
    (hown1 : OwnsC w b1 n1 D1) (hown2 : OwnsC w b2 n2 D2) (hc1 : Counts D1 (cntB P q)) (hc2 : Counts D2 (cntB S q)) :
    Calls Tryz.prog 78 #[.map (some b1), .map (some b2)] w fun e w' => e = .returned (.int .i64 (comB P S q : Int)) ∧ Below w.heap.size w w' := by
  have HC1 := laid hc1
  have HC2 := laid hc2
  clear hc1 hc2
  have hl2 := hown2.lt
  have hsz := ownsC_size hown1
  go_enter Tryz.func78, Tryz.ntmps78
  go_wp2_with (first
    | (at_range; refine wpList_range_own _ rfl _ 113 rfl 9 3 lawS Tryz.underlying113 _ b1 n1 _ rfl hown1 ?_; intro w0 hrg0 hg0 hs0)
    | go_in)
  clear hs0
  go_frame
  go_loopw [5] (fun sv wr => ∃ (left : Lit → Bool) (cnt : Nat) (ss : List (List UInt8)), wr.ranges Tryz.prog 9 (plainElem Tryz.prog 3) b1 w.heap.size n1 D1 left cnt ∧ OwnsC wr b2 n2 D2 ∧ Hid (Collected D1 left ss) ∧ ss.length + cnt ≤ Maps.size D1 ∧ sv = .int .i64 (sumL (shareF P S q) ss : Int) ∧ Below w.heap.size w wr)
    (fun _ wr => wr.rangeLeft b1 w.heap.size)
  case atStart => exact ⟨_, _, [], hrg0, hown2.kept hg0 (by simp), laid (Collected.start D1), by simp, rfl, (Below.refl _ _).grown hg0 (Nat.le_refl _) (fun j hj => by cases hj)⟩
  case round =>
    obtain ⟨left, cnt, ss, hrg, how, HC, hcs, rfl, hbel⟩ := hrel
    have hsum : sumL (shareF P S q) ss ≤ 1002001 := by
      have h1 := sumL_le P S q ss
      have h2 : ss.length * (S.size + 1) ≤ 1001 * 1001 := Nat.mul_le_mul (by omega) (by omega)
      omega
    go_wp2_with (first
      | (at_next; refine wpList_next_ranges _ rfl _ rfl 9 lawS (plainElem Tryz.prog 3) encStr (Value.int .i64) (fun key kl hk => by obtain ⟨x, hx, _⟩ := Maps.keyOf_str Tryz.underlying9 hk; exact ⟨x, hx⟩) (fun v y hv => by obtain ⟨c, rfl, _⟩ := plainElem_int_inv Tryz.underlying3 hv; exact ⟨c, rfl⟩) b1 w.heap.size n1 _ _ _ rfl hrg ?_ ?_)
      | go_in)
    · intro hc0 hl0
      have hfin : sumL (shareF P S q) ss = comB P S q := sum_common P S q hq ss HC.out.1 fun x => by
        rw [HC.out.2 x, hl0, HC1.out.2.2 x]; simp
      have HFIN := laid hfin
      clear hfin
      go_wp2
      go_ret
      exact ⟨ret_int (by rw [HFIN.out]), hbel⟩
    · intro x c kl yd yp w2 cnt2 hkey hlk hv hat hrg2 hlt hg2 hs2 hen
      obtain ⟨x', ex, rfl, _⟩ := Maps.keyOf_str Tryz.underlying9 hkey
      obtain rfl : x = x' := encStr_inj ex
      obtain ⟨c', ec, ey, _⟩ := plainElem_int_inv Tryz.underlying3 hv
      obtain rfl : c = c' := by simpa using ec
      have hyd : yd = .lit (.int .i64 c) := congrArg Prod.fst ey
      have hcc : c = (cntB P q x : Int) := counts_c HC1.out (by rw [hat]; exact hyd)
      have hC3 := laid (HC.out.step hlk hat)
      clear hs2 hv ec ey hat hyd ex
      have how2 : OwnsC w2 b2 n2 D2 := how.kept hg2 (by intro e; cases e; omega)
      have hb2 : Below w.heap.size w w2 := hbel.grown hg2 hbel.size (fun j hj => by cases hj; exact Nat.le_refl _)
      have hcb1 := cntB_le P q x
      have hcb2 := cntB_le S q x
      have HK := laid hkey
      have hrl := laid hrg2.left_eq
      have hrl0 := laid hrg.left_eq
      clear hkey hlk
      go_wp2_with (first
        | (at_lookup; refine wpList_lookup_own_int _ rfl _ _ 113 rfl 9 3 .i64 lawS Tryz.underlying113 Tryz.underlying3 (zeroI _) b2 n2 D2 rfl how2 _ _ rfl HK.out ?_; intro c2 hat2 hwc2)
        | go_in)
      have hc2 := counts_c HC2.out hat2
      have hstep : wrap64 ((sumL (shareF P S q) ss : Int) + min (cntB P q x : Int) c2) = (sumL (shareF P S q) (ss ++ [x]) : Int) := by
        rw [sumL_snoc, hc2]
        have e : min (cntB P q x : Int) (cntB S q x : Int) = ((shareF P S q x : Nat) : Int) := by unfold shareF; omega
        have h3 : shareF P S q x ≤ S.size + 1 := Nat.le_trans (Nat.min_le_right _ _) hcb2
        rw [e, IntWalk.wrap64_in _ (by omega)]; omega
      go_roundw
      case rel => go_light; exact ⟨_, cnt2, ss ++ [x], hrg2, how2, hC3, by rw [List.length_append]; simp; omega, val_int hstep, hb2⟩
      case measure => go_light; rw [hrl.out, hrl0.out]; exact hlt
end Go.Proofs.YtdcjnhipenbcfaaGreatDoor
