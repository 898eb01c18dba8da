import Derived.Test.YtdcjnhipenbcfaaGreatDoorParse
namespace Go.Proofs.YtdcjnhipenbcfaaGreatDoor
open Go.RowKit
set_option linter.unusedVariables false

/-- block b holds the reference's reader: its text, its place, whether it is bad -/
def RF (w : World) (b : Nat) (s : ByteArray) (p : Nat) (bad : Bool) : Prop :=
  w.heap[b]? = some (.cells #[.string s, .int .i64 (p : Int), .bool bad] 143 (0, 0))
theorem RF.c0 {w : World} {b : Nat} {s : ByteArray} {p : Nat} {t : Bool} (h : RF w b s p t) : w.cell? ⟨b, 0, none⟩ = some (.string s) := by
  rw [cell_of_row w b 0 _ _ _ h]; rfl
theorem RF.c1 {w : World} {b : Nat} {s : ByteArray} {p : Nat} {t : Bool} (h : RF w b s p t) : w.cell? ⟨b, 1, none⟩ = some (.int .i64 (p : Int)) := by
  rw [cell_of_row w b 1 _ _ _ h]; rfl
theorem RF.c2 {w : World} {b : Nat} {s : ByteArray} {p : Nat} {t : Bool} (h : RF w b s p t) : w.cell? ⟨b, 2, none⟩ = some (.bool t) := by
  rw [cell_of_row w b 2 _ _ _ h]; rfl
theorem RF.fz {w : World} {b : Nat} {s : ByteArray} {p : Nat} {t : Bool} (h : RF w b s p t) (j : Nat) : w.frozen? ⟨b, j, none⟩ = false := frozen_of_row w b j _ _ h
theorem RF.put {w : World} {b : Nat} {s : ByteArray} {p : Nat} {t : Bool} (h : RF w b s p t) : RF (w.setCell ⟨b, 1, none⟩ (.int .i64 ((p : Int) + 1))) b s (p + 1) t := by
  unfold RF at *
  have := heap_setCell_same w b 1 _ _ (.int .i64 ((p : Int) + 1)) h
  rw [this, show ((p + 1 : Nat) : Int) = (p : Int) + 1 by omega]; rfl
theorem RF.spoil {w : World} {b : Nat} {s : ByteArray} {p : Nat} {t : Bool} (h : RF w b s p t) : RF (w.setCell ⟨b, 2, none⟩ (.bool true)) b s p true := by
  unfold RF at *
  have := heap_setCell_same w b 2 _ _ (.bool true) h
  rw [this]; rfl
theorem RF.drewN {w : World} {b : Nat} {s : ByteArray} {p : Nat} {t : Bool} (h : RF w b s p t) (n : Nat) : RF (w.drewN n) b s p t := h
theorem RF.placeN {w : World} {b : Nat} {s : ByteArray} {p : Nat} {t : Bool} (h : RF w b s p t) : placeN w b = p := by
  unfold Go.Proofs.YtdcjnhipenbcfaaGreatDoor.placeN; rw [h.c1]; simp [intOf]

/-- how a step of the reference's reader ends -/
def refPost (w : World) (b : Nat) (s : ByteArray) (st : Nat × Bool) (w' : World) : Prop := RF w' b s st.1 st.2 ∧ w.grownBy w' (some b)

set_option maxHeartbeats 1000000 in
theorem must_bad (w : World) (b : Nat) (s : ByteArray) (p : Nat) (n : Int) (h : RF w b s p true) :
    Calls Tryz.prog 100 #[.pointer (some ⟨b, 0, none⟩), .int .u8 n] w fun e w' => e = .returned (.tuple #[]) ∧ refPost w b s (p, true) w' := by
  have c0 := h.c0
  have c1 := h.c1
  have c2 := h.c2
  have f2 := h.fz 2
  go_enter Tryz.func100, Tryz.ntmps100
  go_wp2_with fail
  go_quiet (fail)
  go_wp2
  first | go_end0 | refine bodyPost_ret (results_none rfl _ _ _) rfl ?_
  exact ⟨rfl, (h.drewN nq).spoil, grownBy_trans (grownBy_drewN w nq (some b)) (grownBy_put _ b 2 _)⟩

set_option maxHeartbeats 1000000 in
theorem must_good (w : World) (b : Nat) (s : ByteArray) (p : Nat) (n : Int) (x : UInt8) (hn : n = (x.toNat : Int)) (hrf : RF w b s p false) (hs : s.size ≤ 1000) (hp : p ≤ s.size) :
    Calls Tryz.prog 100 #[.pointer (some ⟨b, 0, none⟩), .int .u8 n] w fun e w' => e = .returned (.tuple #[]) ∧ refPost w b s (sMust s x p) w' := by
  subst hn
  have c0   := hrf.c0
  have c1   := hrf.c1
  have c2   := hrf.c2
  have f2   := hrf.fz 2
  have f1   := hrf.fz 1
  by_cases hend : p < s.size
  · have hd1 : decide ((s.size : Int) ≤ (p : Int)) = false := by simp; omega
    have hi1 : (p : Int) < (s.size : Int) := by omega
    by_cases hx : s[p] = x
    · have hd : ((s[p].toNat : Int) != (x.toNat : Int)) = false := by rw [hx]; simp
      have hst : sMust s x p = (p + 1, false) := by unfold sMust; rw [dif_pos hend, if_pos hx]
      rw [hst]
      clear hst hx
      go_enter Tryz.func100, Tryz.ntmps100
      go_wp2_with fail
      go_quiet (fail)
      go_wp2
      first | go_end0 | refine bodyPost_ret (results_none rfl _ _ _) rfl ?_
      exact ⟨rfl, (hrf.drewN nq).put, grownBy_trans (grownBy_drewN w nq (some b)) (grownBy_put _ b 1 _)⟩
    · have hd : ((s[p].toNat : Int) != (x.toNat : Int)) = true := by
        rw [bne_iff_ne]; intro hh; exact hx (UInt8.toNat.inj (by omega))
      have hst : sMust s x p = (p, true) := by unfold sMust; rw [dif_pos hend, if_neg hx]
      rw [hst]
      clear hst hx
      go_enter Tryz.func100, Tryz.ntmps100
      go_wp2_with fail
      go_quiet (fail)
      go_wp2
      first | go_end0 | refine bodyPost_ret (results_none rfl _ _ _) rfl ?_
      exact ⟨rfl, (hrf.drewN nq).spoil, grownBy_trans (grownBy_drewN w nq (some b)) (grownBy_put _ b 2 _)⟩
  · have hd1 : decide ((s.size : Int) ≤ (p : Int)) = true := by simp; omega
    have hst : sMust s x p = (p, true) := by unfold sMust; rw [dif_neg hend]
    rw [hst]
    clear hst
    go_enter Tryz.func100, Tryz.ntmps100
    go_wp2_with fail
    go_quiet (fail)
    go_wp2
    first | go_end0 | refine bodyPost_ret (results_none rfl _ _ _) rfl ?_
    exact ⟨rfl, (hrf.drewN nq).spoil, grownBy_trans (grownBy_drewN w nq (some b)) (grownBy_put _ b 2 _)⟩

/-- must, in whatever state -/
theorem must_any (w : World) (b : Nat) (s : ByteArray) (st : Nat × Bool) (n : Int) (x : UInt8) (hn : n = (x.toNat : Int)) (h : RF w b s st.1 st.2) (hs : s.size ≤ 1000) (hp : st.1 ≤ s.size) :
    Calls Tryz.prog 100 #[.pointer (some ⟨b, 0, none⟩), .int .u8 n] w fun e w' => e = .returned (.tuple #[]) ∧ refPost w b s (andS st (sMust s x)) w' := by
  obtain ⟨p, t⟩ := st
  cases t with
  | true => exact must_bad w b s p n h
  | false => exact must_good w b s p n x hn h hs hp
end Go.Proofs.YtdcjnhipenbcfaaGreatDoor
