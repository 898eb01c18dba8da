import Derived.Test.YtdcjnhipenbcfaaGreatDoorTake2
namespace Go.Proofs.YtdcjnhipenbcfaaGreatDoor
open Go.RowKit
set_option linter.unusedVariables false

/-- how a reader's step ends: with a value at the new place, or it gives up there -/
def stepPost (w : World) (b : Nat) (s : ByteArray) (c : Int) (st : Nat × Bool) (v : Value) (e : Ending) (w' : World) : Prop :=
  (st.2 = false → e = .returned v) ∧ (st.2 = true → e = .panicked (gives c (st.1 : Int))) ∧ RD w' b s (st.1 : Int) c ∧ w.grownBy w' (some b)

theorem atEnd_yes (w : World) (b : Nat) (s : ByteArray) (p : Nat) (c : Int) (h : RD w b s p c) (hp : s.size = p) :
    Calls Tryz.prog 65 #[.pointer (some ⟨b, 0, none⟩)] w fun e w' => e = .returned (.bool true) ∧ ∃ m, w' = w.drewN m := by
  have := atEnd_any w b s p c h
  rwa [show ((p : Int) == (s.size : Int)) = true by simp; omega] at this
theorem atEnd_no (w : World) (b : Nat) (s : ByteArray) (p : Nat) (c : Int) (h : RD w b s p c) (hp : p < s.size) :
    Calls Tryz.prog 65 #[.pointer (some ⟨b, 0, none⟩)] w fun e w' => e = .returned (.bool false) ∧ ∃ m, w' = w.drewN m := by
  have := atEnd_any w b s p c h
  rwa [show ((p : Int) == (s.size : Int)) = false by simp; omega] at this

set_option maxHeartbeats 1000000 in
theorem expect_any (w : World) (b : Nat) (s : ByteArray) (p : Nat) (c : Int) (x : UInt8) (h : RD w b s p c) (hs : s.size ≤ 1000) (hp : p ≤ s.size) :
    Calls Tryz.prog 94 #[.pointer (some ⟨b, 0, none⟩), .int .u8 (x.toNat : Int)] w fun e w' => stepPost w b s c (sMust s x p) (.tuple #[]) e w' := by
  have c0 := h.c0
  have c1 := h.c1
  have f1 := h.fz 1
  by_cases hend : p < s.size
  · have hi1 : (p : Int) < (s.size : Int) := by omega
    by_cases hx : s[p] = x
    · have hd : ((s[p].toNat : Int) != (x.toNat : Int)) = false := by rw [hx]; simp
      have hst : sMust s x p = (p + 1, false) := by unfold sMust; rw [dif_pos hend, if_pos hx]
      rw [hst]
      clear hst hx
      go_enter Tryz.func94, Tryz.ntmps94
      go_wp2_with fail
      go_quiet ((go_at_call 65; exact Calls.quiet_of (atEnd_no _ _ _ _ _ (h.drewN _) hend)))
      go_wp2
      go_end0
      have hnew := (h.drewN nq).put ((p : Int) + 1)
      exact ⟨fun _ => rfl, fun hh => Bool.noConfusion hh, hnew, grownBy_trans (grownBy_drewN w nq (some b)) (grownBy_put _ b 1 _)⟩
    · have hd : ((s[p].toNat : Int) != (x.toNat : Int)) = true := by
        rw [bne_iff_ne]; intro hh; exact hx (UInt8.toNat.inj (by omega))
      have hst : sMust s x p = (p, true) := by unfold sMust; rw [dif_pos hend, if_neg hx]
      rw [hst]
      clear hst hx
      go_enter Tryz.func94, Tryz.ntmps94
      go_wp2_with fail
      go_quiet ((go_at_call 65; exact Calls.quiet_of (atEnd_no _ _ _ _ _ (h.drewN _) hend)))
      go_wp2_with (go_at_call 69; refine (giveUp_any _ _ _ _ _ (h.drewN _)).mono ?_; rintro e w' ⟨rfl, mq, rfl⟩)
      exact ⟨rfl, fun hh => Bool.noConfusion hh, fun _ => rfl, h.drewN _, grownBy_drewN w _ (some b)⟩
  · have hst : sMust s x p = (p, true) := by unfold sMust; rw [dif_neg hend]
    rw [hst]
    clear hst
    go_enter Tryz.func94, Tryz.ntmps94
    go_wp2_with fail
    go_quiet ((go_at_call 65; exact Calls.quiet_of (atEnd_yes _ _ _ _ _ (h.drewN _) (by omega))))
    go_wp2_with (go_at_call 69; refine (giveUp_any _ _ _ _ _ (h.drewN _)).mono ?_; rintro e w' ⟨rfl, mq, rfl⟩)
    exact ⟨rfl, fun hh => Bool.noConfusion hh, fun _ => rfl, h.drewN _, grownBy_drewN w _ (some b)⟩
end Go.Proofs.YtdcjnhipenbcfaaGreatDoor
