import Derived.Test.YtdcjnhipenbcfaaGreatDoorParse
namespace Go.Proofs.YtdcjnhipenbcfaaGreatDoor
open Go.RowKit
set_option linter.unusedVariables false

set_option maxHeartbeats 4000000 in
theorem takeName_any (w : World) (b : Nat) (s : ByteArray) (p : Nat) (c : Int) (least most : Int) (h : RD w b s p c) (hs : s.size ≤ 1000) (hp : p ≤ s.size) (hm : 0 ≤ most) (hm' : most ≤ 1000) (hl : 0 ≤ least) (hl' : least ≤ 1000) :
    Calls Tryz.prog 70 #[.pointer (some ⟨b, 0, none⟩), .func (.func 95) #[] #[], .int .i64 least, .int .i64 most] w fun e w' =>
      takePost w b s p c (runLen isn (rest s p) most.toNat) least e w' := by
  have h1 := h.c1
  go_enter Tryz.func70, Tryz.ntmps70
  go_wp2
  clear h1
  go_loopw [] (fun wr => ∃ q : Nat, takeRel w b s p c isn most.toNat q wr) (fun wr => s.size - placeN wr b)
  case atStart => exact ⟨p, Nat.le_refl _, by omega, h, grownBy_refl _ _⟩
  case round =>
    obtain ⟨q, hpq, hq, hrd, hg⟩ := hrel
    have hkle := runLen_le isn (rest s p) most.toNat
    rw [rest_len] at hkle
    have c0 := hrd.c0
    have c1 := hrd.c1
    have f1 := hrd.fz 1
    have hw1 : IntKind.i64.wrap ((q : Int) - (p : Int)) = (q : Int) - (p : Int) := IntWalk.i64_in _ (by omega)
    by_cases hlt : (q : Int) - (p : Int) < most
    · have hd1 : decide ((q : Int) - (p : Int) < most) = true := by simp; omega
      by_cases hend : q < s.size
      · have hne : ((q : Int) == (s.size : Int)) = false := by simp; omega
        have hi1 : (q : Int) < (s.size : Int) := by omega
        by_cases hfit : isn s[q] = true
        · go_wp2_with fail
          go_quiet ((first | (go_at_call 65; exact Calls.quiet_of (atEnd_any _ _ _ _ _ (hrd.drewN _))) | (go_at_call 95; exact Calls.quiet_of_same (isName_byte _ _))))
          have hmore := runLen_more isn (rest s p) most.toNat (q - p) (by rw [rest_len]; omega) (by omega) (by omega) (by rw [rest_at' s p q hpq hend]; exact hfit)
          go_wp2
          have hnew := (hrd.drewN nq).put ((q : Int) + 1)
          have hgn := grownBy_trans hg (grownBy_trans (grownBy_drewN wr nq (some b)) (grownBy_put (wr.drewN nq) b 1 (.int .i64 ((q : Int) + 1))))
          go_roundw
          case rel => go_light; exact ⟨q + 1, by omega, by omega, hnew, hgn⟩
          case measure => go_light; have e1 := hrd.placeN; have e2 := hnew.placeN; rw [e1, e2]; omega
        · rw [Bool.not_eq_true] at hfit
          have hrun : Hid (q = p + runLen isn (rest s p) most.toNat) := by
            have := runLen_stop isn (rest s p) most.toNat (q - p) (by rw [rest_len]; omega) (by omega) (by rw [rest_at' s p q hpq hend]; exact hfit)
            exact laid (by omega)
          go_wp2_with fail
          go_quiet ((first | (go_at_call 65; exact Calls.quiet_of (atEnd_any _ _ _ _ _ (hrd.drewN _))) | (go_at_call 95; exact Calls.quiet_of_same (isName_byte _ _))))
          have hrd2 := hrd.drewN nq
          have hg2 := grownBy_trans hg (grownBy_drewN wr nq (some b))
          by_cases hle : (q : Int) - (p : Int) < least
          · go_wp2_with (go_at_call 69; refine (giveUp_any _ _ _ _ _ hrd2).mono ?_; rintro e w' ⟨rfl, mq, rfl⟩)
            exact ⟨rfl, takePost_bad (least := least) hrun.out (by omega) (by omega) hrd hg _⟩
          · go_wp2
            go_quiet (fail)
            go_wp2
            go_ret
            exact takePost_ok (least := least) hrun.out (by omega) (by omega) hrd2 hg2 _
      · have hne : ((q : Int) == (s.size : Int)) = true := by simp; omega
        have hrun : Hid (q = p + runLen isn (rest s p) most.toNat) := laid (by omega)
        go_wp2_with fail
        go_quiet ((first | (go_at_call 65; exact Calls.quiet_of (atEnd_any _ _ _ _ _ (hrd.drewN _))) | (go_at_call 95; exact Calls.quiet_of_same (isName_byte _ _))))
        have hrd2 := hrd.drewN nq
        have hg2 := grownBy_trans hg (grownBy_drewN wr nq (some b))
        by_cases hle : (q : Int) - (p : Int) < least
        · go_wp2_with (go_at_call 69; refine (giveUp_any _ _ _ _ _ hrd2).mono ?_; rintro e w' ⟨rfl, mq, rfl⟩)
          exact ⟨rfl, takePost_bad (least := least) hrun.out (by omega) (by omega) hrd hg _⟩
        · go_wp2
          go_quiet (fail)
          go_wp2
          go_ret
          exact takePost_ok (least := least) hrun.out (by omega) (by omega) hrd2 hg2 _
    · have hd1 : decide ((q : Int) - (p : Int) < most) = false := by simp; omega
      have hrun : Hid (q = p + runLen isn (rest s p) most.toNat) := laid (by omega)
      go_wp2_with fail
      go_quiet ((first | (go_at_call 65; exact Calls.quiet_of (atEnd_any _ _ _ _ _ (hrd.drewN _))) | (go_at_call 95; exact Calls.quiet_of_same (isName_byte _ _))))
      have hrd2 := hrd.drewN nq
      have hg2 := grownBy_trans hg (grownBy_drewN wr nq (some b))
      by_cases hle : (q : Int) - (p : Int) < least
      · go_wp2_with (go_at_call 69; refine (giveUp_any _ _ _ _ _ hrd2).mono ?_; rintro e w' ⟨rfl, mq, rfl⟩)
        exact ⟨rfl, takePost_bad (least := least) hrun.out (by omega) (by omega) hrd hg _⟩
      · go_wp2
        go_quiet (fail)
        go_wp2
        go_ret
        exact takePost_ok (least := least) hrun.out (by omega) (by omega) hrd2 hg2 _
set_option maxHeartbeats 4000000 in
theorem takeMark_any (w : World) (b : Nat) (s : ByteArray) (p : Nat) (c : Int) (least most : Int) (h : RD w b s p c) (hs : s.size ≤ 1000) (hp : p ≤ s.size) (hm : 0 ≤ most) (hm' : most ≤ 1000) (hl : 0 ≤ least) (hl' : least ≤ 1000) :
    Calls Tryz.prog 70 #[.pointer (some ⟨b, 0, none⟩), .func (.func 120) #[] #[], .int .i64 least, .int .i64 most] w fun e w' =>
      takePost w b s p c (runLen ism (rest s p) most.toNat) least e w' := by
  have h1 := h.c1
  go_enter Tryz.func70, Tryz.ntmps70
  go_wp2
  clear h1
  go_loopw [] (fun wr => ∃ q : Nat, takeRel w b s p c ism most.toNat q wr) (fun wr => s.size - placeN wr b)
  case atStart => exact ⟨p, Nat.le_refl _, by omega, h, grownBy_refl _ _⟩
  case round =>
    obtain ⟨q, hpq, hq, hrd, hg⟩ := hrel
    have hkle := runLen_le ism (rest s p) most.toNat
    rw [rest_len] at hkle
    have c0 := hrd.c0
    have c1 := hrd.c1
    have f1 := hrd.fz 1
    have hw1 : IntKind.i64.wrap ((q : Int) - (p : Int)) = (q : Int) - (p : Int) := IntWalk.i64_in _ (by omega)
    by_cases hlt : (q : Int) - (p : Int) < most
    · have hd1 : decide ((q : Int) - (p : Int) < most) = true := by simp; omega
      by_cases hend : q < s.size
      · have hne : ((q : Int) == (s.size : Int)) = false := by simp; omega
        have hi1 : (q : Int) < (s.size : Int) := by omega
        by_cases hfit : ism s[q] = true
        · go_wp2_with fail
          go_quiet ((first | (go_at_call 65; exact Calls.quiet_of (atEnd_any _ _ _ _ _ (hrd.drewN _))) | (go_at_call 120; exact Calls.quiet_of_same (isMark_byte _ _))))
          have hmore := runLen_more ism (rest s p) most.toNat (q - p) (by rw [rest_len]; omega) (by omega) (by omega) (by rw [rest_at' s p q hpq hend]; exact hfit)
          go_wp2
          have hnew := (hrd.drewN nq).put ((q : Int) + 1)
          have hgn := grownBy_trans hg (grownBy_trans (grownBy_drewN wr nq (some b)) (grownBy_put (wr.drewN nq) b 1 (.int .i64 ((q : Int) + 1))))
          go_roundw
          case rel => go_light; exact ⟨q + 1, by omega, by omega, hnew, hgn⟩
          case measure => go_light; have e1 := hrd.placeN; have e2 := hnew.placeN; rw [e1, e2]; omega
        · rw [Bool.not_eq_true] at hfit
          have hrun : Hid (q = p + runLen ism (rest s p) most.toNat) := by
            have := runLen_stop ism (rest s p) most.toNat (q - p) (by rw [rest_len]; omega) (by omega) (by rw [rest_at' s p q hpq hend]; exact hfit)
            exact laid (by omega)
          go_wp2_with fail
          go_quiet ((first | (go_at_call 65; exact Calls.quiet_of (atEnd_any _ _ _ _ _ (hrd.drewN _))) | (go_at_call 120; exact Calls.quiet_of_same (isMark_byte _ _))))
          have hrd2 := hrd.drewN nq
          have hg2 := grownBy_trans hg (grownBy_drewN wr nq (some b))
          by_cases hle : (q : Int) - (p : Int) < least
          · go_wp2_with (go_at_call 69; refine (giveUp_any _ _ _ _ _ hrd2).mono ?_; rintro e w' ⟨rfl, mq, rfl⟩)
            exact ⟨rfl, takePost_bad (least := least) hrun.out (by omega) (by omega) hrd hg _⟩
          · go_wp2
            go_quiet (fail)
            go_wp2
            go_ret
            exact takePost_ok (least := least) hrun.out (by omega) (by omega) hrd2 hg2 _
      · have hne : ((q : Int) == (s.size : Int)) = true := by simp; omega
        have hrun : Hid (q = p + runLen ism (rest s p) most.toNat) := laid (by omega)
        go_wp2_with fail
        go_quiet ((first | (go_at_call 65; exact Calls.quiet_of (atEnd_any _ _ _ _ _ (hrd.drewN _))) | (go_at_call 120; exact Calls.quiet_of_same (isMark_byte _ _))))
        have hrd2 := hrd.drewN nq
        have hg2 := grownBy_trans hg (grownBy_drewN wr nq (some b))
        by_cases hle : (q : Int) - (p : Int) < least
        · go_wp2_with (go_at_call 69; refine (giveUp_any _ _ _ _ _ hrd2).mono ?_; rintro e w' ⟨rfl, mq, rfl⟩)
          exact ⟨rfl, takePost_bad (least := least) hrun.out (by omega) (by omega) hrd hg _⟩
        · go_wp2
          go_quiet (fail)
          go_wp2
          go_ret
          exact takePost_ok (least := least) hrun.out (by omega) (by omega) hrd2 hg2 _
    · have hd1 : decide ((q : Int) - (p : Int) < most) = false := by simp; omega
      have hrun : Hid (q = p + runLen ism (rest s p) most.toNat) := laid (by omega)
      go_wp2_with fail
      go_quiet ((first | (go_at_call 65; exact Calls.quiet_of (atEnd_any _ _ _ _ _ (hrd.drewN _))) | (go_at_call 120; exact Calls.quiet_of_same (isMark_byte _ _))))
      have hrd2 := hrd.drewN nq
      have hg2 := grownBy_trans hg (grownBy_drewN wr nq (some b))
      by_cases hle : (q : Int) - (p : Int) < least
      · go_wp2_with (go_at_call 69; refine (giveUp_any _ _ _ _ _ hrd2).mono ?_; rintro e w' ⟨rfl, mq, rfl⟩)
        exact ⟨rfl, takePost_bad (least := least) hrun.out (by omega) (by omega) hrd hg _⟩
      · go_wp2
        go_quiet (fail)
        go_wp2
        go_ret
        exact takePost_ok (least := least) hrun.out (by omega) (by omega) hrd2 hg2 _
end Go.Proofs.YtdcjnhipenbcfaaGreatDoor
