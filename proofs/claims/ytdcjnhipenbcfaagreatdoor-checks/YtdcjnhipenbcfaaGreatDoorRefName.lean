import Derived.Test.YtdcjnhipenbcfaaGreatDoorRefMust
namespace Go.Proofs.YtdcjnhipenbcfaaGreatDoor
open Go.RowKit
set_option linter.unusedVariables false

/-- the bytes from p up to q -/
def cut (s : ByteArray) (p q : Nat) : ByteArray := str ((rest s p).take (q - p))
theorem cut_size (s : ByteArray) (p q : Nat) (hq : q ≤ s.size) : (cut s p q).size = q - p := by
  unfold cut; rw [str_size, List.length_take, rest_len]; omega
theorem extract_one (s : ByteArray) (q : Nat) (h : q < s.size) : s.extract q (q + 1) = ⟨#[s[q]]⟩ := by
  apply ByteArray.ext
  apply Array.ext'
  simp only [ByteArray.data_extract, Array.toList_extract, List.extract_eq_take_drop]
  rw [drop_cons s q h, show q + 1 - q = 1 by omega]
  rfl
theorem cut_snoc (s : ByteArray) (p q : Nat) (hp : p ≤ q) (h : q < s.size) : cut s p q ++ s.extract q (q + 1) = cut s p (q + 1) := by
  rw [extract_one s q h]
  unfold cut
  rw [str_snoc, show q + 1 - p = (q - p) + 1 by omega, List.take_succ_eq_append_getElem (by rw [rest_len]; omega), rest_at' s p q hp h]

theorem empty_size (s : ByteArray) : s.toList.isEmpty = decide (s.size = 0) := by
  rw [ByteArray.toList_eq]
  have h2 : s.data.toList.length = s.size := by simp
  generalize s.data.toList = l at *
  cases l with
  | nil => simp at h2; simp [← h2]
  | cons a l => simp at h2; rw [← h2]; simp
theorem cut_empty (s : ByteArray) (p q : Nat) (h : q = p) : (cut s p q).toList.isEmpty = true := by
  subst h; rw [empty_size]; unfold cut; rw [Nat.sub_self]; rfl
theorem cut_some (s : ByteArray) (p q : Nat) (h : p < q) (hq : q ≤ s.size) : (cut s p q).toList.isEmpty = false := by
  rw [empty_size, cut_size s p q hq]; simp; omega
theorem sName_zero (s : ByteArray) (p q : Nat) (hr : q = p + runLen isn (rest s p) 10) (hz : q = p) : sName s p = (q, true) := by
  have h0 : runLen isn (rest s p) 10 = 0 := by omega
  unfold sName
  rw [andS_bad (by unfold sTake; simp [h0])]
  unfold sTake; rw [h0]; simp [hz]
theorem sName_some (s : ByteArray) (p q : Nat) (hr : q = p + runLen isn (rest s p) 10) (hz : p < q) : sName s p = sMust s 10 q := by
  unfold sName
  rw [andS_ok (by unfold sTake; simp; omega)]
  unfold sTake; rw [← hr]

set_option maxHeartbeats 1000000 in
theorem name_bad (w : World) (b : Nat) (s : ByteArray) (p : Nat) (h : RF w b s p true) :
    Calls Tryz.prog 101 #[.pointer (some ⟨b, 0, none⟩)] w fun e w' => e = .returned (.string ⟨#[]⟩) ∧ refPost w b s (p, true) w' := by
  have c2 := h.c2
  go_enter Tryz.func101, Tryz.ntmps101
  go_wp2
  go_loopw [3] (fun v wr => v = .string ⟨#[]⟩ ∧ wr = w) (fun _ _ => 0)
  case atStart => exact ⟨rfl, rfl⟩
  case round =>
    obtain ⟨rfl, rfl⟩ := hrel
    go_wp2_with fail
    go_quiet (fail)
    have f2 := h.fz 2
    have hrf2 := (h.drewN nq).spoil
    go_wp2_with fail
    refine (must_bad _ _ s p _ hrf2).mono ?_
    rintro e w1 ⟨rfl, hr1, hg1⟩
    go_wp2
    go_ret
    exact ⟨rfl, hr1, grownBy_trans (grownBy_trans (grownBy_drewN _ nq (some b)) (grownBy_put _ b 2 _)) hg1⟩

def nameRel (w : World) (b : Nat) (s : ByteArray) (p : Nat) (q : Nat) (wr : World) : Prop :=
  p ≤ q ∧ q ≤ p + runLen isn (rest s p) 10 ∧ RF wr b s q false ∧ w.grownBy wr (some b)

set_option maxHeartbeats 4000000 in
theorem name_good (w : World) (b : Nat) (s : ByteArray) (p : Nat) (h : RF w b s p false) (hs : s.size ≤ 1000) (hp : p ≤ s.size) :
    Calls Tryz.prog 101 #[.pointer (some ⟨b, 0, none⟩)] w fun e w' => e = .returned (.string (cut s p (p + runLen isn (rest s p) 10))) ∧ refPost w b s (sName s p) w' := by
  have hkle := runLen_le isn (rest s p) 10
  rw [rest_len] at hkle
  go_enter Tryz.func101, Tryz.ntmps101
  go_wp2
  go_loopw [3] (fun v wr => ∃ q : Nat, v = .string (cut s p q) ∧ nameRel w b s p q wr) (fun _ wr => s.size - placeN wr b)
  case atStart => exact ⟨p, by unfold cut; rw [Nat.sub_self]; rfl, Nat.le_refl _, by omega, h, grownBy_refl _ _⟩
  case round =>
    obtain ⟨q, rfl, hpq, hq, hrf, hg⟩ := hrel
    have c0 := hrf.c0
    have c1 := hrf.c1
    have c2 := hrf.c2
    have f1 := hrf.fz 1
    have f2 := hrf.fz 2
    have hcz := cut_size s p q (by omega)
    have HCZ := laid hcz
    have hcz' : (cut s p q).size ≤ 1000 := by omega
    by_cases hend : q < s.size
    · have hd1 : decide ((q : Int) < (s.size : Int)) = true := by simp; omega
      have hi1 : (q : Int) < (s.size : Int) := by omega
      by_cases hlt : q - p < 10
      · have hd2 : decide (((cut s p q).size : Int) < 10) = true := by simp; omega
        clear hcz
        by_cases hfit : isn s[q] = true
        · have hmore := runLen_more isn (rest s p) 10 (q - p) (by rw [rest_len]; omega) (by omega) (by omega) (by rw [rest_at' s p q hpq hend]; exact hfit)
          go_wp2_with fail
          go_quiet ((go_at_call 116; exact Calls.quiet_of_same (inName_byte _ _)))
          have hw1 : IntKind.i64.wrap ((q : Int) + 1) = (q : Int) + 1 := IntWalk.i64_in _ (by omega)
          have hi2 : (q : Int) + 1 ≤ (s.size : Int) := by omega
          have hex := extract_one s q hend
          have hrf1 := hrf.drewN nq
          have hg1 := grownBy_trans hg (grownBy_drewN wr nq (some b))
          go_wp2_with fail
          go_quiet (fail)
          have hnew := (hrf1.drewN nq).put
          have hgn := grownBy_trans hg1 (grownBy_trans (grownBy_drewN _ nq (some b)) (grownBy_put _ b 1 (.int .i64 ((q : Int) + 1))))
          rw [World.drewN_drewN] at hnew hgn
          have HV : Hid (Value.string (cut s p q ++ ⟨#[s[q]]⟩) = Value.string (cut s p (q + 1))) := laid (val_str (by rw [← hex]; exact cut_snoc s p q hpq hend))
          have hpl := laid hrf.placeN
          have hpl4 := laid hnew.placeN
          clear hex
          go_wp2
          go_roundw
          case rel => go_light; exact ⟨q + 1, HV.out, by omega, by omega, hnew, hgn⟩
          case measure => go_light; rw [hpl.out, hpl4.out]; omega
        · rw [Bool.not_eq_true] at hfit
          have hrun : Hid (q = p + runLen isn (rest s p) 10) := by
            have := runLen_stop isn (rest s p) 10 (q - p) (by rw [rest_len]; omega) (by omega) (by rw [rest_at' s p q hpq hend]; exact hfit)
            exact laid (by omega)
          go_wp2_with fail
          go_quiet ((go_at_call 116; exact Calls.quiet_of_same (inName_byte _ _)))
          have hrf1 := hrf.drewN nq
          have hg1 := grownBy_trans hg (grownBy_drewN wr nq (some b))
          by_cases hzero : q = p
          · have HZ := laid hzero
            have hemp := cut_empty s p q hzero
            clear hzero
            have hrf2 := hrf1.spoil
            have hg2 := grownBy_trans hg1 (grownBy_put _ b 2 (.bool true))
            go_wp2_with fail
            refine (must_bad _ _ s q _ hrf2).mono ?_
            rintro e w1 ⟨rfl, hr1, hg3⟩
            have HE := laid (sName_zero s p q hrun.out HZ.out)
            go_wp2
            go_ret
            exact ⟨ret_str (by rw [← hrun.out]), by rw [HE.out]; exact ⟨hr1, grownBy_trans hg2 hg3⟩⟩
          · have hemp := cut_some s p q (by omega) (by omega)
            have HE := laid (sName_some s p q hrun.out (by omega))
            clear hzero
            go_wp2_with fail
            refine (must_good _ _ s q _ 10 rfl hrf1 hs (by omega)).mono ?_
            rintro e w1 ⟨rfl, hr1, hg3⟩
            go_wp2
            go_ret
            exact ⟨ret_str (by rw [← hrun.out]), by rw [HE.out]; exact ⟨hr1, grownBy_trans hg1 hg3⟩⟩
      · have hd2 : decide (((cut s p q).size : Int) < 10) = false := by simp; omega
        have hrun : Hid (q = p + runLen isn (rest s p) 10) := laid (by omega)
        clear hcz
        go_wp2_with fail
        go_quiet ((go_at_call 116; exact Calls.quiet_of_same (inName_byte _ _)))
        have hrf1 := hrf.drewN nq
        have hg1 := grownBy_trans hg (grownBy_drewN wr nq (some b))
        by_cases hzero : q = p
        · have HZ := laid hzero
          have hemp := cut_empty s p q hzero
          clear hzero
          have hrf2 := hrf1.spoil
          have hg2 := grownBy_trans hg1 (grownBy_put _ b 2 (.bool true))
          go_wp2_with fail
          refine (must_bad _ _ s q _ hrf2).mono ?_
          rintro e w1 ⟨rfl, hr1, hg3⟩
          have HE := laid (sName_zero s p q hrun.out HZ.out)
          go_wp2
          go_ret
          exact ⟨ret_str (by rw [← hrun.out]), by rw [HE.out]; exact ⟨hr1, grownBy_trans hg2 hg3⟩⟩
        · have hemp := cut_some s p q (by omega) (by omega)
          have HE := laid (sName_some s p q hrun.out (by omega))
          clear hzero
          go_wp2_with fail
          refine (must_good _ _ s q _ 10 rfl hrf1 hs (by omega)).mono ?_
          rintro e w1 ⟨rfl, hr1, hg3⟩
          go_wp2
          go_ret
          exact ⟨ret_str (by rw [← hrun.out]), by rw [HE.out]; exact ⟨hr1, grownBy_trans hg1 hg3⟩⟩
    · have hd1 : decide ((q : Int) < (s.size : Int)) = false := by simp; omega
      have hrun : Hid (q = p + runLen isn (rest s p) 10) := laid (by omega)
      clear hcz
      go_wp2_with fail
      go_quiet ((go_at_call 116; exact Calls.quiet_of_same (inName_byte _ _)))
      have hrf1 := hrf.drewN nq
      have hg1 := grownBy_trans hg (grownBy_drewN wr nq (some b))
      by_cases hzero : q = p
      · have HZ := laid hzero
        have hemp := cut_empty s p q hzero
        clear hzero
        have hrf2 := hrf1.spoil
        have hg2 := grownBy_trans hg1 (grownBy_put _ b 2 (.bool true))
        go_wp2_with fail
        refine (must_bad _ _ s q _ hrf2).mono ?_
        rintro e w1 ⟨rfl, hr1, hg3⟩
        have HE := laid (sName_zero s p q hrun.out HZ.out)
        go_wp2
        go_ret
        exact ⟨ret_str (by rw [← hrun.out]), by rw [HE.out]; exact ⟨hr1, grownBy_trans hg2 hg3⟩⟩
      · have hemp := cut_some s p q (by omega) (by omega)
        have HE := laid (sName_some s p q hrun.out (by omega))
        clear hzero
        go_wp2_with fail
        refine (must_good _ _ s q _ 10 rfl hrf1 hs (by omega)).mono ?_
        rintro e w1 ⟨rfl, hr1, hg3⟩
        go_wp2
        go_ret
        exact ⟨ret_str (by rw [← hrun.out]), by rw [HE.out]; exact ⟨hr1, grownBy_trans hg1 hg3⟩⟩

/-- name, in whatever state -/
def nmOf (s : ByteArray) (st : Nat × Bool) : ByteArray := if st.2 = true then ⟨#[]⟩ else cut s st.1 (st.1 + runLen isn (rest s st.1) 10)
theorem name_any (w : World) (b : Nat) (s : ByteArray) (st : Nat × Bool) (h : RF w b s st.1 st.2) (hs : s.size ≤ 1000) (hp : st.1 ≤ s.size) :
    Calls Tryz.prog 101 #[.pointer (some ⟨b, 0, none⟩)] w fun e w' => e = .returned (.string (nmOf s st)) ∧ refPost w b s (andS st (sName s)) w' := by
  obtain ⟨p, t⟩ := st
  cases t with
  | true => exact name_bad w b s p h
  | false => exact name_good w b s p h hs hp
end Go.Proofs.YtdcjnhipenbcfaaGreatDoor
