import Derived.Test.YtdcjnhipenbcfaaGreatDoorRefName
namespace Go.Proofs.YtdcjnhipenbcfaaGreatDoor
open Go.RowKit
set_option linter.unusedVariables false

/-- the great letters of the bytes from p up to q -/
def gcut (s : ByteArray) (p q : Nat) : ByteArray := str (((rest s p).take (q - p)).map gb)
theorem gcut_size (s : ByteArray) (p q : Nat) (hq : q ≤ s.size) : (gcut s p q).size = q - p := by
  unfold gcut; rw [str_size, List.length_map, List.length_take, rest_len]; omega
theorem gcut_snoc (s : ByteArray) (p q : Nat) (hp : p ≤ q) (h : q < s.size) : gcut s p q ++ ⟨#[gb s[q]]⟩ = gcut s p (q + 1) := by
  unfold gcut
  rw [str_snoc, show q + 1 - p = (q - p) + 1 by omega, List.take_succ_eq_append_getElem (by rw [rest_len]; omega), rest_at' s p q hp h, List.map_append]
  rfl
theorem gcut_empty (s : ByteArray) (p q : Nat) (h : q = p) : (gcut s p q).toList.isEmpty = true := by
  subst h; rw [empty_size]; unfold gcut; rw [Nat.sub_self]; rfl
theorem gcut_some (s : ByteArray) (p q : Nat) (h : p < q) (hq : q ≤ s.size) : (gcut s p q).toList.isEmpty = false := by
  rw [empty_size, gcut_size s p q hq]; simp; omega
theorem sLine_zero (s : ByteArray) (m p q : Nat) (hr : q = p + runLen isb (rest s p) m) (hz : q = p) : sLine s m p = (q, true) := by
  have h0 : runLen isb (rest s p) m = 0 := by omega
  unfold sLine
  rw [andS_bad (by unfold sTake; simp [h0])]
  unfold sTake; rw [h0]; simp [hz]
theorem sLine_some (s : ByteArray) (m p q : Nat) (hr : q = p + runLen isb (rest s p) m) (hz : p < q) : sLine s m p = sMust s 10 q := by
  unfold sLine
  rw [andS_ok (by unfold sTake; simp; omega)]
  unfold sTake; rw [← hr]
/-- what a line hands back -/
def lnOf (s : ByteArray) (m p : Nat) : ByteArray := gcut s p (p + nLine s m p)
theorem lnOf_size (s : ByteArray) (m p : Nat) (hp : p ≤ s.size) : (lnOf s m p).size = nLine s m p := by
  have := (runLen_le isb (rest s p) m).2
  rw [rest_len] at this
  unfold lnOf nLine
  rw [gcut_size _ _ _ (by omega)]; omega

set_option maxHeartbeats 1000000 in
theorem line_bad (w : World) (b : Nat) (s : ByteArray) (p : Nat) (n : Int) (h : RF w b s p true) :
    Calls Tryz.prog 102 #[.pointer (some ⟨b, 0, none⟩), .int .i64 n] w fun e w' => e = .returned (.string ⟨#[]⟩) ∧ refPost w b s (p, true) w' := by
  have c2 := h.c2
  go_enter Tryz.func102, Tryz.ntmps102
  go_wp2
  go_loopw [5] (fun v wr => v = .string ⟨#[]⟩ ∧ wr = w) (fun _ _ => 0)
  case atStart => exact ⟨rfl, rfl⟩
  case round =>
    obtain ⟨rfl, rfl⟩ := hrel
    go_wp2_with fail
    go_quiet (fail)
    have f2 := h.fz 2
    have hrf2 := (h.drewN nq).spoil
    go_wp2_with fail
    refine (must_bad _ _ s p _ hrf2).mono ?_
    rintro e w1 ⟨rfl, hr1, hg1⟩
    go_wp2
    go_ret
    exact ⟨rfl, hr1, grownBy_trans (grownBy_trans (grownBy_drewN _ nq (some b)) (grownBy_put _ b 2 _)) hg1⟩

def lineRel (w : World) (b : Nat) (s : ByteArray) (p : Nat) (m : Nat) (q : Nat) (wr : World) : Prop :=
  p ≤ q ∧ q ≤ p + runLen isb (rest s p) m ∧ RF wr b s q false ∧ w.grownBy wr (some b)

set_option maxHeartbeats 4000000 in
theorem line_good (w : World) (b : Nat) (s : ByteArray) (p : Nat) (n : Int) (m : Nat) (hn : n = (m : Int)) (hm : m ≤ 1000) (h : RF w b s p false) (hs : s.size ≤ 1000) (hp : p ≤ s.size) :
    Calls Tryz.prog 102 #[.pointer (some ⟨b, 0, none⟩), .int .i64 n] w fun e w' => e = .returned (.string (lnOf s m p)) ∧ refPost w b s (sLine s m p) w' := by
  subst hn
  have hkle := runLen_le isb (rest s p) m
  rw [rest_len] at hkle
  go_enter Tryz.func102, Tryz.ntmps102
  go_wp2
  go_loopw [5] (fun v wr => ∃ q : Nat, v = .string (gcut s p q) ∧ lineRel w b s p m q wr) (fun _ wr => s.size - placeN wr b)
  case atStart => exact ⟨p, by unfold gcut; rw [Nat.sub_self]; rfl, Nat.le_refl _, by omega, h, grownBy_refl _ _⟩
  case round =>
    obtain ⟨q, rfl, hpq, hq, hrf, hg⟩ := hrel
    have c0 := hrf.c0
    have c1 := hrf.c1
    have c2 := hrf.c2
    have f1 := hrf.fz 1
    have f2 := hrf.fz 2
    have hcz := gcut_size s p q (by omega)
    have HCZ := laid hcz
    have hcz' : (gcut s p q).size ≤ 1000 := by omega
    by_cases hend : q < s.size
    · have hd1 : decide ((q : Int) < (s.size : Int)) = true := by simp; omega
      have hi1 : (q : Int) < (s.size : Int) := by omega
      by_cases hlt : q - p < m
      · have hd2 : decide ((gcut s p q).size < m) = true := by simp; omega
        have hlt2 : (gcut s p q).size < m := by omega
        clear hcz
        by_cases hfit : isb s[q] = true
        · have hmore := runLen_more isb (rest s p) m (q - p) (by rw [rest_len]; omega) (by omega) (by omega) (by rw [rest_at' s p q hpq hend]; exact hfit)
          go_wp2_with fail
          go_quiet (fail)
          have hrf0 := hrf.drewN nq
          have hg0 := grownBy_trans hg (grownBy_drewN wr nq (some b))
          go_wp2_with fail
          go_quiet ((go_at_call 103; refine (base_yes _ hfit _).mono ?_; rintro e w'' ⟨rfl, rfl⟩; exact ⟨rfl, _, rfl⟩))
          have HV := laid (val_str (gcut_snoc s p q hpq hend))
          have hnew := (hrf0.drewN nq).put
          have hgn := grownBy_trans hg0 (grownBy_trans (grownBy_drewN _ nq (some b)) (grownBy_put _ b 1 (.int .i64 ((q : Int) + 1))))
          rw [World.drewN_drewN] at hnew hgn
          have hpl := laid hrf.placeN
          have hpl4 := laid hnew.placeN
          go_wp2
          go_roundw
          case rel => go_light; exact ⟨q + 1, HV.out, by omega, by omega, hnew, hgn⟩
          case measure => go_light; rw [hpl.out, hpl4.out]; omega
        · rw [Bool.not_eq_true] at hfit
          have hrun : Hid (q = p + runLen isb (rest s p) m) := by
            have := runLen_stop isb (rest s p) m (q - p) (by rw [rest_len]; omega) (by omega) (by rw [rest_at' s p q hpq hend]; exact hfit)
            exact laid (by omega)
          go_wp2_with fail
          go_quiet (fail)
          have hrf0 := hrf.drewN nq
          have hg0 := grownBy_trans hg (grownBy_drewN wr nq (some b))
          go_wp2_with fail
          go_quiet ((go_at_call 103; refine (base_no _ hfit _).mono ?_; rintro e w'' ⟨rfl, rfl⟩; exact ⟨rfl, _, rfl⟩))
          have hrf1 := hrf0.drewN nq
          have hg1 := grownBy_trans hg0 (grownBy_drewN _ nq (some b))
          rw [World.drewN_drewN] at hrf1 hg1
          by_cases hzero : q = p
          · have HZ := laid hzero
            have hemp := gcut_empty s p q hzero
            clear hzero
            have hrf2 := hrf1.spoil
            have hg2 := grownBy_trans hg1 (grownBy_put _ b 2 (.bool true))
            go_wp2_with fail
            refine (must_bad _ _ s q _ hrf2).mono ?_
            rintro e w1 ⟨rfl, hr1, hg3⟩
            have HE := laid (sLine_zero s m p q hrun.out HZ.out)
            go_wp2
            go_ret
            exact ⟨ret_str (by unfold lnOf nLine; rw [← hrun.out]), by rw [HE.out]; exact ⟨hr1, grownBy_trans hg2 hg3⟩⟩
          · have hemp := gcut_some s p q (by omega) (by omega)
            have HE := laid (sLine_some s m p q hrun.out (by omega))
            clear hzero
            go_wp2_with fail
            refine (must_good _ _ s q _ 10 rfl hrf1 hs (by omega)).mono ?_
            rintro e w1 ⟨rfl, hr1, hg3⟩
            go_wp2
            go_ret
            exact ⟨ret_str (by unfold lnOf nLine; rw [← hrun.out]), by rw [HE.out]; exact ⟨hr1, grownBy_trans hg1 hg3⟩⟩
      · have hd2 : decide ((gcut s p q).size < m) = false := by simp; omega
        have hlt2 : ¬ (gcut s p q).size < m := by omega
        have hrun : Hid (q = p + runLen isb (rest s p) m) := laid (by omega)
        clear hcz
        go_wp2_with fail
        go_quiet (fail)
        have hrf1 := hrf.drewN nq
        have hg1 := grownBy_trans hg (grownBy_drewN wr nq (some b))
        by_cases hzero : q = p
        · have HZ := laid hzero
          have hemp := gcut_empty s p q hzero
          clear hzero
          have hrf2 := hrf1.spoil
          have hg2 := grownBy_trans hg1 (grownBy_put _ b 2 (.bool true))
          go_wp2_with fail
          refine (must_bad _ _ s q _ hrf2).mono ?_
          rintro e w1 ⟨rfl, hr1, hg3⟩
          have HE := laid (sLine_zero s m p q hrun.out HZ.out)
          go_wp2
          go_ret
          exact ⟨ret_str (by unfold lnOf nLine; rw [← hrun.out]), by rw [HE.out]; exact ⟨hr1, grownBy_trans hg2 hg3⟩⟩
        · have hemp := gcut_some s p q (by omega) (by omega)
          have HE := laid (sLine_some s m p q hrun.out (by omega))
          clear hzero
          go_wp2_with fail
          refine (must_good _ _ s q _ 10 rfl hrf1 hs (by omega)).mono ?_
          rintro e w1 ⟨rfl, hr1, hg3⟩
          go_wp2
          go_ret
          exact ⟨ret_str (by unfold lnOf nLine; rw [← hrun.out]), by rw [HE.out]; exact ⟨hr1, grownBy_trans hg1 hg3⟩⟩
    · have hd1 : decide ((q : Int) < (s.size : Int)) = false := by simp; omega
      have hrun : Hid (q = p + runLen isb (rest s p) m) := laid (by omega)
      clear hcz
      go_wp2_with fail
      go_quiet (fail)
      have hrf1 := hrf.drewN nq
      have hg1 := grownBy_trans hg (grownBy_drewN wr nq (some b))
      by_cases hzero : q = p
      · have HZ := laid hzero
        have hemp := gcut_empty s p q hzero
        clear hzero
        have hrf2 := hrf1.spoil
        have hg2 := grownBy_trans hg1 (grownBy_put _ b 2 (.bool true))
        go_wp2_with fail
        refine (must_bad _ _ s q _ hrf2).mono ?_
        rintro e w1 ⟨rfl, hr1, hg3⟩
        have HE := laid (sLine_zero s m p q hrun.out HZ.out)
        go_wp2
        go_ret
        exact ⟨ret_str (by unfold lnOf nLine; rw [← hrun.out]), by rw [HE.out]; exact ⟨hr1, grownBy_trans hg2 hg3⟩⟩
      · have hemp := gcut_some s p q (by omega) (by omega)
        have HE := laid (sLine_some s m p q hrun.out (by omega))
        clear hzero
        go_wp2_with fail
        refine (must_good _ _ s q _ 10 rfl hrf1 hs (by omega)).mono ?_
        rintro e w1 ⟨rfl, hr1, hg3⟩
        go_wp2
        go_ret
        exact ⟨ret_str (by unfold lnOf nLine; rw [← hrun.out]), by rw [HE.out]; exact ⟨hr1, grownBy_trans hg1 hg3⟩⟩

/-- line, in whatever state -/
def lnAt (s : ByteArray) (m : Nat) (st : Nat × Bool) : ByteArray := if st.2 = true then ⟨#[]⟩ else lnOf s m st.1
theorem line_any (w : World) (b : Nat) (s : ByteArray) (st : Nat × Bool) (n : Int) (m : Nat) (hn : n = (m : Int)) (hm : m ≤ 1000) (h : RF w b s st.1 st.2) (hs : s.size ≤ 1000) (hp : st.1 ≤ s.size) :
    Calls Tryz.prog 102 #[.pointer (some ⟨b, 0, none⟩), .int .i64 n] w fun e w' => e = .returned (.string (lnAt s m st)) ∧ refPost w b s (andS st (sLine s m)) w' := by
  obtain ⟨p, t⟩ := st
  cases t with
  | true => exact line_bad w b s p n h
  | false => exact line_good w b s p n m hn hm h hs hp
end Go.Proofs.YtdcjnhipenbcfaaGreatDoor
