import Derived.Test.YtkhkjihcpgkknaaDoorLines
namespace Go.Proofs.YtkhkjihcpgkknaaDoor
open Go.RowKit
set_option linter.unusedVariables false

theorem andS_assoc (st : Nat × Bool) (f g : Nat → Nat × Bool) : andS (andS st f) g = andS st fun q => andS (f q) g := by
  unfold andS
  by_cases h : st.2 = true
  · rw [if_pos h, if_pos h, if_pos h]
  · rw [if_neg h, if_neg h]
theorem sHead_le (s : ByteArray) (x : UInt8) (p : Nat) (h : p ≤ s.size) : p ≤ (sHead s x p).1 ∧ (sHead s x p).1 ≤ s.size := andS_le (sMust_le s x p h) fun q hq => sName_le s q hq
theorem sRead_eq (s : ByteArray) (p : Nat) : sRead s p = andS (sHead s 64 p) fun p => andS (sLine s 30 p) fun p' => andS (sMust s 43 p') fun p' => andS (sMust s 10 p') fun p' => andS (sTake s ism (nLine s 30 p) (nLine s 30 p) p') (sMust s 10) := by
  unfold sRead sHead; rw [andS_assoc]
theorem sRead_le (s : ByteArray) (p : Nat) (h : p ≤ s.size) : p ≤ (sRead s p).1 ∧ (sRead s p).1 ≤ s.size := by
  rw [sRead_eq]
  refine andS_le (sHead_le s 64 p h) fun q hq => andS_le (sLine_le s 30 q hq) fun q1 hq1 => andS_le (sMust_le s 43 q1 hq1) fun q2 hq2 => andS_le (sMust_le s 10 q2 hq2) fun q3 hq3 => andS_le (sTake_le s _ _ _ q3 hq3) fun q4 hq4 => sMust_le s 10 q4 hq4

set_option maxHeartbeats 1000000 in
theorem oneRead_any (w : World) (b : Nat) (s : ByteArray) (p : Nat) (c : Int) (h : RD w b s p c) (hs : s.size ≤ 1000) (hp : p ≤ s.size) :
    Calls Tryd.prog 45 #[.pointer (some ⟨b, 0, none⟩)] w fun e w' => stepPost w b s c (sRead s p) (.tuple #[]) e w' := by
  generalize hR : sRead s p = R
  rw [sRead_eq] at hR
  have HR := laid hR
  clear hR
  go_enter Tryd.func45, Tryd.ntmps45
  go_wp2_with fail
  refine (nameLine_any _ _ s p c _ 64 rfl h hs hp).mono ?_
  rintro e w1 ⟨h1, h2, hr1, hg1⟩
  have hl1 := sHead_le s 64 p hp
  by_cases hst : (sHead s 64 p).2 = true
  · obtain rfl := h2 hst
    exact ⟨rfl, stepPost_eq (rest_stop HR.out hst) (stepPost_bad hst hr1 hg1)⟩
  · rw [Bool.not_eq_true] at hst
    obtain rfl := h1 hst
    clear h1 h2
    have HR1 := laid (rest_on HR.out hst)
    generalize (sHead s 64 p).1 = p1 at *
    clear hst HR
    go_wp2_with fail
    refine (baseLine_any _ _ s p1 c _ 30 rfl (by omega) hr1 hs hl1.2).mono ?_
    rintro e w2 ⟨h1, h2, hr2, hg2⟩
    replace hg2 := grownBy_trans hg1 hg2
    have hl2 := sLine_le s 30 p1 hl1.2
    by_cases hst : (sLine s 30 p1).2 = true
    · obtain rfl := h2 hst
      exact ⟨rfl, stepPost_eq (rest_stop HR1.out hst) (stepPost_bad hst hr2 hg2)⟩
    · rw [Bool.not_eq_true] at hst
      obtain rfl := h1 hst
      clear h1 h2
      have HR2 := laid (rest_on HR1.out hst)
      have hnl := nLine_le s 30 p1
      have HXS := laid (xLine_size s 30 p1 hl1.2)
      generalize xLine s 30 p1 = X30 at *
      generalize nLine s 30 p1 = nl at *
      generalize (sLine s 30 p1).1 = p2 at *
      clear hst HR1
      have hxs := HXS.out
      go_wp2_with fail
      refine (expect_at _ _ s p2 c _ 43 rfl hr2 hs hl2.2).mono ?_
      rintro e w3 ⟨h1, h2, hr3, hg3⟩
      replace hg3 := grownBy_trans hg2 hg3
      have hl3 := sMust_le s 43 p2 hl2.2
      by_cases hst : (sMust s 43 p2).2 = true
      · obtain rfl := h2 hst
        exact ⟨rfl, stepPost_eq (rest_stop HR2.out hst) (stepPost_bad hst hr3 hg3)⟩
      · rw [Bool.not_eq_true] at hst
        obtain rfl := h1 hst
        clear h1 h2
        have HR3 := laid (rest_on HR2.out hst)
        generalize (sMust s 43 p2).1 = p3 at *
        clear hst HR2
        go_wp2_with fail
        refine (expect_at _ _ s p3 c _ 10 rfl hr3 hs hl3.2).mono ?_
        rintro e w4 ⟨h1, h2, hr4, hg4⟩
        replace hg4 := grownBy_trans hg3 hg4
        have hl4 := sMust_le s 10 p3 hl3.2
        by_cases hst : (sMust s 10 p3).2 = true
        · obtain rfl := h2 hst
          exact ⟨rfl, stepPost_eq (rest_stop HR3.out hst) (stepPost_bad hst hr4 hg4)⟩
        · rw [Bool.not_eq_true] at hst
          obtain rfl := h1 hst
          clear h1 h2
          have HR4 := laid (rest_on HR3.out hst)
          generalize (sMust s 10 p3).1 = p4 at *
          clear hst HR3
          go_wp2_with fail
          refine (takeMark_step _ _ s p4 c _ _ nl nl rfl rfl (by omega) (by omega) hr4 hs hl4.2).mono ?_
          rintro e w5 ⟨h1, h2, hr5, hg5⟩
          replace hg5 := grownBy_trans hg4 hg5
          have hl5 := sTake_le s ism nl nl p4 hl4.2
          by_cases hst : (sTake s ism nl nl p4).2 = true
          · obtain rfl := h2 hst
            exact ⟨rfl, stepPost_eq (rest_stop HR4.out hst) (stepPost_bad hst hr5 hg5)⟩
          · rw [Bool.not_eq_true] at hst
            obtain rfl := h1 hst
            clear h1 h2
            have HR5 := laid (rest_on HR4.out hst)
            generalize s.extract p4 (p4 + runLen ism (rest s p4) nl) = X at *
            generalize (sTake s ism nl nl p4).1 = p5 at *
            clear hst HR4
            go_wp2_with fail
            refine (expect_at _ _ s p5 c _ 10 rfl hr5 hs hl5.2).mono ?_
            rintro e w6 ⟨h1, h2, hr6, hg6⟩
            replace hg6 := grownBy_trans hg5 hg6
            by_cases hst : (sMust s 10 p5).2 = true
            · obtain rfl := h2 hst
              exact ⟨rfl, stepPost_eq HR5.out (stepPost_bad hst hr6 hg6)⟩
            · rw [Bool.not_eq_true] at hst
              obtain rfl := h1 hst
              clear h1 h2
              have HF := laid (stepPost_eq (v := .tuple #[]) HR5.out (stepPost_good hst hr6 hg6))
              clear hst
              go_wp2
              go_end0
              exact HF.out

end Go.Proofs.YtkhkjihcpgkknaaDoor
