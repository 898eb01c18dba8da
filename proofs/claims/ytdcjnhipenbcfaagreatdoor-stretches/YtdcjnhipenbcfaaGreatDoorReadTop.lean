import Derived.Test.YtdcjnhipenbcfaaGreatDoorLines
import Derived.Test.YtdcjnhipenbcfaaGreatDoorAttempt
namespace Go.Proofs.YtdcjnhipenbcfaaGreatDoor
open Go.RowKit
set_option linter.unusedVariables false

theorem andS_assoc (st : Nat × Bool) (f g : Nat → Nat × Bool) : andS (andS st f) g = andS st fun q => andS (f q) g := by
  unfold andS
  by_cases h : st.2 = true
  · rw [if_pos h, if_pos h, if_pos h]
  · rw [if_neg h, if_neg h]
theorem sHead_le (s : ByteArray) (x : UInt8) (p : Nat) (h : p ≤ s.size) : p ≤ (sHead s x p).1 ∧ (sHead s x p).1 ≤ s.size := andS_le (sMust_le s x p h) fun q hq => sName_le s q hq
theorem sRead_eq (s : ByteArray) (p : Nat) : sRead s p = andS (sHead s 64 p) fun p => andS (sLine s 30 p) fun p' => andS (sMust s 43 p') fun p' => andS (sMust s 10 p') fun p' => andS (sTake s ism (nLine s 30 p) (nLine s 30 p) p') (sMust s 10) := by
  unfold sRead sHead; rw [andS_assoc]
theorem sRead_le (s : ByteArray) (p : Nat) (h : p ≤ s.size) : p ≤ (sRead s p).1 ∧ (sRead s p).1 ≤ s.size := by
  rw [sRead_eq]
  refine andS_le (sHead_le s 64 p h) fun q hq => andS_le (sLine_le s 30 q hq) fun q1 hq1 => andS_le (sMust_le s 43 q1 hq1) fun q2 hq2 => andS_le (sMust_le s 10 q2 hq2) fun q3 hq3 => andS_le (sTake_le s _ _ _ q3 hq3) fun q4 hq4 => sMust_le s 10 q4 hq4

/-- what stands in a read: its name, its bases in great letters, its marks -/
def pNm (s : ByteArray) (p : Nat) : ByteArray := xNm s (sMust s 64 p).1
def pBs (s : ByteArray) (p : Nat) : ByteArray := str ((xLine s 30 (sHead s 64 p).1).data.toList.map gb)
def pAt (s : ByteArray) (p : Nat) : Nat := (sMust s 10 (sMust s 43 (sLine s 30 (sHead s 64 p).1).1).1).1
def pMk (s : ByteArray) (p : Nat) : ByteArray := s.extract (pAt s p) (pAt s p + runLen ism (rest s (pAt s p)) (nLine s 30 (sHead s 64 p).1))
def rdV (s : ByteArray) (p : Nat) : Value := .agg #[.string (pNm s p), .string (pBs s p), .string (pMk s p)]

theorem RD.lt {w : World} {b : Nat} {s : ByteArray} {p c : Int} (h : RD w b s p c) : b < w.heap.size := by
  rcases Nat.lt_or_ge b w.heap.size with h' | h'
  · exact h'
  · unfold RD at h; rw [Array.getElem?_eq_none h'] at h; cases h
theorem RD.alloc {w : World} {b : Nat} {s : ByteArray} {p c : Int} (h : RD w b s p c) (o : Obj) : RD (w.alloc o) b s p c := by
  have := h.lt
  unfold RD at *; rw [heap_alloc_old w o this]; exact h
theorem RD.below {w w' : World} {b B : Nat} {s : ByteArray} {p c : Int} (h : RD w b s p c) (hb : Below B w w') (hlt : b < B) : RD w' b s p c := by
  unfold RD at *; rw [hb.block b hlt]; exact h
theorem RD.kept {w w' : World} {b r : Nat} {s : ByteArray} {p c : Int} (h : RD w b s p c) (hg : w.grownBy w' (some r)) (hne : b ≠ r) : RD w' b s p c := by
  have := h.lt
  unfold RD at *; rw [hg.block b this (by simpa using hne)]; exact h

/-- three cells of one block laid anew -/
theorem met_put3 {w1 : World} {n : Nat} {u0 u1 u2 : Value} (a b c : Value) (n0 : w1.cell? ⟨n, 0, none⟩ = some u0) (n1 : w1.cell? ⟨n, 1, none⟩ = some u1) (n2 : w1.cell? ⟨n, 2, none⟩ = some u2) :
    (((w1.setCell ⟨n, 0, none⟩ a).setCell ⟨n, 1, none⟩ b).setCell ⟨n, 2, none⟩ c).cell? ⟨n, 0, none⟩ = some a ∧ (((w1.setCell ⟨n, 0, none⟩ a).setCell ⟨n, 1, none⟩ b).setCell ⟨n, 2, none⟩ c).cell? ⟨n, 1, none⟩ = some b ∧
      (((w1.setCell ⟨n, 0, none⟩ a).setCell ⟨n, 1, none⟩ b).setCell ⟨n, 2, none⟩ c).cell? ⟨n, 2, none⟩ = some c ∧
      w1.grownBy (((w1.setCell ⟨n, 0, none⟩ a).setCell ⟨n, 1, none⟩ b).setCell ⟨n, 2, none⟩ c) (some n) := by
  obtain ⟨m0, m1, hg⟩ := met_put a b n0 n1
  have e2 : ((w1.setCell ⟨n, 0, none⟩ a).setCell ⟨n, 1, none⟩ b).cell? ⟨n, 2, none⟩ = some u2 := by
    rw [World.cell?_setCell_other (h := by simp), World.cell?_setCell_other (h := by simp)]; exact n2
  refine ⟨?_, ?_, World.cell?_setCell_same _ _ c e2, grownBy_trans hg (grownBy_put _ n 2 c)⟩
  · rw [World.cell?_setCell_other (h := by simp)]; exact m0
  · rw [World.cell?_setCell_other (h := by simp)]; exact m1

theorem fromAlloc {w w' : World} {o : Obj} {r : Option Nat} (h : (w.alloc o).grownBy w' r) : w.grownBy w' r := by
  refine ⟨h.os, h.tape, h.output, ?_, fun k hk hne => ?_⟩
  · have := h.size; simp at this; omega
  · rw [h.block k (by simp; omega) hne, Below.heap_alloc w o k hk]

set_option maxHeartbeats 1000000 in
theorem oneRead_any (w : World) (b : Nat) (s : ByteArray) (p : Nat) (c : Int) (h : RD w b s p c) (hs : s.size ≤ 1000) (hp : p ≤ s.size) :
    Calls Tryz.prog 109 #[.pointer (some ⟨b, 0, none⟩)] w fun e w' => stepPost w b s c (sRead s p) (rdV s p) e w' := by
  generalize hR : sRead s p = R
  rw [sRead_eq] at hR
  have HR := laid hR
  clear hR
  have hlt0 := h.lt
  unfold rdV
  generalize hN1 : pNm s p = PN
  generalize hN2 : pBs s p = PB
  generalize hN3 : pMk s p = PM
  have HN1 := laid (show xNm s (sMust s 64 p).1 = PN from hN1)
  have HN2 := laid (show str ((xLine s 30 (sHead s 64 p).1).data.toList.map gb) = PB from hN2)
  have HN3 := laid (show s.extract (sMust s 10 (sMust s 43 (sLine s 30 (sHead s 64 p).1).1).1).1 ((sMust s 10 (sMust s 43 (sLine s 30 (sHead s 64 p).1).1).1).1 + runLen ism (rest s (sMust s 10 (sMust s 43 (sLine s 30 (sHead s 64 p).1).1).1).1) (nLine s 30 (sHead s 64 p).1)) = PM from hN3)
  clear hN1 hN2 hN3
  go_enter Tryz.func109, Tryz.ntmps109
  go_wp2_with fail
  refine (nameLine_any _ _ s p c _ 64 rfl (h.alloc _) hs hp).mono ?_
  rw [HN1.out]
  clear HN1
  rintro e w1 ⟨h1, h2, hr1, hg1⟩
  have hl1 := sHead_le s 64 p hp
  by_cases hst : (sHead s 64 p).2 = true
  · obtain rfl := h2 hst
    exact ⟨rfl, stepPost_eq (rest_stop HR.out hst) (stepPost_bad hst hr1 (fromAlloc hg1))⟩
  · rw [Bool.not_eq_true] at hst
    obtain rfl := h1 hst
    clear h1 h2
    have HR1 := laid (rest_on HR.out hst)
    generalize (sHead s 64 p).1 = p1 at *
    clear hst HR
    go_wp2_with fail
    refine (baseLine_any _ _ s p1 c _ 30 rfl (by omega) hr1 hs hl1.2).mono ?_
    rintro e w2 ⟨h1, h2, hr2, hg2⟩
    replace hg2 := grownBy_trans hg1 hg2
    have hl2 := sLine_le s 30 p1 hl1.2
    by_cases hst : (sLine s 30 p1).2 = true
    · obtain rfl := h2 hst
      exact ⟨rfl, stepPost_eq (rest_stop HR1.out hst) (stepPost_bad hst hr2 (fromAlloc hg2))⟩
    · rw [Bool.not_eq_true] at hst
      obtain rfl := h1 hst
      clear h1 h2
      have HR2 := laid (rest_on HR1.out hst)
      have hnl := nLine_le s 30 p1
      have HXS := laid (xLine_size s 30 p1 hl1.2)
      generalize xLine s 30 p1 = X30 at *
      generalize nLine s 30 p1 = nl at *
      generalize (sLine s 30 p1).1 = p2 at *
      clear hst HR1
      have hxs := HXS.out
      go_wp2_with fail
      refine (expect_at _ _ s p2 c _ 43 rfl hr2 hs hl2.2).mono ?_
      rintro e w3 ⟨h1, h2, hr3, hg3⟩
      replace hg3 := grownBy_trans hg2 hg3
      have hl3 := sMust_le s 43 p2 hl2.2
      by_cases hst : (sMust s 43 p2).2 = true
      · obtain rfl := h2 hst
        exact ⟨rfl, stepPost_eq (rest_stop HR2.out hst) (stepPost_bad hst hr3 (fromAlloc hg3))⟩
      · rw [Bool.not_eq_true] at hst
        obtain rfl := h1 hst
        clear h1 h2
        have HR3 := laid (rest_on HR2.out hst)
        generalize (sMust s 43 p2).1 = p3 at *
        clear hst HR2
        go_wp2_with fail
        refine (expect_at _ _ s p3 c _ 10 rfl hr3 hs hl3.2).mono ?_
        rintro e w4 ⟨h1, h2, hr4, hg4⟩
        replace hg4 := grownBy_trans hg3 hg4
        have hl4 := sMust_le s 10 p3 hl3.2
        by_cases hst : (sMust s 10 p3).2 = true
        · obtain rfl := h2 hst
          exact ⟨rfl, stepPost_eq (rest_stop HR3.out hst) (stepPost_bad hst hr4 (fromAlloc hg4))⟩
        · rw [Bool.not_eq_true] at hst
          obtain rfl := h1 hst
          clear h1 h2
          have HR4 := laid (rest_on HR3.out hst)
          generalize (sMust s 10 p3).1 = p4 at *
          clear hst HR3
          go_wp2_with fail
          refine (takeMark_step _ _ s p4 c _ _ nl nl rfl rfl (by omega) (by omega) hr4 hs hl4.2).mono ?_
          rintro e w5 ⟨h1, h2, hr5, hg5⟩
          replace hg5 := grownBy_trans hg4 hg5
          have hl5 := sTake_le s ism nl nl p4 hl4.2
          by_cases hst : (sTake s ism nl nl p4).2 = true
          · obtain rfl := h2 hst
            exact ⟨rfl, stepPost_eq (rest_stop HR4.out hst) (stepPost_bad hst hr5 (fromAlloc hg5))⟩
          · rw [Bool.not_eq_true] at hst
            have h1' := h1 hst
            rw [HN3.out] at h1'
            obtain rfl := h1'
            clear h1 h2 HN3
            have HR5 := laid (rest_on HR4.out hst)
            generalize (sTake s ism nl nl p4).1 = p5 at *
            clear hst HR4
            go_wp2_with fail
            refine (expect_at _ _ s p5 c _ 10 rfl hr5 hs hl5.2).mono ?_
            rintro e w6 ⟨h1, h2, hr6, hg6⟩
            replace hg6 := grownBy_trans hg5 hg6
            by_cases hst : (sMust s 10 p5).2 = true
            · obtain rfl := h2 hst
              exact ⟨rfl, stepPost_eq HR5.out (stepPost_bad hst hr6 (fromAlloc hg6))⟩
            · rw [Bool.not_eq_true] at hst
              obtain rfl := h1 hst
              clear h1 h2
              have hl6 := hr6.lt
              have hne : b ≠ w.heap.size := by omega
              have hN := hg6.block w.heap.size (by simp) (by simpa using fun h => hne h.symm)
              rw [heap_alloc_new] at hN
              go_wp2_with fail
              refine (greatLetters_any X30 _ (by omega)).mono ?_
              rintro e w7 ⟨rfl, hb7⟩
              rw [HN2.out]
              clear HN2
              have hnw : w.heap.size < w6.heap.size := by have := hg6.size; simp at this; omega
              have hN7 := hb7.block w.heap.size hnw
              rw [hN] at hN7
              have n0 : w7.cell? ⟨w.heap.size, 0, none⟩ = some (.string ⟨#[]⟩) := by rw [cell_of_row _ _ _ _ _ _ hN7]; rfl
              have n1 : w7.cell? ⟨w.heap.size, 1, none⟩ = some (.string ⟨#[]⟩) := by rw [cell_of_row _ _ _ _ _ _ hN7]; rfl
              have n2 : w7.cell? ⟨w.heap.size, 2, none⟩ = some (.string ⟨#[]⟩) := by rw [cell_of_row _ _ _ _ _ _ hN7]; rfl
              have z0 : w7.frozen? ⟨w.heap.size, 0, none⟩ = false := frozen_of_row _ _ _ _ _ hN7
              have z1 : w7.frozen? ⟨w.heap.size, 1, none⟩ = false := frozen_of_row _ _ _ _ _ hN7
              have z2 : w7.frozen? ⟨w.heap.size, 2, none⟩ = false := frozen_of_row _ _ _ _ _ hN7
              have hg7 := grownBy_trans hg6 (grownBy_of_below hb7 (some b))
              have hr7 := hr6.below hb7 hl6
              obtain ⟨m0, m1, m2, hg8⟩ := met_put3 (.string PN) (.string PB) (.string PM) n0 n1 n2
              have hr8 := hr7.kept hg8 hne
              have HF := laid (stepPost_eq (v := .agg #[.string PN, .string PB, .string PM]) HR5.out (stepPost_good hst hr8 (grown_new hg7 hg8)))
              clear hst hN hN7 hg8 hr8 hg7 hb7 hr7
              go_wp2
              generalize ((w7.setCell ⟨w.heap.size, 0, none⟩ (.string PN)).setCell ⟨w.heap.size, 1, none⟩ (.string PB)).setCell ⟨w.heap.size, 2, none⟩ (.string PM) = w8 at *
              refine bodyPost_ret (v := .agg #[.string PN, .string PB, .string PM]) ?_ rfl HF.out
              simp [results, Tryz.results109, go_sem, m0, m1, m2]

end Go.Proofs.YtdcjnhipenbcfaaGreatDoor
