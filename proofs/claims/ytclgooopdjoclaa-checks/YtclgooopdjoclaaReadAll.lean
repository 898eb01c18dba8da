import Derived.Test.YtclgooopdjoclaaReadTop
import Derived.Test.YtclgooopdjoclaaFlipRun
namespace Go.Proofs.Ytclgooopdjoclaa
open Go.RowKit
set_option linter.unusedVariables false

theorem sLines_step {s : ByteArray} {fuel n p : Nat} {R : Nat × Bool} (hf : s.size - p < fuel) (hp : p < s.size) (h : sLines s fuel n p = R) :
    andS (sLine s (200 - n) p) (sLines s (fuel - 1) (n + nLine s (200 - n) p)) = R := by
  cases fuel with
  | zero => omega
  | succ f => rw [← h]; simp only [sLines, Nat.add_sub_cancel]; rw [if_neg (by omega)]
theorem sLines_end {s : ByteArray} {fuel n p : Nat} {R : Nat × Bool} (hf : s.size - p < fuel) (hp : s.size ≤ p) (h : sLines s fuel n p = R) : R = (p, false) := by
  cases fuel with
  | zero => omega
  | succ f => rw [← h]; simp only [sLines]; rw [if_pos hp]
theorem sRef_eq (s : ByteArray) : sRef s = andS (sHead s 62 0) fun p => andS (sLine s 200 p) (sLines s (s.size + 1) (nLine s 200 p)) := by
  unfold sRef sHead; rw [andS_assoc]

/-- how a reader of a whole text ends -/
def readPost (w : World) (c : Int) (R : Nat × Bool) (e : Ending) (w' : World) : Prop :=
  (R.2 = false → e = .returned (.tuple #[])) ∧ (R.2 = true → e = .panicked (gives c (R.1 : Int))) ∧ Below w.heap.size w w'
theorem readPost_bad {w w1 : World} {o : Obj} {c : Int} {st R : Nat × Bool} (hR : st = R) (hst : st.2 = true) (hg : (w.alloc o).grownBy w1 (some w.heap.size)) : readPost w c R (.panicked (gives c (st.1 : Int))) w1 := by
  subst hR; exact ⟨fun h => by rw [hst] at h; exact Bool.noConfusion h, fun _ => rfl, below_reader hg⟩
theorem readPost_good {w w1 : World} {o : Obj} {c : Int} {R : Nat × Bool} (hR : R.2 = false) (hg : (w.alloc o).grownBy w1 (some w.heap.size)) : readPost w c R (.returned (.tuple #[])) w1 :=
  ⟨fun _ => rfl, fun h => by rw [hR] at h; exact Bool.noConfusion h, below_reader hg⟩

set_option maxHeartbeats 1000000 in
theorem readReference_any (s : ByteArray) (w : World) (hs : s.size ≤ 1000) :
    Calls Try.prog 18 #[.string s] w fun e w' => readPost w 2 (sRef s) e w' := by
  generalize hR : sRef s = R
  rw [sRef_eq] at hR
  have HR := laid hR
  clear hR
  go_enter Try.func18, Try.ntmps18
  go_wp2_with fail
  refine (nameLine_any _ _ s 0 2 _ 62 rfl (RD_alloc w s 0 2) hs (by omega)).mono ?_
  rintro e w1 ⟨h1, h2, hr1, hg1⟩
  have hl1 := sHead_le s 62 0 (by omega)
  by_cases hst : (sHead s 62 0).2 = true
  · obtain rfl := h2 hst
    exact ⟨rfl, readPost_bad (rest_stop HR.out hst) hst hg1⟩
  · rw [Bool.not_eq_true] at hst
    obtain rfl := h1 hst
    clear h1 h2
    have HR1 := laid (rest_on HR.out hst)
    generalize (sHead s 62 0).1 = p1 at *
    clear hst HR
    go_wp2_with fail
    refine (baseLine_any _ _ s p1 2 _ 200 rfl (by omega) hr1 hs hl1.2).mono ?_
    rintro e w2 ⟨h1, h2, hr2, hg2⟩
    replace hg2 := grownBy_trans hg1 hg2
    have hl2 := sLine_le s 200 p1 hl1.2
    by_cases hst : (sLine s 200 p1).2 = true
    · obtain rfl := h2 hst
      exact ⟨rfl, readPost_bad (rest_stop HR1.out hst) hst hg2⟩
    · rw [Bool.not_eq_true] at hst
      obtain rfl := h1 hst
      clear h1 h2
      have HR2 := laid (rest_on HR1.out hst)
      have hnl := nLine_le s 200 p1
      generalize nLine s 200 p1 = n0 at *
      generalize (sLine s 200 p1).1 = p2 at *
      clear hst HR1
      go_wp2
      clear hr1 hg1 hl1
      go_loopw [3] (fun cnt wr => ∃ n p fuel : Nat, cnt = .int .i64 n ∧ n ≤ 200 ∧ p ≤ s.size ∧ RD wr w.heap.size s p 2 ∧ (w.alloc (.cells #[.string s, .int .i64 0, .int .i64 2] 65)).grownBy wr (some w.heap.size) ∧ Hid (s.size - p < fuel ∧ sLines s fuel n p = R)) (fun _ wr => s.size - placeN wr w.heap.size)
      case atStart => exact ⟨n0, p2, s.size + 1, rfl, hnl, hl2.2, hr2, hg2, laid ⟨by omega, HR2.out⟩⟩
      case round =>
        obtain ⟨n, p, fuel, rfl, hn, hp, hrd, hg, HF⟩ := hrel
        clear HR2 hr2 hg2 hl2 hnl
        by_cases hend : p < s.size
        · have HL := laid (sLines_step HF.out.1 hend HF.out.2)
          go_wp2_with fail
          refine (atEnd_no _ _ s p 2 hrd hend).mono ?_
          rintro e w3 ⟨rfl, mq, rfl⟩
          go_wp2_with fail
          refine (baseLine_any _ _ s p 2 _ (200 - n) (by omega) (by omega) (hrd.drewN mq) hs hp).mono ?_
          rintro e w4 ⟨h1, h2, hr4, hg4⟩
          replace hg4 := grownBy_trans hg (grownBy_trans (grownBy_drewN wr mq (some w.heap.size)) hg4)
          have hl4 := sLine_le s (200 - n) p hp
          by_cases hst : (sLine s (200 - n) p).2 = true
          · obtain rfl := h2 hst
            exact ⟨rfl, readPost_bad (rest_stop HL.out hst) hst hg4⟩
          · rw [Bool.not_eq_true] at hst
            obtain rfl := h1 hst
            clear h1 h2
            have HL1 := laid (rest_on HL.out hst)
            have hmore := sLine_more s (200 - n) p hst
            have hnl := nLine_le s (200 - n) p
            generalize nLine s (200 - n) p = n1 at *
            generalize (sLine s (200 - n) p).1 = p4 at *
            have HM := laid hmore.1
            have hm2 := hmore.2
            clear hst HL hmore
            have hpl := laid hrd.placeN
            have hpl4 := laid hr4.placeN
            have hfu := laid HF.out.1
            clear HF
            go_wp2
            go_roundw
            case rel => go_light; exact ⟨n + n1, p4, fuel - 1, by go_num, by omega, hl4.2, hr4, hg4, laid ⟨by have := hfu.out; have := HM.out; omega, HL1.out⟩⟩
            case measure => go_light; have := HM.out; rw [hpl.out, hpl4.out]; omega
        · have hpe : s.size = p := by omega
          have HPE := laid hpe
          clear hpe
          have hfin := sLines_end HF.out.1 (by omega) HF.out.2
          have HFIN := laid (show R.2 = false by rw [hfin])
          clear hfin
          go_wp2_with fail
          refine (atEnd_yes _ _ s p 2 hrd HPE.out).mono ?_
          rintro e w3 ⟨rfl, mq, rfl⟩
          go_wp2
          go_end0
          exact readPost_good HFIN.out (grownBy_trans hg (grownBy_drewN wr mq _))

theorem sReads_step {s : ByteArray} {k p : Nat} {R : Nat × Bool} (hk : k < 5) (hp : p < s.size) (h : sReads s (5 - k) p = R) : andS (sRead s p) (sReads s (5 - (k + 1))) = R := by
  rw [← h, show 5 - k = (5 - (k + 1)) + 1 by omega]; simp only [sReads]; rw [if_neg (by omega)]
theorem sReads_end {s : ByteArray} {k p : Nat} {R : Nat × Bool} (hp : s.size = p) (h : sReads s (5 - k) p = R) : R = (p, false) := by
  rw [← h]
  generalize 5 - k = m
  cases m with
  | zero => simp only [sReads]; rw [decide_eq_false (by omega)]
  | succ m => simp only [sReads]; rw [if_pos (by omega)]
theorem sReads_full {s : ByteArray} {p : Nat} {R : Nat × Bool} (hp : p < s.size) (h : sReads s (5 - 5) p = R) : (p, true) = R := by
  rw [← h]; simp only [sReads, Nat.sub_self]; rw [decide_eq_true hp]
theorem sRead_more (s : ByteArray) (p : Nat) (h : (sRead s p).2 = false) (hp : p ≤ s.size) : p < (sRead s p).1 := by
  unfold sRead at *
  obtain ⟨h1, h2⟩ := andS_false h
  rw [andS_ok h1]
  have hm := sMust_more s 64 p h1
  have hl : (sMust s 64 p).1 ≤ s.size := by omega
  have := andS_le (sName_le s _ hl) fun q hq => andS_le (sLine_le s 30 q hq) fun q1 hq1 => andS_le (sMust_le s 43 q1 hq1) fun q2 hq2 => andS_le (sMust_le s 10 q2 hq2) fun q3 hq3 => andS_le (sTake_le s ism (nLine s 30 q) (nLine s 30 q) q3 hq3) fun q4 hq4 => sMust_le s 10 q4 hq4
  omega

set_option maxHeartbeats 1000000 in
theorem readReads_any (s : ByteArray) (w : World) (hs : s.size ≤ 1000) :
    Calls Try.prog 19 #[.string s] w fun e w' => readPost w 3 (sReads s 5 0) e w' := by
  generalize hR : sReads s 5 0 = R
  have HR := laid hR
  clear hR
  go_enter Try.func19, Try.ntmps19
  go_wp2
  go_loopw [3] (fun cnt wr => ∃ k p : Nat, cnt = .int .i64 k ∧ k ≤ 5 ∧ p ≤ s.size ∧ RD wr w.heap.size s p 3 ∧ (w.alloc (.cells #[.string s, .int .i64 0, .int .i64 3] 65)).grownBy wr (some w.heap.size) ∧ Hid (sReads s (5 - k) p = R)) (fun cnt _ => 5 - (intOf cnt).toNat)
  case atStart => exact ⟨0, 0, rfl, by omega, by omega, RD_alloc w s 0 3, grownBy_refl _ _, HR⟩
  case round =>
    obtain ⟨k, p, rfl, hk, hp, hrd, hg, HF⟩ := hrel
    clear HR
    by_cases hlt : k < 5
    · by_cases hend : p < s.size
      · have HL := laid (sReads_step hlt hend HF.out)
        clear HF
        go_wp2_with fail
        refine (atEnd_no _ _ s p 3 hrd hend).mono ?_
        rintro e w3 ⟨rfl, mq, rfl⟩
        go_wp2_with fail
        refine (oneRead_any _ _ s p 3 (hrd.drewN mq) hs hp).mono ?_
        rintro e w4 ⟨h1, h2, hr4, hg4⟩
        replace hg4 := grownBy_trans hg (grownBy_trans (grownBy_drewN wr mq (some w.heap.size)) hg4)
        have hl4 := sRead_le s p hp
        by_cases hst : (sRead s p).2 = true
        · obtain rfl := h2 hst
          exact ⟨rfl, readPost_bad (rest_stop HL.out hst) hst hg4⟩
        · rw [Bool.not_eq_true] at hst
          obtain rfl := h1 hst
          clear h1 h2
          have HL1 := laid (rest_on HL.out hst)
          generalize (sRead s p).1 = p4 at *
          clear hst HL
          go_wp2
          go_roundw
          case rel => go_light; exact ⟨k + 1, p4, by go_num, by omega, hl4.2, hr4, hg4, HL1⟩
          case measure => go_light; simp [intOf]; omega
      · have hpe : s.size = p := by omega
        have HPE := laid hpe
        have hfin := sReads_end hpe HF.out
        have HFIN := laid (show R.2 = false by rw [hfin])
        clear hfin hpe HF
        go_wp2_with fail
        refine (atEnd_yes _ _ s p 3 hrd HPE.out).mono ?_
        rintro e w3 ⟨rfl, mq, rfl⟩
        go_wp2_with fail
        refine (expectEnd_ok _ _ s p 3 (hrd.drewN mq) (by rw [HPE.out])).mono ?_
        rintro e w4 ⟨rfl, mr, rfl⟩
        go_wp2
        go_end0
        exact readPost_good HFIN.out (grownBy_trans hg (grownBy_drewN wr _ _))
    · have hk5 : k = 5 := by omega
      subst hk5
      by_cases hend : p < s.size
      · have HL := laid (sReads_full hend HF.out)
        clear HF
        go_wp2_with fail
        refine (expectEnd_bad _ _ s p 3 hrd (by omega)).mono ?_
        rintro e w4 ⟨rfl, mr, rfl⟩
        exact ⟨rfl, readPost_bad (st := (p, true)) HL.out rfl (grownBy_trans hg (grownBy_drewN _ mr _))⟩
      · have hpe : s.size = p := by omega
        have HPE := laid hpe
        have hfin := sReads_end hpe HF.out
        have HFIN := laid (show R.2 = false by rw [hfin])
        clear hfin hpe HF
        go_wp2_with fail
        refine (expectEnd_ok _ _ s p 3 hrd (by rw [HPE.out])).mono ?_
        rintro e w4 ⟨rfl, mr, rfl⟩
        go_wp2
        go_end0
        exact readPost_good HFIN.out (grownBy_trans hg (grownBy_drewN _ mr _))
end Go.Proofs.Ytclgooopdjoclaa
