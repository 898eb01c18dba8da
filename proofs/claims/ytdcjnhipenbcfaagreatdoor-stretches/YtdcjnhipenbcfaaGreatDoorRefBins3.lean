import Derived.Test.YtdcjnhipenbcfaaGreatDoorRefBins2
namespace Go.Proofs.YtdcjnhipenbcfaaGreatDoor
open Go.RowKit
set_option linter.unusedVariables false

theorem str_nil_iff (l : List UInt8) : ((str l).toList == (⟨#[]⟩ : ByteArray).toList) = decide (l = []) := by
  rw [ByteArray.toList_eq, ByteArray.toList_eq]
  cases l <;> rfl

theorem comB_small (p s : ByteArray) (q : Nat) (hp : p.size ≤ 900) (hs : s.size ≤ 1000) : comB p s q ≤ 1001000 := comUp_small p s q _ (by omega) hs

set_option maxHeartbeats 4000000 in
theorem refBins_good (ref bases : ByteArray) (k q st : Nat) (w : World) (ha : ¬ 400 < ref.size) (hr : (sRef ref).2 = false) (hb1 : ¬ bases.size < 1) (hb2 : ¬ 30 < bases.size) (hb3 : bases.data.toList.all isb = true)
    (hk : k ≤ 6) (hkm : k < bases.size) (hq1 : 1 ≤ q) (hq2 : q ≤ 8) (hs1 : 1 ≤ st) (hs2 : st ≤ 200) :
    Calls Tryz.prog 56 #[.string ref, .string bases, .int .i64 (k : Int), .int .i64 (q : Int), .int .i64 (st : Int)] w fun e w' =>
      e = .returned (.tuple #[.string (str (binsUp (str (bases.data.toList.map gb)) (str (refAll ref).2) k q st (thr bases.size k q) (stretches (refAll ref).2.length st))), .int .i64 0]) ∧ Below w.heap.size w w' := by
  have HP := laid (show placeOf (refAll ref).1 = -1 by rw [refAll_eq]; exact placeOf_good hr)
  have HB := laid hb3
  have hlen : (str (bases.data.toList.map gb)).size = bases.size := by rw [str_size]; simp
  have HRI := laid (show rightI k bases.size q st = true by unfold rightI; rw [decide_eq_true (by omega)])
  have hxl := refAll_len ref
  generalize hPP : str (bases.data.toList.map gb) = PP at *
  generalize hXX : str (refAll ref).2 = XX at *
  have hxs : XX.size = (refAll ref).2.length := by rw [← hXX, str_size]
  rw [← hxs] at hxl ⊢
  have HPP := laid hPP
  have HXX := laid hXX
  have HLEN := laid hlen
  clear hr hb3 hlen hPP hXX hxs
  obtain ⟨kq, hkq, hkq2, HKQ⟩ : ∃ kq : Nat, (k : Int) * (q : Int) = (kq : Int) ∧ kq ≤ 48 ∧ Hid (kq = k * q) := ⟨k * q, by rw [Int.natCast_mul], Nat.mul_le_mul hk hq2, laid rfl⟩
  have hkq3 : 0 ≤ (k : Int) * (q : Int) ∧ (k : Int) * (q : Int) ≤ 48 := by omega
  have hpl : PP.size ≤ 30 := by rw [HLEN.out]; omega
  have HT := laid (show (PP.size : Int) - (q : Int) + 1 - (kq : Int) = thr bases.size k q by rw [HLEN.out, HKQ.out]; rfl)
  have hpz : 1 ≤ PP.size := by rw [HLEN.out]; omega
  go_enter Tryz.func56, Tryz.ntmps56
  go_wp2_with fail
  refine (reference_any ref _ (by omega)).mono ?_
  rintro e w1 ⟨rfl, hbel⟩
  rw [HP.out, HXX.out]
  clear HP
  go_wp2_with fail
  refine (great_text bases _ (by omega) HB.out).mono ?_
  rintro e w2 ⟨rfl, rfl⟩
  rw [HPP.out]
  go_wp2_with fail
  refine (right_any _ _ _ _ _).mono ?_
  rintro e w3 ⟨rfl, rfl⟩
  rw [HLEN.out, HRI.out]
  go_wp2
  go_loop [18, 19] (fun o i => ∃ b : Nat, b ≤ stretches XX.size st ∧ i = .int .i64 b ∧ o = .string (str (binsUp PP XX k q st (thr bases.size k q) b))) (fun _ i => XX.size + 1 - (intOf i).toNat)
  case atStart => exact ⟨0, Nat.zero_le _, rfl, rfl⟩
  case round =>
    obtain ⟨b, hb, rfl, rfl⟩ := hrel
    have hsl := stretches_lt XX.size st b hs1
    have hbm : b ≤ 200 := by
      rcases Nat.eq_zero_or_pos b with h0 | h0
      · omega
      · have h5 := (stretches_lt XX.size st (b - 1) hs1).2 (by omega)
        have : b - 1 ≤ (b - 1) * st := Nat.le_mul_of_pos_right _ (by omega)
        omega
    have hlz := binsUp_len PP XX k q st (thr bases.size k q) b (by omega)
    have hoz : (str (binsUp PP XX k q st (thr bases.size k q) b)).size ≤ 1000 := by rw [str_size]; omega
    obtain ⟨m, hmul, HM⟩ : ∃ m : Nat, (b : Int) * (st : Int) = (m : Int) ∧ Hid (m = b * st) := ⟨b * st, by rw [Int.natCast_mul], laid rfl⟩
    by_cases hlt : b < stretches XX.size st
    · have hm1 : m < XX.size := by rw [HM.out]; exact hsl.2 hlt
      have hbx : b < XX.size := by have : b ≤ b * st := Nat.le_mul_of_pos_right _ (by omega); have := HM.out; omega
      have hdz : (str (decL b)).size ≤ 4 := by rw [str_size]; exact (decL_len b (by omega)).2
      have hmb : 0 ≤ (b : Int) * (st : Int) ∧ (b : Int) * (st : Int) ≤ 200 := by omega
      have HN : Hid (∀ E : Nat, E = stTo PP.size XX.size k st b → binsUp PP XX k q st (thr bases.size k q) (b + 1) = if (decide (thr bases.size k q ≤ 0) || decide (thr bases.size k q ≤ (comB PP (XX.extract m E) q : Int))) = true then (if binsUp PP XX k q st (thr bases.size k q) b = [] then decL b else binsUp PP XX k q st (thr bases.size k q) b ++ (44 :: decL b)) else binsUp PP XX k q st (thr bases.size k q) b) := by
        refine laid fun E hE => ?_
        rw [hE, HM.out]; rfl
      have hsE : ∀ E : Nat, (XX.extract m E).size ≤ 1000 := by intro E; rw [ByteArray.size_extract]; omega
      have HSE := laid hsE
      clear hsl hsE hlz
      have HST : Hid (stTo PP.size XX.size k st b = min (m + st + PP.size + k) XX.size) := laid (by unfold stTo; rw [HM.out])
      clear HM
      generalize binsUp PP XX k q st (thr bases.size k q) b = o at *
      by_cases hto : XX.size < m + st + PP.size + k
      · have HE := laid (HN.out XX.size (by rw [HST.out]; omega))
        clear HN HST
        by_cases ht : (PP.size : Int) - (q : Int) + 1 - (kq : Int) ≤ 0
        · have HE2 := laid (show binsUp PP XX k q st (thr bases.size k q) (b + 1) = if o = [] then decL b else o ++ (44 :: decL b) by rw [HE.out, if_pos]; rw [← HT.out]; simp [ht])
          clear HE
          by_cases ho : o = []
          · have hob := (show ((str o).toList.isEmpty) = true by rw [str_empty]; simp [ho])
            have HV := laid (val_str (show str o ++ str (decL b) = str (binsUp PP XX k q st (thr bases.size k q) (b + 1)) by rw [HE2.out, if_pos ho, str_append, ho]; rfl))
            clear ho
            go_wp2_with fail
            refine (decimal_any b _ (by omega)).mono ?_
            rintro e w' ⟨rfl, rfl⟩
            go_wp2
            go_round
            case rel => go_light; exact ⟨b + 1, by omega, by go_num, HV.out⟩
            case measure => go_light; simp [intOf]; omega
          · have hob := (show ((str o).toList.isEmpty) = false by rw [str_empty]; simp [ho])
            have HV := laid (val_str (show str o ++ ⟨#[44]⟩ ++ str (decL b) = str (binsUp PP XX k q st (thr bases.size k q) (b + 1)) by rw [HE2.out, if_neg ho, str_snoc, str_append, List.append_assoc]; rfl))
            clear ho
            go_wp2_with fail
            refine (decimal_any b _ (by omega)).mono ?_
            rintro e w' ⟨rfl, rfl⟩
            go_wp2
            go_round
            case rel => go_light; exact ⟨b + 1, by omega, by go_num, HV.out⟩
            case measure => go_light; simp [intOf]; omega
        · have hcB := comB_small PP (XX.extract m (XX.size)) q (by omega) (HSE.out _)
          have HCB : Hid (thr bases.size k q ≤ (comB PP (XX.extract m (XX.size)) q : Int) ↔ (PP.size : Int) - (q : Int) + 1 - (kq : Int) ≤ (comB PP (XX.extract m (XX.size)) q : Int)) := laid (by rw [HT.out])
          have HTN := laid (show ¬ thr bases.size k q ≤ 0 by rw [← HT.out]; exact ht)
          have HCALL := laid (common_any PP (XX.extract m (XX.size)) q)
          generalize comB PP (XX.extract m (XX.size)) q = C at *
          go_wp2_with fail
          refine (HCALL.out _ (by omega) (HSE.out _) hq1 (by omega)).mono ?_
          rintro e w' ⟨rfl, rfl⟩
          by_cases hc : (PP.size : Int) - (q : Int) + 1 - (kq : Int) ≤ (C : Int)
          · have HE2 := laid (show binsUp PP XX k q st (thr bases.size k q) (b + 1) = if o = [] then decL b else o ++ (44 :: decL b) by rw [HE.out, if_pos]; simp [HCB.out.2 hc])
            clear HE HCB HTN HCALL
            by_cases ho : o = []
            · have hob := (show ((str o).toList.isEmpty) = true by rw [str_empty]; simp [ho])
              have HV := laid (val_str (show str o ++ str (decL b) = str (binsUp PP XX k q st (thr bases.size k q) (b + 1)) by rw [HE2.out, if_pos ho, str_append, ho]; rfl))
              clear ho
              go_wp2_with fail
              refine (decimal_any b _ (by omega)).mono ?_
              rintro e w' ⟨rfl, rfl⟩
              go_wp2
              go_round
              case rel => go_light; exact ⟨b + 1, by omega, by go_num, HV.out⟩
              case measure => go_light; simp [intOf]; omega
            · have hob := (show ((str o).toList.isEmpty) = false by rw [str_empty]; simp [ho])
              have HV := laid (val_str (show str o ++ ⟨#[44]⟩ ++ str (decL b) = str (binsUp PP XX k q st (thr bases.size k q) (b + 1)) by rw [HE2.out, if_neg ho, str_snoc, str_append, List.append_assoc]; rfl))
              clear ho
              go_wp2_with fail
              refine (decimal_any b _ (by omega)).mono ?_
              rintro e w' ⟨rfl, rfl⟩
              go_wp2
              go_round
              case rel => go_light; exact ⟨b + 1, by omega, by go_num, HV.out⟩
              case measure => go_light; simp [intOf]; omega
          · have HE2 := laid (val_str (show str o = str (binsUp PP XX k q st (thr bases.size k q) (b + 1)) by rw [HE.out, if_neg]; simp only [Bool.or_eq_true, decide_eq_true_eq]; rintro (h | h); exact absurd h (by have := HTN.out; omega); exact hc (HCB.out.1 h)))
            clear HE HCB HTN HCALL
            go_wp2
            go_round
            case rel => go_light; exact ⟨b + 1, by omega, by go_num, HE2.out⟩
            case measure => go_light; simp [intOf]; omega
      · have HE := laid (HN.out (m + st + PP.size + k) (by rw [HST.out]; omega))
        clear HN HST
        by_cases ht : (PP.size : Int) - (q : Int) + 1 - (kq : Int) ≤ 0
        · have HE2 := laid (show binsUp PP XX k q st (thr bases.size k q) (b + 1) = if o = [] then decL b else o ++ (44 :: decL b) by rw [HE.out, if_pos]; rw [← HT.out]; simp [ht])
          clear HE
          by_cases ho : o = []
          · have hob := (show ((str o).toList.isEmpty) = true by rw [str_empty]; simp [ho])
            have HV := laid (val_str (show str o ++ str (decL b) = str (binsUp PP XX k q st (thr bases.size k q) (b + 1)) by rw [HE2.out, if_pos ho, str_append, ho]; rfl))
            clear ho
            go_wp2_with fail
            refine (decimal_any b _ (by omega)).mono ?_
            rintro e w' ⟨rfl, rfl⟩
            go_wp2
            go_round
            case rel => go_light; exact ⟨b + 1, by omega, by go_num, HV.out⟩
            case measure => go_light; simp [intOf]; omega
          · have hob := (show ((str o).toList.isEmpty) = false by rw [str_empty]; simp [ho])
            have HV := laid (val_str (show str o ++ ⟨#[44]⟩ ++ str (decL b) = str (binsUp PP XX k q st (thr bases.size k q) (b + 1)) by rw [HE2.out, if_neg ho, str_snoc, str_append, List.append_assoc]; rfl))
            clear ho
            go_wp2_with fail
            refine (decimal_any b _ (by omega)).mono ?_
            rintro e w' ⟨rfl, rfl⟩
            go_wp2
            go_round
            case rel => go_light; exact ⟨b + 1, by omega, by go_num, HV.out⟩
            case measure => go_light; simp [intOf]; omega
        · have hcB := comB_small PP (XX.extract m (m + st + PP.size + k)) q (by omega) (HSE.out _)
          have HCB : Hid (thr bases.size k q ≤ (comB PP (XX.extract m (m + st + PP.size + k)) q : Int) ↔ (PP.size : Int) - (q : Int) + 1 - (kq : Int) ≤ (comB PP (XX.extract m (m + st + PP.size + k)) q : Int)) := laid (by rw [HT.out])
          have HTN := laid (show ¬ thr bases.size k q ≤ 0 by rw [← HT.out]; exact ht)
          have HCALL := laid (common_any PP (XX.extract m (m + st + PP.size + k)) q)
          generalize comB PP (XX.extract m (m + st + PP.size + k)) q = C at *
          go_wp2_with fail
          refine (HCALL.out _ (by omega) (HSE.out _) hq1 (by omega)).mono ?_
          rintro e w' ⟨rfl, rfl⟩
          by_cases hc : (PP.size : Int) - (q : Int) + 1 - (kq : Int) ≤ (C : Int)
          · have HE2 := laid (show binsUp PP XX k q st (thr bases.size k q) (b + 1) = if o = [] then decL b else o ++ (44 :: decL b) by rw [HE.out, if_pos]; simp [HCB.out.2 hc])
            clear HE HCB HTN HCALL
            by_cases ho : o = []
            · have hob := (show ((str o).toList.isEmpty) = true by rw [str_empty]; simp [ho])
              have HV := laid (val_str (show str o ++ str (decL b) = str (binsUp PP XX k q st (thr bases.size k q) (b + 1)) by rw [HE2.out, if_pos ho, str_append, ho]; rfl))
              clear ho
              go_wp2_with fail
              refine (decimal_any b _ (by omega)).mono ?_
              rintro e w' ⟨rfl, rfl⟩
              go_wp2
              go_round
              case rel => go_light; exact ⟨b + 1, by omega, by go_num, HV.out⟩
              case measure => go_light; simp [intOf]; omega
            · have hob := (show ((str o).toList.isEmpty) = false by rw [str_empty]; simp [ho])
              have HV := laid (val_str (show str o ++ ⟨#[44]⟩ ++ str (decL b) = str (binsUp PP XX k q st (thr bases.size k q) (b + 1)) by rw [HE2.out, if_neg ho, str_snoc, str_append, List.append_assoc]; rfl))
              clear ho
              go_wp2_with fail
              refine (decimal_any b _ (by omega)).mono ?_
              rintro e w' ⟨rfl, rfl⟩
              go_wp2
              go_round
              case rel => go_light; exact ⟨b + 1, by omega, by go_num, HV.out⟩
              case measure => go_light; simp [intOf]; omega
          · have HE2 := laid (val_str (show str o = str (binsUp PP XX k q st (thr bases.size k q) (b + 1)) by rw [HE.out, if_neg]; simp only [Bool.or_eq_true, decide_eq_true_eq]; rintro (h | h); exact absurd h (by have := HTN.out; omega); exact hc (HCB.out.1 h)))
            clear HE HCB HTN HCALL
            go_wp2
            go_round
            case rel => go_light; exact ⟨b + 1, by omega, by go_num, HE2.out⟩
            case measure => go_light; simp [intOf]; omega
    · have hm1 : ¬ m < XX.size := by rw [HM.out]; exact fun h => hlt (hsl.1 h)
      have HBE := laid (show b = stretches XX.size st by omega)
      have hmb : 0 ≤ (b : Int) * (st : Int) ∧ (b : Int) * (st : Int) ≤ 40000 := by
        have : b * st ≤ 200 * 200 := Nat.mul_le_mul hbm hs2
        rw [← HM.out] at this
        omega
      clear hsl
      go_wp2
      go_ret2
      exact ⟨ret_str_int (by rw [← HBE.out]), hbel.alloc hbel.size _⟩

/-- the reference's Bins, at all strings and numbers -/
theorem refBins_any (ref bases : ByteArray) (k q step : Int) (w : World) (h1 : ref.size ≤ maxLen) (h2 : bases.size ≤ maxLen) :
    Calls Tryz.prog 56 #[.string ref, .string bases, .int .i64 k, .int .i64 q, .int .i64 step] w fun e w' =>
      e = .returned (.tuple #[.string (binsS ref bases k q step), .int .i64 (binsE ref bases k q step)]) ∧ Below w.heap.size w w' := by
  by_cases ha : 400 < ref.size
  · have e1 : binsS ref bases k q step = ⟨#[]⟩ := if_pos (.inl ha)
    have e2 : binsE ref bases k q step = 1 := if_pos ha
    rw [e1, e2]; exact refBins_bad1 ref bases k q step w h1 ha
  by_cases hr : (sRef ref).2 = true
  · have e1 : binsS ref bases k q step = ⟨#[]⟩ := if_pos (.inr (.inl hr))
    have e2 : binsE ref bases k q step = 2 := by unfold binsE; rw [if_neg ha, if_pos hr]
    rw [e1, e2]; exact refBins_bad2 ref bases k q step w ha hr
  have hr' : (sRef ref).2 = false := by simpa using hr
  by_cases hb : bases.size < 1 ∨ 30 < bases.size ∨ bases.data.toList.all isb = false
  · have e1 : binsS ref bases k q step = ⟨#[]⟩ := if_pos (.inr (.inr (by rcases hb with h | h | h; exact .inl h; exact .inr (.inl h); exact .inr (.inr (.inl h)))))
    have e2 : binsE ref bases k q step = 5 := by unfold binsE; rw [if_neg ha, if_neg hr, if_pos hb]
    rw [e1, e2]; exact refBins_bad5 ref bases k q step w h2 ha hr' hb
  have hb1 : ¬ bases.size < 1 := fun h => hb (.inl h)
  have hb2 : ¬ 30 < bases.size := fun h => hb (.inr (.inl h))
  have hb3 : bases.data.toList.all isb = true := by
    cases hh : bases.data.toList.all isb with
    | true => rfl
    | false => exact absurd (.inr (.inr hh)) hb
  by_cases hi : rightI k bases.size q step = false
  · have e1 : binsS ref bases k q step = ⟨#[]⟩ := if_pos (.inr (.inr (.inr (.inr (.inr hi)))))
    have e2 : binsE ref bases k q step = 4 := by unfold binsE; rw [if_neg ha, if_neg hr, if_neg hb, if_pos hi]
    rw [e1, e2]; exact refBins_bad4 ref bases k q step w ha hr' hb1 hb2 hb3 hi
  have e1 : binsS ref bases k q step = str (binsRaw ref bases k q step) := if_neg (by
    rintro (h | h | h | h | h | h)
    · exact ha h
    · exact hr h
    · exact hb1 h
    · exact hb2 h
    · rw [hb3] at h; exact Bool.noConfusion h
    · exact hi h)
  have e2 : binsE ref bases k q step = 0 := by unfold binsE; rw [if_neg ha, if_neg hr, if_neg hb, if_neg hi]
  have hi2 : 0 ≤ k ∧ k ≤ 6 ∧ k < bases.size ∧ 1 ≤ q ∧ q ≤ 8 ∧ 1 ≤ step ∧ step ≤ 200 := by
    rw [Bool.not_eq_false] at hi
    exact of_decide_eq_true hi
  obtain ⟨kn, rfl⟩ := Int.eq_ofNat_of_zero_le hi2.1
  obtain ⟨qn, rfl⟩ := Int.eq_ofNat_of_zero_le (show 0 ≤ q by omega)
  obtain ⟨sn, rfl⟩ := Int.eq_ofNat_of_zero_le (show 0 ≤ step by omega)
  rw [e1, e2]
  have := refBins_good ref bases kn qn sn w ha hr' hb1 hb2 hb3 (by omega) (by omega) (by omega) (by omega) (by omega) (by omega)
  unfold binsRaw
  simpa only [Int.toNat_natCast] using this
end Go.Proofs.YtdcjnhipenbcfaaGreatDoor
