import Derived.Test.YtdcjnhipenbcfaaGreatDoorExpect
namespace Go.Proofs.YtdcjnhipenbcfaaGreatDoor
open Go.RowKit
set_option linter.unusedVariables false

theorem expect_at (w : World) (b : Nat) (s : ByteArray) (p : Nat) (c : Int) (n : Int) (x : UInt8) (hn : n = (x.toNat : Int)) (h : RD w b s p c) (hs : s.size ≤ 1000) (hp : p ≤ s.size) :
    Calls Tryz.prog 94 #[.pointer (some ⟨b, 0, none⟩), .int .u8 n] w fun e w' => stepPost w b s c (sMust s x p) (.tuple #[]) e w' := by
  subst hn; exact expect_any w b s p c x h hs hp

theorem takePost_step {w : World} {b : Nat} {s : ByteArray} {p : Nat} {c : Int} {f : UInt8 → Bool} {least most : Nat} {e : Ending} {w' : World}
    (h : takePost w b s p c (runLen f (rest s p) most) (least : Int) e w') : stepPost w b s c (sTake s f least most p) (.string (s.extract p (p + runLen f (rest s p) most))) e w' := by
  obtain ⟨h1, h2, h3, h4⟩ := h
  have hcast : ((p + runLen f (rest s p) most : Nat) : Int) = (p : Int) + (runLen f (rest s p) most : Int) := by omega
  unfold sTake
  refine ⟨fun hh => h1 ?_, fun hh => ?_, ?_, h4⟩
  · simp at hh; omega
  · simp at hh
    rw [hcast]; exact h2 (by omega)
  · simp only; rw [hcast]; exact h3

theorem takeBase_step (w : World) (b : Nat) (s : ByteArray) (p : Nat) (c : Int) (l m : Int) (least most : Nat) (hl : l = (least : Int)) (hm : m = (most : Int)) (hl' : least ≤ 1000) (hm' : most ≤ 1000)
    (h : RD w b s p c) (hs : s.size ≤ 1000) (hp : p ≤ s.size) :
    Calls Tryz.prog 70 #[.pointer (some ⟨b, 0, none⟩), .func (.func 71) #[] #[], .int .i64 l, .int .i64 m] w fun e w' =>
      stepPost w b s c (sTake s isb least most p) (.string (s.extract p (p + runLen isb (rest s p) most))) e w' := by
  subst hl hm
  refine (takeBase_any w b s p c least most h hs hp (by omega) (by omega) (by omega) (by omega)).mono ?_
  intro e w' ht
  rw [Int.toNat_natCast] at ht
  exact takePost_step ht
theorem takeName_step (w : World) (b : Nat) (s : ByteArray) (p : Nat) (c : Int) (l m : Int) (least most : Nat) (hl : l = (least : Int)) (hm : m = (most : Int)) (hl' : least ≤ 1000) (hm' : most ≤ 1000)
    (h : RD w b s p c) (hs : s.size ≤ 1000) (hp : p ≤ s.size) :
    Calls Tryz.prog 70 #[.pointer (some ⟨b, 0, none⟩), .func (.func 95) #[] #[], .int .i64 l, .int .i64 m] w fun e w' =>
      stepPost w b s c (sTake s isn least most p) (.string (s.extract p (p + runLen isn (rest s p) most))) e w' := by
  subst hl hm
  refine (takeName_any w b s p c least most h hs hp (by omega) (by omega) (by omega) (by omega)).mono ?_
  intro e w' ht
  rw [Int.toNat_natCast] at ht
  exact takePost_step ht
theorem takeMark_step (w : World) (b : Nat) (s : ByteArray) (p : Nat) (c : Int) (l m : Int) (least most : Nat) (hl : l = (least : Int)) (hm : m = (most : Int)) (hl' : least ≤ 1000) (hm' : most ≤ 1000)
    (h : RD w b s p c) (hs : s.size ≤ 1000) (hp : p ≤ s.size) :
    Calls Tryz.prog 70 #[.pointer (some ⟨b, 0, none⟩), .func (.func 120) #[] #[], .int .i64 l, .int .i64 m] w fun e w' =>
      stepPost w b s c (sTake s ism least most p) (.string (s.extract p (p + runLen ism (rest s p) most))) e w' := by
  subst hl hm
  refine (takeMark_any w b s p c least most h hs hp (by omega) (by omega) (by omega) (by omega)).mono ?_
  intro e w' ht
  rw [Int.toNat_natCast] at ht
  exact takePost_step ht

/-- a step that gives up ends what it is a part of -/
theorem stepPost_stop {w w1 : World} {b : Nat} {s : ByteArray} {c : Int} {st : Nat × Bool} {f : Nat → Nat × Bool} {v : Value} (hst : st.2 = true) (hr : RD w1 b s (st.1 : Int) c) (hg : w.grownBy w1 (some b)) :
    stepPost w b s c (andS st f) v (.panicked (gives c (st.1 : Int))) w1 := by
  rw [andS_bad hst]
  exact ⟨fun h => by rw [hst] at h; exact Bool.noConfusion h, fun _ => rfl, hr, hg⟩
theorem stepPost_end {w w1 w2 : World} {b : Nat} {s : ByteArray} {c : Int} {st : Nat × Bool} {v : Value} {e : Ending} (hg : w.grownBy w1 (some b)) (h : stepPost w1 b s c st v e w2) : stepPost w b s c st v e w2 :=
  ⟨h.1, h.2.1, h.2.2.1, grownBy_trans hg h.2.2.2⟩
theorem stepPost_bad {w w1 : World} {b : Nat} {s : ByteArray} {c : Int} {st : Nat × Bool} {v : Value} (hst : st.2 = true) (hr : RD w1 b s (st.1 : Int) c) (hg : w.grownBy w1 (some b)) :
    stepPost w b s c st v (.panicked (gives c (st.1 : Int))) w1 :=
  ⟨fun h => by rw [hst] at h; exact Bool.noConfusion h, fun _ => rfl, hr, hg⟩
theorem stepPost_good {w w1 : World} {b : Nat} {s : ByteArray} {c : Int} {st : Nat × Bool} {v : Value} (hst : st.2 = false) (hr : RD w1 b s (st.1 : Int) c) (hg : w.grownBy w1 (some b)) :
    stepPost w b s c st v (.returned v) w1 :=
  ⟨fun _ => rfl, fun h => by rw [hst] at h; exact Bool.noConfusion h, hr, hg⟩

/-- a name line -/
def sHead (s : ByteArray) (x : UInt8) (p : Nat) : Nat × Bool := andS (sMust s x p) (sName s)

theorem rest_stop {st R : Nat × Bool} {f : Nat → Nat × Bool} (h : andS st f = R) (hst : st.2 = true) : st = R := by rw [← h, andS_bad hst]
theorem rest_on {st R : Nat × Bool} {f : Nat → Nat × Bool} (h : andS st f = R) (hst : st.2 = false) : f st.1 = R := by rw [← h, andS_ok hst]
theorem stepPost_eq {w w1 : World} {b : Nat} {s : ByteArray} {c : Int} {st R : Nat × Bool} {v : Value} {e : Ending} (hR : st = R) (h : stepPost w b s c st v e w1) : stepPost w b s c R v e w1 := by
  subst hR; exact h

/-- the name that stands at a place -/
def xNm (s : ByteArray) (p : Nat) : ByteArray := s.extract p (p + runLen isn (rest s p) 10)

set_option maxHeartbeats 1000000 in
theorem nameLine_any (w : World) (b : Nat) (s : ByteArray) (p : Nat) (c : Int) (n : Int) (x : UInt8) (hn : n = (x.toNat : Int)) (h : RD w b s p c) (hs : s.size ≤ 1000) (hp : p ≤ s.size) :
    Calls Tryz.prog 62 #[.pointer (some ⟨b, 0, none⟩), .int .u8 n] w fun e w' => stepPost w b s c (sHead s x p) (.string (xNm s (sMust s x p).1)) e w' := by
  have HN := laid hn
  clear hn
  generalize hR : sHead s x p = R
  have HR := laid hR
  clear hR
  generalize hX : xNm s (sMust s x p).1 = X
  have HX := laid (show s.extract (sMust s x p).1 ((sMust s x p).1 + runLen isn (rest s (sMust s x p).1) 10) = X from hX)
  clear hX
  go_enter Tryz.func62, Tryz.ntmps62
  go_wp2_with fail
  refine (expect_at _ _ s p c n x HN.out h hs hp).mono ?_
  rintro e w1 ⟨h1, h2, hr1, hg1⟩
  have hl1 := sMust_le s x p hp
  by_cases hst : (sMust s x p).2 = true
  · obtain rfl := h2 hst
    exact ⟨rfl, stepPost_eq (rest_stop HR.out hst) (stepPost_bad hst hr1 hg1)⟩
  · rw [Bool.not_eq_true] at hst
    obtain rfl := h1 hst
    clear h1 h2
    have HR1 := laid (rest_on HR.out hst)
    generalize (sMust s x p).1 = p1 at *
    clear hst HR
    go_wp2_with fail
    refine (takeName_step _ _ s p1 c _ _ 1 10 rfl rfl (by omega) (by omega) hr1 hs hl1.2).mono ?_
    rintro e w2 ⟨h1, h2, hr2, hg2⟩
    have hg2' := grownBy_trans hg1 hg2
    have hl2 := sTake_le s isn 1 10 p1 hl1.2
    by_cases hst : (sTake s isn 1 10 p1).2 = true
    · obtain rfl := h2 hst
      exact ⟨rfl, stepPost_eq (rest_stop HR1.out hst) (stepPost_bad hst hr2 hg2')⟩
    · rw [Bool.not_eq_true] at hst
      have h1' := h1 hst
      rw [HX.out] at h1'
      obtain rfl := h1'
      clear h1 h2
      have HR2 := laid (rest_on HR1.out hst)
      clear HX
      generalize (sTake s isn 1 10 p1).1 = p2 at *
      clear hst HR1
      go_wp2_with fail
      refine (expect_at _ _ s p2 c _ 10 rfl hr2 hs hl2.2).mono ?_
      rintro e w3 ⟨h1, h2, hr3, hg3⟩
      have hg3' := grownBy_trans hg2' hg3
      by_cases hst : (sMust s 10 p2).2 = true
      · obtain rfl := h2 hst
        exact ⟨rfl, stepPost_eq HR2.out (stepPost_bad hst hr3 hg3')⟩
      · rw [Bool.not_eq_true] at hst
        obtain rfl := h1 hst
        clear h1 h2
        have HF := laid (stepPost_eq (v := .string X) HR2.out (stepPost_good hst hr3 hg3'))
        clear hst
        go_wp2
        go_ret
        exact HF.out

theorem extract_run (s : ByteArray) (f : UInt8 → Bool) (m p : Nat) (hp : p ≤ s.size) : (s.extract p (p + runLen f (rest s p) m)).size = runLen f (rest s p) m := by
  have := (runLen_le f (rest s p) m).2
  rw [rest_len] at this
  rw [ByteArray.size_extract]; omega

/-- the bases of a line -/
def xLine (s : ByteArray) (m p : Nat) : ByteArray := s.extract p (p + nLine s m p)
theorem xLine_size (s : ByteArray) (m p : Nat) (hp : p ≤ s.size) : (xLine s m p).size = nLine s m p := extract_run s isb m p hp

set_option maxHeartbeats 1000000 in
theorem baseLine_any (w : World) (b : Nat) (s : ByteArray) (p : Nat) (c : Int) (n : Int) (m : Nat) (hn : n = (m : Int)) (hm : m ≤ 1000) (h : RD w b s p c) (hs : s.size ≤ 1000) (hp : p ≤ s.size) :
    Calls Tryz.prog 64 #[.pointer (some ⟨b, 0, none⟩), .int .i64 n] w fun e w' => stepPost w b s c (sLine s m p) (.string (xLine s m p)) e w' := by
  have HN := laid hn
  clear hn
  generalize hR : sLine s m p = R
  have HR := laid hR
  clear hR
  generalize hX : xLine s m p = X
  have HX := laid (show s.extract p (p + runLen isb (rest s p) m) = X from hX)
  clear hX
  go_enter Tryz.func64, Tryz.ntmps64
  go_wp2_with fail
  refine (takeBase_step _ _ s p c _ n 1 m rfl HN.out (by omega) hm h hs hp).mono ?_
  rintro e w1 ⟨h1, h2, hr1, hg1⟩
  have hl1 := sTake_le s isb 1 m p hp
  by_cases hst : (sTake s isb 1 m p).2 = true
  · obtain rfl := h2 hst
    exact ⟨rfl, stepPost_eq (rest_stop HR.out hst) (stepPost_bad hst hr1 hg1)⟩
  · rw [Bool.not_eq_true] at hst
    have h1' := h1 hst
    rw [HX.out] at h1'
    obtain rfl := h1'
    clear h1 h2
    have HR1 := laid (rest_on HR.out hst)
    clear HX
    generalize (sTake s isb 1 m p).1 = p1 at *
    clear hst HR
    go_wp2_with fail
    refine (expect_at _ _ s p1 c _ 10 rfl hr1 hs hl1.2).mono ?_
    rintro e w3 ⟨h1, h2, hr3, hg3⟩
    have hg3' := grownBy_trans hg1 hg3
    by_cases hst : (sMust s 10 p1).2 = true
    · obtain rfl := h2 hst
      exact ⟨rfl, stepPost_eq HR1.out (stepPost_bad hst hr3 hg3')⟩
    · rw [Bool.not_eq_true] at hst
      obtain rfl := h1 hst
      clear h1 h2
      have HF := laid (stepPost_eq (v := .string X) HR1.out (stepPost_good hst hr3 hg3'))
      clear hst
      go_wp2
      go_ret
      exact HF.out
end Go.Proofs.YtdcjnhipenbcfaaGreatDoor
