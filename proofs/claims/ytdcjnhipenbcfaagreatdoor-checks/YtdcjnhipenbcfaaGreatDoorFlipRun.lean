import Derived.Test.YtdcjnhipenbcfaaGreatDoorTake
import Derived.Defers
import Derived.Recover
import Derived.Handy
namespace Go.Proofs.YtdcjnhipenbcfaaGreatDoor
open Go.RowKit
set_option linter.unusedVariables false

set_option maxHeartbeats 400000 in
theorem expectEnd_ok (w : World) (b : Nat) (s : ByteArray) (p c : Int) (h : RD w b s p c) (hp : p = (s.size : Int)) :
    Calls Tryz.prog 72 #[.pointer (some ⟨b, 0, none⟩)] w fun e w' => e = .returned (.tuple #[]) ∧ ∃ m, w' = w.drewN m := by
  have hb : (p == (s.size : Int)) = true := by simp [hp]
  have hc := atEnd_any w b s p c h
  rw [hb] at hc
  clear hp hb
  have HC := laid hc
  clear hc
  go_enter Tryz.func72, Tryz.ntmps72
  go_wp2_with (go_at_call 65; refine (HC.out).mono ?_; rintro e w' ⟨rfl, mq, rfl⟩)
  go_end0
  exact ⟨rfl, mq, rfl⟩

set_option maxHeartbeats 400000 in
theorem expectEnd_bad (w : World) (b : Nat) (s : ByteArray) (p c : Int) (h : RD w b s p c) (hp : p ≠ (s.size : Int)) :
    Calls Tryz.prog 72 #[.pointer (some ⟨b, 0, none⟩)] w fun e w' => e = .panicked (gives c p) ∧ ∃ m, w' = w.drewN m := by
  have hb : (p == (s.size : Int)) = false := by simp [hp]
  have hc := atEnd_any w b s p c h
  rw [hb] at hc
  clear hp hb
  have HC := laid hc
  clear hc
  go_enter Tryz.func72, Tryz.ntmps72
  go_wp2_with (first | (go_at_call 65; refine (HC.out).mono ?_; rintro e w' ⟨rfl, mq, rfl⟩) | (go_at_call 69; refine (giveUp_any _ _ _ _ _ (h.drewN _)).mono ?_; rintro e w' ⟨rfl, mq, rfl⟩))
  exact ⟨rfl, rfl, _, rfl⟩

theorem runLen_all (f : UInt8 → Bool) : ∀ (l : List UInt8), l.all f = true → runLen f l l.length = l.length
  | [], _ => by simp [runLen]
  | x :: l, h => by
    simp only [List.all_cons, Bool.and_eq_true] at h
    rw [List.length_cons, runLen_cons, if_pos h.1, runLen_all f l h.2]
theorem runLen_some (f : UInt8 → Bool) : ∀ (l : List UInt8), l.all f = false → runLen f l l.length < l.length
  | [], h => by simp at h
  | x :: l, h => by
    rw [List.length_cons, runLen_cons]
    by_cases hx : f x = true
    · rw [if_pos hx]
      have := runLen_some f l (by simpa [hx] using h)
      omega
    · rw [if_neg hx]; omega
theorem rest_zero (s : ByteArray) : rest s 0 = s.data.toList := by simp [rest]
theorem extract_all (s : ByteArray) : s.extract 0 s.size = s := by
  apply ByteArray.ext
  simp

theorem below_reader {w : World} {o : Obj} {w' : World} (h : (w.alloc o).grownBy w' (some w.heap.size)) : Below w.heap.size w w' :=
  Below.grown ((Below.refl _ _).alloc (Nat.le_refl _) o) h (by simp) (by intro k hk; cases hk; exact Nat.le_refl _)
theorem RD_alloc (w : World) (s : ByteArray) (p c : Int) : RD (w.alloc (.cells #[.string s, .int .i64 p, .int .i64 c] 98)) w.heap.size s p c := heap_alloc_new w _

theorem runLen_mono (f : UInt8 → Bool) : ∀ (l : List UInt8) (a b : Nat), a ≤ b → runLen f l a ≤ runLen f l b
  | [], a, b, _ => by cases a <;> cases b <;> simp [runLen]
  | x :: l, 0, b, _ => by simp [runLen]
  | x :: l, a + 1, 0, h => by omega
  | x :: l, a + 1, b + 1, h => by
    rw [runLen_cons, runLen_cons]
    by_cases hx : f x = true
    · rw [if_pos hx, if_pos hx]
      have := runLen_mono f l a b (by omega)
      omega
    · rw [if_neg hx, if_neg hx]; exact Nat.le_refl _
theorem runLen_cap (f : UInt8 → Bool) (l : List UInt8) (m : Nat) (h : l.length ≤ m) : runLen f l m = runLen f l l.length := by
  induction l generalizing m with
  | nil => cases m <;> simp [runLen]
  | cons x l ih =>
    cases m with
    | zero => simp at h
    | succ m =>
      simp only [List.length_cons] at h ⊢
      rw [runLen_cons, runLen_cons]
      by_cases hx : f x = true
      · rw [if_pos hx, if_pos hx, ih m (by omega)]
      · rw [if_neg hx, if_neg hx]
theorem takeAll_ok (w : World) (b : Nat) (s : ByteArray) (c : Int) (least most : Int) (h : RD w b s 0 c) (hl : 0 ≤ least) (hls : least ≤ (s.size : Int)) (hm : (s.size : Int) ≤ most) (hm' : most ≤ 200) (hb : s.data.toList.all isb = true) :
    Calls Tryz.prog 70 #[.pointer (some ⟨b, 0, none⟩), .func (.func 71) #[] #[], .int .i64 least, .int .i64 most] w fun e w' =>
      e = .returned (.string s) ∧ RD w' b s (s.size : Int) c ∧ w.grownBy w' (some b) := by
  have hr := runLen_all isb _ hb
  rw [len_bytes, ← rest_zero s] at hr
  have hr2 : runLen isb (rest s 0) most.toNat = s.size := by
    have h1 := runLen_le isb (rest s 0) most.toNat
    rw [rest_len] at h1
    have h2 := runLen_mono isb (rest s 0) s.size most.toNat (by omega)
    omega
  refine (takeBase_any w b s 0 c least most h (by omega) (by omega) (by omega) (by omega) (by omega) (by omega)).mono ?_
  rintro e w' ⟨h1, _, h3, h4⟩
  rw [hr2] at h1 h3
  refine ⟨?_, by simpa using h3, h4⟩
  rw [h1 (by omega), Nat.zero_add, extract_all]
/-- where not all are bases: it hands some on and stands ahead of the end, or it gives up -/
theorem takeAll_bad (w : World) (b : Nat) (s : ByteArray) (c : Int) (least most : Int) (h : RD w b s 0 c) (hl : 0 ≤ least) (hls : least ≤ (s.size : Int)) (hm : (s.size : Int) ≤ most) (hm' : most ≤ 200) (hb : s.data.toList.all isb = false) :
    Calls Tryz.prog 70 #[.pointer (some ⟨b, 0, none⟩), .func (.func 71) #[] #[], .int .i64 least, .int .i64 most] w fun e w' =>
      ((∃ x, e = .returned (.string x)) ∨ ∃ p, e = .panicked (gives c p)) ∧ (∃ p, RD w' b s p c ∧ p ≠ (s.size : Int)) ∧ w.grownBy w' (some b) := by
  have hr := runLen_some isb _ hb
  rw [len_bytes, ← rest_zero s] at hr
  have hr2 : runLen isb (rest s 0) most.toNat < s.size := by
    rw [runLen_cap isb (rest s 0) most.toNat (by rw [rest_len]; omega), rest_len]
    exact hr
  refine (takeBase_any w b s 0 c least most h (by omega) (by omega) (by omega) (by omega) (by omega) (by omega)).mono ?_
  rintro e w' ⟨h1, h2, h3, h4⟩
  refine ⟨?_, ⟨_, h3, by omega⟩, h4⟩
  by_cases hle : least ≤ ((runLen isb (rest s 0) most.toNat : Nat) : Int)
  · exact .inl ⟨_, h1 hle⟩
  · exact .inr ⟨_, h2 (by omega)⟩

set_option maxHeartbeats 400000 in
theorem readBases_ok (s : ByteArray) (least most : Int) (w : World) (hl : 0 ≤ least) (hls : least ≤ (s.size : Int)) (hm : (s.size : Int) ≤ most) (hm' : most ≤ 200) (hb : s.data.toList.all isb = true) :
    Calls Tryz.prog 44 #[.string s, .int .i64 least, .int .i64 most] w fun e w' => e = .returned (.string (str (s.data.toList.map gb))) ∧ Below w.heap.size w w' := by
  have HB := laid hb
  clear hb
  have hd1 : decide ((s.size : Int) < least) = false := by simp; omega
  have hd2 : decide (most < (s.size : Int)) = false := by simp; omega
  go_enter Tryz.func44, Tryz.ntmps44
  go_wp2_with fail
  refine (takeAll_ok _ _ s 5 least most (RD_alloc w s 0 5) hl hls hm hm' HB.out).mono ?_
  rintro e w1 ⟨rfl, hrd, hg⟩
  have hbel := below_reader hg
  clear hg
  go_wp2_with fail
  refine (expectEnd_ok _ _ s _ 5 hrd rfl).mono ?_
  rintro e w2 ⟨rfl, mq, rfl⟩
  go_wp2_with fail
  refine (greatLetters_any s _ (by omega)).mono ?_
  rintro e w3 ⟨rfl, hb3⟩
  go_wp2
  go_ret
  exact ⟨rfl, (below_drewN hbel mq).trans (hb3.mono hbel.size)⟩

set_option maxHeartbeats 400000 in
theorem readBases_bad (s : ByteArray) (least most : Int) (w : World) (hl : 0 ≤ least) (hls : least ≤ (s.size : Int)) (hm : (s.size : Int) ≤ most) (hm' : most ≤ 200) (hb : s.data.toList.all isb = false) :
    Calls Tryz.prog 44 #[.string s, .int .i64 least, .int .i64 most] w fun e w' => (∃ p, e = .panicked (gives 5 p)) ∧ Below w.heap.size w w' := by
  have HB := laid hb
  clear hb
  have hd1 : decide ((s.size : Int) < least) = false := by simp; omega
  have hd2 : decide (most < (s.size : Int)) = false := by simp; omega
  go_enter Tryz.func44, Tryz.ntmps44
  go_wp2_with fail
  refine (takeAll_bad _ _ s 5 least most (RD_alloc w s 0 5) hl hls hm hm' HB.out).mono ?_
  rintro e w1 ⟨he, ⟨p, hrd, hne⟩, hg⟩
  have hbel := below_reader hg
  clear hg
  rcases he with ⟨x, rfl⟩ | ⟨p', rfl⟩
  · go_wp2_with fail
    refine (expectEnd_bad _ _ s _ 5 hrd hne).mono ?_
    rintro e w2 ⟨rfl, mq, rfl⟩
    exact ⟨rfl, ⟨p, rfl⟩, below_drewN hbel mq⟩
  · exact ⟨rfl, ⟨p', rfl⟩, hbel⟩

set_option maxHeartbeats 400000 in
/-- too few or too many -/
theorem readBases_size (s : ByteArray) (least most : Int) (w : World) (hs : s.size ≤ maxLen) (hb : (s.size : Int) < least ∨ most < (s.size : Int)) :
    Calls Tryz.prog 44 #[.string s, .int .i64 least, .int .i64 most] w fun e w' => (∃ p, e = .panicked (gives 5 p)) ∧ Below w.heap.size w w' := by
  unfold maxLen at hs
  by_cases h1 : (s.size : Int) < least
  · clear hb
    go_enter Tryz.func44, Tryz.ntmps44
    go_wp2_with fail
    refine (giveUp_any _ _ _ _ _ (RD_alloc w s 0 5)).mono ?_
    rintro e w2 ⟨rfl, mq, rfl⟩
    exact ⟨rfl, ⟨_, rfl⟩, below_drewN ((Below.refl _ _).alloc (Nat.le_refl _) _) mq⟩
  · have h2 : most < (s.size : Int) := by omega
    clear hb
    go_enter Tryz.func44, Tryz.ntmps44
    go_wp2_with fail
    refine (giveUp_any _ _ _ _ _ (RD_alloc w s 0 5)).mono ?_
    rintro e w2 ⟨rfl, mq, rfl⟩
    exact ⟨rfl, ⟨_, rfl⟩, below_drewN ((Below.refl _ _).alloc (Nat.le_refl _) _) mq⟩

/-- a cell and its neighbours of old blocks, behind what leaves the old blocks as they were -/
theorem bcell {W w1 : World} (hb : Below W.heap.size W w1) : (∀ b o, b < W.heap.size → w1.cell? ⟨b, o, none⟩ = W.cell? ⟨b, o, none⟩) ∧ (∀ b o, b < W.heap.size → w1.frozen? ⟨b, o, none⟩ = W.frozen? ⟨b, o, none⟩) :=
  ⟨fun b o h => hb.cell (p := ⟨b, o, none⟩) h, fun b o h => hb.frozen (p := ⟨b, o, none⟩) h⟩

theorem grownBy_of_below {w w' : World} (h : Below w.heap.size w w') (r : Option Nat) : w.grownBy w' r :=
  ⟨h.os, h.tape, h.output, h.size, fun k hk _ => h.block k hk⟩

/-- the closure of Flip, where all are bases: the flip is laid into the variable at block y -/
theorem flipLit_ok (s : ByteArray) (x y : Nat) (v : Value) (w : World) (hs : s.size ≤ 200) (hb : s.data.toList.all isb = true)
    (hx : w.cell? ⟨x, 0, none⟩ = some (.string s)) (hy : w.cell? ⟨y, 0, none⟩ = some v) (hf : w.frozen? ⟨y, 0, none⟩ = false) :
    Calls Tryz.prog 50 #[.pointer (some ⟨x, 0, none⟩), .pointer (some ⟨y, 0, none⟩)] w fun e w' =>
      e = .returned (.tuple #[]) ∧ w'.cell? ⟨y, 0, none⟩ = some (.string (flipS s)) ∧ w.grownBy w' (some y) := by
  have e1 : flipS s = otake (str (s.data.toList.map gb)) 0 := by unfold flipS; rw [if_neg (by omega), if_pos hb]
  rw [e1]
  clear e1
  have HB := laid hb
  clear hb
  have hyb := block_lt_of_cell hy
  simp only at hyb
  go_enter Tryz.func50, Tryz.ntmps50
  go_wp2_with fail
  refine (readBases_ok s 0 200 _ (by omega) (by omega) (by omega) (by omega) HB.out).mono ?_
  rintro e w1 ⟨rfl, hb1⟩
  go_wp2_with fail
  refine (flip_any _ _ (by rw [str_size]; simp; omega)).mono ?_
  rintro e w2 ⟨rfl, hb2⟩
  have hb3 := hb1.trans (hb2.mono hb1.size)
  have hy2 : w2.cell? ⟨y, 0, none⟩ = some v := by rw [(bcell hb3).1 y 0 hyb]; exact hy
  have hf2 : w2.frozen? ⟨y, 0, none⟩ = false := by rw [(bcell hb3).2 y 0 hyb]; exact hf
  go_wp2
  go_end0
  exact ⟨rfl, World.cell?_setCell_same _ _ _ hy2, grownBy_trans (grownBy_of_below hb3 _) (grownBy_put w2 y 0 _)⟩

theorem flipLit_bad (s : ByteArray) (x y : Nat) (w : World) (hs : s.size ≤ 200) (hb : s.data.toList.all isb = false)
    (hx : w.cell? ⟨x, 0, none⟩ = some (.string s)) :
    Calls Tryz.prog 50 #[.pointer (some ⟨x, 0, none⟩), .pointer (some ⟨y, 0, none⟩)] w fun e w' =>
      (∃ p, e = .panicked (gives 5 p)) ∧ Below w.heap.size w w' := by
  have HB := laid hb
  clear hb
  go_enter Tryz.func50, Tryz.ntmps50
  go_wp2_with fail
  refine (readBases_bad s 0 200 _ (by omega) (by omega) (by omega) (by omega) HB.out).mono ?_
  rintro e w1 ⟨⟨p, rfl⟩, hb1⟩
  exact ⟨rfl, ⟨p, rfl⟩, hb1⟩
end Go.Proofs.YtdcjnhipenbcfaaGreatDoor
