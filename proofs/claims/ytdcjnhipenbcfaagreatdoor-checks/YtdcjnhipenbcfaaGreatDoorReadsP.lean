import Derived.Test.YtdcjnhipenbcfaaGreatDoorRefRef
import Derived.Test.YtdcjnhipenbcfaaGreatDoorReadTop
namespace Go.Proofs.YtdcjnhipenbcfaaGreatDoor
open Go.RowKit
set_option linter.unusedVariables false

/-! ### The reads that the reference's answer tells -/
/-- the marks behind a state -/
def mkOf (s : ByteArray) (nb : Nat) (st : Nat × Bool) : ByteArray := if st.2 = true then ⟨#[]⟩ else cut s st.1 (st.1 + runLen ism (rest s st.1) nb)
/-- the states of one read, in order -/
def rs1 (s : ByteArray) (p : Nat) : Nat × Bool := sMust s 64 p
def rs2 (s : ByteArray) (p : Nat) : Nat × Bool := andS (rs1 s p) (sName s)
def rs3 (s : ByteArray) (p : Nat) : Nat × Bool := andS (rs2 s p) (sLine s 30)
def rs4 (s : ByteArray) (p : Nat) : Nat × Bool := andS (rs3 s p) (sMust s 43)
def rs5 (s : ByteArray) (p : Nat) : Nat × Bool := andS (rs4 s p) (sMust s 10)
def rsB (s : ByteArray) (p : Nat) : ByteArray := lnAt s 30 (rs2 s p)
def rs6 (s : ByteArray) (p : Nat) : Nat × Bool := andS (rs5 s p) (sTake s ism (rsB s p).size (rsB s p).size)
def rs7 (s : ByteArray) (p : Nat) : Nat × Bool := andS (rs6 s p) (sMust s 10)
def oneRD (s : ByteArray) (p : Nat) : ByteArray × ByteArray × ByteArray := (nmOf s (rs1 s p), rsB s p, mkOf s (rsB s p).size (rs5 s p))
theorem rs7_eq (s : ByteArray) (p : Nat) (hp : p ≤ s.size) : rs7 s p = sRead s p := by
  rw [sRead_eq]
  unfold rs7 rs6 rs5 rs4 rs3
  by_cases h : (rs2 s p).2 = true
  · have e : sHead s 64 p = rs2 s p := rfl
    rw [e, andS_bad h, andS_bad h]
    simp only [andS_bad h]
  · rw [Bool.not_eq_true] at h
    have e : sHead s 64 p = rs2 s p := rfl
    have hb : rsB s p = lnOf s 30 (rs2 s p).1 := by unfold rsB lnAt; rw [if_neg (by simp [h])]
    have hle : (rs2 s p).1 ≤ s.size := (sHead_le s 64 p hp).2
    have hn : (rsB s p).size = nLine s 30 (rs2 s p).1 := by rw [hb]; exact lnOf_size s 30 _ hle
    rw [e, andS_ok h, andS_ok h, hn]
    simp only [andS_assoc]
/-- the reads, no more than n, from p on -/
def readsList (s : ByteArray) : Nat → Nat → List (ByteArray × ByteArray × ByteArray)
  | 0, _ => []
  | n + 1, p => if s.size ≤ p then [] else oneRD s p :: (if (sRead s p).2 = true then [] else readsList s n (sRead s p).1)
/-- .. as cells -/
def flatR (L : List (ByteArray × ByteArray × ByteArray)) : List Value := L.flatMap fun r => [.string r.1, .string r.2.1, .string r.2.2]
theorem flatR_len (L : List (ByteArray × ByteArray × ByteArray)) : (flatR L).length = L.length * 3 := by
  induction L with
  | nil => rfl
  | cons x l ih => unfold flatR at *; rw [List.flatMap_cons, List.length_append, ih]; simp; omega
theorem flatR_snoc (L : List (ByteArray × ByteArray × ByteArray)) (r : ByteArray × ByteArray × ByteArray) : flatR (L ++ [r]) = flatR L ++ [.string r.1, .string r.2.1, .string r.2.2] := by
  unfold flatR; rw [List.flatMap_append]; simp

/-! ### What the program reads is what the reference reads -/
theorem cut_extract (s : ByteArray) (p q : Nat) : cut s p q = s.extract p q := by
  apply ByteArray.ext
  apply Array.ext'
  simp only [ByteArray.data_extract, Array.toList_extract, List.extract_eq_take_drop]
  rfl
theorem qNm_eq (s : ByteArray) (h : (sMust s 62 0).2 = false) : refName s = xNm s (sMust s 62 0).1 := by
  unfold refName nmOf xNm
  rw [if_neg (by simp [h]), cut_extract]
theorem rdV_eq (s : ByteArray) (p : Nat) (hp : p ≤ s.size) (h : (sRead s p).2 = false) : (pNm s p, pBs s p, pMk s p) = oneRD s p := by
  rw [← rs7_eq s p hp] at h
  obtain ⟨h6, _⟩ := andS_false (show (andS (rs6 s p) (sMust s 10)).2 = false from h)
  obtain ⟨h5, _⟩ := andS_false (show (andS (rs5 s p) (sTake s ism (rsB s p).size (rsB s p).size)).2 = false from h6)
  obtain ⟨h4, _⟩ := andS_false (show (andS (rs4 s p) (sMust s 10)).2 = false from h5)
  obtain ⟨h3, _⟩ := andS_false (show (andS (rs3 s p) (sMust s 43)).2 = false from h4)
  obtain ⟨h2, _⟩ := andS_false (show (andS (rs2 s p) (sLine s 30)).2 = false from h3)
  obtain ⟨h1, _⟩ := andS_false (show (andS (rs1 s p) (sName s)).2 = false from h2)
  have hle : (rs2 s p).1 ≤ s.size := (sHead_le s 64 p hp).2
  have e2 : (sHead s 64 p).1 = (rs2 s p).1 := rfl
  have e3 : (sLine s 30 (rs2 s p).1).1 = (rs3 s p).1 := by unfold rs3; rw [andS_ok h2]
  have e4 : (sMust s 43 (rs3 s p).1).1 = (rs4 s p).1 := by unfold rs4; rw [andS_ok h3]
  have e5 : (sMust s 10 (rs4 s p).1).1 = (rs5 s p).1 := by unfold rs5; rw [andS_ok h4]
  have hb : rsB s p = lnOf s 30 (rs2 s p).1 := by unfold rsB lnAt; rw [if_neg (by simp [h2])]
  have hbs : (rsB s p).size = nLine s 30 (rs2 s p).1 := by rw [hb]; exact lnOf_size s 30 _ hle
  have b1 : pNm s p = nmOf s (rs1 s p) := by
    unfold pNm xNm nmOf; rw [if_neg (by simp [h1]), cut_extract]; rfl
  have b2 : pBs s p = rsB s p := by
    rw [hb]
    unfold pBs lnOf gcut
    rw [e2, show (rs2 s p).1 + nLine s 30 (rs2 s p).1 - (rs2 s p).1 = nLine s 30 (rs2 s p).1 by omega]
    congr 2
    have h2 : nLine s 30 (rs2 s p).1 ≤ s.size - (rs2 s p).1 := by
      have := (runLen_le isb (rest s (rs2 s p).1) 30).2
      rw [rest_len] at this; exact this
    unfold xLine
    simp only [ByteArray.data_extract, Array.toList_extract, rest]
    simp [List.extract_eq_take_drop]
  have b3 : pMk s p = mkOf s (rsB s p).size (rs5 s p) := by
    unfold pMk mkOf pAt
    rw [if_neg (by simp [h5]), cut_extract, e2, e3, e4, e5, hbs]
  unfold oneRD
  rw [b1, b2, b3]
end Go.Proofs.YtdcjnhipenbcfaaGreatDoor
