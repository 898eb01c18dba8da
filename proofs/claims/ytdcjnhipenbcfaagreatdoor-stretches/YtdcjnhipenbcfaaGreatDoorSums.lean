import Derived.Test.YtdcjnhipenbcfaaGreatDoorCounts
namespace Go.Proofs.YtdcjnhipenbcfaaGreatDoor
open Go.RowKit Go.Maps
set_option linter.unusedVariables false

theorem bytes_ext {a b : ByteArray} : a.data.toList = b.data.toList ↔ a = b := ⟨fun h => ByteArray.ext (Array.ext' h), fun h => by rw [h]⟩
/-- how often a run without N stands: counted by the reference's way -/
theorem oft_cnt (r s : ByteArray) (hn : noN r.data.toList = true) : ∀ k, oftUp r s k = cntUp s r.size r.data.toList k
  | 0 => rfl
  | k + 1 => by
    simp only [oftUp, cntUp]
    rw [oft_cnt r s hn k]
    congr 1
    by_cases h : s.extract k (k + r.size) = r
    · rw [if_pos ((eqB_iff _ _).2 h), if_pos ⟨by unfold rnL; rw [h], hn⟩]
    · rw [if_neg (by rw [eqB_iff]; exact h), if_neg (by rintro ⟨e, _⟩; exact h (bytes_ext.1 e))]
theorem oftUp_pos (r s : ByteArray) : ∀ k, 0 < oftUp r s k ↔ ∃ j, j < k ∧ s.extract j (j + r.size) = r
  | 0 => by simp [oftUp]
  | k + 1 => by
    simp only [oftUp]
    have ih := oftUp_pos r s k
    by_cases h : s.extract k (k + r.size) = r
    · rw [if_pos ((eqB_iff _ _).2 h)]
      exact ⟨fun _ => ⟨k, by omega, h⟩, fun _ => by omega⟩
    · rw [if_neg (by rw [eqB_iff]; exact h), Nat.add_zero, ih]
      constructor
      · rintro ⟨j, hj, e⟩; exact ⟨j, by omega, e⟩
      · rintro ⟨j, hj, e⟩
        rcases Nat.lt_or_ge j k with h1 | h1
        · exact ⟨j, h1, e⟩
        · obtain rfl : j = k := by omega
          exact absurd e h
theorem oftN (r : ByteArray) : 0 < oftB ⟨#[78]⟩ r ↔ noN r.data.toList = false := by
  have hsz : (⟨#[78]⟩ : ByteArray).size = 1 := rfl
  unfold oftB
  rw [oftUp_pos, hsz, Nat.add_sub_cancel]
  have key : ∀ j, j < r.size → (r.extract j (j + 1) = ⟨#[78]⟩ ↔ r.data.toList[j]? = some 78) := by
    intro j hj
    rw [← bytes_ext]
    have h1 : (r.extract j (j + 1)).data.toList = (r.data.toList.drop j).take 1 := by
      rw [ByteArray.data_extract, Array.toList_extract]
      simp [List.extract_eq_take_drop]
    have hl : j < r.data.toList.length := by simpa using hj
    rw [h1, List.drop_eq_getElem_cons hl, List.getElem?_eq_getElem hl]
    simp
  unfold noN
  constructor
  · rintro ⟨j, hj, e⟩
    have := (key j hj).1 e
    simp only [Bool.not_eq_false', List.contains_iff_mem]
    exact List.mem_of_getElem? this
  · intro h
    simp only [Bool.not_eq_false', List.contains_iff_mem] at h
    obtain ⟨j, hj, e⟩ := List.getElem_of_mem h
    exact ⟨j, by simpa using hj, (key j (by simpa using hj)).2 (by rw [List.getElem?_eq_getElem hj, e])⟩

theorem extract_extract0 (p : ByteArray) (n j q : Nat) (h : j + q ≤ n) : (p.extract 0 n).extract j (j + q) = p.extract j (j + q) := by
  rw [← bytes_ext]
  simp only [ByteArray.data_extract, Array.toList_extract, List.extract_eq_take_drop, Nat.sub_zero, List.drop_zero]
  rw [List.drop_take, List.take_take]
  congr 1
  omega
theorem cnt_cut (p : ByteArray) (q n : Nat) (x : List UInt8) : ∀ k, k + q ≤ n + 1 → cntUp (p.extract 0 n) q x k = cntUp p q x k
  | 0, _ => rfl
  | k + 1, h => by
    simp only [cntUp]
    rw [cnt_cut p q n x k (by omega)]
    unfold rnL
    rw [extract_extract0 p n k q (by omega)]
theorem run_size (p : ByteArray) (q k : Nat) (h : k + q ≤ p.size) : (p.extract k (k + q)).size = q := by rw [ByteArray.size_extract]; omega

def shareF (P S : ByteArray) (q : Nat) (x : List UInt8) : Nat := min (cntB P q x) (cntB S q x)
theorem comT_eq (P S : ByteArray) (q k : Nat) (hq : 1 ≤ q) (h : k + q ≤ P.size) :
    comT P S q k = if cntUp P q (rnL P q k) k = 0 ∧ noN (rnL P q k) = true then shareF P S q (rnL P q k) else 0 := by
  have hsz := run_size P q k h
  unfold comT
  by_cases hn : noN (rnL P q k) = true
  · have hN : ¬ 0 < oftB ⟨#[78]⟩ (P.extract k (k + q)) := by rw [oftN]; show ¬ noN (rnL P q k) = false; rw [hn]; exact Bool.noConfusion
    have hA : oftB (P.extract k (k + q)) (P.extract 0 (k + q - 1)) = cntUp P q (rnL P q k) k := by
      unfold oftB
      rw [oft_cnt _ _ hn, hsz, ByteArray.size_extract, show min (k + q - 1) P.size - 0 + 1 - q = k by omega]
      exact cnt_cut P q (k + q - 1) _ k (by omega)
    have hB : oftB (P.extract k (k + q)) P = cntB P q (rnL P q k) := by
      unfold oftB; rw [oft_cnt _ _ hn, hsz]; rfl
    have hC : oftB (P.extract k (k + q)) S = cntB S q (rnL P q k) := by
      unfold oftB; rw [oft_cnt _ _ hn, hsz]; rfl
    rw [hA, hB, hC]
    by_cases h0 : cntUp P q (rnL P q k) k = 0
    · rw [if_neg (by omega), if_pos ⟨h0, hn⟩]; rfl
    · rw [if_pos (.inl (by omega)), if_neg (fun e => h0 e.1)]
  · have hN : 0 < oftB ⟨#[78]⟩ (P.extract k (k + q)) := by rw [oftN]; show noN (rnL P q k) = false; simpa using hn
    rw [if_pos (.inr hN), if_neg (fun e => hn e.2)]

/-- the different runs at places below k, each once -/
def firsts (P : ByteArray) (q : Nat) : Nat → List (List UInt8)
  | 0 => []
  | k + 1 => if cntUp P q (rnL P q k) k = 0 ∧ noN (rnL P q k) = true then firsts P q k ++ [rnL P q k] else firsts P q k
theorem mem_firsts (P : ByteArray) (q : Nat) (x : List UInt8) : ∀ k, x ∈ firsts P q k ↔ 0 < cntUp P q x k
  | 0 => by simp [firsts, cntUp]
  | k + 1 => by
    have ih := mem_firsts P q x k
    simp only [firsts, cntUp]
    by_cases h : cntUp P q (rnL P q k) k = 0 ∧ noN (rnL P q k) = true
    · rw [if_pos h, List.mem_append, List.mem_singleton, ih]
      by_cases hx : rnL P q k = x
      · rw [if_pos ⟨hx, hx ▸ h.2⟩]; exact ⟨fun _ => by omega, fun _ => .inr hx.symm⟩
      · rw [if_neg (fun e => hx e.1)]
        exact ⟨fun e => e.elim (fun e => by omega) (fun e => absurd e.symm hx), fun e => .inl (by omega)⟩
    · rw [if_neg h, ih]
      by_cases hx : rnL P q k = x ∧ noN x = true
      · have h0 : ¬ cntUp P q x k = 0 := fun e => h (by rw [hx.1]; exact ⟨e, hx.2⟩)
        rw [if_pos hx]; omega
      · rw [if_neg hx]; omega
theorem nodup_firsts (P : ByteArray) (q : Nat) : ∀ k, (firsts P q k).Nodup
  | 0 => List.nodup_nil
  | k + 1 => by
    simp only [firsts]
    split
    · rename_i h
      refine List.nodup_append.2 ⟨nodup_firsts P q k, by simp, ?_⟩
      intro a ha b hb e
      rw [List.mem_singleton] at hb
      subst hb; subst e
      have := (mem_firsts P q _ k).1 ha
      omega
    · exact nodup_firsts P q k
def sumL (f : List UInt8 → Nat) (l : List (List UInt8)) : Nat := (l.map f).sum
theorem sumL_snoc (f : List UInt8 → Nat) (l : List (List UInt8)) (x : List UInt8) : sumL f (l ++ [x]) = sumL f l + f x := by simp [sumL]
theorem sumL_perm (f : List UInt8 → Nat) {l l' : List (List UInt8)} (h : l.Perm l') : sumL f l = sumL f l' := (h.map f).sum_nat
theorem comUp_eq (P S : ByteArray) (q : Nat) (hq : 1 ≤ q) : ∀ k, k + q ≤ P.size + 1 → comUp P S q k = sumL (shareF P S q) (firsts P q k)
  | 0, _ => rfl
  | k + 1, h => by
    simp only [comUp, firsts]
    rw [comUp_eq P S q hq k (by omega), comT_eq P S q k hq (by omega)]
    split
    · rw [sumL_snoc]
    · rw [Nat.add_zero]
/-- THE SUM OVER A LIST OF THE DIFFERENT RUNS IS THE DOCUMENT's -/
theorem sum_common (P S : ByteArray) (q : Nat) (hq : 1 ≤ q) (ss : List (List UInt8)) (hnd : ss.Nodup) (hm : ∀ x, x ∈ ss ↔ 0 < cntB P q x) : sumL (shareF P S q) ss = comB P S q := by
  unfold comB
  by_cases h : q ≤ P.size + 1
  · rw [comUp_eq P S q hq _ (by omega)]
    exact sumL_perm _ ((List.perm_ext_iff_of_nodup hnd (nodup_firsts P q _)).2 fun x => (hm x).trans (mem_firsts P q x _).symm)
  · have e : P.size + 1 - q = 0 := by omega
    rw [e]
    have : ss = [] := by
      cases ss with
      | nil => rfl
      | cons a l =>
        have := (hm a).1 (by simp)
        unfold cntB at this
        rw [e] at this
        simp [cntUp] at this
    rw [this]; rfl
theorem sumL_le (P S : ByteArray) (q : Nat) : ∀ (l : List (List UInt8)), sumL (shareF P S q) l ≤ l.length * (S.size + 1)
  | [] => by simp [sumL]
  | x :: l => by
    have ih := sumL_le P S q l
    have h1 : shareF P S q x ≤ S.size + 1 := Nat.le_trans (Nat.min_le_right _ _) (cntB_le S q x)
    have e : sumL (shareF P S q) (x :: l) = shareF P S q x + sumL (shareF P S q) l := by simp [sumL]
    rw [e, List.length_cons, Nat.succ_mul]; omega
end Go.Proofs.YtdcjnhipenbcfaaGreatDoor
