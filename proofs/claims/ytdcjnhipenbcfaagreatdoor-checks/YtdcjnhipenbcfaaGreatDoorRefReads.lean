import Derived.Test.YtdcjnhipenbcfaaGreatDoorRefRef
import Derived.Test.YtdcjnhipenbcfaaGreatDoorReadAll
import Derived.Test.YtdcjnhipenbcfaaGreatDoorReadsP
namespace Go.Proofs.YtdcjnhipenbcfaaGreatDoor
open Go.RowKit
set_option linter.unusedVariables false

/-! ### What stands in memory -/
def readMem (w : World) (s : ByteArray) (st : Nat × Bool) (v : Value) (L : List (ByteArray × ByteArray × ByteArray)) (wr : World) : Prop :=
  RF wr w.heap.size s st.1 st.2 ∧ Below w.heap.size w wr ∧ wr.ownsRow (w.heap.size + 1) 118 3 v L.length (flatR L)
theorem own_ne {wr : World} {b : Nat} {e : TypeId} {k : Nat} {v : Value} {n : Nat} {xs : List Value} (h : wr.ownsRow b e k v n xs) (r : Nat) (hr : r < b ∨ wr.heap.size ≤ r) : v.ownBlock = none ∨ v.ownBlock ≠ some r := by
  cases hb : v.ownBlock with
  | none => exact .inl rfl
  | some g =>
    right
    have := h.lt g hb
    intro hh; cases hh; omega
theorem readMem.step {w : World} {s : ByteArray} {st st' : Nat × Bool} {v : Value} {L : List (ByteArray × ByteArray × ByteArray)} {wr w' : World} (h : readMem w s st v L wr) (hp : refPost wr w.heap.size s st' w') : readMem w s st' v L w' := by
  obtain ⟨h1, h2, h3⟩ := h
  obtain ⟨k1, k2⟩ := hp
  exact ⟨k1, h2.grown k2 h2.size (by intro k hk; cases hk; omega), h3.kept k2 (own_ne h3 _ (.inl (by omega)))⟩
/-- .. with a record at block x, which is younger than the list -/
def recMem (w : World) (s : ByteArray) (x : Nat) (st : Nat × Bool) (v : Value) (L : List (ByteArray × ByteArray × ByteArray)) (n b m : ByteArray) (wr : World) : Prop :=
  readMem w s st v L wr ∧ XR wr x n b m ∧ w.heap.size < x ∧ (v.ownBlock = none ∨ v.ownBlock ≠ some x)
theorem recMem.step {w : World} {s : ByteArray} {x : Nat} {st st' : Nat × Bool} {v : Value} {L : List (ByteArray × ByteArray × ByteArray)} {n b m : ByteArray} {wr w' : World} (h : recMem w s x st v L n b m wr) (hp : refPost wr w.heap.size s st' w') : recMem w s x st' v L n b m w' :=
  ⟨h.1.step hp, h.2.1.grown hp.2 (by have := h.2.2.1; omega), h.2.2.1, h.2.2.2⟩
theorem readMem.set {w : World} {s : ByteArray} {x : Nat} {st : Nat × Bool} {v : Value} {L : List (ByteArray × ByteArray × ByteArray)} {wr : World} (h : readMem w s st v L wr) (hx : w.heap.size < x) (ho : v.ownBlock = none ∨ v.ownBlock ≠ some x) (j : Nat) (u : Value) : readMem w s st v L (wr.setCell ⟨x, j, none⟩ u) :=
  ⟨h.1.set _ (by simp; omega), h.2.1.setCell (by simp; omega) _, h.2.2.kept (grownBy_put wr x j u) ho⟩
theorem recMem.put0 {w : World} {s : ByteArray} {x : Nat} {st : Nat × Bool} {v : Value} {L : List (ByteArray × ByteArray × ByteArray)} {n b m : ByteArray} {wr : World} (h : recMem w s x st v L n b m wr) (u : ByteArray) : recMem w s x st v L u b m (wr.setCell ⟨x, 0, none⟩ (.string u)) :=
  ⟨h.1.set h.2.2.1 h.2.2.2 _ _, h.2.1.put0 u, h.2.2⟩
theorem recMem.put1 {w : World} {s : ByteArray} {x : Nat} {st : Nat × Bool} {v : Value} {L : List (ByteArray × ByteArray × ByteArray)} {n b m : ByteArray} {wr : World} (h : recMem w s x st v L n b m wr) (u : ByteArray) : recMem w s x st v L n u m (wr.setCell ⟨x, 1, none⟩ (.string u)) :=
  ⟨h.1.set h.2.2.1 h.2.2.2 _ _, h.2.1.put1 u, h.2.2⟩
theorem recMem.put2 {w : World} {s : ByteArray} {x : Nat} {st : Nat × Bool} {v : Value} {L : List (ByteArray × ByteArray × ByteArray)} {n b m : ByteArray} {wr : World} (h : recMem w s x st v L n b m wr) (u : ByteArray) : recMem w s x st v L n b u (wr.setCell ⟨x, 2, none⟩ (.string u)) :=
  ⟨h.1.set h.2.2.1 h.2.2.2 _ _, h.2.1.put2 u, h.2.2⟩
theorem recMem.drewN {w : World} {s : ByteArray} {x : Nat} {st : Nat × Bool} {v : Value} {L : List (ByteArray × ByteArray × ByteArray)} {n b m : ByteArray} {wr : World} (h : recMem w s x st v L n b m wr) (k : Nat) : recMem w s x st v L n b m (wr.drewN k) :=
  ⟨⟨h.1.1, below_drewN h.1.2.1 k, h.1.2.2⟩, h.2⟩
theorem readMem.newRec {w : World} {s : ByteArray} {st : Nat × Bool} {v : Value} {L : List (ByteArray × ByteArray × ByteArray)} {wr : World} (h : readMem w s st v L wr) :
    recMem w s wr.heap.size st v L ⟨#[]⟩ ⟨#[]⟩ ⟨#[]⟩ (wr.alloc (.cells #[.string ⟨#[]⟩, .string ⟨#[]⟩, .string ⟨#[]⟩] 118)) := by
  obtain ⟨h1, h2, h3⟩ := h
  have hb : w.heap.size < wr.heap.size := by have := block_lt_of_cell h1.c0; simpa using this
  refine ⟨⟨?_, h2.alloc h2.size _, h3.alloc _⟩, heap_alloc_new wr _, hb, own_ne h3 _ (.inr (Nat.le_refl _))⟩
  unfold RF at *
  rw [Below.heap_alloc _ _ _ hb]; exact h1

/-! ### The marks of a read -/
def marksRel (s : ByteArray) (nb : Nat) (st : Nat × Bool) (q : Nat) (bd : Bool) (mk : ByteArray) : Prop :=
  (st.2 = true ∧ (q, bd) = st ∧ mk = ⟨#[]⟩) ∨
  (st.2 = false ∧ st.1 ≤ q ∧ q ≤ st.1 + runLen ism (rest s st.1) nb ∧ mk = cut s st.1 q ∧ (bd = true → q = st.1 + runLen ism (rest s st.1) nb ∧ runLen ism (rest s st.1) nb < nb))
theorem marks_start (s : ByteArray) (nb : Nat) (st : Nat × Bool) : marksRel s nb st st.1 st.2 ⟨#[]⟩ := by
  obtain ⟨p, b⟩ := st
  cases b with
  | true => exact .inl ⟨rfl, rfl, rfl⟩
  | false => exact .inr ⟨rfl, Nat.le_refl _, by simp only; omega, by unfold cut; simp only; rw [Nat.sub_self]; rfl, fun h => Bool.noConfusion h⟩
theorem marks_size {s : ByteArray} {nb : Nat} {st : Nat × Bool} {q : Nat} {bd : Bool} {mk : ByteArray} (h : marksRel s nb st q bd mk) (hp : st.1 ≤ s.size) : mk.size ≤ nb ∧ q ≤ s.size := by
  rcases h with ⟨_, h2, rfl⟩ | ⟨_, h2, h3, rfl, _⟩
  · rw [← h2] at hp; exact ⟨Nat.zero_le _, hp⟩
  · have := runLen_le ism (rest s st.1) nb
    rw [rest_len] at this
    rw [cut_size _ _ _ (by omega)]; omega
theorem marks_done {s : ByteArray} {nb : Nat} {st : Nat × Bool} {q : Nat} {bd : Bool} {mk : ByteArray} (h : marksRel s nb st q bd mk) (hp : st.1 ≤ s.size) (hd : bd = true ∨ ¬ mk.size < nb) :
    (q, bd) = andS st (sTake s ism nb nb) ∧ mk = mkOf s nb st := by
  rcases h with ⟨h1, h2, rfl⟩ | ⟨h1, h2, h3, rfl, h5⟩
  · rw [andS_bad h1]; exact ⟨h2, by unfold mkOf; rw [if_pos h1]⟩
  · have hr := runLen_le ism (rest s st.1) nb
    rw [rest_len] at hr
    have hq : q = st.1 + runLen ism (rest s st.1) nb ∧ (bd = true ↔ runLen ism (rest s st.1) nb < nb) := by
      rcases hd with hd | hd
      · exact ⟨(h5 hd).1, fun _ => (h5 hd).2, fun _ => hd⟩
      · rw [cut_size _ _ _ (by omega)] at hd
        refine ⟨by omega, fun hb => (h5 hb).2, fun hb => ?_⟩
        omega
    rw [andS_ok h1]
    refine ⟨?_, by unfold mkOf; rw [if_neg (by simp [h1]), ← hq.1]⟩
    unfold sTake
    rw [← hq.1]
    congr 1
    cases bd with
    | true => rw [decide_eq_true (hq.2.1 rfl)]
    | false => rw [decide_eq_false (fun hb => by have := hq.2.2 hb; exact Bool.noConfusion this)]
theorem marks_bad {s : ByteArray} {nb : Nat} {st : Nat × Bool} {q : Nat} {mk : ByteArray} (h : marksRel s nb st q false mk) (hp : st.1 ≤ s.size) (hlt : mk.size < nb) (hb : ∀ hq : q < s.size, ism s[q] = false) : marksRel s nb st q true mk := by
  rcases h with ⟨h1, h2, rfl⟩ | ⟨h1, h2, h3, rfl, h5⟩
  · rw [← h2] at h1; exact Bool.noConfusion h1
  · have hr := runLen_le ism (rest s st.1) nb
    rw [rest_len] at hr
    rw [cut_size _ _ _ (by omega)] at hlt
    have hq : runLen ism (rest s st.1) nb = q - st.1 := by
      by_cases hqs : q < s.size
      · exact runLen_stop ism (rest s st.1) nb (q - st.1) (by rw [rest_len]; omega) (by omega) (by rw [rest_at' s st.1 q h2 hqs]; exact hb hqs)
      · omega
    exact .inr ⟨h1, h2, h3, rfl, fun _ => ⟨by omega, by omega⟩⟩
theorem marks_more {s : ByteArray} {nb : Nat} {st : Nat × Bool} {q : Nat} {mk : ByteArray} (h : marksRel s nb st q false mk) (hp : st.1 ≤ s.size) (hlt : mk.size < nb) (hq : q < s.size) (hb : ism s[q] = true) :
    marksRel s nb st (q + 1) false (mk ++ ⟨#[s[q]]⟩) := by
  rcases h with ⟨h1, h2, rfl⟩ | ⟨h1, h2, h3, rfl, h5⟩
  · rw [← h2] at h1; exact Bool.noConfusion h1
  · rw [cut_size _ _ _ (by omega)] at hlt
    have := runLen_more ism (rest s st.1) nb (q - st.1) (by rw [rest_len]; omega) (by omega) (by omega) (by rw [rest_at' s st.1 q h2 hq]; exact hb)
    refine .inr ⟨h1, by omega, by omega, ?_, fun h => Bool.noConfusion h⟩
    have e := cut_snoc s st.1 q h2 hq
    rwa [extract_one s q hq] at e
end Go.Proofs.YtdcjnhipenbcfaaGreatDoor
