import Derived.Test.YtdcjnhipenbcfaaGreatDoorRefLine
namespace Go.Proofs.YtdcjnhipenbcfaaGreatDoor
open Go.RowKit
set_option linter.unusedVariables false

/-- the great letters of a line -/
def lnL (s : ByteArray) (m p : Nat) : List UInt8 := ((rest s p).take (nLine s m p)).map gb
theorem lnOf_eq (s : ByteArray) (m p : Nat) : lnOf s m p = str (lnL s m p) := by
  unfold lnOf gcut lnL; rw [Nat.add_sub_cancel_left]
theorem lnL_len (s : ByteArray) (m p : Nat) (hp : p ≤ s.size) : (lnL s m p).length = nLine s m p := by
  have h := lnOf_size s m p hp
  rw [lnOf_eq, str_size] at h; exact h

/-- the loop of the reference's answer: lines are read as long as none is bad and there are none yet, or the text goes on -/
def refLoop (s : ByteArray) : Nat → List UInt8 → Nat × Bool → (Nat × Bool) × List UInt8
  | 0, acc, st => (st, acc)
  | f + 1, acc, st => if st.2 = false ∧ (acc = [] ∨ st.1 < s.size) then refLoop s f (acc ++ lnL s (200 - acc.length) st.1) (sLine s (200 - acc.length) st.1) else (st, acc)
/-- all of it: where it ends, and the bases -/
def refAll (s : ByteArray) : (Nat × Bool) × List UInt8 := refLoop s (s.size + 2) [] (andS (sMust s 62 0) (sName s))
/-- the place that is told: -1 where nothing is wrong -/
def placeOf (R : Nat × Bool) : Int := if R.2 = true then (R.1 : Int) else -1
def refName (s : ByteArray) : ByteArray := nmOf s (sMust s 62 0)

/-- block x holds a Read -/
def XR (w : World) (x : Nat) (n b m : ByteArray) : Prop := w.heap[x]? = some (.cells #[.string n, .string b, .string m] 118 (0, 0))
theorem XR.c0 {w : World} {x : Nat} {n b m : ByteArray} (h : XR w x n b m) : w.cell? ⟨x, 0, none⟩ = some (.string n) := by rw [cell_of_row w x 0 _ _ _ h]; rfl
theorem XR.c1 {w : World} {x : Nat} {n b m : ByteArray} (h : XR w x n b m) : w.cell? ⟨x, 1, none⟩ = some (.string b) := by rw [cell_of_row w x 1 _ _ _ h]; rfl
theorem XR.c2 {w : World} {x : Nat} {n b m : ByteArray} (h : XR w x n b m) : w.cell? ⟨x, 2, none⟩ = some (.string m) := by rw [cell_of_row w x 2 _ _ _ h]; rfl
theorem XR.fz {w : World} {x : Nat} {n b m : ByteArray} (h : XR w x n b m) (j : Nat) : w.frozen? ⟨x, j, none⟩ = false := frozen_of_row w x j _ _ h
theorem XR.put0 {w : World} {x : Nat} {n b m : ByteArray} (h : XR w x n b m) (v : ByteArray) : XR (w.setCell ⟨x, 0, none⟩ (.string v)) x v b m := by
  unfold XR at *; rw [heap_setCell_same w x 0 _ _ (.string v) h]; rfl
theorem XR.put1 {w : World} {x : Nat} {n b m : ByteArray} (h : XR w x n b m) (v : ByteArray) : XR (w.setCell ⟨x, 1, none⟩ (.string v)) x n v m := by
  unfold XR at *; rw [heap_setCell_same w x 1 _ _ (.string v) h]; rfl
theorem XR.put2 {w : World} {x : Nat} {n b m : ByteArray} (h : XR w x n b m) (v : ByteArray) : XR (w.setCell ⟨x, 2, none⟩ (.string v)) x n b v := by
  unfold XR at *; rw [heap_setCell_same w x 2 _ _ (.string v) h]; rfl
theorem XR.grown {w w' : World} {x : Nat} {n b m : ByteArray} {r : Nat} (h : XR w x n b m) (hg : w.grownBy w' (some r)) (hne : x ≠ r) : XR w' x n b m := by
  have hx : x < w.heap.size := by have := block_lt_of_cell h.c0; simpa using this
  unfold XR at *; rw [hg.block x hx (by simp; omega)]; exact h
theorem XR.set {w : World} {x : Nat} {n b m : ByteArray} (h : XR w x n b m) {a : Addr} (v : Value) (hne : x ≠ a.block) : XR (w.setCell a v) x n b m := by
  unfold XR at *; rw [heap_setCell_other w a x v hne]; exact h
theorem RF.set {w : World} {b : Nat} {s : ByteArray} {p : Nat} {t : Bool} (h : RF w b s p t) {a : Addr} (v : Value) (hne : b ≠ a.block) : RF (w.setCell a v) b s p t := by
  unfold RF at *; rw [heap_setCell_other w a b v hne]; exact h
/-- how much a reader has before it: nothing, where it is bad -/
def leftN (w : World) (b n : Nat) : Nat := match w.cell? ⟨b, 2, none⟩ with
  | some (.bool true) => 0
  | _ => n - placeN w b + 1
theorem RF.left_bad {w : World} {b : Nat} {s : ByteArray} {p : Nat} (h : RF w b s p true) (n : Nat) : leftN w b n = 0 := by unfold leftN; rw [h.c2]
theorem RF.left_good {w : World} {b : Nat} {s : ByteArray} {p : Nat} (h : RF w b s p false) (n : Nat) : leftN w b n = n - p + 1 := by unfold leftN; rw [h.c2, h.placeN]

/-- what stands in memory while the reference's Reference works: its result's slot, its reader, its record -/
def refMem (w : World) (s : ByteArray) (st : Nat × Bool) (nm bs : ByteArray) (wr : World) : Prop :=
  XR wr w.heap.size ⟨#[]⟩ ⟨#[]⟩ ⟨#[]⟩ ∧ RF wr (w.heap.size + 1) s st.1 st.2 ∧ XR wr (w.heap.size + 1 + 1) nm bs ⟨#[]⟩ ∧ Below w.heap.size w wr
theorem refMem.step {w : World} {s : ByteArray} {st st' : Nat × Bool} {nm bs : ByteArray} {wr w' : World} (h : refMem w s st nm bs wr) (hp : refPost wr (w.heap.size + 1) s st' w') : refMem w s st' nm bs w' := by
  obtain ⟨h1, h2, h3, h4⟩ := h
  obtain ⟨k1, k2⟩ := hp
  exact ⟨h1.grown k2 (by omega), k1, h3.grown k2 (by omega), h4.grown k2 h4.size (by intro k hk; cases hk; omega)⟩
theorem refMem.name {w : World} {s : ByteArray} {st : Nat × Bool} {nm bs : ByteArray} {wr : World} (h : refMem w s st nm bs wr) (v : ByteArray) : refMem w s st v bs (wr.setCell ⟨w.heap.size + 1 + 1, 0, none⟩ (.string v)) := by
  obtain ⟨h1, h2, h3, h4⟩ := h
  exact ⟨h1.set _ (by simp; omega), h2.set _ (by simp), h3.put0 v, h4.setCell (by simp; omega) _⟩
theorem refMem.bases {w : World} {s : ByteArray} {st : Nat × Bool} {nm bs : ByteArray} {wr : World} (h : refMem w s st nm bs wr) (v : ByteArray) : refMem w s st nm v (wr.setCell ⟨w.heap.size + 1 + 1, 1, none⟩ (.string v)) := by
  obtain ⟨h1, h2, h3, h4⟩ := h
  exact ⟨h1.set _ (by simp; omega), h2.set _ (by simp), h3.put1 v, h4.setCell (by simp; omega) _⟩

theorem refLoop_on {s : ByteArray} {f : Nat} {acc : List UInt8} {st : Nat × Bool} {R : (Nat × Bool) × List UInt8} (hf : 0 < f) (hb : st.2 = false) (ha : acc = [] ∨ st.1 < s.size) (h : refLoop s f acc st = R) :
    refLoop s (f - 1) (acc ++ lnL s (200 - acc.length) st.1) (sLine s (200 - acc.length) st.1) = R := by
  cases f with
  | zero => omega
  | succ f => rw [← h]; simp only [refLoop, Nat.add_sub_cancel]; rw [if_pos ⟨hb, ha⟩]
theorem refLoop_off {s : ByteArray} {f : Nat} {acc : List UInt8} {st : Nat × Bool} {R : (Nat × Bool) × List UInt8} (hb : st.2 = true ∨ (acc ≠ [] ∧ s.size ≤ st.1)) (h : refLoop s f acc st = R) : R = (st, acc) := by
  cases f with
  | zero => rw [← h]; rfl
  | succ f =>
    rw [← h]; simp only [refLoop]; rw [if_neg]
    rintro ⟨h1, h2⟩
    rcases hb with hb | ⟨hb1, hb2⟩
    · rw [hb] at h1; exact Bool.noConfusion h1
    · rcases h2 with h2 | h2
      · exact hb1 h2
      · omega

theorem alloc3 (w : World) (A B C : Obj) : (((w.alloc A).alloc B).alloc C).heap[w.heap.size]? = some A ∧ (((w.alloc A).alloc B).alloc C).heap[w.heap.size + 1]? = some B ∧ (((w.alloc A).alloc B).alloc C).heap[w.heap.size + 2]? = some C := by
  have e1 : (w.alloc A).heap.size = w.heap.size + 1 := by simp
  have e2 : ((w.alloc A).alloc B).heap.size = w.heap.size + 2 := by simp
  refine ⟨?_, ?_, ?_⟩
  · rw [Below.heap_alloc _ _ _ (by omega), Below.heap_alloc _ _ _ (by omega)]; exact heap_alloc_new w A
  · rw [Below.heap_alloc _ _ _ (by omega), ← e1]; exact heap_alloc_new _ B
  · rw [← e2]; exact heap_alloc_new _ C
theorem refMem_start (w : World) (s : ByteArray) : refMem w s (0, false) ⟨#[]⟩ ⟨#[]⟩ (((w.alloc (.cells #[.string ⟨#[]⟩, .string ⟨#[]⟩, .string ⟨#[]⟩] 118)).alloc (.cells #[.string s, .int .i64 0, .bool false] 143)).alloc (.cells #[.string ⟨#[]⟩, .string ⟨#[]⟩, .string ⟨#[]⟩] 118)) := by
  obtain ⟨h1, h2, h3⟩ := alloc3 w (.cells #[.string ⟨#[]⟩, .string ⟨#[]⟩, .string ⟨#[]⟩] 118) (.cells #[.string s, .int .i64 0, .bool false] 143) (.cells #[.string ⟨#[]⟩, .string ⟨#[]⟩, .string ⟨#[]⟩] 118)
  exact ⟨h1, h2, h3, (((Below.refl _ _).alloc (Nat.le_refl _) _).alloc (by simp) _).alloc (by simp; omega) _⟩
theorem str_empty (l : List UInt8) : (str l).toList.isEmpty = decide (l = []) := by
  rw [empty_size, str_size]; cases l <;> simp
theorem sLine_le' (s : ByteArray) (m : Nat) (p : Nat) (h : p ≤ s.size) : (sLine s m p).1 ≤ s.size := (sLine_le s m p h).2

theorem left_next {wr : World} {b : Nat} {s : ByteArray} {st st' : Nat × Bool} {n : Nat} (h : RF wr b s st'.1 st'.2) (hmore : st'.2 = false → st'.1 = st.1 + n + 1) (hlt : st'.2 = false → 1 ≤ n ∧ st.1 + n < s.size) : leftN wr b s.size < s.size - st.1 + 1 := by
  obtain ⟨p', b'⟩ := st'
  cases b' with
  | true => have := h.left_bad s.size; simp only at *; omega
  | false =>
    have h1 := h.left_good s.size
    have h2 := hmore rfl
    have h3 := hlt rfl
    simp only at *
    omega

set_option maxHeartbeats 4000000 in
theorem reference_any (s : ByteArray) (w : World) (hs : s.size ≤ 1000) :
    Calls Tryz.prog 80 #[.string s] w fun e w' =>
      e = .returned (.tuple #[.agg #[.string (refName s), .string (str (refAll s).2), .string ⟨#[]⟩], .int .i64 (placeOf (refAll s).1)]) ∧ Below w.heap.size w w' := by
  generalize hR : refAll s = R
  unfold refAll at hR
  generalize hN : refName s = NM
  unfold refName at hN
  have HR := laid hR
  have HN := laid hN
  clear hR hN
  have m0 := refMem_start w s
  go_enter Tryz.func80, Tryz.ntmps80
  go_wp2_with fail
  refine (must_any _ _ s (0, false) _ 62 rfl m0.2.1 hs (by simp)).mono ?_
  rintro e w1 ⟨rfl, hp1⟩
  have m1 := m0.step hp1
  rw [andS_ok rfl] at m1
  have hl1 := (sMust_le s 62 0 (by omega)).2
  clear m0 hp1
  simp only at m1
  generalize sMust s 62 0 = st1 at *
  go_wp2_with fail
  refine (name_any _ _ s st1 m1.2.1 hs hl1).mono ?_
  rintro e w2 ⟨rfl, hp2⟩
  rw [HN.out]
  clear HN
  have m2 := m1.step hp2
  clear m1 hp2
  have hl2 : (andS st1 (sName s)).1 ≤ s.size := (andS_le (p := st1.1) ⟨Nat.le_refl _, hl1⟩ fun q hq => sName_le s q hq).2
  generalize andS st1 (sName s) = st2 at *
  have hc0 := m2.2.2.1.c0
  have hf0 := m2.2.2.1.fz 0
  have m3 := m2.name NM
  go_wp2
  clear hc0 hf0 m2 hl1
  go_loopw [] (fun wr => ∃ (fuel : Nat) (acc : List UInt8) (st : Nat × Bool), acc.length ≤ 200 ∧ st.1 ≤ s.size ∧ refMem w s st NM (str acc) wr ∧ Hid (refLoop s fuel acc st = R ∧ (st.2 = false → s.size - st.1 < fuel))) (fun wr => leftN wr (w.heap.size + 1) s.size)
  case atStart => exact ⟨s.size + 2, [], st2, by simp, hl2, m3, laid ⟨HR.out, fun _ => by omega⟩⟩
  case round =>
    clear m3 hl2 HR
    obtain ⟨fuel, acc, ⟨p, bad⟩, hal, hp, hm, HF⟩ := hrel
    simp only at hp
    have r0 := hm.2.1.c0
    have r1 := hm.2.1.c1
    have r2 := hm.2.1.c2
    have x0 := hm.2.2.1.c0
    have x1 := hm.2.2.1.c1
    have x2 := hm.2.2.1.c2
    have y0 := hm.1.c0
    have y1 := hm.1.c1
    have y2 := hm.1.c2
    have xf := hm.2.2.1.fz 1
    have yf0 := hm.1.fz 0
    have yf1 := hm.1.fz 1
    have yf2 := hm.1.fz 2
    have hbel := hm.2.2.2
    have hsa := str_size acc
    have HSA := laid hsa
    have hsz : (str acc).size ≤ 200 := by omega
    clear hsa
    simp only at r1 r2
    cases bad with
    | true =>
      have hfin := refLoop_off (.inl rfl) HF.out.1
      have HFIN := laid hfin
      clear hfin
      have hXR := ((hm.1.put0 NM).put1 (str acc)).put2 ⟨#[]⟩
      have q0 := hXR.c0
      have q1 := hXR.c1
      have q2 := hXR.c2
      have hbx : Below w.heap.size w (((wr.setCell ⟨w.heap.size, 0, none⟩ (.string NM)).setCell ⟨w.heap.size, 1, none⟩ (.string (str acc))).setCell ⟨w.heap.size, 2, none⟩ (.string ⟨#[]⟩)) := ((hbel.setCell (Nat.le_refl _) _).setCell (Nat.le_refl _) _).setCell (Nat.le_refl _) _
      clear hXR
      go_wp2
      go_region
      all_goals
        go_wp2
        refine bodyPost_ret (v := .tuple #[.agg #[.string NM, .string (str acc), .string ⟨#[]⟩], .int .i64 (p : Int)]) ?_ rfl ?_
        · simp [results, Tryz.results80, go_sem, q0, q1, q2]
        · rw [HFIN.out]
          exact ⟨rfl, hbx.drew⟩
    | false =>
      by_cases hmo : acc = [] ∨ p < s.size
      · have HL := laid (refLoop_on (by have := HF.out.2 rfl; omega) rfl hmo HF.out.1)
        have HFU := laid (HF.out.2 rfl)
        clear HF
        have hg1 : ((str acc).toList.isEmpty = true) ∨ ((str acc).toList.isEmpty = false ∧ p < s.size) := by
          rw [str_empty]
          by_cases ha : acc = []
          · left; simp [ha]
          · right; exact ⟨by simp [ha], hmo.resolve_left ha⟩
        clear hmo
        have hw1 : 0 ≤ (200 : Int) - ((str acc).size : Int) := by omega
        rcases hg1 with hemp | ⟨hemp, hlt⟩
        all_goals
          go_wp2_with fail
          refine (line_good _ _ s p _ (200 - acc.length) (by rw [HSA.out]; omega) (by omega) hm.2.1 hs hp).mono ?_
          rintro e w3 ⟨rfl, hp3⟩
          have m3 := hm.step hp3
          have hle := sLine_le' s (200 - acc.length) p hp
          have hnl := nLine_le s (200 - acc.length) p
          have hln := lnL_len s (200 - acc.length) p hp
          have hlz := laid hln
          have hacc : acc.length + (lnL s (200 - acc.length) p).length ≤ 200 := by omega
          clear hln
          rw [lnOf_eq]
          have hx1 := m3.2.2.1.c1
          have hxf := m3.2.2.1.fz 1
          have hlsz : (str (lnL s (200 - acc.length) p)).size ≤ 200 := by rw [str_size]; omega
          have m4 := m3.bases (str (acc ++ lnL s (200 - acc.length) p))
          rw [← str_append] at m4
          have hold := laid (hm.2.1.left_good s.size)
          have hnew := laid (left_next (st := (p, false)) m4.2.1 (fun hb => (sLine_more s (200 - acc.length) p hb).1) (fun hb => (sLine_more s (200 - acc.length) p hb).2))
          have HST := laid (fun hb => sLine_more s (200 - acc.length) p hb)
          have hfin2 : Hid (∃ (fuel' : Nat) (acc' : List UInt8) (st' : Nat × Bool), acc'.length ≤ 200 ∧ st'.1 ≤ s.size ∧ refMem w s st' NM (str acc') (w3.setCell ⟨w.heap.size + 1 + 1, 1, none⟩ (.string (str acc ++ str (lnL s (200 - acc.length) p)))) ∧ Hid (refLoop s fuel' acc' st' = R ∧ (st'.2 = false → s.size - st'.1 < fuel'))) := by
            refine laid ⟨fuel - 1, acc ++ lnL s (200 - acc.length) p, sLine s (200 - acc.length) p, by simpa using hacc, hle, by rw [← str_append]; exact m4, laid ⟨HL.out, fun hb => ?_⟩⟩
            have := sLine_more s (200 - acc.length) p hb
            have := HFU.out
            simp only at *
            omega
          clear HL HST
          generalize lnL s (200 - acc.length) p = ln at *
          go_wp2
          go_roundw
          case rel => exact hfin2.out
          case measure => go_light; have h1 := hold.out; have h2 := hnew.out; omega
      · have hne : acc ≠ [] := fun h => hmo (.inl h)
        have hge : ¬ p < s.size := fun h => hmo (.inr h)
        have hfin := refLoop_off (.inr ⟨hne, by simp only; omega⟩) HF.out.1
        have HFIN := laid hfin
        have hemp : (str acc).toList.isEmpty = false := by rw [str_empty]; simp [hne]
        clear hfin HF hmo hne
        have hXR := ((hm.1.put0 NM).put1 (str acc)).put2 ⟨#[]⟩
        have q0 := hXR.c0
        have q1 := hXR.c1
        have q2 := hXR.c2
        have hbx : Below w.heap.size w (((wr.setCell ⟨w.heap.size, 0, none⟩ (.string NM)).setCell ⟨w.heap.size, 1, none⟩ (.string (str acc))).setCell ⟨w.heap.size, 2, none⟩ (.string ⟨#[]⟩)) := ((hbel.setCell (Nat.le_refl _) _).setCell (Nat.le_refl _) _).setCell (Nat.le_refl _) _
        clear hXR
        go_wp2
        refine bodyPost_ret (v := .tuple #[.agg #[.string NM, .string (str acc), .string ⟨#[]⟩], .int .i64 (-1)]) ?_ rfl ?_
        · simp [results, Tryz.results80, go_sem, q0, q1, q2]
        · rw [HFIN.out]
          exact ⟨rfl, hbx⟩
end Go.Proofs.YtdcjnhipenbcfaaGreatDoor
