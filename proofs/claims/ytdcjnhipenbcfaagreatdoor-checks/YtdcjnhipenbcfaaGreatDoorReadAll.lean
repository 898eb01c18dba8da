import Derived.Test.YtdcjnhipenbcfaaGreatDoorReadTop
import Derived.Test.YtdcjnhipenbcfaaGreatDoorFlipRun
import Derived.Test.YtdcjnhipenbcfaaGreatDoorBuild
import Derived.Test.YtdcjnhipenbcfaaGreatDoorRefRef
import Derived.Test.YtdcjnhipenbcfaaGreatDoorReadsP
namespace Go.Proofs.YtdcjnhipenbcfaaGreatDoor
open Go.RowKit
set_option linter.unusedVariables false

theorem sLines_step {s : ByteArray} {fuel n p : Nat} {R : Nat × Bool} (hf : s.size - p < fuel) (hp : p < s.size) (h : sLines s fuel n p = R) :
    andS (sLine s (200 - n) p) (sLines s (fuel - 1) (n + nLine s (200 - n) p)) = R := by
  cases fuel with
  | zero => omega
  | succ f => rw [← h]; simp only [sLines, Nat.add_sub_cancel]; rw [if_neg (by omega)]
theorem sLines_end {s : ByteArray} {fuel n p : Nat} {R : Nat × Bool} (hf : s.size - p < fuel) (hp : s.size ≤ p) (h : sLines s fuel n p = R) : R = (p, false) := by
  cases fuel with
  | zero => omega
  | succ f => rw [← h]; simp only [sLines]; rw [if_pos hp]
theorem sRef_eq (s : ByteArray) : sRef s = andS (sHead s 62 0) fun p => andS (sLine s 200 p) (sLines s (s.size + 1) (nLine s 200 p)) := by
  unfold sRef sHead; rw [andS_assoc]

theorem below_two {w w' : World} {o o' : Obj} {r : Nat} (h : ((w.alloc o).alloc o').grownBy w' (some r)) (hr : w.heap.size ≤ r) : Below w.heap.size w w' :=
  (((Below.refl _ _).alloc (Nat.le_refl _) _).alloc (by simp) _).grown h (by simp; omega) (by intro k hk; cases hk; exact hr)
theorem fromAlloc' {w w' : World} {o o' : Obj} {r : Nat} (h : ((w.alloc o).alloc o').grownBy w' (some r)) : (w.alloc o).grownBy w' (some r) := fromAlloc h
/-- how a reader of a whole text ends -/
def readPost (w : World) (c : Int) (R : Nat × Bool) (e : Ending) (w' : World) : Prop :=
  (R.2 = false → e = .returned (.tuple #[])) ∧ (R.2 = true → e = .panicked (gives c (R.1 : Int))) ∧ Below w.heap.size w w'
theorem readPost_bad {w w1 : World} {o : Obj} {c : Int} {st R : Nat × Bool} (hR : st = R) (hst : st.2 = true) (hg : (w.alloc o).grownBy w1 (some w.heap.size)) : readPost w c R (.panicked (gives c (st.1 : Int))) w1 := by
  subst hR; exact ⟨fun h => by rw [hst] at h; exact Bool.noConfusion h, fun _ => rfl, below_reader hg⟩
theorem readPost_good {w w1 : World} {o : Obj} {c : Int} {R : Nat × Bool} (hR : R.2 = false) (hg : (w.alloc o).grownBy w1 (some w.heap.size)) : readPost w c R (.returned (.tuple #[])) w1 :=
  ⟨fun _ => rfl, fun h => by rw [hR] at h; exact Bool.noConfusion h, below_reader hg⟩

theorem refLoop_bad (s : ByteArray) (f : Nat) (acc : List UInt8) (st : Nat × Bool) (h : st.2 = true) : refLoop s f acc st = (st, acc) := refLoop_off (.inl h) rfl
theorem refLoop_lines (s : ByteArray) : ∀ (f : Nat) (acc : List UInt8) (p : Nat), acc ≠ [] → p ≤ s.size → (refLoop s f acc (p, false)).1 = sLines s f acc.length p
  | 0, acc, p, _, _ => rfl
  | f + 1, acc, p, ha, hp => by
    by_cases h : p < s.size
    · have h1 := refLoop_on (s := s) (f := f + 1) (acc := acc) (st := (p, false)) (by omega) rfl (.inr h) rfl
      rw [← h1, Nat.add_sub_cancel]
      simp only [sLines]
      rw [if_neg (by omega)]
      by_cases hb : (sLine s (200 - acc.length) p).2 = true
      · rw [refLoop_bad _ _ _ _ hb, andS_bad hb]
      · rw [Bool.not_eq_true] at hb
        rw [andS_ok hb]
        have hle := (sLine_le s (200 - acc.length) p hp).2
        have hlen : (acc ++ lnL s (200 - acc.length) p).length = acc.length + nLine s (200 - acc.length) p := by rw [List.length_append, lnL_len s _ p hp]
        rw [← hlen]
        have e : sLine s (200 - acc.length) p = ((sLine s (200 - acc.length) p).1, false) := by rw [← hb]
        rw [e]
        exact refLoop_lines s f _ _ (by simp [ha]) hle
    · rw [refLoop_off (.inr ⟨ha, by simp only; omega⟩) rfl]
      simp only [sLines]
      rw [if_pos (by omega)]
theorem refAll_eq (s : ByteArray) : (refAll s).1 = sRef s := by
  unfold refAll
  rw [sRef_eq]
  have e : andS (sMust s 62 0) (sName s) = sHead s 62 0 := rfl
  rw [e]
  by_cases hb : (sHead s 62 0).2 = true
  · rw [refLoop_bad _ _ _ _ hb, andS_bad hb]
  · rw [Bool.not_eq_true] at hb
    rw [andS_ok hb]
    have hle := (sHead_le s 62 0 (by omega)).2
    generalize sHead s 62 0 = st at *
    obtain ⟨p, b⟩ := st
    simp only at hb
    subst hb
    have h1 := refLoop_on (s := s) (f := s.size + 2) (acc := []) (st := (p, false)) (by omega) rfl (.inl rfl) rfl
    rw [← h1]
    simp only [List.nil_append, List.length_nil, Nat.sub_zero] at *
    by_cases hb : (sLine s 200 p).2 = true
    · rw [refLoop_bad _ _ _ _ hb, andS_bad hb]
    · rw [Bool.not_eq_true] at hb
      rw [andS_ok hb]
      have hm := sLine_more s 200 p hb
      have hlen := lnL_len s 200 p hle
      have e2 : sLine s 200 p = ((sLine s 200 p).1, false) := by rw [← hb]
      rw [e2, ← hlen]
      refine refLoop_lines s _ _ _ ?_ (sLine_le s 200 p hle).2
      intro h; rw [h] at hlen; simp at hlen; omega
theorem placeOf_bad {R : Nat × Bool} (h : R.2 = true) : placeOf R = (R.1 : Int) := if_pos h
theorem placeOf_good {R : Nat × Bool} (h : R.2 = false) : placeOf R = -1 := if_neg (by simp [h])

/-! ### a builder beside a reader -/
abbrev BLD (B : Nat) (acc : List UInt8) (w : World) : Prop := Lib.IsBuilder 102 5 B B (Lib.byteCells acc) w
theorem bldAt_kept {p : Value} {B r : Nat} {bs : List Value} {w w' : World} (h : Lib.BuilderAt 102 5 B B p bs w) (hg : w.grownBy w' (some r)) (hr : r < B) : Lib.BuilderAt 102 5 B B p bs w' := by
  obtain ⟨hB, v, hb, hown, hne⟩ := h
  have hlt : B < w.heap.size := Lib.BuilderAt.lt ⟨hB, v, hb, hown, hne⟩
  refine ⟨hB, v, ?_, hown.kept hg (.inr ?_), hne⟩
  · rw [hg.block B hlt (by intro e; cases e; omega)]; exact hb
  · intro e
    have := (hown.lt r e).1
    omega
theorem BLD.kept {B r : Nat} {acc : List UInt8} {w w' : World} (h : BLD B acc w) (hg : w.grownBy w' (some r)) (hr : r < B) : BLD B acc w' :=
  h.imp (fun h => bldAt_kept h hg hr) (fun h => bldAt_kept h hg hr)
theorem BLD.drewN {B : Nat} {acc : List UInt8} {w : World} (h : BLD B acc w) (m : Nat) : BLD B acc (w.drewN m) := h
theorem BLD.lt {B : Nat} {acc : List UInt8} {w : World} (h : BLD B acc w) : B < w.heap.size := by
  rcases h with h | h <;> exact h.lt
theorem BLD.new (w : World) : BLD w.heap.size [] (w.alloc (.cells #[.pointer none, .slice none 0 0] 102)) := Lib.fresh_isBuilder 102 5 w
theorem bldLen (B : Nat) (acc : List UInt8) (w : World) (h : BLD B acc w) :
    Calls Tryz.prog 66 #[.pointer (some ⟨B, 0, none⟩)] w fun e w' => e = .returned (.int .i64 (acc.length : Int)) ∧ w' = w := by
  have := Tryz.Builder_Len B B _ w h
  rwa [show (Lib.byteCells acc).length = acc.length by simp [Lib.byteCells]] at this
theorem bldString (B : Nat) (acc : List UInt8) (w : World) (h : BLD B acc w) :
    Calls Tryz.prog 68 #[.pointer (some ⟨B, 0, none⟩)] w fun e w' => e = .returned (.string (str acc)) ∧ Below B w w' := Tryz.Builder_String_any B B acc w h (by have := h.lt; omega)
theorem cells_app (acc : List UInt8) (x : ByteArray) : Lib.byteCells acc ++ Lib.strCells x = Lib.byteCells (acc ++ x.data.toList) := by
  simp [Lib.byteCells, Lib.strCells]
theorem bldWrite (B : Nat) (acc : List UInt8) (x : ByteArray) (w : World) (h : BLD B acc w) (hl : acc.length + x.size ≤ 1000000) :
    Calls Tryz.prog 63 #[.pointer (some ⟨B, 0, none⟩), .string x] w fun e w' => e = .returned (.tuple #[.int .i64 (x.size : Int), .nilIface]) ∧ BLD B (acc ++ x.data.toList) w' ∧ Below B w w' := by
  refine (writeString_any B B _ x w h (by simp [Lib.byteCells]; omega) (by have := h.lt; omega)).mono ?_
  rintro e w' ⟨he, h1, h2⟩
  rw [cells_app] at h1
  exact ⟨he, h1, h2⟩

/-- how the reader of a reference ends -/
def rdPost (NM : ByteArray) (w : World) (R : (Nat × Bool) × List UInt8) (e : Ending) (w' : World) : Prop :=
  (R.1.2 = false → e = .returned (.agg #[.string NM, .string (str R.2)])) ∧ (R.1.2 = true → e = .panicked (gives 2 (R.1.1 : Int))) ∧ Below w.heap.size w w'
theorem rdPost_bad {NM : ByteArray} {w w1 : World} {st : Nat × Bool} {l : List UInt8} {R : (Nat × Bool) × List UInt8} (hR : R = (st, l)) (hst : st.2 = true) (hb : Below w.heap.size w w1) : rdPost NM w R (.panicked (gives 2 (st.1 : Int))) w1 := by
  subst hR; exact ⟨fun h => by rw [hst] at h; exact Bool.noConfusion h, fun _ => rfl, hb⟩
theorem rdPost_good {NM : ByteArray} {w w1 : World} {l : List UInt8} {p : Nat} {R : (Nat × Bool) × List UInt8} (hR : R = ((p, false), l)) (hb : Below w.heap.size w w1) : rdPost NM w R (.returned (.agg #[.string NM, .string (str l)])) w1 := by
  subst hR; exact ⟨fun _ => rfl, fun h => Bool.noConfusion h, hb⟩
theorem xLine_gb (s : ByteArray) (m p : Nat) (hp : p ≤ s.size) : (xLine s m p).data.toList.map gb = lnL s m p := by
  have hl := xLine_size s m p hp
  unfold lnL xLine
  congr 1
  have h2 : nLine s m p ≤ s.size - p := by
    have := (runLen_le isb (rest s p) m).2
    rw [rest_len] at this; exact this
  simp only [ByteArray.data_extract, Array.toList_extract, rest]
  simp [List.extract_eq_take_drop]

theorem str_list (l : List UInt8) : (str l).data.toList = l := by simp [str]
/-- the name of a reference, as the program reads it -/
def qNm (s : ByteArray) : ByteArray := xNm s (sMust s 62 0).1

theorem block_new_kept {w w' : World} {o o' : Obj} {r : Nat} (hg : ((w.alloc o).alloc o').grownBy w' (some r)) (hr : r ≠ w.heap.size) : w'.heap[w.heap.size]? = some o := by
  rw [hg.block w.heap.size (by simp; omega) (by simpa using fun h => hr h.symm), heap_alloc_old _ _ (by simp), heap_alloc_new]

set_option maxHeartbeats 2000000 in
set_option maxRecDepth 100000 in
theorem readReference_any (s : ByteArray) (w : World) (hs : s.size ≤ 1000) :
    Calls Tryz.prog 43 #[.string s] w fun e w' => rdPost (qNm s) w (refAll s) e w' := by
  generalize hR : refAll s = R
  have HR := laid (show refLoop s (s.size + 2) [] (sHead s 62 0) = R from hR)
  clear hR
  generalize hM : qNm s = NM
  have HM := laid (show xNm s (sMust s 62 0).1 = NM from hM)
  clear hM
  go_enter Tryz.func43, Tryz.ntmps43
  go_wp2_with fail
  have hrd0 := RD_alloc (w.alloc (.cells #[.string ⟨#[]⟩, .string ⟨#[]⟩] 68)) s 0 2
  have hsz0 : (w.alloc (.cells #[.string ⟨#[]⟩, .string ⟨#[]⟩] 68)).heap.size = w.heap.size + 1 := by simp
  rw [hsz0] at hrd0
  refine (nameLine_any _ _ s 0 2 _ 62 rfl hrd0 hs (by omega)).mono ?_
  rw [HM.out]
  clear HM
  rintro e w1 ⟨h1, h2, hr1, hg1⟩
  have hl1 := sHead_le s 62 0 (by omega)
  have hres1 := block_new_kept hg1 (by omega)
  have hb1 : Below w.heap.size w w1 := below_two hg1 (by omega)
  clear hg1 hrd0 hsz0
  generalize hQ : w.heap.size + 1 = Q at *
  by_cases hst : (sHead s 62 0).2 = true
  · obtain rfl := h2 hst
    exact ⟨rfl, rdPost_bad (refLoop_off (.inl hst) HR.out) hst hb1⟩
  · rw [Bool.not_eq_true] at hst
    obtain rfl := h1 hst
    clear h1 h2
    have HR1 := laid (refLoop_on (by omega) hst (.inl rfl) HR.out)
    generalize (sHead s 62 0).1 = p1 at *
    clear hst HR
    have hlt := hr1.lt
    go_wp2_with fail
    refine (baseLine_any _ _ s p1 2 _ 200 rfl (by omega) (hr1.alloc _) hs hl1.2).mono ?_
    rintro e w2 ⟨h1, h2, hr2, hg2⟩
    have hB2 := (BLD.new w1).kept hg2 hlt
    have hres2 := hg2.block w.heap.size (by simp; omega) (by simp; omega)
    rw [heap_alloc_old _ _ (by omega), hres1] at hres2
    have hb2 : Below w.heap.size w w2 := (hb1.alloc hb1.size _).grown hg2 (by simp; have := hb1.size; omega) (by intro k hk; cases hk; omega)
    clear hg2 hr1 hb1 hres1
    have hl2 := sLine_le s 200 p1 hl1.2
    by_cases hst : (sLine s 200 p1).2 = true
    · obtain rfl := h2 hst
      exact ⟨rfl, rdPost_bad (refLoop_off (.inl hst) HR1.out) hst hb2⟩
    · rw [Bool.not_eq_true] at hst
      obtain rfl := h1 hst
      clear h1 h2
      have hmore := sLine_more s 200 p1 hst
      have hnl := nLine_le s 200 p1
      have hx1 := xLine_size s 200 p1 hl1.2
      have hx2 := xLine_gb s 200 p1 hl1.2
      have HR2 : Hid (s.size - (sLine s 200 p1).1 < s.size + 1 ∧ refLoop s (s.size + 1) ((xLine s 200 p1).data.toList.map gb) ((sLine s 200 p1).1, false) = R) := laid ⟨by omega, by
        have := HR1.out
        rw [show s.size + 2 - 1 = s.size + 1 by omega] at this
        rw [hx2, ← hst]
        exact this⟩
      clear HR1 hx2
      have hxs : 1 ≤ (xLine s 200 p1).size ∧ (xLine s 200 p1).size ≤ 200 := by omega
      generalize xLine s 200 p1 = X at *
      generalize (sLine s 200 p1).1 = p2 at *
      clear hst hmore hnl hx1 hl1
      generalize w1.heap.size = B at *
      go_wp2_with fail
      refine (bldWrite B [] X _ hB2 (by simp; omega)).mono ?_
      rintro e w3 ⟨rfl, hB3, hbe⟩
      have hr3 := hr2.below hbe hlt
      have hres3 := hbe.block w.heap.size (by omega)
      rw [hres2] at hres3
      have hb3 : Below w.heap.size w w3 := hb2.trans (hbe.mono (by omega))
      clear hbe hr2 hb2 hB2 hres2
      rw [List.nil_append] at hB3
      go_wp2
      go_loopw [] (fun wr => ∃ (acc : List UInt8) (p fuel : Nat), 1 ≤ acc.length ∧ acc.length ≤ 200 ∧ p ≤ s.size ∧ RD wr Q s p 2 ∧ BLD B acc wr ∧ wr.heap[w.heap.size]? = some (.cells #[.string ⟨#[]⟩, .string ⟨#[]⟩] 68) ∧ Below w.heap.size w wr ∧ Hid (s.size - p < fuel ∧ refLoop s fuel (acc.map gb) (p, false) = R)) (fun wr => s.size - placeN wr Q)
      case atStart => exact ⟨X.data.toList, p2, s.size + 1, by simp; omega, by simp; omega, hl2.2, hr3, hB3, hres3, hb3, HR2⟩
      case round =>
        obtain ⟨acc, p, fuel, ha1, ha2, hp, hrd, hbd, hres, hbel, HF⟩ := hrel
        clear HR2 hr3 hB3 hb3 hl2 hxs hres3
        by_cases hend : p < s.size
        · have HL := laid (refLoop_on (by have := HF.out.1; omega) rfl (.inr hend) HF.out.2)
          go_wp2_with fail
          refine (atEnd_no _ _ s p 2 hrd hend).mono ?_
          rintro e w4 ⟨rfl, mq, rfl⟩
          go_wp2_with fail
          refine (bldLen B acc _ (hbd.drewN mq)).mono ?_
          rintro e w4 ⟨rfl, rfl⟩
          go_wp2_with fail
          refine (baseLine_any _ _ s p 2 _ (200 - acc.length) (by omega) (by omega) (hrd.drewN mq) hs hp).mono ?_
          rintro e w4 ⟨h1, h2, hr4, hg4⟩
          have hB4 := (hbd.drewN mq).kept hg4 hlt
          have hres4 := hg4.block w.heap.size (by have := hrd.lt; simp; omega) (by simp; omega)
          have hb4 : Below w.heap.size w w4 := (below_drewN hbel mq).grown hg4 (by have := hbel.size; simpa using this) (by intro k hk; cases hk; omega)
          have hl4 := sLine_le s (200 - acc.length) p hp
          have HL' := HL.out
          rw [List.length_map] at HL'
          by_cases hst : (sLine s (200 - acc.length) p).2 = true
          · obtain rfl := h2 hst
            exact ⟨rfl, rdPost_bad (refLoop_off (.inl hst) HL') hst hb4⟩
          · rw [Bool.not_eq_true] at hst
            obtain rfl := h1 hst
            clear h1 h2 hg4
            have hres4' : w4.heap[w.heap.size]? = some (.cells #[.string ⟨#[]⟩, .string ⟨#[]⟩] 68) := hres4.trans hres
            clear hres4
            have hmore := sLine_more s (200 - acc.length) p hst
            have hnl := nLine_le s (200 - acc.length) p
            have hx1 := xLine_size s (200 - acc.length) p hp
            have hx2 := xLine_gb s (200 - acc.length) p hp
            have HL1 : Hid (s.size - (sLine s (200 - acc.length) p).1 < fuel - 1 ∧ refLoop s (fuel - 1) ((acc ++ (xLine s (200 - acc.length) p).data.toList).map gb) ((sLine s (200 - acc.length) p).1, false) = R) := laid ⟨by have := HF.out.1; omega, by
              rw [List.map_append, hx2, ← hst]
              exact HL'⟩
            clear HL HL' HF hx2
            have hxs : (xLine s (200 - acc.length) p).size + acc.length ≤ 200 := by omega
            have hpm : p < (sLine s (200 - acc.length) p).1 := by omega
            have hpl := laid hrd.placeN
            have hpl4 := laid hr4.placeN
            generalize xLine s (200 - acc.length) p = X at *
            generalize (sLine s (200 - acc.length) p).1 = p4 at *
            clear hst hmore hnl hx1
            go_wp2_with fail
            refine (bldWrite B acc X _ hB4 (by omega)).mono ?_
            rintro e w5 ⟨rfl, hB5, hbe⟩
            have hr5 := hr4.below hbe hlt
            have hres5 := hbe.block w.heap.size (by omega)
            rw [hres4'] at hres5
            have hb5 : Below w.heap.size w w5 := hb4.trans (hbe.mono (by omega))
            have hpl5 := laid hr5.placeN
            clear hbe hr4 hb4 hB4 hres4'
            go_wp2
            go_roundw
            case rel => go_light; exact ⟨acc ++ X.data.toList, p4, fuel - 1, by simp; omega, by simp; omega, hl4.2, hr5, hB5, hres5, hb5, HL1⟩
            case measure => go_light; rw [hpl.out, hpl5.out]; omega
        · have hpe : s.size = p := by omega
          have HPE := laid hpe
          have hfin := refLoop_off (.inr ⟨by intro h; have h0 := congrArg List.length h; rw [List.length_map, List.length_nil] at h0; omega, by simp only; omega⟩) HF.out.2
          have HFIN := laid hfin
          clear hfin hpe HF
          go_wp2_with fail
          refine (atEnd_yes _ _ s p 2 hrd HPE.out).mono ?_
          rintro e w4 ⟨rfl, mq, rfl⟩
          go_wp2_with fail
          refine (bldString B acc _ (hbd.drewN mq)).mono ?_
          rintro e w5 ⟨rfl, hbe⟩
          go_wp2_with fail
          refine (greatLetters_any (str acc) _ (by rw [str_size]; omega)).mono ?_
          rintro e w6 ⟨rfl, hb6⟩
          have hb5 : Below w.heap.size w w5 := (below_drewN hbel mq).trans (hbe.mono (by omega))
          have hb7 : Below w.heap.size w w6 := hb5.trans (hb6.mono hb5.size)
          have hres6 : w6.heap[w.heap.size]? = some (.cells #[.string ⟨#[]⟩, .string ⟨#[]⟩] 68) := by
            have hw5 := hbe.size
            have hrl := hrd.lt
            simp at hw5
            rw [hb6.block w.heap.size (by omega), hbe.block w.heap.size (by omega)]; exact hres
          have n0 : w6.cell? ⟨w.heap.size, 0, none⟩ = some (.string ⟨#[]⟩) := by rw [cell_of_row _ _ _ _ _ _ hres6]; rfl
          have n1 : w6.cell? ⟨w.heap.size, 1, none⟩ = some (.string ⟨#[]⟩) := by rw [cell_of_row _ _ _ _ _ _ hres6]; rfl
          have z0 : w6.frozen? ⟨w.heap.size, 0, none⟩ = false := frozen_of_row _ _ _ _ _ hres6
          have z1 : w6.frozen? ⟨w.heap.size, 1, none⟩ = false := frozen_of_row _ _ _ _ _ hres6
          have hlast : str ((str acc).data.toList.map gb) = str (acc.map gb) := by rw [str_list]
          rw [hlast]
          generalize hACC : acc.map gb = ACC at *
          obtain ⟨m0, m1, hg8⟩ := met_put (.string NM) (.string (str ACC)) n0 n1
          have hb8 : Below w.heap.size w ((w6.setCell ⟨w.heap.size, 0, none⟩ (.string NM)).setCell ⟨w.heap.size, 1, none⟩ (.string (str ACC))) := hb7.grown hg8 hb7.size (by intro k hk; cases hk; exact Nat.le_refl _)
          have HG := laid (rdPost_good (NM := NM) HFIN.out hb8)
          clear hACC hlast hres6 hg8
          go_wp2
          generalize (w6.setCell ⟨w.heap.size, 0, none⟩ (.string NM)).setCell ⟨w.heap.size, 1, none⟩ (.string (str ACC)) = w8 at *
          refine bodyPost_ret (v := .agg #[.string NM, .string (str ACC)]) ?_ rfl HG.out
          simp [results, Tryz.results43, go_sem, m0, m1]

theorem readReference_s (s : ByteArray) (w : World) (hs : s.size ≤ 1000) :
    Calls Tryz.prog 43 #[.string s] w fun e w' => ((sRef s).2 = false → e = .returned (.agg #[.string (qNm s), .string (str (refAll s).2)])) ∧ ((sRef s).2 = true → e = .panicked (gives 2 ((sRef s).1 : Int))) ∧ Below w.heap.size w w' := by
  have := readReference_any s w hs
  unfold rdPost at this
  rwa [refAll_eq] at this

theorem sReads_step {s : ByteArray} {k p : Nat} {R : Nat × Bool} (hk : k < 5) (hp : p < s.size) (h : sReads s (5 - k) p = R) : andS (sRead s p) (sReads s (5 - (k + 1))) = R := by
  rw [← h, show 5 - k = (5 - (k + 1)) + 1 by omega]; simp only [sReads]; rw [if_neg (by omega)]
theorem sReads_end {s : ByteArray} {k p : Nat} {R : Nat × Bool} (hp : s.size = p) (h : sReads s (5 - k) p = R) : R = (p, false) := by
  rw [← h]
  generalize 5 - k = m
  cases m with
  | zero => simp only [sReads]; rw [decide_eq_false (by omega)]
  | succ m => simp only [sReads]; rw [if_pos (by omega)]
theorem sReads_full {s : ByteArray} {p : Nat} {R : Nat × Bool} (hp : p < s.size) (h : sReads s (5 - 5) p = R) : (p, true) = R := by
  rw [← h]; simp only [sReads, Nat.sub_self]; rw [decide_eq_true hp]
theorem sRead_more (s : ByteArray) (p : Nat) (h : (sRead s p).2 = false) (hp : p ≤ s.size) : p < (sRead s p).1 := by
  unfold sRead at *
  obtain ⟨h1, h2⟩ := andS_false h
  rw [andS_ok h1]
  have hm := sMust_more s 64 p h1
  have hl : (sMust s 64 p).1 ≤ s.size := by omega
  have := andS_le (sName_le s _ hl) fun q hq => andS_le (sLine_le s 30 q hq) fun q1 hq1 => andS_le (sMust_le s 43 q1 hq1) fun q2 hq2 => andS_le (sMust_le s 10 q2 hq2) fun q3 hq3 => andS_le (sTake_le s ism (nLine s 30 q) (nLine s 30 q) q3 hq3) fun q4 hq4 => sMust_le s 10 q4 hq4
  omega

theorem infoRd : (Tryz.prog.info? 131).map (fun i => (i.zero, i.size, i.bytes)) = some (some (.agg #[.string ⟨#[]⟩, .string ⟨#[]⟩, .string ⟨#[]⟩]), 3, 48) := by kernel_rfl
/-- how readReads ends -/
def rdsPost (w : World) (R : Nat × Bool) (LR : List (ByteArray × ByteArray × ByteArray)) (e : Ending) (w' : World) : Prop :=
  (R.2 = false → ∃ V, e = .returned V ∧ w'.ownsRow (w.heap.size + 1) 131 3 V LR.length (flatR LR)) ∧ (R.2 = true → e = .panicked (gives 3 (R.1 : Int))) ∧ Below w.heap.size w w'
theorem rdsPost_bad {w w1 : World} {st R : Nat × Bool} {LR : List (ByteArray × ByteArray × ByteArray)} (hR : st = R) (hst : st.2 = true) (hb : Below w.heap.size w w1) : rdsPost w R LR (.panicked (gives 3 (st.1 : Int))) w1 := by
  subst hR; exact ⟨fun h => by rw [hst] at h; exact Bool.noConfusion h, fun _ => rfl, hb⟩
theorem rdsPost_good {w w1 : World} {R : Nat × Bool} {L LR : List (ByteArray × ByteArray × ByteArray)} {V : Value} (hR : R.2 = false) (hL : L = LR) (ho : w1.ownsRow (w.heap.size + 1) 131 3 V L.length (flatR L)) (hb : Below w.heap.size w w1) : rdsPost w R LR (.returned V) w1 := by
  subst hL
  exact ⟨fun _ => ⟨V, rfl, ho⟩, fun h => by rw [hR] at h; exact Bool.noConfusion h, hb⟩
theorem rdsList_step {s : ByteArray} {k p : Nat} {L LR : List (ByteArray × ByteArray × ByteArray)} (hk : k < 5) (hp : p < s.size) (hst : (sRead s p).2 = false) (h : L ++ readsList s (5 - k) p = LR) : (L ++ [(pNm s p, pBs s p, pMk s p)]) ++ readsList s (5 - (k + 1)) (sRead s p).1 = LR := by
  rw [← h, show 5 - k = (5 - (k + 1)) + 1 by omega]
  simp only [readsList]
  rw [if_neg (by omega), if_neg (by simp [hst]), rdV_eq s p (by omega) hst, List.append_assoc]
  rfl
theorem rdsList_end {s : ByteArray} {k p : Nat} {L LR : List (ByteArray × ByteArray × ByteArray)} (hp : s.size ≤ p) (h : L ++ readsList s k p = LR) : L = LR := by
  rw [← h]
  cases k with
  | zero => simp [readsList]
  | succ k => simp only [readsList]; rw [if_pos hp, List.append_nil]
theorem row_ne {wr : World} {b : Nat} {e : TypeId} {k : Nat} {v : Value} {n : Nat} {xs : List Value} (h : wr.ownsRow b e k v n xs) (r : Nat) (hr : r < b ∨ wr.heap.size ≤ r) : v.ownBlock = none ∨ v.ownBlock ≠ some r := by
  cases hb : v.ownBlock with
  | none => exact .inl rfl
  | some g =>
    right
    have := h.lt g hb
    intro hh; cases hh; omega

theorem row_base3 {w : World} {B B' : Nat} {e : TypeId} {k : Nat} {v : Value} {n : Nat} {xs : List Value} (h : w.ownsRow B e k v n xs) (hB : B' ≤ B) : w.ownsRow B' e k v n xs := by
  refine ⟨h.1, ?_⟩
  rcases h.2 with h' | ⟨g, cap, cur, h1, h2, h3⟩
  · exact .inl h'
  · exact .inr ⟨g, cap, cur, h1, by omega, h3⟩

set_option maxHeartbeats 2000000 in
set_option maxRecDepth 100000 in
theorem readReads_any (s : ByteArray) (w : World) (hs : s.size ≤ 1000) :
    Calls Tryz.prog 90 #[.string s] w fun e w' => rdsPost w (sReads s 5 0) (readsList s 5 0) e w' := by
  obtain ⟨i0, hi, hz, hsi, hby⟩ := info_parts infoRd
  generalize hR : sReads s 5 0 = R
  have HR := laid hR
  clear hR
  generalize hLR : readsList s 5 0 = LR
  have HLR := laid (show [] ++ readsList s 5 0 = LR from hLR)
  clear hLR
  go_enter Tryz.func90, Tryz.ntmps90
  go_wp2
  go_loopw [4] (fun v wr => ∃ (L : List (ByteArray × ByteArray × ByteArray)) (p : Nat), L.length ≤ 5 ∧ p ≤ s.size ∧ RD wr w.heap.size s p 3 ∧ wr.ownsRow (w.heap.size + 1) 131 3 v L.length (flatR L) ∧ Below w.heap.size w wr ∧ Hid (sReads s (5 - L.length) p = R) ∧ Hid (L ++ readsList s (5 - L.length) p = LR)) (fun _ wr => s.size - placeN wr w.heap.size)
  case atStart => exact ⟨[], 0, by simp, by omega, RD_alloc w s 0 3, World.ownsRow_nil _ _ _ _, (Below.refl _ _).alloc (Nat.le_refl _) _, HR, HLR⟩
  case round =>
    obtain ⟨L, p, hk, hp, hrd, hown, hbel, HF, HL⟩ := hrel
    clear HR HLR
    obtain ⟨av, cap, rfl⟩ : ∃ a cap, u4 = .slice a L.length cap := by
      rcases hown.2 with ⟨h1, h2⟩ | ⟨g, cap, cur, h1, _⟩
      · exact ⟨none, 0, by rw [h1, h2]⟩
      · exact ⟨_, cap, h1⟩
    generalize hn : L.length = n at *
    have HN := laid hn
    clear hn
    by_cases hlt : n < 5
    · by_cases hend : p < s.size
      · have HS := laid (sReads_step hlt hend HF.out)
        clear HF
        go_wp2_with fail
        refine (atEnd_no _ _ s p 3 hrd hend).mono ?_
        rintro e w3 ⟨rfl, mq, rfl⟩
        go_wp2_with fail
        refine (oneRead_any _ _ s p 3 (hrd.drewN mq) hs hp).mono ?_
        rintro e w4 ⟨h1, h2, hr4, hg4⟩
        have hown4 := World.ownsRow.kept (w := wr.drewN mq) hown hg4 (row_ne hown _ (.inl (by omega)))
        have hbel4 : Below w.heap.size w w4 := (below_drewN hbel mq).grown hg4 (by have := hbel.size; simpa using this) (by intro k hk; cases hk; exact Nat.le_refl _)
        have hl4 := sRead_le s p hp
        by_cases hst : (sRead s p).2 = true
        · obtain rfl := h2 hst
          exact ⟨rfl, rdsPost_bad (rest_stop HS.out hst) hst hbel4⟩
        · rw [Bool.not_eq_true] at hst
          obtain rfl := h1 hst
          clear h1 h2
          have HS1 := laid (rest_on HS.out hst)
          have HL1 := laid (rdsList_step hlt hend hst HL.out)
          have hmo := sRead_more s p hst hp
          have hpl := laid hrd.placeN
          unfold rdV
          generalize (sRead s p).1 = p4 at *
          generalize pNm s p = PN at *
          generalize pBs s p = PB at *
          generalize pMk s p = PM at *
          clear hst HS HL hg4
          have hlt4 := hr4.lt
          go_wp2_with (first
            | (at_builtin; refine wpList_append_own _ rfl _ _ 90 rfl (w.heap.size + 1) 131 i0 (.agg #[.string ⟨#[]⟩, .string ⟨#[]⟩, .string ⟨#[]⟩]) 3 48 Tryz.underlying90 hi hz hsi hby rfl (by decide) _ _ _ rfl (hown4.alloc _) ⟨w4.heap.size, 0, none⟩ 1 1 [.string PN, .string PB, .string PM] rfl rfl ?c1 ?c2 ?c3 ?c4 ?c5 ?_)
            | go_in)
          case c1 =>
            intro j u hj
            match j, hj with
            | 0, hj => simp at hj; subst hj; simp [Addr.add, go_sem]
            | 1, hj => simp at hj; subst hj; simp [Addr.add, go_sem]
            | 2, hj => simp at hj; subst hj; simp [Addr.add, go_sem]
          case c2 => intro u hu; simp at hu; rcases hu with rfl | rfl | rfl <;> rfl
          case c3 => unfold maxLen; omega
          case c4 => omega
          case c5 => simp; omega
          intro v' w7 hown' hgrow _
          have hne := row_ne hown4 w.heap.size (.inl (by omega))
          have hr7 : RD w7 w.heap.size s p4 3 := by
            have ha := hr4.alloc (.cells #[.string PN, .string PB, .string PM] 131)
            unfold RD at *
            rw [hgrow.block _ (by simp; omega) (by rcases hne with h | h <;> simp_all; exact fun h' => h h'.symm)]; exact ha
          have hbel7 : Below w.heap.size w w7 := (hbel4.alloc hbel4.size _).grown hgrow (by simp; have := hbel4.size; omega) (fun k hk => by have := hown4.lt k hk; omega)
          have hown7 : w7.ownsRow (w.heap.size + 1) 131 3 v' (L ++ [(PN, PB, PM)]).length (flatR (L ++ [(PN, PB, PM)])) := by
            rw [flatR_snoc, List.length_append, HN.out]; exact hown'
          have hpl7 := laid hr7.placeN
          have HS2 : Hid (sReads s (5 - (L ++ [(PN, PB, PM)]).length) p4 = R) := laid (by rw [List.length_append, HN.out]; exact HS1.out)
          have HL2 : Hid ((L ++ [(PN, PB, PM)]) ++ readsList s (5 - (L ++ [(PN, PB, PM)]).length) p4 = LR) := laid (by rw [List.length_append, HN.out]; exact HL1.out)
          obtain ⟨g, cap', n', rfl⟩ : ∃ g cap n', v' = .slice (some ⟨g, 0, none⟩) n' cap := by
            rcases hown'.2 with ⟨_, h0⟩ | ⟨g, cap, cur, hv, _⟩
            · omega
            · exact ⟨g, cap, _, hv⟩
          clear hown' hgrow hne hown4 HS1 HL1
          go_wp2
          go_roundw
          case rel => go_light; exact ⟨L ++ [(PN, PB, PM)], p4, by rw [List.length_append, HN.out]; simp; omega, hl4.2, hr7, hown7, hbel7, HS2, HL2⟩
          case measure => go_light; rw [hpl.out, hpl7.out]; omega
      · have hpe : s.size = p := by omega
        have HPE := laid hpe
        have hfin := sReads_end hpe HF.out
        have HFIN := laid (show R.2 = false by rw [hfin])
        have HLE := laid (rdsList_end (by omega) HL.out)
        clear hfin hpe HF
        go_wp2_with fail
        refine (atEnd_yes _ _ s p 3 hrd HPE.out).mono ?_
        rintro e w3 ⟨rfl, mq, rfl⟩
        go_wp2_with fail
        refine (expectEnd_ok _ _ s p 3 (hrd.drewN mq) (by rw [HPE.out])).mono ?_
        rintro e w4 ⟨rfl, mr, rfl⟩
        go_wp2
        go_ret
        exact rdsPost_good HFIN.out HLE.out (by rw [HN.out]; exact hown) (below_drewN hbel _)
    · have hk5 : n = 5 := by omega
      have HK := laid hk5
      clear hk5
      by_cases hend : p < s.size
      · have HS := laid (sReads_full hend (HK.out ▸ HF.out))
        clear HF
        go_wp2_with fail
        refine (expectEnd_bad _ _ s p 3 hrd (by omega)).mono ?_
        rintro e w4 ⟨rfl, mr, rfl⟩
        exact ⟨rfl, rdsPost_bad (st := (p, true)) HS.out rfl (below_drewN hbel mr)⟩
      · have hpe : s.size = p := by omega
        have HPE := laid hpe
        have hfin := sReads_end hpe HF.out
        have HFIN := laid (show R.2 = false by rw [hfin])
        have HLE := laid (rdsList_end (by omega) HL.out)
        clear hfin hpe HF
        go_wp2_with fail
        refine (expectEnd_ok _ _ s p 3 hrd (by rw [HPE.out])).mono ?_
        rintro e w4 ⟨rfl, mr, rfl⟩
        go_wp2
        go_ret
        exact rdsPost_good HFIN.out HLE.out (by rw [HN.out]; exact hown) (below_drewN hbel mr)
end Go.Proofs.YtdcjnhipenbcfaaGreatDoor
