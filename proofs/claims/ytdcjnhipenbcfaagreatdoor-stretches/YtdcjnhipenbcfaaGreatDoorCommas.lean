import Derived.Test.YtdcjnhipenbcfaaGreatDoorLooked
import Derived.Test.YtdcjnhipenbcfaaGreatDoorReadAll
import Derived.Test.YtdcjnhipenbcfaaGreatDoorUpTo
import Derived.Lib.AppendIntMem
namespace Go.Proofs.YtdcjnhipenbcfaaGreatDoor
open Go.RowKit
set_option linter.unusedVariables false

theorem dec_digits (n : Nat) : Lib.decDigits n = decL n := by
  induction n using Nat.strongRecOn with
  | _ n ih =>
    by_cases h : n < 10
    · rw [Lib.decDigits, dif_pos h, decL_small n (by omega)]; rfl
    · rw [Lib.decDigits, dif_neg h, decL_big n (by omega), ih (n / 10) (by omega)]; rfl
theorem itoa_any (z : Nat) (w : World) (hz : z ≤ 9999) (htab : TabOk w) :
    Calls Tryz.prog 74 #[.int .i64 (z : Int)] w fun e w' => e = .returned (.string (str (decL z))) ∧ Below w.heap.size w w' := by
  refine (Tryz.strconv_Itoa (z : Int) (by omega) (by omega) w htab).mono ?_
  rintro e w' ⟨rfl, k, os, rfl⟩
  rw [Lib.itoa_nonneg, dec_digits]
  exact ⟨rfl, Lib.below_grow _ w (Nat.le_refl _) k os⟩

/-- the numbers' text, with commas -/
def jnUp (zs : List Nat) : Nat → List UInt8
  | 0 => []
  | i + 1 => jnUp zs i ++ ((if i = 0 then [] else [44]) ++ decL (zs.getD i 0))
theorem jnUp_len (zs : List Nat) (hz : ∀ z ∈ zs, z ≤ 9999) : ∀ i, i ≤ zs.length → (jnUp zs i).length ≤ 5 * i
  | 0, _ => by simp [jnUp]
  | i + 1, h => by
    have h1 := jnUp_len zs hz i (by omega)
    have h2 := decL_len (zs.getD i 0) (by rw [List.getD_eq_getElem?_getD, List.getElem?_eq_getElem (by omega)]; exact hz _ (List.getElem_mem _))
    simp only [jnUp]
    rw [List.length_append, List.length_append]
    have h3 : (if i = 0 then ([] : List UInt8) else [44]).length ≤ 1 := by split <;> decide
    omega

theorem bldAt_below {p : Value} {B : Nat} {bs : List Value} {w w' : World} (h : Lib.BuilderAt 102 5 B B p bs w) (hb : Below w.heap.size w w') : Lib.BuilderAt 102 5 B B p bs w' := by
  obtain ⟨hB, v, hh, hown, hne⟩ := h
  have hlt : B < w.heap.size := Lib.BuilderAt.lt ⟨hB, v, hh, hown, hne⟩
  exact ⟨hB, v, by rw [hb.block B hlt]; exact hh, row_kept hown hb, hne⟩
theorem BLD.below {B : Nat} {acc : List UInt8} {w w' : World} (h : BLD B acc w) (hb : Below w.heap.size w w') : BLD B acc w' :=
  h.imp (fun h => bldAt_below h hb) (fun h => bldAt_below h hb)
theorem bldByte (B : Nat) (acc : List UInt8) (w : World) (h : BLD B acc w) (hl : acc.length + 1 ≤ 1000000) :
    Calls Tryz.prog 73 #[.pointer (some ⟨B, 0, none⟩), .int .u8 44] w fun e w' => e = .returned .nilIface ∧ BLD B (acc ++ [44]) w' ∧ Below B w w' := by
  refine (writeByte_any B B _ 44 w h (by simp [Lib.byteCells]; omega) (by have := h.lt; omega)).mono ?_
  rintro e w' ⟨he, h1, h2⟩
  have e1 : Lib.byteCells acc ++ [Value.int .u8 44] = Lib.byteCells (acc ++ [44]) := by simp [Lib.byteCells]
  rw [e1] at h1
  exact ⟨he, h1, h2⟩

theorem jnUp_step (zs : List Nat) (i : Nat) (z : Nat) (hi : zs.getD i 0 = z) (h0 : 0 < i) : jnUp zs i ++ [44] ++ (str (decL z)).data.toList = jnUp zs (i + 1) := by
  rw [jnUp, if_neg (by omega), hi, List.append_assoc]; rfl
theorem jnUp_first (zs : List Nat) (z : Nat) (hi : zs.getD 0 0 = z) : jnUp zs 0 ++ (str (decL z)).data.toList = jnUp zs (0 + 1) := by
  show [] ++ _ = [] ++ (([] : List UInt8) ++ decL (zs.getD 0 0))
  rw [hi]; rfl

set_option maxHeartbeats 2000000 in
set_option maxRecDepth 100000 in
theorem withCommas_some (zs : List Nat) (g cap : Nat) (w : World) (hz : ∀ z ∈ zs, z ≤ 9999) (hl : zs.length ≤ 400) (htab : TabOk w)
    (hcell : ∀ i, i < zs.length → w.cell? ⟨g, i, none⟩ = some (.int .i64 ((zs.getD i 0 : Nat) : Int))) (hg : g < w.heap.size) :
    Calls Tryz.prog 47 #[.slice (some ⟨g, 0, none⟩) zs.length cap] w fun e w' => e = .returned (.string (str (jnUp zs zs.length))) ∧ Below w.heap.size w w' := by
  have HC := laid hcell
  have HZ := laid hz
  have HT := laid htab
  clear hcell hz htab
  go_enter Tryz.func47, Tryz.ntmps47
  go_wp2
  go_loopw [8] (fun iv wr => ∃ i : Nat, iv = .int .i64 (i : Int) ∧ i ≤ zs.length ∧ BLD w.heap.size (jnUp zs i) wr ∧ Below w.heap.size w wr) (fun iv _ => zs.length - (intOf iv).toNat)
  case atStart => exact ⟨0, rfl, Nat.zero_le _, BLD.new w, (Below.refl _ _).alloc (Nat.le_refl _) _⟩
  case round =>
    obtain ⟨i, rfl, hi, hbd, hbel⟩ := hrel
    have hjl := jnUp_len zs HZ.out i hi
    by_cases hlt : i < zs.length
    · have hci : wr.cell? ⟨g, i, none⟩ = some (.int .i64 ((zs.getD i 0 : Nat) : Int)) := by rw [hbel.cell (p := ⟨g, i, none⟩) hg]; exact HC.out i hlt
      have hzi : zs.getD i 0 ≤ 9999 := by rw [List.getD_eq_getElem?_getD, List.getElem?_eq_getElem hlt]; exact HZ.out _ (List.getElem_mem _)
      have hdl := decL_len _ hzi
      obtain ⟨z, hzz⟩ : ∃ z, zs.getD i 0 = z := ⟨_, rfl⟩
      rw [hzz] at hci hzi hdl
      have HZZ := laid hzz
      clear hzz
      by_cases h0 : 0 < i
      · go_wp2_with fail
        refine (bldByte _ _ _ hbd (by omega)).mono ?_
        rintro e w1 ⟨rfl, hbd1, hb1⟩
        have hbel1 := hbel.trans hb1
        clear hb1
        go_wp2_with fail
        refine (itoa_any z _ hzi (HT.out.on hbel1)).mono ?_
        rintro e w2 ⟨rfl, hb2⟩
        have hbd2 := hbd1.below hb2
        have hbel2 := hbel1.trans (hb2.mono hbel1.size)
        clear hb2 hbd1
        go_wp2_with fail
        refine (bldWrite _ _ (str (decL z)) _ hbd2 (by rw [List.length_append, str_size]; simp; omega)).mono ?_
        rintro e w3 ⟨rfl, hbd3, hb3⟩
        have hbel3 := hbel2.trans hb3
        rw [jnUp_step zs i z HZZ.out h0] at hbd3
        clear hb3 hbd2
        go_wp2
        go_roundw
        case rel => go_light; exact ⟨i + 1, by go_num, by omega, hbd3, hbel3⟩
        case measure => go_light; simp [intOf]; omega
      · have hi0 : i = 0 := by omega
        subst hi0
        go_wp2_with fail
        refine (itoa_any z _ hzi (HT.out.on hbel)).mono ?_
        rintro e w2 ⟨rfl, hb2⟩
        have hbd2 := hbd.below hb2
        have hbel2 := hbel.trans (hb2.mono hbel.size)
        clear hb2
        go_wp2_with fail
        refine (bldWrite _ _ (str (decL z)) _ hbd2 (by rw [str_size]; omega)).mono ?_
        rintro e w3 ⟨rfl, hbd3, hb3⟩
        have hbel3 := hbel2.trans hb3
        rw [jnUp_first zs z HZZ.out] at hbd3
        clear hb3 hbd2
        go_wp2
        go_roundw
        case rel => go_light; exact ⟨0 + 1, by go_num, by omega, hbd3, hbel3⟩
        case measure => go_light; simp [intOf]; omega
    · have hie : i = zs.length := by omega
      subst hie
      go_wp2_with fail
      refine (bldString _ _ _ hbd).mono ?_
      rintro e w1 ⟨rfl, hb1⟩
      have hbel1 := hbel.trans hb1
      go_wp2
      go_ret
      exact ⟨rfl, hbel1⟩

set_option maxHeartbeats 2000000 in
set_option maxRecDepth 100000 in
theorem withCommas_none (w : World) :
    Calls Tryz.prog 47 #[.slice none 0 0] w fun e w' => e = .returned (.string (str [])) ∧ Below w.heap.size w w' := by
  go_enter Tryz.func47, Tryz.ntmps47
  go_wp2
  go_loopw [8] (fun iv wr => iv = .int .i64 0 ∧ BLD w.heap.size [] wr ∧ Below w.heap.size w wr) (fun iv _ => 0)
  case atStart => exact ⟨rfl, BLD.new w, (Below.refl _ _).alloc (Nat.le_refl _) _⟩
  case round =>
    obtain ⟨rfl, hbd, hbel⟩ := hrel
    go_wp2_with fail
    refine (bldString _ _ _ hbd).mono ?_
    rintro e w1 ⟨rfl, hb1⟩
    have hbel1 := hbel.trans hb1
    go_wp2
    go_ret
    exact ⟨rfl, hbel1⟩

theorem withCommas_any (zs : List Nat) (v : Value) (B : Nat) (w : World) (hrow : w.ownsRow B 3 1 v zs.length (zs.map intV)) (hz : ∀ z ∈ zs, z ≤ 9999) (hl : zs.length ≤ 400) (htab : TabOk w) :
    Calls Tryz.prog 47 #[v] w fun e w' => e = .returned (.string (str (jnUp zs zs.length))) ∧ Below w.heap.size w w' := by
  rcases hrow.2 with ⟨rfl, h0⟩ | ⟨g, cap, cur, rfl, hB, hg, hc1, hc2, hc3, hc4⟩
  · rw [h0]; exact withCommas_none w
  · refine withCommas_some zs g cap w hz hl htab (fun i hi => ?_) ?_
    · have h := (hrow.cells (g := g) rfl) i (intV (zs.getD i 0)) (by rw [List.getElem?_map, List.getD_eq_getElem?_getD, List.getElem?_eq_getElem hi]; rfl)
      have e : (⟨g, 0, none⟩ : Addr).add i = ⟨g, i, none⟩ := by
        by_cases h0 : i = 0
        · subst h0; simp [Addr.add]
        · simp [Addr.add, h0]
      rw [e] at h; exact h
    · rcases Nat.lt_or_ge g w.heap.size with h' | h'
      · exact h'
      · rw [Array.getElem?_eq_none h'] at hg; cases hg
end Go.Proofs.YtdcjnhipenbcfaaGreatDoor
