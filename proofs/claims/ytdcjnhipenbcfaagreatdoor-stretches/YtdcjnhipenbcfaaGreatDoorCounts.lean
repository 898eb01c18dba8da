import Derived.Test.YtdcjnhipenbcfaaGreatDoorRefBins
import Derived.Test.YtdcjnhipenbcfaaGreatDoorShelf
import Derived.Maps.RangeWalk
import Derived.Maps.OwnOps
import Derived.Maps.Views
import Derived.Lib.MinMax
import Derived.Sort.KeysCollected
namespace Go.Proofs.YtdcjnhipenbcfaaGreatDoor
open Go.RowKit Go.Maps
set_option linter.unusedVariables false

/-- the run at place i -/
def rnL (s : ByteArray) (q i : Nat) : List UInt8 := (s.extract i (i + q)).data.toList
def noN (x : List UInt8) : Bool := !x.contains 78
/-- how often run x, if it has no N, stands at places below k -/
def cntUp (s : ByteArray) (q : Nat) (x : List UInt8) : Nat → Nat
  | 0 => 0
  | k + 1 => cntUp s q x k + (if rnL s q k = x ∧ noN x = true then 1 else 0)
theorem cntUp_le (s : ByteArray) (q : Nat) (x : List UInt8) : ∀ k, cntUp s q x k ≤ k
  | 0 => Nat.le_refl _
  | k + 1 => by have := cntUp_le s q x k; simp only [cntUp]; split <;> omega
/-- .. in all -/
def cntB (s : ByteArray) (q : Nat) (x : List UInt8) : Nat := cntUp s q x (s.size + 1 - q)
theorem cntB_le (s : ByteArray) (q : Nat) (x : List UInt8) : cntB s q x ≤ s.size + 1 := by
  have := cntUp_le s q x (s.size + 1 - q); unfold cntB; omega

theorem cntUp_same {s : ByteArray} {q k : Nat} (hn : noN (rnL s q k) = true) : cntUp s q (rnL s q k) (k + 1) = cntUp s q (rnL s q k) k + 1 := by
  rw [cntUp, if_pos ⟨rfl, hn⟩]
theorem cntUp_other {s : ByteArray} {q k : Nat} {x : List UInt8} (hx : ¬ (rnL s q k = x ∧ noN x = true)) : cntUp s q x (k + 1) = cntUp s q x k := by
  simp only [cntUp]; rw [if_neg hx, Nat.add_zero]
/-- a map that counts -/
def Counts (D : DataW Unit) (f : List UInt8 → Nat) : Prop :=
  IsMap D ∧ (∀ x, D.atKey (.string x) (.lit (.int .i64 0)) = .lit (.int .i64 (f x : Int))) ∧ ∀ x, has D (.string x) = true ↔ 0 < f x
theorem counts_empty (s : ByteArray) (q : Nat) : Counts (.map []) (fun x => cntUp s q x 0) := ⟨isMap_empty, fun x => rfl, fun x => by rw [has_eq]; simp [cntUp]⟩
theorem counts_skip {D : DataW Unit} {s : ByteArray} {q k : Nat} (h : Counts D (fun x => cntUp s q x k)) (hn : noN (rnL s q k) = false) : Counts D (fun x => cntUp s q x (k + 1)) := by
  have e : (fun x => cntUp s q x (k + 1)) = fun x => cntUp s q x k := by
    funext x
    exact cntUp_other (by rintro ⟨rfl, h⟩; rw [hn] at h; exact Bool.noConfusion h)
  rw [e]; exact h
theorem counts_put {D : DataW Unit} {s : ByteArray} {q k : Nat} {c : Int} (h : Counts D (fun x => cntUp s q x k)) (hn : noN (rnL s q k) = true)
    (hc : D.atKey (.string (rnL s q k)) (.lit (.int .i64 0)) = .lit (.int .i64 c)) : Counts (D.put (.string (rnL s q k)) (.lit (.int .i64 (c + 1)))) (fun x => cntUp s q x (k + 1)) := by
  have h1 := h.2.1 (rnL s q k)
  rw [hc] at h1
  have hcc : c = (cntUp s q (rnL s q k) k : Int) := by simpa using h1
  have hkl : WideAt.IsKeyLit (.string (rnL s q k)) := by first | trivial | exact ⟨_, rfl⟩ | simp [WideAt.IsKeyLit]
  refine ⟨h.1.put _ _, fun x => ?_, fun x => ?_⟩
  · by_cases hx : x = rnL s q k
    · subst hx
      rw [atKey_put_same h.1 hkl]
      show _ = DataW.lit (.int .i64 ((cntUp s q (rnL s q k) (k + 1) : Nat) : Int))
      rw [cntUp_same hn, hcc]; simp
    · rw [atKey_put_other (by intro e; cases e; exact hx rfl), h.2.1 x]
      show _ = DataW.lit (.int .i64 ((cntUp s q x (k + 1) : Nat) : Int))
      rw [cntUp_other (by rintro ⟨e, _⟩; exact hx e.symm)]
  · by_cases hx : x = rnL s q k
    · subst hx
      rw [has_put_same h.1 hkl]
      show _ ↔ 0 < cntUp s q (rnL s q k) (k + 1)
      rw [cntUp_same hn]; simp
    · rw [has_put_other (by intro e; cases e; exact hx rfl), h.2.2 x]
      show _ ↔ 0 < cntUp s q x (k + 1)
      rw [cntUp_other (by rintro ⟨e, _⟩; exact hx e.symm)]
theorem counts_c {D : DataW Unit} {f : List UInt8 → Nat} {x : List UInt8} {c : Int} (h : Counts D f) (hc : D.atKey (.string x) (.lit (.int .i64 0)) = .lit (.int .i64 c)) : c = (f x : Int) := by
  have h1 := h.2.1 x
  rw [hc] at h1
  simpa using h1

theorem indexN (l : List UInt8) : Lib.indexByte l 78 < 0 ↔ noN l = true := by
  unfold noN
  induction l with
  | nil => simp [Lib.indexByte]
  | cons a l ih =>
    have h := Lib.indexByte_ge l 78
    simp only [Lib.indexByte]
    by_cases ha : a = 78
    · subst ha; simp
    · have h1 : ¬ (a == 78) = true := by simpa using ha
      have h2 : (List.contains (a :: l) (78 : UInt8)) = l.contains 78 := by
        rw [List.contains_cons]
        have : ((78 : UInt8) == a) = false := by simpa using fun e => ha e.symm
        rw [this, Bool.false_or]
      rw [h2, if_neg h1, ← ih]
      by_cases hn : Lib.indexByte l 78 = -1
      · rw [if_pos (by simpa using hn)]; omega
      · rw [if_neg (by simpa using hn)]; omega

theorem lawS : Keyed Tryz.prog 9 := string_keyed Tryz.underlying9
theorem zeroI (w : World) : (zeroValue 3).run Tryz.prog w = .ok (.int .i64 0) w := by kernel_rfl

abbrev OwnsC (w : World) (b n : Nat) (D : DataW Unit) : Prop := w.ownsMap Tryz.prog 9 (plainElem Tryz.prog 3) b n D

theorem indexByte_call (s : ByteArray) (w : World) :
    Calls Tryz.prog 99 #[.string s, .int .u8 78] w fun e w' => e = .returned (.int .i64 (Lib.indexByte s.data.toList 78)) ∧ w' = w := Tryz.strings_IndexByte s 78 w

set_option maxHeartbeats 2000000 in
set_option maxRecDepth 100000 in
theorem countRuns_any (s : ByteArray) (q : Nat) (w : World) (hs : s.size ≤ 1000) (hq : 1 ≤ q) (hq' : q ≤ 1000) :
    Calls Tryz.prog 76 #[.string s, .int .i64 (q : Int)] w fun e w' => e = .returned (.map (some w.heap.size)) ∧ (∃ (n : Nat) (D : DataW Unit), n ≤ 1001 ∧ OwnsC w' w.heap.size n D ∧ Counts D (cntB s q)) ∧ Below w.heap.size w w' := by
  have hmm := @run_makeMap Tryz.prog
  go_enter Tryz.func76, Tryz.ntmps76
  go_wp2
  go_loopw [6] (fun ev wr => ∃ (k : Nat) (D : DataW Unit), k ≤ s.size + 1 - q ∧ ev = .int .i64 ((q : Int) + (k : Int)) ∧ OwnsC wr w.heap.size k D ∧ Hid (Counts D (fun x => cntUp s q x k)) ∧ Below w.heap.size w wr) (fun ev _ => s.size + 1 - (intOf ev).toNat)
  case atStart => exact ⟨0, .map [], Nat.zero_le _, by simp, World.ownsMap_made _ _ _ _, laid (counts_empty s q), (Below.refl _ _).alloc (Nat.le_refl _) _⟩
  case round =>
    obtain ⟨k, D, hk, rfl, hown, HC, hbel⟩ := hrel
    by_cases hlt : q + k ≤ s.size
    · have hw1 : IntKind.i64.wrap ((q : Int) + (k : Int) - (q : Int)) = (k : Int) := by rw [show (q : Int) + (k : Int) - (q : Int) = (k : Int) by omega]; exact IntWalk.i64_in _ (by omega)
      have hX : (s.extract k (q + k)).data.toList = rnL s q k := by unfold rnL; rw [Nat.add_comm q k]
      have hXs : (s.extract k (q + k)).size ≤ maxLen := by rw [ByteArray.size_extract]; unfold maxLen; omega
      have HX := laid hX
      clear hX
      have HI := laid (indexN (rnL s q k))
      have hcl := cntUp_le s q (rnL s q k) k
      go_wp2_with fail
      refine (indexByte_call _ _).mono ?_
      rintro e w' ⟨rfl, rfl⟩
      rw [HX.out]
      generalize Lib.indexByte (rnL s q k) 78 = ix at *
      by_cases hix : ix < 0
      · have hno := HI.out.1 hix
        have HNO := laid hno
        have hkey : keyOf Tryz.prog 9 (.string (s.extract k (q + k))) = some (.string (rnL s q k)) := by rw [← HX.out]; exact WideMaps.keyOf_string_mk Tryz.underlying9 hXs
        have HK := laid hkey
        clear hno hkey HI
        generalize s.extract k (q + k) = X at *
        go_wp2_with (first
          | (at_lookup; refine wpList_lookup_own_int _ rfl _ _ 113 rfl 9 3 .i64 lawS Tryz.underlying113 Tryz.underlying3 (zeroI _) w.heap.size k D rfl hown _ _ rfl HK.out ?_; intro c hat hwc)
          | (at_mapUpdate; refine wpList_mapUpdate_own _ rfl _ _ _ 113 rfl 9 3 lawS Tryz.underlying113 _ w.heap.size k D rfl hown (by unfold maxLen; omega) _ _ _ rfl rfl HK.out _ [] (plainElem_int Tryz.underlying3 (wrap64_wf _)) ?_; intro w1 hown1 hgrow1)
          | go_in)
        have hcc := counts_c HC.out hat
        have e1 : wrap64 (c + 1) = c + 1 := IntWalk.wrap64_in (c + 1) (by omega)
        rw [e1] at hown1
        have hC2 := counts_put HC.out HNO.out hat
        have hb2 : Below w.heap.size w w1 := hbel.grown hgrow1 hbel.size (fun j hj => by cases hj; exact Nat.le_refl _)
        go_roundw
        case rel => go_light; exact ⟨k + 1, _, by omega, val_int (by omega), hown1, laid hC2, hb2⟩
        case measure => go_light; simp [intOf]; omega
      · have hno : noN (rnL s q k) = false := by
          rw [← Bool.not_eq_true, ← HI.out]; exact hix
        have hC2 := counts_skip HC.out hno
        have HC2 := laid hC2
        clear hno hC2 HI
        generalize s.extract k (q + k) = X at *
        go_wp2
        go_roundw
        case rel => go_light; exact ⟨k + 1, D, by omega, val_int (by omega), hown.mono (by omega), HC2, hbel⟩
        case measure => go_light; simp [intOf]; omega
    · have hke : k = s.size + 1 - q := by omega
      have HF : Hid (Counts D (cntB s q)) := laid (by have := HC.out; unfold cntB; rw [← hke]; exact this)
      clear hke
      go_wp2
      go_ret
      exact ⟨rfl, ⟨k, D, by omega, hown, HF.out⟩, hbel⟩
end Go.Proofs.YtdcjnhipenbcfaaGreatDoor
