import Derived.Test.YtdcjnhipenbcfaaGreatDoorFlipRef
import Derived.Laws.MakeOwn
import Derived.Laws.OwnMore
import Derived.Laws.IdiomStrings
namespace Go.Proofs.YtdcjnhipenbcfaaGreatDoor
open Go.RowKit
set_option linter.unusedVariables false

theorem infoByte : (Tryz.prog.info? 5).map (fun i => (i.zero, i.size, i.bytes)) = some (some (.int .u8 0), 1, 1) := by kernel_rfl

/-- a byte as a cell -/
def bv (b : UInt8) : Value := .int .u8 (b.toNat : Int)
/-- cells: these bytes, then m zeros -/
def rowL (l : List UInt8) (m : Nat) : Array Value := (l.map bv ++ List.replicate m (Value.int .u8 0)).toArray
/-- cells: m zeros, then these bytes -/
def rowR (m : Nat) (l : List UInt8) : Array Value := (List.replicate m (Value.int .u8 0) ++ l.map bv).toArray

theorem make_bytes (n : Nat) (hn : n ≤ 1000) (w : World) :
    (Instr.makeSlice 79 (.int .i64 (n : Int)) (.int .i64 (n : Int))).run Tryz.prog w = .ok (.slice (some ⟨w.heap.size, 0, none⟩) n n) (w.alloc (.cells (rowL [] n) 5)) := by
  have h := infoByte
  rcases hi : Tryz.prog.info? 5 with _ | i
  · rw [hi] at h; cases h
  · rw [hi] at h
    simp only [Option.map_some, Option.some.injEq, Prod.mk.injEq] at h
    obtain ⟨hz, hs, hb⟩ := h
    have := run_makeSlice (P := Tryz.prog) w 79 5 i (.int .u8 0) Tryz.underlying79 hi hz .i64 .i64 (n : Int) (n : Int) (by omega) (by omega) (by rw [hs]; simp; omega) (by rw [hb]; simp; omega) (by omega)
    rw [this]
    have e : madeCells (Value.int IntKind.u8 0).cells ((n : Int).toNat * i.size) = rowL [] n := by
      apply Array.ext'
      rw [hs]
      show (madeCells #[Value.int IntKind.u8 0] _).toList = _
      have := toList_madeCells_one (.int .u8 0) n
      simpa [rowL] using this
    rw [e]
    simp

theorem back_bytes (l : List UInt8) (n : Nat) (hn : l.length = n) (C : Array Value) (hC : C = (l.map bv).toArray) (w : World) (cap : Nat) :
    (convert 79 9 (.slice (some ⟨w.heap.size, 0, none⟩) n cap)).run Tryz.prog (w.alloc (.cells C 5)) = .ok (.string (str l)) (w.alloc (.cells C 5)) := by
  subst hn hC
  refine run_convert_bytes_back (P := Tryz.prog) _ 79 9 5 ⟨w.heap.size, 0, none⟩ cap l Tryz.underlying79 Tryz.underlying5 Tryz.underlying9 ?_
  intro j hj
  have : (⟨w.heap.size, 0, none⟩ : Addr).add j = ⟨w.heap.size, j, none⟩ := by unfold Addr.add; split <;> simp_all
  rw [this, World.cell?_alloc_at _ _ _ _ rfl]
  simp [bv, hj]

theorem rowL_size (l : List UInt8) (m : Nat) : (rowL l m).size = l.length + m := by simp [rowL]
theorem rowL_at (l : List UInt8) (m k : Nat) (hk : k = l.length) (hm : 0 < m) : (rowL l m)[k]? = some (.int .u8 0) := by
  subst hk; unfold rowL
  cases m with
  | zero => omega
  | succ m => simp [List.replicate_succ]
theorem rowL_set (l : List UInt8) (m k : Nat) (hk : k = l.length) (hm : 0 < m) (b : UInt8) (v : Value) (hv : v = bv b) : (rowL l m).setIfInBounds k v = rowL (l ++ [b]) (m - 1) := by
  subst hk hv
  cases m with
  | zero => omega
  | succ m =>
    apply Array.ext'
    simp [rowL, List.replicate_succ]

def gl (s : ByteArray) (k : Nat) : List UInt8 := (s.data.toList.take k).map gb
theorem gl_len (s : ByteArray) (k : Nat) (h : k ≤ s.size) : (gl s k).length = k := by
  unfold gl; simp; omega
theorem gl_succ (s : ByteArray) (k : Nat) (h : k < s.size) : gl s (k + 1) = gl s k ++ [gb s[k]] := by
  unfold gl; rw [take_snoc s k h]; simp
theorem gl_all (s : ByteArray) (k : Nat) (h : s.size ≤ k) : gl s k = s.data.toList.map gb := by
  unfold gl; rw [List.take_of_length_le (by rw [len_bytes]; exact h)]
theorem grI_lo (b : UInt8) : 0 ≤ grI b.toNat ∧ grI b.toNat ≤ 255 := by
  have := byte_lo b; have := byte_hi b; unfold grI; split <;> omega
theorem gb_int (b : UInt8) : ((gb b).toNat : Int) = grI b.toNat := by
  have h := grI_lo b
  unfold gb
  rw [UInt8.toNat_ofNat']
  omega

def gcells (s : ByteArray) (k : Nat) : Array Value := rowL (gl s k) (s.size - k)
theorem gcells_at (s : ByteArray) (k : Nat) (h : k < s.size) : (gcells s k)[k]? = some (.int .u8 0) :=
  rowL_at _ _ _ (gl_len s k (by omega)).symm (by omega)
theorem gcells_set (s : ByteArray) (k : Nat) (h : k < s.size) : (gcells s k).setIfInBounds k (.int .u8 (grI s[k].toNat)) = gcells s (k + 1) := by
  unfold gcells
  rw [rowL_set _ _ _ (gl_len s k (by omega)).symm (by omega) (gb s[k]) _ (by unfold bv; rw [gb_int]), ← gl_succ s k h]
  congr 1
theorem gcells_end (s : ByteArray) (k : Nat) (h : s.size ≤ k) : gcells s k = ((s.data.toList.map gb).map bv).toArray := by
  unfold gcells rowL; rw [gl_all s k h, show s.size - k = 0 by omega]; simp

set_option maxHeartbeats 400000 in
theorem greatLetters_any (s : ByteArray) (w : World) (hs : s.size ≤ 200) :
    Calls Tryz.prog 67 #[.string s] w fun e w' => e = .returned (.string (str (s.data.toList.map gb))) ∧ Below w.heap.size w w' := by
  have hmk := make_bytes s.size (by omega)
  go_enter Tryz.func67, Tryz.ntmps67
  go_wp2
  clear hmk
  go_loopw [10] (fun i wr => ∃ k : Nat, k ≤ s.size ∧ i = .int .i64 k ∧ wr = w.alloc (.cells (gcells s k) 5)) (fun i _ => s.size - (intOf i).toNat)
  case atStart => exact ⟨0, Nat.zero_le _, rfl, rfl⟩
  case round =>
    obtain ⟨k, hk, rfl, rfl⟩ := hrel
    by_cases hlt : k < s.size
    · have hat := gcells_at s k hlt
      go_wp2_with (go_at_call 97; refine (great_any _ (byte_lo _) (byte_hi _) _).mono ?_; rintro e w' ⟨rfl, rfl⟩)
      go_roundw
      case rel => go_light; exact ⟨k + 1, by omega, by go_num, by rw [gcells_set s k hlt]⟩
      case measure => go_light; simp [intOf]; omega
    · have hcv := back_bytes (s.data.toList.map gb) s.size (by simp) (gcells s k) (gcells_end s k (by omega)) w s.size
      go_wp2
      go_ret
      exact ⟨rfl, (Below.refl _ _).alloc (Nat.le_refl _) _⟩

theorem parI_lo (n : Int) : 0 ≤ parI n ∧ parI n ≤ 255 := by
  unfold parI; split
  · omega
  split
  · omega
  split
  · omega
  split <;> omega
theorem pb_int (b : UInt8) : ((pb b).toNat : Int) = parI b.toNat := by
  have h := parI_lo b.toNat
  unfold pb
  rw [UInt8.toNat_ofNat']
  omega
theorem rowR_at (m : Nat) (l : List UInt8) (k : Nat) (hk : k + 1 = m) : (rowR m l)[k]? = some (.int .u8 0) := by
  subst hk; unfold rowR
  simp [List.getElem?_append]
theorem rowR_set (m : Nat) (l : List UInt8) (k : Nat) (hk : k + 1 = m) (b : UInt8) (v : Value) (hv : v = bv b) : (rowR m l).setIfInBounds k v = rowR k (b :: l) := by
  subst hk hv
  apply Array.ext'
  simp only [rowR, List.setIfInBounds_toArray, List.replicate_succ']
  simp
def pl (s : ByteArray) (k : Nat) : List UInt8 := ((s.data.toList.take k).map pb).reverse
theorem pl_succ (s : ByteArray) (k : Nat) (h : k < s.size) : pl s (k + 1) = pb s[k] :: pl s k := by
  unfold pl; rw [take_snoc s k h]; simp
theorem pl_all (s : ByteArray) (k : Nat) (h : s.size ≤ k) : pl s k = (s.data.toList.map pb).reverse := by
  unfold pl; rw [List.take_of_length_le (by rw [len_bytes]; exact h)]
def fcells (s : ByteArray) (k : Nat) : Array Value := rowR (s.size - k) (pl s k)
theorem fcells_at (s : ByteArray) (k j : Nat) (h : k < s.size) (hj : j + 1 + k = s.size) : (fcells s k)[j]? = some (.int .u8 0) :=
  rowR_at _ _ _ (by omega)
theorem fcells_set (s : ByteArray) (k j : Nat) (h : k < s.size) (hj : j + 1 + k = s.size) : (fcells s k).setIfInBounds j (.int .u8 (parI s[k].toNat)) = fcells s (k + 1) := by
  unfold fcells
  rw [rowR_set _ _ _ (by omega) (pb s[k]) _ (by unfold bv; rw [pb_int]), ← pl_succ s k h, show s.size - (k + 1) = j by omega]
theorem fcells_end (s : ByteArray) (k : Nat) (h : s.size ≤ k) : fcells s k = ((s.data.toList.map pb).reverse.map bv).toArray := by
  unfold fcells rowR; rw [pl_all s k h, show s.size - k = 0 by omega]; simp
theorem fcells_start (s : ByteArray) : fcells s 0 = rowL [] s.size := by
  unfold fcells rowR rowL pl; simp

set_option maxHeartbeats 400000 in
theorem flip_any (s : ByteArray) (w : World) (hs : s.size ≤ 200) :
    Calls Tryz.prog 51 #[.string s] w fun e w' => e = .returned (.string (otake s 0)) ∧ Below w.heap.size w w' := by
  have hmk := make_bytes s.size (by omega)
  go_enter Tryz.func51, Tryz.ntmps51
  go_wp2
  clear hmk
  go_loopw [10] (fun i wr => ∃ k : Nat, k ≤ s.size ∧ i = .int .i64 k ∧ wr = w.alloc (.cells (fcells s k) 5)) (fun i _ => s.size - (intOf i).toNat)
  case atStart => exact ⟨0, Nat.zero_le _, rfl, by rw [fcells_start]⟩
  case round =>
    obtain ⟨k, hk, rfl, rfl⟩ := hrel
    by_cases hlt : k < s.size
    · have hx : s.size - 1 - k + 1 + k = s.size := by omega
      have hat := fcells_at s k _ hlt hx
      have hb1 : 0 ≤ (s.size : Int) - 1 - (k : Int) := by omega
      have hb2 : (s.size : Int) - 1 - (k : Int) < (s.size : Int) := by omega
      have HX := laid hx
      clear hx
      go_wp2_with (go_at_call 79; refine (partner_any _ (byte_lo _) (byte_hi _) _).mono ?_; rintro e w' ⟨rfl, rfl⟩)
      go_roundw
      case rel => go_light; exact ⟨k + 1, by omega, by go_num, by rw [fcells_set s k _ hlt HX.out]⟩
      case measure => go_light; simp [intOf]; omega
    · have hcv := back_bytes (s.data.toList.map pb).reverse s.size (by simp) (fcells s k) (fcells_end s k (by omega)) w s.size
      go_wp2
      go_ret
      exact ⟨rfl, (Below.refl _ _).alloc (Nat.le_refl _) _⟩
end Go.Proofs.YtdcjnhipenbcfaaGreatDoor
