import Derived.Test.YtdcjnhipenbcfaaGreatDoorBinsTop
import Derived.Test.YtdcjnhipenbcfaaGreatDoorRefBins3
namespace Go.Proofs.YtdcjnhipenbcfaaGreatDoor
open Go.RowKit
set_option linter.unusedVariables false

theorem jnUp_more (zs ys : List Nat) : ∀ i, i ≤ zs.length → jnUp (zs ++ ys) i = jnUp zs i
  | 0, _ => rfl
  | i + 1, h => by
    rw [jnUp, jnUp, jnUp_more zs ys i (by omega)]
    have : (zs ++ ys).getD i 0 = zs.getD i 0 := by
      rw [List.getD_eq_getElem?_getD, List.getD_eq_getElem?_getD, List.getElem?_append_left (by omega)]
    rw [this]
theorem decL_ne (n : Nat) : decL n ≠ [] := by
  by_cases h : n ≤ 9
  · rw [decL_small n h]; simp
  · rw [decL_big n h]; simp
theorem jnUp_nil (zs : List Nat) (i : Nat) : jnUp zs i = [] ↔ i = 0 := by
  cases i with
  | zero => simp [jnUp]
  | succ i => simp [jnUp, decL_ne]
/-- the numbers' text is the document's -/
theorem bins_join (P X : ByteArray) (k q st : Nat) (t : Int) : ∀ n, binsUp P X k q st t n = jnUp (lookedL P X k q st t n) (lookedL P X k q st t n).length
  | 0 => rfl
  | n + 1 => by
    have ih := bins_join P X k q st t n
    by_cases h : looked P X k q st t n = true
    · rw [lookedL_yes h, binsUp, if_pos h]
      generalize lookedL P X k q st t n = zs at *
      rw [List.length_append, show [n].length = 1 from rfl, jnUp, jnUp_more zs [n] _ (Nat.le_refl _), ih]
      have hg : (zs ++ [n]).getD zs.length 0 = n := by simp
      rw [hg]
      by_cases h0 : zs.length = 0
      · rw [if_pos ((jnUp_nil zs _).2 h0), if_pos h0, (jnUp_nil zs _).2 h0]; rfl
      · rw [if_neg (fun e => h0 ((jnUp_nil zs _).1 e)), if_neg h0]; rfl
    · rw [Bool.not_eq_true] at h
      rw [lookedL_no h, binsUp, if_neg (by simp [h]), ih]
theorem lookedL_lt (P X : ByteArray) (k q st : Nat) (t : Int) : ∀ n, ∀ z ∈ lookedL P X k q st t n, z < n
  | 0, z, h => by simp [lookedL] at h
  | n + 1, z, h => by
    have ih := lookedL_lt P X k q st t n
    simp only [lookedL] at h
    split at h
    · rw [List.mem_append, List.mem_singleton] at h
      rcases h with h | h
      · have := ih z h; omega
      · omega
    · have := ih z h; omega

/-- the start of Bins: four blocks -/
theorem start4 {w w1 : World} {o1 o2 o3 o4 : Obj} (h : Kept2 ((((w.alloc o1).alloc o2).alloc o3).alloc o4) w1 (w.heap.size + 1 + 1) (w.heap.size + 1 + 1 + 1)) : Below w.heap.size w w1 := by
  have h0 : Below w.heap.size w ((((w.alloc o1).alloc o2).alloc o3).alloc o4) := ((((Below.refl _ _).alloc (Nat.le_refl _) o1).alloc (by simp) o2).alloc (by simp; omega) o3).alloc (by simp; omega) o4
  exact h0.trans (h.below (by simp; omega) (by omega) (by omega))

theorem rb_start4 (w : World) (o0 o1 : Obj) (o3 : Obj) : RB ((((w.alloc o0).alloc o1).alloc (.cells #[.string ⟨#[]⟩, .string ⟨#[]⟩] 68)).alloc o3) (w.heap.size + 1 + 1) ⟨#[]⟩ ⟨#[]⟩ := by
  unfold RB
  rw [heap_alloc_old _ _ (by simp)]
  have e : w.heap.size + 1 + 1 = ((w.alloc o0).alloc o1).heap.size := by simp
  rw [e, heap_alloc_new]

set_option maxHeartbeats 2000000 in
theorem bins_long (ref bases : ByteArray) (k q step : Int) (w : World) (h1 : ref.size ≤ maxLen) (ha : 400 < ref.size) :
    Calls Tryz.prog 28 #[.string ref, .string bases, .int .i64 k, .int .i64 q, .int .i64 step] w fun e w' => e = .returned (.tuple #[.string ⟨#[]⟩, .int .i64 1]) ∧ Below w.heap.size w w' := by
  unfold maxLen at h1
  go_enter Tryz.func28, Tryz.ntmps28
  go_wp2
  go_ret2
  exact ⟨rfl, ((Below.refl _ _).alloc (Nat.le_refl _) _).alloc (by simp) _⟩

set_option maxHeartbeats 2000000 in
theorem bins_bad (ref bases : ByteArray) (k q step : Int) (w : World) (c : Int) (hc : binC ref bases = c) (hc0 : c = 2 ∨ c = 5) (h2 : bases.size ≤ maxLen) (ha : ¬ 400 < ref.size) (hbad : (sRef ref).2 = true ∨ bases.size < 1 ∨ 30 < bases.size ∨ bases.data.toList.all isb = false) :
    Calls Tryz.prog 28 #[.string ref, .string bases, .int .i64 k, .int .i64 q, .int .i64 step] w fun e w' => e = .returned (.tuple #[.string ⟨#[]⟩, .int .i64 c]) ∧ Below w.heap.size w w' := by
  have hmf : ∀ (fn : Fn) (first cap : Array Value) (w : World), (Instr.makeFunc fn first cap).run Tryz.prog w = .ok (.func fn first cap) w := fun _ _ _ _ => rfl
  have HB := laid hbad
  have HC := laid hc
  clear hbad hc
  have hcn : (c != 0) = true := by rcases hc0 with rfl | rfl <;> decide
  go_enter Tryz.func28, Tryz.ntmps28
  go_wp2_with fail
  refine (attemptBins_bad ref bases w.heap.size (w.heap.size + 1 + 1) (w.heap.size + 1) (w.heap.size + 1 + 1 + 1) ⟨#[]⟩ ⟨#[]⟩ (.string ⟨#[]⟩) _ (by omega) h2 HB.out (by simp [go_sem]) (by simp [go_sem]) (rb_start4 w _ _ _) (by simp [go_sem]) (by omega)).mono ?_
  rintro e w1 ⟨⟨p, rfl⟩, hk2⟩
  rw [HC.out]
  have hbel := start4 hk2
  clear hk2
  go_wp2
  go_quiet (fail)
  go_wp2
  go_ret2
  exact ⟨rfl, below_drewN (hbel.alloc hbel.size _) _⟩

set_option maxHeartbeats 2000000 in
theorem bins_arg (ref bases : ByteArray) (k q step : Int) (w : World) (ha : ¬ 400 < ref.size) (hr : (sRef ref).2 = false) (hb1 : 1 ≤ bases.size) (hb2 : bases.size ≤ 30) (hb3 : bases.data.toList.all isb = true) (hi : rightI k bases.size q step = false) :
    Calls Tryz.prog 28 #[.string ref, .string bases, .int .i64 k, .int .i64 q, .int .i64 step] w fun e w' => e = .returned (.tuple #[.string ⟨#[]⟩, .int .i64 4]) ∧ Below w.heap.size w w' := by
  have hmf : ∀ (fn : Fn) (first cap : Array Value) (w : World), (Instr.makeFunc fn first cap).run Tryz.prog w = .ok (.func fn first cap) w := fun _ _ _ _ => rfl
  have HR := laid hr
  have HB := laid hb3
  have HI := laid hi
  have HL := laid (show (str (bases.data.toList.map gb)).size = bases.size by rw [str_size]; simp)
  clear hr hb3 hi
  go_enter Tryz.func28, Tryz.ntmps28
  go_wp2_with fail
  refine (attemptBins_ok ref bases w.heap.size (w.heap.size + 1 + 1) (w.heap.size + 1) (w.heap.size + 1 + 1 + 1) ⟨#[]⟩ ⟨#[]⟩ (.string ⟨#[]⟩) _ (by omega) HR.out hb1 hb2 HB.out (by simp [go_sem]) (by simp [go_sem]) (rb_start4 w _ _ _) (by simp [go_sem]) (by simp [go_sem]) (by omega) (by omega)).mono ?_
  rintro e w1 ⟨rfl, hcy, hcz, hk2⟩
  have hbel := start4 hk2
  have hsz : w.heap.size + 1 + 1 + 1 < w1.heap.size := by have := hk2.size; simp at this; omega
  clear hk2
  generalize str (refAll ref).2 = X at *
  generalize str (bases.data.toList.map gb) = Y at *
  have hyl := HL.out
  have hcz2 : ∀ o o', ((w1.alloc o).alloc o').cell? ⟨w.heap.size + 1 + 1 + 1, 0, none⟩ = some (.string Y) := fun o o' => by
    rw [World.cell?_alloc_past _ _ _ (by simp; omega), World.cell?_alloc_past _ _ _ hsz]; exact hcz
  go_wp2_with fail
  refine (mayBe_any k q step _).mono ?_
  rintro e w2 ⟨rfl, hb2'⟩
  have hbel2 : Below w.heap.size w w2 := ((hbel.alloc hbel.size _).alloc (by simp; omega) _).trans (hb2'.mono (by simp; omega))
  by_cases hm : mayI k q step = false
  · rw [hm]
    clear hb2'
    go_wp2
    go_ret2
    exact ⟨rfl, hbel2⟩
  · rw [Bool.not_eq_false] at hm
    rw [hm]
    have hge : ¬ k < (Y.size : Int) := by
      have h := HI.out
      rw [right_may, hm, Bool.true_and] at h
      have := of_decide_eq_false h
      omega
    have hst : w2.heap[w1.heap.size + 1]? = some (.cells #[.int .i64 k, .int .i64 q, .int .i64 step] 75 (0, 0)) := by
      rw [hb2'.block _ (by simp)]
      have e0 : (w1.alloc (.cells #[.int .i64 0, .int .i64 0] 70)).heap.size = w1.heap.size + 1 := by simp
      rw [← e0, heap_alloc_new]
    have c0 : w2.cell? ⟨w1.heap.size + 1, 0, none⟩ = some (.int .i64 k) := by rw [cell_of_row w2 _ 0 _ _ _ hst]; rfl
    have c1 : w2.cell? ⟨w1.heap.size + 1, 1, none⟩ = some (.int .i64 q) := by rw [cell_of_row w2 _ 1 _ _ _ hst]; rfl
    have c2 : w2.cell? ⟨w1.heap.size + 1, 2, none⟩ = some (.int .i64 step) := by rw [cell_of_row w2 _ 2 _ _ _ hst]; rfl
    have hcz3 : w2.cell? ⟨w.heap.size + 1 + 1 + 1, 0, none⟩ = some (.string Y) := by rw [hb2'.cell (by simp; omega)]; exact hcz2 _ _
    have hY30 : Y.size ≤ 1000 := by omega
    clear hb2' hcz2 hst hm
    go_wp2_with fail
    refine (mayServe_any k q step Y _ hY30).mono ?_
    rintro e w3 ⟨rfl, hb3'⟩
    rw [decide_eq_false (show ¬ k < (Y.size : Int) by omega)]
    have hbel3 : Below w.heap.size w w3 := hbel2.trans (hb3'.mono hbel2.size)
    clear hb3'
    go_wp2
    go_ret2
    exact ⟨rfl, hbel3⟩

set_option maxHeartbeats 2000000 in
theorem bins_good (ref bases : ByteArray) (k q st : Nat) (w : World) (htab : TabOk w) (ha : ¬ 400 < ref.size) (hr : (sRef ref).2 = false) (hb1 : 1 ≤ bases.size) (hb2 : bases.size ≤ 30) (hb3 : bases.data.toList.all isb = true)
    (hk : k ≤ 6) (hkm : k < bases.size) (hq1 : 1 ≤ q) (hq2 : q ≤ 8) (hs1 : 1 ≤ st) (hs2 : st ≤ 200) :
    Calls Tryz.prog 28 #[.string ref, .string bases, .int .i64 (k : Int), .int .i64 (q : Int), .int .i64 (st : Int)] w fun e w' =>
      e = .returned (.tuple #[.string (str (binsUp (str (bases.data.toList.map gb)) (str (refAll ref).2) k q st (thr bases.size k q) (stretches (refAll ref).2.length st))), .int .i64 0]) ∧ Below w.heap.size w w' := by
  have hmf : ∀ (fn : Fn) (first cap : Array Value) (w : World), (Instr.makeFunc fn first cap).run Tryz.prog w = .ok (.func fn first cap) w := fun _ _ _ _ => rfl
  have HR := laid hr
  have HB := laid hb3
  have HI := laid (show mayI k q st = true by unfold mayI; rw [decide_eq_true (by omega)])
  have HL := laid (show (str (bases.data.toList.map gb)).size = bases.size by rw [str_size]; simp)
  have HT := laid htab
  have hxl := refAll_len ref
  generalize hY : str (bases.data.toList.map gb) = Y at *
  generalize hX : str (refAll ref).2 = X at *
  have hxs : X.size = (refAll ref).2.length := by rw [← hX, str_size]
  rw [← hxs] at hxl ⊢
  have hyl := HL.out
  rw [← hyl]
  generalize hO : str (binsUp Y X k q st (thr Y.size k q) (stretches X.size st)) = O
  have HO := laid hO
  have HX := laid hX
  have HY := laid hY
  clear hr hb3 htab hX hY hxs hO
  go_enter Tryz.func28, Tryz.ntmps28
  go_wp2_with fail
  refine (attemptBins_ok ref bases w.heap.size (w.heap.size + 1 + 1) (w.heap.size + 1) (w.heap.size + 1 + 1 + 1) ⟨#[]⟩ ⟨#[]⟩ (.string ⟨#[]⟩) _ (by omega) HR.out hb1 hb2 HB.out (by simp [go_sem]) (by simp [go_sem]) (rb_start4 w _ _ _) (by simp [go_sem]) (by simp [go_sem]) (by omega) (by omega)).mono ?_
  rintro e w1 ⟨rfl, hcy, hcz, hk2⟩
  rw [HX.out] at hcy
  rw [HY.out] at hcz
  generalize qNm ref = QN at *
  have hbel := start4 hk2
  have hsz : w.heap.size + 1 + 1 + 1 < w1.heap.size := by have := hk2.size; simp at this; omega
  clear hk2
  have hcz2 : ∀ o o', ((w1.alloc o).alloc o').cell? ⟨w.heap.size + 1 + 1 + 1, 0, none⟩ = some (.string Y) := fun o o' => by
    rw [World.cell?_alloc_past _ _ _ (by simp; omega), World.cell?_alloc_past _ _ _ hsz]; exact hcz
  have hcy2 : ∀ o o', ((w1.alloc o).alloc o').cell? ⟨w.heap.size + 1 + 1, 1, none⟩ = some (.string X) := fun o o' => by
    rw [World.cell?_alloc_past _ _ _ (by simp; omega), World.cell?_alloc_past _ _ _ (by omega)]; exact hcy.c1
  go_wp2_with fail
  refine (mayBe_any k q st _).mono ?_
  rintro e w2 ⟨rfl, hb2'⟩
  rw [HI.out]
  have hst : ST w2 (w1.heap.size + 1) k q st := by
    have h0 := ST.new (w1.alloc (.cells #[.int .i64 0, .int .i64 0] 70)) k q st
    have e0 : (w1.alloc (.cells #[.int .i64 0, .int .i64 0] 70)).heap.size = w1.heap.size + 1 := by simp
    rw [e0] at h0
    exact h0.below hb2' (by simp)
  have hcz3 : w2.cell? ⟨w.heap.size + 1 + 1 + 1, 0, none⟩ = some (.string Y) := by rw [hb2'.cell (by simp; omega)]; exact hcz2 _ _
  have hcy3 : w2.cell? ⟨w.heap.size + 1 + 1, 1, none⟩ = some (.string X) := by rw [hb2'.cell (by simp; omega)]; exact hcy2 _ _
  have hbel2 : Below w.heap.size w w2 := ((hbel.alloc hbel.size _).alloc (by simp; omega) _).trans (hb2'.mono (by simp; omega))
  clear hb2' hcz2 hcy2 hcz hcy
  have c0 := hst.c0
  have c1 := hst.c1
  have c2 := hst.c2
  have hY30 : Y.size ≤ 30 := by omega
  have hkY : (k : Int) < (Y.size : Int) := by omega
  go_wp2_with fail
  refine (mayServe_any k q st Y _ (by omega)).mono ?_
  rintro e w2b ⟨rfl, hb2b⟩
  rw [decide_eq_true hkY]
  clear c0 c1 c2
  have hst' := hst.below hb2b hst.lt
  have hcz3b : w2b.cell? ⟨w.heap.size + 1 + 1 + 1, 0, none⟩ = some (.string Y) := by rw [hb2b.cell (by have := hst.lt; simp; omega)]; exact hcz3
  have hcy3b : w2b.cell? ⟨w.heap.size + 1 + 1, 1, none⟩ = some (.string X) := by rw [hb2b.cell (by have := hst.lt; simp; omega)]; exact hcy3
  replace hbel2 : Below w.heap.size w w2b := hbel2.trans (hb2b.mono hbel2.size)
  clear hb2b hst hcz3 hcy3
  have c0 := hst'.c0
  have c1 := hst'.c1
  have c2 := hst'.c2
  clear hst'
  go_wp2_with fail
  refine (lookedAt_any X Y k q st _ hxl hY30 hk hq1 hq2 hs1 hs2).mono ?_
  rintro e w3 ⟨v, rfl, hrow, hb3'⟩
  have hbel3 : Below w.heap.size w w3 := hbel2.trans (hb3'.mono hbel2.size)
  clear hb3'
  have hlen := lookedL_len Y X k q st (thr Y.size k q) (stretches X.size st)
  have hsl : stretches X.size st ≤ 400 := by
    unfold stretches
    have := Nat.div_le_self (X.size + st - 1) st
    omega
  have HJ := laid (bins_join Y X k q st (thr Y.size k q) (stretches X.size st))
  have HZ := laid (fun z h => Nat.le_trans (Nat.le_of_lt (lookedL_lt Y X k q st (thr Y.size k q) (stretches X.size st) z h)) (by omega : stretches X.size st ≤ 9999))
  have HO2 := laid (show str (jnUp (lookedL Y X k q st (thr Y.size k q) (stretches X.size st)) (lookedL Y X k q st (thr Y.size k q) (stretches X.size st)).length) = O by rw [← HJ.out]; exact HO.out)
  clear HJ HO
  generalize lookedL Y X k q st (thr Y.size k q) (stretches X.size st) = zs at *
  go_wp2_with fail
  refine (withCommas_any zs v _ _ hrow HZ.out (by omega) (HT.out.on hbel3)).mono ?_
  rintro e w4 ⟨rfl, hb4⟩
  rw [HO2.out]
  have hbel4 : Below w.heap.size w w4 := hbel3.trans (hb4.mono hbel3.size)
  clear hb4
  go_wp2
  go_ret2
  exact ⟨rfl, hbel4⟩

/-- the program's Bins, at all strings and numbers -/
theorem bins_any (ref bases : ByteArray) (k q step : Int) (w : World) (htab : TabOk w) (h1 : ref.size ≤ maxLen) (h2 : bases.size ≤ maxLen) :
    Calls Tryz.prog 28 #[.string ref, .string bases, .int .i64 k, .int .i64 q, .int .i64 step] w fun e w' =>
      e = .returned (.tuple #[.string (binsS ref bases k q step), .int .i64 (binsE ref bases k q step)]) ∧ Below w.heap.size w w' := by
  by_cases ha : 400 < ref.size
  · have e1 : binsS ref bases k q step = ⟨#[]⟩ := if_pos (.inl ha)
    have e2 : binsE ref bases k q step = 1 := if_pos ha
    rw [e1, e2]; exact bins_long ref bases k q step w h1 ha
  by_cases hr : (sRef ref).2 = true
  · have e1 : binsS ref bases k q step = ⟨#[]⟩ := if_pos (.inr (.inl hr))
    have e2 : binsE ref bases k q step = 2 := by unfold binsE; rw [if_neg ha, if_pos hr]
    rw [e1, e2]; exact bins_bad ref bases k q step w 2 (if_pos hr) (.inl rfl) h2 ha (.inl hr)
  have hr' : (sRef ref).2 = false := by simpa using hr
  by_cases hb : bases.size < 1 ∨ 30 < bases.size ∨ bases.data.toList.all isb = false
  · have e1 : binsS ref bases k q step = ⟨#[]⟩ := if_pos (.inr (.inr (by rcases hb with h | h | h; exact .inl h; exact .inr (.inl h); exact .inr (.inr (.inl h)))))
    have e2 : binsE ref bases k q step = 5 := by unfold binsE; rw [if_neg ha, if_neg hr, if_pos hb]
    rw [e1, e2]; exact bins_bad ref bases k q step w 5 (by unfold binC; rw [if_neg hr, if_pos hb]) (.inr rfl) h2 ha (.inr hb)
  have hb1 : ¬ bases.size < 1 := fun h => hb (.inl h)
  have hb2 : ¬ 30 < bases.size := fun h => hb (.inr (.inl h))
  have hb3 : bases.data.toList.all isb = true := by
    cases hh : bases.data.toList.all isb with
    | true => rfl
    | false => exact absurd (.inr (.inr hh)) hb
  by_cases hi : rightI k bases.size q step = false
  · have e1 : binsS ref bases k q step = ⟨#[]⟩ := if_pos (.inr (.inr (.inr (.inr (.inr hi)))))
    have e2 : binsE ref bases k q step = 4 := by unfold binsE; rw [if_neg ha, if_neg hr, if_neg hb, if_pos hi]
    rw [e1, e2]; exact bins_arg ref bases k q step w ha hr' (by omega) (by omega) hb3 hi
  have e1 : binsS ref bases k q step = str (binsRaw ref bases k q step) := if_neg (by
    rintro (h | h | h | h | h | h)
    · exact ha h
    · exact hr h
    · exact hb1 h
    · exact hb2 h
    · rw [hb3] at h; exact Bool.noConfusion h
    · exact hi h)
  have e2 : binsE ref bases k q step = 0 := by unfold binsE; rw [if_neg ha, if_neg hr, if_neg hb, if_neg hi]
  have hi2 : 0 ≤ k ∧ k ≤ 6 ∧ k < bases.size ∧ 1 ≤ q ∧ q ≤ 8 ∧ 1 ≤ step ∧ step ≤ 200 := by
    rw [Bool.not_eq_false] at hi
    exact of_decide_eq_true hi
  obtain ⟨kn, rfl⟩ := Int.eq_ofNat_of_zero_le hi2.1
  obtain ⟨qn, rfl⟩ := Int.eq_ofNat_of_zero_le (show 0 ≤ q by omega)
  obtain ⟨sn, rfl⟩ := Int.eq_ofNat_of_zero_le (show 0 ≤ step by omega)
  rw [e1, e2]
  exact bins_good ref bases kn qn sn w htab ha hr' (by omega) (by omega) hb3 (by omega) (by omega) (by omega) (by omega) (by omega) (by omega)
end Go.Proofs.YtdcjnhipenbcfaaGreatDoor
