import Derived.Test.YtdcjnhipenbcfaaGreatDoorSettings
namespace Go.Proofs.YtdcjnhipenbcfaaGreatDoor
open Go.RowKit Go.Maps
set_option linter.unusedVariables false

/-- the numbers of those of the first n stretches that are looked at, as a list -/
def lookedL (P X : ByteArray) (k q st : Nat) (t : Int) : Nat → List Nat
  | 0 => []
  | b + 1 => if looked P X k q st t b = true then lookedL P X k q st t b ++ [b] else lookedL P X k q st t b
theorem lookedL_len (P X : ByteArray) (k q st : Nat) (t : Int) : ∀ n, (lookedL P X k q st t n).length ≤ n
  | 0 => Nat.le_refl _
  | n + 1 => by
    have := lookedL_len P X k q st t n
    simp only [lookedL]; split
    · rw [List.length_append]; simp; omega
    · omega
theorem lookedL_yes {P X : ByteArray} {k q st : Nat} {t : Int} {b : Nat} (h : looked P X k q st t b = true) : lookedL P X k q st t (b + 1) = lookedL P X k q st t b ++ [b] := by
  rw [lookedL, if_pos h]
theorem lookedL_no {P X : ByteArray} {k q st : Nat} {t : Int} {b : Nat} (h : looked P X k q st t b = false) : lookedL P X k q st t (b + 1) = lookedL P X k q st t b := by
  rw [lookedL, if_neg (by simp [h])]
def intV (z : Nat) : Value := .int .i64 (z : Int)

/-- block p holds the settings -/
def ST (w : World) (p : Nat) (k q st : Nat) : Prop := w.heap[p]? = some (.cells #[.int .i64 (k : Int), .int .i64 (q : Int), .int .i64 (st : Int)] 75 (0, 0))
theorem ST.c0 {w : World} {p k q st : Nat} (h : ST w p k q st) : w.cell? ⟨p, 0, none⟩ = some (.int .i64 (k : Int)) := by rw [cell_of_row w p 0 _ _ _ h]; rfl
theorem ST.c1 {w : World} {p k q st : Nat} (h : ST w p k q st) : w.cell? ⟨p, 1, none⟩ = some (.int .i64 (q : Int)) := by rw [cell_of_row w p 1 _ _ _ h]; rfl
theorem ST.c2 {w : World} {p k q st : Nat} (h : ST w p k q st) : w.cell? ⟨p, 2, none⟩ = some (.int .i64 (st : Int)) := by rw [cell_of_row w p 2 _ _ _ h]; rfl
theorem ST.lt {w : World} {p k q st : Nat} (h : ST w p k q st) : p < w.heap.size := by
  have := block_lt_of_cell h.c0; simpa using this
theorem ST.below {w w' : World} {p k q st B : Nat} (h : ST w p k q st) (hb : Below B w w') (hlt : p < B) : ST w' p k q st := by unfold ST at *; rw [hb.block p hlt]; exact h
theorem ST.new (w : World) (k q st : Nat) : ST (w.alloc (.cells #[.int .i64 (k : Int), .int .i64 (q : Int), .int .i64 (st : Int)] 75)) w.heap.size k q st := heap_alloc_new w _

theorem infoInt : (Tryz.prog.info? 3).map (fun i => (i.zero, i.size, i.bytes)) = some (some (.int .i64 0), 1, 8) := by kernel_rfl
theorem row_kept {w w' : World} {B : Nat} {e : TypeId} {v : Value} {n : Nat} {xs : List Value} (h : w.ownsRow B e 1 v n xs) (hb : Below w.heap.size w w') : w'.ownsRow B e 1 v n xs :=
  h.kept (grownBy_of_below hb none) (by cases v.ownBlock <;> simp)
theorem ownsC_below {w w' : World} {b n B : Nat} {D : DataW Unit} (h : OwnsC w b n D) (hb : Below B w w') (hlt : b < B) : OwnsC w' b n D := by
  obtain ⟨es, clock, hh, r⟩ := h
  exact ⟨es, clock, by rw [hb.block b hlt]; exact hh, r⟩
theorem row_base {w : World} {B B' : Nat} {e : TypeId} {v : Value} {n : Nat} {xs : List Value} (h : w.ownsRow B e 1 v n xs) (hB : B' ≤ B) : w.ownsRow B' e 1 v n xs := by
  refine ⟨h.1, ?_⟩
  rcases h.2 with h' | ⟨g, cap, cur, h1, h2, h3⟩
  · exact .inl h'
  · exact .inr ⟨g, cap, cur, h1, by omega, h3⟩

set_option maxHeartbeats 4000000 in
set_option maxRecDepth 100000 in
theorem lookedAt_any (X P : ByteArray) (k q st : Nat) (w : World) (hX : X.size ≤ 200) (hP : P.size ≤ 30) (hk : k ≤ 6) (hq : 1 ≤ q) (hq' : q ≤ 8) (hs : 1 ≤ st) (hs' : st ≤ 200) :
    Calls Tryz.prog 48 #[.string X, .string P, .agg #[.int .i64 (k : Int), .int .i64 (q : Int), .int .i64 (st : Int)]] w fun e w' =>
      ∃ v, e = .returned v ∧ w'.ownsRow w.heap.size 3 1 v (lookedL P X k q st (thr P.size k q) (stretches X.size st)).length ((lookedL P X k q st (thr P.size k q) (stretches X.size st)).map intV) ∧ Below w.heap.size w w' := by
  obtain ⟨i0, hi, hz0, hz1, hz2⟩ := info_parts infoInt
  have htl : -1000 ≤ thr P.size k q ∧ thr P.size k q ≤ 1000 := by
    unfold thr
    have := Nat.mul_le_mul hk hq'
    omega
  have HST := laid (fun b => stretches_lt X.size st b hs)
  have hsl : stretches X.size st ≤ 400 := by
    unfold stretches
    have := Nat.div_le_self (X.size + st - 1) st
    omega
  generalize hT : thr P.size k q = t at *
  have HT := laid hT
  clear hT
  go_enter Tryz.func48, Tryz.ntmps48
  go_wp2_with fail
  refine (needed_any k q st P.size _ hk hq' (by omega)).mono ?_
  rintro e w1 ⟨rfl, hb1⟩
  have hst1 := (ST.new w k q st).below hb1 (by simp)
  have hbw1 : Below w.heap.size w w1 := ((Below.refl _ _).alloc (Nat.le_refl _) _).trans (hb1.mono (by simp))
  clear hb1
  rw [HT.out]
  clear HT
  have c1 := hst1.c1
  go_wp2_with fail
  refine (countRuns_any P q _ (by omega) hq (by omega)).mono ?_
  rintro e w2 ⟨rfl, ⟨n1, D1, hn1, hown1, hcn1⟩, hb2⟩
  have hst2 := hst1.below hb2 hst1.lt
  have hbw2 : Below w.heap.size w w2 := hbw1.trans (hb2.mono hbw1.size)
  have hp2 := hst2.lt
  have hb1l := hown1.lt
  clear hb2 hbw1 hst1 c1
  have HCN := laid hcn1
  clear hcn1
  generalize w1.heap.size = b1 at *
  go_wp2
  go_loopw [9, 10] (fun v num wr => ∃ b : Nat, num = .int .i64 (b : Int) ∧ b ≤ stretches X.size st ∧ wr.ownsRow w2.heap.size 3 1 v (lookedL P X k q st t b).length ((lookedL P X k q st t b).map intV) ∧ Below w2.heap.size w2 wr) (fun _ num _ => stretches X.size st - (intOf num).toNat)
  case atStart => exact ⟨0, rfl, Nat.zero_le _, ⟨rfl, .inl ⟨rfl, rfl⟩⟩, Below.refl _ _⟩
  case round =>
    obtain ⟨b, rfl, hb, hrow, hbel⟩ := hrel
    have hst := hst2.below hbel hp2
    have c0 := hst.c0
    have c1 := hst.c1
    have c2 := hst.c2
    have hll := lookedL_len P X k q st t b
    have hlk : Hid (looked P X k q st t b = (decide (t ≤ 0) || decide (t ≤ (comB P (X.extract (b * st) (stTo P.size X.size k st b)) q : Int)))) := laid rfl
    by_cases hlt : b < stretches X.size st
    · have hbs := (HST.out b).2 hlt
      have hSt := laid (fun W => stretch_any X k q st P.size b W (by omega) hk hs' (by omega) (by omega) (by omega))
      obtain ⟨m, hmn, hm⟩ : ∃ m : Nat, b * st = m ∧ (b : Int) * (st : Int) = (m : Int) := ⟨b * st, rfl, by simp⟩
      rw [hmn] at hbs
      have hS : (X.extract (b * st) (stTo P.size X.size k st b)).size ≤ 1000 := by rw [ByteArray.size_extract]; omega
      generalize X.extract (b * st) (stTo P.size X.size k st b) = S at *
      clear hmn
      go_wp2_with fail
      refine (hSt.out _).mono ?_
      rintro e w3 ⟨rfl, hb3⟩
      have hrow3 := row_kept hrow hb3
      have hbel3 := hbel.trans (hb3.mono hbel.size)
      clear hb3 hSt
      by_cases ht0 : t ≤ 0
      · have HY : Hid (looked P X k q st t b = true) := laid (by rw [hlk.out, decide_eq_true ht0]; rfl)
        clear hlk
        go_wp2_with (first
          | (at_builtin; refine wpList_append_own _ rfl _ _ 25 rfl w2.heap.size 3 i0 (.int .i64 0) 1 8 Tryz.underlying25 hi hz0 hz1 hz2 rfl (by decide) _ _ _ rfl (hrow3.alloc _) ⟨w3.heap.size, 0, none⟩ 1 1 [intV b] rfl rfl ?c1 ?c2 ?c3 ?c4 ?c5 ?_)
          | go_in)
        case c1 =>
          intro j u hj
          match j, hj with
          | 0, hj => simp at hj; subst hj; simp [Addr.add, intV]
        case c2 => intro u hu; simp at hu; subst hu; rfl
        case c3 => unfold maxLen; omega
        case c4 => omega
        case c5 => have := hbel3.size; simp; omega
        intro v' wz hown' hgrow _
        have hbelz : Below w2.heap.size w2 wz := (hbel3.alloc hbel3.size _).grown hgrow (by have := hbel3.size; simp; omega) (fun j hj => (hrow3.lt j hj).1)
        have hownz : wz.ownsRow w2.heap.size 3 1 v' (lookedL P X k q st t (b + 1)).length ((lookedL P X k q st t (b + 1)).map intV) := by
          rw [lookedL_yes HY.out, List.length_append, List.map_append]; exact hown'
        obtain ⟨g, cap, n', rfl⟩ : ∃ g cap n', v' = .slice (some ⟨g, 0, none⟩) n' cap := by
          rcases hown'.2 with ⟨_, h0⟩ | ⟨g, cap, cur, hv, _⟩
          · omega
          · exact ⟨g, cap, _, hv⟩
        clear hown' hgrow
        go_wp2
        go_roundw
        case rel => go_light; exact ⟨b + 1, by go_num, by omega, hownz, hbelz⟩
        case measure => go_light; simp [intOf]; omega
      · have hst3 := hst2.below hbel3 hp2
        have d1 := hst3.c1
        clear c0 c1 c2
        go_wp2_with fail
        refine (countRuns_any S q _ hS hq (by omega)).mono ?_
        rintro e w4 ⟨rfl, ⟨n2, D2, hn2, hown2, hcn2⟩, hb4⟩
        have hbel4 := hbel3.trans (hb4.mono hbel3.size)
        have hrow4 := row_kept hrow3 hb4
        have hownA := ownsC_below hown1 hbel4 hb1l
        have HCN2 := laid hcn2
        clear hcn2 hb4
        go_wp2_with fail
        refine (shared_any P S q b1 n1 _ n2 D1 D2 _ hq hS hn1 hownA hown2 HCN.out HCN2.out).mono ?_
        rintro e w5 ⟨rfl, hb5⟩
        have hbel5 := hbel4.trans (hb5.mono hbel4.size)
        have hrow5 := row_kept hrow4 hb5
        clear hb5 hownA hown2 HCN2
        by_cases hge : t ≤ (comB P S q : Int)
        · have HY : Hid (looked P X k q st t b = true) := laid (by rw [hlk.out, decide_eq_true hge, Bool.or_true])
          clear hlk
          go_wp2_with (first
            | (at_builtin; refine wpList_append_own _ rfl _ _ 25 rfl w2.heap.size 3 i0 (.int .i64 0) 1 8 Tryz.underlying25 hi hz0 hz1 hz2 rfl (by decide) _ _ _ rfl (hrow5.alloc _) ⟨w5.heap.size, 0, none⟩ 1 1 [intV b] rfl rfl ?c1 ?c2 ?c3 ?c4 ?c5 ?_)
            | go_in)
          case c1 =>
            intro j u hj
            match j, hj with
            | 0, hj => simp at hj; subst hj; simp [Addr.add, intV]
          case c2 => intro u hu; simp at hu; subst hu; rfl
          case c3 => unfold maxLen; omega
          case c4 => omega
          case c5 => have := hbel5.size; simp; omega
          intro v' wz hown' hgrow _
          have hbelz : Below w2.heap.size w2 wz := (hbel5.alloc hbel5.size _).grown hgrow (by have := hbel5.size; simp; omega) (fun j hj => (hrow5.lt j hj).1)
          have hownz : wz.ownsRow w2.heap.size 3 1 v' (lookedL P X k q st t (b + 1)).length ((lookedL P X k q st t (b + 1)).map intV) := by
            rw [lookedL_yes HY.out, List.length_append, List.map_append]; exact hown'
          obtain ⟨g, cap, n', rfl⟩ : ∃ g cap n', v' = .slice (some ⟨g, 0, none⟩) n' cap := by
            rcases hown'.2 with ⟨_, h0⟩ | ⟨g, cap, cur, hv, _⟩
            · omega
            · exact ⟨g, cap, _, hv⟩
          clear hown' hgrow
          go_wp2
          go_roundw
          case rel => go_light; exact ⟨b + 1, by go_num, by omega, hownz, hbelz⟩
          case measure => go_light; simp [intOf]; omega
        · have HY : Hid (looked P X k q st t b = false) := laid (by rw [hlk.out, decide_eq_false (by omega), decide_eq_false (by omega)]; rfl)
          clear hlk
          have hownz : w5.ownsRow w2.heap.size 3 1 u9 (lookedL P X k q st t (b + 1)).length ((lookedL P X k q st t (b + 1)).map intV) := by
            rw [lookedL_no HY.out]; exact hrow5
          go_wp2
          go_roundw
          case rel => go_light; exact ⟨b + 1, by go_num, by omega, hownz, hbel5⟩
          case measure => go_light; simp [intOf]; omega
    · have hbe : b = stretches X.size st := by omega
      have hbs := fun h => hlt ((HST.out b).1 h)
      obtain ⟨m, hmn, hm⟩ : ∃ m : Nat, b * st = m ∧ (b : Int) * (st : Int) = (m : Int) := ⟨b * st, rfl, by simp⟩
      rw [hmn] at hbs
      have hmb : m ≤ 100000 := by rw [← hmn]; exact Nat.le_trans (Nat.mul_le_mul (show b ≤ 400 by omega) hs') (by omega)
      clear hmn
      have hms : X.size ≤ m := Nat.le_of_not_lt hbs
      have HBE := laid hbe
      clear hbs hbe
      go_wp2
      go_ret
      exact ⟨u9, rfl, by rw [← HBE.out]; exact row_base hrow (by omega), hbw2.trans (hbel.mono (by omega))⟩
end Go.Proofs.YtdcjnhipenbcfaaGreatDoor
