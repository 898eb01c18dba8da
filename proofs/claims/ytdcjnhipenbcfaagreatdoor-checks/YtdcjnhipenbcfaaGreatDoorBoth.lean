import Derived.Test.YtdcjnhipenbcfaaGreatDoorCheckTop
namespace Go.Proofs.YtdcjnhipenbcfaaGreatDoor
open Go.RowKit
set_option linter.unusedVariables false

theorem start5 {w w1 : World} {o0 o1 o2 o3 o4 : Obj} (h : Kept2 (((((w.alloc o0).alloc o1).alloc o2).alloc o3).alloc o4) w1 (w.heap.size + 1 + 1) (w.heap.size + 1 + 1 + 1)) : Below w.heap.size w w1 ∧ w1.heap[w.heap.size + 1 + 1 + 1 + 1]? = some o4 ∧ w.heap.size + 5 ≤ w1.heap.size := by
  have hb := h.below (B := w.heap.size) (by simp; omega) (by omega) (by omega)
  refine ⟨((((((Below.refl _ _).alloc (Nat.le_refl _) o0).alloc (by simp) o1).alloc (by simp; omega) o2).alloc (by simp; omega) o3).alloc (by simp; omega) o4).trans hb, ?_, by have := h.size; simp at this; omega⟩
  rw [h.block _ (by simp) (by omega) (by omega)]
  have e : w.heap.size + 1 + 1 + 1 + 1 = ((((w.alloc o0).alloc o1).alloc o2).alloc o3).heap.size := by simp
  rw [e, heap_alloc_new]

theorem rb_start (w : World) (o0 o1 : Obj) (o3 o4 : Obj) : RB (((((w.alloc o0).alloc o1).alloc (.cells #[.string ⟨#[]⟩, .string ⟨#[]⟩] 68)).alloc o3).alloc o4) (w.heap.size + 1 + 1) ⟨#[]⟩ ⟨#[]⟩ := by
  unfold RB
  rw [heap_alloc_old _ _ (by simp), heap_alloc_old _ _ (by simp)]
  have e : w.heap.size + 1 + 1 = ((w.alloc o0).alloc o1).heap.size := by simp
  rw [e, heap_alloc_new]
theorem zb_start (w : World) (o0 o1 o2 : Obj) (o4 : Obj) (v : Value) : ZB (((((w.alloc o0).alloc o1).alloc o2).alloc (.cells #[v] 90)).alloc o4) (w.heap.size + 1 + 1 + 1) v := by
  unfold ZB
  rw [heap_alloc_old _ _ (by simp)]
  have e : w.heap.size + 1 + 1 + 1 = (((w.alloc o0).alloc o1).alloc o2).heap.size := by simp
  rw [e, heap_alloc_new]
/-- a cell laid anew as it is -/
theorem set_id {w : World} {a : Addr} {v : Value} (h : w.cell? a = some v) : w.setCell a v = w := by
  unfold World.setCell
  have e : (w.heap.modify a.block fun
      | .cells c elem frozen => .cells (if a.spot.isSome then c else c.setIfInBounds a.off v) elem frozen
      | o => o) = w.heap := by
    apply Array.ext
    · simp
    · intro i h1 h2
      rw [Array.getElem_modify]
      split
      · rename_i he
        subst he
        unfold World.cell? at h
        rw [Array.getElem?_eq_getElem h2] at h
        generalize w.heap[a.block] = o at *
        cases o with
        | cells c elem frozen =>
          simp only at h ⊢
          split at h
          · simp at h
          · rename_i hs
            rw [if_neg hs]
            congr 1
            apply Array.ext
            · simp
            · intro j k1 k2
              rw [Array.getElem_setIfInBounds]
              split
              · rename_i hj
                subst hj
                rw [Array.getElem?_eq_getElem k2] at h
                exact (Option.some.inj h).symm
              · rfl
        | _ => simp at h
      · rfl
  exact congrArg (fun h => ({ w with heap := h } : World)) e

theorem drew_row {w : World} {B : Nat} {e : TypeId} {k : Nat} {v : Value} {n : Nat} {xs : List Value} (h : w.ownsRow B e k v n xs) : w.drew.ownsRow B e k v n xs := h

set_option maxHeartbeats 2000000 in
theorem readBoth_short (ref reads : ByteArray) (w : World) (h1 : ref.size ≤ 400) (h2 : reads.size ≤ 600) :
    Calls Tryz.prog 58 #[.string ref, .string reads] w fun e w' => bothPost w ref reads ((chk ref reads).1 : Int) ((chk ref reads).2 : Int) (readsList reads 5 0) e w' := by
  have hmf : ∀ (fn : Fn) (first cap : Array Value) (w : World), (Instr.makeFunc fn first cap).run Tryz.prog w = .ok (.func fn first cap) w := fun _ _ _ _ => rfl
  have hAt : ∀ W : World, W.cell? ⟨w.heap.size, 0, none⟩ = some (.string ref) → W.cell? ⟨w.heap.size + 1, 0, none⟩ = some (.string reads) → RB W (w.heap.size + 1 + 1) ⟨#[]⟩ ⟨#[]⟩ → ZB W (w.heap.size + 1 + 1 + 1) (.slice none 0 0) → w.heap.size ≤ W.heap.size →
      Calls Tryz.prog 41 #[.func (.func 89) #[] #[.pointer (some ⟨w.heap.size, 0, none⟩), .pointer (some ⟨w.heap.size + 1 + 1, 0, none⟩), .pointer (some ⟨w.heap.size + 1, 0, none⟩), .pointer (some ⟨w.heap.size + 1 + 1 + 1, 0, none⟩)]] W fun e w' =>
        e = .returned (.agg #[.int .i64 ((chk ref reads).1 : Int), .int .i64 ((chk ref reads).2 : Int)]) ∧ Kept2 W w' (w.heap.size + 1 + 1) (w.heap.size + 1 + 1 + 1) ∧
        ∃ a b V, RB w' (w.heap.size + 1 + 1) a b ∧ ZB w' (w.heap.size + 1 + 1 + 1) V ∧ (∃ va n cap, V = .slice va n cap) ∧ (((chk ref reads).1 : Int) = 0 → a = qNm ref ∧ b = str (refAll ref).2 ∧ w'.ownsRow W.heap.size 131 3 V (readsList reads 5 0).length (flatR (readsList reads 5 0))) := by
    intro W c0 c1 hy hz hW
    by_cases hbad : (sRef ref).2 = true ∨ (sReads reads 5 0).2 = true
    · refine (attemptBoth_bad ref reads _ _ _ _ _ _ _ W h1 h2 c0 c1 hy hz (by omega) (by omega) hbad).mono ?_
      rintro e w' ⟨rfl, ⟨a, b, k1⟩, k2, k3⟩
      refine ⟨rfl, k3, a, b, _, k1, k2, ⟨_, _, _, rfl⟩, fun h => ?_⟩
      exfalso
      unfold chk at h
      by_cases ha : (sRef ref).2 = true
      · rw [if_pos ha] at h; simp at h
      · rw [if_neg ha, if_pos (hbad.resolve_left ha)] at h; simp at h
    · have ha : (sRef ref).2 = false := by simpa using fun h => hbad (.inl h)
      have hb : (sReads reads 5 0).2 = false := by simpa using fun h => hbad (.inr h)
      have hc : chk ref reads = (0, 0) := by unfold chk; rw [ha, hb]; rfl
      rw [hc]
      refine (attemptBoth_ok ref reads _ _ _ _ _ _ _ W h1 h2 c0 c1 hy hz (by omega) (by omega) ha hb).mono ?_
      rintro e w' ⟨rfl, k1, ⟨V, k2, k3⟩, k4⟩
      refine ⟨rfl, k4, _, _, V, k1, k2, ?_, fun _ => ⟨rfl, rfl, k3⟩⟩
      rcases k3.2 with ⟨h1, h2⟩ | ⟨g, cap, cur, h1, _⟩
      · exact ⟨none, 0, 0, h1⟩
      · exact ⟨_, _, cap, h1⟩
  have HAT := laid hAt
  clear hAt
  generalize hE : ((chk ref reads).1 : Int) = E at *
  generalize hP : ((chk ref reads).2 : Int) = P at *
  generalize hL : readsList reads 5 0 = LR at *
  clear hE hP hL
  go_enter Tryz.func58, Tryz.ntmps58
  go_wp2_with fail
  refine (HAT.out _ (by simp [go_sem]) (by simp [go_sem]) (rb_start w _ _ _ _) (zb_start w _ _ _ _ _) (by simp; omega)).mono ?_
  rintro e w1 ⟨rfl, hk2, a, b, V, hy, hz, ⟨va, n, cap, rfl⟩, hgood⟩
  obtain ⟨hbel, hm, hsz⟩ := start5 hk2
  have hf : FB w1 (w.heap.size + 1 + 1 + 1 + 1) 0 0 := hm
  have HG : Hid (E = 0 → a = qNm ref ∧ b = str (refAll ref).2 ∧ w1.ownsRow (w.heap.size + 5) 131 3 (.slice va n cap) LR.length (flatR LR)) := laid fun h => by
    obtain ⟨g1, g2, g3⟩ := hgood h
    refine ⟨g1, g2, ?_⟩
    simpa using g3
  clear hk2 hm hgood HAT
  have f0 := hf.c0
  have f1 := hf.c1
  have fz0 := hf.fz 0
  have fz1 := hf.fz 1
  have hf2 := hf.put E P
  obtain ⟨_, _, hgp⟩ := met_put (.int .i64 E) (.int .i64 P) f0 f1
  have hy2 := hy.at (hgp.block _ hy.lt (by simp))
  have hz2 := hz.at (hgp.block _ hz.lt (by simp))
  have hbel2 := hbel.grown hgp hbel.size (by intro k hk; cases hk; omega)
  have HG2 : Hid (E = 0 → a = qNm ref ∧ b = str (refAll ref).2 ∧ ((w1.setCell ⟨w.heap.size + 1 + 1 + 1 + 1, 0, none⟩ (.int .i64 E)).setCell ⟨w.heap.size + 1 + 1 + 1 + 1, 1, none⟩ (.int .i64 P)).ownsRow (w.heap.size + 5) 131 3 (.slice va n cap) LR.length (flatR LR)) := laid fun h => by
    obtain ⟨g1, g2, g3⟩ := HG.out h
    exact ⟨g1, g2, g3.kept hgp (row_ne g3 _ (.inl (by omega)))⟩
  have hsz2 := hgp.size
  clear hgp hbel HG
  go_wp2_with fail
  generalize (w1.setCell ⟨w.heap.size + 1 + 1 + 1 + 1, 0, none⟩ (.int .i64 E)).setCell ⟨w.heap.size + 1 + 1 + 1 + 1, 1, none⟩ (.int .i64 P) = w2 at *
  clear f0 f1 fz0 fz1
  have a0 := hy2.c0
  have a1 := hy2.c1
  have b0 := hz2.c0
  have c0 := hf2.c0
  have c1 := hf2.c1
  have za0 := hy2.fz 0
  have za1 := hy2.fz 1
  have zb0 := hz2.fz 0
  have zc0 := hf2.fz 0
  have zc1 := hf2.fz 1
  have s1 := set_id a0
  have s2 := set_id a1
  have s3 := set_id b0
  have s4 := set_id c0
  have s5 := set_id c1
  have hlt := hf2.lt
  clear hy hz hf hy2 hz2 hf2
  go_region
  all_goals
    go_wp2
    refine bodyPost_ret (v := .tuple #[.agg #[.string a, .string b], .slice va n cap, .agg #[.int .i64 E, .int .i64 P]]) ?_ rfl ?_
    · simp [results, Tryz.results58, go_sem, a0, a1, b0, c0, c1]
    · exact ⟨a, b, .slice va n cap, rfl, ⟨_, _, _, rfl⟩, hbel2.drew, fun h => by
        obtain ⟨g1, g2, g3⟩ := HG2.out h
        exact ⟨g1, g2, row_base3 (drew_row g3) (by omega)⟩⟩

set_option maxHeartbeats 1000000 in
theorem readBoth_long (ref reads : ByteArray) (w : World) (h1 : ref.size ≤ maxLen) (h2 : reads.size ≤ maxLen) (hl : 400 < ref.size ∨ 600 < reads.size) :
    Calls Tryz.prog 58 #[.string ref, .string reads] w fun e w' => bothPost w ref reads 1 0 (readsList reads 5 0) e w' := by
  have hmf : ∀ (fn : Fn) (first cap : Array Value) (w : World), (Instr.makeFunc fn first cap).run Tryz.prog w = .ok (.func fn first cap) w := fun _ _ _ _ => rfl
  unfold maxLen at h1 h2
  generalize hL : readsList reads 5 0 = LR at *
  clear hL
  by_cases ha : 400 < ref.size
  · clear hl
    go_enter Tryz.func58, Tryz.ntmps58
    go_wp2
    refine bodyPost_ret (v := .tuple #[.agg #[.string ⟨#[]⟩, .string ⟨#[]⟩], .slice none 0 0, .agg #[.int .i64 1, .int .i64 0]]) ?_ rfl ?_
    · simp [results, Tryz.results58, go_sem]
    · refine ⟨_, _, _, rfl, ⟨_, _, _, rfl⟩, ?_, fun h => by simp at h⟩
      exact ((((((Below.refl _ _).alloc (Nat.le_refl _) _).alloc (by simp) _).alloc (by simp; omega) _).alloc (by simp; omega) _).alloc (by simp; omega) _)
  · have hb := hl.resolve_left ha
    clear hl
    go_enter Tryz.func58, Tryz.ntmps58
    go_wp2
    refine bodyPost_ret (v := .tuple #[.agg #[.string ⟨#[]⟩, .string ⟨#[]⟩], .slice none 0 0, .agg #[.int .i64 1, .int .i64 0]]) ?_ rfl ?_
    · simp [results, Tryz.results58, go_sem]
    · refine ⟨_, _, _, rfl, ⟨_, _, _, rfl⟩, ?_, fun h => by simp at h⟩
      exact ((((((Below.refl _ _).alloc (Nat.le_refl _) _).alloc (by simp) _).alloc (by simp; omega) _).alloc (by simp; omega) _).alloc (by simp; omega) _)

/-- the program's reading of both texts, at all strings -/
theorem readBoth_any (ref reads : ByteArray) (w : World) (h1 : ref.size ≤ maxLen) (h2 : reads.size ≤ maxLen) :
    Calls Tryz.prog 58 #[.string ref, .string reads] w fun e w' => bothPost w ref reads (checkE ref reads) (checkP ref reads) (readsList reads 5 0) e w' := by
  by_cases hl : 400 < ref.size ∨ 600 < reads.size
  · have e1 : checkE ref reads = 1 := if_pos hl
    have e2 : checkP ref reads = 0 := if_pos hl
    rw [e1, e2]
    exact readBoth_long ref reads w h1 h2 hl
  · have e1 : checkE ref reads = ((chk ref reads).1 : Int) := if_neg hl
    have e2 : checkP ref reads = ((chk ref reads).2 : Int) := if_neg hl
    rw [e1, e2]
    exact readBoth_short ref reads w (by omega) (by omega)

set_option maxHeartbeats 1000000 in
theorem checkTop_any (ref reads : ByteArray) (w : World) (h1 : ref.size ≤ maxLen) (h2 : reads.size ≤ maxLen) :
    Calls Tryz.prog 52 #[.string ref, .string reads] w fun e w' => e = .returned (.tuple #[.int .i64 (checkE ref reads), .int .i64 (checkP ref reads)]) ∧ Below w.heap.size w w' := by
  have HC := laid (readBoth_any ref reads w h1 h2)
  generalize checkE ref reads = E at *
  generalize checkP ref reads = P at *
  generalize readsList reads 5 0 = LR at *
  go_enter Tryz.func52, Tryz.ntmps52
  go_wp2_with fail
  refine HC.out.mono ?_
  rintro e w1 ⟨a, b, V, rfl, ⟨va, n, cap, rfl⟩, hb1, _⟩
  go_wp2
  go_quiet (fail)
  go_wp2
  go_ret2
  exact ⟨rfl, below_drewN ((hb1.alloc hb1.size _).alloc (by simp; have := hb1.size; omega) _) _⟩
end Go.Proofs.YtdcjnhipenbcfaaGreatDoor
