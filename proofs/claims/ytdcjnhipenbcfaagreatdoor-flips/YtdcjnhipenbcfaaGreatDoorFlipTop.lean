import Derived.Test.YtdcjnhipenbcfaaGreatDoorAttempt
namespace Go.Proofs.YtdcjnhipenbcfaaGreatDoor
open Go.RowKit
set_option linter.unusedVariables false

theorem below_of_grown2 {w w1 : World} {o o' : Obj} (h : ((w.alloc o).alloc o').grownBy w1 (some (w.heap.size + 1))) : Below w.heap.size w w1 :=
  Below.grown (((Below.refl _ _).alloc (Nat.le_refl _) o).alloc (by simp) o') h (by simp; omega) (by intro k hk; cases hk; omega)

set_option maxHeartbeats 400000 in
theorem flipTop_any (s : ByteArray) (w : World) (hs : s.size ≤ maxLen) :
    Calls Tryz.prog 35 #[.string s] w fun e w' => e = .returned (.tuple #[.string (flipS s), .int .i64 (flipE s)]) ∧ Below w.heap.size w w' := by
  have hmf : ∀ (fn : Fn) (first cap : Array Value) (w : World), (Instr.makeFunc fn first cap).run Tryz.prog w = .ok (.func fn first cap) w := fun _ _ _ _ => rfl
  unfold maxLen at hs
  by_cases h1 : 200 < s.size
  · have e1 : flipS s = ⟨#[]⟩ := by unfold flipS; rw [if_pos h1]
    have e2 : flipE s = 1 := by unfold flipE; rw [if_pos h1]
    rw [e1, e2]
    clear e1 e2
    go_enter Tryz.func35, Tryz.ntmps35
    go_wp2
    go_ret2
    exact ⟨rfl, (Below.refl _ _).alloc (Nat.le_refl _) _⟩
  · by_cases h2 : s.data.toList.all isb = true
    · have e2 : flipE s = 0 := by unfold flipE; rw [if_neg h1, if_pos h2]
      rw [e2]
      clear e2
      have H2 := laid h2
      clear h2
      go_enter Tryz.func35, Tryz.ntmps35
      go_wp2_with fail
      refine (attemptFlip_ok s w.heap.size (w.heap.size + 1) (.string ⟨#[]⟩) _ (by omega) H2.out (by simp [go_sem]) (by simp [go_sem]) (by simp [go_sem])).mono ?_
      rintro e w1 ⟨rfl, hcy, hg⟩
      have hsz : w.heap.size + 1 < w1.heap.size := by have := hg.size; simp at this; omega
      have hbel := below_of_grown2 hg
      clear hg
      go_wp2
      go_quiet (fail)
      go_wp2
      go_ret2
      exact ⟨rfl, below_drewN (hbel.alloc (by omega) _) _⟩
    · rw [Bool.not_eq_true] at h2
      have e1 : flipS s = ⟨#[]⟩ := by unfold flipS; rw [if_neg h1, h2]; rfl
      have e2 : flipE s = 5 := by unfold flipE; rw [if_neg h1, h2]; rfl
      rw [e1, e2]
      clear e1 e2
      have H2 := laid h2
      clear h2
      go_enter Tryz.func35, Tryz.ntmps35
      go_wp2_with fail
      refine (attemptFlip_bad s w.heap.size (w.heap.size + 1) _ (by omega) H2.out (by simp [go_sem])).mono ?_
      rintro e w1 ⟨⟨p, rfl⟩, hb1⟩
      have hsz : w.heap.size + 1 < w1.heap.size := by have := hb1.size; simp at this; omega
      have hcy : w1.cell? ⟨w.heap.size + 1, 0, none⟩ = some (.string ⟨#[]⟩) := by
        rw [hb1.cell (by simp)]; simp [go_sem]
      have hbel : Below w.heap.size w w1 := (((Below.refl _ _).alloc (Nat.le_refl _) _).alloc (by simp) _).trans (hb1.mono (by simp; omega))
      clear hb1
      go_wp2
      go_quiet (fail)
      go_wp2
      go_ret2
      exact ⟨rfl, below_drewN (hbel.alloc (by omega) _) _⟩
end Go.Proofs.YtdcjnhipenbcfaaGreatDoor
