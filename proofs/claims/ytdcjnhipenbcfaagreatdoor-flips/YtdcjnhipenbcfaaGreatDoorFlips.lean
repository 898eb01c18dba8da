/-
  For every script, spotterlaw.Flips returns true: every step that calls Flip gets from the program the very text and error that the document's reference answer gives, and the script reads afterwards as it read before.
  Conditions: none beyond those of the statement itself (a tied card: the library's three tables read as the program's own text lays them).
-/
import Derived.Test.YtdcjnhipenbcfaaGreatDoorCards
import Derived.Test.YtdcjnhipenbcfaaGreatDoorTie
import Derived.Test.YtdcjnhipenbcfaaGreatDoorLaid
import Derived.Test.YtdcjnhipenbcfaaGreatDoorOpenOps
import Derived.WalkKit
import Derived.ProofKit
import Derived.OpenShut
import Derived.ShutString
import Derived.ChangeOld
import Derived.Below
import Derived.LaidMore
import Derived.Stop.Joined
import Derived.SevenTiedAt
import Derived.Test.YtdcjnhipenbcfaaGreatDoorLeave
import Derived.Test.YtdcjnhipenbcfaaGreatDoorPlays
namespace Go.Proofs.YtdcjnhipenbcfaaGreatDoor.flips
open Go Go.ChangeShapes Go.WideShapes Go.ChangeAt Go.RowKit
set_option linter.unusedVariables false

theorem yes (o : OpV) (h5 : o.ref.size ≤ maxLen) (h6 : o.s.size ≤ maxLen) (h1 : 2 ≤ o.kind) (h2 : o.kind ≤ 2) : PlaysYes o := by
  intro w _
  obtain ⟨kd, k, q, st, wk, ref, s⟩ := o
  simp only at h1 h2 h6
  have : kd = 2 := by omega
  subst this
  exact playsFlip k q st wk ref s w h6

theorem own : ownKnob Tryz.prog.godebug = none := by kernel_rfl
theorem laidOut : laidOutB Tryz.prog = true := by kernel_rfl

set_option maxRecDepth 100000 in
theorem lone_run (os : Os) (started : os.Started) (H : Type) (enc : TypeId × Value → H) :
    ReturnsInHanded { calm := true } Tryz.checked os 4 .any (fun w args => (Rows.flipsSpec.pre enc Tryz.prog Tryz.f4 [] false w args ∧ laidMetH Tryz.prog laid3 w) ∧ sizedMet enc Tryz.prog Tryz.f4 (OpenSpec.ofChange Rows.flipsSpec) false w args)
      (Rows.flipsSpec.post enc Tryz.prog Tryz.f4 false true false false) := by
  refine returnsInHanded_of_change_and (C := Tryz.checked) (X := fun w _ => laidMetH Tryz.prog laid3 w) (fun _ _ _ hh h => h.of_heap hh) own started (by kernel_rfl) Tryz.func4
    (witness_calm (enc := enc) (C := Tryz.checked) (os := os) (X := fun w _ => laidMetH Tryz.prog laid3 w) (World.doorLaid Tryz.prog 400 os) #[.slice none 0 0] 8 rfl (World.shaped_of_RefB (by kernel_rfl) (by kernel_rfl)) (by kernel_rfl) (by kernel_rfl) (by kernel_rfl) (door_met os _)) ?_
  intro W base args ds gs before hval0 hW _ _ hL _
  have hval : ∀ (j : Nat) t v, Tryz.f4.params[j]? = some t → args[j]? = some v → Value.okWide Tryz.prog W .any base t v := hval0
  have hW' := hW
  obtain ⟨p, q, hA0, hV, rfl, hfz, hnd⟩ := hW
  have hA : DataW.TrodAll enc Tryz.prog W 0 (fun _ => true) true Tryz.f4.params.toList args.toList ds p := hA0
  rw [Tryz.params4] at hA hval
  obtain ⟨v0, vs0, d0, ds0, p0, q0, hargs, rfl, rfl, h0, r0⟩ := trodAll_cons hA
  obtain ⟨rfl, rfl, rfl⟩ := trodAll_nil r0
  obtain rfl : args = #[v0] := by cases args; simp_all
  obtain ⟨rfl, rfl⟩ := trodVars_none hV
  obtain ⟨a0, len0, cap0, rfl⟩ := okWide_slice Tryz.underlying22 (hval 0 22 v0 rfl rfl)
  have k0 := h0
  have lt0 : ∀ x ∈ p0, x.block < W.heap.size := by obtain ⟨m, hm⟩ := k0; exact DataW.trod_lt m _ _ _ hm
  obtain ⟨z0, w0⟩ : ∃ zs, IsOps W a0 len0 cap0 zs := by
    obtain ⟨fuel, hf⟩ := h0
    exact ops_of (by simpa [Value.cells] using hf)
  clear hA0 hval0
  refine (lawFlips W a0 len0 cap0 z0 (tab_of_laid hL) w0 yes).mono fun e W' ⟨he, bel⟩ => ?_
  subst he
  exact ⟨_, rfl, _, _, _, [], _, [], hW', trodAll_mk1 (shut_bool Tryz.underlying4 _), (trodAll_cons_mk (Below.trod laidOut (by kernel_rfl) (of_decide_eq_true (by kernel_rfl)) k0 bel lt0) trodAll_mk0), rfl, bel.frame _, fun h => by cases h⟩

theorem over : Rows.FlipsSaid :=
  OpenClaim.holds_of_wide_leaving_time 4 Tryz.f4 rfl rfl rfl rfl rfl rfl rfl ⟨rfl, rfl, rfl, rfl, rfl⟩ rfl rfl rfl rfl rfl (by kernel_rfl) Tryz.func4 (by kernel_rfl)
    (of_decide_eq_true (by kernel_rfl)) (by unfold Func.isWrapper; first | (rw [if_pos (by decide +kernel)]; kernel_rfl) | (rw [if_neg (by decide +kernel)]; exact ⟨rfl, rfl⟩))
    (fun os started H enc _ _ => leaving_of_handed (lone_run os started H enc))

theorem card : Rows.FlipsCardSaid :=
  tied_goes [.data, .data, .data] true Rows.flipsCard.stood.harness true
    over (by kernel_rfl) flips_row_tie rfl ⟨rfl, rfl⟩ (by kernel_rfl) rfl
    (fun f fn hf hfn => by
      obtain rfl : f = 4 := Option.some.inj ((show Program.funcNamed Tryz.prog Rows.flipsRow.func = some 4 by kernel_rfl).symm.trans hf) |>.symm
      obtain rfl : fn = Tryz.f4 := (Option.some.inj (Tryz.func4.symm.trans hfn)).symm
      exact ⟨by kernel_rfl, fun j t ht => by
        rw [Tryz.params4] at ht
        have hm : t ∈ [22] := by simpa using Array.mem_of_getElem? ht
        have hall : ([22].all fun u => !Program.wantsStandIn Tryz.prog u) = true := by kernel_rfl
        exact (show Program.wantsStandIn Tryz.prog t = false by simpa using List.all_eq_true.1 hall t hm)⟩)
    (by kernel_rfl)

end Go.Proofs.YtdcjnhipenbcfaaGreatDoor.flips
namespace Go.Proofs.YtdcjnhipenbcfaaGreatDoor
theorem flips_holds : Rows.FlipsCardSaid := flips.card
#print axioms flips_holds
end Go.Proofs.YtdcjnhipenbcfaaGreatDoor
