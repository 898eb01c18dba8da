/-
  Own text. A CALL WHOSE RUN IS OF ONE GOROUTINE, UNDER A ROW THAT SAYS 'leaving' AND 'timePasses' (the row says so because the text beneath it can start goroutines): what the lone walk's contract gives is more than that row asks. Four small bridges, for any program: nobody else is there, so everybody else only leaves; the outside stands, so time alone may have passed; a start at a calm tape; the tied card of a function that can start goroutines.
-/
import Derived.Conc.HoldsTime
import Derived.StillGives
import Derived.LaidLaws
import Derived.SevenTiedAt
namespace Go.Proofs.YtdcjnhipenbcfaaGreatDoor

/-- All others have ended: so they only leave. -/
theorem leaving_of_alone {P : Program} {m : Machine} {w : World} {t : Trace} (h : aloneAtReturn P m w t) : leavingAtReturn P m w t := by
  obtain ⟨⟨hd, ht⟩, ho, he⟩ := h
  refine ⟨ho, ⟨fun g hg => ⟨0, ?_⟩, ht⟩, he⟩
  have := List.all_eq_true.1 hd g hg
  show g.status = .finished
  cases hs : g.status <;> rw [hs] at this <;> first | rfl | exact absurd this (by decide) | (simp at this)

/-- The outside stands: time has passed by nought. -/
theorem postWith_of_still {H : Type} {enc : TypeId × Value → H} {P : Program} {f : Func} {s : ChangeSpec} {F : Stop.Interp} {apart fresh handsOn : Bool} {W W' : World} {args : Array Value} {v : Value}
    (h : s.post enc P f apart fresh handsOn false W args v W') : (OpenSpec.ofChange s).postWith enc P f F (outsideKept [.timePasses]) apart fresh handsOn W args v W' := by
  have hos : W'.os = W.os := by
    obtain ⟨_, _, _, _, _, _, _, _, _, _, h5, _⟩ := h
    exact h5.1
  have e : { W' with os := W.os } = W' := by rw [← hos]
  exact postWith_of_post (by rw [e]; exact h) (by rw [hos]; exact Go.ConcM.OsLater.refl _)

/-- A start that fits, at the tape of noughts, which is calm. -/
theorem witness_calm {H : Type} {enc : TypeId × Value → H} {C : Checked} {os : Os} {f : FuncId} {fn : Func} {s : ChangeSpec} {conds : List PathCond} {apart : Bool} {X : World → Array Value → Prop} (w0 : World) (args : Array Value) (fuel : Nat) (hos : w0.os = os)
    (hsh : (w0.forCall (fun _ _ => 0) ⟨#[], args, []⟩).Shaped C.prog)
    (hok : Input.okWideB C.prog (w0.forCall (fun _ _ => 0) ⟨#[], args, []⟩) f ⟨#[], args, []⟩ = true)
    (hpre : s.preB enc C.prog fn conds apart (w0.forCall (fun _ _ => 0) ⟨#[], args, []⟩).memory args fuel = true)
    (hsz : s.sizedB enc C.prog fn apart (w0.forCall (fun _ _ => 0) ⟨#[], args, []⟩).memory args fuel = true)
    (hx : X (w0.forCall (fun _ _ => 0) ⟨#[], args, []⟩).memory args) :
    ∃ (w : World) (tape : Tape) (i : Input), w.os = os ∧ (w.forCall tape i).Shaped C.prog ∧ i.vars = [] ∧ Input.okWide C.prog (w.forCall tape i) .any w.heap.size f i ∧
      ((s.pre enc C.prog fn conds apart (w.forCall tape i).memory i.args ∧ X (w.forCall tape i).memory i.args) ∧ sizedMet enc C.prog fn (OpenSpec.ofChange s) apart (w.forCall tape i).memory i.args) ∧
      ({ calm := true } : Assume).holds C.prog (lone (Frame.enter C.prog f i.args .normal) [] (w.forCall tape i)) := by
  have h := Input.okWide_of_okWideB (base := w0.heap.size) hok
  refine ⟨w0, fun _ _ => 0, ⟨#[], args, []⟩, hos, hsh, h.1, h.2, ⟨⟨ChangeSpec.pre_of_preB hpre, hx⟩, sizedMet_of_sizedB hsz⟩, ?_⟩
  simp only [Assume.holds]
  exact ⟨by simp, fun _ _ _ _ => rfl, by simp, by simp, by simp⟩

/-- The lone contract gives the leaving row's. -/
theorem leaving_of_handed {H : Type} {enc : TypeId × Value → H} {a : Assume} {C : Checked} {os : Os} {f : FuncId} {r : Reach} {fn : Func} {s : ChangeSpec} {F : Stop.Interp} {apart fresh handsOn : Bool} {Pre : World → Array Value → Prop}
    (h : ReturnsInHanded a C os f r Pre (s.post enc C.prog fn apart fresh handsOn false)) :
    ReturnsInLeavingWide a C os f r Pre ((OpenSpec.ofChange s).postWith enc C.prog fn F (outsideKept [.timePasses]) apart fresh handsOn) := fun enter =>
  ReturnsInOpen.mono (fun _ _ _ x => leaving_of_alone x) (fun _ x => x) (ReturnsInOpen.mono_post (fun _ _ _ _ x => postWith_of_still x) (h enter))

/-- The tied card of a function that can start goroutines, from its row. -/
theorem tied_goes {p : Pinned} {s : OpenSpec} {c : OpenClaim} (kinds : List LaidKind) (tests : Bool) (har : Bool × String) (lk : Bool)
    (hc : c.holds p s) (hw : c.wfByText s = true) (htie : c.laidByTextAt .later p kinds tests)
    (hst : c.start = .entering) (hnb : c.noBlocks = false ∧ c.again = false) (hm : p.checked.prog.mainIs = some (har.1, har.2.toList)) (hn : (!har.1 && har.2.isEmpty && !lk) = false)
    (hl : ∀ f fn, p.checked.prog.funcNamed c.func = some f → p.checked.prog.funcs[f]? = some fn → lk = p.checked.prog.looks [] ∧ ∀ (j : Nat) t, fn.params[j]? = some t → p.checked.prog.wantsStandIn t = false)
    (hg : true = c.goesBy p.checked.prog) :
    Claim7.holds p (.plain s) { stood := { row := c, standIns := [], harness := har, looks := lk }, kinds := [], alts := [], goes := true, laidByText := true, laidKinds := kinds, laidTests := tests, laidLooks := .later } := by
  have h6 : Claim7.isSixth { stood := { row := c, standIns := [], harness := har, looks := lk }, kinds := [] } = false := by simpa [Claim7.isSixth] using hn
  exact ⟨Claim7.tied_new_at .later kinds tests (Claim7.new_of_sixth hc har lk hst hnb hm h6 hl) hw, (fun _ h => by cases h), htie, (fun h => by cases h), hg⟩

end Go.Proofs.YtdcjnhipenbcfaaGreatDoor
