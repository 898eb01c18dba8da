import Derived.Test.YtdcjnhipenbcfaaGreatDoorRefReads
namespace Go.Proofs.YtdcjnhipenbcfaaGreatDoor
open Go.RowKit
set_option linter.unusedVariables false

theorem own_form {wr : World} {b : Nat} {e : TypeId} {k : Nat} {v : Value} {n : Nat} {xs : List Value} (h : wr.ownsRow b e k v n xs) : ∃ a cap, v = .slice a n cap := by
  rcases h.2 with ⟨rfl, rfl⟩ | ⟨g, cap, cur, rfl, _⟩
  · exact ⟨none, 0, rfl⟩
  · exact ⟨_, cap, rfl⟩
theorem infoRead : (Tryz.prog.info? 118).map (fun i => (i.zero, i.size, i.bytes)) = some (some (.agg #[.string ⟨#[]⟩, .string ⟨#[]⟩, .string ⟨#[]⟩]), 3, 48) := by kernel_rfl

/-- how the reference's Reads ends -/
def readsPost (w : World) (R : Nat × Bool) (LR : List (ByteArray × ByteArray × ByteArray)) (e : Ending) (w' : World) : Prop :=
  ∃ V, e = .returned (.tuple #[V, .int .i64 (placeOf R)]) ∧ Below w.heap.size w w' ∧ (R.2 = false → w'.ownsRow (w.heap.size + 1) 118 3 V LR.length (flatR LR))
theorem readsPost_bad {w w' : World} {R : Nat × Bool} {p : Nat} {LR : List (ByteArray × ByteArray × ByteArray)} (hR : R = (p, true)) (hb : Below w.heap.size w w') : readsPost w R LR (.returned (.tuple #[.slice none 0 0, .int .i64 (p : Int)])) w' := by
  subst hR; exact ⟨_, rfl, hb, fun h => Bool.noConfusion h⟩
theorem readsPost_good {w w' : World} {R : Nat × Bool} {p : Nat} {LR : List (ByteArray × ByteArray × ByteArray)} {V : Value} (hR : R = (p, false)) (hb : Below w.heap.size w w') (ho : w'.ownsRow (w.heap.size + 1) 118 3 V LR.length (flatR LR)) :
    readsPost w R LR (.returned (.tuple #[V, .int .i64 (-1)])) w' := by
  subst hR; exact ⟨_, rfl, hb, fun _ => ho⟩
theorem readMem_start (w : World) (s : ByteArray) : readMem w s (0, false) (.slice none 0 0) [] (w.alloc (.cells #[.string s, .int .i64 0, .bool false] 143)) :=
  ⟨heap_alloc_new w _, (Below.refl _ _).alloc (Nat.le_refl _) _, World.ownsRow_nil _ _ _ _⟩

/-- one read more: what is left to be read and told -/
theorem reads_next {s : ByteArray} {L LR : List (ByteArray × ByteArray × ByteArray)} {p q : Nat} {bd : Bool} {R st5 : Nat × Bool} {NM B mk : ByteArray}
    (h1 : andS (p, false) (sReads s (5 - L.length)) = R) (h2 : L ++ (if (p, false).2 = true then [] else readsList s (5 - L.length) (p, false).1) = LR) (h5 : ¬ L.length = 5) (hL : L.length ≤ 5) (hend : p < s.size) (hp : p ≤ s.size)
    (hN : nmOf s (rs1 s p) = NM) (hB : rsB s p = B) (hst : rs5 s p = st5) (hd : (q, bd) = andS st5 (sTake s ism B.size B.size)) (hm : mk = mkOf s B.size st5) :
    andS (andS (q, bd) (sMust s 10)) (sReads s (5 - (L ++ [(NM, B, mk)]).length)) = R ∧ (L ++ [(NM, B, mk)]) ++ (if (andS (q, bd) (sMust s 10)).2 = true then [] else readsList s (5 - (L ++ [(NM, B, mk)]).length) (andS (q, bd) (sMust s 10)).1) = LR := by
  have e6 : (q, bd) = rs6 s p := by unfold rs6; rw [hB, hst]; exact hd
  have e7 : andS (q, bd) (sMust s 10) = sRead s p := by rw [← rs7_eq s p hp, e6]; rfl
  have hlen : (L ++ [(NM, B, mk)]).length = L.length + 1 := by simp
  have hrec : (NM, B, mk) = oneRD s p := by unfold oneRD; rw [hN, hB, hst, hm]
  rw [e7, hlen]
  refine ⟨sReads_step (by omega) hend h1, ?_⟩
  rw [← h2, List.append_assoc]
  congr 1
  have : readsList s (5 - L.length) p = oneRD s p :: (if (sRead s p).2 = true then [] else readsList s (5 - (L.length + 1)) (sRead s p).1) := by
    rw [show 5 - L.length = (5 - (L.length + 1)) + 1 by omega]
    simp only [readsList]
    rw [if_neg (by omega)]
  simp only [Bool.false_eq_true, if_false]
  rw [this, hrec]
  rfl
theorem reads_left {s : ByteArray} {p q : Nat} {bd : Bool} {st5 : Nat × Bool} {B : ByteArray} {wr : World} {b : Nat} (hend : p < s.size) (hp : p ≤ s.size) (hB : rsB s p = B) (hst : rs5 s p = st5) (hd : (q, bd) = andS st5 (sTake s ism B.size B.size))
    (hr : RF wr b s (andS (q, bd) (sMust s 10)).1 (andS (q, bd) (sMust s 10)).2) : (andS (q, bd) (sMust s 10)).1 ≤ s.size ∧ leftN wr b s.size < s.size - p + 1 := by
  have e6 : (q, bd) = rs6 s p := by unfold rs6; rw [hB, hst]; exact hd
  have e7 : andS (q, bd) (sMust s 10) = sRead s p := by rw [← rs7_eq s p hp, e6]; rfl
  rw [e7] at hr ⊢
  have hle := sRead_le s p hp
  refine ⟨hle.2, ?_⟩
  have hm := sRead_more s p
  generalize sRead s p = st at *
  obtain ⟨p', b'⟩ := st
  cases b' with
  | true => have := hr.left_bad s.size; simp only at *; omega
  | false =>
    have h1 := hr.left_good s.size
    have h2 := hm rfl hp
    simp only at *
    omega
theorem left_same {w w' : World} {b n : Nat} {s : ByteArray} {p : Nat} {t : Bool} (h : RF w b s p t) (h' : RF w' b s p t) : leftN w' b n = leftN w b n := by
  unfold leftN placeN; rw [h.c2, h'.c2, h.c1, h'.c1]
theorem rec_append {w : World} {s : ByteArray} {x : Nat} {st : Nat × Bool} {v v' : Value} {L : List (ByteArray × ByteArray × ByteArray)} {n b m : ByteArray} {w6 w7 : World} {o : Obj} (h : recMem w s x st v L n b m w6)
    (hown : w7.ownsRow (w.heap.size + 1) 118 3 v' (L.length + 1) (flatR L ++ [.string n, .string b, .string m])) (hg : (w6.alloc o).grownBy w7 v.ownBlock) : readMem w s st v' (L ++ [(n, b, m)]) w7 := by
  obtain ⟨⟨h1, h2, h3⟩, h4, h5, h6⟩ := h
  have hb : w.heap.size < w6.heap.size := by have := block_lt_of_cell h1.c0; simpa using this
  have hne : some w.heap.size ≠ v.ownBlock := by
    intro hh
    have := h3.lt w.heap.size hh.symm
    omega
  refine ⟨?_, ?_, ?_⟩
  · unfold RF at *
    rw [hg.block _ (by simp; omega) hne, Below.heap_alloc _ _ _ hb]; exact h1
  · refine (h2.alloc h2.size o).grown hg (by simp; have := h2.size; omega) ?_
    intro k hk
    have := h3.lt k hk
    omega
  · rw [flatR_snoc]
    simpa using hown

theorem rec_spoil {w : World} {s : ByteArray} {x : Nat} {p : Nat} {t : Bool} {v : Value} {L : List (ByteArray × ByteArray × ByteArray)} {n b m : ByteArray} {wr : World} (h : recMem w s x (p, t) v L n b m wr) : recMem w s x (p, true) v L n b m (wr.setCell ⟨w.heap.size, 2, none⟩ (.bool true)) := by
  have hp : refPost wr w.heap.size s (p, true) (wr.setCell ⟨w.heap.size, 2, none⟩ (.bool true)) := ⟨h.1.1.spoil, grownBy_put wr _ 2 _⟩
  exact h.step hp
theorem rec_put {w : World} {s : ByteArray} {x : Nat} {p : Nat} {t : Bool} {v : Value} {L : List (ByteArray × ByteArray × ByteArray)} {n b m : ByteArray} {wr : World} (h : recMem w s x (p, t) v L n b m wr) : recMem w s x (p + 1, t) v L n b m (wr.setCell ⟨w.heap.size, 1, none⟩ (.int .i64 ((p : Int) + 1))) := by
  have hp : refPost wr w.heap.size s (p + 1, t) (wr.setCell ⟨w.heap.size, 1, none⟩ (.int .i64 ((p : Int) + 1))) := ⟨h.1.1.put, grownBy_put wr _ 1 _⟩
  exact h.step hp
theorem rec_drew {w : World} {s : ByteArray} {x : Nat} {st : Nat × Bool} {v : Value} {L : List (ByteArray × ByteArray × ByteArray)} {n b m : ByteArray} {wr : World} (h : recMem w s x st v L n b m wr) : recMem w s x st v L n b m wr.drew :=
  ⟨⟨h.1.1, h.1.2.1.drew, h.1.2.2⟩, h.2⟩
theorem marks_left {w w' : World} {b n : Nat} {s : ByteArray} {p p' : Nat} (h : RF w b s p false) (h' : RF w' b s p' true) : leftN w' b n < leftN w b n := by
  rw [h'.left_bad, h.left_good]; omega
theorem marks_left2 {w w' : World} {b n : Nat} {s : ByteArray} {p : Nat} (h : RF w b s p false) (h' : RF w' b s (p + 1) false) (hn : p < n) : leftN w' b n < leftN w b n := by
  rw [h'.left_good, h.left_good]; omega

set_option maxRecDepth 100000 in
set_option maxHeartbeats 4000000 in
theorem reads_any (s : ByteArray) (w : World) (hs : s.size ≤ 1000) :
    Calls Tryz.prog 81 #[.string s] w fun e w' => readsPost w (sReads s 5 0) (readsList s 5 0) e w' := by
  generalize hR : sReads s 5 0 = R
  generalize hLR : readsList s 5 0 = LR
  have HR := laid hR
  have HLR := laid hLR
  clear hR hLR
  obtain ⟨i0, hi, hz, hsi, hby⟩ : ∃ i, Tryz.prog.info? 118 = some i ∧ i.zero = some (.agg #[.string ⟨#[]⟩, .string ⟨#[]⟩, .string ⟨#[]⟩]) ∧ i.size = 3 ∧ i.bytes = 48 := by
    have h := infoRead
    rcases hi : Tryz.prog.info? 118 with _ | i
    · rw [hi] at h; cases h
    · rw [hi] at h
      simp only [Option.map_some, Option.some.injEq, Prod.mk.injEq] at h
      exact ⟨i, rfl, h.1, h.2.1, h.2.2⟩
  have m0 := readMem_start w s
  go_enter Tryz.func81, Tryz.ntmps81
  go_wp2
  go_loopw [5] (fun v wr => ∃ (L : List (ByteArray × ByteArray × ByteArray)) (st : Nat × Bool), L.length ≤ 5 ∧ st.1 ≤ s.size ∧ readMem w s st v L wr ∧ Hid (andS st (sReads s (5 - L.length)) = R ∧ L ++ (if st.2 = true then [] else readsList s (5 - L.length) st.1) = LR)) (fun v wr => leftN wr w.heap.size s.size)
  case atStart => exact ⟨[], (0, false), by simp, by simp, m0, laid ⟨HR.out, HLR.out⟩⟩
  case round =>
    clear m0 HR HLR
    obtain ⟨L, ⟨p, bad⟩, hL, hp, hm, HF⟩ := hrel
    simp only at hp
    have r0 := hm.1.c0
    have r1 := hm.1.c1
    have r2 := hm.1.c2
    simp only at r1 r2
    have hbel := hm.2.1
    cases bad with
    | true =>
      have HE := laid (show R = (p, true) from HF.out.1.symm)
      clear HF
      go_wp2
      go_quiet (fail)
      go_wp2
      go_ret2
      exact readsPost_bad HE.out (below_drewN hbel _)
    | false =>
      obtain ⟨a, cap, rfl⟩ := own_form hm.2.2
      by_cases hend : p < s.size
      · by_cases hfull : L.length = 5
        · have HE := laid (show R = (p, true) by rw [← HF.out.1, hfull]; show sReads s (5 - 5) p = _; simp only [Nat.sub_self, sReads]; rw [decide_eq_true hend])
          clear HF
          have hb5 : ((L.length : Int) == 5) = true := by rw [hfull]; rfl
          clear hfull
          go_wp2
          go_quiet (fail)
          go_wp2
          go_ret2
          exact readsPost_bad HE.out (below_drewN hbel _)
        · have hb5 : ((L.length : Int) == 5) = false := by simp; omega
          have HFULL := laid hfull
          clear hfull
          have m0 := hm.newRec
          have hXsz : (wr.alloc (.cells #[.string ⟨#[]⟩, .string ⟨#[]⟩, .string ⟨#[]⟩] 118)).heap.size = wr.heap.size + 1 := by simp
          have HOLD := laid (hm.1.left_good s.size)
          go_wp2_with fail
          refine (must_any _ _ s (p, false) _ 64 rfl m0.1.1 hs hp).mono ?_
          rintro e w1 ⟨rfl, hp1⟩
          have m1 := m0.step hp1
          rw [andS_ok rfl] at m1
          have hl1 : (rs1 s p).1 ≤ s.size := (sMust_le s 64 p hp).2
          clear m0 hp1 hm hbel r0 r1 r2 hXsz
          simp only at m1
          rw [show sMust s 64 p = rs1 s p from rfl] at m1
          generalize wr.heap.size = X at *
          go_wp2_with fail
          refine (name_any _ _ s (rs1 s p) m1.1.1 hs hl1).mono ?_
          rintro e w2 ⟨rfl, hp2⟩
          have m2 := m1.step hp2
          have hl2 : (rs2 s p).1 ≤ s.size := (sHead_le s 64 p hp).2
          rw [show andS (rs1 s p) (sName s) = rs2 s p from rfl] at m2
          clear m1 hp2
          have c0 := m2.2.1.c0
          have f0 := m2.2.1.fz 0
          generalize hNM : nmOf s (rs1 s p) = NM at *
          have HNM := laid hNM
          clear hNM
          have m3 := m2.put0 NM
          clear m2
          go_wp2_with fail
          refine (line_any _ _ s (rs2 s p) _ 30 rfl (by omega) m3.1.1 hs hl2).mono ?_
          rintro e w3 ⟨rfl, hp3⟩
          have m4 := m3.step hp3
          have hl3 : (rs3 s p).1 ≤ s.size := (andS_le (p := (rs2 s p).1) ⟨Nat.le_refl _, hl2⟩ fun q hq => sLine_le s 30 q hq).2
          rw [show andS (rs2 s p) (sLine s 30) = rs3 s p from rfl] at m4
          clear m3 hp3 c0 f0
          have c1 := m4.2.1.c1
          have f1 := m4.2.1.fz 1
          rw [show lnAt s 30 (rs2 s p) = rsB s p from rfl]
          have hBz : (rsB s p).size ≤ 30 := by
            unfold rsB lnAt
            split
            · exact Nat.zero_le _
            · rw [lnOf_size s 30 _ hl2]; exact nLine_le _ _ _
          have m5 := m4.put1 (rsB s p)
          clear m4
          go_wp2_with fail
          refine (must_any _ _ s (rs3 s p) _ 43 rfl m5.1.1 hs hl3).mono ?_
          rintro e w4 ⟨rfl, hp4⟩
          have m6 := m5.step hp4
          have hl4 : (rs4 s p).1 ≤ s.size := (andS_le (p := (rs3 s p).1) ⟨Nat.le_refl _, hl3⟩ fun q hq => sMust_le s 43 q hq).2
          rw [show andS (rs3 s p) (sMust s 43) = rs4 s p from rfl] at m6
          clear m5 hp4 c1 f1
          go_wp2_with fail
          refine (must_any _ _ s (rs4 s p) _ 10 rfl m6.1.1 hs hl4).mono ?_
          rintro e w5 ⟨rfl, hp5⟩
          have m7 := m6.step hp5
          have hl5 : (rs5 s p).1 ≤ s.size := (andS_le (p := (rs4 s p).1) ⟨Nat.le_refl _, hl4⟩ fun q hq => sMust_le s 10 q hq).2
          rw [show andS (rs4 s p) (sMust s 10) = rs5 s p from rfl] at m7
          clear m6 hp5
          generalize hB : rsB s p = B at *
          have HB := laid hB
          clear hB
          generalize hst5 : rs5 s p = st5 at *
          have HST5 := laid hst5
          clear hst5 hl1 hl2 hl3 hl4
          go_wp2
          go_loopw [] (fun wi => ∃ (q : Nat) (bd : Bool) (mk : ByteArray), recMem w s X (q, bd) (.slice a L.length cap) L NM B mk wi ∧ Hid (marksRel s B.size st5 q bd mk)) (fun wi => leftN wi w.heap.size s.size)
          case atStart => exact ⟨st5.1, st5.2, ⟨#[]⟩, m7, laid (marks_start _ _ _)⟩
          case round =>
            clear m7
            obtain ⟨q, bd, mk, mm, HM⟩ := hrel
            have hms := marks_size HM.out hl5
            have r0 := mm.1.1.c0
            have r1 := mm.1.1.c1
            have r2 := mm.1.1.c2
            have rf1 := mm.1.1.fz 1
            have rf2 := mm.1.1.fz 2
            have x1 := mm.2.1.c1
            have x2 := mm.2.1.c2
            have xf2 := mm.2.1.fz 2
            simp only at r1 r2
            cases bd with
            | true =>
              have HD := laid (marks_done HM.out hl5 (.inl rfl))
              go_wp2_with fail
              refine (must_any _ _ s (q, true) _ 10 rfl mm.1.1 hs hms.2).mono ?_
              rintro e w6 ⟨rfl, hp6⟩
              have m8 := mm.step hp6
              have HN := laid (reads_next (mk := mk) HF.out.1 HF.out.2 HFULL.out hL hend hp HNM.out HB.out HST5.out HD.out.1 HD.out.2)
              have HLE := laid (reads_left (wr := w6) (b := w.heap.size) hend hp HB.out HST5.out HD.out.1 m8.1.1)
              generalize andS (q, true) (sMust s 10) = st7 at *
              clear mm hp6 r0 r1 r2 rf1 rf2 x1 x2 xf2 HM HD HF
              have y0 := m8.2.1.c0
              have y1 := m8.2.1.c1
              have y2 := m8.2.1.c2
              have hown := m8.1.2.2
              go_wp2_with (at_builtin; refine wpList_append_own _ rfl _ _ 121 rfl (w.heap.size + 1) 118 i0 (.agg #[.string ⟨#[]⟩, .string ⟨#[]⟩, .string ⟨#[]⟩]) 3 48 Tryz.underlying121 hi hz hsi hby rfl (by decide) _ _ _ rfl (hown.alloc _) ⟨w6.heap.size, 0, none⟩ 1 1 [.string NM, .string B, .string mk] rfl rfl ?c1 ?c2 ?c3 ?c4 ?c5 ?_)
              case c1 =>
                intro j u hj
                match j, hj with
                | 0, hj => simp at hj; subst hj; simp [Addr.add, go_sem]
                | 1, hj => simp at hj; subst hj; simp [Addr.add, go_sem]
                | 2, hj => simp at hj; subst hj; simp [Addr.add, go_sem]
              case c2 => intro u hu; simp at hu; rcases hu with rfl | rfl | rfl <;> rfl
              case c3 => unfold maxLen; omega
              case c4 => omega
              case c5 => have := m8.1.2.1.size; have := m8.1.1.c0; have := block_lt_of_cell this; simp at *; omega
              intro v' w7 hown' hgrow _
              have m9 := rec_append m8 hown' hgrow
              have HL9 := laid (left_same (n := s.size) m8.1.1 m9.1)
              clear hown hown' hgrow y0 y1 y2 m8 hi hz hsi hby hl5 hms
              go_wp2
              go_roundw
              case rel => exact ⟨L ++ [(NM, B, mk)], st7, by simp; have := HFULL.out; omega, HLE.out.1, m9, HN⟩
              case measure => go_light; rw [HOLD.out, HL9.out]; exact HLE.out.2
            | false =>
              by_cases hlt2 : mk.size < B.size
              · have HF2 := HF
                clear HF
                by_cases hqe : q < s.size
                · by_cases h33 : 33 ≤ (s[q].toNat : Int)
                  · by_cases h126 : (s[q].toNat : Int) ≤ 126
                    · have hism : ism s[q] = true := by unfold ism ismI; simp; omega
                      have HM2 := laid (marks_more HM.out hl5 hlt2 hqe hism)
                      clear hism
                      have hw1 : IntKind.i64.wrap ((q : Int) + 1) = (q : Int) + 1 := IntWalk.i64_in _ (by omega)
                      have hi1 : (q : Int) + 1 ≤ (s.size : Int) := by omega
                      have hi2 : (q : Int) < (s.size : Int) := by omega
                      have hex := extract_one s q hqe
                      have hmz : mk.size ≤ 30 := by omega
                      have m10 := mm.put2 (mk ++ ⟨#[s[q]]⟩)
                      have t1 := m10.1.1.c1
                      have tf := m10.1.1.fz 1
                      have m11 := rec_drew (rec_put m10)
                      have HLT := laid (marks_left2 (n := s.size) mm.1.1 m11.1.1 hqe)
                      simp only at t1
                      go_wp2
                      go_region
                      all_goals
                        go_wp2
                        go_roundw
                        case rel => exact ⟨q + 1, false, mk ++ ⟨#[s[q]]⟩, m11, HM2⟩
                        case measure => go_light; exact HLT.out
                    · have hism : ism s[q] = false := by unfold ism ismI; simp; omega
                      have HB2 := laid (marks_bad HM.out hl5 hlt2 (fun _ => hism))
                      have mnew := rec_spoil mm
                      have HLT := laid (marks_left (n := s.size) mm.1.1 mnew.1.1)
                      go_wp2
                      go_roundw
                      case rel => exact ⟨q, true, mk, mnew, HB2⟩
                      case measure => go_light; exact HLT.out
                  · have hism : ism s[q] = false := by unfold ism ismI; simp; omega
                    have HB2 := laid (marks_bad HM.out hl5 hlt2 (fun _ => hism))
                    have mnew := rec_spoil mm
                    have HLT := laid (marks_left (n := s.size) mm.1.1 mnew.1.1)
                    go_wp2
                    go_roundw
                    case rel => exact ⟨q, true, mk, mnew, HB2⟩
                    case measure => go_light; exact HLT.out
                · have HB2 := laid (marks_bad HM.out hl5 hlt2 (fun h => absurd h hqe))
                  have mnew := rec_spoil mm
                  have HLT := laid (marks_left (n := s.size) mm.1.1 mnew.1.1)
                  go_wp2
                  go_roundw
                  case rel => exact ⟨q, true, mk, mnew, HB2⟩
                  case measure => go_light; exact HLT.out
              · have HD := laid (marks_done HM.out hl5 (.inr hlt2))
                go_wp2_with fail
                refine (must_any _ _ s (q, false) _ 10 rfl mm.1.1 hs hms.2).mono ?_
                rintro e w6 ⟨rfl, hp6⟩
                have m8 := mm.step hp6
                have HN := laid (reads_next (mk := mk) HF.out.1 HF.out.2 HFULL.out hL hend hp HNM.out HB.out HST5.out HD.out.1 HD.out.2)
                have HLE := laid (reads_left (wr := w6) (b := w.heap.size) hend hp HB.out HST5.out HD.out.1 m8.1.1)
                generalize andS (q, false) (sMust s 10) = st7 at *
                clear mm hp6 r0 r1 r2 rf1 rf2 x1 x2 xf2 HM HD HF
                have y0 := m8.2.1.c0
                have y1 := m8.2.1.c1
                have y2 := m8.2.1.c2
                have hown := m8.1.2.2
                go_wp2_with (at_builtin; refine wpList_append_own _ rfl _ _ 121 rfl (w.heap.size + 1) 118 i0 (.agg #[.string ⟨#[]⟩, .string ⟨#[]⟩, .string ⟨#[]⟩]) 3 48 Tryz.underlying121 hi hz hsi hby rfl (by decide) _ _ _ rfl (hown.alloc _) ⟨w6.heap.size, 0, none⟩ 1 1 [.string NM, .string B, .string mk] rfl rfl ?c1 ?c2 ?c3 ?c4 ?c5 ?_)
                case c1 =>
                  intro j u hj
                  match j, hj with
                  | 0, hj => simp at hj; subst hj; simp [Addr.add, go_sem]
                  | 1, hj => simp at hj; subst hj; simp [Addr.add, go_sem]
                  | 2, hj => simp at hj; subst hj; simp [Addr.add, go_sem]
                case c2 => intro u hu; simp at hu; rcases hu with rfl | rfl | rfl <;> rfl
                case c3 => unfold maxLen; omega
                case c4 => omega
                case c5 => have := m8.1.2.1.size; have := m8.1.1.c0; have := block_lt_of_cell this; simp at *; omega
                intro v' w7 hown' hgrow _
                have m9 := rec_append m8 hown' hgrow
                have HL9 := laid (left_same (n := s.size) m8.1.1 m9.1)
                clear hown hown' hgrow y0 y1 y2 m8 hi hz hsi hby hl5 hms
                go_wp2
                go_roundw
                case rel => exact ⟨L ++ [(NM, B, mk)], st7, by simp; have := HFULL.out; omega, HLE.out.1, m9, HN⟩
                case measure => go_light; rw [HOLD.out, HL9.out]; exact HLE.out.2
      · have HE := laid (show R = (p, false) by
          rw [← HF.out.1]; show sReads s (5 - L.length) p = _
          exact sReads_end (by omega) rfl)
        have HL := laid (show L = LR by
          have := HF.out.2
          simp only [Bool.false_eq_true, if_false] at this
          rw [← this]
          have : readsList s (5 - L.length) p = [] := by
            generalize 5 - L.length = n
            cases n with
            | zero => rfl
            | succ n => simp only [readsList]; rw [if_pos (by omega)]
          rw [this, List.append_nil])
        clear HF
        go_wp2
        go_ret2
        have := hm.2.2
        rw [HL.out] at this
        rw [HL.out]
        exact readsPost_good HE.out hbel this
end Go.Proofs.YtdcjnhipenbcfaaGreatDoor
