/- Plain facts: both bare machines: move and some; where a terminator leads; a run whole. -/
import Derived.Test.YtmlgajhhnojdjaaGreatDoorSBO
import Derived.Test.YtmlgajhhnojdjaaGreatDoorSBK
import Derived.Test.YtmlgajhhnojdjaaGreatDoorSBL
namespace Go.Proofs.YtmlgajhhnojdjaaGreatDoor.Sim
open Go Go.Proofs.YtmlgajhhnojdjaaGreatDoor.Spec Go.Proofs.YtmlgajhhnojdjaaGreatDoor.Aux Go.Proofs.YtmlgajhhnojdjaaGreatDoor.Own Go.Proofs.YtmlgajhhnojdjaaGreatDoor.Mac Go.Proofs.YtmlgajhhnojdjaaGreatDoor.Ex Go.Proofs.YtmlgajhhnojdjaaGreatDoor.RefRa Go.Proofs.YtmlgajhhnojdjaaGreatDoor.RunA Go.Proofs.YtmlgajhhnojdjaaGreatDoor.RunB Go.Proofs.YtmlgajhhnojdjaaGreatDoor.PrjS Go.Proofs.YtmlgajhhnojdjaaGreatDoor.FlwA Go.Proofs.YtmlgajhhnojdjaaGreatDoor.FlwU Go.Proofs.YtmlgajhhnojdjaaGreatDoor.FlwV Go.Proofs.YtmlgajhhnojdjaaGreatDoor.FlwW Go.Proofs.YtmlgajhhnojdjaaGreatDoor.FlwX Go.Proofs.YtmlgajhhnojdjaaGreatDoor.FlwT

section
variable {text : B} {p : RP} {q : QP} {l : QLine} {ws : List B} {inp : List Int} {b : Br} {m : RM} {f : Fx}
theorem goes_some (hT : Both text true p q) (hl : RLn q l) (hk : Lk p ws l) (h12 : q.locals.length ≤ 12) (hf : f.owns = false) (h : Rb q inp b m) (h0 : m.out = 0) (hop : l.op = 14) : Goes q inp f b l (m.does f p inp ws) := by
  have hn : l.places.length = 2 := by rw [hk.plen, hop]; rfl
  obtain ⟨i, i1, i2, i3, i4, i5⟩ := opt_at hl hk h12 (j := 0) (by omega) (by rw [hop]; rfl)
  obtain ⟨b1, b2, b3⟩ := box_at hl hk h12 (j := 1) (by omega) (by rw [hop]; rfl)
  have hw : word ws 0 = wSome := by rw [hk.op, hop]; rfl
  have hd : m.does f p inp ws = m.bare p ws := by unfold RM.does; simp [hw, wAdd, wSub, wMul, wDiv, wSome, hf]
  obtain ⟨e1, f1, p1⟩ := hk.pl 1 (by omega)
  have hkb := kind_box (x := plOf l 1) (by have := fits_at hl.fits (j := 1) (by omega); rw [hop] at this; exact this)
  have hty := pl_type hT f1 p1
  have hnt : ¬ p.typeOf (word ws 2) = wOpt := fun e => by
    have := hty.2.1 e
    rw [← e1] at this
    have h3 := hkb.2.2
    unfold QP.kindV at h3
    rw [if_neg (by omega)] at h3
    omega
  have hsp : (p.spots (word ws 2)).2 = 1 := by
    rw [(spots_two hT f1 p1).1, ← e1]
    unfold QP.halvesQ
    rw [if_neg hkb.2.1]; rfl
  have hr := h.readBox b1 b2 b3
  have hB : b.breaks q l = (m.held.getD (sp p (word ws 2)) 0 == 0) := by
    unfold Br.breaks
    rw [if_neg (by omega), if_neg (by omega), if_pos (by omega), empty_is]
    simp only [List.any_cons, List.any_nil, Bool.or_false]
    rw [hr]; simp
  have eb : m.bare p ws = m.bareB p ws := by unfold RM.bare; rw [if_neg hnt]
  unfold Goes
  rw [hB, hd, eb]
  unfold RM.bareB
  simp only
  rw [hsp, RM.bareGo, Nat.add_zero, Nat.add_zero]
  by_cases hz : m.held.getD (sp p (word ws 2)) 0 = 0
  · rw [if_pos (by rw [hz]; rfl), if_pos hz]
    exact h.broken rfl rfl rfl rfl
  · rw [if_neg (by simpa using hz), if_neg hz, if_neg (by omega), if_neg (by omega), if_neg (by omega), if_neg (by omega), RM.bareGo]
    simp only
    rw [if_neg (by decide), if_pos hw, i3]
    refine ⟨?_, h0⟩
    unfold Br.do1
    rw [if_neg (by omega), if_neg (by omega), if_neg (by omega), if_neg (by omega), if_neg (by omega), if_neg (by omega), if_neg (by omega), if_neg (by omega), if_neg (by omega), if_pos hop]
    have h1 := h.tag i1 i4 i5 (c := 119) (v := 1) (.inr ⟨rfl, rfl⟩)
    have hr1 := h1.readBox b1 b2 b3
    have hc : cellOf q ((plOf l 0).1, 3) = 2 * i := by rw [not_tag (content_not_tag q _), content_slot, i2]
    have h2 := h1.hold (c := 2 * i) (n := m.held.getD (sp p (word ws 2)) 0) (by omega) (by rw [show 2 * i / 2 = i by omega, i4]; decide) hc (by omega)
    rw [show (b.write q (plOf l 0) 1).val q (plOf l 1) = ((m.held.getD (sp p (word ws 2)) 0 : Nat) : Int) by rw [Br.val, hr1]]
    exact h2
theorem move_kinds (hl : RLn q l) (hk : Lk p ws l) (hop : l.op = 12) : q.kindV (plOf l 0) = q.kindV (plOf l 1) ∧ ¬ q.tyOf (plOf l 0).1 = 0 ∧ ¬ q.tyOf (plOf l 1).1 = 0 := by
  have hn : l.places.length = 2 := by rw [hk.plen, hop]; rfl
  have hfit := hl.fits
  unfold QP.fits at hfit
  rw [Bool.and_eq_true] at hfit
  have h2 := hfit.2
  rw [hop] at h2
  refine ⟨by simpa [plOf] using h2, kind_thing ?_, kind_thing ?_⟩
  · have := fits_at hl.fits (j := 0) (by omega); rw [hop] at this; exact this
  · have := fits_at hl.fits (j := 1) (by omega); rw [hop] at this; exact this
theorem halves_same {x y : Nat × Nat} (h : q.kindV x = q.kindV y) (hx : x.2 ≤ 3) (hy : y.2 ≤ 3) : (QP.halvesQ q x).length = (QP.halvesQ q y).length := by
  have key : ∀ z : Nat × Nat, z.2 ≤ 3 → ((z.2 = 0 ∧ q.tyOf z.1 = 2) ↔ q.kindV z = 2) := fun z hz => by
    unfold QP.kindV
    split
    · exact ⟨fun e => by omega, fun e => by omega⟩
    · exact ⟨fun e => e.2, fun e => ⟨by omega, e⟩⟩
  unfold QP.halvesQ
  by_cases e : x.2 = 0 ∧ q.tyOf x.1 = 2
  · rw [if_pos e, if_pos ((key y hy).2 (h ▸ (key x hx).1 e))]; rfl
  · rw [if_neg e, if_neg (fun e2 => e ((key x hx).2 (h.trans ((key y hy).1 e2))))]; rfl
theorem goes_move (hT : Both text true p q) (hl : RLn q l) (hk : Lk p ws l) (h12 : q.locals.length ≤ 12) (hf : f.owns = false) (hF : b.Fit q) (h : Rb q inp b m) (h0 : m.out = 0) (hop : l.op = 12) : Goes q inp f b l (m.does f p inp ws) := by
  have hn : l.places.length = 2 := by rw [hk.plen, hop]; rfl
  obtain ⟨k1, k2, k3⟩ := move_kinds hl hk hop
  obtain ⟨q0, q03⟩ := place_of hl (j := 0) (by omega)
  obtain ⟨q1, q13⟩ := place_of hl (j := 1) (by omega)
  have hlen := halves_same k1 q03 q13
  have hw : word ws 0 = [109, 111, 118, 101] := by rw [hk.op, hop]; rfl
  have hd : m.does f p inp ws = m.bare p ws := by unfold RM.does; simp [hw, wAdd, wSub, wMul, wDiv, wSome, hf]
  have hns : ¬ word ws 0 = wSome := by rw [hw]; decide
  obtain ⟨e0, f0, p0⟩ := hk.pl 0 (by omega)
  obtain ⟨e1, f1, p1⟩ := hk.pl 1 (by omega)
  have es0 : slotQ (plOf l 0) = sp p (word ws 1) := by rw [e0, slot_sp]
  have es1 : slotQ (plOf l 1) = sp p (word ws 2) := by rw [e1, slot_sp]
  have hty := (pl_type hT f1 p1).2
  have hspn := (spots_two hT f1 p1).1
  rw [← e1] at hty hspn
  have hB : b.breaks q l = b.empty q (QP.halvesQ q (plOf l 1)) := by
    unfold Br.breaks
    rw [if_neg (by omega), if_neg (by omega), if_neg (by omega), if_pos hop]
  unfold Goes
  rw [hB, hd]
  have hdo : b.do1 q l = b.move q (plOf l 0) (plOf l 1) := by
    unfold Br.do1
    rw [if_neg (by omega), if_neg (by omega), if_neg (by omega), if_neg (by omega), if_neg (by omega), if_neg (by omega), if_neg (by omega), if_pos hop]
  rw [if_neg (show ¬ (l.op = 6 ∧ _) by omega), if_neg (show ¬ (l.op = 9 ∧ _) by omega), if_neg (show ¬ l.op = 9 by omega), if_neg (show ¬ l.op = 6 by omega), hdo]
  by_cases hopt : p.typeOf (word ws 2) = wOpt
  · obtain ⟨g1, g2⟩ := hty.1 hopt
    have g0 : (plOf l 0).2 = 0 ∧ q.tyOf (plOf l 0).1 = 3 := by
      unfold QP.kindV at k1
      rw [if_neg (show ¬ ((plOf l 1).2 = 1 ∨ (plOf l 1).2 = 2 ∨ (plOf l 1).2 = 3) by omega), g2] at k1
      split at k1
      · omega
      · have := (place_of hl (j := 0) (by omega)).2
        exact ⟨by omega, k1⟩
    generalize hx0 : plOf l 0 = x0 at *
    generalize hx1 : plOf l 1 = x1 at *
    have t1 : isTag q x1 = true := by unfold isTag QP.kindV; rw [if_neg (by omega), g2]; rfl
    have t0 : isTag q x0 = true := by unfold isTag QP.kindV; rw [if_neg (by omega), g0.2]; rfl
    have c1 : cellOf q x1 = 24 + x1.1 := is_tag t1
    have c0 : cellOf q x0 = 24 + x0.1 := is_tag t0
    have s1 : sp p (word ws 2) = 2 * x1.1 := by rw [← es1]; unfold slotQ; rw [if_neg (by omega)]
    have s0 : sp p (word ws 1) = 2 * x0.1 := by rw [← es0]; unfold slotQ; rw [if_neg (by omega)]
    have hv1 : QP.halvesQ q x1 = [x1] := by unfold QP.halvesQ; rw [if_neg (by omega)]
    have hv0 : QP.halvesQ q x0 = [x0] := by unfold QP.halvesQ; rw [if_neg (by omega)]
    have hr := h.readTag (pl := x1) (i := x1.1) (by omega) g2 c1
    have hsp1 : (p.spots (word ws 2)).2 = 1 := by rw [hspn, hv1]; rfl
    rw [hv1, empty_is]
    simp only [List.any_cons, List.any_nil, Bool.or_false]
    rw [hr]
    unfold RM.bare
    rw [if_pos hopt, s1]
    have hh := h.hows (2 * x1.1)
    have hmv : b.moved q x0 x1 = b.write q x0 (b.val q x1) := by unfold Br.moved; rw [hv0, hv1]; rfl
    have hval : b.val q x1 = (tagF (m.how.getD (2 * x1.1) 0)).2 := by rw [Br.val, hr]
    rcases hh with hh | hh | hh
    · rw [hh, if_pos (by decide), if_pos (by decide)]
      exact h.broken rfl rfl rfl rfl
    · rw [hh] at hval
      rw [hh, if_neg (by decide), if_neg (by decide), s0]
      simp only
      have e : (m.how.set (2 * x0.1) 110).getD (2 * x1.1) 0 = 110 := by
        rw [getD_setX]; split
        · rfl
        · exact hh
      rw [if_pos e]
      refine ⟨?_, h0⟩
      have h1 := h.tag (pl := x0) (i := x0.1) (by omega) g0.2 c0 (c := 110) (v := 0) (.inl ⟨rfl, rfl⟩)
      unfold Br.move
      rw [hmv, hval]
      have hv2 : (b.write q x0 0).val q x1 = 0 := by
        rw [Br.val, h1.readTag (pl := x1) (i := x1.1) (by omega) g2 c1]
        show (tagF ((m.how.set (2 * x0.1) 110).getD (2 * x1.1) 0)).2 = 0
        rw [e]; rfl
      rw [show (tagF 110).2 = 0 from rfl, if_neg (by rw [hv2]; simp)]
      exact h1
    · rw [hh] at hval
      rw [hh, if_neg (by decide), if_neg (by decide), s0]
      simp only
      have e : (m.how.set (2 * x0.1) 119).getD (2 * x1.1) 0 = 119 := by
        rw [getD_setX]; split
        · rfl
        · exact hh
      rw [e, if_neg (by decide)]
      have hfull := hF.tg x1.1 (by omega) g2 (by
        have := hr
        unfold Br.cell at this
        rw [c1, hh] at this
        exact this)
      have hcx : ∀ x : Nat × Nat, cellOf q (x.1, 3) = 2 * x.1 := fun x => by rw [not_tag (content_not_tag q _), content_slot]
      have hrb := h.readBox (pl := (x1.1, 3)) (c := 2 * x1.1) (by omega) (by rw [show 2 * x1.1 / 2 = x1.1 by omega, g2]; decide) (hcx x1)
      have hne : ¬ m.held.getD (2 * x1.1) 0 = 0 := fun e2 => by
        unfold Br.cell at hrb
        rw [hcx x1] at hrb
        rw [hrb, e2] at hfull
        cases hfull
      unfold RM.bareB
      simp only
      rw [hsp1, s1, s0, RM.bareGo, Nat.add_zero, Nat.add_zero]
      simp only
      rw [if_neg hne, RM.bareGo]
      simp only
      rw [if_neg (by decide), if_neg hns]
      refine ⟨?_, h0⟩
      have h1 := h.tag (pl := x0) (i := x0.1) (by omega) g0.2 c0 (c := 119) (v := 1) (.inr ⟨rfl, rfl⟩)
      unfold Br.move
      rw [hmv, hval]
      have hv2 : (b.write q x0 1).val q x1 = 1 := by
        rw [Br.val, h1.readTag (pl := x1) (i := x1.1) (by omega) g2 c1]
        show (tagF ((m.how.set (2 * x0.1) 119).getD (2 * x1.1) 0)).2 = 1
        rw [e]; rfl
      rw [show (tagF 119).2 = 1 from rfl, if_pos ⟨t1, hv2⟩]
      have hrb1 := h1.readBox (pl := (x1.1, 3)) (c := 2 * x1.1) (by omega) (by rw [show 2 * x1.1 / 2 = x1.1 by omega, g2]; decide) (hcx x1)
      have h2 := h1.hold (pl := (x0.1, 3)) (c := 2 * x0.1) (n := m.held.getD (2 * x1.1) 0) (by omega) (by rw [show 2 * x0.1 / 2 = x0.1 by omega, g0.2]; decide) (hcx x0) (by omega)
      rw [show (b.write q x0 1).val q (x1.1, 3) = ((m.held.getD (2 * x1.1) 0 : Nat) : Int) by rw [Br.val, hrb1]]
      exact h2
  · have nt1 : isTag q (plOf l 1) = false := by
      cases ht : isTag q (plOf l 1) with
      | false => rfl
      | true => obtain ⟨a1, a2⟩ := tag_opt ht; exact absurd (hty.2 ⟨by omega, a1⟩) hopt
    have nt0 : isTag q (plOf l 0) = false := by unfold isTag at nt1 ⊢; rw [k1]; exact nt1
    have eb : m.bare p ws = m.bareB p ws := by unfold RM.bare; rw [if_neg hopt]
    have hmv : b.move q (plOf l 0) (plOf l 1) = b.moved q (plOf l 0) (plOf l 1) := by unfold Br.move; rw [nt1, if_neg (by simp)]
    rw [eb, hmv]
    generalize hx0 : plOf l 0 = x0 at *
    generalize hx1 : plOf l 1 = x1 at *
    have d0 := slot_half x0
    have d1 := slot_half x1
    unfold Br.moved
    rcases halves_cases q x1 with ⟨a1, -⟩ | ⟨a1, a2, a3⟩
    · have a0 : QP.halvesQ q x0 = [x0] := by
        rcases halves_cases q x0 with ⟨a0, -⟩ | ⟨a0, -⟩
        · exact a0
        · rw [a0, a1] at hlen; simp at hlen
      rw [a1] at hspn
      have hsp1 : (p.spots (word ws 2)).2 = 1 := hspn
      have c0 : cellOf q x0 = sp p (word ws 1) := by rw [not_tag nt0, es0]
      have c1 : cellOf q x1 = sp p (word ws 2) := by rw [not_tag nt1, es1]
      rw [es0] at d0
      rw [es1] at d1
      have hr := h.readBox (pl := x1) (c := sp p (word ws 2)) (by omega) (by rw [d1]; exact k3) c1
      rw [a0, a1, empty_is]
      simp only [List.any_cons, List.any_nil, Bool.or_false]
      rw [hr]
      unfold RM.bareB
      simp only
      rw [hsp1, RM.bareGo, Nat.add_zero, Nat.add_zero]
      by_cases hz : m.held.getD (sp p (word ws 2)) 0 = 0
      · rw [if_pos (by rw [hz]; rfl), if_pos hz]
        exact h.broken rfl rfl rfl rfl
      · rw [if_neg (by simpa using hz), if_neg hz, RM.bareGo]
        simp only
        rw [if_neg (by decide), if_neg hns]
        refine ⟨?_, h0⟩
        have h1 := h.hold (pl := x0) (c := sp p (word ws 1)) (n := m.held.getD (sp p (word ws 2)) 0) (by omega) (by rw [d0]; exact k2) c0 (by omega)
        show Rb q inp (b.write q x0 (b.val q x1)) _
        rw [show b.val q x1 = ((m.held.getD (sp p (word ws 2)) 0 : Nat) : Int) by rw [Br.val, hr]]
        exact h1
    · have a0 : QP.halvesQ q x0 = [(x0.1, 1), (x0.1, 2)] ∧ x0.2 = 0 := by
        rcases halves_cases q x0 with ⟨a0, -⟩ | ⟨a0, b2, b3⟩
        · rw [a0, a1] at hlen; simp at hlen
        · exact ⟨a0, b2⟩
      rw [a1] at hspn
      have hsp1 : (p.spots (word ws 2)).2 = 2 := hspn
      have s1 : sp p (word ws 2) = 2 * x1.1 := by rw [← es1]; unfold slotQ; rw [if_neg (by omega)]
      have s0 : sp p (word ws 1) = 2 * x0.1 := by rw [← es0]; unfold slotQ; rw [if_neg (by omega)]
      have hc1 : ∀ x : Nat × Nat, cellOf q (x.1, 1) = 2 * x.1 ∧ cellOf q (x.1, 2) = 2 * x.1 + 1 := fun x => ⟨by rw [not_tag (by simp [isTag, QP.kindV])]; simp [slotQ], by rw [not_tag (by simp [isTag, QP.kindV])]; simp [slotQ]⟩
      have hr1 := h.readBox (pl := (x1.1, 1)) (c := 2 * x1.1) (by omega) (by rw [show 2 * x1.1 / 2 = x1.1 by omega]; exact k3) (hc1 x1).1
      have hr2 := h.readBox (pl := (x1.1, 2)) (c := 2 * x1.1 + 1) (by omega) (by rw [show (2 * x1.1 + 1) / 2 = x1.1 by omega]; exact k3) (hc1 x1).2
      rw [a0.1, a1, empty_is]
      simp only [List.any_cons, List.any_nil, Bool.or_false]
      rw [hr1, hr2]
      unfold RM.bareB
      simp only
      rw [hsp1, s0, s1, RM.bareGo]
      simp only [Nat.add_zero]
      by_cases hz : m.held.getD (2 * x1.1) 0 = 0
      · have hc : (!!(m.held.getD (2 * x1.1) 0 == 0) || !!(m.held.getD (2 * x1.1 + 1) 0 == 0)) = true := by rw [hz]; rfl
        rw [if_pos hc, if_pos hz]
        exact h.broken rfl rfl rfl rfl
      · rw [if_neg hz, RM.bareGo]
        simp only
        rw [Nat.zero_add]
        have e1 : (m.held.set (2 * x0.1) (m.held.getD (2 * x1.1) 0)).getD (2 * x1.1 + 1) 0 = m.held.getD (2 * x1.1 + 1) 0 := by rw [getD_setX, if_neg (by omega)]
        rw [e1]
        have hzb : (m.held.getD (2 * x1.1) 0 == 0) = false := by rw [beq_eq_false_iff_ne]; exact hz
        rw [hzb]
        by_cases hz2 : m.held.getD (2 * x1.1 + 1) 0 = 0
        · have hc : (!!false || !!(m.held.getD (2 * x1.1 + 1) 0 == 0)) = true := by rw [hz2]; rfl
          rw [if_pos hc, if_pos hz2]
          exact h.broken rfl rfl rfl rfl
        · have hc : ¬ (!!false || !!(m.held.getD (2 * x1.1 + 1) 0 == 0)) = true := by simpa using hz2
          rw [if_neg hc, if_neg hz2, RM.bareGo]
          simp only
          rw [if_neg (by decide), if_neg hns]
          refine ⟨?_, h0⟩
          have h1 := h.hold (pl := (x0.1, 1)) (c := 2 * x0.1) (n := m.held.getD (2 * x1.1) 0) (by omega) (by rw [show 2 * x0.1 / 2 = x0.1 by omega]; exact k2) (hc1 x0).1 (by omega)
          have hr3 := h1.readBox (pl := (x1.1, 2)) (c := 2 * x1.1 + 1) (by omega) (by rw [show (2 * x1.1 + 1) / 2 = x1.1 by omega]; exact k3) (hc1 x1).2
          have h2 := h1.hold (pl := (x0.1, 2)) (c := 2 * x0.1 + 1) (n := m.held.getD (2 * x1.1 + 1) 0) (by omega) (by rw [show (2 * x0.1 + 1) / 2 = x0.1 by omega]; exact k2) (hc1 x0).2 (by omega)
          show Rb q inp ((b.write q (x0.1, 1) (b.val q (x1.1, 1))).write q (x0.1, 2) ((b.write q (x0.1, 1) (b.val q (x1.1, 1))).val q (x1.1, 2))) _
          rw [show b.val q (x1.1, 1) = ((m.held.getD (2 * x1.1) 0 : Nat) : Int) by rw [Br.val, hr1]]
          rw [show (b.write q (x0.1, 1) ((m.held.getD (2 * x1.1) 0 : Nat) : Int)).val q (x1.1, 2) = ((m.held.getD (2 * x1.1 + 1) 0 : Nat) : Int) by rw [Br.val, hr3]; show (((m.held.set (2 * x0.1) (m.held.getD (2 * x1.1) 0)).getD (2 * x1.1 + 1) 0 : Nat) : Int) = _; rw [e1]]
          exact h2
end
end Go.Proofs.YtmlgajhhnojdjaaGreatDoor.Sim
/- Plain facts: a run of both bare machines, from a line on, comes to the same. -/
namespace Go.Proofs.YtmlgajhhnojdjaaGreatDoor.Sim
open Go Go.Proofs.YtmlgajhhnojdjaaGreatDoor.Spec Go.Proofs.YtmlgajhhnojdjaaGreatDoor.Aux Go.Proofs.YtmlgajhhnojdjaaGreatDoor.Own Go.Proofs.YtmlgajhhnojdjaaGreatDoor.Mac Go.Proofs.YtmlgajhhnojdjaaGreatDoor.Ex Go.Proofs.YtmlgajhhnojdjaaGreatDoor.RefRa Go.Proofs.YtmlgajhhnojdjaaGreatDoor.RunA Go.Proofs.YtmlgajhhnojdjaaGreatDoor.RunB Go.Proofs.YtmlgajhhnojdjaaGreatDoor.PrjS Go.Proofs.YtmlgajhhnojdjaaGreatDoor.FlwA Go.Proofs.YtmlgajhhnojdjaaGreatDoor.FlwU Go.Proofs.YtmlgajhhnojdjaaGreatDoor.FlwV Go.Proofs.YtmlgajhhnojdjaaGreatDoor.FlwW Go.Proofs.YtmlgajhhnojdjaaGreatDoor.FlwX Go.Proofs.YtmlgajhhnojdjaaGreatDoor.FlwT

theorem runR_out (f : Fx) (p : RP) (inp : List Int) {m : RM} (h : ¬ m.out = 0) (n at' : Nat) : runR f p inp n at' m = m := by
  cases n with
  | zero => rw [runR, if_neg h]
  | succ n => rw [runR, if_pos h]
theorem ends_op : ∀ op : Fin 23, ends (opWord op.val) = decide (18 ≤ op.val) := by decide
theorem end_op : ∀ op : Fin 23, opWord op.val = [101, 110, 100] ↔ op.val = 22 := by decide
section
variable {text : B} {raw : Bool} {p : RP} {q : QP} {l : QLine} {ws : List B} {inp : List Int} {b : Br} {m : RM} {f : Fx}
theorem line_mem (h : Both text raw p q) {i : Nat} (hb : p.body i) : p.qline i ∈ q.blocks.getD (p.blk i) [] := by
  rw [h.block, List.mem_map]
  refine ⟨i, ?_, rfl⟩
  unfold idxP
  have := (h.ok.body_inside hb).2
  simp only [List.mem_filter, List.mem_range, beq_iff_eq]
  exact ⟨⟨hb.1, plain_iff.mpr hb.2⟩, by unfold RP.blk; omega⟩
theorem body_lk (h : Both text raw p q) {i : Nat} (hb : p.body i) : Lk p (p.line i) (p.qline i) := lk_of h.ok.pre hb.1 (plain_iff.mpr hb.2) (h.ok.names i hb.1)
theorem body_rln (h : Both text true p q) (hS : ShapeR q) {i : Nat} (hb : p.body i) : RLn q (p.qline i) := by
  have hm := line_mem h hb
  exact rln_of (h.qok.lines _ (getD_memB hm) _ hm) (hS.lines _ _ hm)
/-- where a run stands: on a line of a block, or on the line ahead of one -/
def Stands (p : RP) (at' : Nat) : Prop := p.body at' ∨ (at' < p.lines.length ∧ isBlock (p.line at') = true)
def lineAt (p : RP) (at' : Nat) : Nat := if isBlock (p.line at') then at' + 1 else at'
theorem Stands.line (h : ReadOk text raw p) {at' : Nat} (hs : Stands p at') : p.body (lineAt p at') := by
  unfold lineAt
  rcases hs with hb | ⟨h1, h2⟩
  · rw [hb.2.2, if_neg (by decide)]; exact hb
  · rw [if_pos h2]; exact h.behind_block h1 h2
theorem body_line {i : Nat} (hb : p.body i) : lineAt p i = i := by unfold lineAt; rw [hb.2.2, if_neg (by decide)]
theorem block_stands (h : Both text raw p q) {j : Nat} (hj : j < q.blocks.length) : Stands p (p.blocks.getD j 0) ∧ q.blocks.getD j [] = tailP p (lineAt p (p.blocks.getD j 0)) := by
  rw [h.len] at hj
  obtain ⟨h1, h2, -⟩ := RP.blocks_mem h.ok.pre.blocks hj
  refine ⟨.inr ⟨h1, h2⟩, ?_⟩
  unfold lineAt
  rw [if_pos h2]; exact block_tail h hj
theorem goes_any (hT : Both text true p q) (hl : RLn q l) (hk : Lk p ws l) (h12 : q.locals.length ≤ 12) (hf : f.owns = false) (hF : Held q b) (h : Rb q inp b m) (h0 : m.out = 0) (hop : l.op < 18) : Goes q inp f b l (m.does f p inp ws) := by
  have h1 := hk.lo
  have h15 := hl.has
  have hc : l.op = 2 ∨ (l.op = 3 ∨ l.op = 4 ∨ l.op = 5 ∨ l.op = 6) ∨ l.op = 7 ∨ l.op = 8 ∨ l.op = 9 ∨ l.op = 10 ∨ l.op = 11 ∨ l.op = 12 ∨ l.op = 13 ∨ l.op = 14 ∨ l.op = 16 ∨ l.op = 17 := by omega
  rcases hc with e | e | e | e | e | e | e | e | e | e | e | e
  · exact goes_set hl hk h12 h h0 e
  · exact goes_arith hl hk h12 h h0 e
  · exact goes_in hl hk h12 h h0 e
  · exact goes_out hl hk h12 h h0 e
  · exact goes_new hl hk h12 hf h h0 e
  · exact goes_load hl hk h12 h h0 e
  · exact goes_store hl hk h12 h h0 e
  · exact goes_move hT hl hk h12 hf hF.fit h h0 e
  · exact goes_none hl hk h12 hf h h0 e
  · exact goes_some hT hl hk h12 hf h h0 e
  · exact goes_free hl hk h12 h h0 e
  · exact goes_flag hk h h0 e
theorem next_bare (hl : RLn q l) (hk : Lk p ws l) (h12 : q.locals.length ≤ 12) (h : Rb q inp b m) (hop : l.op = 18 ∨ l.op = 19 ∨ l.op = 20 ∨ l.op = 21) : (b.breaks q l = true → FinB b (m.next p ws).1 5 0) ∧ (b.breaks q l = false → (m.next p ws).1 = m ∧ (valW (m.next p ws).2).toNat = l.next.getD (if b.other q l then 1 else 0) 0) := by
  rcases hop with hop | hop | hop | hop
  · have hw : word ws 0 = [103, 111, 116, 111] := by rw [hk.op, hop]; rfl
    have hd : m.next p ws = (m, word ws 1) := by unfold RM.next; simp [hw]
    have hB : b.breaks q l = false := by unfold Br.breaks; simp [hop]
    have ho : b.other q l = false := by unfold Br.other; simp [hop]
    rw [hB, hd, ho]
    exact ⟨fun e => (by cases e), fun _ => ⟨rfl, (hk.n1 hop).symm⟩⟩
  · have hn : l.places.length = 1 := by rw [hk.plen, hop]; rfl
    obtain ⟨c1, c2, c3⟩ := int_at hl hk h12 (j := 0) (by omega) (by rw [hop]; rfl)
    have hw : word ws 0 = [105, 102] := by rw [hk.op, hop]; rfl
    have hd : m.next p ws = (m.need (sp p (word ws 1)), if m.int (sp p (word ws 1)) = 0 then word ws 3 else word ws 2) := by unfold RM.next; simp [hw]
    have hB : b.breaks q l = !m.has.getD (sp p (word ws 1)) false := by
      unfold Br.breaks
      rw [if_neg (by omega), if_pos (by omega), empty_is]
      simp only [List.any_cons, List.any_nil, Bool.or_false]
      rw [h.readInt c1 c2 c3]
    have ho : b.other q l = (m.int (sp p (word ws 1)) == 0) := by
      unfold Br.other
      rw [if_pos hop, show b.val q (l.places.getD 0 (0, 0)) = m.int (sp p (word ws 1)) from by show (b.cell q (plOf l 0)).2 = _; rw [h.readInt c1 c2 c3]]
    obtain ⟨n1, n2⟩ := hk.n2 (.inl hop)
    rw [hB, hd, ho]
    simp only
    cases e1 : m.has.getD (sp p (word ws 1)) false
    · refine ⟨fun _ => ?_, fun e => (by cases e)⟩
      rw [need_no e1]
      exact h.broken rfl rfl rfl rfl
    · refine ⟨fun e => (by cases e), fun _ => ⟨need_has e1, ?_⟩⟩
      by_cases hz : m.int (sp p (word ws 1)) = 0
      · rw [if_pos hz, hz, if_pos (by decide)]; exact n2.symm
      · rw [if_neg hz, if_neg (by simpa using hz)]; exact n1.symm
  · have hn : l.places.length = 1 := by rw [hk.plen, hop]; rfl
    obtain ⟨i, i1, i2, i3, i4, i5⟩ := opt_at hl hk h12 (j := 0) (by omega) (by rw [hop]; rfl)
    have hw : word ws 0 = wMatch := by rw [hk.op, hop]; rfl
    have hd : m.next p ws = (if m.how.getD (sp p (word ws 1)) 0 = 0 then { m with out := 5 } else m, if m.how.getD (sp p (word ws 1)) 0 = 110 then word ws 2 else word ws 3) := by unfold RM.next; simp [hw, wMatch]
    have hr := h.readTag i1 i4 i5
    have hB : b.breaks q l = (m.how.getD (2 * i) 0 == 0) := by
      unfold Br.breaks
      rw [if_neg (by omega), if_pos (by omega), empty_is]
      simp only [List.any_cons, List.any_nil, Bool.or_false]
      rw [hr]; simp [tagF]
    have ho : b.other q l = ((tagF (m.how.getD (2 * i) 0)).2 == 1) := by
      unfold Br.other
      rw [if_neg (by omega), if_pos hop, show b.val q (l.places.getD 0 (0, 0)) = (tagF (m.how.getD (2 * i) 0)).2 from by show (b.cell q (plOf l 0)).2 = _; rw [hr]]
    obtain ⟨n1, n2⟩ := hk.n2 (.inr (.inl hop))
    rw [hB, hd, ho, show sp p (word ws 1) = 2 * i from i3]
    simp only
    rcases h.hows (2 * i) with hh | hh | hh <;> rw [hh]
    · exact ⟨fun _ => h.broken rfl rfl rfl rfl, fun e => (by cases e)⟩
    · exact ⟨fun e => (by cases e), fun _ => ⟨rfl, n1.symm⟩⟩
    · exact ⟨fun e => (by cases e), fun _ => ⟨rfl, n2.symm⟩⟩
  · have hw : word ws 0 = [116, 101, 115, 116] := by rw [hk.op, hop]; rfl
    have hd : m.next p ws = (m, if m.flags.getD (valW (word ws 1)).toNat false = true then word ws 2 else word ws 3) := by unfold RM.next; simp [hw, wMatch]
    have hB : b.breaks q l = false := by unfold Br.breaks; simp [hop]
    have ho : b.other q l = !(m.flags.getD (valW (word ws 1)).toNat false) := by
      unfold Br.other
      rw [if_neg (by omega), if_neg (by omega), if_pos hop, h.flags, hk.fl (.inr hop)]
    obtain ⟨n1, n2⟩ := hk.n2 (.inr (.inr hop))
    rw [hB, hd, ho]
    refine ⟨fun e => (by cases e), fun _ => ⟨rfl, ?_⟩⟩
    simp only
    cases m.flags.getD (valW (word ws 1)).toNat false
    · exact n2.symm
    · exact n1.symm
/-- a run of both, from a line on -/
theorem run_bare (hT : Both text true p q) (hS : ShapeR q) (hf : f.owns = false) : ∀ (n at' : Nat) (b : Br) (m : RM) (ans : Nat × Int × Br), Stands p at' → Held q b → Rb q inp b m → m.out = 0 → runB q f.room n (tailP p (lineAt p at')) b = some ans → FinB ans.2.2 (runR f p inp n at' m) ans.1 ans.2.1
  | 0, at', b, m, ans, hs, hF, h, h0, hr => by
    rw [tail_cons (hs.line hT.ok), runB] at hr
    cases hr
    rw [runR, if_pos h0]
    exact h.broken rfl rfl rfl rfl
  | n + 1, at', b, m, ans, hs, hF, h, h0, hr => by
    have h12 := hT.twelve
    have hb := hs.line hT.ok
    have hk := body_lk hT hb
    have hl := body_rln hT hS hb
    rw [tail_cons hb] at hr
    rw [runR, if_neg (by rw [h0]; decide)]
    simp only
    rw [show (if isBlock (p.line at') = true then at' + 1 else at') = lineAt p at' from rfl]
    generalize lineAt p at' = i at *
    have he : ends (word (p.line i) 0) = decide (18 ≤ (p.qline i).op) := by rw [hk.op]; exact ends_op ⟨_, hk.hi⟩
    have hend : word (p.line i) 0 = [101, 110, 100] ↔ (p.qline i).op = 22 := by rw [hk.op]; exact end_op ⟨_, hk.hi⟩
    have hlo := hk.lo
    have hhi := hk.hi
    by_cases h18 : (p.qline i).op < 18
    · have hg := goes_any hT hl hk h12 hf hF h h0 h18
      have he0 : ends (word (p.line i) 0) = false := by rw [he]; simpa using h18
      rw [if_neg (fun e => by have := hend.1 e; omega), if_neg (by rw [he0]; decide)]
      have hnb := hT.ok.behind_body hb he0
      generalize hl2 : p.qline i = l at *
      unfold Goes at hg
      rw [runB] at hr
      have h15 := hl.has
      by_cases hB : b.breaks q l = true
      · rw [if_pos hB] at hr hg
        cases hr
        rw [runR_out f p inp (by rw [hg.1]; decide)]
        exact hg
      · rw [if_neg hB] at hr hg
        by_cases h6 : l.op = 6
        · rw [if_pos h6] at hr
          by_cases hz : b.val q (plOf l 2) = 0
          · rw [if_pos hz] at hr
            rw [if_pos ⟨h6, hz⟩] at hg
            cases hr
            rw [runR_out f p inp (by rw [hg.1]; decide)]
            exact hg
          · rw [if_neg hz] at hr
            rw [if_neg (fun e => hz e.2), if_neg (by omega), if_neg (by omega), if_pos h6] at hg
            exact run_bare hT hS hf n (i + 1) _ _ ans (.inl hnb) (calc_held h12 hl h6 hF) hg.1 hg.2 (by rw [body_line hnb]; exact hr)
        · rw [if_neg h6] at hr
          rw [if_neg (fun e => h6 e.1)] at hg
          by_cases h9 : l.op = 9
          · rw [if_pos h9] at hr
            by_cases hz : b.yd.live ≥ f.room
            · rw [if_pos hz] at hr
              rw [if_pos ⟨h9, hz⟩] at hg
              cases hr
              rw [runR_out f p inp (by rw [hg.1]; decide)]
              exact hg
            · rw [if_neg hz] at hr
              rw [if_neg (fun e => hz e.2), if_pos h9] at hg
              exact run_bare hT hS hf n (i + 1) _ _ ans (.inl hnb) (new_held h12 hl h9 _ hF) hg.1 hg.2 (by rw [body_line hnb]; exact hr)
          · rw [if_neg h9, if_neg (by omega), if_neg (by omega)] at hr
            rw [if_neg (fun e => h9 e.1), if_neg h9, if_neg h6] at hg
            exact run_bare hT hS hf n (i + 1) _ _ ans (.inl hnb) (line_held h12 hl (by omega) (by simpa using hB) hF).2 hg.1 hg.2 (by rw [body_line hnb]; exact hr)
    · have he1 : ends (word (p.line i) 0) = true := by rw [he]; simpa using h18
      by_cases h22 : (p.qline i).op = 22
      · rw [if_pos (hend.2 h22)]
        have hn : (p.qline i).places.length = 1 := by rw [hk.plen, h22]; rfl
        obtain ⟨c1, c2, c3⟩ := int_at hl hk h12 (j := 0) (by omega) (by rw [h22]; rfl)
        generalize p.qline i = l at *
        have hB : b.breaks q l = !m.has.getD (sp p (word (p.line i) 1)) false := by
          unfold Br.breaks
          rw [if_neg (by omega), if_pos (by omega), empty_is]
          simp only [List.any_cons, List.any_nil, Bool.or_false]
          rw [h.readInt c1 c2 c3]
        rw [runB, hB] at hr
        unfold RM.finish
        simp only
        cases e1 : m.has.getD (sp p (word (p.line i) 1)) false
        · rw [e1, if_pos (by decide)] at hr
          cases hr
          rw [need_no e1, if_pos (by simp)]
          exact h.broken rfl rfl rfl rfl
        · rw [e1, if_neg (by decide), if_neg (by omega), if_neg (by omega), if_neg (by omega), if_pos h22] at hr
          cases hr
          rw [need_has e1, if_neg (by rw [h0]; decide), if_neg (by rw [hf]; decide)]
          exact ⟨rfl, by show m.int _ = b.val q (plOf l 0); rw [Br.val, h.readInt c1 c2 c3], h.y.text, h.y.live.symm⟩
      · rw [if_neg (fun e => h22 (hend.1 e)), if_pos he1]
        have hnl : (p.qline i).next.length = if (p.qline i).op = 18 then 1 else 2 := by
          rw [hl.ok.nlen]
          have : (p.qline i).op = 18 ∨ (p.qline i).op = 19 ∨ (p.qline i).op = 20 ∨ (p.qline i).op = 21 := by omega
          rcases this with e | e | e | e <;> rw [e] <;> rfl
        have hi : (if b.other q (p.qline i) then 1 else 0) < (p.qline i).next.length := by
          rw [hnl]
          by_cases e : (p.qline i).op = 18
          · have : b.other q (p.qline i) = false := by rw [Br.other, if_neg (by omega), if_neg (by omega), if_neg (by omega)]
            rw [this, if_pos e]; decide
          · rw [if_neg e]; split <;> omega
        have hbb : (p.qline i).next.getD (if b.other q (p.qline i) then 1 else 0) 0 < q.blocks.length := hl.ok.next _ (by rw [List.getD_eq_getElem?_getD, List.getElem?_eq_getElem hi]; exact List.getElem_mem _)
        obtain ⟨hn1, hn2⟩ := next_bare hl hk h12 h (by omega)
        rw [runB] at hr
        by_cases hB : b.breaks q (p.qline i) = true
        · rw [if_pos hB] at hr
          cases hr
          have := hn1 hB
          rw [runR_out f p inp (by rw [this.1]; decide)]
          exact this
        · obtain ⟨e1, e2⟩ := hn2 (by simpa using hB)
          rw [if_neg hB, if_neg (by omega), if_neg (by omega), if_pos (by omega)] at hr
          split at hr
          · obtain ⟨g1, g2⟩ := block_stands hT hbb
            rw [e1, blockW, e2]
            exact run_bare hT hS hf n _ b m ans g1 hF h h0 (by rw [← g2]; exact hr)
          · cases hr
end
end Go.Proofs.YtmlgajhhnojdjaaGreatDoor.Sim
/- Plain facts: a run of the machine that owns keeps its boxes: each is held in just one place while it lives; at an end none is left. -/
namespace Go.Proofs.YtmlgajhhnojdjaaGreatDoor.Bal
open Go Go.Proofs.YtmlgajhhnojdjaaGreatDoor.Spec Go.Proofs.YtmlgajhhnojdjaaGreatDoor.Aux Go.Proofs.YtmlgajhhnojdjaaGreatDoor.Own Go.Proofs.YtmlgajhhnojdjaaGreatDoor.RunA Go.Proofs.YtmlgajhhnojdjaaGreatDoor.RunB Go.Proofs.YtmlgajhhnojdjaaGreatDoor.PrjS Go.Proofs.YtmlgajhhnojdjaaGreatDoor.FlwA Go.Proofs.YtmlgajhhnojdjaaGreatDoor.FlwB Go.Proofs.YtmlgajhhnojdjaaGreatDoor.FlwC Go.Proofs.YtmlgajhhnojdjaaGreatDoor.FlwD Go.Proofs.YtmlgajhhnojdjaaGreatDoor.FlwE Go.Proofs.YtmlgajhhnojdjaaGreatDoor.FlwF Go.Proofs.YtmlgajhhnojdjaaGreatDoor.FlwG Go.Proofs.YtmlgajhhnojdjaaGreatDoor.FlwH Go.Proofs.YtmlgajhhnojdjaaGreatDoor.FlwS Go.Proofs.YtmlgajhhnojdjaaGreatDoor.FlwY

section
variable {q : QP} {hs : List Nat} {o : Own.Own}
theorem take_zero : ∀ (ps : List (Nat × Nat)) (o : Own.Own) (k : Nat), k ∈ ps.map slotQ ∨ o.boxes.getD k 0 = 0 → (Own.take ps o).2.boxes.getD k 0 = 0
  | [], _, _, h => h.resolve_left (by simp)
  | p :: ps, o, k, h => by
    rw [Own.take]
    refine take_zero ps (o.clear p) k ?_
    by_cases hm : k ∈ ps.map slotQ
    · exact .inl hm
    · refine .inr ?_
      show (o.boxes.set (slotQ p) 0).getD k 0 = 0
      rw [getD_set1]
      split
      · rfl
      · rename_i hne
        rcases h with h | h
        · rw [List.map_cons, List.mem_cons] at h
          rcases h with h | h
          · have : ¬ k < o.boxes.length := fun hk => hne ⟨h.symm, hk⟩
            rw [List.getD_eq_getElem?_getD, List.getElem?_eq_none (by omega)]; rfl
          · exact absurd h hm
        · exact h
theorem drop_zero (ps : List (Nat × Nat)) (o : Own.Own) {k : Nat} (h : k ∈ ps.map slotQ ∨ o.boxes.getD k 0 = 0) : (o.drop ps).boxes.getD k 0 = 0 := by
  rw [(drop_parts ps o).2.2.2]; exact take_zero ps o k h
/-! the lines -/
variable {l : QLine}
/-! how many are made -/
end
end Go.Proofs.YtmlgajhhnojdjaaGreatDoor.Bal
/- Plain facts: both machines that own, side by side: what they keep; ints written; places dropped, moved. -/
namespace Go.Proofs.YtmlgajhhnojdjaaGreatDoor.Sim
theorem hereSimF : True := trivial
end Go.Proofs.YtmlgajhhnojdjaaGreatDoor.Sim
/- Plain facts: both machines that own, statement by statement. -/
namespace Go.Proofs.YtmlgajhhnojdjaaGreatDoor.Sim
theorem hereSimG : True := trivial
end Go.Proofs.YtmlgajhhnojdjaaGreatDoor.Sim
/- Plain facts: both machines that own: move and some; where a terminator leads. -/
namespace Go.Proofs.YtmlgajhhnojdjaaGreatDoor.Sim
theorem hereSimH : True := trivial
end Go.Proofs.YtmlgajhhnojdjaaGreatDoor.Sim
/- Plain facts: a run of both machines that own, from a line on, comes to the same. -/
namespace Go.Proofs.YtmlgajhhnojdjaaGreatDoor.Sim
theorem hereSimI : True := trivial
end Go.Proofs.YtmlgajhhnojdjaaGreatDoor.Sim
