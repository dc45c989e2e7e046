/- Plain facts: what is in the boxes stays what the ways say, line by line; a run of a checked program always comes to an answer. -/
import Derived.Test.YtmlgajhhnojdjaaGreatDoorABF
import Derived.Test.YtmlgajhhnojdjaaGreatDoorABD
import Derived.Laws.MakeOwn
namespace Go.Proofs.YtmlgajhhnojdjaaGreatDoor.RunB
open Go Go.Proofs.YtmlgajhhnojdjaaGreatDoor.Spec Go.Proofs.YtmlgajhhnojdjaaGreatDoor.Aux Go.Proofs.YtmlgajhhnojdjaaGreatDoor.Own Go.Proofs.YtmlgajhhnojdjaaGreatDoor.RunA Go.Proofs.YtmlgajhhnojdjaaGreatDoor.PrjS Go.Proofs.YtmlgajhhnojdjaaGreatDoor.FlwA Go.Proofs.YtmlgajhhnojdjaaGreatDoor.FlwB Go.Proofs.YtmlgajhhnojdjaaGreatDoor.FlwC Go.Proofs.YtmlgajhhnojdjaaGreatDoor.FlwD Go.Proofs.YtmlgajhhnojdjaaGreatDoor.FlwE Go.Proofs.YtmlgajhhnojdjaaGreatDoor.FlwF Go.Proofs.YtmlgajhhnojdjaaGreatDoor.FlwG Go.Proofs.YtmlgajhhnojdjaaGreatDoor.FlwH Go.Proofs.YtmlgajhhnojdjaaGreatDoor.FlwI Go.Proofs.YtmlgajhhnojdjaaGreatDoor.FlwJ Go.Proofs.YtmlgajhhnojdjaaGreatDoor.FlwK Go.Proofs.YtmlgajhhnojdjaaGreatDoor.FlwM Go.Proofs.YtmlgajhhnojdjaaGreatDoor.FlwO Go.Proofs.YtmlgajhhnojdjaaGreatDoor.FlwP Go.Proofs.YtmlgajhhnojdjaaGreatDoor.FlwQ Go.Proofs.YtmlgajhhnojdjaaGreatDoor.FlwS Go.Proofs.YtmlgajhhnojdjaaGreatDoor.FlwY

section
variable {q : QP} {l : QLine} {s : List Nat} {o : Own.Own}
theorem place_in (hl : LnOk q l) {j : Nat} (hj : j < l.places.length) : (plOf l j).1 < q.locals.length ∧ (plOf l j).2 ≤ 3 :=
  hl.ok.places _ (by unfold plOf; rw [List.getD_eq_getElem?_getD, List.getElem?_eq_getElem hj]; exact List.getElem_mem _)
theorem at_eq (l : QLine) (j : Nat) : QLine.at l j = plOf l j := rfl
theorem box_there (hls : q.locals.length ≤ 12) (h : FitL q s o) {p : Nat × Nat} (hp : p.1 < q.locals.length) (ht : ¬ q.tyOf p.1 = 0) (hn : lacksL 2 [p] s = false) : 1 ≤ o.box p := by
  have hk := FitX.at_ h (slotQ p) (slot_lt (by omega)) (by simp) (by rw [slot_half]; exact ht)
  simp only [lacksL, List.any_cons, List.any_nil, Bool.or_false] at hn
  have := lack_two hn hk
  show 1 ≤ o.boxes.getD (slotQ p) 0
  omega
/-- one place, or both halves -/
theorem halves_cases (q : QP) (x : Nat × Nat) : QP.halvesQ q x = [x] ∧ ¬ (x.2 = 0 ∧ q.tyOf x.1 = 2) ∨ QP.halvesQ q x = [(x.1, 1), (x.1, 2)] ∧ x.2 = 0 ∧ q.tyOf x.1 = 2 := by
  unfold QP.halvesQ
  by_cases h : x.2 = 0 ∧ q.tyOf x.1 = 2
  · exact .inr ⟨by rw [if_pos h], h⟩
  · exact .inl ⟨by rw [if_neg h], h⟩
theorem same_halves (hl : LnOk q l) (h12 : l.op = 12) : (QP.halvesQ q (plOf l 0)).length = (QP.halvesQ q (plOf l 1)).length := by
  have hk := fits_same hl.fits h12
  have hlen : l.places.length = 2 := by rw [hl.ok.plen, h12]; rfl
  have h0 := (place_in hl (j := 0) (by omega)).2
  have h1 := (place_in hl (j := 1) (by omega)).2
  unfold QP.kindV at hk
  rcases halves_cases q (plOf l 0) with ⟨e, h⟩ | ⟨e, h, h'⟩ <;> rcases halves_cases q (plOf l 1) with ⟨e2, h2⟩ | ⟨e2, h2, h2'⟩ <;> rw [e, e2]
  · rfl
  · exfalso
    rw [if_neg (show ¬ ((plOf l 1).2 = 1 ∨ (plOf l 1).2 = 2 ∨ (plOf l 1).2 = 3) by omega)] at hk
    by_cases hp : (plOf l 0).2 = 1 ∨ (plOf l 0).2 = 2 ∨ (plOf l 0).2 = 3
    · rw [if_pos hp] at hk; omega
    · rw [if_neg hp] at hk; exact h ⟨by omega, by omega⟩
  · exfalso
    rw [if_neg (show ¬ ((plOf l 0).2 = 1 ∨ (plOf l 0).2 = 2 ∨ (plOf l 0).2 = 3) by omega)] at hk
    by_cases hp : (plOf l 1).2 = 1 ∨ (plOf l 1).2 = 2 ∨ (plOf l 1).2 = 3
    · rw [if_pos hp] at hk; omega
    · rw [if_neg hp] at hk; exact h2 ⟨by omega, by omega⟩
  · rfl
theorem some_halves (hl : LnOk q l) (h14 : l.op = 14) : QP.halvesQ q (plOf l 0) = [plOf l 0] ∧ QP.halvesQ q (plOf l 1) = [plOf l 1] ∧ q.tyOf (plOf l 0).1 = 3 ∧ ¬ q.tyOf (plOf l 1).1 = 0 := by
  have hlen : l.places.length = 2 := by rw [hl.ok.plen, h14]; rfl
  have k0 := fits_at hl.fits (j := 0) (by omega)
  have k1 := fits_at hl.fits (j := 1) (by omega)
  rw [h14] at k0 k1
  have o0 := kind_opt (x := plOf l 0) k0 (place_in hl (j := 0) (by omega)).2
  have o1 := kind_box (x := plOf l 1) k1
  refine ⟨?_, ?_, o0.1, o1.1⟩
  · rcases halves_cases q (plOf l 0) with ⟨e, -⟩ | ⟨-, -, e⟩
    · exact e
    · omega
  · rcases halves_cases q (plOf l 1) with ⟨e, -⟩ | ⟨-, e1, e2⟩
    · exact e
    · exact absurd ⟨e1, e2⟩ o1.2.1
/-- what is taken fits what a move lays down -/
theorem vals_fit (hls : q.locals.length ≤ 12) (h : FitL q s o) {x : Nat × Nat} (hx : x.1 < q.locals.length ∧ x.2 ≤ 3) (ht : ¬ q.tyOf x.1 = 0) (hst : stuckL q x s = false) : ∀ n ∈ (Own.take (QP.halvesQ q x) o).1, fit1 n (movedL q x s) := by
  have hf := fun k hk ht => FitX.at_ h k hk (by simp) ht
  rcases halves_cases q x with ⟨e, hn⟩ | ⟨e, h0, h2⟩
  · rw [e]
    have hk := hf (slotQ x) (slot_lt (by omega)) (by rw [slot_half]; exact ht)
    intro n hm
    simp only [Own.take, List.mem_singleton] at hm
    subst hm
    unfold movedL
    by_cases h3 : q.kindV x = 3
    · rw [if_pos h3]; exact hk
    · rw [if_neg h3]
      unfold stuckL at hst
      rw [if_neg h3, e] at hst
      have := box_there hls h hx.1 ht hst
      unfold fit1; rw [if_neg (by omega)]; decide
  · have h3 : ¬ q.kindV x = 3 := by unfold QP.kindV; rw [if_neg (by omega)]; omega
    unfold stuckL at hst
    rw [if_neg h3, e] at hst
    unfold movedL
    rw [if_neg h3, e]
    simp only [lacksL, List.any_cons, List.any_nil, Bool.or_false, Bool.or_eq_false_iff] at hst
    have s1 : slotQ (x.1, 1) = 2 * x.1 := rfl
    have s2 : slotQ (x.1, 2) = 2 * x.1 + 1 := rfl
    have k1 := lack_two hst.1 (hf _ (slot_lt (x := (x.1, 1)) (by show x.1 < 12; omega)) (by rw [slot_half]; exact ht))
    have k2 := lack_two hst.2 (hf _ (slot_lt (x := (x.1, 2)) (by show x.1 < 12; omega)) (by rw [slot_half]; exact ht))
    intro n hm
    simp only [Own.take, List.mem_cons, List.not_mem_nil, or_false] at hm
    unfold fit1
    rcases hm with rfl | rfl
    · rw [if_neg (show ¬ o.box (x.1, 1) = 0 from k1)]; decide
    · have : (o.clear (x.1, 1)).box (x.1, 2) = o.boxes.getD (slotQ (x.1, 2)) 0 := by
        unfold Own.clear Own.box
        rw [getD_set1, if_neg (by rw [s1, s2]; omega)]
      rw [this, if_neg k2]; decide
theorem put_int (h : FitL q s o) {p : Nat × Nat} (ht : q.tyOf p.1 = 0) {o' : Own.Own} (hb : o'.boxes = o.boxes) : FitL q (s.set (slotQ p) 2) o' := by
  unfold FitL; rw [hb]
  exact FitX.free h _ _ (by rw [slot_half]; exact ht)
theorem pass_put (hp : isPut l.op = true) (h14 : ¬ l.op = 14) : passQ q l s = s.set (slotQ (plOf l 0)) 2 := by
  have h12 : ¬ l.op = 12 := fun e => by rw [e] at hp; cases hp
  rw [passQ, if_pos hp, takeQ, if_neg h12, if_neg h14]; rfl
theorem pass_not (hp : isPut l.op = false) (h12 : ¬ l.op = 12) (h13 : ¬ l.op = 13) (h15 : ¬ l.op = 15) : passQ q l s = s := by
  have h14 : ¬ l.op = 14 := fun e => by rw [e] at hp; cases hp
  rw [passQ, if_neg (by rw [hp]; decide), if_neg h12, if_neg h13, if_neg h15, takeQ, if_neg h12, if_neg h14]
theorem int_first (hl : LnOk q l) (hop : l.op = 2 ∨ l.op = 3 ∨ l.op = 4 ∨ l.op = 5 ∨ l.op = 6 ∨ l.op = 7 ∨ l.op = 10) : q.tyOf (plOf l 0).1 = 0 := by
  have key : ∀ op : Fin 23, (op.val = 2 ∨ op.val = 3 ∨ op.val = 4 ∨ op.val = 5 ∨ op.val = 6 ∨ op.val = 7 ∨ op.val = 10) → 0 < ((wantsOf op.val).filter isPlc).length ∧ (wantsOf op.val).getD 0 0 = 105 := by decide
  obtain ⟨k1, k2⟩ := key ⟨l.op, hl.ok.op⟩ hop
  have := fits_at hl.fits (j := 0) (by rw [hl.ok.plen]; exact k1)
  have k3 : (wantsOf l.op).getD 0 0 = 105 := k2
  rw [k3] at this
  exact kind_int this
theorem line_fit (hl : LnOk q l) (hls : q.locals.length ≤ 12) (hf : faultyQ q l s = false) (h : FitL q s o) (hgo : goesOn l.op) : o.need l = true ∧ FitL q (passQ q l s) (o.do1 q l) := by
  have easy : ¬ l.op = 10 → ¬ l.op = 11 → o.need l = true := fun h1 h2 => by unfold Own.need; rw [if_neg h1, if_neg h2]
  rcases hgo with e | e | e | e | e | e | e | e | e | e | e | e
  · refine ⟨easy (by omega) (by omega), ?_⟩
    rw [pass_put (by rw [e]; rfl) (by omega), Own.do1, if_pos e]
    exact put_int h (int_first hl (by omega)) rfl
  · refine ⟨easy (by omega) (by omega), ?_⟩
    rw [pass_put (by rw [e]; rfl) (by omega), Own.do1, if_neg (by omega), if_pos (by omega)]
    exact put_int h (int_first hl (by omega)) rfl
  · refine ⟨easy (by omega) (by omega), ?_⟩
    rw [pass_put (by rw [e]; rfl) (by omega), Own.do1, if_neg (by omega), if_pos (by omega)]
    exact put_int h (int_first hl (by omega)) rfl
  · refine ⟨easy (by omega) (by omega), ?_⟩
    rw [pass_put (by rw [e]; rfl) (by omega), Own.do1, if_neg (by omega), if_pos (by omega)]
    exact put_int h (int_first hl (by omega)) rfl
  · refine ⟨easy (by omega) (by omega), ?_⟩
    rw [pass_put (by rw [e]; rfl) (by omega), Own.do1, if_neg (by omega), if_neg (by omega), if_pos (by omega)]
    exact put_int h (int_first hl (by omega)) rfl
  · refine ⟨easy (by omega) (by omega), ?_⟩
    rw [pass_not (by rw [e]; rfl) (by omega) (by omega) (by omega), Own.do1, if_neg (by omega), if_neg (by omega), if_neg (by omega), if_pos (by omega)]
    exact h
  · have hlen : l.places.length = 2 := by rw [hl.ok.plen, e]; rfl
    have k1 := fits_at hl.fits (j := 1) (by omega)
    rw [e] at k1
    rw [faultyQ, if_neg (by omega), if_neg (by omega), if_neg (by omega), if_pos (by omega), at_eq] at hf
    refine ⟨?_, ?_⟩
    · unfold Own.need; rw [if_pos e]
      exact decide_eq_true (box_there hls h (place_in hl (j := 1) (by omega)).1 (kind_box (x := plOf l 1) k1).1 hf)
    · rw [pass_put (by rw [e]; rfl) (by omega), Own.do1, if_neg (by omega), if_neg (by omega), if_neg (by omega), if_neg (by omega), if_pos (by omega)]
      exact put_int h (int_first hl (by omega)) rfl
  · have hlen : l.places.length = 2 := by rw [hl.ok.plen, e]; rfl
    have k0 := fits_at hl.fits (j := 0) (by omega)
    rw [e] at k0
    rw [faultyQ, if_neg (by omega), if_neg (by omega), if_neg (by omega), if_neg (by omega), if_pos (by omega), at_eq, at_eq] at hf
    have hf0 : lacksL 2 [plOf l 0] s = false := by
      simp only [lacksL, List.any_cons, List.any_nil, Bool.or_false, Bool.or_eq_false_iff] at hf ⊢
      exact hf.1
    refine ⟨?_, ?_⟩
    · unfold Own.need; rw [if_neg (by omega), if_pos e]
      exact decide_eq_true (box_there hls h (place_in hl (j := 0) (by omega)).1 (kind_box (x := plOf l 0) k0).1 hf0)
    · rw [pass_not (by rw [e]; rfl) (by omega) (by omega) (by omega), Own.do1, if_neg (by omega), if_neg (by omega), if_neg (by omega), if_neg (by omega), if_neg (by omega), if_pos (by omega)]
      exact h
  · refine ⟨easy (by omega) (by omega), ?_⟩
    have hlen : l.places.length = 2 := by rw [hl.ok.plen, e]; rfl
    have k1 := fits_at hl.fits (j := 1) (by omega)
    rw [e] at k1
    rw [faultyQ, if_neg (by omega), if_neg (by omega), if_neg (by omega), if_neg (by omega), if_neg (by omega), if_pos (by omega), at_eq, at_eq, Bool.or_eq_false_iff] at hf
    rw [passQ, if_neg (by rw [e]; decide), if_pos e, takeQ, if_pos e, Own.do1, if_neg (by omega), if_neg (by omega), if_neg (by omega), if_neg (by omega), if_neg (by omega), if_neg (by omega), if_pos (by omega)]
    exact move_fit h _ _ (same_halves hl e) (vals_fit hls h (place_in hl (j := 1) (by omega)) (kind_thing (x := plOf l 1) k1) hf.1)
  · refine ⟨easy (by omega) (by omega), ?_⟩
    have hlen : l.places.length = 1 := by rw [hl.ok.plen, e]; rfl
    have k0 := fits_at hl.fits (j := 0) (by omega)
    rw [e] at k0
    have o0 := kind_opt (x := plOf l 0) k0 (place_in hl (j := 0) (by omega)).2
    have hh : QP.halvesQ q (plOf l 0) = [plOf l 0] := by
      rcases halves_cases q (plOf l 0) with ⟨e, -⟩ | ⟨-, -, e⟩
      · exact e
      · omega
    rw [passQ, if_neg (by rw [e]; decide), if_neg (by omega), if_pos e, takeQ, if_neg (by omega), if_neg (by omega), Own.do1, if_neg (by omega), if_neg (by omega), if_neg (by omega), if_neg (by omega), if_neg (by omega), if_neg (by omega), if_neg (by omega), if_pos (by omega), hh]
    unfold FitL; rw [(drop_parts _ _).2.2.2]
    exact FitX.put h (slotQ (plOf l 0)) (.inl (by unfold fit1; rw [if_pos rfl]; decide)) (fun k hk => by cases hk)
  · refine ⟨easy (by omega) (by omega), ?_⟩
    have hlen : l.places.length = 2 := by rw [hl.ok.plen, e]; rfl
    obtain ⟨h0, h1, h2, h3⟩ := some_halves hl e
    rw [faultyQ, if_neg (by omega), if_neg (by omega), if_neg (by omega), if_pos (by omega), at_eq] at hf
    rw [passQ, if_pos (by rw [e]; rfl), takeQ, if_neg (by omega), if_pos e, Own.do1, if_neg (by omega), if_neg (by omega), if_neg (by omega), if_neg (by omega), if_neg (by omega), if_neg (by omega), if_pos (by omega), h0, h1]
    refine move_fit h [plOf l 0] [plOf l 1] rfl (fun n hn => ?_)
    simp only [Own.take, List.mem_singleton] at hn
    subst hn
    have := box_there hls h (place_in hl (j := 1) (by omega)).1 h3 hf
    unfold fit1; rw [if_neg (by omega)]; decide
  · refine ⟨easy (by omega) (by omega), ?_⟩
    rw [passQ, if_neg (by rw [e]; decide), if_neg (by omega), if_neg (by omega), if_pos e, takeQ, if_neg (by omega), if_neg (by omega), Own.do1, if_neg (by omega), if_neg (by omega), if_neg (by omega), if_neg (by omega), if_neg (by omega), if_neg (by omega), if_neg (by omega), if_pos (by omega)]
    unfold FitL; rw [(drop_parts _ _).2.2.2]
    exact take_fit _ h
theorem calc_fit (hl : LnOk q l) (h : FitL q s o) (hop : l.op = 6) : FitL q (passQ q l s) (o.calc l) := by
  rw [pass_put (by rw [hop]; rfl) (by omega)]
  exact put_int h (int_first hl (by omega)) rfl
theorem new_fit (h : FitL q s o) (hop : l.op = 9) (v : Int) : FitL q (passQ q l s) ((o.drop [plOf l 0]).new (plOf l 0) v) := by
  rw [pass_put (by rw [hop]; rfl) (by omega)]
  have e : ((o.drop [plOf l 0]).new (plOf l 0) v).boxes = o.boxes.set (slotQ (plOf l 0)) ((o.drop [plOf l 0]).yd.made.length + 1) := by
    show (o.drop [plOf l 0]).boxes.set _ _ = _
    rw [(drop_parts _ _).2.2.2]
    show (o.boxes.set (slotQ (plOf l 0)) 0).set _ _ = _
    rw [List.set_set]
  unfold FitL; rw [e]
  exact FitX.put h _ (.inl (by unfold fit1; rw [if_neg (by omega)]; decide)) (fun k hk => by cases hk)
theorem term_fit (_hls : q.locals.length ≤ 12) (h : FitL q s o) : FitL q (stepS l (if o.other l then 1 else 0) s) o := by
  unfold stepS
  by_cases e : l.op = 20
  · rw [if_pos e]
    refine ⟨h.lb, by simpa [putL] using h.ls, fun k hk hn ht => ?_⟩
    show fit1 _ ((s.set (slotQ (l.places.getD 0 (0, 0))) _).getD k 0)
    rw [getD_set1, h.ls]
    by_cases ek : slotQ (l.places.getD 0 (0, 0)) = k
    · rw [if_pos ⟨ek, hk⟩]
      have ho : o.other l = !(o.boxes.getD k 0 == 0) := by
        unfold Own.other; rw [if_neg (by omega), if_pos e]; unfold Own.box; rw [ek]
      rw [ho]
      by_cases hz : o.boxes.getD k 0 = 0
      · rw [hz]; unfold fit1; decide
      · have hb : (o.boxes.getD k 0 == 0) = false := by rw [beq_eq_false_iff_ne]; exact hz
        rw [hb]; unfold fit1; rw [if_neg hz]; decide
    · rw [if_neg (fun x => ek x.1)]; exact h.at_ k hk hn ht
  · rw [if_neg e]; exact h
theorem start_fit (q : QP) (inp : List Int) : FitL q startSt (Own.start inp) :=
  ⟨by simp [Own.start], by decide, fun k hk _ _ => by
    have h1 : (Own.start inp).boxes.getD k 0 = 0 := by show (List.replicate 24 0).getD k 0 = 0; rw [List.getD_eq_getElem?_getD, List.getElem?_replicate, if_pos hk]; rfl
    have h2 : startSt.getD k 0 = 1 := by show (List.replicate 24 1).getD k 0 = 1; rw [List.getD_eq_getElem?_getD, List.getElem?_replicate, if_pos hk]; rfl
    rw [h1, h2]; unfold fit1; decide⟩
end
end Go.Proofs.YtmlgajhhnojdjaaGreatDoor.RunB
/- All ways of a program, made and gone; its first fault. -/
namespace Go.Proofs.YtmlgajhhnojdjaaGreatDoor.FlwR
open Go Go.RowKit Go.Proofs.YtmlgajhhnojdjaaGreatDoor.Spec Go.Proofs.YtmlgajhhnojdjaaGreatDoor.Aux Go.Proofs.YtmlgajhhnojdjaaGreatDoor.PrjF Go.Proofs.YtmlgajhhnojdjaaGreatDoor.PrjG Go.Proofs.YtmlgajhhnojdjaaGreatDoor.PrjJ Go.Proofs.YtmlgajhhnojdjaaGreatDoor.PrjK Go.Proofs.YtmlgajhhnojdjaaGreatDoor.PrjL Go.Proofs.YtmlgajhhnojdjaaGreatDoor.PrjM Go.Proofs.YtmlgajhhnojdjaaGreatDoor.PrjO Go.Proofs.YtmlgajhhnojdjaaGreatDoor.PrjP Go.Proofs.YtmlgajhhnojdjaaGreatDoor.PrjQ Go.Proofs.YtmlgajhhnojdjaaGreatDoor.PrjS Go.Proofs.YtmlgajhhnojdjaaGreatDoor.PrjU Go.Proofs.YtmlgajhhnojdjaaGreatDoor.FlwA Go.Proofs.YtmlgajhhnojdjaaGreatDoor.FlwB Go.Proofs.YtmlgajhhnojdjaaGreatDoor.FlwC Go.Proofs.YtmlgajhhnojdjaaGreatDoor.FlwD Go.Proofs.YtmlgajhhnojdjaaGreatDoor.FlwE Go.Proofs.YtmlgajhhnojdjaaGreatDoor.FlwF Go.Proofs.YtmlgajhhnojdjaaGreatDoor.FlwG Go.Proofs.YtmlgajhhnojdjaaGreatDoor.FlwH Go.Proofs.YtmlgajhhnojdjaaGreatDoor.FlwI Go.Proofs.YtmlgajhhnojdjaaGreatDoor.FlwJ Go.Proofs.YtmlgajhhnojdjaaGreatDoor.FlwK Go.Proofs.YtmlgajhhnojdjaaGreatDoor.FlwL Go.Proofs.YtmlgajhhnojdjaaGreatDoor.FlwM Go.Proofs.YtmlgajhhnojdjaaGreatDoor.FlwN Go.Proofs.YtmlgajhhnojdjaaGreatDoor.FlwO Go.Proofs.YtmlgajhhnojdjaaGreatDoor.FlwP Go.Proofs.YtmlgajhhnojdjaaGreatDoor.FlwQ

theorem info_state3 : (Tryz.prog.info? 209).map (fun i => (i.zero.map Value.cells, i.size, i.bytes)) = some (some (stCells zeroSt).toArray, 24, 24) := by kernel_rfl
theorem under_states : Tryz.prog.underlying 139 = some (.slice 209) := by kernel_rfl
theorem zeroSt_ok : SOk zeroSt := ⟨by decide, zeroSt_lt⟩
theorem made_row (w : World) (n : Nat) : RowAt (w.alloc (.cells (madeCells (stCells zeroSt).toArray (n * 24)) 209)) w.heap.size (List.replicate n zeroSt) := by
  refine ⟨fun s hs => by rw [List.eq_of_mem_replicate hs]; exact zeroSt_ok, madeCells (stCells zeroSt).toArray (n * 24), by show (w.heap.push _)[w.heap.size]? = _; simp, by rw [size_madeCells]; simp; omega, fun i j hi hj => ?_⟩
  rw [List.length_replicate] at hi
  have hs : (stCells zeroSt).toArray.size = 24 := by decide
  have hj' : j < (stCells zeroSt).toArray.size := by rw [hs]; exact hj
  have e : (i * 24 + j) % (stCells zeroSt).toArray.size = j := by rw [hs]; omega
  unfold madeCells
  rw [Array.getElem?_map, Array.getElem?_range, if_pos (by omega), Option.map_some, e]
  rw [getElem!_pos _ j hj']
  have hz : (List.replicate n zeroSt).getD i [] = zeroSt := by simp [List.getD_eq_getElem?_getD, hi]
  have hl : j < zeroSt.length := by simpa [zeroSt] using hj
  rw [hz]
  simp [stCells, hl]
theorem run_make_states (n : Nat) (hn : n ≤ 4000) (w : World) : (Instr.makeSlice 139 (.int .i64 (n : Int)) (.int .i64 (n : Int))).run Tryz.prog w = .ok (.slice (some ⟨w.heap.size, 0, none⟩) n n) (w.alloc (.cells (madeCells (stCells zeroSt).toArray (n * 24)) 209)) := by
  obtain ⟨i, hi, hx⟩ := Option.map_eq_some_iff.1 info_state3
  simp only [Prod.mk.injEq] at hx
  obtain ⟨hz, hs, hb⟩ := hx
  obtain ⟨z, hz, hc⟩ := Option.map_eq_some_iff.1 hz
  have := run_make (P := Tryz.prog) w 139 209 i z under_states hi hz .i64 .i64 n n (by omega) (Int.le_refl _) (by rw [hb]; omega) (by omega)
  rw [hs, hc] at this
  simpa using this
section
variable {z a : Nat} {w w' : World} {q : QP} {vl vb : Value} {us : List Value} {vss : List (List (Value × Value))}
set_option maxRecDepth 20000 in
set_option maxHeartbeats 2000000 in
theorem waysOf_any (h : PAt z a w q vl vb us vss) (h0 : 0 < q.blocks.length) (hn : q.blocks.length ≤ 4000) (hls : q.locals.length ≤ 12) (hq : QOk q.blocks.length q) (hlines : ∀ j, (q.blocks.getD j []).length ≤ 4000)
    (I : List (List Nat) → (Nat → Bool) → Prop) (hI0 : I (leadE (List.replicate q.blocks.length zeroSt) 0 startSt) (leadO (List.replicate q.blocks.length zeroSt) (fun _ => false) 0 startSt))
    (hI : ∀ E O b, EOk E → E.length = q.blocks.length → b < q.blocks.length → O b = true → I E O → I (goBlk q E (setO O b false) b).2.1 (goBlk q E (setO O b false) b).2.2) :
    Calls Tryz.prog 90 #[.pointer (some ⟨a, 0, none⟩)] w fun e w' => ∃ ap mb E' O', e = .returned (.agg #[.pointer (some ⟨a, 0, none⟩), .slice (some ⟨ap, 0, none⟩) q.blocks.length q.blocks.length, .map (some mb)]) ∧
      PAt z a w' q vl vb us vss ∧ E'.length = q.blocks.length ∧ RowAt w' ap E' ∧ OpenAt w' mb q.blocks.length O' ∧ I E' O' ∧ (∀ b, O' b = false) ∧ w.heap.size ≤ ap ∧ w.heap.size ≤ mb ∧ Below w.heap.size w w' := by
  obtain ⟨p0, p1, -, -⟩ := PAt.facts h
  obtain ⟨adb, cb, rfl⟩ := own_slice h.blocks
  have hbR : Below w.heap.size w (w.alloc (.cells #[.pointer none, .slice none 0 0, .map none] 165)) := (Below.refl _ _).alloc (Nat.le_refl _) _
  have hmk := run_make_states q.blocks.length hn
  have hmm := @run_makeMap Tryz.prog
  have p1R := (hbR.cell (p := ⟨a, 1, none⟩) h.lt).trans p1
  have hPR := h.below hbR
  have hRr : (w.alloc (.cells #[.pointer none, .slice none 0 0, .map none] 165)).heap[w.heap.size]? = some (.cells #[.pointer none, .slice none 0 0, .map none] 165 (0, 0)) := Array.getElem?_push_size
  go_enter Tryz.func90, Tryz.ntmps90
  go_upto_region 1 with fail
  generalize (w.alloc (.cells #[.pointer none, .slice none 0 0, .map none] 165)) = R at *
  go_upto_region 2 with fail
  have hb1 : Below R.heap.size R (R.alloc (.cells (madeCells (stCells zeroSt).toArray (q.blocks.length * 24)) 209)) := (Below.refl _ _).alloc (Nat.le_refl _) _
  have hr1 := made_row R q.blocks.length
  have hs1 : (R.alloc (.cells (madeCells (stCells zeroSt).toArray (q.blocks.length * 24)) 209)).heap.size = R.heap.size + 1 := by simp
  generalize (R.alloc (.cells (madeCells (stCells zeroSt).toArray (q.blocks.length * 24)) 209)) = R1 at *
  have hb2 : Below R1.heap.size R1 (R1.alloc (.map #[] 0)) := (Below.refl _ _).alloc (Nat.le_refl _) _
  have ho2 := OpenAt.made R1 q.blocks.length
  have hs2 : (R1.alloc (.map #[] 0)).heap.size = R.heap.size + 1 + 1 := by simp [hs1]
  generalize (R1.alloc (.map #[] 0)) = R2 at *
  have hb3 : Below R2.heap.size R2 (R2.alloc (.cells #[.pointer (some ⟨a, 0, none⟩), .slice (some ⟨R.heap.size, 0, none⟩) q.blocks.length q.blocks.length, .map (some (R.heap.size + 1))] 165)) := (Below.refl _ _).alloc (Nat.le_refl _) _
  have hx3 : (R2.alloc (.cells #[.pointer (some ⟨a, 0, none⟩), .slice (some ⟨R.heap.size, 0, none⟩) q.blocks.length q.blocks.length, .map (some (R.heap.size + 1))] 165)).heap[R2.heap.size]? = some (.cells #[.pointer (some ⟨a, 0, none⟩), .slice (some ⟨R.heap.size, 0, none⟩) q.blocks.length q.blocks.length, .map (some (R.heap.size + 1))] 165 (0, 0)) := Array.getElem?_push_size
  generalize (R2.alloc (.cells #[.pointer (some ⟨a, 0, none⟩), .slice (some ⟨R.heap.size, 0, none⟩) q.blocks.length q.blocks.length, .map (some (R.heap.size + 1))] 165)) = R3 at *
  have hwR : w.heap.size < R.heap.size := lt_of_heap hRr
  have hbb : Below R.heap.size R R3 := hb1.trans ((hb2.mono hb1.size).trans (hb3.mono (Nat.le_trans hb1.size hb2.size)))
  have hrow3 : RowAt R3 R.heap.size (List.replicate q.blocks.length zeroSt) := (hr1.heap (hb2.block _ hr1.lt)).heap (hb3.block _ (by omega))
  rw [hs1] at ho2
  rw [hs2] at hx3
  have hopn3 : OpenAt R3 (R.heap.size + 1) q.blocks.length (fun _ => false) := ho2.heap (hb3.block _ (by omega))
  have hW : WAt z (R.heap.size + 1 + 1) a R.heap.size (R.heap.size + 1) R3 q vl (.slice adb q.blocks.length cb) us vss (List.replicate q.blocks.length zeroSt) (fun _ => false) :=
    ⟨hx3, hPR.below hbb, by simp, hrow3, hopn3⟩
  have hrr3 := (hbb.block w.heap.size hwR).trans hRr
  have hB3 := hbR.trans (hbb.mono hbR.size)
  have KF := follow_any hW h0 hn hls hq hlines I hI0 hI
  clear hb1 hb2 hb3 hr1 ho2 hs1 hs2 hx3 hopn3 hrow3 hmk hmm p1R hRr hPR p0 p1 hI0 hI
  have hap : w.heap.size ≤ R.heap.size := by omega
  have hmb : w.heap.size ≤ R.heap.size + 1 := by omega
  generalize hxx : R.heap.size + 1 + 1 = x at *
  have hne1 : w.heap.size ≠ R.heap.size := by omega
  have hne2 : w.heap.size ≠ R.heap.size + 1 := by omega
  clear hxx
  generalize R.heap.size = ap at *
  generalize ap + 1 = mb at *
  go_wp2_with (go_at_call 144; refine KF.mono ?_; rintro e w1 ⟨rfl, E', O', hW1, hI1, hO1, hT1⟩; obtain ⟨c0, c1, c2⟩ := hW1.facts; have hr1 := (hT1.block _ (lt_of_heap hrr3) hne1 hne2).trans hrr3; have d0 := (cell_of_heap hr1 0).trans (by rfl : _ = some (Value.pointer none)); have d1 := (cell_of_heap hr1 1).trans (by rfl : _ = some (Value.slice none 0 0)); have d2 := (cell_of_heap hr1 2).trans (by rfl : _ = some (Value.map none)); have f0 := frozen_of_heap hr1 0; have f1 := frozen_of_heap hr1 1; have f2 := frozen_of_heap hr1 2)
  have hrf : (((w1.setCell ⟨w.heap.size, 0, none⟩ (.pointer (some ⟨a, 0, none⟩))).setCell ⟨w.heap.size, 1, none⟩ (.slice (some ⟨ap, 0, none⟩) q.blocks.length q.blocks.length)).setCell ⟨w.heap.size, 2, none⟩ (.map (some mb))).heap[w.heap.size]? = some (.cells #[.pointer (some ⟨a, 0, none⟩), .slice (some ⟨ap, 0, none⟩) q.blocks.length q.blocks.length, .map (some mb)] 165 (0, 0)) := by
    rw [Go.Proofs.YtmlgajhhnojdjaaGreatDoor.Aux.heap_setCell_same (Go.Proofs.YtmlgajhhnojdjaaGreatDoor.Aux.heap_setCell_same (Go.Proofs.YtmlgajhhnojdjaaGreatDoor.Aux.heap_setCell_same hr1 0 _) 1 _) 2 _]; rfl
  have hTr : Turn w.heap.size w1 (((w1.setCell ⟨w.heap.size, 0, none⟩ (.pointer (some ⟨a, 0, none⟩))).setCell ⟨w.heap.size, 1, none⟩ (.slice (some ⟨ap, 0, none⟩) q.blocks.length q.blocks.length)).setCell ⟨w.heap.size, 2, none⟩ (.map (some mb))) := (((Turn.refl _ _).setCell 0 _).setCell 1 _).setCell 2 _
  clear d0 d1 d2 f0 f1 f2 c0 c1 c2
  generalize (((w1.setCell ⟨w.heap.size, 0, none⟩ (.pointer (some ⟨a, 0, none⟩))).setCell ⟨w.heap.size, 1, none⟩ (.slice (some ⟨ap, 0, none⟩) q.blocks.length q.blocks.length)).setCell ⟨w.heap.size, 2, none⟩ (.map (some mb))) = wf at *
  refine bodyPost_ret (results_cell Tryz.results90 _ _ _ w.heap.size [.pointer (some ⟨a, 0, none⟩), .slice (some ⟨ap, 0, none⟩) q.blocks.length q.blocks.length, .map (some mb)] _ rfl (fun j v hv => by rw [Nat.zero_add, cell_of_heap hrf]; simpa using hv) Tryz.underlying165 rfl (by kernel_rfl)) rfl ?_
  have hkey : ∀ (g : Nat) (cs : Array Value) (e : TypeId) (f : Nat × Nat), w1.heap[g]? = some (.cells cs e f) → e ≠ 165 → wf.heap[g]? = w1.heap[g]? := fun g cs e f hg he => hTr.block g (lt_of_heap hg) (fun e1 => by
    rw [e1, hr1] at hg; simp only [Option.some.injEq, Obj.cells.injEq] at hg; exact he hg.2.1.symm)
  refine ⟨ap, mb, E', O', rfl, ?_, hW1.len, hW1.row.heap (hTr.block _ hW1.row.lt (by omega)), hW1.opn.heap (hTr.block _ hW1.opn.lt (by omega)), hI1, hO1, hap, hmb, (hB3.trans (hT1.below hap hmb hB3.size)).trans (hTr.below (Nat.le_refl _) (Nat.le_trans hB3.size hT1.size))⟩
  exact (h.below ((hB3.trans (hT1.below hap hmb hB3.size)).trans (hTr.below (Nat.le_refl _) (Nat.le_trans hB3.size hT1.size))))
set_option maxRecDepth 20000 in
theorem FirstFault_any (h : PAt z a w q vl vb us vss) (h0 : 0 < q.blocks.length) (hn : q.blocks.length ≤ 4000) (hls : q.locals.length ≤ 12) (hq : QOk q.blocks.length q) (hlines : ∀ j, (q.blocks.getD j []).length ≤ 4000)
    (I : List (List Nat) → (Nat → Bool) → Prop) (hI0 : I (leadE (List.replicate q.blocks.length zeroSt) 0 startSt) (leadO (List.replicate q.blocks.length zeroSt) (fun _ => false) 0 startSt))
    (hI : ∀ E O b, EOk E → E.length = q.blocks.length → b < q.blocks.length → O b = true → I E O → I (goBlk q E (setO O b false) b).2.1 (goBlk q E (setO O b false) b).2.2) :
    Calls Tryz.prog 54 #[.pointer (some ⟨a, 0, none⟩)] w fun e w' => (∃ E', EOk E' ∧ E'.length = q.blocks.length ∧ I E' (fun _ => false) ∧ e = .returned (ansOf (firstSome (faultB q E') q.blocks.length 0))) ∧ Below w.heap.size w w' := by
  have KW := waysOf_any h h0 hn hls hq hlines I hI0 hI
  have KF := fun x ap mb w1 E' (hW : WAt z x a ap mb w1 q vl vb us vss E' (fun _ => false)) => firstFault_any hW hn hls hq hlines
  go_enter Tryz.func54, Tryz.ntmps54
  go_upto_region 2 with (go_at_call 90; refine KW.mono ?_; rintro e w1 ⟨ap, mb, E', O', rfl, hP1, hl1, hr1, ho1, hI1, hO1, hap, hmb, hB1⟩)
  have hO : O' = fun _ => false := funext hO1
  have hbX : Below w1.heap.size w1 (w1.alloc (.cells #[.pointer (some ⟨a, 0, none⟩), .slice (some ⟨ap, 0, none⟩) q.blocks.length q.blocks.length, .map (some mb)] 165)) := (Below.refl _ _).alloc (Nat.le_refl _) _
  have hX : (w1.alloc (.cells #[.pointer (some ⟨a, 0, none⟩), .slice (some ⟨ap, 0, none⟩) q.blocks.length q.blocks.length, .map (some mb)] 165)).heap[w1.heap.size]? = some (.cells #[.pointer (some ⟨a, 0, none⟩), .slice (some ⟨ap, 0, none⟩) q.blocks.length q.blocks.length, .map (some mb)] 165 (0, 0)) := Array.getElem?_push_size
  have hW : WAt z w1.heap.size a ap mb _ q vl vb us vss E' O' := ⟨hX, hP1.below hbX, hl1, hr1.heap (hbX.block _ hr1.lt), ho1.below hbX⟩
  rw [hO] at hW hI1
  have KX := KF _ _ _ _ _ hW
  have hBX := hB1.trans (hbX.mono hB1.size)
  have hEok : EOk E' := hr1.1
  obtain ⟨r, hr⟩ : ∃ r, Hid (firstSome (faultB q E') q.blocks.length 0 = r) := ⟨_, rfl⟩
  rw [hr.out, ansOf_eq] at KX
  clear KF KW hW hX hbX ho1 hr1 hP1 hO1 hO hI0 hI
  generalize (w1.alloc (.cells #[.pointer (some ⟨a, 0, none⟩), .slice (some ⟨ap, 0, none⟩) q.blocks.length q.blocks.length, .map (some mb)] 165)) = W at *
  go_wp2_with (go_at_call 91; refine KX.mono ?_; rintro e w2 ⟨rfl, hT2⟩)
  go_ret2
  refine ⟨⟨E', hEok, hl1, hI1, ?_⟩, hBX.trans (hT2.below hap hmb hBX.size)⟩
  rw [hr.out, ansOf_eq]; rfl
end
end Go.Proofs.YtmlgajhhnojdjaaGreatDoor.FlwR
