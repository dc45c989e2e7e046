/- Plain facts: what is in the boxes is what the ways say; a run of a checked program always comes to an answer. -/
import Derived.Test.YtmlgajhhnojdjaaGreatDoorKAP
import Derived.Test.YtmlgajhhnojdjaaGreatDoorKAS
import Derived.Test.YtmlgajhhnojdjaaGreatDoorKAX
import Derived.Test.YtmlgajhhnojdjaaGreatDoorKBF
namespace Go.Proofs.YtmlgajhhnojdjaaGreatDoor.RunB
open Go Go.Proofs.YtmlgajhhnojdjaaGreatDoor.Spec Go.Proofs.YtmlgajhhnojdjaaGreatDoor.Aux Go.Proofs.YtmlgajhhnojdjaaGreatDoor.Own Go.Proofs.YtmlgajhhnojdjaaGreatDoor.RunA Go.Proofs.YtmlgajhhnojdjaaGreatDoor.PrjS Go.Proofs.YtmlgajhhnojdjaaGreatDoor.FlwA Go.Proofs.YtmlgajhhnojdjaaGreatDoor.FlwB Go.Proofs.YtmlgajhhnojdjaaGreatDoor.FlwC Go.Proofs.YtmlgajhhnojdjaaGreatDoor.FlwD Go.Proofs.YtmlgajhhnojdjaaGreatDoor.FlwE Go.Proofs.YtmlgajhhnojdjaaGreatDoor.FlwF Go.Proofs.YtmlgajhhnojdjaaGreatDoor.FlwG Go.Proofs.YtmlgajhhnojdjaaGreatDoor.FlwH Go.Proofs.YtmlgajhhnojdjaaGreatDoor.FlwI Go.Proofs.YtmlgajhhnojdjaaGreatDoor.FlwJ Go.Proofs.YtmlgajhhnojdjaaGreatDoor.FlwK Go.Proofs.YtmlgajhhnojdjaaGreatDoor.FlwM Go.Proofs.YtmlgajhhnojdjaaGreatDoor.FlwO Go.Proofs.YtmlgajhhnojdjaaGreatDoor.FlwP Go.Proofs.YtmlgajhhnojdjaaGreatDoor.FlwQ Go.Proofs.YtmlgajhhnojdjaaGreatDoor.FlwS Go.Proofs.YtmlgajhhnojdjaaGreatDoor.FlwY

/-- a box, or none, and what may be there -/
def fit1 (n v : Nat) : Prop := if n = 0 then ¬ v &&& 13 = 0 else ¬ v &&& 2 = 0
theorem fit1_mono {n u v : Nat} (h : fit1 n u) (hl : le1 u v) : fit1 n v := by
  have key : ∀ m, ¬ u &&& m = 0 → ¬ v &&& m = 0 := fun m hu hv => hu (by
    rw [← hl, Nat.and_or_distrib_right] at hv
    apply Nat.eq_of_testBit_eq
    intro i
    have := congrArg (fun x => x.testBit i) hv
    simp only [Nat.testBit_or, Nat.testBit_and, Nat.zero_testBit] at this ⊢
    revert this
    cases u.testBit i <;> cases m.testBit i <;> cases v.testBit i <;> simp)
  unfold fit1 at *
  split at h
  · rename_i e; rw [if_pos e]; exact key _ h
  · rename_i e; rw [if_neg e]; exact key _ h
structure FitX (q : QP) (X : List Nat) (b s : List Nat) : Prop where
  lb : b.length = 24
  ls : s.length = 24
  at_ : ∀ k, k < 24 → k ∉ X → ¬ q.tyOf (k / 2) = 0 → fit1 (b.getD k 0) (s.getD k 0)
def FitL (q : QP) (s : List Nat) (o : Own.Own) : Prop := FitX q [] o.boxes s
section
variable {q : QP} {X b s : List Nat}
theorem FitX.put (h : FitX q X b s) (i : Nat) {n v : Nat} (hf : fit1 n v ∨ q.tyOf (i / 2) = 0) {Y : List Nat} (hY : ∀ k, k ∈ X → k = i ∨ k ∈ Y) : FitX q Y (b.set i n) (s.set i v) := by
  refine ⟨by simpa using h.lb, by simpa using h.ls, fun k hk hn ht => ?_⟩
  rw [getD_set1, getD_set1, h.lb, h.ls]
  by_cases e : i = k
  · subst e
    rw [if_pos ⟨rfl, hk⟩, if_pos ⟨rfl, hk⟩]
    exact hf.resolve_right ht
  · rw [if_neg (fun x => e x.1), if_neg (fun x => e x.1)]
    refine h.at_ k hk (fun hx => ?_) ht
    rcases hY k hx with h1 | h1
    · exact e h1.symm
    · exact hn h1
theorem FitX.clear (h : FitX q X b s) (i : Nat) {Y : List Nat} (hY : ∀ k, k ∈ X ∨ k = i → k ∈ Y) : FitX q Y (b.set i 0) s := by
  refine ⟨by simpa using h.lb, h.ls, fun k hk hn ht => ?_⟩
  rw [getD_set1, if_neg (fun x => hn (hY k (.inr x.1.symm)))]
  exact h.at_ k hk (fun hx => hn (hY k (.inl hx))) ht
theorem FitX.free (h : FitX q X b s) (i : Nat) (v : Nat) (ht : q.tyOf (i / 2) = 0) : FitX q X b (s.set i v) := by
  refine ⟨h.lb, by simpa using h.ls, fun k hk hn htk => ?_⟩
  rw [getD_set1, if_neg (fun x => htk (by rw [← x.1]; exact ht))]
  exact h.at_ k hk hn htk
theorem FitX.mono (h : FitX q X b s) {t : List Nat} (ht : t.length = 24) (hl : leS s t) : FitX q X b t := ⟨h.lb, ht, fun k hk hn hty => fit1_mono (h.at_ k hk hn hty) (hl k hk)⟩
theorem take_fit : ∀ (ps : List (Nat × Nat)) {o : Own.Own} {s : List Nat}, FitL q s o → FitL q (takeL ps s) (Own.take ps o).2
  | [], _, _, h => h
  | p :: ps, o, s, h => by
    rw [Own.take]
    refine take_fit ps (o := o.clear p) (s := s.set (slotQ p) (if p.2 = 3 then 8 else 1)) ?_
    exact FitX.put h (slotQ p) (.inl (by unfold fit1; rw [if_pos rfl]; split <;> decide)) (fun k hk => by cases hk)
theorem take_clear : ∀ (ps : List (Nat × Nat)) {o : Own.Own} {X : List Nat} {s : List Nat}, FitX q X o.boxes s → FitX q (X ++ ps.map slotQ) (Own.take ps o).2.boxes s
  | [], _, X, _, h => by simpa [Own.take] using h
  | p :: ps, o, X, s, h => by
    rw [Own.take]
    have := take_clear ps (o := o.clear p) (X := X ++ [slotQ p]) (s := s) (h.clear (slotQ p) (fun k hk => by simpa using hk))
    simpa using this
theorem puts_fit {m : Nat} : ∀ (ps : List (Nat × Nat)) (ns : List Nat) {o : Own.Own} {s : List Nat}, ps.length = ns.length → (∀ n ∈ ns, fit1 n m) → FitX q (ps.map slotQ) o.boxes s → FitL q (putL m ps s) (Own.puts ps ns o)
  | [], _, _, _, _, _, h => h
  | p :: ps, [], _, _, hl, _, _ => by cases hl
  | p :: ps, n :: ns, o, s, hl, hn, h => by
    rw [Own.puts]
    refine puts_fit ps ns (o := o.put1 p n) (s := s.set (slotQ p) m) (by simpa using hl) (fun k hk => hn k (List.mem_cons_of_mem _ hk)) ?_
    exact FitX.put h (slotQ p) (.inl (hn n (List.mem_cons_self ..))) (fun k hk => by simpa using hk)
theorem move_fit {m : Nat} {o : Own.Own} (h : FitL q s o) (ts frm : List (Nat × Nat)) (hl : ts.length = frm.length) (hv : ∀ n ∈ (Own.take frm o).1, fit1 n m) : FitL q (putL m ts (takeL frm s)) (o.move ts frm) := by
  unfold Own.move
  refine puts_fit ts _ (by rw [Go.Proofs.YtmlgajhhnojdjaaGreatDoor.Own.take_len]; exact hl) hv ?_
  rw [(drop_parts ts _).2.2.2]
  have := take_clear ts (o := (Own.take frm o).2) (X := []) (take_fit frm h)
  simpa using this
theorem lack_two {n v : Nat} (h : lackB 2 v = false) (hf : fit1 n v) : ¬ n = 0 := fun e => by
  unfold fit1 at hf; rw [if_pos e] at hf
  simp only [lackB, Bool.not_eq_eq_eq_not, Bool.not_false, beq_iff_eq] at h
  exact hf h
end
/-! what the words of a line are -/
section
variable {q : QP}
theorem kind_int {x : Nat × Nat} (h : q.okPlace x 105 = true) : q.tyOf x.1 = 0 := by
  unfold QP.okPlace QP.kind at h
  split at h
  · cases h
  · rename_i t ht
    have h0 : t = 0 := by simpa [isKindP] using h
    subst h0
    split at ht
    · split at ht <;> cases ht
    · split at ht
      · split at ht <;> cases ht
      · simpa using ht
theorem kind_opt {x : Nat × Nat} (h : q.okPlace x 111 = true) (hx : x.2 ≤ 3) : q.tyOf x.1 = 3 ∧ x.2 = 0 := by
  unfold QP.okPlace QP.kind at h
  split at h
  · cases h
  · rename_i t ht
    have h0 : t = 3 := by simpa [isKindP] using h
    subst h0
    split at ht
    · split at ht <;> cases ht
    · split at ht
      · split at ht <;> cases ht
      · exact ⟨by simpa using ht, by omega⟩
theorem kind_box {x : Nat × Nat} (h : q.okPlace x 112 = true) : ¬ q.tyOf x.1 = 0 ∧ ¬ (x.2 = 0 ∧ q.tyOf x.1 = 2) ∧ q.kindV x = 1 := by
  unfold QP.okPlace QP.kind at h
  split at h
  · cases h
  · rename_i t ht
    have h0 : t = 1 := by simpa [isKindP] using h
    subst h0
    split at ht
    · rename_i h12
      split at ht
      · rename_i h2; exact ⟨by omega, by omega, by unfold QP.kindV; rw [if_pos (by omega)]⟩
      · cases ht
    · split at ht
      · rename_i h3
        split at ht
        · rename_i h4; exact ⟨by omega, by omega, by unfold QP.kindV; rw [if_pos (by omega)]⟩
        · cases ht
      · have : q.tyOf x.1 = 1 := by simpa using ht
        exact ⟨by omega, by omega, by unfold QP.kindV; rw [if_neg (by omega)]; exact this⟩
theorem kind_thing {x : Nat × Nat} (h : q.okPlace x 109 = true) : ¬ q.tyOf x.1 = 0 := by
  unfold QP.okPlace QP.kind at h
  split at h
  · cases h
  · rename_i t ht
    have h0 : ¬ t = 0 := by simpa [isKindP] using h
    split at ht
    · split at ht
      · omega
      · cases ht
    · split at ht
      · split at ht
        · omega
        · cases ht
      · have : q.tyOf x.1 = t := by simpa using ht
        omega
theorem slot_half (x : Nat × Nat) : slotQ x / 2 = x.1 := by unfold slotQ; split <;> omega
theorem slot_lt {x : Nat × Nat} (h : x.1 < 12) : slotQ x < 24 := by unfold slotQ; split <;> omega
/-- a line as it may be -/
structure LnOk (q : QP) (l : QLine) : Prop where
  ok : LOk q.locals.length q.blocks.length l
  has : hasP false l.op = true
  fits : q.fits l = true
theorem fits_at {l : QLine} (h : q.fits l = true) {j : Nat} (hj : j < l.places.length) : q.okPlace (plOf l j) ((wantsOf l.op).getD j 0) = true := by
  unfold QP.fits at h
  rw [Bool.and_eq_true] at h
  have key : ∀ (f : B) (ps : List (Nat × Nat)) (k j : Nat), q.fitsGo f ps k = true → j < ps.length → q.okPlace (ps.getD j (0, 0)) (f.getD (k + j) 0) = true := by
    intro f ps
    induction ps with
    | nil => intro k j _ hj; simp at hj
    | cons x r ih =>
      intro k j h hj
      rw [QP.fitsGo, Bool.and_eq_true] at h
      cases j with
      | zero => simpa using h.1
      | succ j =>
        have := ih (k + 1) j h.2 (by simpa using hj)
        rw [show k + 1 + j = k + (j + 1) by omega] at this
        simpa using this
  have := key _ _ 0 j h.1 hj
  rw [Nat.zero_add] at this
  exact this
theorem fits_same {l : QLine} (h : q.fits l = true) (h12 : l.op = 12) : q.kindV (plOf l 0) = q.kindV (plOf l 1) := by
  unfold QP.fits at h
  rw [Bool.and_eq_true, h12] at h
  simpa [plOf] using h.2
end
end Go.Proofs.YtmlgajhhnojdjaaGreatDoor.RunB
/- Plain facts: what is in the boxes stays what the ways say, line by line; a run of a checked program always comes to an answer. -/
namespace Go.Proofs.YtmlgajhhnojdjaaGreatDoor.RunB
open Go Go.Proofs.YtmlgajhhnojdjaaGreatDoor.Spec Go.Proofs.YtmlgajhhnojdjaaGreatDoor.Aux Go.Proofs.YtmlgajhhnojdjaaGreatDoor.Own Go.Proofs.YtmlgajhhnojdjaaGreatDoor.RunA Go.Proofs.YtmlgajhhnojdjaaGreatDoor.PrjS Go.Proofs.YtmlgajhhnojdjaaGreatDoor.FlwA Go.Proofs.YtmlgajhhnojdjaaGreatDoor.FlwB Go.Proofs.YtmlgajhhnojdjaaGreatDoor.FlwC Go.Proofs.YtmlgajhhnojdjaaGreatDoor.FlwD Go.Proofs.YtmlgajhhnojdjaaGreatDoor.FlwE Go.Proofs.YtmlgajhhnojdjaaGreatDoor.FlwF Go.Proofs.YtmlgajhhnojdjaaGreatDoor.FlwG Go.Proofs.YtmlgajhhnojdjaaGreatDoor.FlwH Go.Proofs.YtmlgajhhnojdjaaGreatDoor.FlwI Go.Proofs.YtmlgajhhnojdjaaGreatDoor.FlwJ Go.Proofs.YtmlgajhhnojdjaaGreatDoor.FlwK Go.Proofs.YtmlgajhhnojdjaaGreatDoor.FlwM Go.Proofs.YtmlgajhhnojdjaaGreatDoor.FlwO Go.Proofs.YtmlgajhhnojdjaaGreatDoor.FlwP Go.Proofs.YtmlgajhhnojdjaaGreatDoor.FlwQ Go.Proofs.YtmlgajhhnojdjaaGreatDoor.FlwS Go.Proofs.YtmlgajhhnojdjaaGreatDoor.FlwY

section
variable {q : QP} {l : QLine} {s : List Nat} {o : Own.Own}
theorem place_in (hl : LnOk q l) {j : Nat} (hj : j < l.places.length) : (plOf l j).1 < q.locals.length ∧ (plOf l j).2 ≤ 3 :=
  hl.ok.places _ (by unfold plOf; rw [List.getD_eq_getElem?_getD, List.getElem?_eq_getElem hj]; exact List.getElem_mem _)
theorem at_eq (l : QLine) (j : Nat) : QLine.at l j = plOf l j := rfl
theorem box_there (hls : q.locals.length ≤ 12) (h : FitL q s o) {p : Nat × Nat} (hp : p.1 < q.locals.length) (ht : ¬ q.tyOf p.1 = 0) (hn : lacksL 2 [p] s = false) : 1 ≤ o.box p := by
  have hk := FitX.at_ h (slotQ p) (slot_lt (by omega)) (by simp) (by rw [slot_half]; exact ht)
  simp only [lacksL, List.any_cons, List.any_nil, Bool.or_false] at hn
  have := lack_two hn hk
  show 1 ≤ o.boxes.getD (slotQ p) 0
  omega
/-- one place, or both halves -/
theorem halves_cases (q : QP) (x : Nat × Nat) : QP.halvesQ q x = [x] ∧ ¬ (x.2 = 0 ∧ q.tyOf x.1 = 2) ∨ QP.halvesQ q x = [(x.1, 1), (x.1, 2)] ∧ x.2 = 0 ∧ q.tyOf x.1 = 2 := by
  unfold QP.halvesQ
  by_cases h : x.2 = 0 ∧ q.tyOf x.1 = 2
  · exact .inr ⟨by rw [if_pos h], h⟩
  · exact .inl ⟨by rw [if_neg h], h⟩
theorem same_halves (hl : LnOk q l) (h12 : l.op = 12) : (QP.halvesQ q (plOf l 0)).length = (QP.halvesQ q (plOf l 1)).length := by
  have hk := fits_same hl.fits h12
  have hlen : l.places.length = 2 := by rw [hl.ok.plen, h12]; rfl
  have h0 := (place_in hl (j := 0) (by omega)).2
  have h1 := (place_in hl (j := 1) (by omega)).2
  unfold QP.kindV at hk
  rcases halves_cases q (plOf l 0) with ⟨e, h⟩ | ⟨e, h, h'⟩ <;> rcases halves_cases q (plOf l 1) with ⟨e2, h2⟩ | ⟨e2, h2, h2'⟩ <;> rw [e, e2]
  · rfl
  · exfalso
    rw [if_neg (show ¬ ((plOf l 1).2 = 1 ∨ (plOf l 1).2 = 2 ∨ (plOf l 1).2 = 3) by omega)] at hk
    by_cases hp : (plOf l 0).2 = 1 ∨ (plOf l 0).2 = 2 ∨ (plOf l 0).2 = 3
    · rw [if_pos hp] at hk; omega
    · rw [if_neg hp] at hk; exact h ⟨by omega, by omega⟩
  · exfalso
    rw [if_neg (show ¬ ((plOf l 0).2 = 1 ∨ (plOf l 0).2 = 2 ∨ (plOf l 0).2 = 3) by omega)] at hk
    by_cases hp : (plOf l 1).2 = 1 ∨ (plOf l 1).2 = 2 ∨ (plOf l 1).2 = 3
    · rw [if_pos hp] at hk; omega
    · rw [if_neg hp] at hk; exact h2 ⟨by omega, by omega⟩
  · rfl
theorem some_halves (hl : LnOk q l) (h14 : l.op = 14) : QP.halvesQ q (plOf l 0) = [plOf l 0] ∧ QP.halvesQ q (plOf l 1) = [plOf l 1] ∧ q.tyOf (plOf l 0).1 = 3 ∧ ¬ q.tyOf (plOf l 1).1 = 0 := by
  have hlen : l.places.length = 2 := by rw [hl.ok.plen, h14]; rfl
  have k0 := fits_at hl.fits (j := 0) (by omega)
  have k1 := fits_at hl.fits (j := 1) (by omega)
  rw [h14] at k0 k1
  have o0 := kind_opt (x := plOf l 0) k0 (place_in hl (j := 0) (by omega)).2
  have o1 := kind_box (x := plOf l 1) k1
  refine ⟨?_, ?_, o0.1, o1.1⟩
  · rcases halves_cases q (plOf l 0) with ⟨e, -⟩ | ⟨-, -, e⟩
    · exact e
    · omega
  · rcases halves_cases q (plOf l 1) with ⟨e, -⟩ | ⟨-, e1, e2⟩
    · exact e
    · exact absurd ⟨e1, e2⟩ o1.2.1
/-- what is taken fits what a move lays down -/
theorem vals_fit (hls : q.locals.length ≤ 12) (h : FitL q s o) {x : Nat × Nat} (hx : x.1 < q.locals.length ∧ x.2 ≤ 3) (ht : ¬ q.tyOf x.1 = 0) (hst : stuckL q x s = false) : ∀ n ∈ (Own.take (QP.halvesQ q x) o).1, fit1 n (movedL q x s) := by
  have hf := fun k hk ht => FitX.at_ h k hk (by simp) ht
  rcases halves_cases q x with ⟨e, hn⟩ | ⟨e, h0, h2⟩
  · rw [e]
    have hk := hf (slotQ x) (slot_lt (by omega)) (by rw [slot_half]; exact ht)
    intro n hm
    simp only [Own.take, List.mem_singleton] at hm
    subst hm
    unfold movedL
    by_cases h3 : q.kindV x = 3
    · rw [if_pos h3]; exact hk
    · rw [if_neg h3]
      unfold stuckL at hst
      rw [if_neg h3, e] at hst
      have := box_there hls h hx.1 ht hst
      unfold fit1; rw [if_neg (by omega)]; decide
  · have h3 : ¬ q.kindV x = 3 := by unfold QP.kindV; rw [if_neg (by omega)]; omega
    unfold stuckL at hst
    rw [if_neg h3, e] at hst
    unfold movedL
    rw [if_neg h3, e]
    simp only [lacksL, List.any_cons, List.any_nil, Bool.or_false, Bool.or_eq_false_iff] at hst
    have s1 : slotQ (x.1, 1) = 2 * x.1 := rfl
    have s2 : slotQ (x.1, 2) = 2 * x.1 + 1 := rfl
    have k1 := lack_two hst.1 (hf _ (slot_lt (x := (x.1, 1)) (by show x.1 < 12; omega)) (by rw [slot_half]; exact ht))
    have k2 := lack_two hst.2 (hf _ (slot_lt (x := (x.1, 2)) (by show x.1 < 12; omega)) (by rw [slot_half]; exact ht))
    intro n hm
    simp only [Own.take, List.mem_cons, List.not_mem_nil, or_false] at hm
    unfold fit1
    rcases hm with rfl | rfl
    · rw [if_neg (show ¬ o.box (x.1, 1) = 0 from k1)]; decide
    · have : (o.clear (x.1, 1)).box (x.1, 2) = o.boxes.getD (slotQ (x.1, 2)) 0 := by
        unfold Own.clear Own.box
        rw [getD_set1, if_neg (by rw [s1, s2]; omega)]
      rw [this, if_neg k2]; decide
theorem put_int (h : FitL q s o) {p : Nat × Nat} (ht : q.tyOf p.1 = 0) {o' : Own.Own} (hb : o'.boxes = o.boxes) : FitL q (s.set (slotQ p) 2) o' := by
  unfold FitL; rw [hb]
  exact FitX.free h _ _ (by rw [slot_half]; exact ht)
theorem pass_put (hp : isPut l.op = true) (h14 : ¬ l.op = 14) : passQ q l s = s.set (slotQ (plOf l 0)) 2 := by
  have h12 : ¬ l.op = 12 := fun e => by rw [e] at hp; cases hp
  rw [passQ, if_pos hp, takeQ, if_neg h12, if_neg h14]; rfl
theorem pass_not (hp : isPut l.op = false) (h12 : ¬ l.op = 12) (h13 : ¬ l.op = 13) (h15 : ¬ l.op = 15) : passQ q l s = s := by
  have h14 : ¬ l.op = 14 := fun e => by rw [e] at hp; cases hp
  rw [passQ, if_neg (by rw [hp]; decide), if_neg h12, if_neg h13, if_neg h15, takeQ, if_neg h12, if_neg h14]
theorem int_first (hl : LnOk q l) (hop : l.op = 2 ∨ l.op = 3 ∨ l.op = 4 ∨ l.op = 5 ∨ l.op = 6 ∨ l.op = 7 ∨ l.op = 10) : q.tyOf (plOf l 0).1 = 0 := by
  have key : ∀ op : Fin 23, (op.val = 2 ∨ op.val = 3 ∨ op.val = 4 ∨ op.val = 5 ∨ op.val = 6 ∨ op.val = 7 ∨ op.val = 10) → 0 < ((wantsOf op.val).filter isPlc).length ∧ (wantsOf op.val).getD 0 0 = 105 := by decide
  obtain ⟨k1, k2⟩ := key ⟨l.op, hl.ok.op⟩ hop
  have := fits_at hl.fits (j := 0) (by rw [hl.ok.plen]; exact k1)
  have k3 : (wantsOf l.op).getD 0 0 = 105 := k2
  rw [k3] at this
  exact kind_int this
theorem line_fit (hl : LnOk q l) (hls : q.locals.length ≤ 12) (hf : faultyQ q l s = false) (h : FitL q s o) (hgo : goesOn l.op) : o.need l = true ∧ FitL q (passQ q l s) (o.do1 q l) := by
  have easy : ¬ l.op = 10 → ¬ l.op = 11 → o.need l = true := fun h1 h2 => by unfold Own.need; rw [if_neg h1, if_neg h2]
  rcases hgo with e | e | e | e | e | e | e | e | e | e | e | e
  · refine ⟨easy (by omega) (by omega), ?_⟩
    rw [pass_put (by rw [e]; rfl) (by omega), Own.do1, if_pos e]
    exact put_int h (int_first hl (by omega)) rfl
  · refine ⟨easy (by omega) (by omega), ?_⟩
    rw [pass_put (by rw [e]; rfl) (by omega), Own.do1, if_neg (by omega), if_pos (by omega)]
    exact put_int h (int_first hl (by omega)) rfl
  · refine ⟨easy (by omega) (by omega), ?_⟩
    rw [pass_put (by rw [e]; rfl) (by omega), Own.do1, if_neg (by omega), if_pos (by omega)]
    exact put_int h (int_first hl (by omega)) rfl
  · refine ⟨easy (by omega) (by omega), ?_⟩
    rw [pass_put (by rw [e]; rfl) (by omega), Own.do1, if_neg (by omega), if_pos (by omega)]
    exact put_int h (int_first hl (by omega)) rfl
  · refine ⟨easy (by omega) (by omega), ?_⟩
    rw [pass_put (by rw [e]; rfl) (by omega), Own.do1, if_neg (by omega), if_neg (by omega), if_pos (by omega)]
    exact put_int h (int_first hl (by omega)) rfl
  · refine ⟨easy (by omega) (by omega), ?_⟩
    rw [pass_not (by rw [e]; rfl) (by omega) (by omega) (by omega), Own.do1, if_neg (by omega), if_neg (by omega), if_neg (by omega), if_pos (by omega)]
    exact h
  · have hlen : l.places.length = 2 := by rw [hl.ok.plen, e]; rfl
    have k1 := fits_at hl.fits (j := 1) (by omega)
    rw [e] at k1
    rw [faultyQ, if_neg (by omega), if_neg (by omega), if_neg (by omega), if_pos (by omega), at_eq] at hf
    refine ⟨?_, ?_⟩
    · unfold Own.need; rw [if_pos e]
      exact decide_eq_true (box_there hls h (place_in hl (j := 1) (by omega)).1 (kind_box (x := plOf l 1) k1).1 hf)
    · rw [pass_put (by rw [e]; rfl) (by omega), Own.do1, if_neg (by omega), if_neg (by omega), if_neg (by omega), if_neg (by omega), if_pos (by omega)]
      exact put_int h (int_first hl (by omega)) rfl
  · have hlen : l.places.length = 2 := by rw [hl.ok.plen, e]; rfl
    have k0 := fits_at hl.fits (j := 0) (by omega)
    rw [e] at k0
    rw [faultyQ, if_neg (by omega), if_neg (by omega), if_neg (by omega), if_neg (by omega), if_pos (by omega), at_eq, at_eq] at hf
    have hf0 : lacksL 2 [plOf l 0] s = false := by
      simp only [lacksL, List.any_cons, List.any_nil, Bool.or_false, Bool.or_eq_false_iff] at hf ⊢
      exact hf.1
    refine ⟨?_, ?_⟩
    · unfold Own.need; rw [if_neg (by omega), if_pos e]
      exact decide_eq_true (box_there hls h (place_in hl (j := 0) (by omega)).1 (kind_box (x := plOf l 0) k0).1 hf0)
    · rw [pass_not (by rw [e]; rfl) (by omega) (by omega) (by omega), Own.do1, if_neg (by omega), if_neg (by omega), if_neg (by omega), if_neg (by omega), if_neg (by omega), if_pos (by omega)]
      exact h
  · refine ⟨easy (by omega) (by omega), ?_⟩
    have hlen : l.places.length = 2 := by rw [hl.ok.plen, e]; rfl
    have k1 := fits_at hl.fits (j := 1) (by omega)
    rw [e] at k1
    rw [faultyQ, if_neg (by omega), if_neg (by omega), if_neg (by omega), if_neg (by omega), if_neg (by omega), if_pos (by omega), at_eq, at_eq, Bool.or_eq_false_iff] at hf
    rw [passQ, if_neg (by rw [e]; decide), if_pos e, takeQ, if_pos e, Own.do1, if_neg (by omega), if_neg (by omega), if_neg (by omega), if_neg (by omega), if_neg (by omega), if_neg (by omega), if_pos (by omega)]
    exact move_fit h _ _ (same_halves hl e) (vals_fit hls h (place_in hl (j := 1) (by omega)) (kind_thing (x := plOf l 1) k1) hf.1)
  · refine ⟨easy (by omega) (by omega), ?_⟩
    have hlen : l.places.length = 1 := by rw [hl.ok.plen, e]; rfl
    have k0 := fits_at hl.fits (j := 0) (by omega)
    rw [e] at k0
    have o0 := kind_opt (x := plOf l 0) k0 (place_in hl (j := 0) (by omega)).2
    have hh : QP.halvesQ q (plOf l 0) = [plOf l 0] := by
      rcases halves_cases q (plOf l 0) with ⟨e, -⟩ | ⟨-, -, e⟩
      · exact e
      · omega
    rw [passQ, if_neg (by rw [e]; decide), if_neg (by omega), if_pos e, takeQ, if_neg (by omega), if_neg (by omega), Own.do1, if_neg (by omega), if_neg (by omega), if_neg (by omega), if_neg (by omega), if_neg (by omega), if_neg (by omega), if_neg (by omega), if_pos (by omega), hh]
    unfold FitL; rw [(drop_parts _ _).2.2.2]
    exact FitX.put h (slotQ (plOf l 0)) (.inl (by unfold fit1; rw [if_pos rfl]; decide)) (fun k hk => by cases hk)
  · refine ⟨easy (by omega) (by omega), ?_⟩
    have hlen : l.places.length = 2 := by rw [hl.ok.plen, e]; rfl
    obtain ⟨h0, h1, h2, h3⟩ := some_halves hl e
    rw [faultyQ, if_neg (by omega), if_neg (by omega), if_neg (by omega), if_pos (by omega), at_eq] at hf
    rw [passQ, if_pos (by rw [e]; rfl), takeQ, if_neg (by omega), if_pos e, Own.do1, if_neg (by omega), if_neg (by omega), if_neg (by omega), if_neg (by omega), if_neg (by omega), if_neg (by omega), if_pos (by omega), h0, h1]
    refine move_fit h [plOf l 0] [plOf l 1] rfl (fun n hn => ?_)
    simp only [Own.take, List.mem_singleton] at hn
    subst hn
    have := box_there hls h (place_in hl (j := 1) (by omega)).1 h3 hf
    unfold fit1; rw [if_neg (by omega)]; decide
  · refine ⟨easy (by omega) (by omega), ?_⟩
    rw [passQ, if_neg (by rw [e]; decide), if_neg (by omega), if_neg (by omega), if_pos e, takeQ, if_neg (by omega), if_neg (by omega), Own.do1, if_neg (by omega), if_neg (by omega), if_neg (by omega), if_neg (by omega), if_neg (by omega), if_neg (by omega), if_neg (by omega), if_pos (by omega)]
    unfold FitL; rw [(drop_parts _ _).2.2.2]
    exact take_fit _ h
theorem calc_fit (hl : LnOk q l) (h : FitL q s o) (hop : l.op = 6) : FitL q (passQ q l s) (o.calc l) := by
  rw [pass_put (by rw [hop]; rfl) (by omega)]
  exact put_int h (int_first hl (by omega)) rfl
theorem new_fit (h : FitL q s o) (hop : l.op = 9) (v : Int) : FitL q (passQ q l s) ((o.drop [plOf l 0]).new (plOf l 0) v) := by
  rw [pass_put (by rw [hop]; rfl) (by omega)]
  have e : ((o.drop [plOf l 0]).new (plOf l 0) v).boxes = o.boxes.set (slotQ (plOf l 0)) ((o.drop [plOf l 0]).yd.made.length + 1) := by
    show (o.drop [plOf l 0]).boxes.set _ _ = _
    rw [(drop_parts _ _).2.2.2]
    show (o.boxes.set (slotQ (plOf l 0)) 0).set _ _ = _
    rw [List.set_set]
  unfold FitL; rw [e]
  exact FitX.put h _ (.inl (by unfold fit1; rw [if_neg (by omega)]; decide)) (fun k hk => by cases hk)
theorem term_fit (_hls : q.locals.length ≤ 12) (h : FitL q s o) : FitL q (stepS l (if o.other l then 1 else 0) s) o := by
  unfold stepS
  by_cases e : l.op = 20
  · rw [if_pos e]
    refine ⟨h.lb, by simpa [putL] using h.ls, fun k hk hn ht => ?_⟩
    show fit1 _ ((s.set (slotQ (l.places.getD 0 (0, 0))) _).getD k 0)
    rw [getD_set1, h.ls]
    by_cases ek : slotQ (l.places.getD 0 (0, 0)) = k
    · rw [if_pos ⟨ek, hk⟩]
      have ho : o.other l = !(o.boxes.getD k 0 == 0) := by
        unfold Own.other; rw [if_neg (by omega), if_pos e]; unfold Own.box; rw [ek]
      rw [ho]
      by_cases hz : o.boxes.getD k 0 = 0
      · rw [hz]; unfold fit1; decide
      · have hb : (o.boxes.getD k 0 == 0) = false := by rw [beq_eq_false_iff_ne]; exact hz
        rw [hb]; unfold fit1; rw [if_neg hz]; decide
    · rw [if_neg (fun x => ek x.1)]; exact h.at_ k hk hn ht
  · rw [if_neg e]; exact h
theorem start_fit (q : QP) (inp : List Int) : FitL q startSt (Own.start inp) :=
  ⟨by simp [Own.start], by decide, fun k hk _ _ => by
    have h1 : (Own.start inp).boxes.getD k 0 = 0 := by show (List.replicate 24 0).getD k 0 = 0; rw [List.getD_eq_getElem?_getD, List.getElem?_replicate, if_pos hk]; rfl
    have h2 : startSt.getD k 0 = 1 := by show (List.replicate 24 1).getD k 0 = 1; rw [List.getD_eq_getElem?_getD, List.getElem?_replicate, if_pos hk]; rfl
    rw [h1, h2]; unfold fit1; decide⟩
end
end Go.Proofs.YtmlgajhhnojdjaaGreatDoor.RunB
/- Plain facts: what the bare machine's cells hold stays right, line by line; what stays within bounds. -/
namespace Go.Proofs.YtmlgajhhnojdjaaGreatDoor.Ex
open Go Go.Proofs.YtmlgajhhnojdjaaGreatDoor.Spec Go.Proofs.YtmlgajhhnojdjaaGreatDoor.Aux Go.Proofs.YtmlgajhhnojdjaaGreatDoor.Own Go.Proofs.YtmlgajhhnojdjaaGreatDoor.RunA Go.Proofs.YtmlgajhhnojdjaaGreatDoor.RunB Go.Proofs.YtmlgajhhnojdjaaGreatDoor.PrjS Go.Proofs.YtmlgajhhnojdjaaGreatDoor.FlwA Go.Proofs.YtmlgajhhnojdjaaGreatDoor.FlwE Go.Proofs.YtmlgajhhnojdjaaGreatDoor.FlwS

/-- a line of a raw program -/
structure RLn (q : QP) (l : QLine) : Prop where
  ok : LOk q.locals.length q.blocks.length l
  has : ¬ l.op = 15
  fits : q.fits l = true
  flag : l.op = 17 ∨ l.op = 21 → 0 ≤ l.flag ∧ l.flag < 50
structure Br.Fit (q : QP) (b : Br) : Prop where
  len : b.cs.length = 36
  bx : b.Bx q
  tg : ∀ i, i < 12 → q.tyOf i = 3 → b.cs.getD (24 + i) (false, 0) = (true, 1) → (b.cs.getD (2 * i) (false, 0)).1 = true
section
variable {q : QP} {b : Br} {l : QLine} {p t f : Nat × Nat} {v : Int}
theorem getD_put (s : List (Bool × Int)) (i : Nat) (y : Bool × Int) (k : Nat) : (s.set i y).getD k (false, 0) = if i = k ∧ k < s.length then y else s.getD k (false, 0) := by
  rw [List.getD_eq_getElem?_getD, List.getD_eq_getElem?_getD, List.getElem?_set]
  by_cases e : i = k
  · subst e
    by_cases h : i < s.length
    · simp [h]
    · simp [h]
  · simp [e]
theorem not_tag (h : isTag q p = false) : cellOf q p = slotQ p := by unfold cellOf; rw [h]; rfl
theorem is_tag (h : isTag q p = true) : cellOf q p = 24 + p.1 := by unfold cellOf; rw [h]; rfl
theorem tag_opt (h : isTag q p = true) : q.tyOf p.1 = 3 ∧ ¬ (p.2 = 1 ∨ p.2 = 2 ∨ p.2 = 3) := by
  unfold isTag QP.kindV at h
  split at h
  · simp at h
  · rename_i hn; exact ⟨by simpa using h, hn⟩
theorem content_not_tag (q : QP) (i : Nat) : isTag q (i, 3) = false := by simp [isTag, QP.kindV]
theorem content_slot (i : Nat) : slotQ (i, 3) = 2 * i := by simp [slotQ]
theorem Br.Fit.write (h : b.Fit q) (hp : p.1 < 12) (hv : q.tyOf p.1 = 0 ∨ (isTag q p = true ∧ ¬ v = 1) ∨ (isTag q p = false ∧ 1 ≤ v ∧ v ≤ b.yd.made.length)) : (b.write q p v).Fit q := by
  have hlen := h.len
  refine ⟨by simpa [Br.write] using hlen, fun k hk ht hf => ?_, fun i hi h3 htag => ?_⟩
  · show 1 ≤ ((b.cs.set (cellOf q p) (true, v)).getD k (false, 0)).2 ∧ ((b.cs.set (cellOf q p) (true, v)).getD k (false, 0)).2 ≤ b.yd.made.length
    have hf' : ((b.cs.set (cellOf q p) (true, v)).getD k (false, 0)).1 = true := hf
    rw [getD_put] at hf' ⊢
    by_cases e : cellOf q p = k ∧ k < b.cs.length
    · rw [if_pos e]
      rcases hv with h0 | ⟨h1, -⟩ | ⟨h1, h2⟩
      · exfalso
        by_cases htg : isTag q p = true
        · have := (tag_opt htg).1; omega
        · rw [not_tag (by simpa using htg)] at e
          have := slot_half p
          rw [e.1] at this
          rw [this] at ht; exact ht h0
      · rw [is_tag h1] at e; omega
      · exact h2
    · rw [if_neg e] at hf' ⊢
      exact h.bx k hk ht hf'
  · have ht' : (b.cs.set (cellOf q p) (true, v)).getD (24 + i) (false, 0) = (true, 1) := htag
    show ((b.cs.set (cellOf q p) (true, v)).getD (2 * i) (false, 0)).1 = true
    rw [getD_put] at ht' ⊢
    by_cases e : cellOf q p = 2 * i ∧ 2 * i < b.cs.length
    · rw [if_pos e]
    · rw [if_neg e]
      by_cases e2 : cellOf q p = 24 + i ∧ 24 + i < b.cs.length
      · rw [if_pos e2] at ht'
        have hv1 : v = 1 := by simpa using ht'
        exfalso
        rcases hv with h0 | ⟨h1, h2⟩ | ⟨h1, -⟩
        · by_cases htg : isTag q p = true
          · have := (tag_opt htg).1; omega
          · rw [not_tag (by simpa using htg)] at e2
            have := slot_lt hp; omega
        · exact h2 hv1
        · rw [not_tag h1] at e2
          have := slot_lt hp; omega
      · rw [if_neg e2] at ht'
        exact h.tg i hi h3 ht'
/-- a tag and its content -/
theorem Br.Fit.both (h : b.Fit q) (hp : p.1 < 12) (ht : isTag q p = true) (u : Int) (hv : 1 ≤ v ∧ v ≤ b.yd.made.length) : ((b.write q p u).write q (p.1, 3) v).Fit q := by
  have hlen := h.len
  have e1 := is_tag ht
  have e2 : cellOf q (p.1, 3) = 2 * p.1 := by rw [not_tag (content_not_tag q p.1), content_slot]
  have key : ∀ k, ((b.write q p u).write q (p.1, 3) v).cs.getD k (false, 0) = if 2 * p.1 = k then (true, v) else if 24 + p.1 = k then (true, u) else b.cs.getD k (false, 0) := fun k => by
    show ((b.cs.set (cellOf q p) (true, u)).set (cellOf q (p.1, 3)) (true, v)).getD k (false, 0) = _
    rw [getD_put, getD_put, e1, e2, List.length_set, hlen]
    by_cases a1 : 2 * p.1 = k
    · rw [if_pos ⟨a1, by omega⟩, if_pos a1]
    · rw [if_neg (fun e => a1 e.1), if_neg a1]
      by_cases a2 : 24 + p.1 = k
      · rw [if_pos ⟨a2, by omega⟩, if_pos a2]
      · rw [if_neg (fun e => a2 e.1), if_neg a2]
  refine ⟨by simpa [Br.write] using hlen, fun k hk ht hf => ?_, fun i hi h3 htag => ?_⟩
  · rw [key] at hf ⊢
    by_cases a1 : 2 * p.1 = k
    · rw [if_pos a1]; exact hv
    · rw [if_neg a1, if_neg (by omega)] at hf ⊢
      exact h.bx k hk ht hf
  · rw [key] at htag ⊢
    by_cases a1 : 2 * p.1 = 2 * i
    · rw [if_pos a1]
    · rw [if_neg a1, if_neg (by omega)]
      rw [if_neg (by omega), if_neg (by omega)] at htag
      exact h.tg i hi h3 htag
theorem full_mono {k : Nat} (_hp : cellOf q p < b.cs.length) (hf : (b.cs.getD k (false, 0)).1 = true) : ((b.write q p v).cs.getD k (false, 0)).1 = true := by
  show ((b.cs.set (cellOf q p) (true, v)).getD k (false, 0)).1 = true
  rw [getD_put]; split
  · rfl
  · exact hf
theorem Br.Fit.val (h : b.Fit q) (hp : p.1 < 12) (ht : isTag q p = false) (h0 : ¬ q.tyOf p.1 = 0) (hf : (b.cell q p).1 = true) : 1 ≤ b.val q p ∧ b.val q p ≤ b.yd.made.length := by
  unfold Br.val Br.cell at *
  rw [not_tag ht] at hf ⊢
  exact h.bx (slotQ p) (slot_lt hp) (by rw [slot_half]; exact h0) hf
theorem copies_fit (ts fs : List (Nat × Nat)) (hl : ts.length = fs.length) (ht : ∀ y ∈ ts, y.1 < 12 ∧ isTag q y = false) (hf : ∀ y ∈ fs, y.1 < 12 ∧ isTag q y = false ∧ ¬ q.tyOf y.1 = 0 ∧ (b.cell q y).1 = true) (h : b.Fit q) :
    ∀ k, k ≤ fs.length → (Br.copies q ts fs k b).Fit q ∧ (Br.copies q ts fs k b).yd = b.yd ∧ ∀ j, (b.cs.getD j (false, 0)).1 = true → ((Br.copies q ts fs k b).cs.getD j (false, 0)).1 = true
  | 0, _ => ⟨h, rfl, fun _ h => h⟩
  | k + 1, hk => by
    obtain ⟨h1, h2, h3⟩ := copies_fit ts fs hl ht hf h k (by omega)
    have mt : ts.getD k (0, 0) ∈ ts := by rw [List.getD_eq_getElem?_getD, List.getElem?_eq_getElem (by omega)]; exact List.getElem_mem _
    have mf : fs.getD k (0, 0) ∈ fs := by rw [List.getD_eq_getElem?_getD, List.getElem?_eq_getElem (by omega)]; exact List.getElem_mem _
    obtain ⟨t1, t2⟩ := ht _ mt
    obtain ⟨f1, f2, f3, f4⟩ := hf _ mf
    have hv := h1.val f1 f2 f3 (h3 _ f4)
    refine ⟨h1.write t1 (.inr (.inr ⟨t2, hv⟩)), h2, fun j hj => full_mono (by rw [h1.len]; exact cellOf_lt t1) (h3 j hj)⟩
theorem halves_not_tag (h : isTag q p = false) : ∀ y ∈ QP.halvesQ q p, isTag q y = false ∧ y.1 = p.1 := fun y hy => by
  rcases halves_cases q p with ⟨e, -⟩ | ⟨e, -⟩ <;> rw [e] at hy <;> simp at hy
  · rw [hy]; exact ⟨h, rfl⟩
  · rcases hy with rfl | rfl <;> exact ⟨by simp [isTag, QP.kindV], rfl⟩
theorem Br.Fit.move (h : b.Fit q) (ht : t.1 < 12) (hf : f.1 < 12) (hk : q.kindV t = q.kindV f) (h0 : ¬ q.tyOf f.1 = 0) (hl : (QP.halvesQ q t).length = (QP.halvesQ q f).length) (hfull : ∀ y ∈ QP.halvesQ q f, (b.cell q y).1 = true) : (b.move q t f).Fit q := by
  have htf : isTag q t = isTag q f := by unfold isTag; rw [hk]
  unfold Br.move
  cases hit : isTag q f
  · rw [if_neg (by simp)]
    refine (copies_fit _ _ hl (fun y hy => ?_) (fun y hy => ?_) h _ (Nat.le_refl _)).1
    · obtain ⟨a1, a2⟩ := halves_not_tag (htf.trans hit) y hy
      exact ⟨by omega, a1⟩
    · obtain ⟨a1, a2⟩ := halves_not_tag hit y hy
      exact ⟨by omega, a1, by rw [a2]; exact h0, hfull y hy⟩
  · have hitt := htf.trans hit
    have ef : QP.halvesQ q f = [f] := by
      rcases halves_cases q f with ⟨e, -⟩ | ⟨-, -, e⟩
      · exact e
      · have := (tag_opt hit).1; omega
    have et : QP.halvesQ q t = [t] := by
      rcases halves_cases q t with ⟨e, -⟩ | ⟨-, -, e⟩
      · exact e
      · have := (tag_opt hitt).1; omega
    have em : b.moved q t f = b.write q t (b.val q f) := by unfold Br.moved; rw [ef, et]; rfl
    have hff : (b.cell q f).1 = true := hfull f (by rw [ef]; simp)
    have ev : (b.moved q t f).val q f = b.val q f := by
      rw [em]
      show ((b.cs.set (cellOf q t) (true, b.val q f)).getD (cellOf q f) (false, 0)).2 = _
      rw [getD_put]
      split
      · rfl
      · rfl
    by_cases h1 : (b.moved q t f).val q f = 1
    · rw [if_pos ⟨rfl, h1⟩, em]
      have hb1 : b.val q f = 1 := by rw [← ev]; exact h1
      have hcont : (b.cs.getD (2 * f.1) (false, 0)).1 = true := h.tg f.1 hf (tag_opt hit).1 (by
        unfold Br.val Br.cell at *
        rw [is_tag hit] at hff hb1
        exact Prod.ext hff hb1)
      have hval : 1 ≤ (b.cs.getD (2 * f.1) (false, 0)).2 ∧ (b.cs.getD (2 * f.1) (false, 0)).2 ≤ b.yd.made.length := h.bx (2 * f.1) (by omega) (by rw [show 2 * f.1 / 2 = f.1 by omega]; exact h0) hcont
      have ec : (b.write q t (b.val q f)).val q (f.1, 3) = (b.cs.getD (2 * f.1) (false, 0)).2 := by
        show ((b.cs.set (cellOf q t) (true, b.val q f)).getD (cellOf q (f.1, 3)) (false, 0)).2 = _
        rw [not_tag (content_not_tag q f.1), content_slot, is_tag hitt, getD_put, if_neg (by omega)]
      rw [ec]
      exact h.both ht hitt _ hval
    · rw [if_neg (fun e => h1 e.2), em]
      refine h.write ht (.inr (.inl ⟨hitt, ?_⟩))
      rw [← ev]; exact h1
end
end Go.Proofs.YtmlgajhhnojdjaaGreatDoor.Ex
