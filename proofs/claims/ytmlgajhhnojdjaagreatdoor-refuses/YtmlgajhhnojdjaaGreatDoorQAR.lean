/- Plain facts: a line as the project keeps it, and as the document's own reader has it: both make the same of a state. -/
import Derived.Test.YtmlgajhhnojdjaaGreatDoorQAN
import Derived.Test.YtmlgajhhnojdjaaGreatDoorQAQ
import Derived.Test.YtmlgajhhnojdjaaGreatDoorQAC
import Derived.Test.YtmlgajhhnojdjaaGreatDoorQAP
import Derived.Test.YtmlgajhhnojdjaaGreatDoorQAH
namespace Go.Proofs.YtmlgajhhnojdjaaGreatDoor.FlwT
open Go Go.Proofs.YtmlgajhhnojdjaaGreatDoor.Spec Go.Proofs.YtmlgajhhnojdjaaGreatDoor.Aux Go.Proofs.YtmlgajhhnojdjaaGreatDoor.FlwA Go.Proofs.YtmlgajhhnojdjaaGreatDoor.FlwB Go.Proofs.YtmlgajhhnojdjaaGreatDoor.FlwC Go.Proofs.YtmlgajhhnojdjaaGreatDoor.FlwD Go.Proofs.YtmlgajhhnojdjaaGreatDoor.FlwE Go.Proofs.YtmlgajhhnojdjaaGreatDoor.FlwF Go.Proofs.YtmlgajhhnojdjaaGreatDoor.FlwG Go.Proofs.YtmlgajhhnojdjaaGreatDoor.FlwH Go.Proofs.YtmlgajhhnojdjaaGreatDoor.FlwI Go.Proofs.YtmlgajhhnojdjaaGreatDoor.FlwJ Go.Proofs.YtmlgajhhnojdjaaGreatDoor.FlwK Go.Proofs.YtmlgajhhnojdjaaGreatDoor.FlwM Go.Proofs.YtmlgajhhnojdjaaGreatDoor.FlwO Go.Proofs.YtmlgajhhnojdjaaGreatDoor.FlwQ Go.Proofs.YtmlgajhhnojdjaaGreatDoor.FlwS

def toQ (x : PPlace) : Nat × Nat := (x.loc, pidx x.part)
def PFit (x : PPlace) : Prop := x.part = 0 ∨ x.part = 97 ∨ x.part = 98 ∨ x.part = 115
theorem pidx_two {c : UInt8} : pidx c = 2 ↔ c = 98 := by
  unfold pidx
  constructor
  · intro h; split at h
    · omega
    · split at h
      · assumption
      · split at h <;> omega
  · intro h; subst h; rfl
theorem pidx_three {c : UInt8} : pidx c = 3 ↔ c = 115 := by
  unfold pidx
  constructor
  · intro h; split at h
    · omega
    · split at h
      · omega
      · split at h
        · assumption
        · omega
  · intro h; subst h; rfl
theorem pidx_zero {x : PPlace} (h : PFit x) : pidx x.part = 0 ↔ x.part = 0 := by
  rcases h with e | e | e | e <;> rw [e] <;> decide
theorem slot_toQ (x : PPlace) : slotQ (toQ x) = x.slot := by
  unfold slotQ PPlace.slot toQ
  by_cases h : x.part = 98
  · rw [if_pos h, if_pos (pidx_two.mpr h)]
  · rw [if_neg h, if_neg (fun e => h (pidx_two.mp e))]
/-- a state as a list, and as a function -/
structure Ag (s : List Nat) (f : Nat → Nat) : Prop where
  len : s.length = 24
  eq : ∀ k, k < 24 → s.getD k 0 = f k
theorem Ag.self {s : List Nat} (h : s.length = 24) : Ag s (fun k => s.getD k 0) := ⟨h, fun _ _ => rfl⟩
theorem ag_set {s : List Nat} {f : Nat → Nat} (h : Ag s f) (i v : Nat) : Ag (s.set i v) (fun k => if k = i then v else f k) :=
  ⟨by simpa using h.len, fun k hk => by
    rw [getD_set1, h.len]
    by_cases e : i = k
    · rw [if_pos ⟨e, hk⟩, if_pos e.symm]
    · rw [if_neg (fun x => e x.1), if_neg (fun x => e x.symm)]; exact h.eq k hk⟩
theorem ag_put (m : Nat) : ∀ (ps : List PPlace) {s : List Nat} {f : Nat → Nat}, Ag s f → Ag (putL m (ps.map toQ) s) (putP m ps f)
  | [], _, _, h => h
  | x :: ps, s, f, h => by
    have := ag_put m ps (s := s.set (slotQ (toQ x)) m) (f := fun k => if k = x.slot then m else f k) (by rw [slot_toQ]; exact ag_set h _ _)
    exact this
theorem ag_take : ∀ (ps : List PPlace) {s : List Nat} {f : Nat → Nat}, Ag s f → Ag (takeL (ps.map toQ) s) (takeP ps f)
  | [], _, _, h => h
  | x :: ps, s, f, h => by
    have e : (if (toQ x).2 = 3 then 8 else 1) = (if x.part = 115 then 8 else 1 : Nat) := by
      by_cases h3 : x.part = 115
      · rw [if_pos h3, if_pos (show (toQ x).2 = 3 from pidx_three.mpr h3)]
      · rw [if_neg h3, if_neg (show ¬ (toQ x).2 = 3 from fun y => h3 (pidx_three.mp y))]
    have := ag_take ps (s := s.set (slotQ (toQ x)) (if (toQ x).2 = 3 then 8 else 1)) (f := fun k => if k = x.slot then (if x.part = 115 then 8 else 1) else f k) (by rw [slot_toQ, e]; exact ag_set h _ _)
    exact this
theorem ag_lacks (fit : Nat) (ps : List PPlace) (s : List Nat) : lacksL fit (ps.map toQ) s = lacksP fit ps (fun k => s.getD k 0) := by
  unfold lacksL lacksP
  rw [List.any_map]
  congr 1
  funext x
  simp only [Function.comp, slot_toQ, lackB]
/-- the types of the locals, both ways -/
structure TyLink (q : QP) (P : PProg) : Prop where
  pair : ∀ n, q.tyOf n = 2 ↔ P.tyOf n = wPair
  opt : ∀ n, q.tyOf n = 3 ↔ P.tyOf n = wOpt
section
variable {q : QP} {P : PProg}
theorem halves_toQ (h : TyLink q P) {x : PPlace} (hx : PFit x) : QP.halvesQ q (toQ x) = (P.halves x).map toQ := by
  unfold QP.halvesQ PProg.halves
  by_cases hc : x.part = 0 ∧ P.tyOf x.loc = wPair
  · rw [if_pos hc, if_pos ⟨(pidx_zero hx).mpr hc.1, (h.pair _).mpr hc.2⟩]; rfl
  · rw [if_neg hc, if_neg (fun e => hc ⟨(pidx_zero hx).mp e.1, (h.pair _).mp e.2⟩)]; rfl
theorem kind_toQ (h : TyLink q P) {x : PPlace} (hx : PFit x) : q.kindV (toQ x) = 3 ↔ P.kind x = wOpt := by
  unfold QP.kindV PProg.kind toQ
  have hbo : ¬ wBox = wOpt := by decide
  rcases hx with e | e | e | e <;> rw [e] <;> simp only
  · rw [if_neg (by decide), if_neg (by decide)]; exact h.opt _
  · rw [if_pos (by decide), if_pos (by decide)]; exact ⟨fun x => absurd x (by decide), fun x => absurd x hbo⟩
  · rw [if_pos (by decide), if_pos (by decide)]; exact ⟨fun x => absurd x (by decide), fun x => absurd x hbo⟩
  · rw [if_pos (by decide), if_pos (by decide)]; exact ⟨fun x => absurd x (by decide), fun x => absurd x hbo⟩
/-- a line, both ways -/
structure LnLink (l : QLine) (m : PLine) : Prop where
  op : l.op < 23
  word : m.op = opWord l.op
  places : l.places = m.places.map toQ
  fit : ∀ j, PFit (m.w j)
theorem LnLink.w {l : QLine} {m : PLine} (h : LnLink l m) (j : Nat) : l.places.getD j (0, 0) = toQ (m.w j) := by
  rw [h.places, PLine.w, List.getD_eq_getElem?_getD, List.getD_eq_getElem?_getD, List.getElem?_map]
  cases m.places[j]? <;> rfl
theorem pass_words : ∀ op : Fin 23, (opWord op.val ∈ ([[115, 101, 116], [105, 110], [97, 100, 100], [115, 117, 98], [109, 117, 108], [100, 105, 118], [110, 101, 119], [108, 111, 97, 100]] : List B) ↔ (isPut op.val = true ∧ ¬ op.val = 14)) ∧ (opWord op.val = [109, 111, 118, 101] ↔ op.val = 12) ∧ (opWord op.val = [110, 111, 110, 101] ↔ op.val = 13) ∧ (opWord op.val = [115, 111, 109, 101] ↔ op.val = 14) ∧ (opWord op.val = [100, 114, 111, 112] ↔ op.val = 15) := by decide
theorem ag_pass (h : TyLink q P) {l : QLine} {m : PLine} (hl : LnLink l m) {s : List Nat} (hs : s.length = 24) : Ag (passQ q l s) (P.pass m (fun k => s.getD k 0)) := by
  obtain ⟨h1, h2, h3, h4, h5⟩ := pass_words ⟨l.op, hl.op⟩
  simp only at h1 h2 h3 h4 h5
  have hself := Ag.self hs
  unfold passQ PProg.pass takeQ
  rw [hl.word, hl.w 0, hl.w 1]
  have one : ∀ x, [toQ x] = [x].map toQ := fun _ => rfl
  by_cases e14 : l.op = 14
  · rw [if_pos (show isPut l.op = true by rw [e14]; rfl), if_neg (show ¬ l.op = 12 by omega), if_pos e14, if_neg (fun x => (h1.mp x).2 e14), if_neg (fun x => by have := h2.mp x; omega), if_neg (fun x => by have := h3.mp x; omega), if_pos (h4.mpr e14), one, one]
    exact ag_put _ _ (ag_take _ hself)
  · by_cases ep : isPut l.op = true
    · have e12 : ¬ l.op = 12 := fun e => by rw [e] at ep; exact absurd ep (by decide)
      rw [if_pos ep, if_neg e12, if_neg e14, if_pos (h1.mpr ⟨ep, e14⟩), one]
      exact ag_put _ _ hself
    · rw [if_neg ep, if_neg (fun x => ep (h1.mp x).1)]
      by_cases e12 : l.op = 12
      · rw [if_pos e12, if_pos e12, if_pos (h2.mpr e12), halves_toQ h (hl.fit 0), halves_toQ h (hl.fit 1)]
        have em : movedL q (toQ (m.w 1)) s = if P.kind (m.w 1) = wOpt then s.getD (m.w 1).slot 0 else 2 := by
          unfold movedL
          rw [slot_toQ]
          by_cases hk : P.kind (m.w 1) = wOpt
          · rw [if_pos hk, if_pos ((kind_toQ h (hl.fit 1)).mpr hk)]
          · rw [if_neg hk, if_neg (fun x => hk ((kind_toQ h (hl.fit 1)).mp x))]
        rw [em]
        exact ag_put _ _ (ag_take _ hself)
      · rw [if_neg e12, if_neg e12, if_neg e14, if_neg (fun x => e12 (h2.mp x))]
        by_cases e13 : l.op = 13
        · rw [if_pos e13, if_pos (h3.mpr e13), one]; exact ag_put _ _ hself
        · rw [if_neg e13, if_neg (fun x => e13 (h3.mp x)), if_neg (fun x => e14 (h4.mp x))]
          by_cases e15 : l.op = 15
          · rw [if_pos e15, if_pos (h5.mpr e15), halves_toQ h (hl.fit 0)]; exact ag_take _ hself
          · rw [if_neg e15, if_neg (fun x => e15 (h5.mp x))]; exact hself
theorem fault_words : ∀ op : Fin 23, (opWord op.val ∈ ([[97, 100, 100], [115, 117, 98], [109, 117, 108], [100, 105, 118]] : List B) ↔ (op.val = 3 ∨ op.val = 4 ∨ op.val = 5 ∨ op.val = 6)) ∧ (opWord op.val ∈ ([[111, 117, 116], [105, 102], [101, 110, 100]] : List B) ↔ (op.val = 8 ∨ op.val = 19 ∨ op.val = 22)) ∧ (opWord op.val = [110, 101, 119] ↔ op.val = 9) ∧
    ((opWord op.val = [108, 111, 97, 100] ∨ opWord op.val = [115, 111, 109, 101]) ↔ (op.val = 10 ∨ op.val = 14)) ∧ (opWord op.val = [115, 116, 111, 114, 101] ↔ op.val = 11) ∧ (opWord op.val = [109, 111, 118, 101] ↔ op.val = 12) ∧ (opWord op.val = [100, 114, 111, 112] ↔ op.val = 15) ∧ (opWord op.val = [109, 97, 116, 99, 104] ↔ op.val = 20) := by decide
theorem shut_toQ (x : PPlace) (s : List Nat) : shutL (toQ x) s = shutP x (fun k => s.getD k 0) := by
  unfold shutL shutP
  have : ((toQ x).2 == 3) = (x.part == 115) := by
    rw [Bool.eq_iff_iff, beq_iff_eq, beq_iff_eq]; exact pidx_three
  rw [this]
  congr 1
  exact ag_lacks 10 [x] s
theorem stuck_toQ (h : TyLink q P) {x : PPlace} (hx : PFit x) (s : List Nat) : stuckL q (toQ x) s = P.stuck x (fun k => s.getD k 0) := by
  unfold stuckL PProg.stuck
  by_cases hk : P.kind x = wOpt
  · rw [if_pos hk, if_pos ((kind_toQ h hx).mpr hk)]; exact ag_lacks 6 [x] s
  · rw [if_neg hk, if_neg (fun y => hk ((kind_toQ h hx).mp y)), halves_toQ h hx]; exact ag_lacks 2 _ s
theorem ite_iff {α : Type} {a b : Prop} [Decidable a] [Decidable b] (h : a ↔ b) {x y x' y' : α} (hx : x = x') (hy : y = y') : (if b then x else y) = (if a then x' else y') := by
  subst hx hy
  by_cases hb : b
  · rw [if_pos hb, if_pos (h.mpr hb)]
  · rw [if_neg hb, if_neg (fun e => hb (h.mp e))]
theorem eq_faulty (h : TyLink q P) {l : QLine} {m : PLine} (hl : LnLink l m) (s : List Nat) : faultyQ q l s = P.faulty m (fun k => s.getD k 0) := by
  obtain ⟨h1, h2, h3, h4, h5, h6, h7, h8⟩ := fault_words ⟨l.op, hl.op⟩
  simp only at h1 h2 h3 h4 h5 h6 h7 h8
  unfold faultyQ PProg.faulty QLine.at
  rw [hl.word, hl.w 0, hl.w 1, hl.w 2]
  refine ite_iff h1 (ag_lacks 2 [_, _] s) (ite_iff h2 (ag_lacks 2 [_] s) (ite_iff h3 ?_ (ite_iff h4 (ag_lacks 2 [_] s) (ite_iff h5 (ag_lacks 2 [_, _] s) (ite_iff h6 ?_ (ite_iff h7 (shut_toQ _ s) (ite_iff h8 (ag_lacks 6 [_] s) rfl)))))))
  · rw [shut_toQ]; congr 1; exact ag_lacks 2 [_] s
  · rw [shut_toQ, stuck_toQ h (hl.fit 1)]
end
end Go.Proofs.YtmlgajhhnojdjaaGreatDoor.FlwT
/- Plain facts: in which block of the project's program a line stands. -/
namespace Go.Proofs.YtmlgajhhnojdjaaGreatDoor.FlwU
open Go Go.Proofs.YtmlgajhhnojdjaaGreatDoor.Spec

/-- every line stands in the block that was begun last ahead of it: c counts them -/
def InBlk (c : Nat → Nat) (q : QP) : Prop := ∀ j, ∀ l ∈ q.blocks.getD j [], c l.num = j + 1
theorem inBlk_empty (c : Nat → Nat) : InBlk c QP.empty := fun j l hl => by simp [QP.empty] at hl
theorem addBlock_in {c : Nat → Nat} {q : QP} (h : InBlk c q) : InBlk c q.addBlock := fun j l hl => by
  by_cases hj : j < q.blocks.length
  · have : q.addBlock.blocks.getD j [] = q.blocks.getD j [] := by simp [QP.addBlock, List.getD_eq_getElem?_getD, List.getElem?_append, hj]
    rw [this] at hl; exact h j l hl
  · have : q.addBlock.blocks.getD j [] = [] := by
      simp only [QP.addBlock, List.getD_eq_getElem?_getD, List.getElem?_append, if_neg hj]
      cases h2 : j - q.blocks.length with
      | zero => rfl
      | succ n => rfl
    rw [this] at hl; cases hl
theorem addLine_in {c : Nat → Nat} {q : QP} (h : InBlk c q) {l : QLine} {n : Nat} (hn : q.blocks.length = n + 1) (hc : c l.num = n + 1) : InBlk c (q.addLine l) ∧ (q.addLine l).blocks.length = n + 1 := by
  have hne : q.blocks ≠ [] := by intro e; rw [e] at hn; simp at hn
  have hD : q.blocks.dropLast.length = n := by simp [hn]
  have hg : q.blocks.getLastD [] = q.blocks.getD n [] := by
    rw [List.getLastD_eq_getLast?, List.getLast?_eq_getElem?, hn, List.getD_eq_getElem?_getD]; rfl
  refine ⟨fun j x hx => ?_, by simp [QP.addLine, hD]⟩
  by_cases hj : j < n
  · have : (q.addLine l).blocks.getD j [] = q.blocks.getD j [] := by
      simp only [QP.addLine, List.getD_eq_getElem?_getD]
      rw [List.getElem?_append_left (by omega), List.getElem?_dropLast, if_pos (by omega)]
    rw [this] at hx; exact h j x hx
  · by_cases e : j = n
    · subst e
      have : (q.addLine l).blocks.getD j [] = q.blocks.getD j [] ++ [l] := by
        simp only [QP.addLine, List.getD_eq_getElem?_getD]
        rw [List.getElem?_append_right (by omega), hD, Nat.sub_self]
        simp only [List.getElem?_cons_zero, Option.getD_some]
        rw [hg, List.getD_eq_getElem?_getD]
      rw [this] at hx
      rcases List.mem_append.mp hx with hx | hx
      · exact h j x hx
      · rw [List.mem_singleton.mp hx]; exact hc
    · have : (q.addLine l).blocks.getD j [] = [] := by
        rw [List.getD_eq_getElem?_getD, List.getElem?_eq_none (by simp [QP.addLine, hD]; omega)]; rfl
      rw [this] at hx; cases hx
theorem look_in (c : Nat → Nat) (nb : Nat) : ∀ (S : List (Nat × List B)) (i : Nat) (q0 q : QP), lookGo nb S i q0 = (q, none) →
    (∀ k x, S[k]? = some x → c (i + k + 1) = c (i + k) + (if x.1 = 1 then 1 else 0)) → (∀ k x, S[k]? = some x → ¬ x.1 = 0 → ¬ x.1 = 1 → 1 ≤ c (i + k)) → q0.blocks.length = c i → InBlk c q0 → InBlk c q
  | [], i, q0, q, h, _, _, _, hI => by simp only [lookGo, Prod.mk.injEq, and_true] at h; rw [← h]; exact hI
  | x :: S, i, q0, q, h, hc, hp, hl, hI => by
    have h0 := hc 0 x rfl
    have hc' : ∀ k y, S[k]? = some y → c (i + 1 + k + 1) = c (i + 1 + k) + (if y.1 = 1 then 1 else 0) := fun k y hy => by
      have := hc (k + 1) y (by simpa using hy)
      rw [show i + 1 + k = i + (k + 1) by omega]; exact this
    have hp' : ∀ k y, S[k]? = some y → ¬ y.1 = 0 → ¬ y.1 = 1 → 1 ≤ c (i + 1 + k) := fun k y hy => by
      have := hp (k + 1) y (by simpa using hy)
      rw [show i + 1 + k = i + (k + 1) by omega]; exact this
    rw [lookGo] at h
    simp only [Nat.add_zero] at h0
    by_cases e0 : x.1 = 0
    · rw [if_pos e0] at h
      rw [if_neg (by omega)] at h0
      split at h
      · simp at h
      · exact look_in c nb S (i + 1) _ q h hc' hp' (by simpa [QP.addLocal] using hl.trans (by omega)) hI
    · rw [if_neg e0] at h
      by_cases e1 : x.1 = 1
      · rw [if_pos e1] at h
        rw [if_pos e1] at h0
        exact look_in c nb S (i + 1) _ q h hc' hp' (by simp [QP.addBlock]; omega) (addBlock_in hI)
      · rw [if_neg e1] at h
        rw [if_neg e1] at h0
        have h1 := hp 0 x rfl e0 e1
        simp only [Nat.add_zero] at h1
        split at h
        · simp at h
        · rename_i l _
          obtain ⟨a1, a2⟩ := addLine_in (l := { l with num := i }) hI (n := c i - 1) (by omega) (by show c i = _; omega)
          exact look_in c nb S (i + 1) _ q h hc' hp' (by rw [a2]; omega) a1
/-- blocks, told by their lines alone -/
theorem flat_filter {α : Type} (g : α → Nat) : ∀ (L : List (List α)) (d j : Nat), (∀ j, ∀ l ∈ L.getD j [], g l = d + j) → L.getD j [] = L.flatten.filter (fun l => g l == d + j)
  | [], d, j, _ => by simp
  | b :: L, d, j, h => by
    have hb : ∀ l ∈ b, g l = d := fun l hl => by simpa using h 0 l (by simpa using hl)
    have hL : ∀ j, ∀ l ∈ L.getD j [], g l = d + 1 + j := fun j l hl => by
      have := h (j + 1) l (by simpa using hl)
      omega
    rw [List.flatten_cons, List.filter_append]
    cases j with
    | zero =>
      have e1 : b.filter (fun l => g l == d + 0) = b := List.filter_eq_self.mpr fun l hl => by simp [hb l hl]
      have e2 : L.flatten.filter (fun l => g l == d + 0) = [] := List.filter_eq_nil_iff.mpr fun l hl => by
        obtain ⟨c, hc, hlc⟩ := List.mem_flatten.mp hl
        obtain ⟨k, hk, rfl⟩ := List.getElem_of_mem hc
        have := hL k l (by simpa [hk] using hlc)
        simp; omega
      rw [e1, e2]; simp
    | succ j =>
      have e1 : b.filter (fun l => g l == d + (j + 1)) = [] := List.filter_eq_nil_iff.mpr fun l hl => by simp [hb l hl]
      have := flat_filter g L (d + 1) j hL
      rw [e1, List.nil_append, List.getD_cons_succ, this]
      congr 1
      funext l
      rw [show d + 1 + j = d + (j + 1) by omega]
end Go.Proofs.YtmlgajhhnojdjaaGreatDoor.FlwU
/- Plain facts: all that is known of a program that both readers took. -/
namespace Go.Proofs.YtmlgajhhnojdjaaGreatDoor.FlwV
open Go Go.Proofs.YtmlgajhhnojdjaaGreatDoor.Spec Go.Proofs.YtmlgajhhnojdjaaGreatDoor.FlwU Go.Proofs.YtmlgajhhnojdjaaGreatDoor.PrjS

theorem look_len (nb : Nat) : ∀ (S : List (Nat × List B)) (i : Nat) (q0 q : QP) (c : Nat → Nat), lookGo nb S i q0 = (q, none) →
    (∀ k x, S[k]? = some x → c (i + k + 1) = c (i + k) + (if x.1 = 1 then 1 else 0)) → (∀ k x, S[k]? = some x → ¬ x.1 = 0 → ¬ x.1 = 1 → 1 ≤ c (i + k)) → q0.blocks.length = c i → q.blocks.length = c (i + S.length)
  | [], i, q0, q, c, h, _, _, hl => by simp only [lookGo, Prod.mk.injEq, and_true] at h; rw [← h]; exact hl
  | x :: S, i, q0, q, c, h, hc, hp, hl => by
    have h0 := hc 0 x rfl
    have hc' : ∀ k y, S[k]? = some y → c (i + 1 + k + 1) = c (i + 1 + k) + (if y.1 = 1 then 1 else 0) := fun k y hy => by
      have := hc (k + 1) y (by simpa using hy)
      rw [show i + 1 + k = i + (k + 1) by omega]; exact this
    have hp' : ∀ k y, S[k]? = some y → ¬ y.1 = 0 → ¬ y.1 = 1 → 1 ≤ c (i + 1 + k) := fun k y hy => by
      have := hp (k + 1) y (by simpa using hy)
      rw [show i + 1 + k = i + (k + 1) by omega]; exact this
    have key : ∀ q1 : QP, lookGo nb S (i + 1) q1 = (q, none) → q1.blocks.length = c (i + 1) → q.blocks.length = c (i + (x :: S).length) := fun q1 h1 h2 => by
      have := look_len nb S (i + 1) q1 q c h1 hc' hp' h2
      rw [this, List.length_cons]; congr 1; omega
    rw [lookGo] at h
    simp only [Nat.add_zero] at h0
    by_cases e0 : x.1 = 0
    · rw [if_pos e0] at h
      rw [if_neg (by omega)] at h0
      split at h
      · simp at h
      · exact key _ h (by simpa [QP.addLocal] using hl.trans (by omega))
    · rw [if_neg e0] at h
      by_cases e1 : x.1 = 1
      · rw [if_pos e1] at h
        rw [if_pos e1] at h0
        exact key _ h (by simp [QP.addBlock]; omega)
      · rw [if_neg e1] at h
        rw [if_neg e1] at h0
        have h1 := hp 0 x rfl e0 e1
        simp only [Nat.add_zero] at h1
        split at h
        · simp at h
        · rename_i l _
          exact key _ h (by simp [QP.addLine]; omega)
structure Both (text : B) (raw : Bool) (p : RP) (q : QP) : Prop where
  ref : (refRead text raw).1 = some p
  ok : ReadOk text raw p
  lr : LR p q p.lines.length
  inb : InBlk p.cnt q
  qok : QOk q.blocks.length q
  len : q.blocks.length = p.blocks.length
theorem read_more {text : B} {raw : Bool} {q : QP} (h : (prjRead text raw).1 = some q) : ∃ p, Both text raw p q := by
  obtain ⟨p, hp, R⟩ := (read_same text raw).2 q h
  have hgood : ReadOk text raw p := by
    have e : refRead text raw = (some p, (refRead text raw).2.1, (refRead text raw).2.2) := by rw [← hp]
    exact (refRead_good e).1
  have H := hgood.pre
  by_cases hlong : (split 10 text).length > (if raw then 4000 else 120)
  · rw [prjRead, if_pos hlong] at h; cases h
  · rw [prjRead, if_neg hlong] at h
    split at h
    · cases h
    · rename_i hsp
      split at h
      · cases h
      · split at h
        · cases h
        · rename_i hlook
          split at h
          · cases h
          · simp only [Option.some.injEq] at h
            obtain ⟨-, hn⟩ := split_read raw (wordsOf text) (Spec.start raw) ⟨0, 0, 0⟩ rfl (OrdRel.start raw) (by simp) (fun ws hw => by
              simp only [wordsOf, List.mem_map] at hw
              obtain ⟨a, -, rfl⟩ := hw
              exact one_le_split _ _)
            have hl0 : (Spec.start raw).lines.length = 0 := rfl
            rw [hl0] at hn
            obtain ⟨-, -, -, -, hsents⟩ := hn hsp
            have hS : (splitGo raw (wordsOf text) ⟨0, 0, 0⟩ 0).1 = (List.range p.lines.length).map p.sent := by
              rw [hsents, ← hgood.lines]
              apply List.ext_getElem
              · simp
              · intro i h1 h2
                simp only [List.length_map] at h1
                rw [List.getElem_map, List.getElem_map, List.getElem_range, RP.sent]
                have : p.line i = p.lines[i] := by rw [RP.line, List.getD_eq_getElem?_getD, List.getElem?_eq_getElem h1]; rfl
                rw [this]
            rw [hS] at hlook h
            have hlk : lookGo (countB ((List.range p.lines.length).map p.sent)) ((List.range p.lines.length).map p.sent) 0 QP.empty = (q, none) := Prod.ext h hlook
            have hat : ∀ k x, ((List.range p.lines.length).map p.sent)[k]? = some x → k < p.lines.length ∧ x = p.sent k := fun k x hx => by
              rw [List.getElem?_map] at hx
              by_cases hk : k < p.lines.length
              · rw [List.getElem?_range hk] at hx
                simp only [Option.map_some, Option.some.injEq] at hx
                exact ⟨hk, hx.symm⟩
              · rw [List.getElem?_eq_none (by simp; omega)] at hx; cases hx
            have hop : ∀ k, k < p.lines.length → (p.sent k).1 < 23 ∧ ((p.sent k).1 = 1 ↔ isBlock (p.line k) = true) ∧ ((p.sent k).1 = 0 ↔ isLet (p.line k) = true) := fun k hk => by
              obtain ⟨op, ho, hl, -⟩ := line_op H hk
              have e : (p.sent k).1 = op := by rw [RP.sent, ho]; rfl
              rw [e]
              refine ⟨hl, ?_, ?_⟩
              · rw [isBlock, beq_iff_eq]; exact (block_op ho).symm
              · rw [isLet, beq_iff_eq]; exact (let_op ho).symm
            have hc : ∀ k x, ((List.range p.lines.length).map p.sent)[k]? = some x → p.cnt (0 + k + 1) = p.cnt (0 + k) + (if x.1 = 1 then 1 else 0) := fun k x hx => by
              obtain ⟨hk, rfl⟩ := hat k x hx
              rw [Nat.zero_add, p.cnt_succ]
              congr 1
              by_cases hb : isBlock (p.line k) = true
              · rw [if_pos hb, if_pos ((hop k hk).2.1.mpr hb)]
              · rw [if_neg hb, if_neg (fun e => hb ((hop k hk).2.1.mp e))]
            have hpl : ∀ k x, ((List.range p.lines.length).map p.sent)[k]? = some x → ¬ x.1 = 0 → ¬ x.1 = 1 → 1 ≤ p.cnt (0 + k) := fun k x hx h0 h1 => by
              obtain ⟨hk, rfl⟩ := hat k x hx
              rw [Nat.zero_add]
              have hL : isLet (p.line k) = false := by
                cases hL : isLet (p.line k)
                · rfl
                · exact absurd ((hop k hk).2.2.mpr hL) h0
              have hB : isBlock (p.line k) = false := by
                cases hB : isBlock (p.line k)
                · rfl
                · exact absurd ((hop k hk).2.1.mpr hB) h1
              exact (hgood.body_inside ⟨hk, hL, hB⟩).2
            have hcz : QP.empty.blocks.length = p.cnt 0 := rfl
            have hlen : q.blocks.length = p.blocks.length := by
              rw [R.blocks]
              congr 1
              rw [List.filter_eq_self]
              intro b hb
              rw [H.blocks] at hb
              have := (mem_whichAre hb).1
              simp [this]
            have hqlen := look_len _ _ 0 _ _ p.cnt hlk hc hpl hcz
            have hcount : countB ((List.range p.lines.length).map p.sent) = p.blocks.length := by
              rw [countB, H.blocks, RP.whichAre, List.filter_map, List.length_map]
              congr 1
              apply List.filter_congr
              intro j hj
              have hj' : j < p.lines.length := by simpa using hj
              rw [Bool.eq_iff_iff]
              simp only [Function.comp, beq_iff_eq]
              exact (hop j hj').2.1
            refine ⟨p, hp, hgood, R, look_in p.cnt _ _ 0 _ _ hlk hc hpl hcz (inBlk_empty _), ?_, hlen⟩
            have := lookGo_ok _ _ 0 _ _ hlk (fun x hx => by
              obtain ⟨k, hk, rfl⟩ := List.mem_map.mp hx
              exact (hop k (by simpa using hk)).1) ⟨fun x hx => by simp [QP.empty] at hx, fun b hb => by simp [QP.empty] at hb⟩
            rw [hcount, ← hlen] at this
            exact this
section
variable {text : B} {raw : Bool} {p : RP} {q : QP}
theorem Both.locals (h : Both text raw p q) : q.locals = p.locQ := by
  rw [h.lr.locals, RP.locQ, List.filter_eq_self.mpr]
  intro t ht
  rw [h.ok.pre.lets] at ht
  have := (mem_whichAre ht).1
  simp [this]
theorem Both.twelve (h : Both text raw p q) : q.locals.length ≤ 12 := by
  rw [h.locals, RP.locQ, List.length_map]; exact h.ok.pre.twelve
theorem qline_num (p : RP) (i : Nat) : (p.qline i).num = i := rfl
/-- the lines of block j, up to line m -/
def idxP (p : RP) (j m : Nat) : List Nat := ((List.range m).filter p.plain).filter fun i => p.cnt i == j + 1
theorem Both.block (h : Both text raw p q) (j : Nat) : q.blocks.getD j [] = (idxP p j p.lines.length).map p.qline := by
  have h1 := flat_filter (fun l : QLine => p.cnt l.num) q.blocks 1 j (fun j l hl => by rw [h.inb j l hl]; omega)
  rw [h1, h.lr.flat, List.filter_map, idxP]
  congr 1
  apply List.filter_congr
  intro i _
  simp only [Function.comp, qline_num]
  rw [show 1 + j = j + 1 by omega]
theorem idx_succ (p : RP) (j m : Nat) : idxP p j (m + 1) = idxP p j m ++ if p.plain m && p.cnt m == j + 1 then [m] else [] := by
  unfold idxP
  rw [filter_succ, List.filter_append]
  congr 1
  cases p.plain m
  · rfl
  · rw [if_pos rfl, Bool.true_and]
    cases h : (p.cnt m == j + 1)
    · rw [List.filter_cons, h]; rfl
    · rw [List.filter_cons, h]; rfl
theorem plain_iff {i : Nat} : p.plain i = true ↔ (isLet (p.line i) = false ∧ isBlock (p.line i) = false) := by
  simp [RP.plain]
end
end Go.Proofs.YtmlgajhhnojdjaaGreatDoor.FlwV
/- Plain facts: every line of a program, both ways; the ways ahead of a line, both ways. -/
namespace Go.Proofs.YtmlgajhhnojdjaaGreatDoor.FlwW
open Go Go.Proofs.YtmlgajhhnojdjaaGreatDoor.Spec Go.Proofs.YtmlgajhhnojdjaaGreatDoor.Aux Go.Proofs.YtmlgajhhnojdjaaGreatDoor.FlwA Go.Proofs.YtmlgajhhnojdjaaGreatDoor.FlwB Go.Proofs.YtmlgajhhnojdjaaGreatDoor.FlwC Go.Proofs.YtmlgajhhnojdjaaGreatDoor.FlwD Go.Proofs.YtmlgajhhnojdjaaGreatDoor.FlwE Go.Proofs.YtmlgajhhnojdjaaGreatDoor.FlwF Go.Proofs.YtmlgajhhnojdjaaGreatDoor.FlwG Go.Proofs.YtmlgajhhnojdjaaGreatDoor.FlwH Go.Proofs.YtmlgajhhnojdjaaGreatDoor.FlwI Go.Proofs.YtmlgajhhnojdjaaGreatDoor.FlwJ Go.Proofs.YtmlgajhhnojdjaaGreatDoor.FlwK Go.Proofs.YtmlgajhhnojdjaaGreatDoor.FlwM Go.Proofs.YtmlgajhhnojdjaaGreatDoor.FlwO Go.Proofs.YtmlgajhhnojdjaaGreatDoor.FlwP Go.Proofs.YtmlgajhhnojdjaaGreatDoor.FlwQ Go.Proofs.YtmlgajhhnojdjaaGreatDoor.FlwS Go.Proofs.YtmlgajhhnojdjaaGreatDoor.FlwT Go.Proofs.YtmlgajhhnojdjaaGreatDoor.FlwU Go.Proofs.YtmlgajhhnojdjaaGreatDoor.FlwV

theorem placesOf_map (p : RP) : ∀ (f : B) (_ : ∀ c ∈ f, c ∈ ([105, 111, 112, 109, 35, 98, 102, 118] : List UInt8)) (ws : List B), (p.placesOf (f.map letter) ws).map toQ = p.placesQ f ws
  | [], _, _ => rfl
  | c :: f, hc, ws => by
    have ih := placesOf_map p f (fun x hx => hc x (List.mem_cons_of_mem _ hx)) (ws.drop 1)
    have hk : isPlaceKind (letter c) = isPl c := by
      have := hc c (List.mem_cons_self ..)
      simp only [List.mem_cons, List.not_mem_nil, or_false] at this
      rcases this with rfl | rfl | rfl | rfl | rfl | rfl | rfl | rfl <;> rfl
    rw [List.map_cons, RP.placesOf, RP.placesQ, hk]
    cases isPl c
    · exact ih
    · rw [if_pos rfl, if_pos rfl, List.map_cons, ih]; rfl
theorem placesOf_mem (p : RP) : ∀ (f : B) (ws : List B) (x : PPlace), x ∈ p.placesOf f ws → ∃ k, ∃ hk : k < f.length, isPlaceKind f[k] = true ∧ x = p.placeOf (word ws k)
  | [], _, x, h => by cases h
  | c :: f, ws, x, h => by
    rw [RP.placesOf] at h
    have hrec : x ∈ p.placesOf f (ws.drop 1) → ∃ k, ∃ hk : k < (c :: f).length, isPlaceKind (c :: f)[k] = true ∧ x = p.placeOf (word ws k) := fun h => by
      obtain ⟨k, hk, h1, h2⟩ := placesOf_mem p f (ws.drop 1) x h
      refine ⟨k + 1, by simpa using hk, by simpa using h1, ?_⟩
      rw [h2, word_drop]
    split at h
    · rename_i hc
      rcases List.mem_cons.mp h with h | h
      · exact ⟨0, by simp, hc, h⟩
      · exact hrec h
    · exact hrec h
section
variable {text : B} {p : RP} {q : QP}
theorem both_ln (h : Both text false p q) {i : Nat} (hb : p.body i) : LnLink (p.qline i) (p.pline i) := by
  have hp : p.plain i = true := plain_iff.mpr hb.2
  obtain ⟨op, ho, hl, h2, hop, -, hpl, -, hf, hbe, -⟩ := qline_parts h.ok.pre hb.1 hp (h.ok.names i hb.1)
  refine ⟨by rw [hop]; exact hl, ?_, ?_, fun j => ?_⟩
  · rw [hop]; exact (opIdx_word ho).2
  · rw [hpl]
    show _ = (p.placesOf (behind (word (p.line i) 0) p.raw).1 ((p.line i).drop 1)).map toQ
    rw [hbe, behindOf]
    by_cases h15 : op = 15
    · subst h15; rfl
    · rw [if_neg h15, placesOf_map p _ (wants_kinds hl h2)]
  · unfold PLine.w
    rw [List.getD_eq_getElem?_getD]
    cases hx : (p.pline i).places[j]? with
    | none => exact .inl rfl
    | some x =>
      have hm : x ∈ p.placesOf (behind (word (p.line i) 0) p.raw).1 ((p.line i).drop 1) := List.mem_of_getElem? hx
      obtain ⟨k, hk, h1, h2⟩ := placesOf_mem p _ _ x hm
      have := (h.ok.place hb rfl k hk h1).1.part
      rw [word_drop] at h2
      rw [Option.getD_some, h2]
      exact this
theorem both_ty (h : Both text false p q) : TyLink q p.toPP := by
  have key : ∀ n, (∃ t, t < 4 ∧ q.tyOf n = t ∧ p.toPP.tyOf n = kindWord t) ∨ (q.tyOf n = 0 ∧ p.toPP.tyOf n = []) := fun n => by
    by_cases hn : n < p.lets.length
    · left
      have hm : p.lets[n] ∈ p.whichAre isLet := by rw [← h.ok.pre.lets]; exact List.getElem_mem hn
      have hx := mem_whichAre hm
      have hf := h.ok.pre.form _ hx.1
      have hlet : word (p.line p.lets[n]) 0 = wLet := by simpa [isLet] using hx.2
      rw [lineForm, if_pos hlet] at hf
      simp only [Bool.and_eq_true, decide_eq_true_eq] at hf
      obtain ⟨t, ht, ht4, htw⟩ := tyIdx_word hf.2
      refine ⟨t, ht4, ?_, ?_⟩
      · rw [QP.tyOf, h.locals, RP.locQ, List.getD_eq_getElem?_getD, List.getElem?_map, List.getElem?_eq_getElem hn]
        simp only [Option.map_some, Option.getD_some, RP.locAt]
        rw [ht]; rfl
      · rw [PProg.tyOf, RP.toPP, RP.localsOf, List.getD_eq_getElem?_getD, List.getElem?_map, List.getElem?_eq_getElem hn]
        simp only [Option.map_some, Option.getD_some]
        exact htw
    · right
      constructor
      · rw [QP.tyOf, h.locals, RP.locQ, List.getD_eq_getElem?_getD, List.getElem?_eq_none (by simp; omega)]; rfl
      · rw [PProg.tyOf, RP.toPP, RP.localsOf, List.getD_eq_getElem?_getD, List.getElem?_eq_none (by simp; omega)]; rfl
  have k4 : ∀ t, t < 4 → (t = 2 ↔ kindWord t = wPair) ∧ (t = 3 ↔ kindWord t = wOpt) := by decide
  constructor
  · intro n
    rcases key n with ⟨t, h4, h1, h2⟩ | ⟨h1, h2⟩
    · rw [h1, h2]; exact (k4 t h4).1
    · rw [h1, h2]; exact ⟨fun x => absurd x (by decide), fun x => absurd x (by decide)⟩
  · intro n
    rcases key n with ⟨t, h4, h1, h2⟩ | ⟨h1, h2⟩
    · rw [h1, h2]; exact (k4 t h4).2
    · rw [h1, h2]; exact ⟨fun x => absurd x (by decide), fun x => absurd x (by decide)⟩
/-- the ways ahead of line i, from those ahead of the blocks, as bits -/
def alongB (p : RP) (q : QP) (U : Nat → List Nat) : Nat → List Nat
  | 0 => zeroSt
  | i + 1 => if isBlock (p.line i) = true then U (p.cnt i) else passQ q (p.qline i) (alongB p q U i)
/-- a body's line that is not the first of its block -/
theorem body_prev (h : ReadOk text false p) {m : Nat} (hb : p.body (m + 1)) (hB : isBlock (p.line m) = false) : p.body m ∧ ends (word (p.line m) 0) = false ∧ p.cnt (m + 1) = p.cnt m := by
  have hi : m < p.lines.length := by have := hb.1; omega
  have hc : p.cnt (m + 1) = p.cnt m := by rw [p.cnt_succ, hB]; rfl
  have hcc : 1 ≤ p.cnt m := by have := (h.body_inside hb).2; rw [hc] at this; exact this
  refine ⟨⟨hi, h.not_let hi hcc, hB⟩, ?_, hc⟩
  cases he : ends (word (p.line m) 0)
  · rfl
  · exfalso
    have h1 := (h.body_inside hb).1
    have hw : ¬ word (p.line m) 0 = wBlock := by simpa [isBlock] using hB
    rw [insideR_last p m hi, if_neg hw, he] at h1; cases h1
theorem along_ok (h : Both text false p q) {U : Nat → List Nat} : ∀ i, p.body i → SOk (U (p.blk i)) → SOk (alongB p q U i)
  | 0, hb, _ => by have := (h.ok.body_inside hb).2; simp [RP.cnt] at this
  | m + 1, hb, hU => by
    rw [alongB]
    by_cases hB : isBlock (p.line m) = true
    · rw [if_pos hB]
      rw [blk_block hB] at hU; exact hU
    · have hB' : isBlock (p.line m) = false := by simpa using hB
      rw [if_neg hB]
      rw [blk_body hB'] at hU
      exact passQ_ok _ _ (along_ok h m (body_prev h.ok hb hB').1 hU)
def RelL (s : List Nat) (t : WS) : Prop := Rel (fun k => s.getD k 0) t
theorem rel_of {s : List Nat} {f : Nat → Nat} {t : WS} (h : Ag s f) (hr : Rel f t) : RelL s t := fun k hk => (h.eq k hk).trans (hr k hk)
theorem along_rel (h : Both text false p q) {U : Nat → List Nat} {EW : Nat → WS} (hE : ∀ b, (EW b).spots.length = 24) : ∀ i, p.body i → SOk (U (p.blk i)) → RelL (U (p.blk i)) (EW (p.blk i)) → RelL (alongB p q U i) (p.along EW i)
  | 0, hb, _, _ => by have := (h.ok.body_inside hb).2; simp [RP.cnt] at this
  | m + 1, hb, hU, hr => by
    rw [alongB, RP.along]
    by_cases hB : isBlock (p.line m) = true
    · rw [if_pos hB, if_pos hB]
      rw [blk_block hB] at hr; exact hr
    · have hB' : isBlock (p.line m) = false := by simpa using hB
      rw [if_neg hB, if_neg hB]
      rw [blk_body hB'] at hU hr
      have hb' := (body_prev h.ok hb hB').1
      have ih := along_rel h hE m hb' hU hr
      have hs := along_ok h m hb' hU
      exact rel_of (ag_pass (both_ty h) (both_ln h hb') hs.len) (h.ok.pass_ok hb' (along_len hE m) ih)
end
end Go.Proofs.YtmlgajhhnojdjaaGreatDoor.FlwW
/- Plain facts: where the lines of a block lead, and which of them is wrong first: from line to line. -/
namespace Go.Proofs.YtmlgajhhnojdjaaGreatDoor.FlwX
open Go Go.Proofs.YtmlgajhhnojdjaaGreatDoor.Spec Go.Proofs.YtmlgajhhnojdjaaGreatDoor.Aux Go.Proofs.YtmlgajhhnojdjaaGreatDoor.FlwA Go.Proofs.YtmlgajhhnojdjaaGreatDoor.FlwB Go.Proofs.YtmlgajhhnojdjaaGreatDoor.FlwC Go.Proofs.YtmlgajhhnojdjaaGreatDoor.FlwD Go.Proofs.YtmlgajhhnojdjaaGreatDoor.FlwE Go.Proofs.YtmlgajhhnojdjaaGreatDoor.FlwF Go.Proofs.YtmlgajhhnojdjaaGreatDoor.FlwG Go.Proofs.YtmlgajhhnojdjaaGreatDoor.FlwH Go.Proofs.YtmlgajhhnojdjaaGreatDoor.FlwI Go.Proofs.YtmlgajhhnojdjaaGreatDoor.FlwJ Go.Proofs.YtmlgajhhnojdjaaGreatDoor.FlwK Go.Proofs.YtmlgajhhnojdjaaGreatDoor.FlwM Go.Proofs.YtmlgajhhnojdjaaGreatDoor.FlwO Go.Proofs.YtmlgajhhnojdjaaGreatDoor.FlwP Go.Proofs.YtmlgajhhnojdjaaGreatDoor.FlwQ Go.Proofs.YtmlgajhhnojdjaaGreatDoor.FlwS Go.Proofs.YtmlgajhhnojdjaaGreatDoor.FlwT Go.Proofs.YtmlgajhhnojdjaaGreatDoor.FlwU Go.Proofs.YtmlgajhhnojdjaaGreatDoor.FlwV Go.Proofs.YtmlgajhhnojdjaaGreatDoor.FlwW

theorem digits_number {w : B} (h : formedP w 98 = true) : (digitsP w).getD 0 = (number w).getD 0 := by
  have h1 : (digitsP w).isSome = true := h
  have h2 := digitsP_eq w
  cases hn : number w with
  | none => rw [hn] at h2; rw [h2] at h1; cases h1
  | some n =>
    rw [hn] at h2
    simp only at h2
    split at h2
    · rw [h2]
    · rw [h2] at h1; cases h1
theorem nextQ_nil : ∀ (f : B) (_ : ∀ c ∈ f, ¬ c = 98) (ws : List B), nextQ f ws = []
  | [], _, _ => rfl
  | c :: f, h, ws => by
    rw [nextQ, if_neg (h c (List.mem_cons_self ..))]
    exact nextQ_nil f (fun x hx => h x (List.mem_cons_of_mem _ hx)) _
theorem wants_low : ∀ op : Fin 23, op.val < 18 ∨ op.val = 22 → ∀ c ∈ wantsOf op.val, ¬ c = 98 := by decide
theorem match_op : ∀ op : Fin 23, opWord op.val = wMatch ↔ op.val = 20 := by decide
theorem getD_one (k : Nat) : ([78] : B).getD k 0 = 78 ↔ k = 0 := by
  match k with
  | 0 => simp
  | k + 1 => simp
theorem getD_three {c : UInt8} (hc : ¬ c = 78) (k : Nat) : ([c, 78, 78] : B).getD k 0 = 78 ↔ (k = 1 ∨ k = 2) := by
  match k with
  | 0 => simp [hc]
  | 1 => simp
  | 2 => simp
  | k + 3 => simp
section
variable {text : B} {p : RP} {q : QP}
/-- what the k-th block behind a line is led on with -/
def outB (p : RP) (i k : Nat) (s : List Nat) : List Nat := if word (p.line i) 0 = wMatch then putL (if k = 1 then 4 else 2) [(p.qline i).places.getD 0 (0, 0)] s else s
def tgt (p : RP) (i k : Nat) : Nat := ((number (word (p.line i) (k + 1))).getD 0).toNat
theorem put_put (x : Nat × Nat) (s : List Nat) : putL 2 [x] (putL 4 [x] s) = putL 2 [x] s := by
  show (s.set (slotQ x) 4).set (slotQ x) 2 = s.set (slotQ x) 2
  rw [List.set_set]
theorem next_quiet (h : Both text false p q) {i : Nat} (hb : p.body i) (he : ends (word (p.line i) 0) = false) : (p.qline i).next = [] := by
  have hp : p.plain i = true := plain_iff.mpr hb.2
  obtain ⟨op, ho, hl, h2, hop, -, hpl, hnx, hf, hbe, -⟩ := qline_parts h.ok.pre hb.1 hp (h.ok.names i hb.1)
  have he' := ends_op ho
  rw [he] at he'
  rw [hnx]
  exact nextQ_nil _ (wants_low ⟨op, hl⟩ (.inl (by simpa using he'.symm))) _
theorem outs_link (h : Both text false p q) {i : Nat} (hb : p.body i) (s : List Nat) (x : Nat × List Nat) :
    x ∈ outsN (p.qline i) (p.qline i).next 0 s ↔ ∃ k, (behind (word (p.line i) 0) p.raw).1.getD k 0 = 78 ∧ x = (tgt p i k, outB p i k s) := by
  have hp : p.plain i = true := plain_iff.mpr hb.2
  obtain ⟨op, ho, hl, h2, hop, -, hpl, hnx, hf, hbe, -⟩ := qline_parts h.ok.pre hb.1 hp (h.ok.names i hb.1)
  have hw := (opIdx_word ho).2
  have hm := match_op ⟨op, hl⟩
  simp only at hm
  rw [← hw] at hm
  have w1 : word ((p.line i).drop 1) 0 = word (p.line i) 1 := by rw [word_drop]
  have w2 : word (((p.line i).drop 1).drop 1) 0 = word (p.line i) 2 := by rw [word_drop, word_drop]
  have w3 : word ((((p.line i).drop 1).drop 1).drop 1) 0 = word (p.line i) 3 := by rw [word_drop, word_drop, word_drop]
  rw [hbe]
  by_cases hlow : op < 18 ∨ op = 22
  · rw [hnx, nextQ_nil _ (wants_low ⟨op, hl⟩ hlow)]
    refine ⟨fun hx => (by cases hx), fun ⟨k, hk, _⟩ => ?_⟩
    exfalso
    have key : ∀ op : Fin 23, op.val < 18 ∨ op.val = 22 → ∀ c ∈ behindOf op.val, ¬ c = 78 := by decide
    rw [List.getD_eq_getElem?_getD] at hk
    cases hg : (behindOf op)[k]? with
    | none => rw [hg] at hk; exact absurd hk (by decide)
    | some c =>
      rw [hg] at hk
      exact key ⟨op, hl⟩ hlow c (List.mem_of_getElem? hg) hk
  · by_cases e18 : op = 18
    · subst e18
      have hn : ¬ word (p.line i) 0 = wMatch := fun e => absurd (hm.mp e) (by decide)
      have hwa : wantsOf 18 = [98] := rfl
      have hbh : behindOf 18 = [78] := rfl
      rw [hwa] at hf hnx
      simp only [formedGo, Bool.and_true, w1] at hf
      simp only [nextQ, if_true, w1, digits_number hf] at hnx
      rw [hbh, hnx]
      simp only [outsN, stepS, hop, getD_one, List.mem_singleton]
      rw [if_neg (by decide)]
      constructor
      · intro hx; exact ⟨0, rfl, by rw [hx, outB, if_neg hn]; rfl⟩
      · rintro ⟨k, rfl, hx⟩; rw [hx, outB, if_neg hn]; rfl
    · have h3 : op = 19 ∨ op = 20 ∨ op = 21 := by omega
      obtain ⟨c, hc1, hc2, hwa, hbh⟩ : ∃ c : UInt8, ¬ c = 98 ∧ ¬ letter c = 78 ∧ wantsOf op = [c, 98, 98] ∧ behindOf op = [letter c, 78, 78] := by
        rcases h3 with rfl | rfl | rfl
        · exact ⟨105, by decide, by decide, rfl, rfl⟩
        · exact ⟨111, by decide, by decide, rfl, rfl⟩
        · exact ⟨102, by decide, by decide, rfl, rfl⟩
      rw [hwa] at hf hnx
      simp only [formedGo, Bool.and_eq_true, Bool.and_true, w1, w2, w3] at hf
      rw [nextQ, if_neg hc1] at hnx
      simp only [nextQ, if_true, w2, w3, digits_number hf.2.1, digits_number hf.2.2] at hnx
      rw [hbh, hnx]
      simp only [outsN, getD_three hc2, List.mem_cons, List.not_mem_nil, or_false]
      by_cases e20 : op = 20
      · have hn : word (p.line i) 0 = wMatch := hm.mpr e20
        have s1 : stepS (p.qline i) 0 s = outB p i 1 s := by rw [stepS, outB, hop, if_pos e20, if_pos hn]; rfl
        have s2 : stepS (p.qline i) (0 + 1) (outB p i 1 s) = outB p i 2 s := by
          rw [stepS, outB, outB, hop, if_pos e20, if_pos hn, if_pos hn, if_neg (by decide), if_pos rfl, if_neg (by decide), put_put]
        rw [s1, s2]
        constructor
        · rintro (hx | hx)
          · exact ⟨1, .inl rfl, hx⟩
          · exact ⟨2, .inr rfl, hx⟩
        · rintro ⟨k, rfl | rfl, hx⟩
          · exact .inl hx
          · exact .inr hx
      · have hn : ¬ word (p.line i) 0 = wMatch := fun e => e20 (hm.mp e)
        have s1 : ∀ j s, stepS (p.qline i) j s = s := fun j s => by rw [stepS, hop, if_neg e20]
        have s2 : ∀ k s, outB p i k s = s := fun k s => by rw [outB, if_neg hn]
        simp only [s1, s2]
        constructor
        · rintro (hx | hx)
          · exact ⟨1, .inl rfl, hx⟩
          · exact ⟨2, .inr rfl, hx⟩
        · rintro ⟨k, rfl | rfl, hx⟩
          · exact .inl hx
          · exact .inr hx
theorem cnt_mono (p : RP) (i : Nat) : ∀ d, p.cnt i ≤ p.cnt (i + d)
  | 0 => Nat.le_refl _
  | d + 1 => by rw [← Nat.add_assoc, p.cnt_succ]; have := cnt_mono p i d; omega
theorem cnt_le (p : RP) {i j : Nat} (h : i ≤ j) : p.cnt i ≤ p.cnt j := by
  have := cnt_mono p i (j - i)
  rwa [show i + (j - i) = j by omega] at this
theorem cnt_all (h : Both text false p q) : p.cnt p.lines.length = p.blocks.length := by
  rw [h.ok.pre.blocks]; rfl
theorem blk_lt (h : Both text false p q) {i : Nat} (hb : p.body i) : p.cnt i = p.blk i + 1 ∧ p.blk i < q.blocks.length := by
  have h1 := (h.ok.body_inside hb).2
  have h2 := cnt_le p (Nat.le_of_lt hb.1)
  rw [cnt_all h, ← h.len] at h2
  unfold RP.blk; omega
theorem idx_nil (p : RP) {j m : Nat} (h : p.cnt m ≤ j) : idxP p j m = [] := by
  unfold idxP
  rw [List.filter_eq_nil_iff]
  intro i hi
  have hlt : i < m := by simp at hi; exact hi.1
  have := cnt_le p (Nat.le_of_lt hlt)
  simp; omega
/-- a state, passed through lines one by one -/
def endG (g : QLine → List Nat → List Nat) (ls : List QLine) (s : List Nat) : List Nat := ls.foldl (fun s l => g l s) s
theorem end_along (h : Both text false p q) (U : Nat → List Nat) {g : QLine → List Nat → List Nat} (hg : ∀ m, p.body m → ends (word (p.line m) 0) = false → ∀ s, g (p.qline m) s = passQ q (p.qline m) s) (j : Nat) :
    ∀ m, p.body m → p.cnt m = j + 1 → endG g ((idxP p j m).map p.qline) (U j) = alongB p q U m
  | 0, hb, _ => by have := (h.ok.body_inside hb).2; simp [RP.cnt] at this
  | m + 1, hb, hc => by
    rw [alongB]
    by_cases hB : isBlock (p.line m) = true
    · rw [if_pos hB]
      rw [p.cnt_succ, hB, if_pos rfl] at hc
      have hpm : p.plain m = false := by simp [RP.plain, hB]
      rw [idx_succ, hpm, idx_nil p (by omega), Bool.false_and, if_neg (by decide), show p.cnt m = j by omega]
      rfl
    · have hB' : isBlock (p.line m) = false := by simpa using hB
      obtain ⟨hb', he, hcc⟩ := body_prev h.ok hb hB'
      rw [hcc] at hc
      rw [if_neg hB, idx_succ, plain_iff.mpr hb'.2, hc, Bool.true_and, if_pos (by simp), List.map_append, endG, List.foldl_append]
      show g (p.qline m) (endG g ((idxP p j m).map p.qline) (U j)) = _
      rw [end_along h U hg j m hb' hc, hg m hb' he]
theorem outsL_app (q : QP) : ∀ (a b : List QLine) (s : List Nat), outsL q (a ++ b) s = outsL q a s ++ outsL q b (endG (fun l s => stN l l.next 0 (passQ q l s)) a s)
  | [], _, _ => rfl
  | l :: a, b, s => by
    rw [List.cons_append, outsL, outsL, outsL_app q a b, List.append_assoc]; rfl
theorem faultL_app (q : QP) : ∀ (a b : List QLine) (s : List Nat), faultL q (a ++ b) s = (faultL q a s).or (faultL q b (endG (passQ q) a s))
  | [], _, _ => rfl
  | l :: a, b, s => by
    rw [List.cons_append, faultL, faultL, faultL_app q a b]
    cases faultyQ q l s
    · rfl
    · rfl
theorem outs_block (h : Both text false p q) (U : Nat → List Nat) (j : Nat) (x : Nat × List Nat) : ∀ m, m ≤ p.lines.length → (x ∈ outsL q ((idxP p j m).map p.qline) (U j) ↔
    ∃ i, i < m ∧ p.body i ∧ p.cnt i = j + 1 ∧ x ∈ outsN (p.qline i) (p.qline i).next 0 (passQ q (p.qline i) (alongB p q U i)))
  | 0, _ => by simp [idxP, outsL]
  | m + 1, hm => by
    have ih := outs_block h U j x m (by omega)
    rw [idx_succ, List.map_append, outsL_app, List.mem_append, ih]
    by_cases hc : p.plain m = true ∧ p.cnt m = j + 1
    · have hb : p.body m := ⟨by omega, plain_iff.mp hc.1⟩
      have hif : (p.plain m && p.cnt m == j + 1) = true := by simp [hc.1, hc.2]
      rw [if_pos hif, end_along h U (fun m hb he s => by rw [next_quiet h hb he]; rfl) j m hb hc.2]
      simp only [List.map_cons, List.map_nil, outsL, List.append_nil]
      constructor
      · rintro (⟨i, h1, h2⟩ | h1)
        · exact ⟨i, by omega, h2⟩
        · exact ⟨m, by omega, hb, hc.2, h1⟩
      · rintro ⟨i, h1, h2⟩
        by_cases e : i = m
        · subst e; exact .inr h2.2.2
        · exact .inl ⟨i, by omega, h2⟩
    · have hif : ¬ (p.plain m && p.cnt m == j + 1) = true := by simpa using hc
      rw [if_neg hif]
      simp only [List.map_nil, outsL, List.not_mem_nil, or_false]
      constructor
      · rintro ⟨i, h1, h2⟩; exact ⟨i, by omega, h2⟩
      · rintro ⟨i, h1, h2⟩
        by_cases e : i = m
        · subst e; exact absurd ⟨plain_iff.mpr h2.1.2, h2.2.1⟩ hc
        · exact ⟨i, by omega, h2⟩
/-- where block j leads, and with what -/
theorem outs_all (h : Both text false p q) (U : Nat → List Nat) (j : Nat) (x : Nat × List Nat) : x ∈ outsL q (q.blocks.getD j []) (U j) ↔
    ∃ i k, p.body i ∧ p.cnt i = j + 1 ∧ (behind (word (p.line i) 0) p.raw).1.getD k 0 = 78 ∧ x = (tgt p i k, outB p i k (passQ q (p.qline i) (alongB p q U i))) := by
  rw [h.block j, outs_block h U j x _ (Nat.le_refl _)]
  constructor
  · rintro ⟨i, h1, h2, h3, h4⟩
    obtain ⟨k, h5⟩ := (outs_link h h2 _ x).mp h4
    exact ⟨i, k, h2, h3, h5⟩
  · rintro ⟨i, k, h2, h3, h5⟩
    exact ⟨i, h2.1, h2, h3, (outs_link h h2 _ x).mpr ⟨k, h5⟩⟩
/-! the first wrong one -/
theorem firstSome_last (f : Nat → Option Nat) : ∀ m k, firstSome f (m + 1) k = (firstSome f m k).or (f (k + m))
  | 0, k => by simp [firstSome]
  | m + 1, k => by
    rw [firstSome, firstSome_last f m (k + 1), firstSome, Option.or_assoc, show k + 1 + m = k + (m + 1) by omega]
theorem firstSome_none (f : Nat → Option Nat) : ∀ m, firstSome f m 0 = none ↔ ∀ i, i < m → f i = none
  | 0 => by simp [firstSome]
  | m + 1 => by
    rw [firstSome_last, Option.or_eq_none_iff, firstSome_none f m, Nat.zero_add]
    constructor
    · rintro ⟨h1, h2⟩ i hi
      by_cases e : i = m
      · rw [e]; exact h2
      · exact h1 i (by omega)
    · intro h; exact ⟨fun i hi => h i (by omega), h m (by omega)⟩
theorem firstSome_some (f : Nat → Option Nat) (r : Nat) : ∀ m, firstSome f m 0 = some r ↔ ∃ i, i < m ∧ f i = some r ∧ ∀ j, j < i → f j = none
  | 0 => by simp [firstSome]
  | m + 1 => by
    rw [firstSome_last, Option.or_eq_some_iff, firstSome_some f r m, firstSome_none, Nat.zero_add]
    constructor
    · rintro (⟨i, h1, h2⟩ | ⟨h1, h2⟩)
      · exact ⟨i, by omega, h2⟩
      · exact ⟨m, by omega, h2, h1⟩
    · rintro ⟨i, h1, h2, h3⟩
      by_cases e : i = m
      · subst e; exact .inr ⟨h3, h2⟩
      · exact .inl ⟨i, by omega, h2, h3⟩
def pick (P : Nat → Bool) (i : Nat) : Option Nat := if P i = true then some i else none
theorem pick_none {P : Nat → Bool} {i : Nat} : pick P i = none ↔ P i = false := by
  unfold pick; cases P i <;> simp
theorem pick_some {P : Nat → Bool} {i r : Nat} : pick P i = some r ↔ P i = true ∧ i = r := by
  unfold pick; cases P i <;> simp
def wrongB (p : RP) (q : QP) (U : Nat → List Nat) (j i : Nat) : Bool := (p.plain i && p.cnt i == j + 1) && faultyQ q (p.qline i) (alongB p q U i)
theorem fault_block (h : Both text false p q) (U : Nat → List Nat) (j : Nat) : ∀ m, m ≤ p.lines.length → faultL q ((idxP p j m).map p.qline) (U j) = firstSome (pick (wrongB p q U j)) m 0
  | 0, _ => rfl
  | m + 1, hm => by
    rw [firstSome_last, ← fault_block h U j m (by omega), idx_succ, List.map_append, faultL_app, Nat.zero_add]
    congr 1
    unfold pick wrongB
    by_cases hc : p.plain m = true ∧ p.cnt m = j + 1
    · have hb : p.body m := ⟨by omega, plain_iff.mp hc.1⟩
      have hif : (p.plain m && p.cnt m == j + 1) = true := by simp [hc.1, hc.2]
      rw [if_pos hif, hif, Bool.true_and, end_along h U (fun _ _ _ _ => rfl) j m hb hc.2]
      simp only [List.map_cons, List.map_nil, faultL, qline_num]
    · have hif : (p.plain m && p.cnt m == j + 1) = false := by
        cases hx : (p.plain m && p.cnt m == j + 1)
        · rfl
        · exfalso; apply hc; simpa using hx
      rw [hif, Bool.false_and, if_neg (by decide), if_neg (by decide)]; rfl
/-- which line of a body is wrong -/
def wrongP (p : RP) (q : QP) (E : List (List Nat)) (i : Nat) : Bool := !(E.getD (p.blk i) [] == zeroSt) && faultyQ q (p.qline i) (alongB p q (fun b => E.getD b []) i)
theorem fault_all (h : Both text false p q) (E : List (List Nat)) : firstSome (faultB q E) q.blocks.length 0 = firstSome (pick fun i => p.plain i && wrongP p q E i) p.lines.length 0 := by
  have hF : ∀ b, faultB q E b = if E.getD b [] = zeroSt then none else firstSome (pick (wrongB p q (fun b => E.getD b []) b)) p.lines.length 0 := fun b => by
    unfold faultB
    split
    · rfl
    · rw [h.block b]
      exact fault_block h (fun b => E.getD b []) b _ (Nat.le_refl _)
  have one : ∀ i, i < p.lines.length → (p.plain i && wrongP p q E i) = true → p.blk i < q.blocks.length ∧ ¬ E.getD (p.blk i) [] = zeroSt ∧ wrongB p q (fun b => E.getD b []) (p.blk i) i = true := fun i hi hw => by
    simp only [wrongP, Bool.and_eq_true, Bool.not_eq_true', beq_eq_false_iff_ne] at hw
    have hb : p.body i := ⟨hi, plain_iff.mp hw.1⟩
    obtain ⟨h1, h2⟩ := blk_lt h hb
    refine ⟨h2, hw.2.1, ?_⟩
    unfold wrongB
    rw [hw.1, h1, hw.2.2]; simp
  have two : ∀ b i, i < p.lines.length → wrongB p q (fun b => E.getD b []) b i = true → ¬ E.getD b [] = zeroSt → (p.plain i && wrongP p q E i) = true ∧ p.blk i = b := fun b i hi hw hz => by
    simp only [wrongB, Bool.and_eq_true, beq_iff_eq] at hw
    have hbk : p.blk i = b := by unfold RP.blk; omega
    refine ⟨?_, hbk⟩
    simp only [wrongP, hbk, hw.1.1, hw.2, Bool.true_and, Bool.and_true, Bool.not_eq_true', beq_eq_false_iff_ne]
    exact hz
  cases hr : firstSome (faultB q E) q.blocks.length 0 with
  | none =>
    rw [firstSome_none] at hr
    symm
    rw [firstSome_none]
    intro i hi
    rw [pick_none]
    cases hw : (p.plain i && wrongP p q E i)
    · rfl
    · exfalso
      obtain ⟨h1, h2, h3⟩ := one i hi hw
      have := hr _ h1
      rw [hF, if_neg h2, firstSome_none] at this
      have := pick_none.mp (this i hi)
      rw [h3] at this; cases this
  | some r =>
    rw [firstSome_some] at hr
    obtain ⟨b, hb, hbr, hlow⟩ := hr
    rw [hF] at hbr
    split at hbr
    · cases hbr
    · rename_i hz
      rw [firstSome_some] at hbr
      obtain ⟨i, hi, hir, hil⟩ := hbr
      obtain ⟨hw, rfl⟩ := pick_some.mp hir
      obtain ⟨hP, hbk⟩ := two b i hi hw hz
      symm
      rw [firstSome_some]
      refine ⟨i, hi, pick_some.mpr ⟨hP, rfl⟩, fun c hc => ?_⟩
      rw [pick_none]
      cases hwc : (p.plain c && wrongP p q E c)
      · rfl
      · exfalso
        obtain ⟨h1, h2, h3⟩ := one c (by omega) hwc
        have hle : p.blk c ≤ b := by
          have := cnt_le p (Nat.le_of_lt hc)
          rw [← hbk]; unfold RP.blk; omega
        by_cases e : p.blk c = b
        · rw [e] at h3
          have := pick_none.mp (hil c hc)
          rw [h3] at this; cases this
        · have := hlow (p.blk c) (by omega)
          rw [hF, if_neg h2, firstSome_none] at this
          have := pick_none.mp (this c (by omega))
          rw [h3] at this; cases this
def asInt : Option Nat → Int
  | none => -1
  | some i => i
theorem firstWrong_eq (p : RP) (wrong : Nat → Bool) : ∀ m i, p.firstWrong wrong m i = asInt (firstSome (pick fun i => p.plain i && wrong i) m i)
  | 0, _ => rfl
  | m + 1, i => by
    rw [RP.firstWrong, firstSome, firstWrong_eq p wrong m (i + 1)]
    by_cases hc : (!isLet (p.line i) && !isBlock (p.line i) && wrong i) = true
    · have e : pick (fun i => p.plain i && wrong i) i = some i := if_pos hc
      rw [if_pos hc, e]; rfl
    · have e : pick (fun i => p.plain i && wrong i) i = none := if_neg hc
      rw [if_neg hc, e]; rfl
end
end Go.Proofs.YtmlgajhhnojdjaaGreatDoor.FlwX
