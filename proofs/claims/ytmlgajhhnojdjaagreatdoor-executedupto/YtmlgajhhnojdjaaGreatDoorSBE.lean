/- The document's own machine: a statement, walked, word by word. -/
import Derived.Test.YtmlgajhhnojdjaaGreatDoorSBC
import Derived.Test.YtmlgajhhnojdjaaGreatDoorSBD
import Derived.Test.YtmlgajhhnojdjaaGreatDoorSAY
import Derived.Deep.LoopGhost
import Derived.Test.YtmlgajhhnojdjaaGreatDoorSBA
import Derived.Test.YtmlgajhhnojdjaaGreatDoorSAW
import Derived.Test.YtmlgajhhnojdjaaGreatDoorSAR
namespace Go.Proofs.YtmlgajhhnojdjaaGreatDoor.Mac
open Go Go.RowKit Go.Proofs.YtmlgajhhnojdjaaGreatDoor.Spec Go.Proofs.YtmlgajhhnojdjaaGreatDoor.Aux Go.Proofs.YtmlgajhhnojdjaaGreatDoor.PrjJ Go.Proofs.YtmlgajhhnojdjaaGreatDoor.PrjK Go.Proofs.YtmlgajhhnojdjaaGreatDoor.PrjL Go.Proofs.YtmlgajhhnojdjaaGreatDoor.PrjM Go.Proofs.YtmlgajhhnojdjaaGreatDoor.Own Go.Proofs.YtmlgajhhnojdjaaGreatDoor.RefRa Go.Proofs.YtmlgajhhnojdjaaGreatDoor.RefP Go.Proofs.YtmlgajhhnojdjaaGreatDoor.RefC

section
variable {w0 w w1 w2 w3 : World} {x gw cw : Nat} {f : Fx} {m : RM} {p : RP} {ws : List B} {t : Nat} {vb vt : Value} {inp : List Int}
set_option maxRecDepth 20000 in
set_option maxHeartbeats 2000000 in
theorem does_in (hC : Ctx w0 p f) (h : MAt w0 x f w m) (hR : Row w0 ws gw) (hn : ws.length = 2) (hw : word ws 0 = [105, 110]) (h1 : Wd p (word ws 1)) (hF : FeedAt w0 f.vi inp) (hu : m.used < inp.length) (hO : m.Ok t) (ht : t ≤ 2000000) :
    Calls Tryz.prog 94 #[.pointer (some ⟨x, 0, none⟩), .slice (some ⟨gw, 0, none⟩) ws.length cw] w fun e w' => e = .returned (.tuple #[]) ∧ MAt w0 x f w' (m.does f p inp ws) := by
  have HG : Hid (m.does f p inp ws = m.input p inp ws) := by unfold Hid RM.does; simp only [hw]; rfl
  have hln : (ws.length : Int) = 2 := by omega
  have y0 := hR.on h (j := 0) (by omega)
  rw [hw] at y0
  obtain ⟨ad, cp, hvi, hl1, hl2, hcell⟩ := hF
  obtain ⟨g, fo, rfl, hg, hc⟩ := hcell _ hu
  obtain ⟨vb, vt, hV⟩ := h
  have q1 := (hV.old.cell (p := ⟨g, fo + m.used, none⟩) hg).trans hc
  obtain ⟨c0, c1, c2, c3, c4, c5, c6, c7, c8, c9⟩ := hV.facts
  obtain ⟨f1, f2, f3, f4, f5, f6⟩ := hV.frozs
  rw [hvi] at c6
  have hub := hO.used
  have i1 : ((m.used : Nat) : Int) < inp.length := by omega
  have hg0 : inp.getD m.used 0 = inp[m.used] := by rw [List.getD_eq_getElem?_getD, List.getElem?_eq_getElem hu]; rfl
  go_enter Tryz.func94, Tryz.ntmps94
  go_upto_region 11 with fail
  go_quiet (fail)
  have hVq : MAtV w0 x f (w.drewN nq) m vb vt := hV.below (below_drewN (Below.refl _ _) _)
  have q2 : (w.drewN nq).cell? ⟨g, fo + m.used, none⟩ = some (.int .i64 (inp.getD m.used 0)) := (hVq.old.cell (p := ⟨g, fo + m.used, none⟩) hg).trans hc
  clear hV q1 c0 c1 c2 c3 c4 c5 c6 c7 c8 c9 f1 f2 f3 f4 f5 f6
  generalize w.drewN nq = wq at *
  obtain ⟨c0, c1, c2, c3, c4, c5, c6, c7, c8, c9⟩ := hVq.facts
  rw [hvi] at c6
  go_upto_region 12 with fail
  go_quiet (fail)
  have hVr : MAtV w0 x f (wq.drewN nq) m vb vt := hVq.below (below_drewN (Below.refl _ _) _)
  clear hVq q2 c0 c1 c2 c3 c4 c5 c6 c7 c8 c9
  generalize wq.drewN nq = wz at *
  obtain ⟨c0, c1, c2, c3, c4, c5, c6, c7, c8, c9⟩ := hVr.facts
  obtain ⟨f1, f2, f3, f4, f5, f6⟩ := hVr.frozs
  have hV2 : MAtV w0 x f (wz.setCell ⟨x, 153, none⟩ (.int .i64 ((m.used : Int) + 1))) { m with used := m.used + 1 } vb vt := by
    have h9 := hVr.setUsed (m.used + 1)
    rw [show ((m.used + 1 : Nat) : Int) = (m.used : Int) + 1 from by omega] at h9
    exact h9
  have y1 := hR.at hV2 (j := 1) (by omega)
  have KB := be_any hC ⟨_, _, hV2⟩ h1 inp[m.used]
  go_wp2_with (go_at_call 150; refine KB.mono ?_; rintro e w2 ⟨rfl, hM⟩)
  go_end0
  refine ⟨rfl, ?_⟩
  rw [HG.out]
  unfold RM.input
  rw [hg0]
  exact hM
end
end Go.Proofs.YtmlgajhhnojdjaaGreatDoor.Mac
namespace Go.Proofs.YtmlgajhhnojdjaaGreatDoor.Mac
open Go Go.RowKit Go.Proofs.YtmlgajhhnojdjaaGreatDoor.Spec Go.Proofs.YtmlgajhhnojdjaaGreatDoor.Aux Go.Proofs.YtmlgajhhnojdjaaGreatDoor.PrjJ Go.Proofs.YtmlgajhhnojdjaaGreatDoor.PrjK Go.Proofs.YtmlgajhhnojdjaaGreatDoor.PrjL Go.Proofs.YtmlgajhhnojdjaaGreatDoor.PrjM Go.Proofs.YtmlgajhhnojdjaaGreatDoor.Own Go.Proofs.YtmlgajhhnojdjaaGreatDoor.RefRa Go.Proofs.YtmlgajhhnojdjaaGreatDoor.RefP Go.Proofs.YtmlgajhhnojdjaaGreatDoor.RefC

section
variable {w0 w w1 w2 w3 : World} {x gw cw : Nat} {f : Fx} {m : RM} {p : RP} {ws : List B} {t : Nat} {vb vt : Value} {inp : List Int}
set_option maxRecDepth 20000 in
set_option maxHeartbeats 2000000 in
theorem does_inE (hC : Ctx w0 p f) (h : MAt w0 x f w m) (hR : Row w0 ws gw) (hn : ws.length = 2) (hw : word ws 0 = [105, 110]) (h1 : Wd p (word ws 1)) (hF : FeedAt w0 f.vi inp) (hu : ¬ m.used < inp.length) (hO : m.Ok t) (ht : t ≤ 2000000) :
    Calls Tryz.prog 94 #[.pointer (some ⟨x, 0, none⟩), .slice (some ⟨gw, 0, none⟩) ws.length cw] w fun e w' => e = .returned (.tuple #[]) ∧ MAt w0 x f w' (m.does f p inp ws) := by
  have HG : Hid (m.does f p inp ws = m.input p inp ws) := by unfold Hid RM.does; simp only [hw]; rfl
  have hln : (ws.length : Int) = 2 := by omega
  have y0 := hR.on h (j := 0) (by omega)
  rw [hw] at y0
  obtain ⟨ad, cp, hvi, hl1, hl2, hcell⟩ := hF
  obtain ⟨vb, vt, hV⟩ := h
  obtain ⟨c0, c1, c2, c3, c4, c5, c6, c7, c8, c9⟩ := hV.facts
  rw [hvi] at c6
  have hub := hO.used
  have i1 : ¬ ((m.used : Nat) : Int) < inp.length := by omega
  have hg0 : inp.getD m.used 0 = 0 := by rw [List.getD_eq_getElem?_getD, List.getElem?_eq_none (by omega)]; rfl
  go_enter Tryz.func94, Tryz.ntmps94
  go_upto_region 11 with fail
  go_quiet (fail)
  have hVr : MAtV w0 x f (w.drewN nq) m vb vt := hV.below (below_drewN (Below.refl _ _) _)
  clear hV c0 c1 c2 c3 c4 c5 c6 c7 c8 c9
  generalize w.drewN nq = wz at *
  obtain ⟨c0, c1, c2, c3, c4, c5, c6, c7, c8, c9⟩ := hVr.facts
  obtain ⟨f1, f2, f3, f4, f5, f6⟩ := hVr.frozs
  have hV2 : MAtV w0 x f (wz.setCell ⟨x, 153, none⟩ (.int .i64 ((m.used : Int) + 1))) { m with used := m.used + 1 } vb vt := by
    have h9 := hVr.setUsed (m.used + 1)
    rw [show ((m.used + 1 : Nat) : Int) = (m.used : Int) + 1 from by omega] at h9
    exact h9
  have y1 := hR.at hV2 (j := 1) (by omega)
  have KB := be_any hC ⟨_, _, hV2⟩ h1 0
  go_wp2_with (go_at_call 150; refine KB.mono ?_; rintro e w2 ⟨rfl, hM⟩)
  go_end0
  refine ⟨rfl, ?_⟩
  rw [HG.out]
  unfold RM.input
  rw [hg0]
  exact hM
end
end Go.Proofs.YtmlgajhhnojdjaaGreatDoor.Mac
/- The document's own machine that owns: end, walked. -/
namespace Go.Proofs.YtmlgajhhnojdjaaGreatDoor.Mac
open Go Go.RowKit Go.Proofs.YtmlgajhhnojdjaaGreatDoor.Spec Go.Proofs.YtmlgajhhnojdjaaGreatDoor.Aux Go.Proofs.YtmlgajhhnojdjaaGreatDoor.PrjJ Go.Proofs.YtmlgajhhnojdjaaGreatDoor.PrjK Go.Proofs.YtmlgajhhnojdjaaGreatDoor.PrjL Go.Proofs.YtmlgajhhnojdjaaGreatDoor.PrjM Go.Proofs.YtmlgajhhnojdjaaGreatDoor.Own Go.Proofs.YtmlgajhhnojdjaaGreatDoor.RefRa Go.Proofs.YtmlgajhhnojdjaaGreatDoor.RefP

section
variable {w0 w w1 w2 w3 : World} {x gw cw : Nat} {f : Fx} {m : RM} {p : RP} {ws : List B} {t : Nat} {vb vt : Value}
set_option maxRecDepth 20000 in
set_option maxHeartbeats 2000000 in
theorem finish_none (hC : Ctx w0 p f) (h : MAt w0 x f w m) (hR : Row w0 ws gw) (hn : ws.length = 2) (h1 : Wd p (word ws 1)) (hh : ¬ m.has.getD (sp p (word ws 1)) false = true) :
    Calls Tryz.prog 92 #[.pointer (some ⟨x, 0, none⟩), .slice (some ⟨gw, 0, none⟩) ws.length cw] w fun e w' => e = .returned (.tuple #[]) ∧ MAt w0 x f w' (m.finish f p ws) := by
  have HG : Hid (m.finish f p ws = { m with out := 5 }) := by unfold Hid RM.finish; simp only; rw [need_not hh, if_pos (by simp)]
  have hln : (ws.length : Int) = 2 := by omega
  have y1 := hR.on h (j := 1) (by omega)
  have KI := int_any hC h h1
  rw [need_not hh] at KI
  go_enter Tryz.func92, Tryz.ntmps92
  go_wp2_with (go_at_call 147; refine KI.mono ?_; rintro e w1 ⟨rfl, vb1, vt1, hV1⟩; obtain ⟨c0, c1, c2, c3, c4, c5, c6, c7, c8, c9⟩ := hV1.facts)
  try simp only [Exit.inBlock, Exit.then]
  refine bodyPost_ret (results_none rfl _ _ _) rfl ?_
  exact ⟨rfl, by rw [HG.out]; exact ⟨_, _, hV1⟩⟩
end
end Go.Proofs.YtmlgajhhnojdjaaGreatDoor.Mac
/- The document's own machine that owns: a statement keeps within bounds. -/
namespace Go.Proofs.YtmlgajhhnojdjaaGreatDoor.Mac
open Go Go.RowKit Go.Proofs.YtmlgajhhnojdjaaGreatDoor.Spec Go.Proofs.YtmlgajhhnojdjaaGreatDoor.Aux Go.Proofs.YtmlgajhhnojdjaaGreatDoor.Own Go.Proofs.YtmlgajhhnojdjaaGreatDoor.RefRa

section
variable {f : Fx} {m : RM} {p : RP} {ws : List B} {t : Nat} {inp : List Int} {l : B}
theorem RM.Ok.arith (h : m.Ok t) : (m.arith p ws).Ok t := by
  unfold RM.arith
  simp only
  have h1 := (h.need (sp p (word ws 2))).need (sp p (word ws 3))
  split
  · exact h1
  · split
    · exact h1.outs 4
    · exact h1.be _ (calc_i64 _ _ _)
theorem RM.Ok.new (h : m.Ok t) (ht : t + 3 ≤ 10000000) (h1 : Wd p (word ws 1)) (h12 : p.lets.length ≤ 12) : (m.new f p ws).Ok (t + 3) := by
  unfold RM.new
  simp only
  have h2 := h.need (sp p (word ws 2))
  split
  · exact h2.mono (by omega)
  · have hv : isI64 (m.int (sp p (word ws 2))) := h.ints _
    split
    · exact (h2.drop (by omega) h1 h12).made (by omega) _ hv
    · exact (h2.made (by omega) _ hv).mono (by omega)
theorem RM.Ok.load (h : m.Ok t) (ht : t ≤ 10000000) : (m.load p ws).Ok (t + 1) := by
  unfold RM.load
  simp only
  have h1 := h.boxed (sp p (word ws 2))
  have h2 := named_le h (sp p (word ws 2))
  have h3 := h.boxes
  split
  · exact (h1.note 60 (i64_nat (t := t) (by omega) (by omega))).be _ (box_i64 h _)
  · exact h1.mono (by omega)
theorem RM.Ok.tell (h : m.Ok t) : (m.tell p ws).Ok (t + 1) := by
  unfold RM.tell
  simp only
  have h1 := h.need (sp p (word ws 1))
  split
  · exact h1.note 111 (h.ints _)
  · exact h1.mono (by omega)
theorem RM.Ok.input (h : m.Ok t) (hi : ∀ n ∈ inp, isI64 n) : (m.input p inp ws).Ok (t + 1) := by
  unfold RM.input
  have h1 : RM.Ok { m with used := m.used + 1 } (t + 1) := ⟨h.ints, h.held, h.vals, by have := h.boxes; show m.boxes.length ≤ _; omega, by have := h.trace; show m.trace.length ≤ _; omega, by have := h.count; show _ ≤ m.count ∧ m.count ≤ _; omega, by have := h.used; show m.used + 1 ≤ _; omega⟩
  refine h1.be _ ?_
  rw [List.getD_eq_getElem?_getD]
  cases e : inp[m.used]? with
  | none => unfold isI64; simp
  | some v => exact hi v (List.mem_of_getElem? e)
theorem RM.Ok.none (h : m.Ok t) (ht : t + 2 ≤ 10000000) (h1 : Wd p (word ws 1)) (h12 : p.lets.length ≤ 12) : (m.none f p ws).Ok (t + 2) := by
  unfold RM.none
  simp only
  split
  · exact (h.drop ht h1 h12).how _
  · exact (h.mono (by omega)).how _
theorem need_boxes (m : RM) (i : Nat) : (m.need i).boxes = m.boxes := by unfold RM.need; split <;> rfl
theorem boxed_boxes (m : RM) (i : Nat) : (m.boxed i).boxes = m.boxes := by unfold RM.boxed; split <;> rfl
theorem RM.Ok.store (h : m.Ok t) (ht : t ≤ 10000000) : (m.store p ws).Ok (t + 1) := by
  unfold RM.store
  simp only
  have h1 := (h.boxed (sp p (word ws 1))).need (sp p (word ws 2))
  have h2 := named_le h (sp p (word ws 1))
  have h3 := h.boxes
  split
  · have h4 := h1.note 62 (n := ((m.named (sp p (word ws 1)) : Nat) : Int)) (i64_nat (t := t) (by omega) (by omega))
    have hb : ((m.boxed (sp p (word ws 1))).need (sp p (word ws 2))).boxes = m.boxes := (need_boxes _ _).trans (boxed_boxes _ _)
    refine ⟨h4.ints, fun j => ?_, fun j => ?_, ?_, h4.trace, h4.count, h4.used⟩
    · have := h4.held j
      show _ ≤ (m.boxes.set _ _).length
      rw [List.length_set]
      have e : (((m.boxed (sp p (word ws 1))).need (sp p (word ws 2))).note 62 ((m.named (sp p (word ws 1)) : Nat) : Int)).boxes = m.boxes := hb
      rw [e] at this; exact this
    · show isI64 ((m.boxes.set (m.named (sp p (word ws 1)) - 1) (m.int (sp p (word ws 2)), (m.box (m.named (sp p (word ws 1)))).2)).getD j (0, false)).1
      rw [List.getD_eq_getElem?_getD, List.getElem?_set]
      split
      · split
        · exact h.ints _
        · unfold isI64; simp
      · rw [← List.getD_eq_getElem?_getD]; exact h.vals j
    · show (m.boxes.set _ _).length ≤ _
      rw [List.length_set]; omega
  · exact h1.mono (by omega)
end
end Go.Proofs.YtmlgajhhnojdjaaGreatDoor.Mac
/- The document's own machine that owns: any statement of a program that was read, walked. -/
namespace Go.Proofs.YtmlgajhhnojdjaaGreatDoor.Mac
theorem hereMacR : True := trivial
end Go.Proofs.YtmlgajhhnojdjaaGreatDoor.Mac
/- Plain facts: a line's words, and the same line as the project keeps it; the lines of a block, one behind the other. -/
namespace Go.Proofs.YtmlgajhhnojdjaaGreatDoor.Sim
open Go Go.Proofs.YtmlgajhhnojdjaaGreatDoor.Spec Go.Proofs.YtmlgajhhnojdjaaGreatDoor.Aux Go.Proofs.YtmlgajhhnojdjaaGreatDoor.Own Go.Proofs.YtmlgajhhnojdjaaGreatDoor.Mac Go.Proofs.YtmlgajhhnojdjaaGreatDoor.PrjS Go.Proofs.YtmlgajhhnojdjaaGreatDoor.FlwA Go.Proofs.YtmlgajhhnojdjaaGreatDoor.FlwU Go.Proofs.YtmlgajhhnojdjaaGreatDoor.FlwV Go.Proofs.YtmlgajhhnojdjaaGreatDoor.FlwX Go.Proofs.YtmlgajhhnojdjaaGreatDoor.FlwT

def numQ : B → List B → Int → Int
  | [], _, d => d
  | c :: f, ws, d => numQ f (ws.drop 1) (if c = 35 ∨ c = 118 then valW (word ws 0) else d)
def flagQ : B → List B → Int → Int
  | [], _, d => d
  | c :: f, ws, d => flagQ f (ws.drop 1) (if c = 102 then (digitsP (word ws 0)).getD 0 else d)
theorem lineGo_nums (ls : List (B × Nat)) (nb : Nat) : ∀ (f : B) (ws : List B) (l r : QLine), lineGo ls nb f ws l = some r → r.number = numQ f ws l.number ∧ r.flag = flagQ f ws l.flag
  | [], ws, l, r, h => by rw [lineGo] at h; cases h; exact ⟨rfl, rfl⟩
  | c :: f, ws, l, r, h => by
    rw [lineGo] at h
    rw [numQ, flagQ]
    by_cases h1 : c = 35 ∨ c = 118
    · have h2 : ¬ c = 102 := by rintro rfl; revert h1; decide
      rw [if_pos h1] at h ⊢
      rw [if_neg h2]
      have := lineGo_nums ls nb f (ws.drop 1) _ r h
      rw [number_eq] at this
      exact this
    · rw [if_neg h1] at h ⊢
      by_cases h2 : c = 102
      · rw [if_pos h2] at h ⊢; exact lineGo_nums ls nb f (ws.drop 1) _ r h
      · rw [if_neg h2] at h ⊢
        split at h
        · split at h
          · cases h
          · have := lineGo_nums ls nb f (ws.drop 1) _ r h; exact this
        · split at h
          · cases h
          · have := lineGo_nums ls nb f (ws.drop 1) _ r h; exact this
theorem placesQ_no (p : RP) : ∀ (f : B) (_ : ∀ c ∈ f, isPl c = false) (ws : List B), p.placesQ f ws = []
  | [], _, _ => rfl
  | c :: f, h, ws => by rw [RP.placesQ, h c (List.mem_cons_self ..)]; exact placesQ_no p f (fun x hx => h x (List.mem_cons_of_mem _ hx)) _
theorem placesQ_at (p : RP) (C : B) (hC : ∀ c ∈ C, isPl c = false) : ∀ (A : B) (_ : ∀ c ∈ A, isPl c = true) (ws : List B), (p.placesQ (A ++ C) ws).length = A.length ∧ ∀ j, j < A.length → (p.placesQ (A ++ C) ws).getD j (0, 0) = p.plQ (word ws j)
  | [], _, ws => by rw [List.nil_append, placesQ_no p C hC]; exact ⟨rfl, fun j hj => absurd hj (Nat.not_lt_zero _)⟩
  | c :: A, h, ws => by
    obtain ⟨h1, h2⟩ := placesQ_at p C hC A (fun x hx => h x (List.mem_cons_of_mem _ hx)) (ws.drop 1)
    rw [List.cons_append, RP.placesQ, h c (List.mem_cons_self ..), if_pos rfl]
    refine ⟨by rw [List.length_cons, h1]; rfl, fun j hj => ?_⟩
    cases j with
    | zero => rfl
    | succ j => rw [List.getD_cons_succ, h2 j (by simpa using hj), word_drop]
theorem wants_split : ∀ op : Fin 23, (∀ c ∈ (wantsOf op.val).takeWhile isPl, isPl c = true) ∧ (∀ c ∈ (wantsOf op.val).dropWhile isPl, isPl c = false) := by decide
structure Lk (p : RP) (ws : List B) (l : QLine) : Prop where
  op : word ws 0 = opWord l.op
  lo : 2 ≤ l.op
  hi : l.op < 23
  plen : l.places.length = ((wantsOf l.op).takeWhile isPl).length
  pl : ∀ j, j < l.places.length → plOf l j = p.plQ (word ws (j + 1)) ∧ 0 ≤ p.find (localOf (word ws (j + 1))) ∧ isPlace (word ws (j + 1)) = true
  nm : l.op = 2 → l.number = valW (word ws 2)
  fl : l.op = 17 ∨ l.op = 21 → l.flag = valW (word ws 1)
  vl : l.op = 17 → (l.number == 1) = (word ws 2 == [49])
  n1 : l.op = 18 → l.next.getD 0 0 = (valW (word ws 1)).toNat
  n2 : l.op = 19 ∨ l.op = 20 ∨ l.op = 21 → l.next.getD 0 0 = (valW (word ws 2)).toNat ∧ l.next.getD 1 0 = (valW (word ws 3)).toNat
theorem formed_at : ∀ (f : B) (ws : List B) (k : Nat) (hk : k < f.length), formedGo f ws = true → formedP (word ws k) f[k] = true
  | c :: f, ws, 0, _, h => by rw [formedGo, Bool.and_eq_true] at h; exact h.1
  | c :: f, ws, k + 1, hk, h => by
    rw [formedGo, Bool.and_eq_true] at h
    have := formed_at f (ws.drop 1) k (by simpa using hk) h.2
    rwa [word_drop] at this
theorem digits_flag {w : B} (h : formedP w 102 = true) : (digitsP w).getD 0 = valW w := by
  have h1 : (match digitsP w with | some n => decide (n < 50) | none => false) = true := h
  have h2 := digitsP_eq w
  unfold valW
  cases hn : number w with
  | none => rw [hn] at h2; simp only at h2; rw [h2]
  | some n =>
    rw [hn] at h2
    simp only at h2
    split at h2
    · rw [h2]
    · rw [h2] at h1; cases h1
theorem lk_of {p : RP} (H : Pre p) {i : Nat} (hi : i < p.lines.length) (hp : p.plain i = true) (hn : p.names i = true) : Lk p (p.line i) (p.qline i) := by
  obtain ⟨op, ho, hl, h2, hop, -, hpl, hnx, hf, hb, hng⟩ := qline_parts H hi hp hn
  have hs : p.sent i = (op, (p.line i).drop 1) := by rw [RP.sent, ho]; rfl
  have hsome := line_names H hi hp
  rw [hn] at hsome
  obtain ⟨l, hlp⟩ := Option.isSome_iff_exists.mp hsome
  have hq : p.qline i = { l with num := i } := by rw [RP.qline, hlp]; rfl
  rw [hs, lineP] at hlp
  obtain ⟨hnum, hflag⟩ := lineGo_nums _ _ _ _ _ _ hlp
  have hnum' : (p.qline i).number = numQ (wantsOf op) ((p.line i).drop 1) 0 := by rw [hq]; exact hnum
  have hflag' : (p.qline i).flag = flagQ (wantsOf op) ((p.line i).drop 1) 0 := by rw [hq]; exact hflag
  obtain ⟨s1, s2⟩ := wants_split ⟨op, hl⟩
  have hpa := placesQ_at p _ s2 _ s1 ((p.line i).drop 1)
  simp only at hpa
  rw [List.takeWhile_append_dropWhile] at hpa
  have W : ∀ k, word ((p.line i).drop 1) k = word (p.line i) (k + 1) := word_drop _
  refine ⟨by rw [hop]; exact (opIdx_word ho).2, by rw [hop]; exact h2, by rw [hop]; exact hl, by rw [hpl, hop]; exact hpa.1, ?_, ?_, ?_, ?_, ?_, ?_⟩
  · intro j hj
    rw [hpl, hpa.1] at hj
    have hjl : j < (wantsOf op).length := Nat.lt_of_lt_of_le hj (List.takeWhile_sublist _).length_le
    have hc : isPl (wantsOf op)[j] = true := by
      have e : ((wantsOf op).takeWhile isPl)[j] = (wantsOf op)[j] := (List.takeWhile_prefix isPl).getElem hj
      rw [← e]; exact s1 _ (List.getElem_mem hj)
    have hform := formed_at _ _ j hjl hf
    refine ⟨?_, ?_, ?_⟩
    · rw [plOf, hpl, hpa.2 j hj, W]
    · have hlet : ¬ word (p.line i) 0 = wLet := by
        simp only [RP.plain, isLet, Bool.and_eq_true, Bool.not_eq_true', beq_eq_false_iff_ne, ne_eq] at hp; exact hp.1
      have key : ∀ op : Fin 23, ∀ j : Fin 3, j.val < (wantsOf op.val).length → isPl ((wantsOf op.val).getD j.val 0) = true → j.val < (behindOf op.val).length ∧ (behindOf op.val).getD j.val 0 ∈ [(105 : UInt8), 112, 109, 111, 100] := by decide
      have h3 : ∀ op : Fin 23, (wantsOf op.val).length ≤ 3 := by decide
      have hk := key ⟨op, hl⟩ ⟨j, Nat.lt_of_lt_of_le hjl (h3 ⟨op, hl⟩)⟩ hjl (by rw [List.getD_eq_getElem?_getD, List.getElem?_eq_getElem hjl]; exact hc)
      have hk1 : j < (behind (word (p.line i) 0) p.raw).1.length := by rw [hb]; exact hk.1
      refine RP.names_find hn hlet j hk1 ?_
      have e : (behind (word (p.line i) 0) p.raw).1[j] = (behindOf op).getD j 0 := by
        rw [List.getD_eq_getElem?_getD, ← hb, List.getElem?_eq_getElem hk1]; rfl
      rw [e]; exact hk.2
    · have := formed_place hc hform
      rwa [W] at this
  · intro e
    rw [hop] at e; subst e
    rw [hnum']
    show valW (word (((p.line i).drop 1).drop 1) 0) = _
    rw [word_drop, W]
  · intro e
    rw [hop] at e
    rw [hflag']
    rcases e with e | e <;> subst e
    · show (digitsP (word ((p.line i).drop 1) 0)).getD 0 = _
      rw [digits_flag (formed_at _ _ 0 (by decide) hf), W]
    · show (digitsP (word ((p.line i).drop 1) 0)).getD 0 = _
      rw [digits_flag (formed_at _ _ 0 (by decide) hf), W]
  · intro e
    rw [hop] at e; subst e
    rw [hnum']
    have h1 := formed_at _ _ 1 (by decide) hf
    rw [W] at h1
    have h3 : (word (p.line i) 2 == [48] || word (p.line i) 2 == [49]) = true := h1
    show (valW (word (((p.line i).drop 1).drop 1) 0) == 1) = _
    rw [word_drop, W]
    rw [Bool.or_eq_true, beq_iff_eq, beq_iff_eq] at h3
    rcases h3 with h3 | h3 <;> rw [show word (p.line i) (1 + 1) = word (p.line i) 2 from rfl, h3] <;> decide
  · intro e
    rw [hop] at e; subst e
    rw [hnx]
    show ((digitsP (word ((p.line i).drop 1) 0)).getD 0).toNat = _
    rw [digits_number (formed_at _ _ 0 (by decide) hf), W]; rfl
  · intro e
    rw [hop] at e
    rw [hnx]
    have hA : ∀ f : B, wantsOf op = f → (∃ c, f = [c, 98, 98] ∧ ¬ c = 98) → (nextQ (wantsOf op) ((p.line i).drop 1)).getD 0 0 = (valW (word (p.line i) 2)).toNat ∧ (nextQ (wantsOf op) ((p.line i).drop 1)).getD 1 0 = (valW (word (p.line i) 3)).toNat := by
      rintro f hfe ⟨c, rfl, hc⟩
      rw [hfe] at hf ⊢
      have h1 := formed_at _ _ 1 (by simp) hf
      have h2 := formed_at _ _ 2 (by simp) hf
      rw [W] at h1 h2
      rw [nextQ, if_neg hc, nextQ, if_pos rfl, nextQ, if_pos rfl, nextQ]
      simp only [List.getD_cons_zero, List.getD_cons_succ, word_drop]
      exact ⟨by rw [digits_number h1]; rfl, by rw [digits_number h2]; rfl⟩
    rcases e with e | e | e <;> subst e
    · exact hA _ rfl ⟨105, rfl, by decide⟩
    · exact hA _ rfl ⟨111, rfl, by decide⟩
    · exact hA _ rfl ⟨102, rfl, by decide⟩

/-- the lines from one on, up to the next block -/
def tailP (p : RP) (at' : Nat) : List QLine := ((List.range' at' (p.lines.length - at')).takeWhile p.plain).map p.qline
section
variable {text : B} {raw : Bool} {p : RP} {q : QP}
theorem tail_cons {i : Nat} (h : p.body i) : tailP p i = p.qline i :: tailP p (i + 1) := by
  have hp : p.plain i = true := plain_iff.mpr h.2
  have h1 := h.1
  unfold tailP
  rw [show p.lines.length - i = (p.lines.length - (i + 1)) + 1 by omega, List.range'_succ, List.takeWhile_cons, if_pos hp]
  rfl
theorem cnt_up (p : RP) (i : Nat) : ∀ d, p.cnt i ≤ p.cnt (i + d)
  | 0 => Nat.le_refl _
  | d + 1 => by have := cnt_up p i d; rw [← Nat.add_assoc, p.cnt_succ]; omega
theorem filt_nil (p : RP) (j : Nat) : ∀ (n k : Nat), j + 1 < p.cnt k → ((List.range' k n).filter p.plain).filter (fun i => p.cnt i == j + 1) = []
  | 0, _, _ => rfl
  | n + 1, k, h => by
    rw [List.range'_succ]
    have ih := filt_nil p j n (k + 1) (by have := cnt_up p k 1; omega)
    by_cases hp : p.plain k = true
    · rw [List.filter_cons, if_pos hp, List.filter_cons, if_neg (by simp; omega)]; exact ih
    · rw [List.filter_cons, if_neg hp]; exact ih
theorem filt_lo (p : RP) (j : Nat) : ∀ (n k : Nat), p.cnt (k + n) ≤ j + 1 → (∀ i, k ≤ i → i < k + n → p.cnt i = j + 1 → p.plain i = false) → ((List.range' k n).filter p.plain).filter (fun i => p.cnt i == j + 1) = []
  | 0, _, _, _ => rfl
  | n + 1, k, h, h2 => by
    rw [List.range'_succ]
    have ih := filt_lo p j n (k + 1) (by rw [show k + 1 + n = k + (n + 1) by omega]; exact h) (fun i h3 h4 => h2 i (by omega) (by omega))
    by_cases hp : p.plain k = true
    · rw [List.filter_cons, if_pos hp, List.filter_cons, if_neg ?_]
      · exact ih
      · intro e
        have := h2 k (Nat.le_refl _) (by omega) (by simpa using e)
        rw [hp] at this; cases this
    · rw [List.filter_cons, if_neg hp]; exact ih
theorem filt_take (H : ReadOk text raw p) (j : Nat) : ∀ (n k : Nat), k + n = p.lines.length → p.cnt k = j + 1 → ((List.range' k n).filter p.plain).filter (fun i => p.cnt i == j + 1) = (List.range' k n).takeWhile p.plain
  | 0, _, _, _ => rfl
  | n + 1, k, h, hc => by
    rw [List.range'_succ, List.takeWhile_cons]
    by_cases hp : p.plain k = true
    · have hB := (plain_iff.mp hp).2
      have hc' : p.cnt (k + 1) = j + 1 := by rw [p.cnt_succ, hB]; simpa using hc
      rw [List.filter_cons, if_pos hp, List.filter_cons, if_pos (by simp [hc]), if_pos hp, filt_take H j n (k + 1) (by omega) hc']
    · rw [if_neg hp, List.filter_cons, if_neg hp]
      have hl := H.not_let (i := k) (by omega) (by omega)
      have hB : isBlock (p.line k) = true := by
        cases hb : isBlock (p.line k) with
        | true => rfl
        | false => exact absurd (plain_iff.mpr ⟨hl, hb⟩) hp
      exact filt_nil p j n (k + 1) (by rw [p.cnt_succ, hB]; simp; omega)
theorem block_tail (h : Both text raw p q) {j : Nat} (hj : j < p.blocks.length) : q.blocks.getD j [] = tailP p (p.blocks.getD j 0 + 1) := by
  rw [h.block j, tailP, idxP]
  obtain ⟨h1, h2, h3⟩ := RP.blocks_mem h.ok.pre.blocks hj
  congr 1
  generalize p.blocks.getD j 0 = b at *
  have hr : List.range p.lines.length = List.range' 0 (b + 1) ++ List.range' (b + 1) (p.lines.length - (b + 1)) := by
    have := List.range'_append_1 (s := 0) (m := b + 1) (n := p.lines.length - (b + 1))
    rw [Nat.zero_add] at this
    rw [this, List.range_eq_range']
    congr 1
    omega
  have hc : p.cnt (b + 1) = j + 1 := by rw [p.cnt_succ, h2, h3]; rfl
  rw [hr, List.filter_append, List.filter_append, filt_take h.ok j _ (b + 1) (by omega) hc]
  have : ((List.range' 0 (b + 1)).filter p.plain).filter (fun i => p.cnt i == j + 1) = [] := by
    refine filt_lo p j (b + 1) 0 (by rw [Nat.zero_add, hc]; exact Nat.le_refl _) (fun i _ hi e => ?_)
    have := cnt_up p i (b - i)
    rw [show i + (b - i) = b by omega] at this
    omega
  rw [this, List.nil_append]
end
end Go.Proofs.YtmlgajhhnojdjaaGreatDoor.Sim
