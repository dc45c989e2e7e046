/- Which lines may stand where, as the project's reader follows it. -/
import Derived.Test.YtmlgajhhnojdjaaGreatDoorPAD
import Derived.Deep.QuietTactic
import Derived.BigQuiet
import Derived.Deep.DeepMust
namespace Go.Proofs.YtmlgajhhnojdjaaGreatDoor.PrjK
open Go Go.RowKit Go.Proofs.YtmlgajhhnojdjaaGreatDoor.Spec Go.Proofs.YtmlgajhhnojdjaaGreatDoor.Aux Go.Proofs.YtmlgajhhnojdjaaGreatDoor.PrjF Go.Proofs.YtmlgajhhnojdjaaGreatDoor.PrjG Go.Proofs.YtmlgajhhnojdjaaGreatDoor.PrjH Go.Proofs.YtmlgajhhnojdjaaGreatDoor.PrjI Go.Proofs.YtmlgajhhnojdjaaGreatDoor.PrjJ

/-- of what was there nothing but block b has turned -/
structure Turn (b : Nat) (w w' : World) : Prop where
  os : w'.os = w.os
  tape : w'.tape = w.tape
  output : w'.output = w.output
  size : w.heap.size ≤ w'.heap.size
  block : ∀ k, k < w.heap.size → k ≠ b → w'.heap[k]? = w.heap[k]?
theorem Turn.refl (b : Nat) (w : World) : Turn b w w := ⟨rfl, rfl, rfl, Nat.le_refl _, fun _ _ _ => rfl⟩
theorem Turn.setCell {b : Nat} {w w' : World} (h : Turn b w w') (o : Nat) (v : Value) : Turn b w (w'.setCell ⟨b, o, none⟩ v) :=
  ⟨h.os, h.tape, h.output, by simpa using h.size, fun k hk hk' => by rw [Below.heap_setCell _ _ _ _ (by show k ≠ b; exact hk')]; exact h.block k hk hk'⟩
theorem Turn.on {b : Nat} {w w1 w2 : World} (h : Turn b w w1) (hb : Below w1.heap.size w1 w2) : Turn b w w2 :=
  ⟨hb.os.trans h.os, hb.tape.trans h.tape, hb.output.trans h.output, Nat.le_trans h.size hb.size, fun k hk hk' => (hb.block k (Nat.lt_of_lt_of_le hk h.size)).trans (h.block k hk hk')⟩
theorem Turn.drewN {b : Nat} {w w1 : World} (h : Turn b w w1) (n : Nat) : Turn b w (w1.drewN n) := h.on (below_drewN (Below.refl _ _) n)
theorem Turn.trans {b : Nat} {w w1 w2 : World} (h : Turn b w w1) (hb : Turn b w1 w2) : Turn b w w2 :=
  ⟨hb.os.trans h.os, hb.tape.trans h.tape, hb.output.trans h.output, Nat.le_trans h.size hb.size, fun k hk hk' => (hb.block k (Nat.lt_of_lt_of_le hk h.size) hk').trans (h.block k hk hk')⟩
theorem Turn.of {b : Nat} {w w1 : World} (h : Below w.heap.size w w1) : Turn b w w1 := (Turn.refl b w).on h
theorem Turn.below {b B : Nat} {w w' : World} (h : Turn b w w') (hB : B ≤ b) (hb : B ≤ w.heap.size) : Below B w w' := ⟨h.os, h.tape, h.output, h.size, fun k hk => h.block k (by omega) (by omega)⟩
/-- the order in memory -/
def OrdAt (w : World) (b : Nat) (raw : Bool) (ln mb : Nat) (o : OrdP) : Prop :=
  w.heap[b]? = some (.cells #[.bool raw, .int .i64 ln, .int .i64 mb, .int .i64 o.sec, .int .i64 o.locals, .int .i64 o.blocks] 238 (0, 0))
theorem OrdAt.facts {w : World} {b : Nat} {raw : Bool} {ln mb : Nat} {o : OrdP} (h : OrdAt w b raw ln mb o) :
    w.cell? ⟨b, 0, none⟩ = some (.bool raw) ∧ w.cell? ⟨b, 1, none⟩ = some (.int .i64 ln) ∧ w.cell? ⟨b, 2, none⟩ = some (.int .i64 mb) ∧ w.cell? ⟨b, 3, none⟩ = some (.int .i64 o.sec) ∧ w.cell? ⟨b, 4, none⟩ = some (.int .i64 o.locals) ∧ w.cell? ⟨b, 5, none⟩ = some (.int .i64 o.blocks) ∧
    w.frozen? ⟨b, 3, none⟩ = false ∧ w.frozen? ⟨b, 4, none⟩ = false ∧ w.frozen? ⟨b, 5, none⟩ = false := by
  unfold OrdAt at h
  exact ⟨by rw [cell_of_heap h]; rfl, by rw [cell_of_heap h]; rfl, by rw [cell_of_heap h]; rfl, by rw [cell_of_heap h]; rfl, by rw [cell_of_heap h]; rfl, by rw [cell_of_heap h]; rfl, frozen_of_heap h 3, frozen_of_heap h 4, frozen_of_heap h 5⟩
theorem OrdAt.below {w w' : World} {b : Nat} {raw : Bool} {ln mb : Nat} {o : OrdP} (h : OrdAt w b raw ln mb o) {B : Nat} (hb : Below B w w') (hB : b < B) : OrdAt w' b raw ln mb o := by
  unfold OrdAt; rw [hb.block b hB]; exact h
theorem OrdAt.drewN {w : World} {b : Nat} {raw : Bool} {ln mb : Nat} {o : OrdP} (h : OrdAt w b raw ln mb o) (n : Nat) : OrdAt (w.drewN n) b raw ln mb o := h
theorem OrdAt.set {w : World} {b : Nat} {raw : Bool} {ln mb : Nat} {o : OrdP} (h : OrdAt w b raw ln mb o) :
    (∀ n : Nat, OrdAt (w.setCell ⟨b, 3, none⟩ (.int .i64 n)) b raw ln mb ⟨n, o.locals, o.blocks⟩) ∧ (∀ n : Nat, OrdAt (w.setCell ⟨b, 4, none⟩ (.int .i64 n)) b raw ln mb ⟨o.sec, n, o.blocks⟩) ∧ (∀ n : Nat, OrdAt (w.setCell ⟨b, 5, none⟩ (.int .i64 n)) b raw ln mb ⟨o.sec, o.locals, n⟩) := by
  unfold OrdAt at h ⊢
  exact ⟨fun n => by rw [Go.Proofs.YtmlgajhhnojdjaaGreatDoor.Aux.heap_setCell_same h 3]; rfl, fun n => by rw [Go.Proofs.YtmlgajhhnojdjaaGreatDoor.Aux.heap_setCell_same h 4]; rfl, fun n => by rw [Go.Proofs.YtmlgajhhnojdjaaGreatDoor.Aux.heap_setCell_same h 5]; rfl⟩
theorem has_any (raw : Bool) (ln mb op : Nat) (w : World) :
    Calls Tryz.prog 198 #[.agg #[.bool raw, .int .i64 ln, .int .i64 mb], .int .i64 op] w fun e w' => e = .returned (.bool (hasP raw op)) ∧ Below w.heap.size w w' := by
  have hb : Below w.heap.size w (w.alloc (.cells #[.bool raw, .int .i64 ln, .int .i64 mb] 130)) := (Below.refl _ _).alloc (Nat.le_refl _) _
  have hx : op = 15 ∨ op = 16 ∨ op = 17 ∨ op = 21 ∨ (¬ op = 15 ∧ ¬ op = 16 ∧ ¬ op = 17 ∧ ¬ op = 21) := by omega
  rcases hx with rfl | rfl | rfl | rfl | ⟨h1, h2, h3, h4⟩
  iterate 4
    · go_enter Tryz.func198, Tryz.ntmps198
      go_wp2
      go_ret
      exact ⟨rfl, hb⟩
  · have hh : hasP raw op = true := by simp [hasP, h1, h2, h3, h4]
    have b1 : ((op : Int) == 15) = false := by rw [beq_eq_false_iff_ne]; omega
    have b2 : ((op : Int) == 16) = false := by rw [beq_eq_false_iff_ne]; omega
    have b3 : ((op : Int) == 17) = false := by rw [beq_eq_false_iff_ne]; omega
    have b4 : ((op : Int) == 21) = false := by rw [beq_eq_false_iff_ne]; omega
    rw [hh]
    clear h1 h2 h3 h4 hh
    go_enter Tryz.func198, Tryz.ntmps198
    go_wp2
    go_ret
    exact ⟨rfl, hb⟩
theorem term_any (op : Nat) (w : World) :
    Calls Tryz.prog 199 #[.int .i64 op] w fun e w' => e = .returned (.bool (decide (18 ≤ op))) ∧ w' = w := by
  by_cases h : 18 ≤ op
  all_goals
    go_enter Tryz.func199, Tryz.ntmps199
    go_wp2
    go_ret
    exact ⟨by first | (simp [h]; done) | (simp [h]; omega), rfl⟩
/-- what admits hands back -/
def AdmitsPost (raw : Bool) (ln mb b op : Nat) (o : OrdP) (w : World) (e : Ending) (w' : World) : Prop :=
  e = .returned (.bool (admitsP raw o op).2) ∧ OrdAt w' b raw ln mb (admitsP raw o op).1 ∧ Turn b w w'
set_option maxRecDepth 20000 in
theorem admits_any (raw : Bool) (ln b op : Nat) (o : OrdP) (w : World) (h : OrdAt w b raw ln (if raw then 2000 else 20) o) (hop : op < 23) (hl : o.locals ≤ 100000) (hbk : o.blocks ≤ 100000) (hlt : b < w.heap.size) :
    Calls Tryz.prog 164 #[.pointer (some ⟨b, 0, none⟩), .int .i64 op] w (AdmitsPost raw ln (if raw then 2000 else 20) b op o w) := by
  have KH := fun w' => has_any raw ln (if raw then 2000 else 20) op w'
  obtain ⟨c0, c1, c2, c3, c4, c5, f3, f4, f5⟩ := h.facts
  by_cases hh : hasP raw op = false
  · have e : admitsP raw o op = (o, false) := by rw [admitsP, if_pos hh]
    have P : ∀ w', Below w.heap.size w w' → AdmitsPost raw ln (if raw then 2000 else 20) b op o w (.returned (.bool false)) w' := fun w' hb => ⟨by rw [e], by rw [e]; exact h.below hb hlt, Turn.of hb⟩
    rw [hh] at KH
    clear e hh
    generalize (if raw then 2000 else 20 : Nat) = mb at *
    go_enter Tryz.func164, Tryz.ntmps164
    go_wp2_with (go_at_call 198; refine (KH _).mono ?_; rintro e w1 ⟨rfl, hb⟩)
    go_ret
    exact P _ hb
  · rw [Bool.not_eq_false] at hh
    have e0 : admitsP raw o op = if op = 0 then (⟨o.sec, o.locals + 1, o.blocks⟩, o.sec == 0 && decide (o.locals + 1 ≤ 12))
        else if op = 1 then (⟨1, o.locals, o.blocks + 1⟩, decide (0 < o.locals) && !(o.sec == 1) && decide (o.blocks + 1 ≤ if raw then 2000 else 20))
        else if ¬ o.sec = 1 then (o, false) else if 18 ≤ op then (⟨2, o.locals, o.blocks⟩, true) else (o, true) := by
      rw [admitsP, if_neg (by simp [hh])]
    rw [hh] at KH
    clear hh
    by_cases h0 : op = 0
    · rw [if_pos h0] at e0
      have hop0 : ((op : Int) == 0) = true := by simp [h0]
      have P : ∀ (bl : Bool) w', bl = (o.sec == 0 && decide (o.locals + 1 ≤ 12)) → OrdAt w' b raw ln (if raw then 2000 else 20) ⟨o.sec, o.locals + 1, o.blocks⟩ → Turn b w w' → AdmitsPost raw ln (if raw then 2000 else 20) b op o w (.returned (.bool bl)) w' := fun bl w' hbl ho hb => ⟨by rw [e0, hbl], by rw [e0]; exact ho, hb⟩
      clear e0 h0
      generalize (if raw then 2000 else 20 : Nat) = mb at *
      by_cases hs0 : o.sec = 0
      · have hs : ((o.sec : Int) == 0) = true := by simp [hs0]
        by_cases hl12 : o.locals + 1 ≤ 12
        all_goals
          go_enter Tryz.func164, Tryz.ntmps164
          go_wp2_with (go_at_call 198; refine (KH _).mono ?_; rintro e w1 ⟨rfl, hb⟩; have h1 := h.below hb hlt; obtain ⟨d0, d1, d2, d3, d4, d5, g3, g4, g5⟩ := h1.facts)
          go_ret
          exact P _ _ (by first | (simp [hs0, hl12]; done) | (simp [hs0, hl12]; omega)) (h1.set.2.1 (o.locals + 1)) ((Turn.of hb).setCell 4 _)
      · have hs : ((o.sec : Int) == 0) = false := by rw [beq_eq_false_iff_ne]; omega
        go_enter Tryz.func164, Tryz.ntmps164
        go_wp2_with (go_at_call 198; refine (KH _).mono ?_; rintro e w1 ⟨rfl, hb⟩; have h1 := h.below hb hlt; obtain ⟨d0, d1, d2, d3, d4, d5, g3, g4, g5⟩ := h1.facts)
        go_ret
        exact P _ _ (by first | (simp [hs0]; done) | (simp [hs0]; omega)) (h1.set.2.1 (o.locals + 1)) ((Turn.of hb).setCell 4 _)
    · rw [if_neg h0] at e0
      have hop0 : ((op : Int) == 0) = false := by rw [beq_eq_false_iff_ne]; omega
      by_cases h1 : op = 1
      · rw [if_pos h1] at e0
        have hop1 : ((op : Int) == 1) = true := by simp [h1]
        have P : ∀ (bl : Bool) w', bl = (decide (0 < o.locals) && !(o.sec == 1) && decide (o.blocks + 1 ≤ if raw then 2000 else 20)) → OrdAt w' b raw ln (if raw then 2000 else 20) ⟨1, o.locals, o.blocks + 1⟩ → Turn b w w' → AdmitsPost raw ln (if raw then 2000 else 20) b op o w (.returned (.bool bl)) w' := fun bl w' hbl ho hb => ⟨by rw [e0, hbl], by rw [e0]; exact ho, hb⟩
        clear e0 h0 h1
        generalize (if raw then 2000 else 20 : Nat) = mb at *
        by_cases hl0 : 0 < o.locals
        · by_cases hs1 : o.sec = 1
          · have hs : ((o.sec : Int) == 1) = true := by simp [hs1]
            go_enter Tryz.func164, Tryz.ntmps164
            go_wp2_with (go_at_call 198; refine (KH _).mono ?_; rintro e w1 ⟨rfl, hb⟩; have h1 := h.below hb hlt; obtain ⟨d0, d1, d2, d3, d4, d5, g3, g4, g5⟩ := h1.facts)
            go_quiet (fail)
            go_wp2
            go_ret
            exact P _ _ (by first | (simp [hs1]; done) | (simp [hs1]; omega)) (((h1.set.1 1).set.2.2 (o.blocks + 1)).drewN nq) ((((Turn.of hb).setCell 3 _).setCell 5 _).drewN nq)
          · have hs : ((o.sec : Int) == 1) = false := by rw [beq_eq_false_iff_ne]; omega
            have hsn : ((o.sec : Int) != 1) = true := by rw [bne, hs]; rfl
            by_cases hmb : o.blocks + 1 ≤ mb
            all_goals
              go_enter Tryz.func164, Tryz.ntmps164
              go_wp2_with (go_at_call 198; refine (KH _).mono ?_; rintro e w1 ⟨rfl, hb⟩; have h1 := h.below hb hlt; obtain ⟨d0, d1, d2, d3, d4, d5, g3, g4, g5⟩ := h1.facts)
              have hO : OrdAt ((w1.setCell ⟨b, 3, none⟩ (.int .i64 1)).setCell ⟨b, 5, none⟩ (.int .i64 ((o.blocks : Int) + 1))) b raw ln mb ⟨1, o.locals, o.blocks + 1⟩ := (h1.set.1 1).set.2.2 (o.blocks + 1)
              have hT : Turn b w ((w1.setCell ⟨b, 3, none⟩ (.int .i64 1)).setCell ⟨b, 5, none⟩ (.int .i64 ((o.blocks : Int) + 1))) := ((Turn.of hb).setCell 3 _).setCell 5 _
              generalize ((w1.setCell ⟨b, 3, none⟩ (.int .i64 1)).setCell ⟨b, 5, none⟩ (.int .i64 ((o.blocks : Int) + 1))) = W at hO hT ⊢
              clear d0 d1 d2 d3 d4 d5 g3 g4 g5 c0 c1 c2 c3 c4 c5 f3 f4 f5
              obtain ⟨d0, d1, d2, d3, d4, d5, g3, g4, g5⟩ := hO.facts
              simp only [Int.natCast_add, Int.cast_ofNat_Int] at d5
              go_quiet (fail)
              go_wp2
              go_ret
              exact P _ _ (by rw [show (o.sec == 1) = false by simpa using hs1, decide_eq_true hl0, Bool.eq_iff_iff]; simp only [Bool.true_and, Bool.not_false, decide_eq_true_eq]; omega) (hO.drewN nq) (hT.drewN nq)
        · go_enter Tryz.func164, Tryz.ntmps164
          go_wp2_with (go_at_call 198; refine (KH _).mono ?_; rintro e w1 ⟨rfl, hb⟩; have h1 := h.below hb hlt; obtain ⟨d0, d1, d2, d3, d4, d5, g3, g4, g5⟩ := h1.facts)
          go_quiet (fail)
          go_wp2
          go_ret
          exact P _ _ (by first | (simp [hl0]; done) | (simp [hl0]; omega)) (((h1.set.1 1).set.2.2 (o.blocks + 1)).drewN nq) ((((Turn.of hb).setCell 3 _).setCell 5 _).drewN nq)
      · rw [if_neg h1] at e0
        have hop1 : ((op : Int) == 1) = false := by rw [beq_eq_false_iff_ne]; omega
        by_cases hs1 : o.sec = 1
        · rw [if_neg (by simp [hs1])] at e0
          have hs : ((o.sec : Int) == 1) = true := by simp [hs1]
          have KT := fun w' => term_any op w'
          by_cases h18 : 18 ≤ op
          · rw [if_pos h18] at e0
            have P : ∀ w', OrdAt w' b raw ln (if raw then 2000 else 20) ⟨2, o.locals, o.blocks⟩ → Turn b w w' → AdmitsPost raw ln (if raw then 2000 else 20) b op o w (.returned (.bool true)) w' := fun w' ho hb => ⟨by rw [e0], by rw [e0]; exact ho, hb⟩
            have hd : decide (18 ≤ op) = true := by simp [h18]
            rw [hd] at KT
            clear e0 h0 h1 hs1 hd
            generalize (if raw then 2000 else 20 : Nat) = mb at *
            go_enter Tryz.func164, Tryz.ntmps164
            go_wp2_with (first | (go_at_call 198; refine (KH _).mono ?_; rintro e w1 ⟨rfl, hb⟩; have h1 := h.below hb hlt; obtain ⟨d0, d1, d2, d3, d4, d5, g3, g4, g5⟩ := h1.facts) | (go_at_call 199; refine (KT _).mono ?_; rintro e w2 ⟨rfl, rfl⟩))
            go_ret
            exact P _ (h1.set.1 2) ((Turn.of hb).setCell 3 _)
          · rw [if_neg h18] at e0
            have P : ∀ w', OrdAt w' b raw ln (if raw then 2000 else 20) o → Turn b w w' → AdmitsPost raw ln (if raw then 2000 else 20) b op o w (.returned (.bool true)) w' := fun w' ho hb => ⟨by rw [e0], by rw [e0]; exact ho, hb⟩
            have hd : decide (18 ≤ op) = false := by simp; omega
            rw [hd] at KT
            clear e0 h0 h1 hs1 hd
            generalize (if raw then 2000 else 20 : Nat) = mb at *
            go_enter Tryz.func164, Tryz.ntmps164
            go_wp2_with (first | (go_at_call 198; refine (KH _).mono ?_; rintro e w1 ⟨rfl, hb⟩; have h1 := h.below hb hlt; obtain ⟨d0, d1, d2, d3, d4, d5, g3, g4, g5⟩ := h1.facts) | (go_at_call 199; refine (KT _).mono ?_; rintro e w2 ⟨rfl, rfl⟩))
            go_ret
            exact P _ h1 (Turn.of hb)
        · rw [if_pos hs1] at e0
          have hs : ((o.sec : Int) == 1) = false := by rw [beq_eq_false_iff_ne]; omega
          have P : ∀ w', OrdAt w' b raw ln (if raw then 2000 else 20) o → Turn b w w' → AdmitsPost raw ln (if raw then 2000 else 20) b op o w (.returned (.bool false)) w' := fun w' ho hb => ⟨by rw [e0], by rw [e0]; exact ho, hb⟩
          clear e0 h0 h1 hs1
          generalize (if raw then 2000 else 20 : Nat) = mb at *
          go_enter Tryz.func164, Tryz.ntmps164
          go_wp2_with (go_at_call 198; refine (KH _).mono ?_; rintro e w1 ⟨rfl, hb⟩; have h1 := h.below hb hlt; obtain ⟨d0, d1, d2, d3, d4, d5, g3, g4, g5⟩ := h1.facts)
          go_ret
          exact P _ h1 (Turn.of hb)
theorem done_any (raw : Bool) (ln mb b : Nat) (o : OrdP) (w : World) (h : OrdAt w b raw ln mb o) :
    Calls Tryz.prog 165 #[.pointer (some ⟨b, 0, none⟩)] w fun e w' => e = .returned (.bool (decide (o.sec = 2))) ∧ w' = w := by
  obtain ⟨c0, c1, c2, c3, c4, c5, f3, f4, f5⟩ := h.facts
  go_enter Tryz.func165, Tryz.ntmps165
  go_wp2
  go_ret
  refine ⟨?_, rfl⟩
  rw [show (decide (o.sec = 2)) = ((o.sec : Int) == 2) from ?_]
  · rfl
  · rw [Bool.eq_iff_iff]; simp; omega
end Go.Proofs.YtmlgajhhnojdjaaGreatDoor.PrjK
/- Rows whose elements have several cells: one element appended, one element read; what a row holds is not turned by another type's row. -/
namespace Go.Proofs.YtmlgajhhnojdjaaGreatDoor.Aux
open Go Go.RowKit Go.Proofs.YtmlgajhhnojdjaaGreatDoor.Spec

section
variable {P : Program} {w : World} {ops : Array Oper} {rest : List Oper} {o : Oper} {a : Act} {Q : Exit → Act → World → Prop}
theorem append_blk (hgd : o.guard = none) (s x : Operand) (t : TypeId)
    (ho : o.op = .call { callee := .builtin .append, args := #[s, x], argTypes := #[t, t] })
    (base : Nat) (e : TypeId) (i : TypeInfo) (z : Value) (size bytes : Nat) (ht : P.underlying t = some (.slice e)) (hi : P.info? e = some i) (hz : i.zero = some z)
    (hsize : i.size = size) (hby : i.bytes = bytes) (hzs : z.cells.size = size) (hsz : 0 < size)
    (v : Value) (n : Nat) (xs : List Value) (hs : a.eval s = v) (hown : w.ownsRow base e size v n xs)
    (g0 : Nat) (us : List Value) (hx : a.eval x = .slice (some ⟨g0, 0, none⟩) 1 1) {e' : TypeId} {fr : Nat × Nat} (hblk : w.heap[g0]? = some (.cells us.toArray e' fr)) (hul : us.length = size) (h1 : ∀ u ∈ us, u.oneCell' = true)
    (hb1 : 1 ≤ bytes) (hbytes : (n + 1) * bytes ≤ 140737488355328) (hbase : base ≤ w.heap.size)
    (h : ∀ g cap w', w'.ownsRow base e size (.slice (some ⟨g, 0, none⟩) (n + 1) cap) (n + 1) (xs ++ us) → w.grownBy w' v.ownBlock → (v.ownBlock = some g ∨ g = w.heap.size) → g < w'.heap.size → wpList P ops Q rest (a.put o.dst (.slice (some ⟨g, 0, none⟩) (n + 1) cap)) w') : wpList P ops Q (o :: rest) a w := by
  refine wpList_append_lies _ hgd s x t ho base e i z size bytes ht hi hz hsize hby hzs hsz v n xs hs hown ⟨g0, 0, none⟩ 1 1 us hx (by omega) ?_ h1 (by decide) ?_ hbytes hbase w.heap.size rfl h
  · exact World.news_of_block hblk
  · have : n + 1 ≤ (n + 1) * bytes := Nat.le_mul_of_pos_right _ hb1
    unfold maxLen; omega
theorem step_blk {K : Act → World → Prop} {E : Prop} (hgd : o.guard = none) (s x : Operand) (t : TypeId)
    (ho : o.op = .call { callee := .builtin .append, args := #[s, x], argTypes := #[t, t] })
    (base : Nat) (e : TypeId) (i : TypeInfo) (z : Value) (size bytes : Nat) (ht : P.underlying t = some (.slice e)) (hi : P.info? e = some i) (hz : i.zero = some z)
    (hsize : i.size = size) (hby : i.bytes = bytes) (hzs : z.cells.size = size) (hsz : 0 < size)
    (v : Value) (n : Nat) (xs : List Value) (hs : a.eval s = v) (hown : w.ownsRow base e size v n xs)
    (g0 : Nat) (us : List Value) (hx : a.eval x = .slice (some ⟨g0, 0, none⟩) 1 1) {e' : TypeId} {fr : Nat × Nat} (hblk : w.heap[g0]? = some (.cells us.toArray e' fr)) (hul : us.length = size) (h1 : ∀ u ∈ us, u.oneCell' = true)
    (hb1 : 1 ≤ bytes) (hbytes : (n + 1) * bytes ≤ 140737488355328) (hbase : base ≤ w.heap.size)
    (h : ∀ g cap w', w'.ownsRow base e size (.slice (some ⟨g, 0, none⟩) (n + 1) cap) (n + 1) (xs ++ us) → w.grownBy w' v.ownBlock → (v.ownBlock = some g ∨ g = w.heap.size) → g < w'.heap.size → K (a.put o.dst (.slice (some ⟨g, 0, none⟩) (n + 1) cap)) w') :
    if Region.wanted o (yielded ops a.tmps) = true then Oper.wp P o a w K Q else E := by
  refine step_append_lies _ hgd s x t ho base e i z size bytes ht hi hz hsize hby hzs hsz v n xs hs hown ⟨g0, 0, none⟩ 1 1 us hx (by omega) ?_ h1 (by decide) ?_ hbytes hbase w.heap.size rfl h
  · exact World.news_of_block hblk
  · have : n + 1 ≤ (n + 1) * bytes := Nat.le_mul_of_pos_right _ hb1
    unfold maxLen; omega
end
/-- a row of elements of m cells each, cell by cell -/
theorem flat_get {α : Type} (f : α → List Value) (m : Nat) (hf : ∀ x, (f x).length = m) : ∀ (l : List α) (j c : Nat), c < m → (l.flatMap f)[j * m + c]? = (l[j]?).bind fun x => (f x)[c]?
  | [], j, c, _ => by simp
  | x :: l, 0, c, hc => by
    rw [List.flatMap_cons, Nat.zero_mul, Nat.zero_add, List.getElem?_append_left (by rw [hf]; exact hc)]; rfl
  | x :: l, j + 1, c, hc => by
    have e : (j + 1) * m + c = m + (j * m + c) := by rw [Nat.add_mul]; omega
    rw [List.flatMap_cons, e, List.getElem?_append_right (by rw [hf]; omega), hf, Nat.add_sub_cancel_left, flat_get f m hf l j c hc]; rfl
theorem flat_len {α : Type} (f : α → List Value) (m : Nat) (hf : ∀ x, (f x).length = m) : ∀ (l : List α), (l.flatMap f).length = l.length * m
  | [] => by simp
  | x :: l => by rw [List.flatMap_cons, List.length_append, hf, flat_len f m hf l, List.length_cons, Nat.add_mul]; omega
theorem own_cell {w : World} {base : Nat} {e : TypeId} {size : Nat} {v : Value} {n : Nat} {xs : List Value} (h : w.ownsRow base e size v n xs) (hn : 0 < n) :
    ∃ g cap, v = .slice (some ⟨g, 0, none⟩) n cap ∧ n ≤ cap ∧ g < w.heap.size ∧ ∀ j, j < n * size → w.cell? ⟨g, j, none⟩ = xs[j]? := by
  have hl := h.lt
  obtain ⟨h0, h⟩ := h
  rcases h with ⟨-, h⟩ | ⟨g, cap, cur, rfl, hb, hg, hc, hm, hs, ht⟩
  · omega
  · refine ⟨g, cap, rfl, hc, (hl g rfl).2, fun j hj => ?_⟩
    rw [cell_of_heap hg]
    have : (cur.toList.take (n * size))[j]? = cur[j]? := by
      rw [List.getElem?_take, if_pos hj]; simp
    rw [← this, ht]
theorem own_nil {w : World} {base : Nat} {e : TypeId} {size : Nat} {v : Value} {xs : List Value} (h : w.ownsRow base e size v 0 xs) : xs = [] := by
  have := h.1; simpa using this
end Go.Proofs.YtmlgajhhnojdjaaGreatDoor.Aux
/- Sentences in memory: what the project's reader makes of all lines, form by form. -/
namespace Go.Proofs.YtmlgajhhnojdjaaGreatDoor.PrjL
open Go Go.RowKit Go.Proofs.YtmlgajhhnojdjaaGreatDoor.Spec Go.Proofs.YtmlgajhhnojdjaaGreatDoor.Aux Go.Proofs.YtmlgajhhnojdjaaGreatDoor.PrjF Go.Proofs.YtmlgajhhnojdjaaGreatDoor.PrjG Go.Proofs.YtmlgajhhnojdjaaGreatDoor.PrjH Go.Proofs.YtmlgajhhnojdjaaGreatDoor.PrjI Go.Proofs.YtmlgajhhnojdjaaGreatDoor.PrjJ Go.Proofs.YtmlgajhhnojdjaaGreatDoor.PrjK

theorem admitsP_few (raw : Bool) (o : OrdP) (op : Nat) : (admitsP raw o op).1.locals ≤ o.locals + 1 ∧ (admitsP raw o op).1.blocks ≤ o.blocks + 1 := by
  unfold admitsP
  repeat (first | (split; (first | exact ⟨by simp, by simp⟩ | skip)) | exact ⟨by simp, by simp⟩)
/-- where the reader of lines stands behind k of them -/
structure Along (raw : Bool) (LS : List (List B)) (k : Nat) (done : List (Nat × List B)) (o : OrdP) : Prop where
  same : splitGo raw LS ⟨0, 0, 0⟩ 0 = (done ++ (splitGo raw (LS.drop k) o k).1, (splitGo raw (LS.drop k) o k).2)
  len : done.length = k
  sec : o.sec ≤ 2
  few : o.locals ≤ k ∧ o.blocks ≤ k
theorem Along.start (raw : Bool) (LS : List (List B)) : Along raw LS 0 [] ⟨0, 0, 0⟩ := ⟨rfl, rfl, by simp, by simp⟩
theorem Along.bad {raw : Bool} {LS : List (List B)} {k : Nat} {done : List (Nat × List B)} {o : OrdP} (h : Along raw LS k done o) (hk : k < LS.length) (hs : sentP LS[k] = none) : (splitGo raw LS ⟨0, 0, 0⟩ 0).2.2 = some k := by
  rw [h.same, List.drop_eq_getElem_cons hk, splitGo, hs]
theorem Along.out {raw : Bool} {LS : List (List B)} {k : Nat} {done : List (Nat × List B)} {o : OrdP} (h : Along raw LS k done o) (hk : k < LS.length) {x : Nat × List B} (hs : sentP LS[k] = some x) (ha : (admitsP raw o x.1).2 = false) : (splitGo raw LS ⟨0, 0, 0⟩ 0).2.2 = some k := by
  rw [h.same, List.drop_eq_getElem_cons hk, splitGo, hs]
  simp only
  rw [if_neg (by rw [ha]; simp)]
theorem Along.on {raw : Bool} {LS : List (List B)} {k : Nat} {done : List (Nat × List B)} {o : OrdP} (h : Along raw LS k done o) (hk : k < LS.length) {x : Nat × List B} (hs : sentP LS[k] = some x) (ha : (admitsP raw o x.1).2 = true) : Along raw LS (k + 1) (done ++ [x]) (admitsP raw o x.1).1 := by
  refine ⟨?_, by simp [h.len], admitsP_sec raw o x.1 h.sec, ?_⟩
  · rw [h.same, List.drop_eq_getElem_cons hk, splitGo, hs]
    simp only
    rw [if_pos ha]
    simp
  · have := admitsP_few raw o x.1
    have := h.few
    omega
theorem Along.whole {raw : Bool} {LS : List (List B)} {k : Nat} {done : List (Nat × List B)} {o : OrdP} (h : Along raw LS k done o) (hk : ¬ k < LS.length) : splitGo raw LS ⟨0, 0, 0⟩ 0 = (done, o, none) := by
  rw [h.same, List.drop_eq_nil_of_le (by omega), splitGo]; simp

/-- sentences in memory: a row of the call's own, each with its words -/
def sentCells (S : List (Nat × List B)) (vs : List Value) : List Value := (S.zip vs).flatMap fun x => [.int .i64 (x.1.1 : Nat), x.2]
structure SentsAt (z : Nat) (w : World) (v : Value) (S : List (Nat × List B)) (vs : List Value) : Prop where
  len : vs.length = S.length
  row : w.ownsRow z 240 2 v S.length (sentCells S vs)
  each : ∀ j, j < S.length → WordsAt w (vs.getD j undef) (S.getD j (0, [])).2
theorem SentsAt.nil (z : Nat) (w : World) : SentsAt z w (.slice none 0 0) [] [] := ⟨rfl, World.ownsRow_nil _ _ _ _, fun j hj => by simp at hj⟩
theorem SentsAt.below {z : Nat} {w w' : World} {v : Value} {S : List (Nat × List B)} {vs : List Value} (h : SentsAt z w v S vs) (hb : Below w.heap.size w w') : SentsAt z w' v S vs :=
  ⟨h.len, own_below h.row hb, fun j hj => (h.each j hj).below hb⟩
theorem words_heap {w w' : World} {v : Value} {L : List B} (h : WordsAt w v L) (hb : ∀ (g : Nat) (cs : Array Value) (f : Nat × Nat), w.heap[g]? = some (.cells cs 9 f) → w'.heap[g]? = w.heap[g]?) : WordsAt w' v L := by
  obtain ⟨g, o, cap, rfl, hc, ⟨cs, f, hg⟩, hcell⟩ := h
  have e := hb g cs f hg
  refine ⟨g, o, cap, rfl, hc, ⟨cs, f, e.trans hg⟩, fun j hj => ?_⟩
  have := hcell j hj
  simp only [World.cell?] at this ⊢
  rw [e]; exact this
/-- what lies in a row of another type is not turned by an append -/
theorem own_type_ne {w : World} {z : Nat} {e e' : TypeId} {size : Nat} {v : Value} {n : Nat} {xs : List Value} (h : w.ownsRow z e size v n xs) {g : Nat} {cs : Array Value} {f : Nat × Nat} (hg : w.heap[g]? = some (.cells cs e' f)) (he : e ≠ e') : some g ≠ v.ownBlock :=
  fun x => own_at_ne h hg he x.symm
theorem SentsAt.turn {z b : Nat} {w w' : World} {v : Value} {S : List (Nat × List B)} {vs : List Value} (h : SentsAt z w v S vs) (hb : Turn b w w') {cs : Array Value} {f : Nat × Nat} (ho : w.heap[b]? = some (.cells cs 238 f)) : SentsAt z w' v S vs := by
  have key : ∀ (g : Nat) (cs' : Array Value) (e' : TypeId) (f' : Nat × Nat), w.heap[g]? = some (.cells cs' e' f') → e' ≠ 238 → w'.heap[g]? = w.heap[g]? := fun g cs' e' f' hg he => hb.block g (lt_of_heap hg) (fun x => by
    subst x; rw [ho] at hg; simp only [Option.some.injEq, Obj.cells.injEq] at hg; exact he hg.2.1.symm)
  refine ⟨h.len, own_heap h.row (fun g hg => ?_), fun j hj => words_heap (h.each j hj) fun g cs' f' hg => key g cs' _ f' hg (by decide)⟩
  rcases h.row.2 with ⟨rfl, -⟩ | ⟨g', cap, cur, rfl, -, hg', -⟩
  · cases hg
  · simp only [Value.ownBlock, Option.some.injEq] at hg
    subst hg
    exact key _ _ _ _ hg' (by decide)
/-- a sentence more -/
theorem SentsAt.more {z : Nat} {w w2 w3 : World} {v v' u : Value} {S : List (Nat × List B)} {vs : List Value} (h : SentsAt z w v S vs) (x : Nat × List B) (hu : WordsAt w u x.2) (h2 : Below w.heap.size w w2)
    (h3 : w3.ownsRow z 240 2 v' (S.length + 1) (sentCells S vs ++ [.int .i64 (x.1 : Nat), u])) (hg : w2.grownBy w3 v.ownBlock) : SentsAt z w3 v' (S ++ [x]) (vs ++ [u]) := by
  have H := h.below h2
  have hu2 := hu.below h2
  have keep : ∀ (g : Nat) (cs : Array Value) (f : Nat × Nat), w2.heap[g]? = some (.cells cs 9 f) → w3.heap[g]? = w2.heap[g]? := fun g cs f hgg => hg.block g (lt_of_heap hgg) (own_type_ne H.row hgg (by decide))
  refine ⟨by simp [h.len], ?_, fun j hj => ?_⟩
  · have : sentCells (S ++ [x]) (vs ++ [u]) = sentCells S vs ++ [.int .i64 (x.1 : Nat), u] := by
      unfold sentCells
      rw [List.zip_append h.len.symm]
      simp
    rw [this]
    simpa using h3
  · simp at hj
    by_cases hlt : j < S.length
    · have e1 : (vs ++ [u]).getD j undef = vs.getD j undef := by simp [List.getD_eq_getElem?_getD, List.getElem?_append, h.len, hlt]
      have e2 : (S ++ [x]).getD j (0, []) = S.getD j (0, []) := by simp [List.getD_eq_getElem?_getD, List.getElem?_append, hlt]
      rw [e1, e2]
      exact words_heap (H.each j hlt) keep
    · obtain rfl : j = S.length := by omega
      have e1 : (vs ++ [u]).getD S.length undef = u := by simp [List.getD_eq_getElem?_getD, ← h.len]
      have e2 : (S ++ [x]).getD S.length (0, []) = x := by simp [List.getD_eq_getElem?_getD]
      rw [e1, e2]
      exact words_heap hu2 keep
/-- sentence j, as a walk reads it -/
theorem SentsAt.at {z : Nat} {w : World} {v : Value} {S : List (Nat × List B)} {vs : List Value} (h : SentsAt z w v S vs) (j : Nat) (hj : j < S.length) :
    ∃ g cap, v = .slice (some ⟨g, 0, none⟩) S.length cap ∧ S.length ≤ cap ∧ g < w.heap.size ∧ w.cell? ⟨g, j * 2, none⟩ = some (.int .i64 ((S.getD j (0, [])).1 : Nat)) ∧ w.cell? ⟨g, j * 2 + 1, none⟩ = some (vs.getD j undef) := by
  obtain ⟨g, cap, hv, hc, hlt, hcell⟩ := own_cell h.row (by omega)
  have hz : (S.zip vs)[j]? = some (S.getD j (0, []), vs.getD j undef) := by
    have : j < vs.length := by rw [h.len]; exact hj
    simp [List.getElem?_zip_eq_some, hj, this]
  have f0 := flat_get (fun x : (Nat × List B) × Value => [.int .i64 (x.1.1 : Nat), x.2]) 2 (fun _ => rfl) (S.zip vs) j 0 (by decide)
  have f1 := flat_get (fun x : (Nat × List B) × Value => [.int .i64 (x.1.1 : Nat), x.2]) 2 (fun _ => rfl) (S.zip vs) j 1 (by decide)
  rw [hz] at f0 f1
  exact ⟨g, cap, hv, hc, hlt, (hcell (j * 2) (by omega)).trans f0, (hcell (j * 2 + 1) (by omega)).trans f1⟩
end Go.Proofs.YtmlgajhhnojdjaaGreatDoor.PrjL
/- What the project's reader makes of all lines: the form. -/
namespace Go.Proofs.YtmlgajhhnojdjaaGreatDoor.PrjN
open Go Go.RowKit Go.Proofs.YtmlgajhhnojdjaaGreatDoor.Spec Go.Proofs.YtmlgajhhnojdjaaGreatDoor.Aux Go.Proofs.YtmlgajhhnojdjaaGreatDoor.PrjF Go.Proofs.YtmlgajhhnojdjaaGreatDoor.PrjG Go.Proofs.YtmlgajhhnojdjaaGreatDoor.PrjH Go.Proofs.YtmlgajhhnojdjaaGreatDoor.PrjI Go.Proofs.YtmlgajhhnojdjaaGreatDoor.PrjJ Go.Proofs.YtmlgajhhnojdjaaGreatDoor.PrjK Go.Proofs.YtmlgajhhnojdjaaGreatDoor.PrjL

def SplitPost (raw : Bool) (L : List B) (w : World) (e : Ending) (w' : World) : Prop :=
  Below w.heap.size w w' ∧ match splitGo raw (L.map (split 32)) ⟨0, 0, 0⟩ 0 with
    | (_, _, some k) => e = .returned (.tuple #[.slice none 0 0, .int .i64 (k : Nat), .bool false])
    | (S, o, none) => ∃ v vs, e = .returned (.tuple #[v, .int .i64 (L.length : Nat), .bool (decide (o.sec = 2))]) ∧ SentsAt w.heap.size w' v S vs
theorem SplitPost.bad {raw : Bool} {L : List B} {w w' : World} {k : Nat} (hb : Below w.heap.size w w') (h : (splitGo raw (L.map (split 32)) ⟨0, 0, 0⟩ 0).2.2 = some k) : SplitPost raw L w (.returned (.tuple #[.slice none 0 0, .int .i64 (k : Nat), .bool false])) w' := by
  refine ⟨hb, ?_⟩
  generalize splitGo raw (L.map (split 32)) ⟨0, 0, 0⟩ 0 = R at h
  obtain ⟨S, o, x⟩ := R
  simp only at h
  subst h
  rfl
theorem SplitPost.good {raw : Bool} {L : List B} {w w' : World} {S : List (Nat × List B)} {o : OrdP} {v : Value} {vs : List Value} (hb : Below w.heap.size w w') (h : splitGo raw (L.map (split 32)) ⟨0, 0, 0⟩ 0 = (S, o, none)) (hs : SentsAt w.heap.size w' v S vs) : SplitPost raw L w (.returned (.tuple #[v, .int .i64 (L.length : Nat), .bool (decide (o.sec = 2))])) w' := by
  refine ⟨hb, ?_⟩
  rw [h]
  exact ⟨v, vs, rfl, hs⟩
theorem words_one {w : World} {u : Value} {L : List B} (h : WordsAt w u L) : u.oneCell' = true := by
  obtain ⟨g, o, cap, rfl, -⟩ := h; rfl
theorem one_two {n : Int} {u : Value} (h : u.oneCell' = true) : ∀ u' ∈ [Value.int .i64 n, u], u'.oneCell' = true := by
  intro u' hu; simp at hu; rcases hu with rfl | rfl
  · rfl
  · exact h
theorem words_turn {b : Nat} {w w' : World} {v : Value} {L : List B} (h : WordsAt w v L) (hb : Turn b w w') {raw : Bool} {ln mb : Nat} {o : OrdP} (ho : OrdAt w b raw ln mb o) : WordsAt w' v L :=
  words_heap h fun g cs f hg => hb.block g (lt_of_heap hg) (fun x => by
    subst x; unfold OrdAt at ho; rw [ho] at hg; simp only [Option.some.injEq, Obj.cells.injEq] at hg; exact absurd hg.2.1 (by decide))
theorem sent_block {b : Nat} {w w' : World} {x y : Value} (hb : Turn b (w.alloc (.cells #[x, y] 240)) w') (hne : b < w.heap.size) : w'.cell? ⟨w.heap.size, 0, none⟩ = some x ∧ w'.cell? ⟨w.heap.size, 1, none⟩ = some y := by
  have h0 : (w.alloc (.cells #[x, y] 240)).heap[w.heap.size]? = some (.cells #[x, y] 240 (0, 0)) := Array.getElem?_push_size
  have h1 : w'.heap[w.heap.size]? = some (.cells #[x, y] 240 (0, 0)) := (hb.block _ (lt_of_heap h0) (by omega)).trans h0
  exact ⟨by rw [cell_of_heap h1]; rfl, by rw [cell_of_heap h1]; rfl⟩
theorem info_sent : (Tryz.prog.info? 240).map (fun i => (i.zero, i.size, i.bytes)) = some (some (.agg #[.int .i64 0, .slice none 0 0]), 2, 32) := by kernel_rfl
set_option maxRecDepth 20000 in
set_option maxHeartbeats 1000000 in
theorem split_any (raw : Bool) (ln g cap : Nat) (L : List B) (w : World) (hL : L.length ≤ 4000) (_hcap : L.length ≤ cap) (hg : g < w.heap.size) (hcell : ∀ j, j < L.length → w.cell? ⟨g, j, none⟩ = some (.string (bs (word L j)))) (hlen : ∀ j, (word L j).length ≤ 1048576) (E : Env w) :
    Calls Tryz.prog 115 #[.agg #[.bool raw, .int .i64 ln, .int .i64 (if raw then 2000 else 20 : Nat)], .slice (some ⟨g, 0, none⟩) L.length cap] w (SplitPost raw L w) := by
  obtain ⟨i0, hi0, hz0, hz1, hz2⟩ := info_parts info_sent
  have KA := fun (op : Nat) (o : OrdP) (w' : World) => admits_any raw ln (w.heap.size + 1) op o w'
  generalize (if raw then 2000 else 20 : Nat) = mb at KA ⊢
  have hb0 : Below w.heap.size w ((w.alloc (.cells #[.bool raw, .int .i64 ln, .int .i64 mb] 130)).alloc (.cells #[.bool raw, .int .i64 ln, .int .i64 mb, .int .i64 0, .int .i64 0, .int .i64 0] 238)) := ((Below.refl _ _).alloc (Nat.le_refl _) _).alloc (by simp) _
  have hO0 : OrdAt ((w.alloc (.cells #[.bool raw, .int .i64 ln, .int .i64 mb] 130)).alloc (.cells #[.bool raw, .int .i64 ln, .int .i64 mb, .int .i64 0, .int .i64 0, .int .i64 0] 238)) (w.heap.size + 1) raw ln mb ⟨0, 0, 0⟩ := by
    unfold OrdAt
    rw [show w.heap.size + 1 = (w.alloc (.cells #[.bool raw, .int .i64 ln, .int .i64 mb] 130)).heap.size by simp]
    exact Array.getElem?_push_size
  go_enter Tryz.func115, Tryz.ntmps115
  go_wp2
  go_loopw [4, 16] (fun v i wr => ∃ (k : Nat) (done : List (Nat × List B)) (o : OrdP) (vs : List Value), k ≤ L.length ∧ i = .int .i64 k ∧ OrdAt wr (w.heap.size + 1) raw ln mb o ∧ SentsAt w.heap.size wr v done vs ∧ Below w.heap.size w wr ∧ Hid (Along raw (L.map (split 32)) k done o)) (fun _ i _ => L.length - (intOf i).toNat)
  case atStart => exact ⟨0, [], ⟨0, 0, 0⟩, [], Nat.zero_le _, rfl, hO0, SentsAt.nil _ _, hb0, Along.start raw _⟩
  case round =>
    obtain ⟨k, done, o, vs, hk, rfl, hO, hS, hB, HA⟩ := hrel
    clear hb0 hO0
    by_cases hlt : k < L.length
    · have hck : wr.cell? ⟨g, k, none⟩ = some (.string (bs (word L k))) := (hB.cell (p := ⟨g, k, none⟩) hg).trans (hcell k hlt)
      have KS := sentenceOf_any (word L k) wr (hlen k) (E.on hB)
      have hlk : k < (L.map (split 32)).length := by simpa using hlt
      have hword : Hid ((L.map (split 32))[k] = split 32 (word L k)) := by
        unfold Hid; simp [word, hlt]
      have hsz : w.heap.size + 1 < wr.heap.size := lt_of_heap hO
      cases hx : sentP (split 32 (word L k)) with
      | none =>
        have hbad := HA.out.bad hlk (by rw [hword.out]; exact hx)
        unfold SentPost at KS
        rw [hx] at KS
        clear hx
        go_wp2_with (go_at_call 163; refine KS.mono ?_; rintro e w1 ⟨hb1, rfl⟩)
        go_ret3
        exact SplitPost.bad ((hB.trans (hb1.mono hB.size)).alloc (Nat.le_trans hB.size hb1.size) _) hbad
      | some x =>
        obtain ⟨-, hopx⟩ := sentP_sent hx
        have hop := opIdx_lt hopx
        have hfew := HA.out.few
        have hlen2 := HA.out.len
        unfold SentPost at KS
        rw [hx] at KS
        replace KS : Calls Tryz.prog 163 #[.string (bs (word L k))] wr fun e w' => Below wr.heap.size wr w' ∧ ∃ gw ow cw, e = .returned (.tuple #[.agg #[.int .i64 (x.1 : Nat), .slice (some ⟨gw, ow, none⟩) x.2.length cw], .bool true]) ∧ WordsAt w' (.slice (some ⟨gw, ow, none⟩) x.2.length cw) x.2 :=
          KS.mono fun e w' ⟨h1, v, h2, h3⟩ => by
            have h3' := h3
            obtain ⟨gw, ow, cw, rfl, -⟩ := h3'
            exact ⟨h1, gw, ow, cw, h2, h3⟩
        cases ha : (admitsP raw o x.1).2 with
        | false =>
          have hbad := HA.out.out hlk (by rw [hword.out]; exact hx) ha
          have KB : ∀ w', OrdAt w' (w.heap.size + 1) raw ln mb o → w.heap.size + 1 < w'.heap.size → Calls Tryz.prog 164 #[.pointer (some ⟨w.heap.size + 1, 0, none⟩), .int .i64 x.1] w' fun e w'' => e = .returned (.bool false) ∧ OrdAt w'' (w.heap.size + 1) raw ln mb (admitsP raw o x.1).1 ∧ Turn (w.heap.size + 1) w' w'' := fun w' h1 h2 => by
            have := KA x.1 o w' h1 hop (by omega) (by omega) h2
            unfold AdmitsPost at this
            rwa [ha] at this
          clear hx ha hopx hlen2 hfew KA
          go_wp2_with (first
            | (go_at_call 163; refine KS.mono ?_; rintro e w1 ⟨hb1, gw, ow, cw, rfl, hu⟩; have hsA : w.heap.size + 1 < (w1.alloc (.cells #[.int .i64 (x.1 : Nat), .slice (some ⟨gw, ow, none⟩) x.2.length cw] 240)).heap.size := (by have := hb1.size; simp; omega); have hOA := hO.below (hb1.alloc hb1.size (.cells #[.int .i64 (x.1 : Nat), .slice (some ⟨gw, ow, none⟩) x.2.length cw] 240)) hsz)
            | (go_at_call 164; refine (KB _ hOA hsA).mono ?_; rintro e w2 ⟨rfl, hO2, hT2⟩))
          go_ret3
          exact SplitPost.bad ((hB.trans ((hb1.alloc hb1.size _).mono hB.size)).trans (hT2.below (by omega) (by omega))) hbad
        | true =>
          have HA2 : Hid (Along raw (L.map (split 32)) (k + 1) (done ++ [x]) (admitsP raw o x.1).1) := HA.out.on hlk (by rw [hword.out]; exact hx) ha
          have KB : ∀ w', OrdAt w' (w.heap.size + 1) raw ln mb o → w.heap.size + 1 < w'.heap.size → Calls Tryz.prog 164 #[.pointer (some ⟨w.heap.size + 1, 0, none⟩), .int .i64 x.1] w' fun e w'' => e = .returned (.bool true) ∧ OrdAt w'' (w.heap.size + 1) raw ln mb (admitsP raw o x.1).1 ∧ Turn (w.heap.size + 1) w' w'' := fun w' h1 h2 => by
            have := KA x.1 o w' h1 hop (by omega) (by omega) h2
            unfold AdmitsPost at this
            rwa [ha] at this
          clear hx ha hopx hfew KA
          go_wp2_with (first
            | (go_at_call 163; refine KS.mono ?_; rintro e w1 ⟨hb1, gw, ow, cw, rfl, hu⟩; have hsA : w.heap.size + 1 < (w1.alloc (.cells #[.int .i64 (x.1 : Nat), .slice (some ⟨gw, ow, none⟩) x.2.length cw] 240)).heap.size := (by have := hb1.size; simp; omega); have hOA := hO.below (hb1.alloc hb1.size (.cells #[.int .i64 (x.1 : Nat), .slice (some ⟨gw, ow, none⟩) x.2.length cw] 240)) hsz)
            | (go_at_call 164; refine (KB _ hOA hsA).mono ?_; rintro e w2 ⟨rfl, hO2, hT2⟩; have hsb := sent_block hT2 (by have := hb1.size; omega); obtain ⟨hs0, hs1⟩ := hsb; have hS2 := (hS.below (hb1.alloc hb1.size (.cells #[.int .i64 (x.1 : Nat), .slice (some ⟨gw, ow, none⟩) x.2.length cw] 240))).turn hT2 hOA; have hu1 := words_one hu; have hbs : w.heap.size ≤ w2.heap.size := (by have := hT2.size; omega))
            | (at_builtin; go_must (refine append_blk rfl _ _ 193 rfl w.heap.size 240 i0 (.agg #[.int .i64 0, .slice none 0 0]) 2 32 Tryz.underlying193 hi0 hz0 hz1 hz2 rfl (by decide) _ _ _ rfl (own_below hS2.row ((Below.refl _ _).alloc (Nat.le_refl _) (.cells #[.int .i64 (x.1 : Nat), .slice (some ⟨gw, ow, none⟩) x.2.length cw] 240))) w2.heap.size [.int .i64 (x.1 : Nat), .slice (some ⟨gw, ow, none⟩) x.2.length cw] rfl Array.getElem?_push_size rfl (one_two hu1) (by decide) (by omega) (by simp; omega) ?_); intro g3 c3 w3 hown3 hgrow3 hat3 hlt3))
          go_roundw
          case rel =>
            have hbe : Below w2.heap.size w2 (w2.alloc (.cells #[.int .i64 (x.1 : Nat), .slice (some ⟨gw, ow, none⟩) x.2.length cw] 240)) := (Below.refl _ _).alloc (Nat.le_refl _) _
            have hB2 : Below w.heap.size w w2 := (hB.trans ((hb1.alloc hb1.size _).mono hB.size)).trans (hT2.below (by omega) (by omega))
            have hu2 := words_turn (hu.below ((Below.refl _ _).alloc (Nat.le_refl _) (.cells #[.int .i64 (x.1 : Nat), .slice (some ⟨gw, ow, none⟩) x.2.length cw] 240))) hT2 hOA
            have hOE := hO2.below hbe (lt_of_heap hO2)
            have hmore := hS2.more x hu2 hbe hown3 hgrow3
            rw [hlen2] at hmore
            refine ⟨k + 1, done ++ [x], (admitsP raw o x.1).1, vs ++ [.slice (some ⟨gw, ow, none⟩) x.2.length cw], by omega, by go_num, ?_, hmore, below_append hB2 (Nat.le_refl _) hB2.size hS2.row hgrow3, HA2⟩
            unfold OrdAt at hOE ⊢
            rw [hgrow3.block _ (lt_of_heap hOE) (own_type_ne (own_below hS2.row hbe) hOE (by decide))]
            exact hOE
          case measure => simp [intOf]; omega
    · have hw := HA.out.whole (by simpa using hlt)
      have KD := fun w' (h : OrdAt w' (w.heap.size + 1) raw ln mb o) => done_any raw ln mb (w.heap.size + 1) o w' h
      go_wp2_with (go_at_call 165; refine (KD _ hO).mono ?_; rintro e wd ⟨rfl, rfl⟩)
      go_ret3
      exact SplitPost.good hB hw hS
end Go.Proofs.YtmlgajhhnojdjaaGreatDoor.PrjN
/- How a program of the project's reader lies in memory, while it is made and behind it. -/
namespace Go.Proofs.YtmlgajhhnojdjaaGreatDoor.PrjM
open Go Go.RowKit Go.Proofs.YtmlgajhhnojdjaaGreatDoor.Spec Go.Proofs.YtmlgajhhnojdjaaGreatDoor.Aux Go.Proofs.YtmlgajhhnojdjaaGreatDoor.PrjF Go.Proofs.YtmlgajhhnojdjaaGreatDoor.PrjG Go.Proofs.YtmlgajhhnojdjaaGreatDoor.PrjH Go.Proofs.YtmlgajhhnojdjaaGreatDoor.PrjI Go.Proofs.YtmlgajhhnojdjaaGreatDoor.PrjJ Go.Proofs.YtmlgajhhnojdjaaGreatDoor.PrjK Go.Proofs.YtmlgajhhnojdjaaGreatDoor.PrjL

def locCell (x : B × Nat) : List Value := [.string (bs x.1), .int .i64 (x.2 : Nat)]
def locCells (ls : List (B × Nat)) : List Value := ls.flatMap locCell
def plCell (x : Nat × Nat) : List Value := [.int .i64 (x.1 : Nat), .int .i64 (x.2 : Nat)]
def plCells (ls : List (Nat × Nat)) : List Value := ls.flatMap plCell
def lineCell (x : QLine × Value × Value) : List Value := [.int .i64 (x.1.num : Nat), .int .i64 (x.1.op : Nat), x.2.1, .int .i64 x.1.number, .int .i64 x.1.flag, x.2.2]
def lineCells (ls : List QLine) (vs : List (Value × Value)) : List Value := (ls.zip vs).flatMap lineCell
def QLine.nil : QLine := ⟨0, 0, [], 0, 0, []⟩
/-- a line's places and ways on -/
structure LineAt (z : Nat) (w : World) (l : QLine) (vp vn : Value) : Prop where
  places : w.ownsRow z 119 2 vp l.places.length (plCells l.places)
  next : w.ownsRow z 3 1 vn l.next.length (intCells l.next)
structure BlockAt (z : Nat) (w : World) (v : Value) (ls : List QLine) (vs : List (Value × Value)) : Prop where
  len : vs.length = ls.length
  row : w.ownsRow z 115 6 v ls.length (lineCells ls vs)
  each : ∀ j, j < ls.length → LineAt z w (ls.getD j QLine.nil) (vs.getD j (undef, undef)).1 (vs.getD j (undef, undef)).2
structure PAt (z a : Nat) (w : World) (q : QP) (vl vb : Value) (us : List Value) (vss : List (List (Value × Value))) : Prop where
  base : z ≤ a
  blk : w.heap[a]? = some (.cells #[vl, vb] 110 (0, 0))
  locals : w.ownsRow z 146 2 vl q.locals.length (locCells q.locals)
  blocks : w.ownsRow z 106 1 vb q.blocks.length us
  each : ∀ j, j < q.blocks.length → BlockAt z w (us.getD j undef) (q.blocks.getD j []) (vss.getD j [])
  apart : ∀ i j, i < j → j < q.blocks.length → (us.getD i undef).ownBlock = none ∨ (us.getD i undef).ownBlock ≠ (us.getD j undef).ownBlock
section
variable {z a : Nat} {w w' w2 w3 : World} {q : QP} {vl vb v' : Value} {us : List Value} {vss : List (List (Value × Value))}
theorem PAt.usl (h : PAt z a w q vl vb us vss) : us.length = q.blocks.length := by have := h.blocks.1; omega
theorem PAt.lt (h : PAt z a w q vl vb us vss) : a < w.heap.size := lt_of_heap h.blk
theorem LineAt.keep {l : QLine} {vp vn : Value} (h : LineAt z w l vp vn) (k : ∀ {e : TypeId} {s : Nat} {v : Value} {n : Nat} {xs : List Value}, e = 119 ∨ e = 3 → w.ownsRow z e s v n xs → w'.ownsRow z e s v n xs) : LineAt z w' l vp vn :=
  ⟨k (.inl rfl) h.places, k (.inr rfl) h.next⟩
theorem BlockAt.keep {v : Value} {ls : List QLine} {vs : List (Value × Value)} (h : BlockAt z w v ls vs) (hr : w'.ownsRow z 115 6 v ls.length (lineCells ls vs))
    (k : ∀ {e : TypeId} {s : Nat} {v : Value} {n : Nat} {xs : List Value}, e = 119 ∨ e = 3 → w.ownsRow z e s v n xs → w'.ownsRow z e s v n xs) : BlockAt z w' v ls vs :=
  ⟨h.len, hr, fun j hj => (h.each j hj).keep k⟩
theorem LineAt.below {l : QLine} {vp vn : Value} (h : LineAt z w l vp vn) (hb : Below w.heap.size w w') : LineAt z w' l vp vn := h.keep fun _ h => own_below h hb
theorem BlockAt.below {v : Value} {ls : List QLine} {vs : List (Value × Value)} (h : BlockAt z w v ls vs) (hb : Below w.heap.size w w') : BlockAt z w' v ls vs := h.keep (own_below h.row hb) fun _ h => own_below h hb
theorem PAt.below (h : PAt z a w q vl vb us vss) (hb : Below w.heap.size w w') : PAt z a w' q vl vb us vss :=
  ⟨h.base, by rw [hb.block a h.lt]; exact h.blk, own_below h.locals hb, own_below h.blocks hb, fun j hj => (h.each j hj).below hb, h.apart⟩
theorem PAt.start (z : Nat) (w : World) (hz : z ≤ w.heap.size) : PAt z w.heap.size (w.alloc (.cells #[.slice none 0 0, .slice none 0 0] 110)) QP.empty (.slice none 0 0) (.slice none 0 0) [] [] :=
  ⟨hz, by show (w.heap.push _)[w.heap.size]? = _; simp, World.ownsRow_nil _ _ _ _, World.ownsRow_nil _ _ _ _, fun j hj => by simp [QP.empty] at hj, fun i j _ hj => by simp [QP.empty] at hj⟩

/-- a local more -/
theorem PAt.addLocal (h : PAt z a w q vl vb us vss) (x : B × Nat) (h2 : Below w.heap.size w w2)
    (h3 : w3.ownsRow z 146 2 v' (q.locals.length + 1) (locCells q.locals ++ locCell x)) (hg : w2.grownBy w3 vl.ownBlock) :
    PAt z a (w3.setCell ⟨a, 0, none⟩ v') (q.addLocal x) v' vb us vss := by
  have H := h.below h2
  have hne : some a ≠ vl.ownBlock := own_type_ne H.locals H.blk (by decide)
  have hblk : w3.heap[a]? = some (.cells #[vl, vb] 110 (0, 0)) := by rw [hg.block a H.lt hne]; exact H.blk
  have keep : ∀ {e : TypeId} {s : Nat} {v : Value} {n : Nat} {xs : List Value}, w2.ownsRow z e s v n xs → e ≠ 146 → e ≠ 110 → (w3.setCell ⟨a, 0, none⟩ v').ownsRow z e s v n xs := by
    intro e s v n xs hv he he'
    have hk := hv.kept hg (own_ne hv H.locals he)
    exact own_setCell hk _ (own_at_ne hk hblk he')
  refine ⟨h.base, ?_, ?_, keep H.blocks (by decide) (by decide), fun j hj => (H.each j hj).keep (keep (H.each j hj).row (by decide) (by decide)) (fun he hv => keep hv ?_ ?_), h.apart⟩
  · rw [Go.Proofs.YtmlgajhhnojdjaaGreatDoor.Aux.heap_setCell_same hblk]; rfl
  · have := own_setCell h3 (a := ⟨a, 0, none⟩) v' (own_at_ne h3 hblk (by decide))
    simpa [QP.addLocal, locCells] using this
  · rcases he with rfl | rfl <;> decide
  · rcases he with rfl | rfl <;> decide
/-- a block more -/
theorem PAt.addBlock (h : PAt z a w q vl vb us vss) (hl : vss.length = q.blocks.length) (h2 : Below w.heap.size w w2)
    (h3 : w3.ownsRow z 106 1 v' (q.blocks.length + 1) (us ++ [.slice none 0 0])) (hg : w2.grownBy w3 vb.ownBlock) :
    PAt z a (w3.setCell ⟨a, 1, none⟩ v') q.addBlock vl v' (us ++ [.slice none 0 0]) (vss ++ [[]]) := by
  have H := h.below h2
  have hu := h.usl
  have hne : some a ≠ vb.ownBlock := own_type_ne H.blocks H.blk (by decide)
  have hblk : w3.heap[a]? = some (.cells #[vl, vb] 110 (0, 0)) := by rw [hg.block a H.lt hne]; exact H.blk
  have keep : ∀ {e : TypeId} {s : Nat} {v : Value} {n : Nat} {xs : List Value}, w2.ownsRow z e s v n xs → e ≠ 106 → e ≠ 110 → (w3.setCell ⟨a, 1, none⟩ v').ownsRow z e s v n xs := by
    intro e s v n xs hv he he'
    have hk := hv.kept hg (own_ne hv H.blocks he)
    exact own_setCell hk _ (own_at_ne hk hblk he')
  have eu : ∀ j, j < q.blocks.length → (us ++ [Value.slice none 0 0]).getD j undef = us.getD j undef := fun j hj => by simp [List.getD_eq_getElem?_getD, List.getElem?_append, hu, hj]
  have el : (us ++ [Value.slice none 0 0]).getD q.blocks.length undef = .slice none 0 0 := by simp [List.getD_eq_getElem?_getD, ← hu]
  refine ⟨h.base, ?_, keep H.locals (by decide) (by decide), ?_, fun j hj => ?_, fun i j hij hj => ?_⟩
  · rw [Go.Proofs.YtmlgajhhnojdjaaGreatDoor.Aux.heap_setCell_same hblk]; rfl
  · have := own_setCell h3 (a := ⟨a, 1, none⟩) v' (own_at_ne h3 hblk (by decide))
    simpa [QP.addBlock] using this
  · simp only [QP.addBlock, List.length_append, List.length_singleton] at hj
    by_cases hlt : j < q.blocks.length
    · have e2 : q.addBlock.blocks.getD j [] = q.blocks.getD j [] := by simp [QP.addBlock, List.getD_eq_getElem?_getD, List.getElem?_append, hlt]
      have e3 : (vss ++ [[]]).getD j [] = vss.getD j [] := by simp [List.getD_eq_getElem?_getD, List.getElem?_append, hl, hlt]
      rw [eu j hlt, e2, e3]
      refine (H.each j hlt).keep (keep (H.each j hlt).row (by decide) (by decide)) (fun he hv => keep hv ?_ ?_)
      · rcases he with rfl | rfl <;> decide
      · rcases he with rfl | rfl <;> decide
    · obtain rfl : j = q.blocks.length := by omega
      have e2 : q.addBlock.blocks.getD q.blocks.length [] = [] := by simp [QP.addBlock, List.getD_eq_getElem?_getD]
      have e3 : (vss ++ [[]]).getD q.blocks.length [] = [] := by simp [List.getD_eq_getElem?_getD, ← hl]
      rw [el, e2, e3]
      exact ⟨rfl, World.ownsRow_nil _ _ _ _, fun j hj => by simp at hj⟩
  · simp only [QP.addBlock, List.length_append, List.length_singleton] at hj
    by_cases hlt : j < q.blocks.length
    · rw [eu j hlt, eu i (by omega)]; exact h.apart i j hij hlt
    · obtain rfl : j = q.blocks.length := by omega
      rw [eu i (by omega), el]
      cases hx : (us.getD i undef).ownBlock with
      | none => exact .inl rfl
      | some g => exact .inr (by simp [Value.ownBlock])
/-- a line more, of the last block -/
theorem PAt.addLine (h : PAt z a w q vl vb us vss) (hl : vss.length = q.blocks.length) (n : Nat) (hn : q.blocks.length = n + 1) (l : QLine) (vp vn : Value) (hL : LineAt z w l vp vn) (h2 : Below w.heap.size w w2)
    {gb cb : Nat} (hvb : vb = .slice (some ⟨gb, 0, none⟩) (n + 1) cb) {g : Nat} (hv' : v'.ownBlock = some g) (hat : (us.getD n undef).ownBlock = some g ∨ w2.heap.size ≤ g)
    (h3 : w3.ownsRow z 115 6 v' ((q.blocks.getD n []).length + 1) (lineCells (q.blocks.getD n []) (vss.getD n []) ++ lineCell (l, vp, vn))) (hg : w2.grownBy w3 (us.getD n undef).ownBlock) :
    PAt z a (w3.setCell ⟨gb, n, none⟩ v') (q.addLine l) vl vb (us.set n v') (vss.set n (vss.getD n [] ++ [(vp, vn)])) := by
  have H := h.below h2
  have HL := hL.below h2
  have hu := h.usl
  have hlast : n < q.blocks.length := by omega
  have HN := H.each n hlast
  have hne : some a ≠ (us.getD n undef).ownBlock := own_type_ne HN.row H.blk (by decide)
  have hblk : w3.heap[a]? = some (.cells #[vl, vb] 110 (0, 0)) := by rw [hg.block a H.lt hne]; exact H.blk
  have HB3 : w3.ownsRow z 106 1 vb q.blocks.length us := H.blocks.kept hg (own_ne H.blocks HN.row (by decide))
  obtain ⟨g', cap, cur, e, hzg, hcur, hcap, hmax, hsz, htk⟩ : ∃ g' cap cur, vb = .slice (some ⟨g', 0, none⟩) q.blocks.length cap ∧ z ≤ g' ∧ w3.heap[g']? = some (.cells cur 106 (0, 0)) ∧ q.blocks.length ≤ cap ∧ cap ≤ maxLen ∧ cur.size = cap * 1 ∧ cur.toList.take (q.blocks.length * 1) = us := by
    rcases HB3.2 with ⟨e, -⟩ | ⟨g', cap, cur, e, r⟩
    · rw [hvb] at e; cases e
    · exact ⟨g', cap, cur, e, r⟩
  have : g' = gb := by rw [hvb] at e; simp only [Value.slice.injEq, Option.some.injEq, Addr.mk.injEq] at e; exact e.1.1.symm
  subst this
  have keep : ∀ {e : TypeId} {s : Nat} {v : Value} {n' : Nat} {xs : List Value}, w2.ownsRow z e s v n' xs → (v.ownBlock = none ∨ v.ownBlock ≠ (us.getD n undef).ownBlock) → e ≠ 106 → (w3.setCell ⟨g', n, none⟩ v').ownsRow z e s v n' xs := by
    intro e s v n' xs hv hnn he'
    have hk := hv.kept hg hnn
    exact own_setCell hk _ (own_at_ne hk hcur he')
  have eu : ∀ j, ¬ j = n → (us.set n v').getD j undef = us.getD j undef := fun j hj => by simp [List.getD_eq_getElem?_getD, List.getElem?_set_ne (Ne.symm hj)]
  have eun : (us.set n v').getD n undef = v' := by simp [List.getD_eq_getElem?_getD, hu, hlast]
  have hB : q.blocks = q.blocks.dropLast ++ [q.blocks.getD n []] := by
    have hne : q.blocks ≠ [] := by intro e; rw [e] at hlast; simp at hlast
    conv => lhs; rw [← List.dropLast_concat_getLast hne]
    congr 2
    rw [List.getLast_eq_getElem]
    simp [List.getD_eq_getElem?_getD, hn]
  have hD : q.blocks.dropLast.length = n := by simp [hn]
  have hlB : (q.addLine l).blocks = q.blocks.dropLast ++ [q.blocks.getD n [] ++ [l]] := by
    have : q.blocks.getLastD [] = q.blocks.getD n [] := by rw [hB]; simp [List.getD_eq_getElem?_getD, hD]
    simp only [QP.addLine, this]
  have ebn : (q.addLine l).blocks.getD n [] = q.blocks.getD n [] ++ [l] := by rw [hlB]; simp [List.getD_eq_getElem?_getD, hD]
  have eb : ∀ j, j < n → (q.addLine l).blocks.getD j [] = q.blocks.getD j [] := fun j hj => by
    rw [hlB, hB]; simp [List.getD_eq_getElem?_getD, List.getElem?_append, hD, hj]
  have elen : (q.addLine l).blocks.length = n + 1 := by rw [hlB]; simp [hD]
  have ev : ∀ j, ¬ j = n → (vss.set n (vss.getD n [] ++ [(vp, vn)])).getD j [] = vss.getD j [] := fun j hj => by simp [List.getD_eq_getElem?_getD, List.getElem?_set_ne (Ne.symm hj)]
  have evn : (vss.set n (vss.getD n [] ++ [(vp, vn)])).getD n [] = vss.getD n [] ++ [(vp, vn)] := by simp [List.getD_eq_getElem?_getD, hl, hlast]
  have ne2 : ∀ {e : TypeId} {s : Nat} {v : Value} {n' : Nat} {xs : List Value}, e = 119 ∨ e = 3 → w2.ownsRow z e s v n' xs → (w3.setCell ⟨g', n, none⟩ v').ownsRow z e s v n' xs := fun he hv =>
    keep hv (own_ne hv HN.row (by rcases he with rfl | rfl <;> decide)) (by rcases he with rfl | rfl <;> decide)
  refine ⟨h.base, ?_, keep H.locals (own_ne H.locals HN.row (by decide)) (by decide), ?_, fun j hj => ?_, fun i j hij hj => ?_⟩
  · rw [Below.heap_setCell _ _ _ _ (by show a ≠ g'; intro e; rw [e, hcur] at hblk; simp only [Option.some.injEq, Obj.cells.injEq] at hblk; exact absurd hblk.2.1 (by decide))]; exact hblk
  · rw [elen]
    refine ⟨by simp [hu, hn], .inr ⟨g', cap, cur.setIfInBounds n v', by rw [e, hn], hzg, Go.Proofs.YtmlgajhhnojdjaaGreatDoor.Aux.heap_setCell_same hcur n v', by omega, hmax, by simpa using hsz, ?_⟩⟩
    rw [Array.toList_setIfInBounds, ← htk, hn, List.take_set]
  · rw [elen] at hj
    by_cases hjn : j = n
    · subst hjn
      rw [eun, ebn, evn]
      refine ⟨by rw [List.length_append, List.length_append, HN.len]; rfl, ?_, fun i hi => ?_⟩
      · have := own_setCell h3 (a := ⟨g', j, none⟩) v' (own_at_ne h3 hcur (by decide))
        have e2 : lineCells (q.blocks.getD j [] ++ [l]) (vss.getD j [] ++ [(vp, vn)]) = lineCells (q.blocks.getD j []) (vss.getD j []) ++ lineCell (l, vp, vn) := by
          unfold lineCells
          rw [List.zip_append HN.len.symm]; simp
        rw [e2]
        simpa using this
      · simp at hi
        by_cases hlt : i < (q.blocks.getD j []).length
        · have e1 : (q.blocks.getD j [] ++ [l]).getD i QLine.nil = (q.blocks.getD j []).getD i QLine.nil := by rw [List.getD_eq_getElem?_getD, List.getElem?_append_left hlt, ← List.getD_eq_getElem?_getD]
          have e2 : (vss.getD j [] ++ [(vp, vn)]).getD i (undef, undef) = (vss.getD j []).getD i (undef, undef) := by rw [List.getD_eq_getElem?_getD, List.getElem?_append_left (by rw [HN.len]; exact hlt), ← List.getD_eq_getElem?_getD]
          rw [e1, e2]
          exact (HN.each i hlt).keep ne2
        · have hi' : i = (q.blocks.getD j []).length := by simp only [List.getD_eq_getElem?_getD] at hlt hi ⊢; omega
          have e1 : (q.blocks.getD j [] ++ [l]).getD i QLine.nil = l := by rw [hi', List.getD_eq_getElem?_getD, List.getElem?_append_right (Nat.le_refl _)]; simp
          have e2 : (vss.getD j [] ++ [(vp, vn)]).getD i (undef, undef) = (vp, vn) := by rw [hi', ← HN.len, List.getD_eq_getElem?_getD, List.getElem?_append_right (Nat.le_refl _)]; simp
          rw [e1, e2]
          exact HL.keep ne2
    · have hjl : j < n := by omega
      rw [eu j hjn, eb j hjl, ev j hjn]
      refine (H.each j (by omega)).keep (keep (H.each j (by omega)).row (h.apart j n hjl hlast) (by decide)) ne2
  · rw [elen] at hj
    by_cases hjn : j = n
    · subst hjn
      rw [eu i (by omega), eun, hv']
      cases hx : (us.getD i undef).ownBlock with
      | none => exact .inl rfl
      | some g0 =>
        refine .inr fun hc => ?_
        simp only [Option.some.injEq] at hc
        subst hc
        rcases hat with hat | hat
        · rcases h.apart i j hij hlast with h0 | h0
          · rw [hx] at h0; cases h0
          · rw [hx, hat] at h0; exact h0 rfl
        · have := own_lt (H.each i (by omega)).row g0 hx
          omega
    · rw [eu i (by omega), eu j hjn]; exact h.apart i j hij (by omega)
end
end Go.Proofs.YtmlgajhhnojdjaaGreatDoor.PrjM
/- What the project's reader answers on how many blocks there are, and which local has a name. -/
namespace Go.Proofs.YtmlgajhhnojdjaaGreatDoor.PrjO
open Go Go.RowKit Go.Proofs.YtmlgajhhnojdjaaGreatDoor.Spec Go.Proofs.YtmlgajhhnojdjaaGreatDoor.Aux Go.Proofs.YtmlgajhhnojdjaaGreatDoor.PrjF Go.Proofs.YtmlgajhhnojdjaaGreatDoor.PrjG Go.Proofs.YtmlgajhhnojdjaaGreatDoor.PrjH Go.Proofs.YtmlgajhhnojdjaaGreatDoor.PrjI Go.Proofs.YtmlgajhhnojdjaaGreatDoor.PrjJ Go.Proofs.YtmlgajhhnojdjaaGreatDoor.PrjK Go.Proofs.YtmlgajhhnojdjaaGreatDoor.PrjL Go.Proofs.YtmlgajhhnojdjaaGreatDoor.PrjM Go.Proofs.YtmlgajhhnojdjaaGreatDoor.PrjN

theorem sents_form {z : Nat} {w : World} {v : Value} {S : List (Nat × List B)} {vs : List Value} (h : SentsAt z w v S vs) (hn : 0 < S.length) : ∃ g cap, v = .slice (some ⟨g, 0, none⟩) S.length cap ∧ S.length ≤ cap ∧ g < w.heap.size := by
  obtain ⟨g, cap, hv, hc, hg, -⟩ := own_cell h.row hn
  exact ⟨g, cap, hv, hc, hg⟩
theorem sents_cells {z : Nat} {w : World} {g cap : Nat} {S : List (Nat × List B)} {vs : List Value} (h : SentsAt z w (.slice (some ⟨g, 0, none⟩) S.length cap) S vs) (j : Nat) (hj : j < S.length) :
    w.cell? ⟨g, j * 2, none⟩ = some (.int .i64 ((S.getD j (0, [])).1 : Nat)) ∧ ∃ gw ow cw, w.cell? ⟨g, j * 2 + 1, none⟩ = some (.slice (some ⟨gw, ow, none⟩) (S.getD j (0, [])).2.length cw) ∧ WordsAt w (.slice (some ⟨gw, ow, none⟩) (S.getD j (0, [])).2.length cw) (S.getD j (0, [])).2 := by
  obtain ⟨g', cap', hv, -, -, h1, h2⟩ := h.at j hj
  simp only [Value.slice.injEq, Option.some.injEq, Addr.mk.injEq, and_true, true_and] at hv
  obtain ⟨rfl, rfl⟩ := hv
  have h3 := h.each j hj
  have h3' := h3
  obtain ⟨gw, ow, cw, e, -⟩ := h3'
  rw [e] at h2 h3
  exact ⟨h1, gw, ow, cw, h2, h3⟩
theorem countB_step (S : List (Nat × List B)) (k : Nat) (hk : k < S.length) : countB (S.take (k + 1)) = countB (S.take k) + if (S.getD k (0, [])).1 = 1 then 1 else 0 := by
  unfold countB
  rw [List.take_add_one, List.getElem?_eq_getElem hk, Option.toList_some, List.filter_append, List.length_append]
  congr 1
  have : S.getD k (0, []) = S[k] := by simp [List.getD_eq_getElem?_getD, hk]
  rw [this]
  by_cases h : S[k].1 = 1
  · rw [if_pos h]; simp [h]
  · rw [if_neg h]; simp [h]
theorem countB_le (S : List (Nat × List B)) : countB S ≤ S.length := List.length_filter_le ..
set_option maxRecDepth 20000 in
theorem countBlocks_any {z g cap : Nat} {S : List (Nat × List B)} {vs : List Value} (w : World) (h : SentsAt z w (.slice (some ⟨g, 0, none⟩) S.length cap) S vs) (hS : S.length ≤ 4000) (_hcap : S.length ≤ cap) :
    Calls Tryz.prog 167 #[.slice (some ⟨g, 0, none⟩) S.length cap] w fun e w' => e = .returned (.int .i64 (countB S : Nat)) ∧ Below w.heap.size w w' := by
  go_enter Tryz.func167, Tryz.ntmps167
  go_wp2
  go_loopw [3, 8] (fun n i wr => ∃ (k c : Nat), k ≤ S.length ∧ c ≤ k ∧ i = .int .i64 k ∧ n = .int .i64 c ∧ Below w.heap.size w wr ∧ Hid (c = countB (S.take k))) (fun _ i _ => S.length - (intOf i).toNat)
  case atStart => exact ⟨0, 0, Nat.zero_le _, Nat.le_refl _, rfl, rfl, Below.refl _ _, rfl⟩
  case round =>
    obtain ⟨k, c, hk, hc, rfl, rfl, hB, HC⟩ := hrel
    by_cases hlt : k < S.length
    · obtain ⟨h1, gw, ow, cw, h2, -⟩ := sents_cells (h.below hB) k hlt
      have HS : Hid (_ = _) := countB_step S k hlt
      by_cases h1b : (S.getD k (0, [])).1 = 1
      · have hb1 : (((S.getD k (0, [])).1 : Int) == 1) = true := by rw [h1b]; rfl
        have HQ : Hid ((S.getD k (0, [])).1 = 1) := h1b
        clear h1b
        generalize (S.getD k (0, [])).1 = op at *
        go_wp2
        go_roundw
        case rel => exact ⟨k + 1, c + 1, by omega, by omega, by go_num, by go_num, hB.alloc hB.size _, by unfold Hid; rw [HS.out, if_pos HQ.out, HC.out]⟩
        case measure => simp [intOf]; omega
      · have hb1 : (((S.getD k (0, [])).1 : Int) == 1) = false := by rw [beq_eq_false_iff_ne]; omega
        have HQ : Hid (¬ (S.getD k (0, [])).1 = 1) := h1b
        clear h1b
        generalize (S.getD k (0, [])).1 = op at *
        go_wp2
        go_roundw
        case rel => exact ⟨k + 1, c, by omega, by omega, by go_num, by go_num, hB.alloc hB.size _, by unfold Hid; rw [HS.out, if_neg HQ.out, HC.out]; rfl⟩
        case measure => simp [intOf]; omega
    · go_wp2
      go_ret
      have e := HC.out
      rw [List.take_of_length_le (by omega)] at e
      exact ⟨by rw [e]; rfl, hB⟩

/-- locals in memory -/
def LocAt (w : World) (v : Value) (ls : List (B × Nat)) : Prop := ∃ z, w.ownsRow z 146 2 v ls.length (locCells ls)
theorem LocAt.below {w w' : World} {v : Value} {ls : List (B × Nat)} (h : LocAt w v ls) (hb : Below w.heap.size w w') : LocAt w' v ls := by
  obtain ⟨z, h⟩ := h; exact ⟨z, own_below h hb⟩
theorem loc_cells {w : World} {v : Value} {ls : List (B × Nat)} (h : LocAt w v ls) : (ls = [] ∧ v = .slice none 0 0) ∨ ∃ g cap, v = .slice (some ⟨g, 0, none⟩) ls.length cap ∧ ls.length ≤ cap ∧ g < w.heap.size ∧ ∀ j, j < ls.length → w.cell? ⟨g, j * 2, none⟩ = some (.string (bs (ls.getD j ([], 0)).1)) ∧ w.cell? ⟨g, j * 2 + 1, none⟩ = some (.int .i64 ((ls.getD j ([], 0)).2 : Nat)) := by
  obtain ⟨z, h⟩ := h
  rcases h.2 with ⟨hv, hn⟩ | ⟨g, cap, cur, hv, hz, hg, hc, hm, hs, ht⟩
  · exact .inl ⟨List.eq_nil_of_length_eq_zero hn, hv⟩
  · refine .inr ⟨g, cap, hv, hc, lt_of_heap hg, fun j hj => ?_⟩
    have key : ∀ c, c < 2 → w.cell? ⟨g, j * 2 + c, none⟩ = (locCell (ls.getD j ([], 0)))[c]? := fun c hc2 => by
      rw [cell_of_heap hg]
      have : (cur.toList.take (ls.length * 2))[j * 2 + c]? = cur[j * 2 + c]? := by
        rw [List.getElem?_take, if_pos (by omega)]; simp
      rw [← this, ht, locCells, flat_get locCell 2 (fun _ => rfl) ls j c hc2]
      simp [hj]
    exact ⟨key 0 (by decide), key 1 (by decide)⟩
theorem findQ_drop (ls : List (B × Nat)) (n : B) (k : Nat) (hk : k < ls.length) : findQGo (ls.drop k) n k = if (ls.getD k ([], 0)).1 = n then (k : Int) else findQGo (ls.drop (k + 1)) n (k + 1) := by
  rw [List.drop_eq_getElem_cons hk, findQGo]
  have : ls.getD k ([], 0) = ls[k] := by simp [List.getD_eq_getElem?_getD, hk]
  rw [this]
/-- the closure -/
theorem isLocal_any (a n : B) (t : Int) (b : Nat) (w : World) (hn : w.cell? ⟨b, 0, none⟩ = some (.string (bs n))) (hb : b < w.heap.size) :
    Calls Tryz.prog 202 #[.agg #[.string (bs a), .int .i64 t], .pointer (some ⟨b, 0, none⟩)] w fun e w' => e = .returned (.bool (a == n)) ∧ Below w.heap.size w w' := by
  have ht := toList_bs a
  have ht2 := toList_bs n
  have hne : b ≠ w.heap.size := by omega
  go_enter Tryz.func202, Tryz.ntmps202
  go_wp2
  go_ret
  exact ⟨rfl, (Below.refl _ _).alloc (Nat.le_refl _) _⟩
set_option maxRecDepth 20000 in
theorem indexFunc_any (ls : List (B × Nat)) (v : Value) (n : B) (b : Nat) (w : World) (hv : LocAt w v ls) (hls : ls.length ≤ 4000) (hn : w.cell? ⟨b, 0, none⟩ = some (.string (bs n))) (hb : b < w.heap.size) :
    Calls Tryz.prog 201 #[v, .func (.func 202) #[] #[.pointer (some ⟨b, 0, none⟩)]] w fun e w' => e = .returned (.int .i64 (findQ ls n)) ∧ Below w.heap.size w w' := by
  rcases loc_cells hv with ⟨rfl, rfl⟩ | ⟨g, cap, rfl, hcap, hg, hcell⟩
  · go_enter Tryz.func201, Tryz.ntmps201
    go_wp2
    go_loopw [8] (fun i wr => i = .int .i64 0 ∧ wr = w) (fun _ _ => 0)
    case atStart => exact ⟨rfl, rfl⟩
    case round =>
      obtain ⟨rfl, rfl⟩ := hrel
      go_wp2
      go_ret
      exact ⟨rfl, Below.refl _ _⟩
  · have HF : Hid (findQ ls n = findQGo (ls.drop 0) n 0) := rfl
    go_enter Tryz.func201, Tryz.ntmps201
    go_wp2
    go_loopw [8] (fun i wr => ∃ k : Nat, k ≤ ls.length ∧ i = .int .i64 k ∧ Below w.heap.size w wr ∧ Hid (findQ ls n = findQGo (ls.drop k) n k)) (fun i _ => ls.length - (intOf i).toNat)
    case atStart => exact ⟨0, Nat.zero_le _, rfl, Below.refl _ _, HF⟩
    case round =>
      obtain ⟨k, hk, rfl, hB, HI⟩ := hrel
      by_cases hlt : k < ls.length
      · obtain ⟨h1, h2⟩ := hcell k hlt
        have c1 := (hB.cell (p := ⟨g, k * 2, none⟩) hg).trans h1
        have c2 := (hB.cell (p := ⟨g, k * 2 + 1, none⟩) hg).trans h2
        have cn := (hB.cell (p := ⟨b, 0, none⟩) hb).trans hn
        have HS : Hid (_ = _) := findQ_drop ls n k hlt
        have KL := isLocal_any (ls.getD k ([], 0)).1 n ((ls.getD k ([], 0)).2 : Nat) b wr cn (Nat.lt_of_lt_of_le hb hB.size)
        clear h1 h2 hcell
        generalize (ls.getD k ([], 0)).1 = a at *
        generalize (ls.getD k ([], 0)).2 = t at *
        by_cases hq : a = n
        · have hqb : (a == n) = true := by simp [hq]
          have HQ : Hid (a = n) := hq
          rw [hqb] at KL
          clear hq hqb
          go_wp2_with (go_at_call 202; refine KL.mono ?_; rintro e w1 ⟨rfl, hb1⟩)
          go_ret
          exact ⟨by rw [HI.out, HS.out, if_pos HQ.out]; rfl, hB.trans (hb1.mono hB.size)⟩
        · have hqb : (a == n) = false := by simp [hq]
          have HQ : Hid (¬ a = n) := hq
          rw [hqb] at KL
          clear hq hqb
          go_wp2_with (go_at_call 202; refine KL.mono ?_; rintro e w1 ⟨rfl, hb1⟩)
          go_roundw
          case rel => exact ⟨k + 1, by omega, by go_num, hB.trans (hb1.mono hB.size), by unfold Hid; rw [HI.out, HS.out, if_neg HQ.out]⟩
          case measure => simp [intOf]; omega
      · have e : findQ ls n = -1 := by rw [HI.out, List.drop_eq_nil_of_le (by omega)]; rfl
        go_wp2
        go_ret
        exact ⟨by rw [e]; rfl, hB⟩
set_option maxRecDepth 20000 in
theorem find_any (ls : List (B × Nat)) (v u : Value) (n : B) (a : Nat) (w : World) (hp : w.heap[a]? = some (.cells #[v, u] 110 (0, 0))) (hv : LocAt w v ls) (hls : ls.length ≤ 4000) :
    Calls Tryz.prog 168 #[.pointer (some ⟨a, 0, none⟩), .string (bs n)] w fun e w' => e = .returned (.int .i64 (findQ ls n)) ∧ Below w.heap.size w w' := by
  have hal : Below w.heap.size w (w.alloc (.cells #[.string (bs n)] 9)) := (Below.refl _ _).alloc (Nat.le_refl _) _
  have KI := indexFunc_any ls v n w.heap.size (w.alloc (.cells #[.string (bs n)] 9)) (hv.below hal) hls (by simp) (by simp)
  have hlt := lt_of_heap hp
  have hc : w.cell? ⟨a, 0, none⟩ = some v := by rw [cell_of_heap hp]; rfl
  have hne : a ≠ w.heap.size := by omega
  have hmf : ∀ (fn : Fn) (first cap : Array Value) (w : World), (Instr.makeFunc fn first cap).run Tryz.prog w = .ok (.func fn first cap) w := fun _ _ _ _ => rfl
  go_enter Tryz.func168, Tryz.ntmps168
  go_wp2_with (go_at_call 201; refine KI.mono ?_; rintro e w1 ⟨rfl, hb1⟩)
  go_ret
  exact ⟨rfl, hal.trans (hb1.mono hal.size)⟩
end Go.Proofs.YtmlgajhhnojdjaaGreatDoor.PrjO
