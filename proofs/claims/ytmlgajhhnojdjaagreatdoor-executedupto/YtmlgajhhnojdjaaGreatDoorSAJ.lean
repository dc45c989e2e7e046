/- Which lines may stand where, as the project's reader follows it. -/
import Derived.Test.YtmlgajhhnojdjaaGreatDoorSAI
import Derived.Deep.QuietTactic
import Derived.BigQuiet
import Derived.Test.YtmlgajhhnojdjaaGreatDoorSAH
namespace Go.Proofs.YtmlgajhhnojdjaaGreatDoor.PrjK
open Go Go.RowKit Go.Proofs.YtmlgajhhnojdjaaGreatDoor.Spec Go.Proofs.YtmlgajhhnojdjaaGreatDoor.Aux Go.Proofs.YtmlgajhhnojdjaaGreatDoor.PrjF Go.Proofs.YtmlgajhhnojdjaaGreatDoor.PrjG Go.Proofs.YtmlgajhhnojdjaaGreatDoor.PrjH Go.Proofs.YtmlgajhhnojdjaaGreatDoor.PrjI Go.Proofs.YtmlgajhhnojdjaaGreatDoor.PrjJ

/-- of what was there nothing but block b has turned -/
structure Turn (b : Nat) (w w' : World) : Prop where
  os : w'.os = w.os
  tape : w'.tape = w.tape
  output : w'.output = w.output
  size : w.heap.size ≤ w'.heap.size
  block : ∀ k, k < w.heap.size → k ≠ b → w'.heap[k]? = w.heap[k]?
theorem Turn.refl (b : Nat) (w : World) : Turn b w w := ⟨rfl, rfl, rfl, Nat.le_refl _, fun _ _ _ => rfl⟩
theorem Turn.setCell {b : Nat} {w w' : World} (h : Turn b w w') (o : Nat) (v : Value) : Turn b w (w'.setCell ⟨b, o, none⟩ v) :=
  ⟨h.os, h.tape, h.output, by simpa using h.size, fun k hk hk' => by rw [Below.heap_setCell _ _ _ _ (by show k ≠ b; exact hk')]; exact h.block k hk hk'⟩
theorem Turn.on {b : Nat} {w w1 w2 : World} (h : Turn b w w1) (hb : Below w1.heap.size w1 w2) : Turn b w w2 :=
  ⟨hb.os.trans h.os, hb.tape.trans h.tape, hb.output.trans h.output, Nat.le_trans h.size hb.size, fun k hk hk' => (hb.block k (Nat.lt_of_lt_of_le hk h.size)).trans (h.block k hk hk')⟩
theorem Turn.drewN {b : Nat} {w w1 : World} (h : Turn b w w1) (n : Nat) : Turn b w (w1.drewN n) := h.on (below_drewN (Below.refl _ _) n)
theorem Turn.of {b : Nat} {w w1 : World} (h : Below w.heap.size w w1) : Turn b w w1 := (Turn.refl b w).on h
theorem Turn.below {b B : Nat} {w w' : World} (h : Turn b w w') (hB : B ≤ b) (hb : B ≤ w.heap.size) : Below B w w' := ⟨h.os, h.tape, h.output, h.size, fun k hk => h.block k (by omega) (by omega)⟩
/-- the order in memory -/
def OrdAt (w : World) (b : Nat) (raw : Bool) (ln mb : Nat) (o : OrdP) : Prop :=
  w.heap[b]? = some (.cells #[.bool raw, .int .i64 ln, .int .i64 mb, .int .i64 o.sec, .int .i64 o.locals, .int .i64 o.blocks] 238 (0, 0))
theorem OrdAt.facts {w : World} {b : Nat} {raw : Bool} {ln mb : Nat} {o : OrdP} (h : OrdAt w b raw ln mb o) :
    w.cell? ⟨b, 0, none⟩ = some (.bool raw) ∧ w.cell? ⟨b, 1, none⟩ = some (.int .i64 ln) ∧ w.cell? ⟨b, 2, none⟩ = some (.int .i64 mb) ∧ w.cell? ⟨b, 3, none⟩ = some (.int .i64 o.sec) ∧ w.cell? ⟨b, 4, none⟩ = some (.int .i64 o.locals) ∧ w.cell? ⟨b, 5, none⟩ = some (.int .i64 o.blocks) ∧
    w.frozen? ⟨b, 3, none⟩ = false ∧ w.frozen? ⟨b, 4, none⟩ = false ∧ w.frozen? ⟨b, 5, none⟩ = false := by
  unfold OrdAt at h
  exact ⟨by rw [cell_of_heap h]; rfl, by rw [cell_of_heap h]; rfl, by rw [cell_of_heap h]; rfl, by rw [cell_of_heap h]; rfl, by rw [cell_of_heap h]; rfl, by rw [cell_of_heap h]; rfl, frozen_of_heap h 3, frozen_of_heap h 4, frozen_of_heap h 5⟩
theorem OrdAt.below {w w' : World} {b : Nat} {raw : Bool} {ln mb : Nat} {o : OrdP} (h : OrdAt w b raw ln mb o) {B : Nat} (hb : Below B w w') (hB : b < B) : OrdAt w' b raw ln mb o := by
  unfold OrdAt; rw [hb.block b hB]; exact h
theorem OrdAt.drewN {w : World} {b : Nat} {raw : Bool} {ln mb : Nat} {o : OrdP} (h : OrdAt w b raw ln mb o) (n : Nat) : OrdAt (w.drewN n) b raw ln mb o := h
theorem OrdAt.set {w : World} {b : Nat} {raw : Bool} {ln mb : Nat} {o : OrdP} (h : OrdAt w b raw ln mb o) :
    (∀ n : Nat, OrdAt (w.setCell ⟨b, 3, none⟩ (.int .i64 n)) b raw ln mb ⟨n, o.locals, o.blocks⟩) ∧ (∀ n : Nat, OrdAt (w.setCell ⟨b, 4, none⟩ (.int .i64 n)) b raw ln mb ⟨o.sec, n, o.blocks⟩) ∧ (∀ n : Nat, OrdAt (w.setCell ⟨b, 5, none⟩ (.int .i64 n)) b raw ln mb ⟨o.sec, o.locals, n⟩) := by
  unfold OrdAt at h ⊢
  exact ⟨fun n => by rw [Go.Proofs.YtmlgajhhnojdjaaGreatDoor.Aux.heap_setCell_same h 3]; rfl, fun n => by rw [Go.Proofs.YtmlgajhhnojdjaaGreatDoor.Aux.heap_setCell_same h 4]; rfl, fun n => by rw [Go.Proofs.YtmlgajhhnojdjaaGreatDoor.Aux.heap_setCell_same h 5]; rfl⟩
theorem has_any (raw : Bool) (ln mb op : Nat) (w : World) :
    Calls Tryz.prog 198 #[.agg #[.bool raw, .int .i64 ln, .int .i64 mb], .int .i64 op] w fun e w' => e = .returned (.bool (hasP raw op)) ∧ Below w.heap.size w w' := by
  have hb : Below w.heap.size w (w.alloc (.cells #[.bool raw, .int .i64 ln, .int .i64 mb] 130)) := (Below.refl _ _).alloc (Nat.le_refl _) _
  have hx : op = 15 ∨ op = 16 ∨ op = 17 ∨ op = 21 ∨ (¬ op = 15 ∧ ¬ op = 16 ∧ ¬ op = 17 ∧ ¬ op = 21) := by omega
  rcases hx with rfl | rfl | rfl | rfl | ⟨h1, h2, h3, h4⟩
  iterate 4
    · go_enter Tryz.func198, Tryz.ntmps198
      go_wp2
      go_ret
      exact ⟨rfl, hb⟩
  · have hh : hasP raw op = true := by simp [hasP, h1, h2, h3, h4]
    have b1 : ((op : Int) == 15) = false := by rw [beq_eq_false_iff_ne]; omega
    have b2 : ((op : Int) == 16) = false := by rw [beq_eq_false_iff_ne]; omega
    have b3 : ((op : Int) == 17) = false := by rw [beq_eq_false_iff_ne]; omega
    have b4 : ((op : Int) == 21) = false := by rw [beq_eq_false_iff_ne]; omega
    rw [hh]
    clear h1 h2 h3 h4 hh
    go_enter Tryz.func198, Tryz.ntmps198
    go_wp2
    go_ret
    exact ⟨rfl, hb⟩
theorem term_any (op : Nat) (w : World) :
    Calls Tryz.prog 199 #[.int .i64 op] w fun e w' => e = .returned (.bool (decide (18 ≤ op))) ∧ w' = w := by
  by_cases h : 18 ≤ op
  all_goals
    go_enter Tryz.func199, Tryz.ntmps199
    go_wp2
    go_ret
    exact ⟨by first | (simp [h]; done) | (simp [h]; omega), rfl⟩
/-- what admits hands back -/
def AdmitsPost (raw : Bool) (ln mb b op : Nat) (o : OrdP) (w : World) (e : Ending) (w' : World) : Prop :=
  e = .returned (.bool (admitsP raw o op).2) ∧ OrdAt w' b raw ln mb (admitsP raw o op).1 ∧ Turn b w w'
set_option maxRecDepth 20000 in
theorem admits_any (raw : Bool) (ln b op : Nat) (o : OrdP) (w : World) (h : OrdAt w b raw ln (if raw then 2000 else 20) o) (hop : op < 23) (hl : o.locals ≤ 100000) (hbk : o.blocks ≤ 100000) (hlt : b < w.heap.size) :
    Calls Tryz.prog 164 #[.pointer (some ⟨b, 0, none⟩), .int .i64 op] w (AdmitsPost raw ln (if raw then 2000 else 20) b op o w) := by
  have KH := fun w' => has_any raw ln (if raw then 2000 else 20) op w'
  obtain ⟨c0, c1, c2, c3, c4, c5, f3, f4, f5⟩ := h.facts
  by_cases hh : hasP raw op = false
  · have e : admitsP raw o op = (o, false) := by rw [admitsP, if_pos hh]
    have P : ∀ w', Below w.heap.size w w' → AdmitsPost raw ln (if raw then 2000 else 20) b op o w (.returned (.bool false)) w' := fun w' hb => ⟨by rw [e], by rw [e]; exact h.below hb hlt, Turn.of hb⟩
    rw [hh] at KH
    clear e hh
    generalize (if raw then 2000 else 20 : Nat) = mb at *
    go_enter Tryz.func164, Tryz.ntmps164
    go_wp2_with (go_at_call 198; refine (KH _).mono ?_; rintro e w1 ⟨rfl, hb⟩)
    go_ret
    exact P _ hb
  · rw [Bool.not_eq_false] at hh
    have e0 : admitsP raw o op = if op = 0 then (⟨o.sec, o.locals + 1, o.blocks⟩, o.sec == 0 && decide (o.locals + 1 ≤ 12))
        else if op = 1 then (⟨1, o.locals, o.blocks + 1⟩, decide (0 < o.locals) && !(o.sec == 1) && decide (o.blocks + 1 ≤ if raw then 2000 else 20))
        else if ¬ o.sec = 1 then (o, false) else if 18 ≤ op then (⟨2, o.locals, o.blocks⟩, true) else (o, true) := by
      rw [admitsP, if_neg (by simp [hh])]
    rw [hh] at KH
    clear hh
    by_cases h0 : op = 0
    · rw [if_pos h0] at e0
      have hop0 : ((op : Int) == 0) = true := by simp [h0]
      have P : ∀ (bl : Bool) w', bl = (o.sec == 0 && decide (o.locals + 1 ≤ 12)) → OrdAt w' b raw ln (if raw then 2000 else 20) ⟨o.sec, o.locals + 1, o.blocks⟩ → Turn b w w' → AdmitsPost raw ln (if raw then 2000 else 20) b op o w (.returned (.bool bl)) w' := fun bl w' hbl ho hb => ⟨by rw [e0, hbl], by rw [e0]; exact ho, hb⟩
      clear e0 h0
      generalize (if raw then 2000 else 20 : Nat) = mb at *
      by_cases hs0 : o.sec = 0
      · have hs : ((o.sec : Int) == 0) = true := by simp [hs0]
        by_cases hl12 : o.locals + 1 ≤ 12
        all_goals
          go_enter Tryz.func164, Tryz.ntmps164
          go_wp2_with (go_at_call 198; refine (KH _).mono ?_; rintro e w1 ⟨rfl, hb⟩; have h1 := h.below hb hlt; obtain ⟨d0, d1, d2, d3, d4, d5, g3, g4, g5⟩ := h1.facts)
          go_ret
          exact P _ _ (by first | (simp [hs0, hl12]; done) | (simp [hs0, hl12]; omega)) (h1.set.2.1 (o.locals + 1)) ((Turn.of hb).setCell 4 _)
      · have hs : ((o.sec : Int) == 0) = false := by rw [beq_eq_false_iff_ne]; omega
        go_enter Tryz.func164, Tryz.ntmps164
        go_wp2_with (go_at_call 198; refine (KH _).mono ?_; rintro e w1 ⟨rfl, hb⟩; have h1 := h.below hb hlt; obtain ⟨d0, d1, d2, d3, d4, d5, g3, g4, g5⟩ := h1.facts)
        go_ret
        exact P _ _ (by first | (simp [hs0]; done) | (simp [hs0]; omega)) (h1.set.2.1 (o.locals + 1)) ((Turn.of hb).setCell 4 _)
    · rw [if_neg h0] at e0
      have hop0 : ((op : Int) == 0) = false := by rw [beq_eq_false_iff_ne]; omega
      by_cases h1 : op = 1
      · rw [if_pos h1] at e0
        have hop1 : ((op : Int) == 1) = true := by simp [h1]
        have P : ∀ (bl : Bool) w', bl = (decide (0 < o.locals) && !(o.sec == 1) && decide (o.blocks + 1 ≤ if raw then 2000 else 20)) → OrdAt w' b raw ln (if raw then 2000 else 20) ⟨1, o.locals, o.blocks + 1⟩ → Turn b w w' → AdmitsPost raw ln (if raw then 2000 else 20) b op o w (.returned (.bool bl)) w' := fun bl w' hbl ho hb => ⟨by rw [e0, hbl], by rw [e0]; exact ho, hb⟩
        clear e0 h0 h1
        generalize (if raw then 2000 else 20 : Nat) = mb at *
        by_cases hl0 : 0 < o.locals
        · by_cases hs1 : o.sec = 1
          · have hs : ((o.sec : Int) == 1) = true := by simp [hs1]
            go_enter Tryz.func164, Tryz.ntmps164
            go_wp2_with (go_at_call 198; refine (KH _).mono ?_; rintro e w1 ⟨rfl, hb⟩; have h1 := h.below hb hlt; obtain ⟨d0, d1, d2, d3, d4, d5, g3, g4, g5⟩ := h1.facts)
            go_quiet (fail)
            go_wp2
            go_ret
            exact P _ _ (by first | (simp [hs1]; done) | (simp [hs1]; omega)) (((h1.set.1 1).set.2.2 (o.blocks + 1)).drewN nq) ((((Turn.of hb).setCell 3 _).setCell 5 _).drewN nq)
          · have hs : ((o.sec : Int) == 1) = false := by rw [beq_eq_false_iff_ne]; omega
            have hsn : ((o.sec : Int) != 1) = true := by rw [bne, hs]; rfl
            by_cases hmb : o.blocks + 1 ≤ mb
            all_goals
              go_enter Tryz.func164, Tryz.ntmps164
              go_wp2_with (go_at_call 198; refine (KH _).mono ?_; rintro e w1 ⟨rfl, hb⟩; have h1 := h.below hb hlt; obtain ⟨d0, d1, d2, d3, d4, d5, g3, g4, g5⟩ := h1.facts)
              have hO : OrdAt ((w1.setCell ⟨b, 3, none⟩ (.int .i64 1)).setCell ⟨b, 5, none⟩ (.int .i64 ((o.blocks : Int) + 1))) b raw ln mb ⟨1, o.locals, o.blocks + 1⟩ := (h1.set.1 1).set.2.2 (o.blocks + 1)
              have hT : Turn b w ((w1.setCell ⟨b, 3, none⟩ (.int .i64 1)).setCell ⟨b, 5, none⟩ (.int .i64 ((o.blocks : Int) + 1))) := ((Turn.of hb).setCell 3 _).setCell 5 _
              generalize ((w1.setCell ⟨b, 3, none⟩ (.int .i64 1)).setCell ⟨b, 5, none⟩ (.int .i64 ((o.blocks : Int) + 1))) = W at hO hT ⊢
              clear d0 d1 d2 d3 d4 d5 g3 g4 g5 c0 c1 c2 c3 c4 c5 f3 f4 f5
              obtain ⟨d0, d1, d2, d3, d4, d5, g3, g4, g5⟩ := hO.facts
              simp only [Int.natCast_add, Int.cast_ofNat_Int] at d5
              go_quiet (fail)
              go_wp2
              go_ret
              exact P _ _ (by rw [show (o.sec == 1) = false by simpa using hs1, decide_eq_true hl0, Bool.eq_iff_iff]; simp only [Bool.true_and, Bool.not_false, decide_eq_true_eq]; omega) (hO.drewN nq) (hT.drewN nq)
        · go_enter Tryz.func164, Tryz.ntmps164
          go_wp2_with (go_at_call 198; refine (KH _).mono ?_; rintro e w1 ⟨rfl, hb⟩; have h1 := h.below hb hlt; obtain ⟨d0, d1, d2, d3, d4, d5, g3, g4, g5⟩ := h1.facts)
          go_quiet (fail)
          go_wp2
          go_ret
          exact P _ _ (by first | (simp [hl0]; done) | (simp [hl0]; omega)) (((h1.set.1 1).set.2.2 (o.blocks + 1)).drewN nq) ((((Turn.of hb).setCell 3 _).setCell 5 _).drewN nq)
      · rw [if_neg h1] at e0
        have hop1 : ((op : Int) == 1) = false := by rw [beq_eq_false_iff_ne]; omega
        by_cases hs1 : o.sec = 1
        · rw [if_neg (by simp [hs1])] at e0
          have hs : ((o.sec : Int) == 1) = true := by simp [hs1]
          have KT := fun w' => term_any op w'
          by_cases h18 : 18 ≤ op
          · rw [if_pos h18] at e0
            have P : ∀ w', OrdAt w' b raw ln (if raw then 2000 else 20) ⟨2, o.locals, o.blocks⟩ → Turn b w w' → AdmitsPost raw ln (if raw then 2000 else 20) b op o w (.returned (.bool true)) w' := fun w' ho hb => ⟨by rw [e0], by rw [e0]; exact ho, hb⟩
            have hd : decide (18 ≤ op) = true := by simp [h18]
            rw [hd] at KT
            clear e0 h0 h1 hs1 hd
            generalize (if raw then 2000 else 20 : Nat) = mb at *
            go_enter Tryz.func164, Tryz.ntmps164
            go_wp2_with (first | (go_at_call 198; refine (KH _).mono ?_; rintro e w1 ⟨rfl, hb⟩; have h1 := h.below hb hlt; obtain ⟨d0, d1, d2, d3, d4, d5, g3, g4, g5⟩ := h1.facts) | (go_at_call 199; refine (KT _).mono ?_; rintro e w2 ⟨rfl, rfl⟩))
            go_ret
            exact P _ (h1.set.1 2) ((Turn.of hb).setCell 3 _)
          · rw [if_neg h18] at e0
            have P : ∀ w', OrdAt w' b raw ln (if raw then 2000 else 20) o → Turn b w w' → AdmitsPost raw ln (if raw then 2000 else 20) b op o w (.returned (.bool true)) w' := fun w' ho hb => ⟨by rw [e0], by rw [e0]; exact ho, hb⟩
            have hd : decide (18 ≤ op) = false := by simp; omega
            rw [hd] at KT
            clear e0 h0 h1 hs1 hd
            generalize (if raw then 2000 else 20 : Nat) = mb at *
            go_enter Tryz.func164, Tryz.ntmps164
            go_wp2_with (first | (go_at_call 198; refine (KH _).mono ?_; rintro e w1 ⟨rfl, hb⟩; have h1 := h.below hb hlt; obtain ⟨d0, d1, d2, d3, d4, d5, g3, g4, g5⟩ := h1.facts) | (go_at_call 199; refine (KT _).mono ?_; rintro e w2 ⟨rfl, rfl⟩))
            go_ret
            exact P _ h1 (Turn.of hb)
        · rw [if_pos hs1] at e0
          have hs : ((o.sec : Int) == 1) = false := by rw [beq_eq_false_iff_ne]; omega
          have P : ∀ w', OrdAt w' b raw ln (if raw then 2000 else 20) o → Turn b w w' → AdmitsPost raw ln (if raw then 2000 else 20) b op o w (.returned (.bool false)) w' := fun w' ho hb => ⟨by rw [e0], by rw [e0]; exact ho, hb⟩
          clear e0 h0 h1 hs1
          generalize (if raw then 2000 else 20 : Nat) = mb at *
          go_enter Tryz.func164, Tryz.ntmps164
          go_wp2_with (go_at_call 198; refine (KH _).mono ?_; rintro e w1 ⟨rfl, hb⟩; have h1 := h.below hb hlt; obtain ⟨d0, d1, d2, d3, d4, d5, g3, g4, g5⟩ := h1.facts)
          go_ret
          exact P _ h1 (Turn.of hb)
theorem done_any (raw : Bool) (ln mb b : Nat) (o : OrdP) (w : World) (h : OrdAt w b raw ln mb o) :
    Calls Tryz.prog 165 #[.pointer (some ⟨b, 0, none⟩)] w fun e w' => e = .returned (.bool (decide (o.sec = 2))) ∧ w' = w := by
  obtain ⟨c0, c1, c2, c3, c4, c5, f3, f4, f5⟩ := h.facts
  go_enter Tryz.func165, Tryz.ntmps165
  go_wp2
  go_ret
  refine ⟨?_, rfl⟩
  rw [show (decide (o.sec = 2)) = ((o.sec : Int) == 2) from ?_]
  · rfl
  · rw [Bool.eq_iff_iff]; simp; omega
end Go.Proofs.YtmlgajhhnojdjaaGreatDoor.PrjK
/- Rows whose elements have several cells: one element appended, one element read; what a row holds is not turned by another type's row. -/
namespace Go.Proofs.YtmlgajhhnojdjaaGreatDoor.Aux
open Go Go.RowKit Go.Proofs.YtmlgajhhnojdjaaGreatDoor.Spec

section
variable {P : Program} {w : World} {ops : Array Oper} {rest : List Oper} {o : Oper} {a : Act} {Q : Exit → Act → World → Prop}
theorem append_blk (hgd : o.guard = none) (s x : Operand) (t : TypeId)
    (ho : o.op = .call { callee := .builtin .append, args := #[s, x], argTypes := #[t, t] })
    (base : Nat) (e : TypeId) (i : TypeInfo) (z : Value) (size bytes : Nat) (ht : P.underlying t = some (.slice e)) (hi : P.info? e = some i) (hz : i.zero = some z)
    (hsize : i.size = size) (hby : i.bytes = bytes) (hzs : z.cells.size = size) (hsz : 0 < size)
    (v : Value) (n : Nat) (xs : List Value) (hs : a.eval s = v) (hown : w.ownsRow base e size v n xs)
    (g0 : Nat) (us : List Value) (hx : a.eval x = .slice (some ⟨g0, 0, none⟩) 1 1) {e' : TypeId} {fr : Nat × Nat} (hblk : w.heap[g0]? = some (.cells us.toArray e' fr)) (hul : us.length = size) (h1 : ∀ u ∈ us, u.oneCell' = true)
    (hb1 : 1 ≤ bytes) (hbytes : (n + 1) * bytes ≤ 140737488355328) (hbase : base ≤ w.heap.size)
    (h : ∀ g cap w', w'.ownsRow base e size (.slice (some ⟨g, 0, none⟩) (n + 1) cap) (n + 1) (xs ++ us) → w.grownBy w' v.ownBlock → (v.ownBlock = some g ∨ g = w.heap.size) → g < w'.heap.size → wpList P ops Q rest (a.put o.dst (.slice (some ⟨g, 0, none⟩) (n + 1) cap)) w') : wpList P ops Q (o :: rest) a w := by
  refine wpList_append_lies _ hgd s x t ho base e i z size bytes ht hi hz hsize hby hzs hsz v n xs hs hown ⟨g0, 0, none⟩ 1 1 us hx (by omega) ?_ h1 (by decide) ?_ hbytes hbase w.heap.size rfl h
  · exact World.news_of_block hblk
  · have : n + 1 ≤ (n + 1) * bytes := Nat.le_mul_of_pos_right _ hb1
    unfold maxLen; omega
theorem step_blk {K : Act → World → Prop} {E : Prop} (hgd : o.guard = none) (s x : Operand) (t : TypeId)
    (ho : o.op = .call { callee := .builtin .append, args := #[s, x], argTypes := #[t, t] })
    (base : Nat) (e : TypeId) (i : TypeInfo) (z : Value) (size bytes : Nat) (ht : P.underlying t = some (.slice e)) (hi : P.info? e = some i) (hz : i.zero = some z)
    (hsize : i.size = size) (hby : i.bytes = bytes) (hzs : z.cells.size = size) (hsz : 0 < size)
    (v : Value) (n : Nat) (xs : List Value) (hs : a.eval s = v) (hown : w.ownsRow base e size v n xs)
    (g0 : Nat) (us : List Value) (hx : a.eval x = .slice (some ⟨g0, 0, none⟩) 1 1) {e' : TypeId} {fr : Nat × Nat} (hblk : w.heap[g0]? = some (.cells us.toArray e' fr)) (hul : us.length = size) (h1 : ∀ u ∈ us, u.oneCell' = true)
    (hb1 : 1 ≤ bytes) (hbytes : (n + 1) * bytes ≤ 140737488355328) (hbase : base ≤ w.heap.size)
    (h : ∀ g cap w', w'.ownsRow base e size (.slice (some ⟨g, 0, none⟩) (n + 1) cap) (n + 1) (xs ++ us) → w.grownBy w' v.ownBlock → (v.ownBlock = some g ∨ g = w.heap.size) → g < w'.heap.size → K (a.put o.dst (.slice (some ⟨g, 0, none⟩) (n + 1) cap)) w') :
    if Region.wanted o (yielded ops a.tmps) = true then Oper.wp P o a w K Q else E := by
  refine step_append_lies _ hgd s x t ho base e i z size bytes ht hi hz hsize hby hzs hsz v n xs hs hown ⟨g0, 0, none⟩ 1 1 us hx (by omega) ?_ h1 (by decide) ?_ hbytes hbase w.heap.size rfl h
  · exact World.news_of_block hblk
  · have : n + 1 ≤ (n + 1) * bytes := Nat.le_mul_of_pos_right _ hb1
    unfold maxLen; omega
end
/-- a row of elements of m cells each, cell by cell -/
theorem flat_get {α : Type} (f : α → List Value) (m : Nat) (hf : ∀ x, (f x).length = m) : ∀ (l : List α) (j c : Nat), c < m → (l.flatMap f)[j * m + c]? = (l[j]?).bind fun x => (f x)[c]?
  | [], j, c, _ => by simp
  | x :: l, 0, c, hc => by
    rw [List.flatMap_cons, Nat.zero_mul, Nat.zero_add, List.getElem?_append_left (by rw [hf]; exact hc)]; rfl
  | x :: l, j + 1, c, hc => by
    have e : (j + 1) * m + c = m + (j * m + c) := by rw [Nat.add_mul]; omega
    rw [List.flatMap_cons, e, List.getElem?_append_right (by rw [hf]; omega), hf, Nat.add_sub_cancel_left, flat_get f m hf l j c hc]; rfl
theorem flat_len {α : Type} (f : α → List Value) (m : Nat) (hf : ∀ x, (f x).length = m) : ∀ (l : List α), (l.flatMap f).length = l.length * m
  | [] => by simp
  | x :: l => by rw [List.flatMap_cons, List.length_append, hf, flat_len f m hf l, List.length_cons, Nat.add_mul]; omega
theorem own_cell {w : World} {base : Nat} {e : TypeId} {size : Nat} {v : Value} {n : Nat} {xs : List Value} (h : w.ownsRow base e size v n xs) (hn : 0 < n) :
    ∃ g cap, v = .slice (some ⟨g, 0, none⟩) n cap ∧ n ≤ cap ∧ g < w.heap.size ∧ ∀ j, j < n * size → w.cell? ⟨g, j, none⟩ = xs[j]? := by
  have hl := h.lt
  obtain ⟨h0, h⟩ := h
  rcases h with ⟨-, h⟩ | ⟨g, cap, cur, rfl, hb, hg, hc, hm, hs, ht⟩
  · omega
  · refine ⟨g, cap, rfl, hc, (hl g rfl).2, fun j hj => ?_⟩
    rw [cell_of_heap hg]
    have : (cur.toList.take (n * size))[j]? = cur[j]? := by
      rw [List.getElem?_take, if_pos hj]; simp
    rw [← this, ht]
end Go.Proofs.YtmlgajhhnojdjaaGreatDoor.Aux
/- Sentences in memory: what the project's reader makes of all lines, form by form. -/
namespace Go.Proofs.YtmlgajhhnojdjaaGreatDoor.PrjL
open Go Go.RowKit Go.Proofs.YtmlgajhhnojdjaaGreatDoor.Spec Go.Proofs.YtmlgajhhnojdjaaGreatDoor.Aux Go.Proofs.YtmlgajhhnojdjaaGreatDoor.PrjF Go.Proofs.YtmlgajhhnojdjaaGreatDoor.PrjG Go.Proofs.YtmlgajhhnojdjaaGreatDoor.PrjH Go.Proofs.YtmlgajhhnojdjaaGreatDoor.PrjI Go.Proofs.YtmlgajhhnojdjaaGreatDoor.PrjJ Go.Proofs.YtmlgajhhnojdjaaGreatDoor.PrjK

theorem admitsP_few (raw : Bool) (o : OrdP) (op : Nat) : (admitsP raw o op).1.locals ≤ o.locals + 1 ∧ (admitsP raw o op).1.blocks ≤ o.blocks + 1 := by
  unfold admitsP
  repeat (first | (split; (first | exact ⟨by simp, by simp⟩ | skip)) | exact ⟨by simp, by simp⟩)
/-- where the reader of lines stands behind k of them -/
structure Along (raw : Bool) (LS : List (List B)) (k : Nat) (done : List (Nat × List B)) (o : OrdP) : Prop where
  same : splitGo raw LS ⟨0, 0, 0⟩ 0 = (done ++ (splitGo raw (LS.drop k) o k).1, (splitGo raw (LS.drop k) o k).2)
  len : done.length = k
  sec : o.sec ≤ 2
  few : o.locals ≤ k ∧ o.blocks ≤ k
theorem Along.start (raw : Bool) (LS : List (List B)) : Along raw LS 0 [] ⟨0, 0, 0⟩ := ⟨rfl, rfl, by simp, by simp⟩
theorem Along.bad {raw : Bool} {LS : List (List B)} {k : Nat} {done : List (Nat × List B)} {o : OrdP} (h : Along raw LS k done o) (hk : k < LS.length) (hs : sentP LS[k] = none) : (splitGo raw LS ⟨0, 0, 0⟩ 0).2.2 = some k := by
  rw [h.same, List.drop_eq_getElem_cons hk, splitGo, hs]
theorem Along.out {raw : Bool} {LS : List (List B)} {k : Nat} {done : List (Nat × List B)} {o : OrdP} (h : Along raw LS k done o) (hk : k < LS.length) {x : Nat × List B} (hs : sentP LS[k] = some x) (ha : (admitsP raw o x.1).2 = false) : (splitGo raw LS ⟨0, 0, 0⟩ 0).2.2 = some k := by
  rw [h.same, List.drop_eq_getElem_cons hk, splitGo, hs]
  simp only
  rw [if_neg (by rw [ha]; simp)]
theorem Along.on {raw : Bool} {LS : List (List B)} {k : Nat} {done : List (Nat × List B)} {o : OrdP} (h : Along raw LS k done o) (hk : k < LS.length) {x : Nat × List B} (hs : sentP LS[k] = some x) (ha : (admitsP raw o x.1).2 = true) : Along raw LS (k + 1) (done ++ [x]) (admitsP raw o x.1).1 := by
  refine ⟨?_, by simp [h.len], admitsP_sec raw o x.1 h.sec, ?_⟩
  · rw [h.same, List.drop_eq_getElem_cons hk, splitGo, hs]
    simp only
    rw [if_pos ha]
    simp
  · have := admitsP_few raw o x.1
    have := h.few
    omega
theorem Along.whole {raw : Bool} {LS : List (List B)} {k : Nat} {done : List (Nat × List B)} {o : OrdP} (h : Along raw LS k done o) (hk : ¬ k < LS.length) : splitGo raw LS ⟨0, 0, 0⟩ 0 = (done, o, none) := by
  rw [h.same, List.drop_eq_nil_of_le (by omega), splitGo]; simp

/-- sentences in memory: a row of the call's own, each with its words -/
def sentCells (S : List (Nat × List B)) (vs : List Value) : List Value := (S.zip vs).flatMap fun x => [.int .i64 (x.1.1 : Nat), x.2]
structure SentsAt (z : Nat) (w : World) (v : Value) (S : List (Nat × List B)) (vs : List Value) : Prop where
  len : vs.length = S.length
  row : w.ownsRow z 240 2 v S.length (sentCells S vs)
  each : ∀ j, j < S.length → WordsAt w (vs.getD j undef) (S.getD j (0, [])).2
theorem SentsAt.nil (z : Nat) (w : World) : SentsAt z w (.slice none 0 0) [] [] := ⟨rfl, World.ownsRow_nil _ _ _ _, fun j hj => by simp at hj⟩
theorem SentsAt.below {z : Nat} {w w' : World} {v : Value} {S : List (Nat × List B)} {vs : List Value} (h : SentsAt z w v S vs) (hb : Below w.heap.size w w') : SentsAt z w' v S vs :=
  ⟨h.len, own_below h.row hb, fun j hj => (h.each j hj).below hb⟩
theorem words_heap {w w' : World} {v : Value} {L : List B} (h : WordsAt w v L) (hb : ∀ (g : Nat) (cs : Array Value) (f : Nat × Nat), w.heap[g]? = some (.cells cs 9 f) → w'.heap[g]? = w.heap[g]?) : WordsAt w' v L := by
  obtain ⟨g, o, cap, rfl, hc, ⟨cs, f, hg⟩, hcell⟩ := h
  have e := hb g cs f hg
  refine ⟨g, o, cap, rfl, hc, ⟨cs, f, e.trans hg⟩, fun j hj => ?_⟩
  have := hcell j hj
  simp only [World.cell?] at this ⊢
  rw [e]; exact this
/-- what lies in a row of another type is not turned by an append -/
theorem own_type_ne {w : World} {z : Nat} {e e' : TypeId} {size : Nat} {v : Value} {n : Nat} {xs : List Value} (h : w.ownsRow z e size v n xs) {g : Nat} {cs : Array Value} {f : Nat × Nat} (hg : w.heap[g]? = some (.cells cs e' f)) (he : e ≠ e') : some g ≠ v.ownBlock :=
  fun x => own_at_ne h hg he x.symm
theorem SentsAt.turn {z b : Nat} {w w' : World} {v : Value} {S : List (Nat × List B)} {vs : List Value} (h : SentsAt z w v S vs) (hb : Turn b w w') {cs : Array Value} {f : Nat × Nat} (ho : w.heap[b]? = some (.cells cs 238 f)) : SentsAt z w' v S vs := by
  have key : ∀ (g : Nat) (cs' : Array Value) (e' : TypeId) (f' : Nat × Nat), w.heap[g]? = some (.cells cs' e' f') → e' ≠ 238 → w'.heap[g]? = w.heap[g]? := fun g cs' e' f' hg he => hb.block g (lt_of_heap hg) (fun x => by
    subst x; rw [ho] at hg; simp only [Option.some.injEq, Obj.cells.injEq] at hg; exact he hg.2.1.symm)
  refine ⟨h.len, own_heap h.row (fun g hg => ?_), fun j hj => words_heap (h.each j hj) fun g cs' f' hg => key g cs' _ f' hg (by decide)⟩
  rcases h.row.2 with ⟨rfl, -⟩ | ⟨g', cap, cur, rfl, -, hg', -⟩
  · cases hg
  · simp only [Value.ownBlock, Option.some.injEq] at hg
    subst hg
    exact key _ _ _ _ hg' (by decide)
/-- a sentence more -/
theorem SentsAt.more {z : Nat} {w w2 w3 : World} {v v' u : Value} {S : List (Nat × List B)} {vs : List Value} (h : SentsAt z w v S vs) (x : Nat × List B) (hu : WordsAt w u x.2) (h2 : Below w.heap.size w w2)
    (h3 : w3.ownsRow z 240 2 v' (S.length + 1) (sentCells S vs ++ [.int .i64 (x.1 : Nat), u])) (hg : w2.grownBy w3 v.ownBlock) : SentsAt z w3 v' (S ++ [x]) (vs ++ [u]) := by
  have H := h.below h2
  have hu2 := hu.below h2
  have keep : ∀ (g : Nat) (cs : Array Value) (f : Nat × Nat), w2.heap[g]? = some (.cells cs 9 f) → w3.heap[g]? = w2.heap[g]? := fun g cs f hgg => hg.block g (lt_of_heap hgg) (own_type_ne H.row hgg (by decide))
  refine ⟨by simp [h.len], ?_, fun j hj => ?_⟩
  · have : sentCells (S ++ [x]) (vs ++ [u]) = sentCells S vs ++ [.int .i64 (x.1 : Nat), u] := by
      unfold sentCells
      rw [List.zip_append h.len.symm]
      simp
    rw [this]
    simpa using h3
  · simp at hj
    by_cases hlt : j < S.length
    · have e1 : (vs ++ [u]).getD j undef = vs.getD j undef := by simp [List.getD_eq_getElem?_getD, List.getElem?_append, h.len, hlt]
      have e2 : (S ++ [x]).getD j (0, []) = S.getD j (0, []) := by simp [List.getD_eq_getElem?_getD, List.getElem?_append, hlt]
      rw [e1, e2]
      exact words_heap (H.each j hlt) keep
    · obtain rfl : j = S.length := by omega
      have e1 : (vs ++ [u]).getD S.length undef = u := by simp [List.getD_eq_getElem?_getD, ← h.len]
      have e2 : (S ++ [x]).getD S.length (0, []) = x := by simp [List.getD_eq_getElem?_getD]
      rw [e1, e2]
      exact words_heap hu2 keep
/-- sentence j, as a walk reads it -/
theorem SentsAt.at {z : Nat} {w : World} {v : Value} {S : List (Nat × List B)} {vs : List Value} (h : SentsAt z w v S vs) (j : Nat) (hj : j < S.length) :
    ∃ g cap, v = .slice (some ⟨g, 0, none⟩) S.length cap ∧ S.length ≤ cap ∧ g < w.heap.size ∧ w.cell? ⟨g, j * 2, none⟩ = some (.int .i64 ((S.getD j (0, [])).1 : Nat)) ∧ w.cell? ⟨g, j * 2 + 1, none⟩ = some (vs.getD j undef) := by
  obtain ⟨g, cap, hv, hc, hlt, hcell⟩ := own_cell h.row (by omega)
  have hz : (S.zip vs)[j]? = some (S.getD j (0, []), vs.getD j undef) := by
    have : j < vs.length := by rw [h.len]; exact hj
    simp [List.getElem?_zip_eq_some, hj, this]
  have f0 := flat_get (fun x : (Nat × List B) × Value => [.int .i64 (x.1.1 : Nat), x.2]) 2 (fun _ => rfl) (S.zip vs) j 0 (by decide)
  have f1 := flat_get (fun x : (Nat × List B) × Value => [.int .i64 (x.1.1 : Nat), x.2]) 2 (fun _ => rfl) (S.zip vs) j 1 (by decide)
  rw [hz] at f0 f1
  exact ⟨g, cap, hv, hc, hlt, (hcell (j * 2) (by omega)).trans f0, (hcell (j * 2 + 1) (by omega)).trans f1⟩
end Go.Proofs.YtmlgajhhnojdjaaGreatDoor.PrjL
