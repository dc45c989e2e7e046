/- Plain facts: both bare machines, statement by statement. -/
import Derived.Test.YtmlgajhhnojdjaaGreatDoorSBN
namespace Go.Proofs.YtmlgajhhnojdjaaGreatDoor.Sim
open Go Go.Proofs.YtmlgajhhnojdjaaGreatDoor.Spec Go.Proofs.YtmlgajhhnojdjaaGreatDoor.Aux Go.Proofs.YtmlgajhhnojdjaaGreatDoor.Own Go.Proofs.YtmlgajhhnojdjaaGreatDoor.Mac Go.Proofs.YtmlgajhhnojdjaaGreatDoor.Ex Go.Proofs.YtmlgajhhnojdjaaGreatDoor.RefRa Go.Proofs.YtmlgajhhnojdjaaGreatDoor.RunB Go.Proofs.YtmlgajhhnojdjaaGreatDoor.PrjS Go.Proofs.YtmlgajhhnojdjaaGreatDoor.FlwA Go.Proofs.YtmlgajhhnojdjaaGreatDoor.FlwU Go.Proofs.YtmlgajhhnojdjaaGreatDoor.FlwV Go.Proofs.YtmlgajhhnojdjaaGreatDoor.FlwW Go.Proofs.YtmlgajhhnojdjaaGreatDoor.FlwX Go.Proofs.YtmlgajhhnojdjaaGreatDoor.FlwT

section
variable {text : B} {raw : Bool} {p : RP} {q : QP} {w : B}
theorem slot_sp (p : RP) (w : B) : slotQ (p.plQ w) = sp p w := by
  unfold slotQ RP.plQ sp RP.spots
  simp only
  by_cases h : partOf w = 98
  · rw [if_pos (pidx_two.2 h), if_pos h]
  · rw [if_neg (fun e => h (pidx_two.1 e)), if_neg h]
    split <;> rfl
theorem slot_half (x : Nat × Nat) : slotQ x / 2 = x.1 := by unfold slotQ; split <;> omega
theorem pl_type (h : Both text raw p q) (hf : 0 ≤ p.find (localOf w)) (hp : isPlace w = true) : (p.typeOf w = wPair ↔ ((p.plQ w).2 = 0 ∧ q.tyOf (p.plQ w).1 = 2)) ∧ (p.typeOf w = wOpt ↔ ((p.plQ w).2 = 0 ∧ q.tyOf (p.plQ w).1 = 3)) := by
  have T := both_ty h
  obtain ⟨j, hj, hjl, -⟩ := RP.find_lt hf
  have hty : p.typeW w = p.toPP.tyOf (p.plQ w).1 := by
    unfold RP.typeW PProg.tyOf RP.toPP RP.localsOf RP.plQ
    rw [hj]
    simp only [Int.toNat_natCast]
    rw [List.getD_eq_getElem?_getD, List.getD_eq_getElem?_getD, List.getElem?_map, List.getElem?_eq_getElem hjl]; rfl
  have hpart := isPlace_part hp
  have e2 : (p.plQ w).2 = pidx (partOf w) := rfl
  rw [T.pair, T.opt, ← hty, e2]
  unfold RP.typeOf
  rcases hpart with e | e | e | e <;> rw [e]
  · rw [if_neg (by decide), if_neg (by decide)]
    exact ⟨⟨fun x => ⟨rfl, x⟩, fun x => x.2⟩, ⟨fun x => ⟨rfl, x⟩, fun x => x.2⟩⟩
  · rw [if_pos (.inl rfl)]
    exact ⟨⟨fun x => (by split at x <;> exact absurd x (by decide)), fun x => absurd x.1 (by decide)⟩, ⟨fun x => (by split at x <;> exact absurd x (by decide)), fun x => absurd x.1 (by decide)⟩⟩
  · rw [if_pos (.inr rfl)]
    exact ⟨⟨fun x => (by split at x <;> exact absurd x (by decide)), fun x => absurd x.1 (by decide)⟩, ⟨fun x => (by split at x <;> exact absurd x (by decide)), fun x => absurd x.1 (by decide)⟩⟩
  · rw [if_neg (by decide), if_pos (by decide)]
    exact ⟨⟨fun x => (by split at x <;> exact absurd x (by decide)), fun x => absurd x.1 (by decide)⟩, ⟨fun x => (by split at x <;> exact absurd x (by decide)), fun x => absurd x.1 (by decide)⟩⟩
/-- how many places a word names -/
theorem spots_two (h : Both text raw p q) (hf : 0 ≤ p.find (localOf w)) (hp : isPlace w = true) : (p.spots w).2 = (QP.halvesQ q (p.plQ w)).length ∧ (QP.halvesQ q (p.plQ w)).map slotQ = List.range' (sp p w) (p.spots w).2 := by
  obtain ⟨h1, -⟩ := pl_type h hf hp
  rw [← slot_sp]
  unfold RP.spots QP.halvesQ
  by_cases e : partOf w = 98
  · have e2 : ¬ (p.plQ w).2 = 0 := by show ¬ pidx (partOf w) = 0; rw [e]; decide
    rw [if_pos e, if_neg (fun x => e2 x.1)]
    exact ⟨rfl, rfl⟩
  · rw [if_neg e]
    by_cases e2 : p.typeOf w = wPair
    · rw [if_pos e2, if_pos (h1.1 e2)]
      refine ⟨rfl, ?_⟩
      unfold slotQ
      simp only [List.map_cons, List.map_nil]
      rw [if_neg (by decide), if_pos trivial, if_neg (by rw [(h1.1 e2).1]; decide)]
      rfl
    · rw [if_neg e2, if_neg (fun x => e2 (h1.2 x))]
      exact ⟨rfl, rfl⟩
end
section
variable {text : B} {p : RP} {q : QP} {l : QLine} {ws : List B} {inp : List Int} {b : Br} {m : RM} {f : Fx}
theorem int_at (hl : RLn q l) (hk : Lk p ws l) (h12 : q.locals.length ≤ 12) {j : Nat} (hj : j < l.places.length) (hw : (wantsOf l.op).getD j 0 = 105) : sp p (word ws (j + 1)) < 24 ∧ q.tyOf (sp p (word ws (j + 1)) / 2) = 0 ∧ cellOf q (plOf l j) = sp p (word ws (j + 1)) := by
  obtain ⟨h1, h2⟩ := place_of hl hj
  have hok := fits_at hl.fits hj
  rw [hw] at hok
  have hi := kind_int hok
  have e := (hk.pl j hj).1
  have es : slotQ (plOf l j) = sp p (word ws (j + 1)) := by rw [e, slot_sp]
  have eh := slot_half (plOf l j)
  rw [es] at eh
  refine ⟨by omega, by rw [eh]; exact hi, ?_⟩
  rw [not_tag, es]
  unfold isTag QP.kindV
  split
  · rfl
  · rw [hi]; rfl
theorem box_at (hl : RLn q l) (hk : Lk p ws l) (h12 : q.locals.length ≤ 12) {j : Nat} (hj : j < l.places.length) (hw : (wantsOf l.op).getD j 0 = 112) : sp p (word ws (j + 1)) < 24 ∧ ¬ q.tyOf (sp p (word ws (j + 1)) / 2) = 0 ∧ cellOf q (plOf l j) = sp p (word ws (j + 1)) := by
  obtain ⟨h1, h2⟩ := place_of hl hj
  have hok := fits_at hl.fits hj
  rw [hw] at hok
  have e := (hk.pl j hj).1
  have es : slotQ (plOf l j) = sp p (word ws (j + 1)) := by rw [e, slot_sp]
  have eh := slot_half (plOf l j)
  rw [es] at eh
  exact ⟨by omega, by rw [eh]; exact (kind_box hok).1, by rw [not_tag (box_tag hok), es]⟩
theorem opt_at (hl : RLn q l) (hk : Lk p ws l) (h12 : q.locals.length ≤ 12) {j : Nat} (hj : j < l.places.length) (hw : (wantsOf l.op).getD j 0 = 111) : ∃ i, i < 12 ∧ (plOf l j).1 = i ∧ sp p (word ws (j + 1)) = 2 * i ∧ q.tyOf i = 3 ∧ cellOf q (plOf l j) = 24 + i := by
  obtain ⟨h1, h2⟩ := place_of hl hj
  have hok := fits_at hl.fits hj
  rw [hw] at hok
  have e := (hk.pl j hj).1
  have es : slotQ (plOf l j) = sp p (word ws (j + 1)) := by rw [e, slot_sp]
  obtain ⟨k1, k2⟩ := kind_opt hok h2
  refine ⟨(plOf l j).1, by omega, rfl, ?_, k1, is_tag (opt_tag hok h2)⟩
  rw [← es]; unfold slotQ; rw [if_neg (by omega)]
def FinB (b : Br) (m : RM) (o : Nat) (v : Int) : Prop := m.out = o ∧ m.value = v ∧ m.trace = b.yd.text ∧ m.count = b.yd.live
theorem Rb.broken (h : Rb q inp b m) {m' : RM} {o : Nat} (h1 : m'.out = o) (h2 : m'.value = m.value) (h3 : m'.trace = m.trace) (h4 : m'.count = m.count) : FinB b m' o 0 := ⟨h1, by rw [h2]; exact h.value, by rw [h3]; exact h.y.text, by rw [h4]; exact h.y.live.symm⟩
theorem need_has {i : Nat} (h : m.has.getD i false = true) : m.need i = m := by unfold RM.need; rw [if_pos h]
theorem need_no {i : Nat} (h : m.has.getD i false = false) : m.need i = { m with out := 5 } := by unfold RM.need; rw [if_neg (by rw [h]; decide)]
theorem need_out {i : Nat} (h : m.out = 5) : (m.need i).out = 5 := by unfold RM.need; split; exact h; rfl
theorem need_rest (i : Nat) : (m.need i).value = m.value ∧ (m.need i).trace = m.trace ∧ (m.need i).count = m.count ∧ (m.need i).has = m.has ∧ (m.need i).ints = m.ints := by unfold RM.need; split <;> exact ⟨rfl, rfl, rfl, rfl, rfl⟩
theorem empty_is (ps : List (Nat × Nat)) : b.empty q ps = ps.any fun p => !(b.cell q p).1 := rfl
/-- what a statement leads to -/
def Goes (q : QP) (inp : List Int) (f : Fx) (b : Br) (l : QLine) (m' : RM) : Prop :=
  if b.breaks q l = true then FinB b m' 5 0
  else if l.op = 6 ∧ b.val q (plOf l 2) = 0 then FinB b m' 4 0
  else if l.op = 9 ∧ b.yd.live ≥ f.room then FinB b m' 3 0
  else Rb q inp (if l.op = 9 then b.new q (plOf l 0) (b.val q (plOf l 1)) else if l.op = 6 then b.calc q l else b.do1 q l) m' ∧ m'.out = 0
theorem goes_set (hl : RLn q l) (hk : Lk p ws l) (h12 : q.locals.length ≤ 12) (h : Rb q inp b m) (h0 : m.out = 0) (hop : l.op = 2) : Goes q inp f b l (m.does f p inp ws) := by
  have hn : l.places.length = 1 := by rw [hk.plen, hop]; rfl
  obtain ⟨c1, c2, c3⟩ := int_at hl hk h12 (j := 0) (by omega) (by rw [hop]; rfl)
  have hw : word ws 0 = [115, 101, 116] := by rw [hk.op, hop]; rfl
  have hd : m.does f p inp ws = m.be (sp p (word ws 1)) (valW (word ws 2)) := by unfold RM.does; simp [hw]
  have hB : b.breaks q l = false := by unfold Br.breaks; simp [hop]
  unfold Goes
  rw [if_neg (by rw [hB]; decide), if_neg (by omega), if_neg (by omega), if_neg (by omega), if_neg (by omega), hd]
  refine ⟨?_, h0⟩
  unfold Br.do1
  rw [if_pos hop, hk.nm hop]
  exact h.be c1 c2 c3 _
theorem goes_arith (hl : RLn q l) (hk : Lk p ws l) (h12 : q.locals.length ≤ 12) (h : Rb q inp b m) (h0 : m.out = 0) (hop : l.op = 3 ∨ l.op = 4 ∨ l.op = 5 ∨ l.op = 6) : Goes q inp f b l (m.does f p inp ws) := by
  have key : ∀ op : Fin 23, op.val = 3 ∨ op.val = 4 ∨ op.val = 5 ∨ op.val = 6 → ((wantsOf op.val).takeWhile isPl).length = 3 ∧ (wantsOf op.val).getD 0 0 = 105 ∧ (wantsOf op.val).getD 1 0 = 105 ∧ (wantsOf op.val).getD 2 0 = 105 ∧ (opWord op.val = wAdd ∨ opWord op.val = wSub ∨ opWord op.val = wMul ∨ opWord op.val = wDiv) ∧ ¬ opWord op.val = [115, 101, 116] ∧ arithOp (opWord op.val) = op.val ∧ (opWord op.val = wDiv ↔ op.val = 6) := by decide
  obtain ⟨k1, k2, k3, k4, k5, k6, k7, k8⟩ := key ⟨l.op, hk.hi⟩ hop
  simp only at k1 k2 k3 k4 k5 k6 k7 k8
  have hn : l.places.length = 3 := by rw [hk.plen]; exact k1
  obtain ⟨a1, a2, a3⟩ := int_at hl hk h12 (j := 0) (by omega) k2
  obtain ⟨b1, b2, b3⟩ := int_at hl hk h12 (j := 1) (by omega) k3
  obtain ⟨c1, c2, c3⟩ := int_at hl hk h12 (j := 2) (by omega) k4
  rw [← hk.op] at k5 k6 k7 k8
  have hd : m.does f p inp ws = m.arith p ws := by unfold RM.does; simp only; rw [if_neg k6, if_pos k5]
  rw [hd]
  have hB : b.breaks q l = (!m.has.getD (sp p (word ws 2)) false || !m.has.getD (sp p (word ws 3)) false) := by
    unfold Br.breaks
    rw [if_pos (by omega), empty_is]
    simp only [List.any_cons, List.any_nil, Bool.or_false]
    rw [h.readInt b1 b2 b3, h.readInt c1 c2 c3]
  have hv1 : b.val q (plOf l 1) = m.int (sp p (word ws 2)) := by rw [Br.val, h.readInt b1 b2 b3]
  have hv2 : b.val q (plOf l 2) = m.int (sp p (word ws 3)) := by rw [Br.val, h.readInt c1 c2 c3]
  unfold Goes
  rw [hB, hv2]
  cases e1 : m.has.getD (sp p (word ws 2)) false
  · rw [show (!false || !m.has.getD (sp p (word ws 3)) false) = true from rfl, if_pos rfl]
    have e : m.arith p ws = (m.need (sp p (word ws 2))).need (sp p (word ws 3)) := by
      unfold RM.arith
      simp only
      rw [if_pos]
      rw [need_out (by rw [need_no e1])]; decide
    rw [e]
    obtain ⟨r1, r2, r3, -⟩ := need_rest (m := m) (sp p (word ws 2))
    obtain ⟨s1, s2, s3, -⟩ := need_rest (m := m.need (sp p (word ws 2))) (sp p (word ws 3))
    exact h.broken (need_out (by rw [need_no e1])) (s1.trans r1) (s2.trans r2) (s3.trans r3)
  · cases e2 : m.has.getD (sp p (word ws 3)) false
    · rw [if_pos (by decide)]
      have e : m.arith p ws = { m with out := 5 } := by
        unfold RM.arith
        simp only
        rw [need_has e1, need_no e2, if_pos (by simp)]
      rw [e]
      exact h.broken rfl rfl rfl rfl
    · rw [if_neg (by decide)]
      unfold RM.arith
      simp only
      rw [need_has e1, need_has e2, if_neg (show ¬ ¬ m.out = 0 by rw [h0]; decide), k7]
      by_cases hz : l.op = 6 ∧ m.int (sp p (word ws 3)) = 0
      · rw [if_pos hz, if_pos (show word ws 0 = wDiv ∧ m.int (sp p (word ws 3)) = 0 from ⟨k8.2 hz.1, hz.2⟩)]
        exact h.broken rfl rfl rfl rfl
      · rw [if_neg hz, if_neg (show ¬ (word ws 0 = wDiv ∧ m.int (sp p (word ws 3)) = 0) from fun e => hz ⟨k8.1 e.1, e.2⟩), if_neg (by omega), if_neg (by omega)]
        have hc : (if l.op = 6 then b.calc q l else b.do1 q l) = b.calc q l := by
          split
          · rfl
          · unfold Br.do1; rw [if_neg (by omega), if_pos (by omega)]
        rw [hc]
        refine ⟨?_, h0⟩
        have := h.be a1 a2 a3 (calcI l.op (m.int (sp p (word ws 2))) (m.int (sp p (word ws 3))))
        unfold Br.calc
        have hv1' : b.val q (l.places.getD 1 (0, 0)) = m.int (sp p (word ws 2)) := hv1
        have hv2' : b.val q (l.places.getD 2 (0, 0)) = m.int (sp p (word ws 3)) := hv2
        rw [hv1', hv2']
        exact this
theorem goes_in (hl : RLn q l) (hk : Lk p ws l) (h12 : q.locals.length ≤ 12) (h : Rb q inp b m) (h0 : m.out = 0) (hop : l.op = 7) : Goes q inp f b l (m.does f p inp ws) := by
  have hn : l.places.length = 1 := by rw [hk.plen, hop]; rfl
  obtain ⟨c1, c2, c3⟩ := int_at hl hk h12 (j := 0) (by omega) (by rw [hop]; rfl)
  have hw : word ws 0 = [105, 110] := by rw [hk.op, hop]; rfl
  have hd : m.does f p inp ws = m.input p inp ws := by unfold RM.does; simp [hw, wAdd, wSub, wMul, wDiv]
  have hB : b.breaks q l = false := by unfold Br.breaks; simp [hop]
  unfold Goes
  rw [if_neg (by rw [hB]; decide), if_neg (by omega), if_neg (by omega), if_neg (by omega), if_neg (by omega), hd]
  refine ⟨?_, h0⟩
  unfold Br.do1
  rw [if_neg (by omega), if_neg (by omega), if_pos hop]
  have h1 : Rb q inp { b with inp := b.inp.tail } { m with used := m.used + 1 } := ⟨h.y.of rfl rfl rfl, ⟨h.len.ints, h.len.has, h.len.held, h.len.how, h.len.flags⟩, h.cslen, h.cs, h.hows, h.flags, by show b.inp.tail = inp.drop (m.used + 1); rw [h.inp, List.tail_drop], h.value⟩
  have := h1.be c1 c2 c3 (b.inp.headD 0)
  have hv : b.inp.headD 0 = inp.getD m.used 0 := by
    rw [h.inp, List.headD_eq_head?_getD, List.head?_drop, List.getD_eq_getElem?_getD]
  unfold RM.input
  rw [← hv]
  exact this
theorem goes_out (hl : RLn q l) (hk : Lk p ws l) (h12 : q.locals.length ≤ 12) (h : Rb q inp b m) (h0 : m.out = 0) (hop : l.op = 8) : Goes q inp f b l (m.does f p inp ws) := by
  have hn : l.places.length = 1 := by rw [hk.plen, hop]; rfl
  obtain ⟨c1, c2, c3⟩ := int_at hl hk h12 (j := 0) (by omega) (by rw [hop]; rfl)
  have hw : word ws 0 = [111, 117, 116] := by rw [hk.op, hop]; rfl
  have hd : m.does f p inp ws = m.tell p ws := by unfold RM.does; simp [hw, wAdd, wSub, wMul, wDiv]
  have hB : b.breaks q l = !m.has.getD (sp p (word ws 1)) false := by
    unfold Br.breaks
    rw [if_neg (by omega), if_pos (by omega), empty_is]
    simp only [List.any_cons, List.any_nil, Bool.or_false]
    rw [h.readInt c1 c2 c3]
  unfold Goes
  rw [hB, hd]
  unfold RM.tell
  simp only
  cases e1 : m.has.getD (sp p (word ws 1)) false
  · rw [if_pos (by decide), need_no e1, if_neg (by simp)]
    exact h.broken rfl rfl rfl rfl
  · rw [if_neg (by decide), if_neg (by omega), if_neg (by omega), if_neg (by omega), if_neg (by omega), need_has e1, if_pos h0]
    refine ⟨?_, h0⟩
    unfold Br.do1
    rw [if_neg (by omega), if_neg (by omega), if_neg (by omega), if_pos hop, show b.val q (plOf l 0) = m.int (sp p (word ws 1)) by rw [Br.val, h.readInt c1 c2 c3]]
    exact h.yard (h.y.note 111 _) rfl rfl rfl rfl rfl rfl rfl
theorem goes_new (hl : RLn q l) (hk : Lk p ws l) (h12 : q.locals.length ≤ 12) (hf : f.owns = false) (h : Rb q inp b m) (h0 : m.out = 0) (hop : l.op = 9) : Goes q inp f b l (m.does f p inp ws) := by
  have hn : l.places.length = 2 := by rw [hk.plen, hop]; rfl
  obtain ⟨b1, b2, b3⟩ := box_at hl hk h12 (j := 0) (by omega) (by rw [hop]; rfl)
  obtain ⟨c1, c2, c3⟩ := int_at hl hk h12 (j := 1) (by omega) (by rw [hop]; rfl)
  have hw : word ws 0 = [110, 101, 119] := by rw [hk.op, hop]; rfl
  have hd : m.does f p inp ws = m.new f p ws := by unfold RM.does; simp [hw, wAdd, wSub, wMul, wDiv]
  have hB : b.breaks q l = !m.has.getD (sp p (word ws 2)) false := by
    unfold Br.breaks
    rw [if_neg (by omega), if_neg (by omega), if_pos (by omega), empty_is]
    simp only [List.any_cons, List.any_nil, Bool.or_false]
    rw [h.readInt c1 c2 c3]
  unfold Goes
  rw [hB, hd]
  unfold RM.new
  simp only
  cases e1 : m.has.getD (sp p (word ws 2)) false
  · rw [if_pos (by decide), need_no e1, if_pos (by simp)]
    exact h.broken rfl rfl rfl rfl
  · rw [if_neg (by decide), if_neg (by omega), need_has e1, if_neg (show ¬ ¬ m.out = 0 by rw [h0]; decide), if_neg (show ¬ f.owns = true by rw [hf]; decide)]
    unfold RM.made
    have hlv := h.y.live
    by_cases hr : f.room ≤ m.count
    · rw [if_pos ⟨hop, by omega⟩, if_pos hr]
      exact h.broken rfl rfl rfl rfl
    · rw [if_neg (by omega), if_pos hop, if_neg hr]
      simp only
      rw [if_neg (by rw [hf]; decide)]
      refine ⟨?_, h0⟩
      have h1 := h.yard (h.y.build (m.int (sp p (word ws 2)))) rfl rfl rfl rfl rfl rfl rfl
      have h2 := h1.hold (n := m.boxes.length + 1) b1 b2 b3 (by omega)
      unfold Br.new
      rw [show b.val q (plOf l 1) = m.int (sp p (word ws 2)) by rw [Br.val, h.readInt c1 c2 c3], h.y.made]
      exact h2
theorem goes_load (hl : RLn q l) (hk : Lk p ws l) (h12 : q.locals.length ≤ 12) (h : Rb q inp b m) (h0 : m.out = 0) (hop : l.op = 10) : Goes q inp f b l (m.does f p inp ws) := by
  have hn : l.places.length = 2 := by rw [hk.plen, hop]; rfl
  obtain ⟨b1, b2, b3⟩ := box_at hl hk h12 (j := 1) (by omega) (by rw [hop]; rfl)
  obtain ⟨c1, c2, c3⟩ := int_at hl hk h12 (j := 0) (by omega) (by rw [hop]; rfl)
  have hw : word ws 0 = [108, 111, 97, 100] := by rw [hk.op, hop]; rfl
  have hd : m.does f p inp ws = m.load p ws := by unfold RM.does; simp [hw, wAdd, wSub, wMul, wDiv]
  have hB : b.breaks q l = b.dead q (plOf l 1) := by unfold Br.breaks; simp [hop]
  obtain ⟨d1, d2⟩ := h.dead b1 b2 b3
  unfold Goes
  rw [hB, hd]
  unfold RM.load
  simp only
  cases e1 : b.dead q (plOf l 1)
  · obtain ⟨d3, d4, d5⟩ := d2 e1
    have e2 : m.boxed (sp p (word ws 2)) = m := by unfold RM.boxed; exact if_neg d5
    rw [if_neg (by decide), if_neg (by omega), if_neg (by omega), if_neg (by omega), if_neg (by omega), e2, if_pos h0]
    refine ⟨?_, h0⟩
    unfold Br.do1
    rw [if_neg (by omega), if_neg (by omega), if_neg (by omega), if_neg (by omega), if_pos hop, d4, h.y.at, d3]
    exact (h.yard (h.y.load _) rfl rfl rfl rfl rfl rfl rfl).be c1 c2 c3 _
  · have e2 : m.boxed (sp p (word ws 2)) = { m with out := 5 } := by unfold RM.boxed; rw [if_pos (d1.1 e1)]
    rw [if_pos (by decide), e2, if_neg (by simp)]
    exact h.broken rfl rfl rfl rfl
theorem goes_store (hl : RLn q l) (hk : Lk p ws l) (h12 : q.locals.length ≤ 12) (h : Rb q inp b m) (h0 : m.out = 0) (hop : l.op = 11) : Goes q inp f b l (m.does f p inp ws) := by
  have hn : l.places.length = 2 := by rw [hk.plen, hop]; rfl
  obtain ⟨b1, b2, b3⟩ := box_at hl hk h12 (j := 0) (by omega) (by rw [hop]; rfl)
  obtain ⟨c1, c2, c3⟩ := int_at hl hk h12 (j := 1) (by omega) (by rw [hop]; rfl)
  have hw : word ws 0 = [115, 116, 111, 114, 101] := by rw [hk.op, hop]; rfl
  have hd : m.does f p inp ws = m.store p ws := by unfold RM.does; simp [hw, wAdd, wSub, wMul, wDiv]
  have hB : b.breaks q l = (b.dead q (plOf l 0) || !m.has.getD (sp p (word ws 2)) false) := by
    unfold Br.breaks
    rw [if_neg (by omega), if_neg (by omega), if_neg (by omega), if_neg (by omega), if_neg (by omega), if_pos hop, empty_is]
    simp only [List.any_cons, List.any_nil, Bool.or_false]
    rw [h.readInt c1 c2 c3]
  obtain ⟨d1, d2⟩ := h.dead b1 b2 b3
  unfold Goes
  rw [hB, hd]
  unfold RM.store
  simp only
  cases e1 : b.dead q (plOf l 0)
  · obtain ⟨d3, d4, d5⟩ := d2 e1
    have e2 : m.boxed (sp p (word ws 1)) = m := by unfold RM.boxed; exact if_neg d5
    rw [e2]
    cases e3 : m.has.getD (sp p (word ws 2)) false
    · rw [if_pos (by decide), need_no e3, if_neg (by simp)]
      exact h.broken rfl rfl rfl rfl
    · rw [if_neg (by decide), if_neg (by omega), if_neg (by omega), if_neg (by omega), if_neg (by omega), need_has e3, if_pos h0]
      refine ⟨?_, h0⟩
      unfold Br.do1
      rw [if_neg (by omega), if_neg (by omega), if_neg (by omega), if_neg (by omega), if_neg (by omega), if_pos hop, d4, d3, show b.val q (plOf l 1) = m.int (sp p (word ws 2)) by rw [Br.val, h.readInt c1 c2 c3]]
      exact h.yard (h.y.store _ _) rfl rfl rfl rfl rfl rfl rfl
  · have e2 : m.boxed (sp p (word ws 1)) = { m with out := 5 } := by unfold RM.boxed; rw [if_pos (d1.1 e1)]
    have e4 : (m.boxed (sp p (word ws 1))).out = 5 := by rw [e2]
    rw [show (true || !m.has.getD (sp p (word ws 2)) false) = true from rfl, if_pos rfl, if_neg (by rw [need_out e4]; decide)]
    obtain ⟨s1, s2, s3, -⟩ := need_rest (m := m.boxed (sp p (word ws 1))) (sp p (word ws 2))
    exact h.broken (need_out e4) (s1.trans (by rw [e2])) (s2.trans (by rw [e2])) (s3.trans (by rw [e2]))
theorem goes_free (hl : RLn q l) (hk : Lk p ws l) (h12 : q.locals.length ≤ 12) (h : Rb q inp b m) (h0 : m.out = 0) (hop : l.op = 16) : Goes q inp f b l (m.does f p inp ws) := by
  have hn : l.places.length = 1 := by rw [hk.plen, hop]; rfl
  obtain ⟨b1, b2, b3⟩ := box_at hl hk h12 (j := 0) (by omega) (by rw [hop]; rfl)
  have hw : word ws 0 = [102, 114, 101, 101] := by rw [hk.op, hop]; rfl
  have hd : m.does f p inp ws = m.free (sp p (word ws 1)) := by unfold RM.does; simp [hw, wAdd, wSub, wMul, wDiv, wSome]
  have hB : b.breaks q l = b.dead q (plOf l 0) := by unfold Br.breaks; simp [hop]
  obtain ⟨d1, d2⟩ := h.dead b1 b2 b3
  unfold Goes
  rw [hB, hd]
  unfold RM.free
  cases e1 : b.dead q (plOf l 0)
  · obtain ⟨d3, d4, d5⟩ := d2 e1
    rw [if_neg (by decide), if_neg (by omega), if_neg (by omega), if_neg (by omega), if_neg (by omega), if_neg (show ¬ m.named (sp p (word ws 1)) = 0 from d5)]
    refine ⟨?_, h0⟩
    unfold Br.do1
    rw [if_neg (by omega), if_neg (by omega), if_neg (by omega), if_neg (by omega), if_neg (by omega), if_neg (by omega), if_pos hop, d4, d3]
    exact h.yard (h.y.free _) rfl rfl rfl rfl rfl rfl rfl
  · rw [if_pos (by decide), if_pos (d1.1 e1)]
    exact h.broken rfl rfl rfl rfl
theorem goes_flag (hk : Lk p ws l) (h : Rb q inp b m) (h0 : m.out = 0) (hop : l.op = 17) : Goes q inp f b l (m.does f p inp ws) := by
  have hw : word ws 0 = [102, 108, 97, 103] := by rw [hk.op, hop]; rfl
  have hd : m.does f p inp ws = { m with flags := m.flags.set (valW (word ws 1)).toNat (word ws 2 == [49]) } := by unfold RM.does; simp [hw, wAdd, wSub, wMul, wDiv, wSome]
  have hB : b.breaks q l = false := by unfold Br.breaks; simp [hop]
  unfold Goes
  rw [if_neg (by rw [hB]; decide), if_neg (by omega), if_neg (by omega), if_neg (by omega), if_neg (by omega), hd]
  refine ⟨?_, h0⟩
  unfold Br.do1
  rw [if_neg (by omega), if_neg (by omega), if_neg (by omega), if_neg (by omega), if_neg (by omega), if_neg (by omega), if_neg (by omega), if_neg (by omega), if_neg (by omega), if_neg (by omega), if_pos hop, hk.vl hop, hk.fl (.inl hop)]
  exact ⟨h.y.of rfl rfl rfl, ⟨h.len.ints, h.len.has, h.len.held, h.len.how, by simpa using h.len.flags⟩, h.cslen, h.cs, h.hows, by show b.flags.set _ _ = _; rw [h.flags], h.inp, h.value⟩
theorem goes_none (hl : RLn q l) (hk : Lk p ws l) (h12 : q.locals.length ≤ 12) (hf : f.owns = false) (h : Rb q inp b m) (h0 : m.out = 0) (hop : l.op = 13) : Goes q inp f b l (m.does f p inp ws) := by
  have hn : l.places.length = 1 := by rw [hk.plen, hop]; rfl
  obtain ⟨i, i1, i2, i3, i4, i5⟩ := opt_at hl hk h12 (j := 0) (by omega) (by rw [hop]; rfl)
  have hw : word ws 0 = [110, 111, 110, 101] := by rw [hk.op, hop]; rfl
  have hd : m.does f p inp ws = m.none f p ws := by unfold RM.does; simp [hw, wAdd, wSub, wMul, wDiv, wSome]
  have hB : b.breaks q l = false := by unfold Br.breaks; simp [hop]
  unfold Goes
  rw [if_neg (by rw [hB]; decide), if_neg (by omega), if_neg (by omega), if_neg (by omega), if_neg (by omega), hd]
  unfold RM.none
  simp only
  rw [if_neg (by rw [hf]; decide), i3]
  refine ⟨?_, h0⟩
  unfold Br.do1
  rw [if_neg (by omega), if_neg (by omega), if_neg (by omega), if_neg (by omega), if_neg (by omega), if_neg (by omega), if_neg (by omega), if_neg (by omega), if_pos hop]
  exact h.tag i1 i4 i5 (.inl ⟨rfl, rfl⟩)
end
end Go.Proofs.YtmlgajhhnojdjaaGreatDoor.Sim
