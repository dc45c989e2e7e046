/- The document's own machine: ints and boxes, walked. -/
import Derived.Test.YtmlgajhhnojdjaaGreatDoorSAZ
import Derived.Test.YtmlgajhhnojdjaaGreatDoorSAQ
namespace Go.Proofs.YtmlgajhhnojdjaaGreatDoor.Mac
open Go Go.RowKit Go.Proofs.YtmlgajhhnojdjaaGreatDoor.Spec Go.Proofs.YtmlgajhhnojdjaaGreatDoor.Aux Go.Proofs.YtmlgajhhnojdjaaGreatDoor.PrjJ Go.Proofs.YtmlgajhhnojdjaaGreatDoor.PrjK Go.Proofs.YtmlgajhhnojdjaaGreatDoor.PrjL Go.Proofs.YtmlgajhhnojdjaaGreatDoor.PrjM Go.Proofs.YtmlgajhhnojdjaaGreatDoor.Own Go.Proofs.YtmlgajhhnojdjaaGreatDoor.RefRa Go.Proofs.YtmlgajhhnojdjaaGreatDoor.RefP

structure Ctx (w0 : World) (p : RP) (f : Fx) : Prop where
  prog : ProgAt w0 f.a p
  ok : p.Ok
  twelve : p.lets.length ≤ 12
/-- a word that names a local, or a part of one -/
structure Wd (p : RP) (l : B) : Prop where
  len : l.length ≤ maxLen
  find : 0 ≤ p.find (localOf l)
/-- within bounds -/
structure RM.Ok (m : RM) (t : Nat) : Prop where
  ints : ∀ j, isI64 (m.ints.getD j 0)
  held : ∀ j, m.held.getD j 0 ≤ m.boxes.length
  vals : ∀ j, isI64 (m.boxes.getD j (0, false)).1
  boxes : m.boxes.length ≤ t
  trace : m.trace.length ≤ 30 * t
  count : -(t : Int) ≤ m.count ∧ m.count ≤ t
  used : m.used ≤ t
def sp (p : RP) (l : B) : Nat := (p.spots l).1
def RM.need (m : RM) (i : Nat) : RM := if m.has.getD i false = true then m else { m with out := 5 }
def RM.int (m : RM) (i : Nat) : Int := m.ints.getD i 0
def RM.be (m : RM) (i : Nat) (v : Int) : RM := { m with ints := m.ints.set i v, has := m.has.set i true }
def RM.named (m : RM) (i : Nat) : Nat := if m.held.getD i 0 = 0 ∨ (m.box (m.held.getD i 0)).2 = false then 0 else m.held.getD i 0
def RM.boxed (m : RM) (i : Nat) : RM := if m.named i = 0 then { m with out := 5 } else m
def RM.free (m : RM) (i : Nat) : RM := if m.named i = 0 then { m with out := 5 } else RM.note { m with boxes := m.boxes.set (m.named i - 1) ((m.box (m.named i)).1, false), count := m.count - 1 } 45 ((m.named i : Nat) : Int)
def RM.made (f : Fx) (m : RM) (i : Nat) (v : Int) : RM :=
  if f.room ≤ m.count then { m with out := 3 } else
    let m1 := RM.note { m with boxes := m.boxes ++ [(v, true)], count := m.count + 1 } 43 ((m.boxes.length + 1 : Nat) : Int)
    let m2 : RM := { m1 with held := m1.held.set i (m.boxes.length + 1) }
    if f.owns = true then { m2 with how := m2.how.set i 119 } else m2
section
variable {w0 w w1 w2 w3 : World} {x : Nat} {f : Fx} {m : RM} {p : RP} {l : B} {t : Nat}
theorem Wd.lt (h : Wd p l) (h12 : p.lets.length ≤ 12) : sp p l < 24 ∧ sp p l + (p.spots l).2 ≤ 24 ∧ 1 ≤ (p.spots l).2 ∧ (p.spots l).2 ≤ 2 := by
  obtain ⟨j, hj, hjl, _⟩ := RP.find_lt h.find
  unfold sp RP.spots
  rw [hj]
  split
  · simp only [Int.toNat_natCast]; omega
  · split <;> (simp only [Int.toNat_natCast]; omega)
theorem spot_any (hC : Ctx w0 p f) (h : MAt w0 x f w m) (hl : Wd p l) :
    Calls Tryz.prog 149 #[.pointer (some ⟨x, 0, none⟩), .string (bs l)] w fun e w' => e = .returned (.int .i64 (sp p l : Nat)) ∧ MAt w0 x f w' m := by
  obtain ⟨vb, vt, hV⟩ := h
  have KS := fun w' (hp : ProgAt w' f.a p) => spots_any p f.a l w' hp hC.ok hl.len hl.find
  obtain ⟨c0, c1, c2, c3, c4, c5, c6, c7, c8, c9⟩ := hV.facts
  have HP := hC.prog.below hV.old
  go_enter Tryz.func149, Tryz.ntmps149
  go_wp2_with (go_at_call 143; refine (KS _ HP).mono ?_; rintro e w1 ⟨rfl, n1, rfl⟩)
  go_ret
  exact ⟨rfl, ⟨vb, vt, hV.below (below_drewN (Below.refl _ _) _)⟩⟩
set_option maxRecDepth 20000 in
set_option maxHeartbeats 1000000 in
theorem int_any (hC : Ctx w0 p f) (h : MAt w0 x f w m) (hl : Wd p l) :
    Calls Tryz.prog 147 #[.pointer (some ⟨x, 0, none⟩), .string (bs l)] w fun e w' => e = .returned (.int .i64 (m.int (sp p l))) ∧ MAt w0 x f w' (m.need (sp p l)) := by
  have KS := spot_any hC h hl
  obtain ⟨hi, -⟩ := hl.lt hC.twelve
  unfold RM.int
  generalize sp p l = i at *
  have i1 : (i : Int) < 24 := by omega
  cases hh : m.has.getD i false
  · have HG : Hid (m.need i = { m with out := 5 }) := by unfold Hid RM.need; rw [if_neg (by rw [hh]; decide)]
    go_enter Tryz.func147, Tryz.ntmps147
    go_wp2_with (go_at_call 149; refine KS.mono ?_; rintro e w1 ⟨rfl, vb, vt, hV⟩; obtain ⟨a1, a2⟩ := hV.hasAt hi; rw [hh] at a1; obtain ⟨b1, b2⟩ := hV.intAt hi; obtain ⟨f1, f2, f3, f4, f5, f6⟩ := hV.frozs; obtain ⟨c0, c1, c2, c3, c4, c5, c6, c7, c8, c9⟩ := hV.facts; have hV2 : MAtV w0 x f (w1.setCell ⟨x, 154, none⟩ (.int .i64 5)) { m with out := 5 } vb vt := hV.setOut 5; obtain ⟨d1, d2⟩ := hV2.intAt hi)
    go_ret
    exact ⟨rfl, by rw [HG.out]; exact ⟨vb, vt, hV2⟩⟩
  · have HG : Hid (m.need i = m) := by unfold Hid RM.need; rw [if_pos hh]
    go_enter Tryz.func147, Tryz.ntmps147
    go_wp2_with (go_at_call 149; refine KS.mono ?_; rintro e w1 ⟨rfl, vb, vt, hV⟩; obtain ⟨a1, a2⟩ := hV.hasAt hi; rw [hh] at a1; obtain ⟨b1, b2⟩ := hV.intAt hi)
    go_ret
    exact ⟨rfl, by rw [HG.out]; exact ⟨vb, vt, hV⟩⟩
set_option maxRecDepth 20000 in
set_option maxHeartbeats 1000000 in
theorem be_any (hC : Ctx w0 p f) (h : MAt w0 x f w m) (hl : Wd p l) (v : Int) :
    Calls Tryz.prog 150 #[.pointer (some ⟨x, 0, none⟩), .string (bs l), .int .i64 v] w fun e w' => e = .returned (.tuple #[]) ∧ MAt w0 x f w' (m.be (sp p l) v) := by
  have KS := spot_any hC h hl
  obtain ⟨hi, -⟩ := hl.lt hC.twelve
  unfold RM.be
  generalize sp p l = i at *
  have i1 : (i : Int) < 24 := by omega
  go_enter Tryz.func150, Tryz.ntmps150
  go_wp2_with (go_at_call 149; refine KS.mono ?_; rintro e w1 ⟨rfl, vb, vt, hV⟩; obtain ⟨b1, b2⟩ := hV.intAt hi; have hV2 := hV.setInt hi v; obtain ⟨d1, d2⟩ := hV2.hasAt hi; have hV3 := hV2.setHas hi true)
  go_end0
  exact ⟨rfl, ⟨vb, vt, hV3⟩⟩
set_option maxRecDepth 20000 in
set_option maxHeartbeats 1000000 in
theorem box_any (h : MAt w0 x f w m) {i : Nat} (hi : i < 24) (hO : m.Ok t) (ht : t ≤ 10000000) :
    Calls Tryz.prog 193 #[.pointer (some ⟨x, 0, none⟩), .int .i64 (i : Nat)] w fun e w' => e = .returned (.int .i64 (m.named i : Nat)) ∧ MAt w0 x f w' (m.boxed i) := by
  have hh := hO.held i
  have hb := hO.boxes
  obtain ⟨vb, vt, hV⟩ := h
  obtain ⟨a1, a2⟩ := hV.heldAt hi
  have hV2 : MAtV w0 x f (w.setCell ⟨x, 154, none⟩ (.int .i64 5)) { m with out := 5 } vb vt := hV.setOut 5
  obtain ⟨f1, f2, f3, f4, f5, f6⟩ := hV.frozs
  obtain ⟨c0, c1, c2, c3, c4, c5, c6, c7, c8, c9⟩ := hV.facts
  have i1 : (i : Int) < 24 := by omega
  by_cases h0 : m.held.getD i 0 = 0
  · have e0 : m.named i = 0 := by unfold RM.named; rw [if_pos (.inl h0)]
    have HG : Hid (m.boxed i = { m with out := 5 }) := by unfold Hid RM.boxed; rw [if_pos e0]
    rw [e0]
    rw [h0] at a1
    go_enter Tryz.func193, Tryz.ntmps193
    go_wp2
    go_ret
    exact ⟨rfl, by rw [HG.out]; exact ⟨vb, vt, hV2⟩⟩
  · have HN : Hid (m.named i = if m.held.getD i 0 = 0 ∨ (m.box (m.held.getD i 0)).2 = false then 0 else m.held.getD i 0) := rfl
    generalize hn : m.held.getD i 0 = n at *
    obtain ⟨g, cap, rfl, hcap, hg, q0, q1, q2, q3⟩ := hV.box (n := n) (by omega) hh
    have i2 : ((n : Int) == 0) = false := by rw [beq_eq_false_iff_ne]; omega
    have i3 : (1 : Int) ≤ n := by omega
    have i4 : (n : Int) ≤ m.boxes.length := by omega
    have e1 : ((n : Int) - 1).toNat = n - 1 := by omega
    cases hl : (m.box n).2
    · have e0 : m.named i = 0 := by rw [HN.out, if_pos (.inr hl)]
      have HG : Hid (m.boxed i = { m with out := 5 }) := by unfold Hid RM.boxed; rw [if_pos e0]
      rw [e0]
      rw [hl] at q1
      go_enter Tryz.func193, Tryz.ntmps193
      go_wp2
      go_ret
      exact ⟨rfl, by rw [HG.out]; exact ⟨_, vt, hV2⟩⟩
    · have e0 : m.named i = n := by rw [HN.out, if_neg (by rw [hl]; simp [h0])]
      have HG : Hid (m.boxed i = m) := by unfold Hid RM.boxed; rw [if_neg (by rw [e0]; exact h0)]
      rw [e0]
      rw [hl] at q1
      go_enter Tryz.func193, Tryz.ntmps193
      go_wp2
      go_ret
      exact ⟨rfl, by rw [HG.out]; exact ⟨_, vt, hV⟩⟩
end
end Go.Proofs.YtmlgajhhnojdjaaGreatDoor.Mac
/- The document's own machine: boxes freed and made, walked; bounds. -/
namespace Go.Proofs.YtmlgajhhnojdjaaGreatDoor.Mac
open Go Go.RowKit Go.Proofs.YtmlgajhhnojdjaaGreatDoor.Spec Go.Proofs.YtmlgajhhnojdjaaGreatDoor.Aux Go.Proofs.YtmlgajhhnojdjaaGreatDoor.PrjJ Go.Proofs.YtmlgajhhnojdjaaGreatDoor.PrjK Go.Proofs.YtmlgajhhnojdjaaGreatDoor.PrjL Go.Proofs.YtmlgajhhnojdjaaGreatDoor.PrjM Go.Proofs.YtmlgajhhnojdjaaGreatDoor.Own Go.Proofs.YtmlgajhhnojdjaaGreatDoor.RefRa Go.Proofs.YtmlgajhhnojdjaaGreatDoor.RefP

theorem wordT_len (m : RM) (c : UInt8) {n : Int} (hn : isI64 n) : (wordT m c n).length ≤ 22 := by
  have := decI_len n hn
  unfold wordT; split <;> simp <;> omega
theorem getD_set_i64 {l : List Int} (h : ∀ j, isI64 (l.getD j 0)) (i : Nat) {v : Int} (hv : isI64 v) (j : Nat) : isI64 ((l.set i v).getD j 0) := by
  rw [List.getD_eq_getElem?_getD, List.getElem?_set]
  split
  · split
    · exact hv
    · unfold isI64; simp
  · rw [← List.getD_eq_getElem?_getD]; exact h j
section
variable {w0 w w1 w2 w3 : World} {x : Nat} {f : Fx} {m : RM} {p : RP} {l : B} {t : Nat}
theorem RM.Ok.mono {t' : Nat} (h : m.Ok t) (ht : t ≤ t') : m.Ok t' := ⟨h.ints, h.held, h.vals, by have := h.boxes; omega, by have := h.trace; omega, by have := h.count; omega, by have := h.used; omega⟩
theorem RM.Ok.outs (h : m.Ok t) (k : Nat) : RM.Ok { m with out := k } t := ⟨h.ints, h.held, h.vals, h.boxes, h.trace, h.count, h.used⟩
theorem RM.Ok.need (h : m.Ok t) (i : Nat) : (m.need i).Ok t := by unfold RM.need; split; exact h; exact h.outs 5
theorem RM.Ok.boxed (h : m.Ok t) (i : Nat) : (m.boxed i).Ok t := by unfold RM.boxed; split; exact h.outs 5; exact h
theorem RM.Ok.be (h : m.Ok t) (i : Nat) {v : Int} (hv : isI64 v) : (m.be i v).Ok t := ⟨getD_set_i64 h.ints i hv, h.held, h.vals, h.boxes, h.trace, h.count, h.used⟩
theorem RM.Ok.note (h : m.Ok t) (c : UInt8) {n : Int} (hn : isI64 n) : (m.note c n).Ok (t + 1) :=
  ⟨h.ints, h.held, h.vals, by have := h.boxes; show m.boxes.length ≤ _; omega, by
    have := h.trace
    have := wordT_len m c hn
    show (m.trace ++ wordT m c n).length ≤ _
    rw [List.length_append]; omega, by have := h.count; show _ ≤ m.count ∧ m.count ≤ _; omega, by have := h.used; show m.used ≤ _; omega⟩
theorem named_le (h : m.Ok t) (i : Nat) : m.named i ≤ m.boxes.length := by
  unfold RM.named; split
  · omega
  · exact h.held i
theorem i64_nat {n t : Nat} (h : n ≤ t) (ht : t ≤ 10000001) : isI64 ((n : Nat) : Int) := by unfold isI64; omega
theorem box_i64 (h : m.Ok t) (n : Nat) : isI64 (m.box n).1 := h.vals _
theorem RM.Ok.setBox (h : m.Ok t) (k : Nat) {v : Int × Bool} (hv : isI64 v.1) (c : Int) (hc : -((t + 1 : Nat) : Int) ≤ c ∧ c ≤ ((t + 1 : Nat) : Int)) (L : B) (hL : L.length ≤ 30 * (t + 1)) : RM.Ok { m with boxes := m.boxes.set k v, count := c, trace := L } (t + 1) :=
  ⟨h.ints, fun j => by rw [List.length_set]; exact h.held j, fun j => by
    show isI64 ((m.boxes.set k v).getD j (0, false)).1
    rw [List.getD_eq_getElem?_getD, List.getElem?_set]
    split
    · split
      · exact hv
      · unfold isI64; simp
    · rw [← List.getD_eq_getElem?_getD]; exact h.vals j, by rw [List.length_set]; have := h.boxes; omega, hL, hc, by have := h.used; show m.used ≤ _; omega⟩
theorem RM.Ok.free (h : m.Ok t) (ht : t ≤ 10000000) (i : Nat) : (m.free i).Ok (t + 1) := by
  unfold RM.free
  split
  · exact (h.outs 5).mono (by omega)
  · have h1 := h.trace
    have h2 := h.count
    have h3 := named_le h i
    have h4 := h.boxes
    have h5 := wordT_len { m with boxes := m.boxes.set (m.named i - 1) ((m.box (m.named i)).1, false), count := m.count - 1 } 45 (n := ((m.named i : Nat) : Int)) (i64_nat (t := t) (by omega) (by omega))
    exact h.setBox _ (v := ((m.box (m.named i)).1, false)) (box_i64 h _) (m.count - 1) (by omega) _ (by rw [List.length_append]; exact Nat.le_trans (Nat.add_le_add h1 h5) (by omega))
theorem RM.Ok.how (h : m.Ok t) (L : List UInt8) : RM.Ok { m with how := L } t := ⟨h.ints, h.held, h.vals, h.boxes, h.trace, h.count, h.used⟩
theorem RM.Ok.made (h : m.Ok t) (ht : t ≤ 10000000) (i : Nat) {v : Int} (hv : isI64 v) : (m.made f i v).Ok (t + 1) := by
  unfold RM.made
  split
  · exact (h.outs 3).mono (by omega)
  · have h1 := h.trace
    have h2 := h.count
    have h4 := h.boxes
    have h5 := wordT_len { m with boxes := m.boxes ++ [(v, true)], count := m.count + 1 } 43 (n := ((m.boxes.length + 1 : Nat) : Int)) (i64_nat (t := t + 1) (by omega) (by omega))
    have h6 : RM.Ok { (RM.note { m with boxes := m.boxes ++ [(v, true)], count := m.count + 1 } 43 ((m.boxes.length + 1 : Nat) : Int)) with held := m.held.set i (m.boxes.length + 1) } (t + 1) := by
      refine ⟨h.ints, fun j => ?_, fun j => ?_, ?_, ?_, ?_, ?_⟩
      · show (m.held.set i (m.boxes.length + 1)).getD j 0 ≤ (m.boxes ++ [(v, true)]).length
        rw [List.length_append, List.getD_eq_getElem?_getD, List.getElem?_set]
        split
        · split
          · simp
          · simp
        · rw [← List.getD_eq_getElem?_getD]; have := h.held j; simp only [List.length_cons, List.length_nil]; omega
      · show isI64 ((m.boxes ++ [(v, true)]).getD j (0, false)).1
        by_cases hj : j < m.boxes.length
        · rw [List.getD_eq_getElem?_getD, List.getElem?_append_left hj, ← List.getD_eq_getElem?_getD]; exact h.vals j
        · rw [List.getD_eq_getElem?_getD, List.getElem?_append_right (by omega)]
          cases j - m.boxes.length with
          | zero => exact hv
          | succ k => unfold isI64; simp
      · show (m.boxes ++ [(v, true)]).length ≤ _
        simp only [List.length_append, List.length_cons, List.length_nil]; omega
      · show (m.trace ++ _).length ≤ _
        rw [List.length_append]; exact Nat.le_trans (Nat.add_le_add h1 h5) (by omega)
      · show _ ≤ m.count + 1 ∧ m.count + 1 ≤ _; omega
      · have := h.used; show m.used ≤ _; omega
    simp only
    split
    · exact h6.how _
    · exact h6
set_option maxRecDepth 20000 in
set_option maxHeartbeats 1000000 in
theorem free_any (h : MAt w0 x f w m) {i : Nat} (hi : i < 24) (hO : m.Ok t) (ht : t ≤ 3000000) :
    Calls Tryz.prog 156 #[.pointer (some ⟨x, 0, none⟩), .int .i64 (i : Nat)] w fun e w' => e = .returned (.tuple #[]) ∧ MAt w0 x f w' (m.free i) := by
  have KB := box_any h hi hO (by omega)
  have hb := hO.boxes
  have hn := named_le hO i
  have hc := hO.count
  have htr := hO.trace
  by_cases h0 : m.named i = 0
  · have HG : Hid (m.free i = m.boxed i) := by unfold Hid RM.free RM.boxed; rw [if_pos h0, if_pos h0]
    rw [h0] at KB
    go_enter Tryz.func156, Tryz.ntmps156
    go_wp2_with (go_at_call 193; refine KB.mono ?_; rintro e w1 ⟨rfl, hM⟩)
    go_end0
    exact ⟨rfl, by rw [HG.out]; exact hM⟩
  · have e : m.boxed i = m := by unfold RM.boxed; rw [if_neg h0]
    have HG : Hid (m.free i = RM.note { m with boxes := m.boxes.set (m.named i - 1) ((m.box (m.named i)).1, false), count := m.count - 1 } 45 ((m.named i : Nat) : Int)) := by unfold Hid RM.free; rw [if_neg h0]
    rw [e] at KB
    generalize m.named i = n at *
    have i3 : (1 : Int) ≤ n := by omega
    have i4 : (n : Int) ≤ m.boxes.length := by omega
    have e1 : ((n : Int) - 1).toNat = n - 1 := by omega
    have i5 : (0 : Int) < n := by omega
    go_enter Tryz.func156, Tryz.ntmps156
    go_wp2_with (first
      | (go_at_call 193; refine KB.mono ?_; rintro e w1 ⟨rfl, vb, vt, hV⟩; obtain ⟨g, cap, rfl, hcap, hg, q0, q1, q2, q3⟩ := hV.box (n := n) (by omega) hn; obtain ⟨c0, c1, c2, c3, c4, c5, c6, c7, c8, c9⟩ := hV.facts; have hV2 := (hV.setBox (n := n) (by omega) hn).2 false; obtain ⟨a0, a1, a2, a3, a4, a5, a6, a7, a8, a9⟩ := hV2.facts; obtain ⟨f1, f2, f3, f4, f5, f6⟩ := hV2.frozs; have hV3 := hV2.setCount (m.count - 1); have KN : Calls Tryz.prog 152 #[.pointer (some ⟨x, 0, none⟩), .string ⟨#[45]⟩, .int .i64 ((n : Nat) : Int)] _ _ := note_any ⟨_, _, hV3⟩ 45 ((n : Nat) : Int) (by unfold isI64; omega) (by show m.trace.length ≤ _; omega))
      | (go_at_call 152; refine KN.mono ?_; rintro e w9 ⟨rfl, hM⟩))
    go_end0
    exact ⟨rfl, by rw [HG.out]; exact hM⟩
end
end Go.Proofs.YtmlgajhhnojdjaaGreatDoor.Mac
/- The document's own machine: places dropped, as plain functions; bounds. -/
namespace Go.Proofs.YtmlgajhhnojdjaaGreatDoor.Mac
open Go Go.RowKit Go.Proofs.YtmlgajhhnojdjaaGreatDoor.Spec Go.Proofs.YtmlgajhhnojdjaaGreatDoor.Aux Go.Proofs.YtmlgajhhnojdjaaGreatDoor.PrjJ Go.Proofs.YtmlgajhhnojdjaaGreatDoor.PrjK Go.Proofs.YtmlgajhhnojdjaaGreatDoor.PrjL Go.Proofs.YtmlgajhhnojdjaaGreatDoor.PrjM Go.Proofs.YtmlgajhhnojdjaaGreatDoor.Own Go.Proofs.YtmlgajhhnojdjaaGreatDoor.RefRa Go.Proofs.YtmlgajhhnojdjaaGreatDoor.RefP Go.Proofs.YtmlgajhhnojdjaaGreatDoor.RefO

def leftC (l : B) : UInt8 := if partOf l = 115 then 104 else 45
theorem left_is (l : B) : left l = [leftC l] := by unfold left leftC; split <;> rfl
def RM.drop1 (m : RM) (c : UInt8) (k : Nat) : RM := let m1 := if m.how.getD k 0 = 119 then m.free k else m; { m1 with how := m1.how.set k c }
def RM.dropN (m : RM) (c : UInt8) (k : Nat) : Nat → RM
  | 0 => m
  | n + 1 => (RM.dropN m c k n).drop1 c (k + n)
def RM.drop (p : RP) (m : RM) (l : B) : RM := m.dropN (leftC l) (sp p l) (p.spots l).2
section
variable {w0 w w1 w2 w3 : World} {x : Nat} {f : Fx} {m : RM} {p : RP} {l : B} {t : Nat}
theorem RM.Ok.drop1 (h : m.Ok t) (ht : t ≤ 10000000) (c : UInt8) (k : Nat) : (m.drop1 c k).Ok (t + 1) := by
  unfold RM.drop1
  simp only
  split
  · exact (h.free ht k).how _
  · exact (h.mono (by omega)).how _
theorem RM.Ok.dropN (h : m.Ok t) (c : UInt8) (k : Nat) : ∀ n, t + n ≤ 10000000 → (m.dropN c k n).Ok (t + n)
  | 0, _ => h
  | n + 1, hn => (RM.Ok.dropN h c k n (by omega)).drop1 (by omega) c (k + n)
theorem RM.Ok.drop (h : m.Ok t) (ht : t + 2 ≤ 10000000) (hl : Wd p l) (h12 : p.lets.length ≤ 12) : (m.drop p l).Ok (t + 2) := by
  obtain ⟨-, -, -, h2⟩ := hl.lt h12
  exact (h.dropN _ _ _ (by omega)).mono (by omega)
end
end Go.Proofs.YtmlgajhhnojdjaaGreatDoor.Mac
/- The document's own machine: a run as a plain function. -/
namespace Go.Proofs.YtmlgajhhnojdjaaGreatDoor.Mac
open Go Go.RowKit Go.Proofs.YtmlgajhhnojdjaaGreatDoor.Spec Go.Proofs.YtmlgajhhnojdjaaGreatDoor.Aux Go.Proofs.YtmlgajhhnojdjaaGreatDoor.PrjJ Go.Proofs.YtmlgajhhnojdjaaGreatDoor.PrjK Go.Proofs.YtmlgajhhnojdjaaGreatDoor.PrjL Go.Proofs.YtmlgajhhnojdjaaGreatDoor.PrjM Go.Proofs.YtmlgajhhnojdjaaGreatDoor.Own Go.Proofs.YtmlgajhhnojdjaaGreatDoor.RefRa Go.Proofs.YtmlgajhhnojdjaaGreatDoor.RefP

def wAdd : B := [97, 100, 100]
def wSub : B := [115, 117, 98]
def wMul : B := [109, 117, 108]
def wDiv : B := [100, 105, 118]
def wSome : B := [115, 111, 109, 101]
def arithOp (w : B) : Nat := if w = wAdd then 3 else if w = wSub then 4 else if w = wMul then 5 else 6
def RM.arith (p : RP) (m : RM) (ws : List B) : RM :=
  let m1 := (m.need (sp p (word ws 2))).need (sp p (word ws 3))
  if ¬ m1.out = 0 then m1
  else if word ws 0 = wDiv ∧ m.int (sp p (word ws 3)) = 0 then { m1 with out := 4 }
  else m1.be (sp p (word ws 1)) (calcI (arithOp (word ws 0)) (m.int (sp p (word ws 2))) (m.int (sp p (word ws 3))))
def RM.setHows (m : RM) (c : UInt8) (i : Nat) : Nat → RM
  | 0 => m
  | n + 1 => { RM.setHows m c i n with how := (RM.setHows m c i n).how.set (i + n) c }
def RM.copies (m : RM) (held : List Nat) (how : List UInt8) (j i : Nat) : Nat → RM
  | 0 => m
  | n + 1 => { RM.copies m held how j i n with held := (RM.copies m held how j i n).held.set (j + n) (held.getD (i + n) 0), how := (RM.copies m held how j i n).how.set (j + n) (how.getD (i + n) 0) }
def RM.owned (p : RP) (m : RM) (ws : List B) : RM :=
  let m1 := m.setHows (leftC (word ws 2)) (sp p (word ws 2)) (p.spots (word ws 2)).2
  let m2 := m1.drop p (word ws 1)
  let m3 := m2.copies m.held m.how (sp p (word ws 1)) (sp p (word ws 2)) (p.spots (word ws 2)).2
  if word ws 0 = wSome then { m3 with how := m3.how.set (sp p (word ws 1)) 119 } else m3
/-- what is copied until a place is empty: k places still to be copied, from c on -/
def RM.bareGo (j i : Nat) : Nat → Nat → RM → RM × Bool
  | 0, _, m => (m, true)
  | k + 1, c, m => if m.held.getD (i + c) 0 = 0 then ({ m with out := 5 }, false) else RM.bareGo j i k (c + 1) { m with held := m.held.set (j + c) (m.held.getD (i + c) 0) }
def RM.bareB (p : RP) (m : RM) (ws : List B) : RM :=
  let r := RM.bareGo (sp p (word ws 1)) (sp p (word ws 2)) (p.spots (word ws 2)).2 0 m
  if r.2 = false then r.1 else if word ws 0 = wSome then { r.1 with how := r.1.how.set (sp p (word ws 1)) 119 } else r.1
def RM.bare (p : RP) (m : RM) (ws : List B) : RM :=
  if p.typeOf (word ws 2) = wOpt then
    if m.how.getD (sp p (word ws 2)) 0 = 0 then { m with out := 5 }
    else
      let m1 : RM := { m with how := m.how.set (sp p (word ws 1)) (m.how.getD (sp p (word ws 2)) 0) }
      if m1.how.getD (sp p (word ws 2)) 0 = 110 then m1 else m1.bareB p ws
  else m.bareB p ws
def RM.new (f : Fx) (p : RP) (m : RM) (ws : List B) : RM :=
  let m1 := m.need (sp p (word ws 2))
  if ¬ m1.out = 0 then m1 else RM.made f (if f.owns = true then m1.drop p (word ws 1) else m1) (sp p (word ws 1)) (m.int (sp p (word ws 2)))
def RM.load (p : RP) (m : RM) (ws : List B) : RM :=
  let i := sp p (word ws 2)
  let m1 := m.boxed i
  if m1.out = 0 then (m1.note 60 ((m.named i : Nat) : Int)).be (sp p (word ws 1)) (m.box (m.named i)).1 else m1
def RM.store (p : RP) (m : RM) (ws : List B) : RM :=
  let i := sp p (word ws 1)
  let m1 := (m.boxed i).need (sp p (word ws 2))
  if m1.out = 0 then { m1.note 62 ((m.named i : Nat) : Int) with boxes := m.boxes.set (m.named i - 1) (m.int (sp p (word ws 2)), (m.box (m.named i)).2) } else m1
def RM.none (f : Fx) (p : RP) (m : RM) (ws : List B) : RM :=
  let m1 := if f.owns = true then m.drop p (word ws 1) else m
  { m1 with how := m1.how.set (sp p (word ws 1)) 110 }
def RM.input (p : RP) (inp : List Int) (m : RM) (ws : List B) : RM := RM.be { m with used := m.used + 1 } (sp p (word ws 1)) (inp.getD m.used 0)
def RM.tell (p : RP) (m : RM) (ws : List B) : RM :=
  let m1 := m.need (sp p (word ws 1))
  if m1.out = 0 then m1.note 111 (m.int (sp p (word ws 1))) else m1
def valW (w : B) : Int := (number w).getD 0
def RM.does (f : Fx) (p : RP) (inp : List Int) (m : RM) (ws : List B) : RM :=
  let w := word ws 0
  if w = [115, 101, 116] then m.be (sp p (word ws 1)) (valW (word ws 2))
  else if w = wAdd ∨ w = wSub ∨ w = wMul ∨ w = wDiv then m.arith p ws
  else if w = [105, 110] then m.input p inp ws
  else if w = [111, 117, 116] then m.tell p ws
  else if w = [110, 101, 119] then m.new f p ws
  else if w = [108, 111, 97, 100] then m.load p ws
  else if w = [115, 116, 111, 114, 101] then m.store p ws
  else if w = [109, 111, 118, 101] ∨ w = wSome then (if f.owns = true then m.owned p ws else m.bare p ws)
  else if w = [110, 111, 110, 101] then m.none f p ws
  else if w = [100, 114, 111, 112] then m.drop p (word ws 1)
  else if w = [102, 114, 101, 101] then m.free (sp p (word ws 1))
  else if w = [102, 108, 97, 103] then { m with flags := m.flags.set (valW (word ws 1)).toNat (word ws 2 == [49]) }
  else m
/-- to which block a terminator leads: the word that names it -/
def RM.next (p : RP) (m : RM) (ws : List B) : RM × B :=
  let w := word ws 0
  if w = [103, 111, 116, 111] then (m, word ws 1)
  else if w = [105, 102] then (m.need (sp p (word ws 1)), if m.int (sp p (word ws 1)) = 0 then word ws 3 else word ws 2)
  else if w = wMatch then (if m.how.getD (sp p (word ws 1)) 0 = 0 then { m with out := 5 } else m, if m.how.getD (sp p (word ws 1)) 0 = 110 then word ws 2 else word ws 3)
  else (m, if m.flags.getD (valW (word ws 1)).toNat false = true then word ws 2 else word ws 3)
def RM.dropLets (p : RP) : Nat → RM → RM
  | 0, m => m
  | n + 1, m => RM.dropLets p n (if word (p.line (p.lets.getD n 0)) 2 = wInt then m else m.drop p (word (p.line (p.lets.getD n 0)) 1))
def RM.finish (f : Fx) (p : RP) (m : RM) (ws : List B) : RM :=
  let m1 := m.need (sp p (word ws 1))
  if ¬ m1.out = 0 then m1 else
    let m2 : RM := { m1 with out := 1, value := m.int (sp p (word ws 1)) }
    if f.owns = true then m2.dropLets p p.lets.length else m2
def blockW (p : RP) (w : B) : Nat := p.blocks.getD (valW w).toNat 0
def runR (f : Fx) (p : RP) (inp : List Int) : Nat → Nat → RM → RM
  | 0, _, m => if m.out = 0 then { m with out := 2 } else m
  | n + 1, at', m =>
    if ¬ m.out = 0 then m else
      let i := if isBlock (p.line at') then at' + 1 else at'
      let ws := p.line i
      if word ws 0 = [101, 110, 100] then m.finish f p ws
      else if ends (word ws 0) = true then runR f p inp n (blockW p (m.next p ws).2) (m.next p ws).1
      else runR f p inp n (i + 1) (m.does f p inp ws)
def RM.start : RM := ⟨List.replicate 24 0, List.replicate 24 false, List.replicate 24 0, List.replicate 24 0, List.replicate 50 false, [], 0, [], 0, 0, 0⟩
end Go.Proofs.YtmlgajhhnojdjaaGreatDoor.Mac
