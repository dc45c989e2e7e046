/- What the project's flow answers on places: their slots, their halves. -/
import Derived.Test.YtmlgajhhnojdjaaGreatDoorKAL
import Derived.Test.YtmlgajhhnojdjaaGreatDoorKAJ
import Derived.Deep.QuietTactic
import Derived.BigQuiet
import Derived.Test.YtmlgajhhnojdjaaGreatDoorKAC
import Derived.Test.YtmlgajhhnojdjaaGreatDoorKAF
namespace Go.Proofs.YtmlgajhhnojdjaaGreatDoor.FlwA
open Go Go.RowKit Go.Proofs.YtmlgajhhnojdjaaGreatDoor.Spec Go.Proofs.YtmlgajhhnojdjaaGreatDoor.Aux Go.Proofs.YtmlgajhhnojdjaaGreatDoor.PrjF Go.Proofs.YtmlgajhhnojdjaaGreatDoor.PrjG Go.Proofs.YtmlgajhhnojdjaaGreatDoor.PrjJ Go.Proofs.YtmlgajhhnojdjaaGreatDoor.PrjK Go.Proofs.YtmlgajhhnojdjaaGreatDoor.PrjL Go.Proofs.YtmlgajhhnojdjaaGreatDoor.PrjM Go.Proofs.YtmlgajhhnojdjaaGreatDoor.PrjN Go.Proofs.YtmlgajhhnojdjaaGreatDoor.PrjO Go.Proofs.YtmlgajhhnojdjaaGreatDoor.PrjP Go.Proofs.YtmlgajhhnojdjaaGreatDoor.PrjR

def slotQ (x : Nat × Nat) : Nat := if x.2 = 2 then 2 * x.1 + 1 else 2 * x.1
def QP.halvesQ (q : QP) (x : Nat × Nat) : List (Nat × Nat) := if x.2 = 0 ∧ q.tyOf x.1 = 2 then [(x.1, 1), (x.1, 2)] else [x]
theorem ret_i {a b : Int} (h : a = b) : Ending.returned (.int .i64 a) = .returned (.int .i64 b) := by rw [h]
set_option maxRecDepth 20000 in
theorem slot_any (x : Nat × Nat) (w : World) (hx : x.1 ≤ 4000) :
    Calls Tryz.prog 62 #[.agg #[.int .i64 (x.1 : Nat), .int .i64 (x.2 : Nat)]] w fun e w' => e = .returned (.int .i64 (slotQ x : Nat)) ∧ Below w.heap.size w w' := by
  have hbA : Below w.heap.size w (w.alloc (.cells #[.int .i64 (x.1 : Nat), .int .i64 (x.2 : Nat)] 119)) := (Below.refl _ _).alloc (Nat.le_refl _) _
  by_cases h : x.2 = 2
  · have hb : (((x.2 : Nat) : Int) == 2) = true := by rw [h]; rfl
    have hs : slotQ x = 2 * x.1 + 1 := by rw [slotQ, if_pos h]
    rw [hs]
    clear h
    go_enter Tryz.func62, Tryz.ntmps62
    go_wp2
    go_ret
    exact ⟨ret_i (by omega), hbA⟩
  · have hb : (((x.2 : Nat) : Int) == 2) = false := by rw [beq_eq_false_iff_ne]; omega
    have hs : slotQ x = 2 * x.1 := by rw [slotQ, if_neg h]
    rw [hs]
    clear h
    go_enter Tryz.func62, Tryz.ntmps62
    go_wp2
    go_ret
    exact ⟨ret_i (by omega), hbA⟩
/-- a row of places, laid anew -/
def PlacesAt (z : Nat) (w : World) (v : Value) (ps : List (Nat × Nat)) : Prop := w.ownsRow z 119 2 v ps.length (plCells ps)
theorem places_new (w : World) (ps : List (Nat × Nat)) (hps : ps.length ≤ 100) : PlacesAt w.heap.size (w.alloc (.cells (plCells ps).toArray 119)) (.slice (some ⟨w.heap.size, 0, none⟩) ps.length ps.length) ps := by
  have hl : (plCells ps).length = ps.length * 2 := flat_len plCell 2 (fun _ => rfl) ps
  refine ⟨hl, .inr ⟨w.heap.size, ps.length, (plCells ps).toArray, rfl, Nat.le_refl _, Array.getElem?_push_size, Nat.le_refl _, by unfold maxLen; omega, by simpa using hl, ?_⟩⟩
  rw [← hl]; simp
set_option maxRecDepth 20000 in
set_option maxHeartbeats 1000000 in
theorem halves_any (q : QP) (x : Nat × Nat) (v u : Value) (a : Nat) (w : World) (hp : w.heap[a]? = some (.cells #[v, u] 110 (0, 0))) (hv : LocAt w v q.locals) (hx : x.1 < q.locals.length) :
    Calls Tryz.prog 102 #[.pointer (some ⟨a, 0, none⟩), .agg #[.int .i64 (x.1 : Nat), .int .i64 (x.2 : Nat)]] w fun e w' => ∃ g c, e = .returned (.slice (some ⟨g, 0, none⟩) (QP.halvesQ q x).length c) ∧ PlacesAt w.heap.size w' (.slice (some ⟨g, 0, none⟩) (QP.halvesQ q x).length c) (QP.halvesQ q x) ∧ Below w.heap.size w w' := by
  obtain ⟨g, cap, rfl, hcap, hg, -, hc⟩ := locs_cell hv x.1 hx
  have hlt := lt_of_heap hp
  have hbA : Below w.heap.size w (w.alloc (.cells #[.int .i64 (x.1 : Nat), .int .i64 (x.2 : Nat)] 119)) := (Below.refl _ _).alloc (Nat.le_refl _) _
  have c0 : w.cell? ⟨a, 0, none⟩ = some (.slice (some ⟨g, 0, none⟩) q.locals.length cap) := by rw [cell_of_heap hp]; rfl
  have c0A : (w.alloc (.cells #[.int .i64 (x.1 : Nat), .int .i64 (x.2 : Nat)] 119)).cell? ⟨a, 0, none⟩ = some (.slice (some ⟨g, 0, none⟩) q.locals.length cap) := (hbA.cell (p := ⟨a, 0, none⟩) hlt).trans c0
  have c1A := (hbA.cell (p := ⟨g, x.1 * 2 + 1, none⟩) hg).trans hc
  have c2A : (w.alloc (.cells #[.int .i64 (x.1 : Nat), .int .i64 (x.2 : Nat)] 119)).cell? ⟨w.heap.size, 0, none⟩ = some (.int .i64 (x.1 : Nat)) := by simp
  have c3A : (w.alloc (.cells #[.int .i64 (x.1 : Nat), .int .i64 (x.2 : Nat)] 119)).cell? ⟨w.heap.size, 1, none⟩ = some (.int .i64 (x.2 : Nat)) := by simp
  have hxi : (x.1 : Int) < q.locals.length := by omega
  have hT : Hid ((q.locals.getD x.1 ([], 0)).2 = q.tyOf x.1) := rfl
  have hsz : ∀ n, ((w.alloc (.cells #[.int .i64 (x.1 : Nat), .int .i64 (x.2 : Nat)] 119)).drewN n).heap.size = w.heap.size + 1 := fun n => by simp
  have hd : ∀ n, Below w.heap.size w ((w.alloc (.cells #[.int .i64 (x.1 : Nat), .int .i64 (x.2 : Nat)] 119)).drewN n) := fun n => below_drewN hbA n
  generalize (q.locals.getD x.1 ([], 0)).2 = t at *
  by_cases h0 : x.2 = 0
  · have b0 : (((x.2 : Nat) : Int) == 0) = true := by rw [h0]; rfl
    by_cases ht : t = 2
    · have htb : (((t : Nat) : Int) == 2) = true := by rw [ht]; rfl
      have hh : QP.halvesQ q x = [(x.1, 1), (x.1, 2)] := by rw [QP.halvesQ, if_pos ⟨h0, by rw [← hT.out]; exact ht⟩]
      rw [hh]
      clear h0 ht
      go_enter Tryz.func102, Tryz.ntmps102
      go_wp2
      go_quiet (fail)
      go_wp2
      go_ret
      have hn := places_new ((w.alloc (.cells #[.int .i64 (x.1 : Nat), .int .i64 (x.2 : Nat)] 119)).drewN nq) [(x.1, 1), (x.1, 2)] (by simp)
      rw [hsz nq] at hn
      exact ⟨w.heap.size + 1, 2, rfl, own_mono hn (by omega), (hd nq).alloc (hd nq).size _⟩
    · have htb : (((t : Nat) : Int) == 2) = false := by rw [beq_eq_false_iff_ne]; omega
      have hh : QP.halvesQ q x = [x] := by rw [QP.halvesQ, if_neg (fun e => ht (by rw [hT.out]; exact e.2))]
      rw [hh]
      clear h0 ht
      go_enter Tryz.func102, Tryz.ntmps102
      go_wp2
      go_quiet (fail)
      go_wp2
      go_ret
      have hn := places_new ((w.alloc (.cells #[.int .i64 (x.1 : Nat), .int .i64 (x.2 : Nat)] 119)).drewN nq) [x] (by simp)
      rw [hsz nq] at hn
      exact ⟨w.heap.size + 1, 1, rfl, own_mono hn (by omega), (hd nq).alloc (hd nq).size _⟩
  · have b0 : (((x.2 : Nat) : Int) == 0) = false := by rw [beq_eq_false_iff_ne]; omega
    have hh : QP.halvesQ q x = [x] := by rw [QP.halvesQ, if_neg (fun e => h0 e.1)]
    rw [hh]
    clear h0
    go_enter Tryz.func102, Tryz.ntmps102
    go_wp2
    go_quiet (fail)
    go_wp2
    go_ret
    have hn := places_new ((w.alloc (.cells #[.int .i64 (x.1 : Nat), .int .i64 (x.2 : Nat)] 119)).drewN nq) [x] (by simp)
    rw [hsz nq] at hn
    exact ⟨w.heap.size + 1, 1, rfl, own_mono hn (by omega), (hd nq).alloc (hd nq).size _⟩
end Go.Proofs.YtmlgajhhnojdjaaGreatDoor.FlwA
/- The project's machine that owns: how it lies in memory; its numbers and boxes. -/
namespace Go.Proofs.YtmlgajhhnojdjaaGreatDoor.Own
open Go Go.RowKit Go.Proofs.YtmlgajhhnojdjaaGreatDoor.Spec Go.Proofs.YtmlgajhhnojdjaaGreatDoor.Aux Go.Proofs.YtmlgajhhnojdjaaGreatDoor.PrjJ Go.Proofs.YtmlgajhhnojdjaaGreatDoor.PrjK Go.Proofs.YtmlgajhhnojdjaaGreatDoor.PrjL Go.Proofs.YtmlgajhhnojdjaaGreatDoor.PrjM Go.Proofs.YtmlgajhhnojdjaaGreatDoor.FlwA

structure Own where
  yd : Yd
  inp : List Int
  ints : List Int
  boxes : List Nat
def Own.num (o : Own) (p : Nat × Nat) : Int := o.ints.getD p.1 0
def Own.box (o : Own) (p : Nat × Nat) : Nat := o.boxes.getD (slotQ p) 0
def intVals (l : List Int) : List Value := l.map fun n => .int .i64 n
def boxVals (l : List Nat) : List Value := l.map fun n => .int .i64 ((n : Nat) : Int)
def ownRest (a : Nat) (vi : Value) (o : Own) : List Value := .pointer (some ⟨a, 0, none⟩) :: vi :: (intVals o.ints ++ boxVals o.boxes)
/-- inputs that lie in memory -/
def FeedAt (w : World) (v : Value) (l : List Int) : Prop := ∃ ad c, v = .slice ad l.length c ∧ l.length ≤ c ∧ c ≤ maxLen ∧ ∀ j, j < l.length → ∃ g f, ad = some ⟨g, f, none⟩ ∧ g < w.heap.size ∧ w.cell? ⟨g, f + j, none⟩ = some (.int .i64 (l.getD j 0))
structure OAt (w0 : World) (x a : Nat) (w : World) (o : Own) (vi vm vt : Value) : Prop where
  yat : YAt w0.heap.size x 104 (ownRest a vi o) w o.yd vm vt
  old : Below w0.heap.size w0 w
  ints : o.ints.length = 12
  boxes : o.boxes.length = 24
  feed : FeedAt w0 vi o.inp
theorem rest_int (a : Nat) (vi : Value) {o : Own} {j : Nat} (hj : j < 12) (hi : o.ints.length = 12) : (ownRest a vi o)[2 + j]? = some (.int .i64 (o.ints.getD j 0)) := by
  have e : (ownRest a vi o)[2 + j]? = (intVals o.ints ++ boxVals o.boxes)[j]? := by rw [Nat.add_comm]; rfl
  rw [e, List.getElem?_append_left (by simp [intVals, hi]; exact hj), intVals, List.getElem?_map, List.getElem?_eq_getElem (by omega), List.getD_eq_getElem?_getD, List.getElem?_eq_getElem (by omega)]; rfl
theorem rest_box (a : Nat) (vi : Value) {o : Own} {j : Nat} (hj : j < 24) (hi : o.ints.length = 12) (hb : o.boxes.length = 24) : (ownRest a vi o)[14 + j]? = some (.int .i64 ((o.boxes.getD j 0 : Nat) : Int)) := by
  have e : (ownRest a vi o)[14 + j]? = (intVals o.ints ++ boxVals o.boxes)[12 + j]? := by rw [show 14 + j = (12 + j) + 2 by omega]; rfl
  rw [e, List.getElem?_append_right (by simp [intVals, hi]), show 12 + j - (intVals o.ints).length = j by simp [intVals, hi], boxVals, List.getElem?_map, List.getElem?_eq_getElem (by omega), List.getD_eq_getElem?_getD, List.getElem?_eq_getElem (by omega)]; rfl
theorem rest_setInt (a : Nat) (vi : Value) (o : Own) {j : Nat} (hj : j < 12) (hi : o.ints.length = 12) (v : Int) : (ownRest a vi o).set (2 + j) (.int .i64 v) = ownRest a vi { o with ints := o.ints.set j v } := by
  have e : (ownRest a vi o).set (2 + j) (.int .i64 v) = .pointer (some ⟨a, 0, none⟩) :: vi :: (intVals o.ints ++ boxVals o.boxes).set j (.int .i64 v) := by rw [Nat.add_comm]; rfl
  rw [e, List.set_append_left _ _ (by simp [intVals, hi]; exact hj)]
  simp [ownRest, intVals, List.map_set]
theorem rest_setBox (a : Nat) (vi : Value) (o : Own) {j : Nat} (hi : o.ints.length = 12) (n : Nat) : (ownRest a vi o).set (14 + j) (.int .i64 ((n : Nat) : Int)) = ownRest a vi { o with boxes := o.boxes.set j n } := by
  have e : (ownRest a vi o).set (14 + j) (.int .i64 ((n : Nat) : Int)) = .pointer (some ⟨a, 0, none⟩) :: vi :: (intVals o.ints ++ boxVals o.boxes).set (12 + j) (.int .i64 ((n : Nat) : Int)) := by rw [show 14 + j = (12 + j) + 2 by omega]; rfl
  rw [e, List.set_append_right _ _ (by simp [intVals, hi]), show 12 + j - (intVals o.ints).length = j by simp [intVals, hi]]
  simp [ownRest, boxVals, List.map_set]
section
variable {z x a : Nat} {t : TypeId} {rest : List Value} {w w0 w1 : World} {y : Yd} {vm vt vi vm1 vt1 : Value} {o : Own}
theorem YAt.setRest (h : YAt z x t rest w y vm vt) (j : Nat) (u : Value) : YAt z x t (rest.set j u) (w.setCell ⟨x, 3 + j, none⟩ u) y vm vt ∧ Roam x vm vt w vm vt (w.setCell ⟨x, 3 + j, none⟩ u) := by
  obtain ⟨n1, n2⟩ := h.ty.ne
  refine ⟨⟨h.base, h.ty, ?_, own_setCell h.made _ (own_at_ne h.made h.blk n1), own_setCell h.trace _ (own_at_ne h.trace h.blk n2)⟩, ⟨rfl, rfl, rfl, by simp, fun k _ h1 _ _ => Below.heap_setCell _ _ _ _ (by show k ≠ x; exact h1), fun _ h => .inl h, fun _ h => .inl h⟩⟩
  rw [Aux.heap_setCell_same h.blk]
  congr 2
  rw [List.setIfInBounds_toArray, Nat.add_comm 3 j]; rfl
theorem YAt.more (h : YAt z x t rest w y vm vt) (j : Nat) : w.cell? ⟨x, 3 + j, none⟩ = rest[j]? ∧ w.frozen? ⟨x, 3 + j, none⟩ = false := by
  refine ⟨?_, frozen_of_heap h.blk _⟩
  rw [cell_of_heap h.blk, Nat.add_comm 3 j]; simp
theorem OAt.lt (h : OAt w0 x a w o vi vm vt) : x < w.heap.size := h.yat.lt
theorem OAt.below (h : OAt w0 x a w o vi vm vt) (hb : Below w.heap.size w w1) : OAt w0 x a w1 o vi vm vt :=
  ⟨h.yat.below hb, h.old.trans (hb.mono h.old.size), h.ints, h.boxes, h.feed⟩
theorem OAt.int (h : OAt w0 x a w o vi vm vt) {j : Nat} (hj : j < 12) : w.cell? ⟨x, 5 + j, none⟩ = some (.int .i64 (o.ints.getD j 0)) ∧ w.frozen? ⟨x, 5 + j, none⟩ = false := by
  have := h.yat.more (2 + j)
  rw [rest_int a vi hj h.ints, show 3 + (2 + j) = 5 + j by omega] at this
  exact this
theorem OAt.bx (h : OAt w0 x a w o vi vm vt) {j : Nat} (hj : j < 24) : w.cell? ⟨x, 17 + j, none⟩ = some (.int .i64 ((o.boxes.getD j 0 : Nat) : Int)) ∧ w.frozen? ⟨x, 17 + j, none⟩ = false := by
  have := h.yat.more (14 + j)
  rw [rest_box a vi hj h.ints h.boxes, show 3 + (14 + j) = 17 + j by omega] at this
  exact this
theorem OAt.setInt (h : OAt w0 x a w o vi vm vt) {j : Nat} (hj : j < 12) (v : Int) : OAt w0 x a (w.setCell ⟨x, 5 + j, none⟩ (.int .i64 v)) { o with ints := o.ints.set j v } vi vm vt ∧ Roam x vm vt w vm vt (w.setCell ⟨x, 5 + j, none⟩ (.int .i64 v)) := by
  obtain ⟨h1, h2⟩ := h.yat.setRest (2 + j) (.int .i64 v)
  rw [rest_setInt a vi o hj h.ints, show 3 + (2 + j) = 5 + j by omega] at h1
  rw [show 3 + (2 + j) = 5 + j by omega] at h2
  exact ⟨⟨h1, h.old.trans (h2.below h.yat (Nat.le_refl _) h.old.size), by simpa using h.ints, h.boxes, h.feed⟩, h2⟩
theorem OAt.setBx (h : OAt w0 x a w o vi vm vt) (j : Nat) (n : Nat) : OAt w0 x a (w.setCell ⟨x, 17 + j, none⟩ (.int .i64 ((n : Nat) : Int))) { o with boxes := o.boxes.set j n } vi vm vt ∧ Roam x vm vt w vm vt (w.setCell ⟨x, 17 + j, none⟩ (.int .i64 ((n : Nat) : Int))) := by
  obtain ⟨h1, h2⟩ := h.yat.setRest (14 + j) (.int .i64 ((n : Nat) : Int))
  rw [rest_setBox a vi o h.ints, show 3 + (14 + j) = 17 + j by omega] at h1
  rw [show 3 + (14 + j) = 17 + j by omega] at h2
  exact ⟨⟨h1, h.old.trans (h2.below h.yat (Nat.le_refl _) h.old.size), h.ints, by simpa using h.boxes, h.feed⟩, h2⟩
/-- a yard's function has run -/
theorem OAt.yard (h : OAt w0 x a w o vi vm vt) {y' : Yd} (h1 : YAt w0.heap.size x 104 (ownRest a vi o) w1 y' vm1 vt1) (h2 : Roam x vm vt w vm1 vt1 w1) : OAt w0 x a w1 { o with yd := y' } vi vm1 vt1 :=
  ⟨h1, h.old.trans (h2.below h.yat (Nat.le_refl _) h.old.size), h.ints, h.boxes, h.feed⟩
end
end Go.Proofs.YtmlgajhhnojdjaaGreatDoor.Own
/- The project's machine that owns: its small functions, walked. -/
namespace Go.Proofs.YtmlgajhhnojdjaaGreatDoor.Own
open Go Go.RowKit Go.Proofs.YtmlgajhhnojdjaaGreatDoor.Spec Go.Proofs.YtmlgajhhnojdjaaGreatDoor.Aux Go.Proofs.YtmlgajhhnojdjaaGreatDoor.PrjJ Go.Proofs.YtmlgajhhnojdjaaGreatDoor.PrjK Go.Proofs.YtmlgajhhnojdjaaGreatDoor.PrjL Go.Proofs.YtmlgajhhnojdjaaGreatDoor.PrjM Go.Proofs.YtmlgajhhnojdjaaGreatDoor.FlwA

section
variable {x a : Nat} {w w0 : World} {vm vt vi : Value} {o : Own}
set_option maxRecDepth 20000 in
theorem number_any (h : OAt w0 x a w o vi vm vt) (p : Nat × Nat) (hp : p.1 < 12) :
    Calls Tryz.prog 58 #[.pointer (some ⟨x, 0, none⟩), .agg #[.int .i64 (p.1 : Nat), .int .i64 (p.2 : Nat)]] w fun e w' => e = .returned (.int .i64 (o.num p)) ∧ Below w.heap.size w w' := by
  have hbA : Below w.heap.size w (w.alloc (.cells #[.int .i64 (p.1 : Nat), .int .i64 (p.2 : Nat)] 119)) := (Below.refl _ _).alloc (Nat.le_refl _) _
  have HA := h.below hbA
  have c1 := (HA.int hp).1
  have hpi : (p.1 : Int) < 12 := by omega
  go_enter Tryz.func58, Tryz.ntmps58
  go_wp2
  go_region
  all_goals go_wp2_with fail
  all_goals
    go_ret
    exact ⟨rfl, ⟨hbA.os, hbA.tape, hbA.output, hbA.size, hbA.block⟩⟩
set_option maxRecDepth 20000 in
theorem box_any (h : OAt w0 x a w o vi vm vt) (p : Nat × Nat) (hp : p.1 < 12) :
    Calls Tryz.prog 99 #[.pointer (some ⟨x, 0, none⟩), .agg #[.int .i64 (p.1 : Nat), .int .i64 (p.2 : Nat)]] w fun e w' => e = .returned (.int .i64 ((o.box p : Nat) : Int)) ∧ Below w.heap.size w w' := by
  have hbA : Below w.heap.size w (w.alloc (.cells #[.int .i64 (p.1 : Nat), .int .i64 (p.2 : Nat)] 119)) := (Below.refl _ _).alloc (Nat.le_refl _) _
  have HA := h.below hbA
  have hsl : slotQ p < 24 := by unfold slotQ; split <;> omega
  have hsi : (slotQ p : Int) < 24 := by omega
  have KS := slot_any p (w.alloc (.cells #[.int .i64 (p.1 : Nat), .int .i64 (p.2 : Nat)] 119)).drew (by omega)
  go_enter Tryz.func99, Tryz.ntmps99
  go_wp2
  go_region_with (go_at_call 62; refine KS.mono ?_; rintro e w1 ⟨rfl, hb1⟩; have hb2 : Below (w.alloc (.cells #[.int .i64 (p.1 : Nat), .int .i64 (p.2 : Nat)] 119)).heap.size (w.alloc (.cells #[.int .i64 (p.1 : Nat), .int .i64 (p.2 : Nat)] 119)) w1 := ⟨hb1.os, hb1.tape, hb1.output, hb1.size, hb1.block⟩; have c1 := ((HA.below hb2).bx hsl).1)
  all_goals go_wp2_with fail
  all_goals
    go_ret
    exact ⟨rfl, hbA.trans (hb2.mono hbA.size)⟩
end
/-- numbers within Go's own bounds -/
def isI64 (n : Int) : Prop := -9223372036854775808 ≤ n ∧ n ≤ 9223372036854775807
/-- two numbers, put together -/
def calcI (op : Nat) (m n : Int) : Int := if op = 3 then wrap64 (m + n) else if op = 4 then wrap64 (m - n) else if op = 5 then wrap64 (m * n) else wrap64 (m.tdiv n)
theorem calculated_any (op : Nat) (m n : Int) (w : World) (hn : op = 6 → ¬ n = 0) (ho : op = 3 ∨ op = 4 ∨ op = 5 ∨ op = 6) (_hm : -9223372036854775808 ≤ m ∧ m ≤ 9223372036854775807) (_hn' : -9223372036854775808 ≤ n ∧ n ≤ 9223372036854775807) :
    Calls Tryz.prog 95 #[.int .i64 (op : Nat), .int .i64 m, .int .i64 n] w fun e w' => e = .returned (.int .i64 (calcI op m n)) ∧ w' = w := by
  rcases ho with rfl | rfl | rfl | rfl
  · go_enter Tryz.func95, Tryz.ntmps95
    go_wp2
    go_ret
    exact ⟨rfl, rfl⟩
  · go_enter Tryz.func95, Tryz.ntmps95
    go_wp2
    go_ret
    exact ⟨rfl, rfl⟩
  · go_enter Tryz.func95, Tryz.ntmps95
    go_wp2
    go_ret
    exact ⟨rfl, rfl⟩
  · have h0 : (n == 0) = false := by rw [beq_eq_false_iff_ne]; exact hn rfl
    go_enter Tryz.func95, Tryz.ntmps95
    go_wp2
    go_ret
    exact ⟨rfl, rfl⟩
/-- a line's cells, as it is handed over -/
abbrev lnV (l : QLine) (ap an : Option Addr) (cp cn : Nat) : Value := .agg #[.int .i64 (l.num : Nat), .int .i64 (l.op : Nat), .slice ap l.places.length cp, .int .i64 l.number, .int .i64 l.flag, .slice an l.next.length cn]
section
variable {x a : Nat} {w w0 : World} {vm vt vi : Value} {o : Own}
set_option maxRecDepth 20000 in
theorem way_any {z : Nat} {l : QLine} {ap an : Option Addr} {cp cn : Nat} (hl : LineAt z w l (.slice ap l.places.length cp) (.slice an l.next.length cn)) (b : Bool) (hb : (if b then 1 else 0) < l.next.length) :
    Calls Tryz.prog 100 #[lnV l ap an cp cn, .bool b] w fun e w' => e = .returned (.int .i64 ((l.next.getD (if b then 1 else 0) 0 : Nat) : Int)) ∧ Below w.heap.size w w' := by
  have hbA : Below w.heap.size w (w.alloc (.cells #[.int .i64 (l.num : Nat), .int .i64 (l.op : Nat), .slice ap l.places.length cp, .int .i64 l.number, .int .i64 l.flag, .slice an l.next.length cn] 115)) := (Below.refl _ _).alloc (Nat.le_refl _) _
  obtain ⟨g, cap, e, hc, hg, hcell⟩ := own_cell hl.next (by omega)
  simp only [Value.slice.injEq] at e
  obtain ⟨rfl, -, rfl⟩ := e
  have c1 := hcell (if b then 1 else 0) (by omega)
  have c2 : (intCells l.next)[if b then 1 else 0]? = some (.int .i64 ((l.next.getD (if b then 1 else 0) 0 : Nat) : Int)) := by
    rw [intCells, List.getElem?_map, List.getElem?_eq_getElem hb, List.getD_eq_getElem?_getD, List.getElem?_eq_getElem hb]; rfl
  rw [c2] at c1
  have c3 := (hbA.cell (p := ⟨g, if b then 1 else 0, none⟩) hg).trans c1
  cases b
  · simp only [Bool.false_eq_true, if_false] at c1 c3 hb
    have hbi : (0 : Int) < l.next.length := by omega
    go_enter Tryz.func100, Tryz.ntmps100
    go_wp2
    go_ret
    exact ⟨rfl, hbA⟩
  · simp only [if_true] at c1 c3 hb
    have hbi : (1 : Int) < l.next.length := by omega
    go_enter Tryz.func100, Tryz.ntmps100
    go_wp2
    go_ret
    exact ⟨rfl, hbA⟩
end
end Go.Proofs.YtmlgajhhnojdjaaGreatDoor.Own
/- What the lines of a program that was made have. -/
namespace Go.Proofs.YtmlgajhhnojdjaaGreatDoor.PrjS
open Go Go.RowKit Go.Proofs.YtmlgajhhnojdjaaGreatDoor.Spec Go.Proofs.YtmlgajhhnojdjaaGreatDoor.PrjF Go.Proofs.YtmlgajhhnojdjaaGreatDoor.PrjG Go.Proofs.YtmlgajhhnojdjaaGreatDoor.PrjH

def isPlc (c : UInt8) : Bool := !(c == 35) && !(c == 118) && !(c == 102) && !(c == 98)
structure LOk (nl nb : Nat) (l : QLine) : Prop where
  op : l.op < 23
  op2 : 2 ≤ l.op
  places : ∀ x ∈ l.places, x.1 < nl ∧ x.2 ≤ 3
  plen : l.places.length = ((wantsOf l.op).filter isPlc).length
  next : ∀ n ∈ l.next, n < nb
  nlen : l.next.length = ((wantsOf l.op).filter (· == 98)).length
  flag : 0 ≤ l.flag ∧ l.flag ≤ 1000000000
  number : -1000000000 ≤ l.number ∧ l.number ≤ 1000000000
theorem LOk.mono {nl nl' nb : Nat} {l : QLine} (h : LOk nl nb l) (hn : nl ≤ nl') : LOk nl' nb l :=
  ⟨h.op, h.op2, fun x hx => ⟨Nat.lt_of_lt_of_le (h.places x hx).1 hn, (h.places x hx).2⟩, h.plen, h.next, h.nlen, h.flag, h.number⟩
theorem part_le (w : B) : ((splitPl w).getD ([], 0)).2 ≤ 3 := by
  rw [splitPl]
  split
  · simp
  · repeat (first | (split; simp) | simp)
theorem number_le (w : B) : -1000000000 ≤ (numberP w).getD 0 ∧ (numberP w).getD 0 ≤ 1000000000 := by
  cases w with
  | nil => decide
  | cons c r =>
    rw [numberP]
    split
    · have := digitsD_le r
      cases hd : digitsP r with
      | none => simp
      | some n =>
        rw [hd] at this
        simp only [Option.getD_some] at this
        by_cases hn : n = 0
        · simp [hn]
        · simp [hn]; omega
    · have := digitsD_le (c :: r)
      constructor <;> omega
theorem find_lt {ls : List (B × Nat)} {n : B} (h : ¬ findQ ls n < 0) : (findQ ls n).toNat < ls.length := by
  have := findQGo_ge ls n 0
  change -1 ≤ findQ ls n ∧ findQ ls n < _ at this
  omega
theorem lineGo_ok (ls : List (B × Nat)) (nb : Nat) : ∀ (f : B) (ws : List B) (l0 l : QLine), lineGo ls nb f ws l0 = some l → (∀ x ∈ l0.places, x.1 < ls.length ∧ x.2 ≤ 3) → (∀ n ∈ l0.next, n < nb) → (0 ≤ l0.flag ∧ l0.flag ≤ 1000000000) → (-1000000000 ≤ l0.number ∧ l0.number ≤ 1000000000) →
    l.op = l0.op ∧ l.num = l0.num ∧ (∀ x ∈ l.places, x.1 < ls.length ∧ x.2 ≤ 3) ∧ (∀ n ∈ l.next, n < nb) ∧ l.places.length = l0.places.length + (f.filter isPlc).length ∧ l.next.length = l0.next.length + (f.filter (· == 98)).length ∧ (0 ≤ l.flag ∧ l.flag ≤ 1000000000) ∧ (-1000000000 ≤ l.number ∧ l.number ≤ 1000000000)
  | [], ws, l0, l, h, h1, h2, h3, h4 => by
    simp only [lineGo, Option.some.injEq] at h
    subst h
    exact ⟨rfl, rfl, h1, h2, rfl, rfl, h3, h4⟩
  | c :: f, ws, l0, l, h, h1, h2, h3, h4 => by
    rw [lineGo] at h
    by_cases c1 : c = 35 ∨ c = 118
    · rw [if_pos c1] at h
      have ih := lineGo_ok ls nb f (ws.drop 1) _ l h h1 h2 h3 (number_le _)
      have e1 : isPlc c = false := by rcases c1 with rfl | rfl <;> rfl
      have e2 : (c == 98) = false := by rcases c1 with rfl | rfl <;> rfl
      simpa [List.filter_cons, e1, e2] using ih
    · rw [if_neg c1] at h
      by_cases c2 : c = 102
      · rw [if_pos c2] at h
        have ih := lineGo_ok ls nb f (ws.drop 1) _ l h h1 h2 (digitsD_le _) h4
        subst c2
        have e1 : isPlc 102 = false := rfl
        simpa [List.filter_cons, e1] using ih
      · rw [if_neg c2] at h
        by_cases c3 : c = 98
        · rw [if_pos c3] at h
          split at h
          · cases h
          · rename_i hn
            have hd := digitsD_le (word ws 0)
            have ih := lineGo_ok ls nb f (ws.drop 1) _ l h h1 (fun n hn' => by
              simp only [List.mem_append, List.mem_singleton] at hn'
              rcases hn' with hn' | hn'
              · exact h2 n hn'
              · omega) h3 h4
            subst c3
            have e1 : isPlc 98 = false := rfl
            obtain ⟨i1, i2, i3, i4, i5, i6, i7, i8⟩ := ih
            refine ⟨i1, i2, i3, i4, by rw [i5]; simp [e1], by rw [i6]; simp; omega, i7, i8⟩
        · rw [if_neg c3] at h
          split at h
          · cases h
          · rename_i hn
            have ih := lineGo_ok ls nb f (ws.drop 1) _ l h (fun x hx => by
              simp only [List.mem_append, List.mem_singleton] at hx
              rcases hx with hx | rfl
              · exact h1 x hx
              · exact ⟨find_lt hn, part_le _⟩) h2 h3 h4
            simp only [not_or] at c1
            have e1 : isPlc c = true := by simp [isPlc, c1.1, c1.2, c2, c3]
            have e2 : (c == 98) = false := by simp [c3]
            obtain ⟨i1, i2, i3, i4, i5, i6, i7, i8⟩ := ih
            refine ⟨i1, i2, i3, i4, by rw [i5]; simp [e1]; omega, by rw [i6]; simp [e2], i7, i8⟩
theorem lineP_ok {ls : List (B × Nat)} {nb : Nat} {x : Nat × List B} {l : QLine} (h : lineP ls nb x = some l) (h1 : x.1 < 23) (h2 : 2 ≤ x.1) : LOk ls.length nb l := by
  rw [lineP] at h
  obtain ⟨i1, -, i3, i4, i5, i6, i7, i8⟩ := lineGo_ok ls nb _ _ _ _ h (by simp) (by simp) (by simp) (by simp)
  simp only at i1
  exact ⟨by rw [i1]; exact h1, by rw [i1]; exact h2, i3, by rw [i1, i5]; simp, i4, by rw [i1, i6]; simp, i7, i8⟩
structure QOk (nb : Nat) (q : QP) : Prop where
  types : ∀ x ∈ q.locals, x.2 ≤ 3
  lines : ∀ b ∈ q.blocks, ∀ l ∈ b, LOk q.locals.length nb l
theorem tyIdx_lt {w : B} {n : Nat} (h : tyIdx w = some n) : n < 4 := by
  have := (idxGo_ge _ _ _ _ h).2.1
  simpa [typeTab] using this
theorem ty_le (w : B) : (tyIdx w).getD 0 ≤ 3 := by
  cases h : tyIdx w with
  | none => simp
  | some k => have := tyIdx_lt h; simp; omega
theorem lookGo_ok (nb : Nat) : ∀ (S : List (Nat × List B)) (i : Nat) (q0 q : QP), lookGo nb S i q0 = (q, none) → (∀ x ∈ S, x.1 < 23) → QOk nb q0 → QOk nb q
  | [], i, q0, q, h, _, h0 => by
    simp only [lookGo, Prod.mk.injEq, and_true] at h
    subst h; exact h0
  | x :: r, i, q0, q, h, hx, h0 => by
    have hr : ∀ y ∈ r, y.1 < 23 := fun y hy => hx y (List.mem_cons_of_mem _ hy)
    have hx0 := hx x (List.mem_cons_self ..)
    rw [lookGo] at h
    by_cases e0 : x.1 = 0
    · rw [if_pos e0] at h
      split at h
      · cases h
      · refine lookGo_ok nb r (i + 1) _ q h hr ⟨fun y hy => ?_, fun b hb l hl => (h0.lines b hb l hl).mono (by simp [QP.addLocal])⟩
        simp only [QP.addLocal, List.mem_append, List.mem_singleton] at hy
        rcases hy with hy | rfl
        · exact h0.types y hy
        · exact ty_le _
    · rw [if_neg e0] at h
      by_cases e1 : x.1 = 1
      · rw [if_pos e1] at h
        refine lookGo_ok nb r (i + 1) _ q h hr ⟨h0.types, fun b hb l hl => ?_⟩
        simp only [QP.addBlock, List.mem_append, List.mem_singleton] at hb
        rcases hb with hb | rfl
        · exact h0.lines b hb l hl
        · cases hl
      · rw [if_neg e1] at h
        cases hl : lineP q0.locals nb x with
        | none => rw [hl] at h; cases h
        | some l =>
          rw [hl] at h
          have ok := lineP_ok hl hx0 (by omega)
          have ok' : LOk q0.locals.length nb { l with num := i } := ⟨ok.op, ok.op2, ok.places, ok.plen, ok.next, ok.nlen, ok.flag, ok.number⟩
          refine lookGo_ok nb r (i + 1) _ q h hr ⟨h0.types, fun b hb y hy => ?_⟩
          simp only [QP.addLine, List.mem_append, List.mem_singleton] at hb
          rcases hb with hb | rfl
          · exact h0.lines b (List.dropLast_subset _ hb) y hy
          · simp only [List.mem_append, List.mem_singleton] at hy
            rcases hy with hy | rfl
            · rw [List.getLastD_eq_getLast?] at hy
              cases hq : q0.blocks.getLast? with
              | none => rw [hq] at hy; simp at hy
              | some b' =>
                rw [hq] at hy
                exact h0.lines b' (List.mem_of_getLast? hq) y hy
            · exact ok'
end Go.Proofs.YtmlgajhhnojdjaaGreatDoor.PrjS
