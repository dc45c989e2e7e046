/- The project's bare machine: its cells, tags and flags as plain lists; how it lies in memory. -/
import Derived.Test.YtmlgajhhnojdjaaGreatDoorSAY
import Derived.Test.YtmlgajhhnojdjaaGreatDoorSAN
import Derived.Test.YtmlgajhhnojdjaaGreatDoorSAM
import Derived.Deep.LoopGhost
import Derived.Test.YtmlgajhhnojdjaaGreatDoorSBC
namespace Go.Proofs.YtmlgajhhnojdjaaGreatDoor.Ex
open Go Go.RowKit Go.Proofs.YtmlgajhhnojdjaaGreatDoor.Spec Go.Proofs.YtmlgajhhnojdjaaGreatDoor.Aux Go.Proofs.YtmlgajhhnojdjaaGreatDoor.PrjJ Go.Proofs.YtmlgajhhnojdjaaGreatDoor.PrjK Go.Proofs.YtmlgajhhnojdjaaGreatDoor.PrjL Go.Proofs.YtmlgajhhnojdjaaGreatDoor.PrjM Go.Proofs.YtmlgajhhnojdjaaGreatDoor.FlwA Go.Proofs.YtmlgajhhnojdjaaGreatDoor.FlwE Go.Proofs.YtmlgajhhnojdjaaGreatDoor.Own

/-- the bare machine: 24 cells and, behind them, 12 tags: full or not, and the number -/
structure Br where
  yd : Yd
  inp : List Int
  cs : List (Bool × Int)
  flags : List Bool
def cellVal (x : Bool × Int) : List Value := [.bool x.1, .int .i64 x.2]
def cellVals (l : List (Bool × Int)) : List Value := l.flatMap cellVal
def flagVals (l : List Bool) : List Value := l.map Value.bool
def bareRest (a : Nat) (vi : Value) (b : Br) : List Value := .pointer (some ⟨a, 0, none⟩) :: vi :: (cellVals b.cs ++ flagVals b.flags)
/-- is it an opt itself? -/
def isTag (q : QP) (p : Nat × Nat) : Bool := q.kindV p == 3
/-- the number of a place's cell -/
def cellOf (q : QP) (p : Nat × Nat) : Nat := if isTag q p then 24 + p.1 else slotQ p
def Br.cell (b : Br) (q : QP) (p : Nat × Nat) : Bool × Int := b.cs.getD (cellOf q p) (false, 0)
def Br.val (b : Br) (q : QP) (p : Nat × Nat) : Int := (b.cell q p).2
def Br.write (b : Br) (q : QP) (p : Nat × Nat) (v : Int) : Br := { b with cs := b.cs.set (cellOf q p) (true, v) }
structure BAt (w0 : World) (x a : Nat) (w : World) (b : Br) (vi vm vt : Value) : Prop where
  yat : YAt w0.heap.size x 136 (bareRest a vi b) w b.yd vm vt
  old : Below w0.heap.size w0 w
  cs : b.cs.length = 36
  flags : b.flags.length = 50
  feed : FeedAt w0 vi b.inp
theorem cell_len (x : Bool × Int) : (cellVal x).length = 2 := rfl
theorem vals_len (l : List (Bool × Int)) : (cellVals l).length = 2 * l.length := by
  induction l with
  | nil => rfl
  | cons x l ih => rw [cellVals, List.flatMap_cons, List.length_append, List.length_cons]; rw [cellVals] at ih; rw [ih, cell_len]; omega
theorem vals_get : ∀ (l : List (Bool × Int)) (j : Nat), j < l.length → (cellVals l)[j * 2]? = some (.bool (l.getD j (false, 0)).1) ∧ (cellVals l)[j * 2 + 1]? = some (.int .i64 (l.getD j (false, 0)).2)
  | [], _, h => by simp at h
  | x :: l, 0, _ => ⟨rfl, rfl⟩
  | x :: l, j + 1, h => by
    have ih := vals_get l j (by simpa using h)
    have e : cellVals (x :: l) = .bool x.1 :: .int .i64 x.2 :: cellVals l := rfl
    rw [e, show (j + 1) * 2 = j * 2 + 1 + 1 by omega, show j * 2 + 1 + 1 + 1 = (j * 2 + 1) + 1 + 1 by omega]
    simp only [List.getElem?_cons_succ, List.getD_cons_succ]
    exact ih
theorem vals_set : ∀ (l : List (Bool × Int)) (j : Nat) (x : Bool × Int), ((cellVals l).set (j * 2) (.bool x.1)).set (j * 2 + 1) (.int .i64 x.2) = cellVals (l.set j x)
  | [], j, x => rfl
  | y :: l, 0, x => rfl
  | y :: l, j + 1, x => by
    have ih := vals_set l j x
    have e : ∀ z l, cellVals (z :: l) = .bool z.1 :: .int .i64 z.2 :: cellVals l := fun _ _ => rfl
    rw [e, List.set_cons_succ, e, show (j + 1) * 2 = j * 2 + 1 + 1 by omega, show j * 2 + 1 + 1 + 1 = (j * 2 + 1) + 1 + 1 by omega]
    simp only [List.set_cons_succ]
    rw [ih]
theorem cellOf_lt {q : QP} {p : Nat × Nat} (hp : p.1 < 12) : cellOf q p < 36 := by
  unfold cellOf slotQ; split
  · omega
  · split <;> omega
section
variable {x a : Nat} {w w0 w1 : World} {vm vt vi vm1 vt1 : Value} {b : Br}
theorem BAt.lt (h : BAt w0 x a w b vi vm vt) : x < w.heap.size := h.yat.lt
theorem BAt.below (h : BAt w0 x a w b vi vm vt) (hb : Below w.heap.size w w1) : BAt w0 x a w1 b vi vm vt :=
  ⟨h.yat.below hb, h.old.trans (hb.mono h.old.size), h.cs, h.flags, h.feed⟩
theorem rest_cell (a : Nat) (vi : Value) {b : Br} {j : Nat} (hj : j < b.cs.length) : (bareRest a vi b)[2 + j * 2]? = some (.bool (b.cs.getD j (false, 0)).1) ∧ (bareRest a vi b)[2 + j * 2 + 1]? = some (.int .i64 (b.cs.getD j (false, 0)).2) := by
  have h := vals_get b.cs j hj
  have hl := vals_len b.cs
  have e : ∀ k, (bareRest a vi b)[2 + k]? = (cellVals b.cs ++ flagVals b.flags)[k]? := fun k => by rw [Nat.add_comm]; rfl
  refine ⟨?_, ?_⟩
  · rw [e, List.getElem?_append_left (by omega)]; exact h.1
  · rw [Nat.add_assoc, e, List.getElem?_append_left (by omega)]; exact h.2
theorem rest_setCell (a : Nat) (vi : Value) (b : Br) {j : Nat} (hj : j < b.cs.length) (v : Bool × Int) : ((bareRest a vi b).set (2 + j * 2) (.bool v.1)).set (2 + j * 2 + 1) (.int .i64 v.2) = bareRest a vi { b with cs := b.cs.set j v } := by
  have hl := vals_len b.cs
  have e : ∀ (r : List Value) k u, (Value.pointer (some ⟨a, 0, none⟩) :: vi :: r).set (2 + k) u = .pointer (some ⟨a, 0, none⟩) :: vi :: r.set k u := fun r k u => by rw [Nat.add_comm]; rfl
  unfold bareRest
  rw [e, Nat.add_assoc, e, List.set_append_left _ _ (by omega), List.set_append_left _ _ (by rw [List.length_set]; omega), vals_set]
theorem rest_flag (a : Nat) (vi : Value) {b : Br} (hc : b.cs.length = 36) {j : Nat} (hj : j < b.flags.length) : (bareRest a vi b)[74 + j]? = some (.bool (b.flags.getD j false)) := by
  have hl := vals_len b.cs
  have e : (bareRest a vi b)[74 + j]? = (cellVals b.cs ++ flagVals b.flags)[72 + j]? := by rw [show 74 + j = (72 + j) + 2 by omega]; rfl
  rw [e, List.getElem?_append_right (by omega), show 72 + j - (cellVals b.cs).length = j by omega, flagVals, List.getElem?_map, List.getElem?_eq_getElem hj, List.getD_eq_getElem?_getD, List.getElem?_eq_getElem hj]; rfl
theorem rest_setFlag (a : Nat) (vi : Value) (b : Br) (hc : b.cs.length = 36) (j : Nat) (v : Bool) : (bareRest a vi b).set (74 + j) (.bool v) = bareRest a vi { b with flags := b.flags.set j v } := by
  have hl := vals_len b.cs
  unfold bareRest
  rw [show 74 + j = (72 + j) + 2 by omega]
  simp only [List.set_cons_succ]
  rw [List.set_append_right _ _ (by omega), show 72 + j - (cellVals b.cs).length = j by omega]
  simp [flagVals, List.map_set]
theorem BAt.cellAt (h : BAt w0 x a w b vi vm vt) {j : Nat} (hj : j < 36) : w.cell? ⟨x, 5 + j * 2, none⟩ = some (.bool (b.cs.getD j (false, 0)).1) ∧ w.cell? ⟨x, 5 + j * 2 + 1, none⟩ = some (.int .i64 (b.cs.getD j (false, 0)).2) ∧ w.frozen? ⟨x, 5 + j * 2, none⟩ = false ∧ w.frozen? ⟨x, 5 + j * 2 + 1, none⟩ = false := by
  obtain ⟨r1, r2⟩ := rest_cell a vi (b := b) (j := j) (by rw [h.cs]; exact hj)
  have h1 := h.yat.more (2 + j * 2)
  have h2 := h.yat.more (2 + j * 2 + 1)
  rw [r1, show 3 + (2 + j * 2) = 5 + j * 2 by omega] at h1
  rw [r2, show 3 + (2 + j * 2 + 1) = 5 + j * 2 + 1 by omega] at h2
  exact ⟨h1.1, h2.1, h1.2, h2.2⟩
theorem BAt.flagAt (h : BAt w0 x a w b vi vm vt) {j : Nat} (hj : j < 50) : w.cell? ⟨x, 77 + j, none⟩ = some (.bool (b.flags.getD j false)) ∧ w.frozen? ⟨x, 77 + j, none⟩ = false := by
  have h1 := h.yat.more (74 + j)
  rw [rest_flag a vi h.cs (by rw [h.flags]; exact hj), show 3 + (74 + j) = 77 + j by omega] at h1
  exact h1
theorem BAt.setCell (h : BAt w0 x a w b vi vm vt) {j : Nat} (hj : j < 36) (f : Bool) (v : Int) : BAt w0 x a ((w.setCell ⟨x, 5 + j * 2, none⟩ (.bool f)).setCell ⟨x, 5 + j * 2 + 1, none⟩ (.int .i64 v)) { b with cs := b.cs.set j (f, v) } vi vm vt ∧
    Roam x vm vt w vm vt ((w.setCell ⟨x, 5 + j * 2, none⟩ (.bool f)).setCell ⟨x, 5 + j * 2 + 1, none⟩ (.int .i64 v)) := by
  obtain ⟨h1, h2⟩ := h.yat.setRest (2 + j * 2) (.bool f)
  obtain ⟨h3, h4⟩ := h1.setRest (2 + j * 2 + 1) (.int .i64 v)
  rw [rest_setCell a vi b (by rw [h.cs]; exact hj) (f, v)] at h3
  rw [show 3 + (2 + j * 2) = 5 + j * 2 by omega, show 3 + (2 + j * 2 + 1) = 5 + j * 2 + 1 by omega] at h3 h4
  rw [show 3 + (2 + j * 2) = 5 + j * 2 by omega] at h2
  have h5 := h2.trans h4
  exact ⟨⟨h3, h.old.trans (h5.below h.yat (Nat.le_refl _) h.old.size), by simpa using h.cs, h.flags, h.feed⟩, h5⟩
theorem BAt.setFlag (h : BAt w0 x a w b vi vm vt) (j : Nat) (v : Bool) : BAt w0 x a (w.setCell ⟨x, 77 + j, none⟩ (.bool v)) { b with flags := b.flags.set j v } vi vm vt ∧ Roam x vm vt w vm vt (w.setCell ⟨x, 77 + j, none⟩ (.bool v)) := by
  obtain ⟨h1, h2⟩ := h.yat.setRest (74 + j) (.bool v)
  rw [rest_setFlag a vi b h.cs, show 3 + (74 + j) = 77 + j by omega] at h1
  rw [show 3 + (74 + j) = 77 + j by omega] at h2
  exact ⟨⟨h1, h.old.trans (h2.below h.yat (Nat.le_refl _) h.old.size), h.cs, by simpa using h.flags, h.feed⟩, h2⟩
/-- a yard's function has run -/
theorem BAt.yard (h : BAt w0 x a w b vi vm vt) {y' : Yd} (h1 : YAt w0.heap.size x 136 (bareRest a vi b) w1 y' vm1 vt1) (h2 : Roam x vm vt w vm1 vt1 w1) : BAt w0 x a w1 { b with yd := y' } vi vm1 vt1 :=
  ⟨h1, h.old.trans (h2.below h.yat (Nat.le_refl _) h.old.size), h.cs, h.flags, h.feed⟩
theorem BAt.prog (h : BAt w0 x a w b vi vm vt) : w.cell? ⟨x, 3, none⟩ = some (.pointer (some ⟨a, 0, none⟩)) := by
  have := (h.yat.more 0).1
  simpa [bareRest] using this
end
end Go.Proofs.YtmlgajhhnojdjaaGreatDoor.Ex
/- The project's bare machine: its small functions, walked. -/
namespace Go.Proofs.YtmlgajhhnojdjaaGreatDoor.Ex
open Go Go.RowKit Go.Proofs.YtmlgajhhnojdjaaGreatDoor.Spec Go.Proofs.YtmlgajhhnojdjaaGreatDoor.Aux Go.Proofs.YtmlgajhhnojdjaaGreatDoor.PrjJ Go.Proofs.YtmlgajhhnojdjaaGreatDoor.PrjK Go.Proofs.YtmlgajhhnojdjaaGreatDoor.PrjL Go.Proofs.YtmlgajhhnojdjaaGreatDoor.PrjM Go.Proofs.YtmlgajhhnojdjaaGreatDoor.PrjR Go.Proofs.YtmlgajhhnojdjaaGreatDoor.FlwA Go.Proofs.YtmlgajhhnojdjaaGreatDoor.FlwE Go.Proofs.YtmlgajhhnojdjaaGreatDoor.Own

section
variable {x a : Nat} {w w0 : World} {vm vt vi v u : Value} {b : Br} {q : QP}
set_option maxRecDepth 20000 in
theorem isTag_any (h : BAt w0 x a w b vi vm vt) (hq : PQ w0 a q v u) (hls : q.locals.length ≤ 12) (p : Nat × Nat) (hp : p.1 < q.locals.length) :
    Calls Tryz.prog 173 #[.pointer (some ⟨x, 0, none⟩), .agg #[.int .i64 (p.1 : Nat), .int .i64 (p.2 : Nat)]] w fun e w' => e = .returned (.bool (isTag q p)) ∧ Below w.heap.size w w' := by
  have hbA : Below w.heap.size w (w.alloc (.cells #[.int .i64 (p.1 : Nat), .int .i64 (p.2 : Nat)] 119)) := (Below.refl _ _).alloc (Nat.le_refl _) _
  have HA := h.below hbA
  have c1 := HA.prog
  have hqA := hq.below HA.old
  have hqD : PQ (w.alloc (.cells #[.int .i64 (p.1 : Nat), .int .i64 (p.2 : Nat)] 119)).drew a q v u := hqA.below ((Below.refl _ _).drew)
  have KK := kind_any q p v u a (w.alloc (.cells #[.int .i64 (p.1 : Nat), .int .i64 (p.2 : Nat)] 119)).drew hqD.blk hqD.loc (by omega) hp
  have hk : (((q.kindV p : Nat) : Int) == 3) = isTag q p := by unfold isTag; rw [Bool.eq_iff_iff]; simp; omega
  have HK : Hid (_ = _) := hk
  clear hk
  go_enter Tryz.func173, Tryz.ntmps173
  go_wp2
  go_region_with (go_at_call 207; refine KK.mono ?_; rintro e w1 ⟨rfl, hb1⟩; have hb2 : Below (w.alloc (.cells #[.int .i64 (p.1 : Nat), .int .i64 (p.2 : Nat)] 119)).heap.size (w.alloc (.cells #[.int .i64 (p.1 : Nat), .int .i64 (p.2 : Nat)] 119)) w1 := ⟨hb1.os, hb1.tape, hb1.output, hb1.size, hb1.block⟩)
  all_goals go_wp2_with fail
  all_goals
    go_ret
    exact ⟨congrArg (fun z => Ending.returned (.bool z)) HK.out, hbA.trans (hb2.mono hbA.size)⟩
theorem ret_ptr {n m : Nat} (h : n = m) : Ending.returned (.pointer (some ⟨x, n, none⟩)) = .returned (.pointer (some ⟨x, m, none⟩)) := by rw [h]
set_option maxRecDepth 20000 in
theorem cell_any (h : BAt w0 x a w b vi vm vt) (hq : PQ w0 a q v u) (hls : q.locals.length ≤ 12) (p : Nat × Nat) (hp : p.1 < q.locals.length) :
    Calls Tryz.prog 121 #[.pointer (some ⟨x, 0, none⟩), .agg #[.int .i64 (p.1 : Nat), .int .i64 (p.2 : Nat)]] w fun e w' => e = .returned (.pointer (some ⟨x, 5 + cellOf q p * 2, none⟩)) ∧ Below w.heap.size w w' := by
  have hbA : Below w.heap.size w (w.alloc (.cells #[.int .i64 (p.1 : Nat), .int .i64 (p.2 : Nat)] 119)) := (Below.refl _ _).alloc (Nat.le_refl _) _
  have HA := h.below hbA
  have hhA : (w.alloc (.cells #[.int .i64 (p.1 : Nat), .int .i64 (p.2 : Nat)] 119)).heap[w.heap.size]? = some (.cells #[.int .i64 (p.1 : Nat), .int .i64 (p.2 : Nat)] 119 (0, 0)) := Array.getElem?_push_size
  have hsA : (w.alloc (.cells #[.int .i64 (p.1 : Nat), .int .i64 (p.2 : Nat)] 119)).heap.size = w.heap.size + 1 := by simp
  have KI := isTag_any HA hq hls p hp
  have hsl : slotQ p < 24 := by unfold slotQ; split <;> omega
  have hsi : (slotQ p : Int) < 24 := by omega
  have hpi : (p.1 : Int) < 12 := by omega
  have KS := fun W => slot_any p W (by omega)
  cases ht : isTag q p
  · have HT : Hid (cellOf q p = slotQ p) := by unfold Hid cellOf; rw [ht]; rfl
    rw [ht] at KI
    clear ht
    go_enter Tryz.func121, Tryz.ntmps121
    go_upto_region 3 with (go_at_call 173; refine KI.mono ?_; rintro e w1 ⟨rfl, hb1⟩; have hh1 := (hb1.block w.heap.size (by omega)).trans hhA; have c0 : w1.cell? ⟨w.heap.size, 0, none⟩ = some (.int .i64 (p.1 : Nat)) := (by rw [cell_of_heap hh1]; rfl); have c1 : w1.cell? ⟨w.heap.size, 1, none⟩ = some (.int .i64 (p.2 : Nat)) := (by rw [cell_of_heap hh1]; rfl))
    go_region_with (go_at_call 62; refine (KS _).mono ?_; rintro e w2 ⟨rfl, hb2⟩; have hb3 : Below w1.heap.size w1 w2 := ⟨hb2.os, hb2.tape, hb2.output, hb2.size, hb2.block⟩)
    all_goals go_wp2_with fail
    all_goals
      go_ret
      exact ⟨ret_ptr (by rw [HT.out]), hbA.trans ((hb1.trans (hb3.mono hb1.size)).mono hbA.size)⟩
  · have HT : Hid (cellOf q p = 24 + p.1) := by unfold Hid cellOf; rw [ht]; rfl
    rw [ht] at KI
    clear ht
    go_enter Tryz.func121, Tryz.ntmps121
    go_upto_region 2 with (go_at_call 173; refine KI.mono ?_; rintro e w1 ⟨rfl, hb1⟩; have hh1 := (hb1.block w.heap.size (by omega)).trans hhA; have c0 : w1.cell? ⟨w.heap.size, 0, none⟩ = some (.int .i64 (p.1 : Nat)) := (by rw [cell_of_heap hh1]; rfl); have c1 : w1.cell? ⟨w.heap.size, 1, none⟩ = some (.int .i64 (p.2 : Nat)) := (by rw [cell_of_heap hh1]; rfl))
    go_region
    all_goals go_wp2_with fail
    all_goals
      go_ret
      have hB := hbA.trans (hb1.mono hbA.size)
      exact ⟨ret_ptr (by rw [HT.out]; omega), ⟨hB.os, hB.tape, hB.output, hB.size, hB.block⟩⟩
set_option maxRecDepth 20000 in
theorem value_any (h : BAt w0 x a w b vi vm vt) (hq : PQ w0 a q v u) (hls : q.locals.length ≤ 12) (p : Nat × Nat) (hp : p.1 < q.locals.length) :
    Calls Tryz.prog 74 #[.pointer (some ⟨x, 0, none⟩), .agg #[.int .i64 (p.1 : Nat), .int .i64 (p.2 : Nat)]] w fun e w' => e = .returned (.int .i64 (b.val q p)) ∧ Below w.heap.size w w' := by
  have hbA : Below w.heap.size w (w.alloc (.cells #[.int .i64 (p.1 : Nat), .int .i64 (p.2 : Nat)] 119)) := (Below.refl _ _).alloc (Nat.le_refl _) _
  have HA := h.below hbA
  have KC := cell_any HA hq hls p hp
  have hc : cellOf q p < 36 := cellOf_lt (by omega)
  go_enter Tryz.func74, Tryz.ntmps74
  go_wp2_with (go_at_call 121; refine KC.mono ?_; rintro e w1 ⟨rfl, hb1⟩; obtain ⟨d0, d1, -, -⟩ := (HA.below hb1).cellAt hc)
  go_ret
  exact ⟨rfl, hbA.trans (hb1.mono hbA.size)⟩
set_option maxRecDepth 20000 in
theorem named_any (h : BAt w0 x a w b vi vm vt) (hq : PQ w0 a q v u) (hls : q.locals.length ≤ 12) (p : Nat × Nat) (hp : p.1 < q.locals.length) :
    Calls Tryz.prog 122 #[.pointer (some ⟨x, 0, none⟩), .agg #[.int .i64 (p.1 : Nat), .int .i64 (p.2 : Nat)]] w fun e w' => e = .returned (.int .i64 (b.val q p)) ∧ Below w.heap.size w w' := by
  have hbA : Below w.heap.size w (w.alloc (.cells #[.int .i64 (p.1 : Nat), .int .i64 (p.2 : Nat)] 119)) := (Below.refl _ _).alloc (Nat.le_refl _) _
  have HA := h.below hbA
  have KC := value_any HA hq hls p hp
  go_enter Tryz.func122, Tryz.ntmps122
  go_wp2_with (go_at_call 74; refine KC.mono ?_; rintro e w1 ⟨rfl, hb1⟩)
  go_ret
  exact ⟨rfl, hbA.trans (hb1.mono hbA.size)⟩
set_option maxRecDepth 20000 in
theorem write_any (h : BAt w0 x a w b vi vm vt) (hq : PQ w0 a q v u) (hls : q.locals.length ≤ 12) (p : Nat × Nat) (hp : p.1 < q.locals.length) (n : Int) :
    Calls Tryz.prog 76 #[.pointer (some ⟨x, 0, none⟩), .agg #[.int .i64 (p.1 : Nat), .int .i64 (p.2 : Nat)], .int .i64 n] w fun e w' => e = .returned (.tuple #[]) ∧ BAt w0 x a w' (b.write q p n) vi vm vt ∧ Roam x vm vt w vm vt w' := by
  have hbA : Below w.heap.size w (w.alloc (.cells #[.int .i64 (p.1 : Nat), .int .i64 (p.2 : Nat)] 119)) := (Below.refl _ _).alloc (Nat.le_refl _) _
  have HA := h.below hbA
  have KC := cell_any HA hq hls p hp
  have hc : cellOf q p < 36 := cellOf_lt (by omega)
  go_enter Tryz.func76, Tryz.ntmps76
  go_wp2_with (go_at_call 121; refine KC.mono ?_; rintro e w1 ⟨rfl, hb1⟩; have H1 := HA.below hb1; obtain ⟨d0, d1, f0, f1⟩ := H1.cellAt hc; obtain ⟨h5, r5⟩ := H1.setCell hc true n)
  go_end0
  exact ⟨rfl, h5, (Roam.of (hbA.trans (hb1.mono hbA.size))).trans r5⟩
end
end Go.Proofs.YtmlgajhhnojdjaaGreatDoor.Ex
/- The project's bare machine: is anything empty, is a box dead? -/
namespace Go.Proofs.YtmlgajhhnojdjaaGreatDoor.Ex
open Go Go.RowKit Go.Proofs.YtmlgajhhnojdjaaGreatDoor.Spec Go.Proofs.YtmlgajhhnojdjaaGreatDoor.Aux Go.Proofs.YtmlgajhhnojdjaaGreatDoor.PrjJ Go.Proofs.YtmlgajhhnojdjaaGreatDoor.PrjK Go.Proofs.YtmlgajhhnojdjaaGreatDoor.PrjL Go.Proofs.YtmlgajhhnojdjaaGreatDoor.PrjM Go.Proofs.YtmlgajhhnojdjaaGreatDoor.PrjR Go.Proofs.YtmlgajhhnojdjaaGreatDoor.PrjT Go.Proofs.YtmlgajhhnojdjaaGreatDoor.FlwA Go.Proofs.YtmlgajhhnojdjaaGreatDoor.FlwE Go.Proofs.YtmlgajhhnojdjaaGreatDoor.Own

def Br.empty (b : Br) (q : QP) (ps : List (Nat × Nat)) : Bool := ps.any fun p => !(b.cell q p).1
def Br.dead (b : Br) (q : QP) (p : Nat × Nat) : Bool := !(b.cell q p).1 || !(b.yd.at (b.val q p).toNat).2
section
variable {x a : Nat} {w w0 : World} {vm vt vi v u : Value} {b : Br} {q : QP}
set_option maxRecDepth 20000 in
set_option maxHeartbeats 1000000 in
theorem empty_any (h : BAt w0 x a w b vi vm vt) (hq : PQ w0 a q v u) (hls : q.locals.length ≤ 12) {z n c : Nat} {ad : Option Addr} {ps : List (Nat × Nat)} (hp : PlacesAt z w (.slice ad n c) ps) (hx : ∀ p ∈ ps, p.1 < q.locals.length) :
    Calls Tryz.prog 119 #[.pointer (some ⟨x, 0, none⟩), .slice ad n c] w fun e w' => e = .returned (.bool (b.empty q ps)) ∧ Below w.heap.size w w' := by
  have hn : n = ps.length := by
    obtain ⟨ad', c', e⟩ := PrjP.own_slice hp
    simp only [Value.slice.injEq] at e; exact e.2.1
  have hlen : ps.length ≤ maxLen := by
    rcases hp.2 with ⟨-, h⟩ | ⟨g, cap, cur, -, -, -, h1, h2, -⟩
    · omega
    · omega
  unfold maxLen at hlen
  subst hn
  go_enter Tryz.func119, Tryz.ntmps119
  go_wp2
  go_loopg [9] (ps.length) (fun g v9 wr => ∃ (k : Nat), k ≤ ps.length ∧ g + k = ps.length ∧ v9 = .int .i64 k ∧ Below w.heap.size w wr ∧ Hid (b.empty q ps = b.empty q (ps.drop k)))
  case atStart => exact ⟨0, Nat.zero_le _, rfl, rfl, Below.refl _ _, rfl⟩
  case round =>
    obtain ⟨k, hk, hgk, rfl, hB, HI⟩ := hrel
    by_cases hlt : k < ps.length
    · have hpr : PlacesAt z wr (.slice ad ps.length c) ps := own_below hp hB
      obtain ⟨gp, rfl, -, hcp, hgp, c1, c2⟩ := places_cells hpr k hlt
      have hx1 := hx (ps.getD k (0, 0)) (by simp [hlt])
      have hst : b.empty q (ps.drop k) = (!(b.cell q (ps.getD k (0, 0))).1 || b.empty q (ps.drop (k + 1))) := by
        rw [List.drop_eq_getElem_cons hlt, List.getD_eq_getElem?_getD, List.getElem?_eq_getElem hlt]; rfl
      have HS : Hid (_ = _) := HI.out.trans hst
      clear hst
      generalize ps.getD k (0, 0) = p at *
      have hbx : Below wr.heap.size wr (wr.alloc (.cells #[.int .i64 (p.1 : Nat), .int .i64 (p.2 : Nat)] 119)) := (Below.refl _ _).alloc (Nat.le_refl _) _
      have H1 := (h.below hB).below hbx
      have KC := cell_any H1 hq hls p hx1
      have hc : cellOf q p < 36 := cellOf_lt (by omega)
      cases hf : (b.cell q p).1
      · have HF : Hid (b.empty q ps = true) := by unfold Hid; rw [HS.out, hf]; rfl
        go_wp2_with (go_at_call 121; refine KC.mono ?_; rintro e w1 ⟨rfl, hb1⟩; obtain ⟨d0, d1, -, -⟩ := (H1.below hb1).cellAt hc; replace d0 := d0.trans (congrArg (fun z => some (Value.bool z)) hf))
        go_ret
        exact ⟨by rw [HF.out]; rfl, hB.trans ((hbx.trans (hb1.mono hbx.size)).mono hB.size)⟩
      · have HF : Hid (b.empty q ps = b.empty q (ps.drop (k + 1))) := by unfold Hid; rw [HS.out, hf]; rfl
        go_wp2_with (go_at_call 121; refine KC.mono ?_; rintro e w1 ⟨rfl, hb1⟩; obtain ⟨d0, d1, -, -⟩ := (H1.below hb1).cellAt hc; replace d0 := d0.trans (congrArg (fun z => some (Value.bool z)) hf))
        go_roundg (ps.length - (k + 1))
        case measure => omega
        case rel => exact ⟨k + 1, by omega, by omega, by go_num, hB.trans ((hbx.trans (hb1.mono hbx.size)).mono hB.size), HF⟩
    · have hx : b.empty q ps = false := by rw [HI.out, List.drop_eq_nil_of_le (by omega)]; rfl
      have HX : Hid (_ = _) := hx
      clear hx
      go_wp2
      go_ret
      exact ⟨by rw [HX.out]; rfl, hB⟩
theorem places_one (w : World) (p : Nat × Nat) : PlacesAt w.heap.size (w.alloc (.cells #[.int .i64 (p.1 : Nat), .int .i64 (p.2 : Nat)] 119)) (.slice (some ⟨w.heap.size, 0, none⟩) 1 1) [p] := places_new w [p] (by simp)
set_option maxRecDepth 20000 in
set_option maxHeartbeats 2000000 in
theorem dead_any (h : BAt w0 x a w b vi vm vt) (hq : PQ w0 a q v u) (hls : q.locals.length ≤ 12) (p : Nat × Nat) (hp : p.1 < q.locals.length) (ho : b.yd.Ok) (hbx : (b.cell q p).1 = true → 1 ≤ b.val q p ∧ b.val q p ≤ b.yd.made.length) :
    Calls Tryz.prog 120 #[.pointer (some ⟨x, 0, none⟩), .agg #[.int .i64 (p.1 : Nat), .int .i64 (p.2 : Nat)]] w fun e w' => e = .returned (.bool (b.dead q p)) ∧ Below w.heap.size w w' := by
  have hbA : Below w.heap.size w (w.alloc (.cells #[.int .i64 (p.1 : Nat), .int .i64 (p.2 : Nat)] 119)) := (Below.refl _ _).alloc (Nat.le_refl _) _
  have HA := h.below hbA
  obtain ⟨W, hW⟩ : ∃ W, w.alloc (.cells #[.int .i64 (p.1 : Nat), .int .i64 (p.2 : Nat)] 119) = W := ⟨_, rfl⟩
  have hbD : Below W.heap.size W (W.alloc (.cells #[.int .i64 (p.1 : Nat), .int .i64 (p.2 : Nat)] 119)).drew := ((Below.refl _ _).alloc (Nat.le_refl _) _).drew
  have hpD : PlacesAt W.heap.size (W.alloc (.cells #[.int .i64 (p.1 : Nat), .int .i64 (p.2 : Nat)] 119)).drew (.slice (some ⟨W.heap.size, 0, none⟩) 1 1) [p] := own_below (places_one W p) ((Below.refl _ _).drew)
  have KE := empty_any ((hW ▸ HA).below hbD) hq hls hpD (fun y hy => by rw [List.mem_singleton.1 hy]; exact hp)
  have KN := fun (W' : World) (hb : Below W.heap.size W W') => named_any ((hW ▸ HA).below hb) hq hls p hp
  have hhA : W.heap[w.heap.size]? = some (.cells #[.int .i64 (p.1 : Nat), .int .i64 (p.2 : Nat)] 119 (0, 0)) := by rw [← hW]; exact Array.getElem?_push_size
  have y0 : W.cell? ⟨w.heap.size, 0, none⟩ = some (.int .i64 (p.1 : Nat)) := by rw [cell_of_heap hhA]; rfl
  have y1 : W.cell? ⟨w.heap.size, 1, none⟩ = some (.int .i64 (p.2 : Nat)) := by rw [cell_of_heap hhA]; rfl
  have hsz : w.heap.size < W.heap.size := by rw [← hW]; simp
  have hcl : ∀ W', Below W.heap.size W W' → W'.cell? ⟨w.heap.size, 0, none⟩ = some (.int .i64 (p.1 : Nat)) ∧ W'.cell? ⟨w.heap.size, 1, none⟩ = some (.int .i64 (p.2 : Nat)) := fun W' hb => ⟨(hb.cell (p := ⟨w.heap.size, 0, none⟩) hsz).trans y0, (hb.cell (p := ⟨w.heap.size, 1, none⟩) hsz).trans y1⟩
  have hem : b.empty q [p] = !(b.cell q p).1 := by simp [Br.empty]
  cases hf : (b.cell q p).1
  · rw [hf] at hem
    simp only [hem, Bool.not_false] at KE
    have HD : Hid (b.dead q p = true) := by unfold Hid Br.dead; rw [hf]; rfl
    clear hem hf
    go_enter Tryz.func120, Tryz.ntmps120
    go_wp2
    first
    | (go_region_with (go_at_call 119; refine KE.mono ?_; rintro e w1 ⟨rfl, hb1⟩; have HB1 : Hid (Below _ _ _) := hbD.trans (hb1.mono hbD.size)))
    | fail
    all_goals go_wp2_with fail
    all_goals
      go_ret
      exact ⟨by rw [HD.out]; rfl, (hW ▸ hbA).trans (HB1.out.mono (Nat.le_of_lt hsz))⟩
  · have hn := hbx hf
    obtain ⟨n, hnv⟩ : ∃ n : Nat, b.val q p = n := ⟨(b.val q p).toNat, by omega⟩
    have KL := fun (W' : World) (hb : Below W.heap.size W W') => isLive_any (((hW ▸ HA).below hb).yat) n (by omega) (by omega) ho
    rw [hf] at hem
    simp only [hem, Bool.not_true] at KE
    rw [hnv] at KN
    have HD : Hid (b.dead q p = !(b.yd.at n).2) := by unfold Hid Br.dead; rw [hf, hnv]; rfl
    clear hem hf hn hbx
    go_enter Tryz.func120, Tryz.ntmps120
    go_wp2
    go_region_held3 (fun W' => W'.cell? ⟨w.heap.size, 0, none⟩ = some (.int .i64 (p.1 : Nat)) ∧ W'.cell? ⟨w.heap.size, 1, none⟩ = some (.int .i64 (p.2 : Nat))) (go_keep)
      (first
      | (go_at_call 119; refine KE.mono ?_; rintro e w1 ⟨rfl, hb1⟩; have hb2 := hbD.trans (hb1.mono hbD.size); obtain ⟨z0, z1⟩ := hcl _ hb2)
      | (go_at_call 122; refine (KN _ hb2).mono ?_; rintro e w3 ⟨rfl, hb3⟩; have hb4 := hb2.trans (hb3.mono hb2.size); obtain ⟨z2, z3⟩ := hcl _ hb4)
      | (go_at_call 172; refine (KL _ hb4).mono ?_; rintro e w5 ⟨rfl, rfl⟩))
    all_goals go_wp2_with fail
    all_goals
      go_ret
      exact ⟨by rw [HD.out]; rfl, (hW ▸ hbA).trans (hb4.mono (Nat.le_of_lt hsz))⟩
end
end Go.Proofs.YtmlgajhhnojdjaaGreatDoor.Ex
/- The project's bare machine: an opt's content; two numbers put together. -/
namespace Go.Proofs.YtmlgajhhnojdjaaGreatDoor.Ex
open Go Go.RowKit Go.Proofs.YtmlgajhhnojdjaaGreatDoor.Spec Go.Proofs.YtmlgajhhnojdjaaGreatDoor.Aux Go.Proofs.YtmlgajhhnojdjaaGreatDoor.PrjJ Go.Proofs.YtmlgajhhnojdjaaGreatDoor.PrjK Go.Proofs.YtmlgajhhnojdjaaGreatDoor.PrjL Go.Proofs.YtmlgajhhnojdjaaGreatDoor.PrjM Go.Proofs.YtmlgajhhnojdjaaGreatDoor.PrjR Go.Proofs.YtmlgajhhnojdjaaGreatDoor.PrjS Go.Proofs.YtmlgajhhnojdjaaGreatDoor.PrjT Go.Proofs.YtmlgajhhnojdjaaGreatDoor.FlwA Go.Proofs.YtmlgajhhnojdjaaGreatDoor.FlwE Go.Proofs.YtmlgajhhnojdjaaGreatDoor.Own

def Br.calc (b : Br) (q : QP) (l : QLine) : Br := b.write q (l.places.getD 0 (0, 0)) (calcI l.op (b.val q (l.places.getD 1 (0, 0))) (b.val q (l.places.getD 2 (0, 0))))
theorem info_place : (Tryz.prog.info? 119).map (fun i => i.size) = some 2 := by kernel_rfl
set_option maxRecDepth 20000 in
theorem contentOf_any (p : Nat × Nat) (w : World) : Calls Tryz.prog 124 #[.agg #[.int .i64 (p.1 : Nat), .int .i64 (p.2 : Nat)]] w fun e w' => e = .returned (.agg #[.int .i64 (p.1 : Nat), .int .i64 3]) ∧ Below w.heap.size w w' := by
  have hbA : Below w.heap.size w (w.alloc (.cells #[.int .i64 (p.1 : Nat), .int .i64 (p.2 : Nat)] 119)) := (Below.refl _ _).alloc (Nat.le_refl _) _
  go_enter Tryz.func124, Tryz.ntmps124
  go_wp2
  have hh : ((w.alloc (.cells #[.int .i64 (p.1 : Nat), .int .i64 (p.2 : Nat)] 119)).alloc (.cells #[.int .i64 (p.1 : Nat), .int .i64 3] 119)).heap[w.heap.size + 1]? = some (.cells #[.int .i64 (p.1 : Nat), .int .i64 3] 119 (0, 0)) := by
    have e : w.heap.size + 1 = (w.alloc (.cells #[.int .i64 (p.1 : Nat), .int .i64 (p.2 : Nat)] 119)).heap.size := by simp
    rw [e]; exact Array.getElem?_push_size
  refine bodyPost_ret (results_cell Tryz.results124 _ _ _ (w.heap.size + 1) [.int .i64 (p.1 : Nat), .int .i64 3] _ rfl (fun j u hu => by rw [Nat.zero_add, cell_of_heap hh]; simpa using hu) Tryz.underlying119 rfl info_place) rfl ?_
  exact ⟨rfl, hbA.alloc hbA.size _⟩
section
variable {x a : Nat} {w w0 w1 : World} {vm vt vi vm1 vt1 : Value} {b : Br}
/-- what was made behind the machine stays -/
theorem BAt.fresh (h : BAt w0 x a w b vi vm vt) {k : Nat} (hk : w.heap.size ≤ k) : k ≠ x ∧ vm.ownBlock ≠ some k ∧ vt.ownBlock ≠ some k := by
  have h1 := h.lt
  refine ⟨by omega, fun e => ?_, fun e => ?_⟩
  · have := (h.yat.made.lt k e).2; omega
  · have := (h.yat.trace.lt k e).2; omega
theorem roam_cell (h : Roam x vm vt w vm1 vt1 w1) {k : Nat} (hk : k < w.heap.size) (hf : k ≠ x ∧ vm.ownBlock ≠ some k ∧ vt.ownBlock ≠ some k) (o : Nat) : w1.cell? ⟨k, o, none⟩ = w.cell? ⟨k, o, none⟩ := by
  have := h.block k hk hf.1 hf.2.1 hf.2.2
  simp only [World.cell?, this]
end
section
variable {x a : Nat} {w w0 : World} {vm vt vi v u : Value} {b : Br} {q : QP}
set_option maxRecDepth 20000 in
set_option maxHeartbeats 4000000 in
theorem calculate_any (h : BAt w0 x a w b vi vm vt) (hq : PQ w0 a q v u) (hls : q.locals.length ≤ 12) {z nb : Nat} {l : QLine} {ap an : Option Addr} {cp cn : Nat} (hl : LineAt z w0 l (.slice ap l.places.length cp) (.slice an l.next.length cn)) (hk : LOk q.locals.length nb l)
    (ho : l.op = 3 ∨ l.op = 4 ∨ l.op = 5 ∨ l.op = 6) (hd : l.op = 6 → ¬ b.val q (l.places.getD 2 (0, 0)) = 0) (hr : ∀ p, isI64 (b.val q p)) :
    Calls Tryz.prog 75 #[.pointer (some ⟨x, 0, none⟩), .agg #[.int .i64 (l.num : Nat), .int .i64 (l.op : Nat), .slice ap l.places.length cp, .int .i64 l.number, .int .i64 l.flag, .slice an l.next.length cn]] w fun e w' => e = .returned (.tuple #[]) ∧ BAt w0 x a w' (b.calc q l) vi vm vt ∧ Roam x vm vt w vm vt w' := by
  have hlen : l.places.length = 3 := by rcases ho with e | e | e | e <;> (rw [hk.plen, e]; rfl)
  have hbA : Below w.heap.size w (w.alloc (.cells #[.int .i64 (l.num : Nat), .int .i64 (l.op : Nat), .slice ap l.places.length cp, .int .i64 l.number, .int .i64 l.flag, .slice an l.next.length cn] 115)) := (Below.refl _ _).alloc (Nat.le_refl _) _
  obtain ⟨g, rfl, hcp, hg, c1, c2⟩ := place_at hl hlen 0 (by omega)
  obtain ⟨g', e', -, -, c3, c4⟩ := place_at hl hlen 1 (by omega)
  simp only [Option.some.injEq, Addr.mk.injEq, and_true] at e'
  subst e'
  obtain ⟨g', e', -, -, c5, c6⟩ := place_at hl hlen 2 (by omega)
  simp only [Option.some.injEq, Addr.mk.injEq, and_true] at e'
  subst e'
  have hx : ∀ j, j < 3 → (l.places.getD j (0, 0)).1 < q.locals.length := fun j hj =>
    (hk.places (l.places.getD j (0, 0)) (by rw [List.getD_eq_getElem?_getD, List.getElem?_eq_getElem (by omega)]; exact List.getElem_mem _)).1
  have x0 := hx 0 (by omega)
  have x1 := hx 1 (by omega)
  have x2 := hx 2 (by omega)
  have KC := fun w' => calculated_any l.op (b.val q (l.places.getD 1 (0, 0))) (b.val q (l.places.getD 2 (0, 0))) w' hd ho (hr _) (hr _)
  have KN1 := fun (W : World) (hb : Below w.heap.size w W) => value_any (h.below hb) hq hls (l.places.getD 1 (0, 0)) x1
  have KN2 := fun (W : World) (hb : Below w.heap.size w W) => value_any (h.below hb) hq hls (l.places.getD 2 (0, 0)) x2
  have KW := fun (W : World) (hb : Below w.heap.size w W) (n : Int) => write_any (h.below hb) hq hls (l.places.getD 0 (0, 0)) x0 n
  have hb : ∀ W, Below w0.heap.size w0 W → (W.cell? ⟨g, 0, none⟩ = some (.int .i64 ((l.places.getD 0 (0, 0)).1 : Nat)) ∧ W.cell? ⟨g, 1, none⟩ = some (.int .i64 ((l.places.getD 0 (0, 0)).2 : Nat)) ∧ W.cell? ⟨g, 2, none⟩ = some (.int .i64 ((l.places.getD 1 (0, 0)).1 : Nat)) ∧ W.cell? ⟨g, 3, none⟩ = some (.int .i64 ((l.places.getD 1 (0, 0)).2 : Nat)) ∧ W.cell? ⟨g, 4, none⟩ = some (.int .i64 ((l.places.getD 2 (0, 0)).1 : Nat)) ∧ W.cell? ⟨g, 5, none⟩ = some (.int .i64 ((l.places.getD 2 (0, 0)).2 : Nat))) := fun W hW =>
    ⟨(hW.cell (p := ⟨g, 0, none⟩) hg).trans c1, (hW.cell (p := ⟨g, 1, none⟩) hg).trans c2, (hW.cell (p := ⟨g, 2, none⟩) hg).trans c3, (hW.cell (p := ⟨g, 3, none⟩) hg).trans c4, (hW.cell (p := ⟨g, 4, none⟩) hg).trans c5, (hW.cell (p := ⟨g, 5, none⟩) hg).trans c6⟩
  have HCA : Hid (b.calc q l = b.write q (l.places.getD 0 (0, 0)) (calcI l.op (b.val q (l.places.getD 1 (0, 0))) (b.val q (l.places.getD 2 (0, 0))))) := rfl
  obtain ⟨d0, d1, d2, d3, d4, d5⟩ := hb _ (h.old.trans (hbA.mono h.old.size))
  have HF := h.fresh (Nat.le_refl _)
  rw [hlen] at hbA d0 d1 d2 d3 d4 d5 ⊢
  clear hx c1 c2 c3 c4 c5 c6 hl hk hr hd ho
  generalize l.places.getD 0 (0, 0) = p0 at *
  generalize l.places.getD 1 (0, 0) = p1 at *
  generalize l.places.getD 2 (0, 0) = p2 at *
  generalize calcI l.op (b.val q p1) (b.val q p2) = cv at *
  clear hlen
  have hLb : ∀ W, Below (w.alloc (.cells #[.int .i64 (l.num : Nat), .int .i64 (l.op : Nat), .slice (some ⟨g, 0, none⟩) 3 cp, .int .i64 l.number, .int .i64 l.flag, .slice an l.next.length cn] 115)).heap.size (w.alloc (.cells #[.int .i64 (l.num : Nat), .int .i64 (l.op : Nat), .slice (some ⟨g, 0, none⟩) 3 cp, .int .i64 l.number, .int .i64 l.flag, .slice an l.next.length cn] 115)) W → W.cell? ⟨w.heap.size, 1, none⟩ = some (.int .i64 (l.op : Nat)) := fun W hW => (hW.cell (p := ⟨w.heap.size, 1, none⟩) (by simp)).trans (by rw [cell_of_heap Array.getElem?_push_size]; rfl)
  go_enter Tryz.func75, Tryz.ntmps75
  have hbD : Below w.heap.size w (w.alloc (.cells #[.int .i64 (l.num : Nat), .int .i64 (l.op : Nat), .slice (some ⟨g, 0, none⟩) 3 cp, .int .i64 l.number, .int .i64 l.flag, .slice an l.next.length cn] 115)).drew := hbA.drew
  have y0 := hLb _ (Below.refl _ _)
  go_wp2
  go_region_held3 (fun W => W.cell? ⟨g, 0, none⟩ = some (.int .i64 (p0.1 : Nat)) ∧ W.cell? ⟨g, 1, none⟩ = some (.int .i64 (p0.2 : Nat)) ∧ W.cell? ⟨g, 2, none⟩ = some (.int .i64 (p1.1 : Nat)) ∧ W.cell? ⟨g, 3, none⟩ = some (.int .i64 (p1.2 : Nat)) ∧ W.cell? ⟨g, 4, none⟩ = some (.int .i64 (p2.1 : Nat)) ∧ W.cell? ⟨g, 5, none⟩ = some (.int .i64 (p2.2 : Nat)) ∧ W.cell? ⟨w.heap.size, 1, none⟩ = some (.int .i64 (l.op : Nat))) (go_keep)
    (first
    | (go_at_call 95; go_fit (KC _); rintro e w3 ⟨rfl, rfl⟩)
    | (go_at_call 76; go_fit (KW _ hb2 cv); rintro e w4 ⟨rfl, h4, r4⟩; obtain ⟨z0, z1, z2, z3, z4, z5⟩ := hb _ h4.old; have z6 := (roam_cell r4 (show w.heap.size < _ from (by have := hB2.size; simp at this; omega)) HF 1).trans y2)
    | (go_at_call 74; go_fit (KN2 _ hb1); rintro e w2 ⟨rfl, h2⟩; have hb2 : Below w.heap.size w w2 := hb1.trans (h2.mono hb1.size); have hB2 := hB1.trans (h2.mono hB1.size); have y2 := hLb _ hB2; obtain ⟨v0, v1, v2, v3, v4, v5⟩ := hb _ (h.old.trans (hb2.mono h.old.size)))
    | (go_at_call 74; go_fit (KN1 _ hbD); rintro e w1 ⟨rfl, h1⟩; have hb1 : Below w.heap.size w w1 := hbD.trans (h1.mono hbD.size); have hB1 : Below (w.alloc (.cells #[.int .i64 (l.num : Nat), .int .i64 (l.op : Nat), .slice (some ⟨g, 0, none⟩) 3 cp, .int .i64 l.number, .int .i64 l.flag, .slice an l.next.length cn] 115)).heap.size (w.alloc (.cells #[.int .i64 (l.num : Nat), .int .i64 (l.op : Nat), .slice (some ⟨g, 0, none⟩) 3 cp, .int .i64 l.number, .int .i64 l.flag, .slice an l.next.length cn] 115)) w1 := ⟨h1.os, h1.tape, h1.output, h1.size, h1.block⟩; have y1 := hLb _ hB1; obtain ⟨u0, u1, u2, u3, u4, u5⟩ := hb _ (h.old.trans (hb1.mono h.old.size))))
  all_goals go_wp2_with fail
  all_goals
    go_end0
    exact ⟨rfl, by rw [HCA.out]; exact h4, (Roam.of hb2).trans r4⟩
end
end Go.Proofs.YtmlgajhhnojdjaaGreatDoor.Ex
