/- The document's own machine (either one): what it keeps, as plain lists; how it lies in memory. -/
import Derived.Test.YtmlgajhhnojdjaaGreatDoorSAY
import Derived.Deep.DeepMust
import Derived.Deep.AppendLies
import Derived.Deep.RegionLaw
import Derived.Deep.LoopGhost
namespace Go.Proofs.YtmlgajhhnojdjaaGreatDoor.Mac
open Go Go.RowKit Go.Proofs.YtmlgajhhnojdjaaGreatDoor.Spec Go.Proofs.YtmlgajhhnojdjaaGreatDoor.Aux Go.Proofs.YtmlgajhhnojdjaaGreatDoor.PrjJ Go.Proofs.YtmlgajhhnojdjaaGreatDoor.PrjK Go.Proofs.YtmlgajhhnojdjaaGreatDoor.PrjL Go.Proofs.YtmlgajhhnojdjaaGreatDoor.PrjM Go.Proofs.YtmlgajhhnojdjaaGreatDoor.Own

structure RM where
  ints : List Int
  has : List Bool
  held : List Nat
  how : List UInt8
  flags : List Bool
  boxes : List (Int × Bool)
  count : Int
  trace : B
  used : Nat
  out : Nat
  value : Int
/-- what does not turn -/
structure Fx where
  a : Nat
  owns : Bool
  room : Int
  vi : Value
  kept : List (Nat × List Value × Fin 3)
def kTy (b : Fin 3) : TypeId := if b = 0 then 89 else if b = 1 then 90 else 73
def intC (l : List Int) : List Value := l.map fun v => .int .i64 v
def boolC (l : List Bool) : List Value := l.map Value.bool
def natC (l : List Nat) : List Value := l.map fun v => .int .i64 (v : Nat)
def byteC (l : List UInt8) : List Value := l.map fun v => .int .u8 (v.toNat : Nat)
def headC (f : Fx) : List Value := [.pointer (some ⟨f.a, 0, none⟩), .bool f.owns]
def tailC (f : Fx) (m : RM) (vb vt : Value) : List Value := [vb, .int .i64 m.count, .int .i64 f.room, vt, f.vi, .int .i64 (m.used : Nat), .int .i64 (m.out : Nat), .int .i64 m.value]
def RM.cells (f : Fx) (m : RM) (vb vt : Value) : List Value :=
  headC f ++ (intC m.ints ++ (boolC m.has ++ (natC m.held ++ (byteC m.how ++ (boolC m.flags ++ tailC f m vb vt)))))
structure RM.Len (m : RM) : Prop where
  ints : m.ints.length = 24
  has : m.has.length = 24
  held : m.held.length = 24
  how : m.how.length = 24
  flags : m.flags.length = 50
structure MAtV (w0 : World) (x : Nat) (f : Fx) (w : World) (m : RM) (vb vt : Value) : Prop where
  base : w0.heap.size ≤ x
  blk : w.heap[x]? = some (.cells (m.cells f vb vt).toArray 95 (0, 0))
  boxes : w.ownsRow w0.heap.size 264 2 vb m.boxes.length (boxCells m.boxes)
  trace : w.ownsRow w0.heap.size 5 1 vt m.trace.length (byteC m.trace)
  old : Below w0.heap.size w0 w
  len : m.Len
  loc : ∀ e ∈ f.kept, w.heap[e.1]? = some (.cells e.2.1.toArray (kTy e.2.2) (0, 0))
def MAt (w0 : World) (x : Nat) (f : Fx) (w : World) (m : RM) : Prop := ∃ vb vt, MAtV w0 x f w m vb vt

theorem get_skip {A C : List Value} {n : Nat} (h : A.length = n) (k : Nat) : (A ++ C)[n + k]? = C[k]? := by
  rw [List.getElem?_append_right (by omega)]; congr 1; omega
theorem set_skip {A C : List Value} {n : Nat} (h : A.length = n) (k : Nat) (v : Value) : (A ++ C).set (n + k) v = A ++ C.set k v := by
  rw [List.set_append_right _ _ (by omega)]; congr 2; omega
theorem get_in {A C : List Value} {n k : Nat} (h : A.length = n) (hk : k < n) : (A ++ C)[k]? = A[k]? := by
  rw [List.getElem?_append_left (by omega)]
theorem set_in {A C : List Value} {n k : Nat} (h : A.length = n) (hk : k < n) (v : Value) : (A ++ C).set k v = A.set k v ++ C := by
  rw [List.set_append_left _ _ (by omega)]
theorem head_len (f : Fx) : (headC f).length = 2 := rfl
section
variable {f : Fx} {m : RM} {vb vt : Value}
theorem RM.Len.l1 (h : m.Len) : (intC m.ints).length = 24 := by rw [intC, List.length_map, h.ints]
theorem RM.Len.l2 (h : m.Len) : (boolC m.has).length = 24 := by rw [boolC, List.length_map, h.has]
theorem RM.Len.l3 (h : m.Len) : (natC m.held).length = 24 := by rw [natC, List.length_map, h.held]
theorem RM.Len.l4 (h : m.Len) : (byteC m.how).length = 24 := by rw [byteC, List.length_map, h.how]
theorem RM.Len.l5 (h : m.Len) : (boolC m.flags).length = 50 := by rw [boolC, List.length_map, h.flags]
theorem RM.Len.getInt (h : m.Len) {j : Nat} (hj : j < 24) : (m.cells f vb vt)[2 + j]? = some (.int .i64 (m.ints.getD j 0)) := by
  rw [RM.cells, get_skip (head_len f), get_in h.l1 hj, intC, List.getElem?_map, List.getElem?_eq_getElem (by rw [h.ints]; exact hj), List.getD_eq_getElem?_getD, List.getElem?_eq_getElem (by rw [h.ints]; exact hj)]; rfl
theorem RM.Len.getHas (h : m.Len) {j : Nat} (hj : j < 24) : (m.cells f vb vt)[26 + j]? = some (.bool (m.has.getD j false)) := by
  rw [RM.cells, show 26 + j = 2 + (24 + j) by omega, get_skip (head_len f), get_skip h.l1, get_in h.l2 hj, boolC, List.getElem?_map, List.getElem?_eq_getElem (by rw [h.has]; exact hj), List.getD_eq_getElem?_getD, List.getElem?_eq_getElem (by rw [h.has]; exact hj)]; rfl
theorem RM.Len.getHeld (h : m.Len) {j : Nat} (hj : j < 24) : (m.cells f vb vt)[50 + j]? = some (.int .i64 (m.held.getD j 0 : Nat)) := by
  rw [RM.cells, show 50 + j = 2 + (24 + (24 + j)) by omega, get_skip (head_len f), get_skip h.l1, get_skip h.l2, get_in h.l3 hj, natC, List.getElem?_map, List.getElem?_eq_getElem (by rw [h.held]; exact hj), List.getD_eq_getElem?_getD, List.getElem?_eq_getElem (by rw [h.held]; exact hj)]; rfl
theorem RM.Len.getHow (h : m.Len) {j : Nat} (hj : j < 24) : (m.cells f vb vt)[74 + j]? = some (.int .u8 ((m.how.getD j 0).toNat : Nat)) := by
  rw [RM.cells, show 74 + j = 2 + (24 + (24 + (24 + j))) by omega, get_skip (head_len f), get_skip h.l1, get_skip h.l2, get_skip h.l3, get_in h.l4 hj, byteC, List.getElem?_map, List.getElem?_eq_getElem (by rw [h.how]; exact hj), List.getD_eq_getElem?_getD, List.getElem?_eq_getElem (by rw [h.how]; exact hj)]; rfl
theorem RM.Len.getFlag (h : m.Len) {j : Nat} (hj : j < 50) : (m.cells f vb vt)[98 + j]? = some (.bool (m.flags.getD j false)) := by
  rw [RM.cells, show 98 + j = 2 + (24 + (24 + (24 + (24 + j)))) by omega, get_skip (head_len f), get_skip h.l1, get_skip h.l2, get_skip h.l3, get_skip h.l4, get_in h.l5 hj, boolC, List.getElem?_map, List.getElem?_eq_getElem (by rw [h.flags]; exact hj), List.getD_eq_getElem?_getD, List.getElem?_eq_getElem (by rw [h.flags]; exact hj)]; rfl
theorem RM.Len.getTail (h : m.Len) (j : Nat) : (m.cells f vb vt)[148 + j]? = (tailC f m vb vt)[j]? := by
  rw [RM.cells, show 148 + j = 2 + (24 + (24 + (24 + (24 + (50 + j))))) by omega, get_skip (head_len f), get_skip h.l1, get_skip h.l2, get_skip h.l3, get_skip h.l4, get_skip h.l5]
theorem RM.Len.setInt (h : m.Len) {j : Nat} (hj : j < 24) (v : Int) : (m.cells f vb vt).set (2 + j) (.int .i64 v) = RM.cells f { m with ints := m.ints.set j v } vb vt := by
  rw [RM.cells, set_skip (head_len f), set_in h.l1 hj]; unfold RM.cells; simp [intC, List.map_set]; rfl
theorem RM.Len.setHas (h : m.Len) {j : Nat} (hj : j < 24) (v : Bool) : (m.cells f vb vt).set (26 + j) (.bool v) = RM.cells f { m with has := m.has.set j v } vb vt := by
  rw [RM.cells, show 26 + j = 2 + (24 + j) by omega, set_skip (head_len f), set_skip h.l1, set_in h.l2 hj]; unfold RM.cells; simp [boolC, List.map_set]; rfl
theorem RM.Len.setHeld (h : m.Len) {j : Nat} (hj : j < 24) (v : Nat) : (m.cells f vb vt).set (50 + j) (.int .i64 (v : Nat)) = RM.cells f { m with held := m.held.set j v } vb vt := by
  rw [RM.cells, show 50 + j = 2 + (24 + (24 + j)) by omega, set_skip (head_len f), set_skip h.l1, set_skip h.l2, set_in h.l3 hj]; unfold RM.cells; simp [natC, List.map_set]; rfl
theorem RM.Len.setHow (h : m.Len) {j : Nat} (hj : j < 24) (v : UInt8) : (m.cells f vb vt).set (74 + j) (.int .u8 (v.toNat : Nat)) = RM.cells f { m with how := m.how.set j v } vb vt := by
  rw [RM.cells, show 74 + j = 2 + (24 + (24 + (24 + j))) by omega, set_skip (head_len f), set_skip h.l1, set_skip h.l2, set_skip h.l3, set_in h.l4 hj]; unfold RM.cells; simp [byteC, List.map_set]; rfl
theorem RM.Len.setFlag (h : m.Len) {j : Nat} (hj : j < 50) (v : Bool) : (m.cells f vb vt).set (98 + j) (.bool v) = RM.cells f { m with flags := m.flags.set j v } vb vt := by
  rw [RM.cells, show 98 + j = 2 + (24 + (24 + (24 + (24 + j)))) by omega, set_skip (head_len f), set_skip h.l1, set_skip h.l2, set_skip h.l3, set_skip h.l4, set_in h.l5 hj]; unfold RM.cells; simp [boolC, List.map_set]; rfl
theorem RM.Len.setTail (h : m.Len) (j : Nat) (v : Value) : (m.cells f vb vt).set (148 + j) v = headC f ++ (intC m.ints ++ (boolC m.has ++ (natC m.held ++ (byteC m.how ++ (boolC m.flags ++ (tailC f m vb vt).set j v))))) := by
  rw [RM.cells, show 148 + j = 2 + (24 + (24 + (24 + (24 + (50 + j))))) by omega, set_skip (head_len f), set_skip h.l1, set_skip h.l2, set_skip h.l3, set_skip h.l4, set_skip h.l5]
end
theorem below_put {w0 w : World} (h : Below w0.heap.size w0 w) {x : Nat} (hx : w0.heap.size ≤ x) (j : Nat) (v : Value) : Below w0.heap.size w0 (w.setCell ⟨x, j, none⟩ v) :=
  ⟨h.os, h.tape, h.output, by simpa using h.size, fun k hk => (Below.heap_setCell _ _ _ _ (by show k ≠ x; omega)).trans (h.block k hk)⟩
section
variable {w0 w w1 w2 w3 : World} {x : Nat} {f : Fx} {m : RM} {vb vt v' : Value}
theorem MAtV.lt (h : MAtV w0 x f w m vb vt) : x < w.heap.size := lt_of_heap h.blk
theorem MAtV.below (h : MAtV w0 x f w m vb vt) (hb : Below w.heap.size w w1) : MAtV w0 x f w1 m vb vt :=
  ⟨h.base, by rw [hb.block x h.lt]; exact h.blk, own_below h.boxes hb, own_below h.trace hb, h.old.trans (hb.mono h.old.size), h.len, fun e he => by rw [hb.block _ (lt_of_heap (h.loc e he))]; exact h.loc e he⟩
theorem MAt.below (h : MAt w0 x f w m) (hb : Below w.heap.size w w1) : MAt w0 x f w1 m := by
  obtain ⟨vb, vt, h⟩ := h; exact ⟨vb, vt, h.below hb⟩
theorem MAtV.cell (h : MAtV w0 x f w m vb vt) (j : Nat) : w.cell? ⟨x, j, none⟩ = (m.cells f vb vt)[j]? := by
  rw [cell_of_heap h.blk]; simp
theorem MAtV.froz (h : MAtV w0 x f w m vb vt) (j : Nat) : w.frozen? ⟨x, j, none⟩ = false := frozen_of_heap h.blk j
theorem MAtV.facts (h : MAtV w0 x f w m vb vt) : w.cell? ⟨x, 0, none⟩ = some (.pointer (some ⟨f.a, 0, none⟩)) ∧ w.cell? ⟨x, 1, none⟩ = some (.bool f.owns) ∧ w.cell? ⟨x, 148, none⟩ = some vb ∧ w.cell? ⟨x, 149, none⟩ = some (.int .i64 m.count) ∧ w.cell? ⟨x, 150, none⟩ = some (.int .i64 f.room) ∧
    w.cell? ⟨x, 151, none⟩ = some vt ∧ w.cell? ⟨x, 152, none⟩ = some f.vi ∧ w.cell? ⟨x, 153, none⟩ = some (.int .i64 (m.used : Nat)) ∧ w.cell? ⟨x, 154, none⟩ = some (.int .i64 (m.out : Nat)) ∧ w.cell? ⟨x, 155, none⟩ = some (.int .i64 m.value) :=
  ⟨by rw [h.cell]; rfl, by rw [h.cell]; rfl, by rw [h.cell, h.len.getTail 0]; rfl, by rw [h.cell, h.len.getTail 1]; rfl, by rw [h.cell, h.len.getTail 2]; rfl, by rw [h.cell, h.len.getTail 3]; rfl, by rw [h.cell, h.len.getTail 4]; rfl, by rw [h.cell, h.len.getTail 5]; rfl, by rw [h.cell, h.len.getTail 6]; rfl, by rw [h.cell, h.len.getTail 7]; rfl⟩
theorem MAtV.frozs (h : MAtV w0 x f w m vb vt) : w.frozen? ⟨x, 148, none⟩ = false ∧ w.frozen? ⟨x, 149, none⟩ = false ∧ w.frozen? ⟨x, 151, none⟩ = false ∧ w.frozen? ⟨x, 153, none⟩ = false ∧ w.frozen? ⟨x, 154, none⟩ = false ∧ w.frozen? ⟨x, 155, none⟩ = false :=
  ⟨h.froz _, h.froz _, h.froz _, h.froz _, h.froz _, h.froz _⟩
theorem MAtV.intAt (h : MAtV w0 x f w m vb vt) {j : Nat} (hj : j < 24) : w.cell? ⟨x, 2 + j, none⟩ = some (.int .i64 (m.ints.getD j 0)) ∧ w.frozen? ⟨x, 2 + j, none⟩ = false := ⟨by rw [h.cell, h.len.getInt hj], h.froz _⟩
theorem MAtV.hasAt (h : MAtV w0 x f w m vb vt) {j : Nat} (hj : j < 24) : w.cell? ⟨x, 26 + j, none⟩ = some (.bool (m.has.getD j false)) ∧ w.frozen? ⟨x, 26 + j, none⟩ = false := ⟨by rw [h.cell, h.len.getHas hj], h.froz _⟩
theorem MAtV.heldAt (h : MAtV w0 x f w m vb vt) {j : Nat} (hj : j < 24) : w.cell? ⟨x, 50 + j, none⟩ = some (.int .i64 (m.held.getD j 0 : Nat)) ∧ w.frozen? ⟨x, 50 + j, none⟩ = false := ⟨by rw [h.cell, h.len.getHeld hj], h.froz _⟩
theorem MAtV.howAt (h : MAtV w0 x f w m vb vt) {j : Nat} (hj : j < 24) : w.cell? ⟨x, 74 + j, none⟩ = some (.int .u8 ((m.how.getD j 0).toNat : Nat)) ∧ w.frozen? ⟨x, 74 + j, none⟩ = false := ⟨by rw [h.cell, h.len.getHow hj], h.froz _⟩
theorem MAtV.flagAt (h : MAtV w0 x f w m vb vt) {j : Nat} (hj : j < 50) : w.cell? ⟨x, 98 + j, none⟩ = some (.bool (m.flags.getD j false)) ∧ w.frozen? ⟨x, 98 + j, none⟩ = false := ⟨by rw [h.cell, h.len.getFlag hj], h.froz _⟩
theorem tyBox : 264 ≠ 95 := by decide
theorem tyByte : 5 ≠ 95 := by decide
theorem kTy_ne : ∀ b : Fin 3, 95 ≠ kTy b ∧ 264 ≠ kTy b ∧ 5 ≠ kTy b := by decide
theorem MAtV.apart (h : MAtV w0 x f w m vb vt) {e : Nat × List Value × Fin 3} (he : e ∈ f.kept) : e.1 ≠ x := fun e1 => by
  have h1 := h.loc e he
  rw [e1, h.blk] at h1
  injection h1 with h1
  injection h1 with _ h2 _
  exact (kTy_ne e.2.2).1 h2
/-- a cell of the machine is written -/
theorem MAtV.put (h : MAtV w0 x f w m vb vt) {j : Nat} {v : Value} {m' : RM} (hc : (m.cells f vb vt).set j v = m'.cells f vb vt) (h1 : m'.boxes = m.boxes) (h2 : m'.trace = m.trace) (h3 : m'.Len) : MAtV w0 x f (w.setCell ⟨x, j, none⟩ v) m' vb vt := by
  refine ⟨h.base, ?_, ?_, ?_, below_put h.old h.base _ _, h3, fun e he => (Below.heap_setCell _ _ _ _ (h.apart he)).trans (h.loc e he)⟩
  · rw [Aux.heap_setCell_same h.blk, ← hc]; simp
  · rw [h1]; exact own_setCell h.boxes _ (own_at_ne h.boxes h.blk tyBox)
  · rw [h2]; exact own_setCell h.trace _ (own_at_ne h.trace h.blk tyByte)
end
end Go.Proofs.YtmlgajhhnojdjaaGreatDoor.Mac
/- The document's own machine: what is written into it; boxes; the trace. -/
namespace Go.Proofs.YtmlgajhhnojdjaaGreatDoor.Mac
open Go Go.RowKit Go.Proofs.YtmlgajhhnojdjaaGreatDoor.Spec Go.Proofs.YtmlgajhhnojdjaaGreatDoor.Aux Go.Proofs.YtmlgajhhnojdjaaGreatDoor.PrjJ Go.Proofs.YtmlgajhhnojdjaaGreatDoor.PrjK Go.Proofs.YtmlgajhhnojdjaaGreatDoor.PrjL Go.Proofs.YtmlgajhhnojdjaaGreatDoor.PrjM Go.Proofs.YtmlgajhhnojdjaaGreatDoor.Own Go.Proofs.YtmlgajhhnojdjaaGreatDoor.RefRa

theorem own_form {w : World} {base : Nat} {e : TypeId} {size : Nat} {v : Value} {n : Nat} {xs : List Value} (h : w.ownsRow base e size v n xs) : ∃ b cap, v = .slice b n cap := by
  obtain ⟨-, h⟩ := h
  rcases h with ⟨rfl, rfl⟩ | ⟨g, cap, cur, rfl, -⟩
  · exact ⟨_, _, rfl⟩
  · exact ⟨_, _, rfl⟩
section
variable {w0 w w1 w2 w3 : World} {x : Nat} {f : Fx} {m : RM} {vb vt v' : Value}
theorem MAtV.setInt (h : MAtV w0 x f w m vb vt) {j : Nat} (hj : j < 24) (v : Int) : MAtV w0 x f (w.setCell ⟨x, 2 + j, none⟩ (.int .i64 v)) { m with ints := m.ints.set j v } vb vt :=
  h.put (h.len.setInt hj v) rfl rfl ⟨by simpa using h.len.ints, h.len.has, h.len.held, h.len.how, h.len.flags⟩
theorem MAtV.setHas (h : MAtV w0 x f w m vb vt) {j : Nat} (hj : j < 24) (v : Bool) : MAtV w0 x f (w.setCell ⟨x, 26 + j, none⟩ (.bool v)) { m with has := m.has.set j v } vb vt :=
  h.put (h.len.setHas hj v) rfl rfl ⟨h.len.ints, by simpa using h.len.has, h.len.held, h.len.how, h.len.flags⟩
theorem MAtV.setHeld (h : MAtV w0 x f w m vb vt) {j : Nat} (hj : j < 24) (v : Nat) : MAtV w0 x f (w.setCell ⟨x, 50 + j, none⟩ (.int .i64 (v : Nat))) { m with held := m.held.set j v } vb vt :=
  h.put (h.len.setHeld hj v) rfl rfl ⟨h.len.ints, h.len.has, by simpa using h.len.held, h.len.how, h.len.flags⟩
theorem MAtV.setHow (h : MAtV w0 x f w m vb vt) {j : Nat} (hj : j < 24) (v : UInt8) : MAtV w0 x f (w.setCell ⟨x, 74 + j, none⟩ (.int .u8 (v.toNat : Nat))) { m with how := m.how.set j v } vb vt :=
  h.put (h.len.setHow hj v) rfl rfl ⟨h.len.ints, h.len.has, h.len.held, by simpa using h.len.how, h.len.flags⟩
theorem MAtV.setFlag (h : MAtV w0 x f w m vb vt) {j : Nat} (hj : j < 50) (v : Bool) : MAtV w0 x f (w.setCell ⟨x, 98 + j, none⟩ (.bool v)) { m with flags := m.flags.set j v } vb vt :=
  h.put (h.len.setFlag hj v) rfl rfl ⟨h.len.ints, h.len.has, h.len.held, h.len.how, by simpa using h.len.flags⟩
theorem MAtV.setCount (h : MAtV w0 x f w m vb vt) (v : Int) : MAtV w0 x f (w.setCell ⟨x, 149, none⟩ (.int .i64 v)) { m with count := v } vb vt :=
  h.put (h.len.setTail 1 _) rfl rfl ⟨h.len.ints, h.len.has, h.len.held, h.len.how, h.len.flags⟩
theorem MAtV.setUsed (h : MAtV w0 x f w m vb vt) (v : Nat) : MAtV w0 x f (w.setCell ⟨x, 153, none⟩ (.int .i64 (v : Nat))) { m with used := v } vb vt :=
  h.put (h.len.setTail 5 _) rfl rfl ⟨h.len.ints, h.len.has, h.len.held, h.len.how, h.len.flags⟩
theorem MAtV.setOut (h : MAtV w0 x f w m vb vt) (v : Nat) : MAtV w0 x f (w.setCell ⟨x, 154, none⟩ (.int .i64 (v : Nat))) { m with out := v } vb vt :=
  h.put (h.len.setTail 6 _) rfl rfl ⟨h.len.ints, h.len.has, h.len.held, h.len.how, h.len.flags⟩
theorem MAtV.setValue (h : MAtV w0 x f w m vb vt) (v : Int) : MAtV w0 x f (w.setCell ⟨x, 155, none⟩ (.int .i64 v)) { m with value := v } vb vt :=
  h.put (h.len.setTail 7 _) rfl rfl ⟨h.len.ints, h.len.has, h.len.held, h.len.how, h.len.flags⟩
theorem below_grown {w0 w w1 : World} (h : Below w0.heap.size w0 w) {ob : Option Nat} (hg : w.grownBy w1 ob) (hne : ∀ k, k < w0.heap.size → some k ≠ ob) : Below w0.heap.size w0 w1 :=
  ⟨hg.os.trans h.os, hg.tape.trans h.tape, hg.output.trans h.output, Nat.le_trans h.size hg.size, fun k hk => (hg.block k (Nat.lt_of_lt_of_le hk h.size) (hne k hk)).trans (h.block k hk)⟩
/-- a byte more of the trace -/
theorem MAtV.addByte (h : MAtV w0 x f w m vb vt) {c : UInt8} (h3 : w3.ownsRow w0.heap.size 5 1 v' (m.trace.length + 1) (byteC m.trace ++ [.int .u8 (c.toNat : Nat)])) (hg : w.grownBy w3 vt.ownBlock) :
    w3.heap[x]? = some (.cells (m.cells f vb vt).toArray 95 (0, 0)) ∧ MAtV w0 x f (w3.setCell ⟨x, 151, none⟩ v') { m with trace := m.trace ++ [c] } vb v' := by
  have hne : some x ≠ vt.ownBlock := own_type_ne h.trace h.blk tyByte
  have hblk : w3.heap[x]? = some (.cells (m.cells f vb vt).toArray 95 (0, 0)) := by rw [hg.block x h.lt hne]; exact h.blk
  have hm := h.boxes.kept hg (own_ne h.boxes h.trace (by decide))
  have hold : Below w0.heap.size w0 w3 := below_grown h.old hg (fun k hk e => by have := (h.trace.lt k e.symm).1; omega)
  refine ⟨hblk, ⟨h.base, ?_, own_setCell hm _ (own_at_ne hm hblk tyBox), ?_, below_put hold h.base _ _, ⟨h.len.ints, h.len.has, h.len.held, h.len.how, h.len.flags⟩, fun e he => (Below.heap_setCell _ _ _ _ (h.apart he)).trans ((hg.block _ (lt_of_heap (h.loc e he)) (own_type_ne h.trace (h.loc e he) (kTy_ne e.2.2).2.2)).trans (h.loc e he))⟩⟩
  · rw [Aux.heap_setCell_same hblk]
    have := h.len.setTail (f := f) (vb := vb) (vt := vt) 3 v'
    simp only [List.setIfInBounds_toArray]
    rw [this]; rfl
  · have := own_setCell h3 (a := ⟨x, 151, none⟩) v' (own_at_ne h3 hblk tyByte)
    simpa [byteC] using this
/-- a box more -/
theorem MAtV.addBox (h : MAtV w0 x f w m vb vt) {b : Int × Bool} (h3 : w3.ownsRow w0.heap.size 264 2 v' (m.boxes.length + 1) (boxCells m.boxes ++ boxCell b)) (hg : w.grownBy w3 vb.ownBlock) :
    w3.heap[x]? = some (.cells (m.cells f vb vt).toArray 95 (0, 0)) ∧ MAtV w0 x f (w3.setCell ⟨x, 148, none⟩ v') { m with boxes := m.boxes ++ [b] } v' vt := by
  have hne : some x ≠ vb.ownBlock := own_type_ne h.boxes h.blk tyBox
  have hblk : w3.heap[x]? = some (.cells (m.cells f vb vt).toArray 95 (0, 0)) := by rw [hg.block x h.lt hne]; exact h.blk
  have hm := h.trace.kept hg (own_ne h.trace h.boxes (by decide))
  have hold : Below w0.heap.size w0 w3 := below_grown h.old hg (fun k hk e => by have := (h.boxes.lt k e.symm).1; omega)
  refine ⟨hblk, ⟨h.base, ?_, ?_, own_setCell hm _ (own_at_ne hm hblk tyByte), below_put hold h.base _ _, ⟨h.len.ints, h.len.has, h.len.held, h.len.how, h.len.flags⟩, fun e he => (Below.heap_setCell _ _ _ _ (h.apart he)).trans ((hg.block _ (lt_of_heap (h.loc e he)) (own_type_ne h.boxes (h.loc e he) (kTy_ne e.2.2).2.1)).trans (h.loc e he))⟩⟩
  · rw [Aux.heap_setCell_same hblk]
    have := h.len.setTail (f := f) (vb := vb) (vt := vt) 0 v'
    simp only [List.setIfInBounds_toArray]
    rw [this]; rfl
  · have := own_setCell h3 (a := ⟨x, 148, none⟩) v' (own_at_ne h3 hblk tyBox)
    simpa [boxCells] using this
def RM.box (m : RM) (n : Nat) : Int × Bool := m.boxes.getD (n - 1) (0, false)
/-- a box's cells -/
theorem MAtV.box (h : MAtV w0 x f w m vb vt) {n : Nat} (h1 : 1 ≤ n) (hn : n ≤ m.boxes.length) : ∃ g cap, vb = .slice (some ⟨g, 0, none⟩) m.boxes.length cap ∧ m.boxes.length ≤ cap ∧ g < w.heap.size ∧ w.cell? ⟨g, (n - 1) * 2, none⟩ = some (.int .i64 (m.box n).1) ∧ w.cell? ⟨g, (n - 1) * 2 + 1, none⟩ = some (.bool (m.box n).2) ∧
    w.frozen? ⟨g, (n - 1) * 2, none⟩ = false ∧ w.frozen? ⟨g, (n - 1) * 2 + 1, none⟩ = false := by
  obtain ⟨g, cap, rfl, hc, hg, hcell⟩ := own_cell h.boxes (by omega)
  obtain ⟨b0, b1⟩ := box_get m.boxes (n - 1) (by omega)
  exact ⟨g, cap, rfl, hc, hg, by rw [hcell _ (by omega)]; exact b0, by rw [hcell _ (by omega)]; exact b1, h.boxes.frozenAt _, h.boxes.frozenAt _⟩
theorem MAtV.setBox {g cap : Nat} (h : MAtV w0 x f w m (.slice (some ⟨g, 0, none⟩) m.boxes.length cap) vt) {n : Nat} (h1 : 1 ≤ n) (hn : n ≤ m.boxes.length) :
    (∀ v : Int, MAtV w0 x f (w.setCell ⟨g, (n - 1) * 2, none⟩ (.int .i64 v)) { m with boxes := m.boxes.set (n - 1) (v, (m.box n).2) } (.slice (some ⟨g, 0, none⟩) m.boxes.length cap) vt) ∧
    (∀ v : Bool, MAtV w0 x f (w.setCell ⟨g, (n - 1) * 2 + 1, none⟩ (.bool v)) { m with boxes := m.boxes.set (n - 1) ((m.box n).1, v) } (.slice (some ⟨g, 0, none⟩) m.boxes.length cap) vt) := by
  obtain ⟨b0, b1⟩ := box_get m.boxes (n - 1) (by omega)
  have hxg : x ≠ g := fun e => own_at_ne h.boxes h.blk tyBox (by rw [e]; rfl)
  have hzg : w0.heap.size ≤ g := (h.boxes.lt g rfl).1
  have htg : vt.ownBlock ≠ some g := fun e => by
    rcases own_ne h.trace h.boxes (by decide) with h0 | h0
    · rw [e] at h0; cases h0
    · exact h0 e
  have blk : ∀ (o : Nat) (u : Value), (w.setCell ⟨g, o, none⟩ u).heap[x]? = w.heap[x]? := fun o u => Below.heap_setCell _ _ _ _ (by show x ≠ g; exact hxg)
  have hk : ∀ (o : Nat) (u : Value), ∀ e ∈ f.kept, (w.setCell ⟨g, o, none⟩ u).heap[e.1]? = some (.cells e.2.1.toArray (kTy e.2.2) (0, 0)) := fun o u e he => (Below.heap_setCell _ _ _ _ (by show e.1 ≠ g; exact fun e1 => own_type_ne h.boxes (h.loc e he) (kTy_ne e.2.2).2.1 (by rw [e1]; rfl))).trans (h.loc e he)
  have hl : ∀ L, ({ m with boxes := L } : RM).Len := fun L => ⟨h.len.ints, h.len.has, h.len.held, h.len.how, h.len.flags⟩
  constructor
  · intro v
    refine ⟨h.base, by rw [blk]; exact h.blk, ?_, own_setCell h.trace _ htg, below_put h.old hzg _ _, hl _, hk _ _⟩
    have := (h.boxes.stored ((n - 1) * 2) (.int .i64 v)).1
    have e : boxCells (m.boxes.set (n - 1) (v, (m.box n).2)) = (boxCells m.boxes).set ((n - 1) * 2) (.int .i64 v) := by
      rw [box_set, if_pos (by omega)]
      refine set_same ?_
      rw [List.getElem?_set_ne (by omega)]; exact b1
    simp only [List.length_set]
    rw [e]; exact this
  · intro v
    refine ⟨h.base, by rw [blk]; exact h.blk, ?_, own_setCell h.trace _ htg, below_put h.old hzg _ _, hl _, hk _ _⟩
    have := (h.boxes.stored ((n - 1) * 2 + 1) (.bool v)).1
    have e : boxCells (m.boxes.set (n - 1) ((m.box n).1, v)) = (boxCells m.boxes).set ((n - 1) * 2 + 1) (.bool v) := by
      rw [box_set, if_pos (by omega)]
      have : (boxCells m.boxes).set ((n - 1) * 2) (.int .i64 (m.box n).1) = boxCells m.boxes := set_same b0
      rw [this]
    simp only [List.length_set]
    rw [e]; exact this
end
end Go.Proofs.YtmlgajhhnojdjaaGreatDoor.Mac
/- The document's own machine: a word more of the trace, walked. -/
namespace Go.Proofs.YtmlgajhhnojdjaaGreatDoor.Mac
open Go Go.RowKit Go.Proofs.YtmlgajhhnojdjaaGreatDoor.Spec Go.Proofs.YtmlgajhhnojdjaaGreatDoor.Aux Go.Proofs.YtmlgajhhnojdjaaGreatDoor.PrjJ Go.Proofs.YtmlgajhhnojdjaaGreatDoor.PrjK Go.Proofs.YtmlgajhhnojdjaaGreatDoor.PrjL Go.Proofs.YtmlgajhhnojdjaaGreatDoor.PrjM Go.Proofs.YtmlgajhhnojdjaaGreatDoor.Own Go.Proofs.YtmlgajhhnojdjaaGreatDoor.RefRa

def wordT (m : RM) (c : UInt8) (n : Int) : B := if m.trace = [] then c :: decI n else 32 :: c :: decI n
def RM.note (m : RM) (c : UInt8) (n : Int) : RM := { m with trace := m.trace ++ wordT m c n }
theorem decI_len (n : Int) (hn : isI64 n) : (decI n).length ≤ 20 := by
  unfold isI64 at hn
  unfold decI
  have h : (decN n.natAbs).length ≤ 19 := decN_len 18 _ (by omega)
  split
  · simp only [List.length_cons]; omega
  · omega
theorem info_u8 : (Tryz.prog.info? 5).map (fun i => (i.zero, i.size, i.bytes)) = some (some (.int .u8 0), 1, 1) := by kernel_rfl
theorem take_on {s : ByteArray} {j : Nat} (h : j < s.size) : s.toList.take (j + 1) = s.toList.take j ++ [s[j]] := by
  have hl : j < s.toList.length := by rw [length_toList]; exact h
  rw [List.take_add_one, List.getElem?_eq_getElem hl, getElem_toList s j h]; rfl
section
variable {w0 w w1 w2 w3 : World} {x : Nat} {f : Fx} {m : RM}
set_option maxRecDepth 20000 in
set_option maxHeartbeats 2000000 in
theorem note_any (h : MAt w0 x f w m) (c : UInt8) (n : Int) (hn : isI64 n) (hl : m.trace.length ≤ 100000000) :
    Calls Tryz.prog 152 #[.pointer (some ⟨x, 0, none⟩), .string (bs [c]), .int .i64 n] w fun e w' => e = .returned (.tuple #[]) ∧ MAt w0 x f w' (m.note c n) := by
  obtain ⟨i, hi, hz0, hz1, hz2⟩ := info_parts info_u8
  have KD := fun w' => decimal_any n w' hn.1 hn.2
  have hd := decI_len n hn
  obtain ⟨s, hs⟩ : ∃ s, s = bs (wordT m c n) := ⟨_, rfl⟩
  have hsz : s.size ≤ 22 := by rw [hs, size_bs]; unfold wordT; split <;> simp <;> omega
  have HS : Hid (s.toList = wordT m c n) := by rw [hs, Hid, toList_bs]
  have hD : (decI n).length ≤ 20 := hd
  by_cases ht : m.trace = []
  · have hs1 : bs [c] ++ bs (decI n) = s := by rw [hs, wordT, if_pos ht]; exact eq_bs (by rw [append_toList, toList_bs, toList_bs]; rfl)
    have h0 : ¬ (0 : Int) < m.trace.length := by rw [ht]; simp
    clear hs hd
    go_enter Tryz.func152, Tryz.ntmps152
    go_wp2_with (go_at_call 191; refine (KD _).mono ?_; rintro e w1 ⟨rfl, hb1⟩; obtain ⟨vb, vt, hV⟩ := h.below hb1; obtain ⟨b, cap, rfl⟩ := own_form hV.trace; obtain ⟨c0, c1, c2, c3, c4, c5, c6, c7, c8, c9⟩ := hV.facts)
    have HV : Hid (MAt w0 x f w1 m) := ⟨_, _, hV⟩
    clear hV c0 c1 c2 c3 c4 c5 c6 c7 c8 c9 hb1 h
    go_loopw [7] (fun v4 wr => ∃ (j : Nat), j ≤ s.size ∧ v4 = .int .i64 j ∧ Hid (MAt w0 x f wr { m with trace := m.trace ++ s.toList.take j })) (fun i _ => s.size - (intOf i).toNat)
    case atStart => exact ⟨0, Nat.zero_le _, rfl, by simpa [Hid] using HV.out⟩
    case round =>
      obtain ⟨j, hj, rfl, HM⟩ := hrel
      clear HV
      by_cases hlt : j < s.size
      · obtain ⟨vb, vt, hV⟩ := HM.out
        have hlt0 := hV.lt
        have hbase := hV.base
        have hlen : ({ m with trace := m.trace ++ s.toList.take j } : RM).trace.length ≤ 100000022 := by simp only [List.length_append, List.length_take]; omega
        generalize hm : ({ m with trace := m.trace ++ s.toList.take j } : RM) = m' at *
        have HE : Hid (_ = _) := hm
        clear hm HM
        have hV1 : MAtV w0 x f wr.drew m' vb vt := hV.below ((Below.refl _ _).drew)
        obtain ⟨c0, c1, c2, c3, c4, c5, c6, c7, c8, c9⟩ := hV.facts
        have hbA : Below wr.drew.heap.size wr.drew (wr.drew.alloc (.cells #[.int .u8 (s[j].toNat : Nat)] 5)) := (Below.refl _ _).alloc (Nat.le_refl _) _
        have HA := hV1.below hbA
        obtain ⟨a0, a1, a2, a3, a4, a5, a6, a7, a8, a9⟩ := HA.facts
        have hsA : w0.heap.size ≤ (wr.drew.alloc (.cells #[.int .u8 (s[j].toNat : Nat)] 5)).heap.size := by have := HA.lt; omega
        go_upto_region 6 with fail
        go_region_law (refine step_blk (by rfl) _ _ _ (by rfl) w0.heap.size 5 i (.int .u8 0) 1 1 Tryz.underlying93 hi hz0 hz1 hz2 (by rfl) (by decide) vt _ _ (by rfl) HA.trace wr.heap.size [.int .u8 (s[j].toNat : Nat)] (by rfl) Array.getElem?_push_size (by rfl) (by intro u' hu; simp at hu; subst hu; rfl) (by decide) (by omega) hsA ?_; intro g4 c4' w4 hown4 hgrow4 hat4 hlt4; obtain ⟨hblk4, hV4⟩ := HA.addByte hown4 hgrow4; have rf : w4.frozen? ⟨x, 151, none⟩ = false := frozen_of_heap hblk4 151; have r5 : w4.cell? ⟨x, 151, none⟩ = some vt := (by rw [cell_of_heap hblk4, List.getElem?_toArray]; exact HA.len.getTail (f := f) (vb := vb) (vt := vt) 3))
        all_goals go_wp2_with fail
        all_goals
          go_roundw
          case rel =>
            have hm := HE.out
            subst hm
            have e : m.trace ++ s.toList.take (j + 1) = m.trace ++ s.toList.take j ++ [s[j]] := by rw [take_on hlt, List.append_assoc]
            refine ⟨j + 1, by omega, by go_num, ?_⟩
            rw [e]
            exact ⟨_, _, hV4⟩
          case measure => simp [intOf]; omega
      · go_wp2
        go_end0
        have e : s.toList.take j = wordT m c n := by rw [List.take_of_length_le (by rw [length_toList]; omega), HS.out]
        have hM := HM.out
        rw [e] at hM
        exact ⟨rfl, hM⟩
  · have hs1 : (⟨#[32]⟩ : ByteArray) ++ (bs [c] ++ bs (decI n)) = s := by rw [hs, wordT, if_neg ht]; exact eq_bs (by rw [append_toList, append_toList, toList_bs, toList_bs, show (⟨#[32]⟩ : ByteArray).toList = [32] from toList_bs [32]]; rfl)
    have h0 : (0 : Int) < m.trace.length := by have := List.length_pos_iff.2 ht; omega
    clear hs hd
    go_enter Tryz.func152, Tryz.ntmps152
    go_wp2_with (go_at_call 191; refine (KD _).mono ?_; rintro e w1 ⟨rfl, hb1⟩; obtain ⟨vb, vt, hV⟩ := h.below hb1; obtain ⟨b, cap, rfl⟩ := own_form hV.trace; obtain ⟨c0, c1, c2, c3, c4, c5, c6, c7, c8, c9⟩ := hV.facts)
    have HV : Hid (MAt w0 x f w1 m) := ⟨_, _, hV⟩
    rename_i hx
    clear hV c0 c1 c2 c3 c4 c5 c6 c7 c8 c9 hb1 h h0 hx
    go_loopw [7] (fun v4 wr => ∃ (j : Nat), j ≤ s.size ∧ v4 = .int .i64 j ∧ Hid (MAt w0 x f wr { m with trace := m.trace ++ s.toList.take j })) (fun i _ => s.size - (intOf i).toNat)
    case atStart => exact ⟨0, Nat.zero_le _, rfl, by simpa [Hid] using HV.out⟩
    case round =>
      obtain ⟨j, hj, rfl, HM⟩ := hrel
      clear HV
      by_cases hlt : j < s.size
      · obtain ⟨vb, vt, hV⟩ := HM.out
        have hlt0 := hV.lt
        have hbase := hV.base
        have hlen : ({ m with trace := m.trace ++ s.toList.take j } : RM).trace.length ≤ 100000022 := by simp only [List.length_append, List.length_take]; omega
        generalize hm : ({ m with trace := m.trace ++ s.toList.take j } : RM) = m' at *
        have HE : Hid (_ = _) := hm
        clear hm HM
        have hV1 : MAtV w0 x f wr.drew m' vb vt := hV.below ((Below.refl _ _).drew)
        obtain ⟨c0, c1, c2, c3, c4, c5, c6, c7, c8, c9⟩ := hV.facts
        have hbA : Below wr.drew.heap.size wr.drew (wr.drew.alloc (.cells #[.int .u8 (s[j].toNat : Nat)] 5)) := (Below.refl _ _).alloc (Nat.le_refl _) _
        have HA := hV1.below hbA
        obtain ⟨a0, a1, a2, a3, a4, a5, a6, a7, a8, a9⟩ := HA.facts
        have hsA : w0.heap.size ≤ (wr.drew.alloc (.cells #[.int .u8 (s[j].toNat : Nat)] 5)).heap.size := by have := HA.lt; omega
        go_upto_region 6 with fail
        go_region_law (refine step_blk (by rfl) _ _ _ (by rfl) w0.heap.size 5 i (.int .u8 0) 1 1 Tryz.underlying93 hi hz0 hz1 hz2 (by rfl) (by decide) vt _ _ (by rfl) HA.trace wr.heap.size [.int .u8 (s[j].toNat : Nat)] (by rfl) Array.getElem?_push_size (by rfl) (by intro u' hu; simp at hu; subst hu; rfl) (by decide) (by omega) hsA ?_; intro g4 c4' w4 hown4 hgrow4 hat4 hlt4; obtain ⟨hblk4, hV4⟩ := HA.addByte hown4 hgrow4; have rf : w4.frozen? ⟨x, 151, none⟩ = false := frozen_of_heap hblk4 151; have r5 : w4.cell? ⟨x, 151, none⟩ = some vt := (by rw [cell_of_heap hblk4, List.getElem?_toArray]; exact HA.len.getTail (f := f) (vb := vb) (vt := vt) 3))
        all_goals go_wp2_with fail
        all_goals
          go_roundw
          case rel =>
            have hm := HE.out
            subst hm
            have e : m.trace ++ s.toList.take (j + 1) = m.trace ++ s.toList.take j ++ [s[j]] := by rw [take_on hlt, List.append_assoc]
            refine ⟨j + 1, by omega, by go_num, ?_⟩
            rw [e]
            exact ⟨_, _, hV4⟩
          case measure => simp [intOf]; omega
      · go_wp2
        go_end0
        have e : s.toList.take j = wordT m c n := by rw [List.take_of_length_le (by rw [length_toList]; omega), HS.out]
        have hM := HM.out
        rw [e] at hM
        exact ⟨rfl, hM⟩
end
end Go.Proofs.YtmlgajhhnojdjaaGreatDoor.Mac
