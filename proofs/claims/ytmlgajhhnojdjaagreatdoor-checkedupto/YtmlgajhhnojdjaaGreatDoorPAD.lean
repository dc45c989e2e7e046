/- How a program of the document's own reader lies in memory. -/
import Derived.Test.YtmlgajhhnojdjaaGreatDoorPAA
import Derived.WalkSmall
import Derived.WalkKit
import Derived.Deep.AppendLies
import Derived.Deep.MidRow
import Derived.Test.YtmlgajhhnojdjaaGreatDoorPAC
namespace Go.Proofs.YtmlgajhhnojdjaaGreatDoor.Aux
open Go Go.RowKit Go.Proofs.YtmlgajhhnojdjaaGreatDoor.Spec

/-- a row of words -/
def StrRow (w : World) (v : Value) (L : List B) : Prop :=
  ∃ g cap, v = .slice (some ⟨g, 0, none⟩) L.length cap ∧ L.length ≤ cap ∧ g < w.heap.size ∧ ∀ j, j < L.length → w.cell? ⟨g, j, none⟩ = some (.string (bs (word L j)))
/-- a row of line numbers -/
def IntRow (w : World) (v : Value) (L : List Nat) : Prop :=
  (L = [] ∧ v = .slice none 0 0) ∨ ∃ g cap, v = .slice (some ⟨g, 0, none⟩) L.length cap ∧ L.length ≤ cap ∧ g < w.heap.size ∧ ∀ j, j < L.length → w.cell? ⟨g, j, none⟩ = some (.int .i64 (L.getD j 0))
/-- a row of rows of words -/
def RowsRow (w : World) (v : Value) (L : List (List B)) : Prop :=
  (L = [] ∧ v = .slice none 0 0) ∨ ∃ g cap, v = .slice (some ⟨g, 0, none⟩) L.length cap ∧ L.length ≤ cap ∧ g < w.heap.size ∧ ∀ j, j < L.length → ∃ u, w.cell? ⟨g, j, none⟩ = some u ∧ StrRow w u (L.getD j [])
/-- a program behind a pointer to block a -/
structure ProgAt (w : World) (a : Nat) (p : RP) : Prop where
  lt : a < w.heap.size
  lines : ∃ v, w.cell? ⟨a, 0, none⟩ = some v ∧ RowsRow w v p.lines
  lets : ∃ v, w.cell? ⟨a, 1, none⟩ = some v ∧ IntRow w v p.lets
  blocks : ∃ v, w.cell? ⟨a, 2, none⟩ = some v ∧ IntRow w v p.blocks
  raw : w.cell? ⟨a, 3, none⟩ = some (.bool p.raw)

theorem StrRow.below {w w' : World} {v : Value} {L : List B} (h : StrRow w v L) (hb : Below w.heap.size w w') : StrRow w' v L := by
  obtain ⟨g, cap, rfl, hc, hg, hcell⟩ := h
  exact ⟨g, cap, rfl, hc, Nat.lt_of_lt_of_le hg hb.size, fun j hj => (hb.cell (p := ⟨g, j, none⟩) hg).trans (hcell j hj)⟩
theorem IntRow.below {w w' : World} {v : Value} {L : List Nat} (h : IntRow w v L) (hb : Below w.heap.size w w') : IntRow w' v L := by
  rcases h with h | ⟨g, cap, rfl, hc, hg, hcell⟩
  · exact .inl h
  · exact .inr ⟨g, cap, rfl, hc, Nat.lt_of_lt_of_le hg hb.size, fun j hj => (hb.cell (p := ⟨g, j, none⟩) hg).trans (hcell j hj)⟩
theorem RowsRow.below {w w' : World} {v : Value} {L : List (List B)} (h : RowsRow w v L) (hb : Below w.heap.size w w') : RowsRow w' v L := by
  rcases h with h | ⟨g, cap, rfl, hc, hg, hcell⟩
  · exact .inl h
  · exact .inr ⟨g, cap, rfl, hc, Nat.lt_of_lt_of_le hg hb.size, fun j hj => by
      obtain ⟨u, hu, hr⟩ := hcell j hj
      exact ⟨u, (hb.cell (p := ⟨g, j, none⟩) hg).trans hu, hr.below hb⟩⟩
theorem ProgAt.below {w w' : World} {a : Nat} {p : RP} (h : ProgAt w a p) (hb : Below w.heap.size w w') : ProgAt w' a p := by
  obtain ⟨hlt, ⟨v1, h1, r1⟩, ⟨v2, h2, r2⟩, ⟨v3, h3, r3⟩, h4⟩ := h
  exact ⟨Nat.lt_of_lt_of_le hlt hb.size, ⟨v1, (hb.cell (p := ⟨a, 0, none⟩) hlt).trans h1, r1.below hb⟩, ⟨v2, (hb.cell (p := ⟨a, 1, none⟩) hlt).trans h2, r2.below hb⟩,
    ⟨v3, (hb.cell (p := ⟨a, 2, none⟩) hlt).trans h3, r3.below hb⟩, (hb.cell (p := ⟨a, 3, none⟩) hlt).trans h4⟩
theorem ProgAt.drewN {w : World} {a : Nat} {p : RP} (h : ProgAt w a p) (n : Nat) : ProgAt (w.drewN n) a p := h.below (below_drewN (Below.refl _ _) n)

/-- what a walk needs of line i of a program -/
theorem ProgAt.line_at {w : World} {a : Nat} {p : RP} (h : ProgAt w a p) (i : Nat) (hi : i < p.lines.length) :
    ∃ (g cap gl capl : Nat), w.cell? ⟨a, 0, none⟩ = some (.slice (some ⟨g, 0, none⟩) p.lines.length cap) ∧ p.lines.length ≤ cap ∧ w.cell? ⟨g, i, none⟩ = some (.slice (some ⟨gl, 0, none⟩) (p.line i).length capl) ∧ (p.line i).length ≤ capl ∧
      ∀ j, j < (p.line i).length → w.cell? ⟨gl, j, none⟩ = some (.string (bs (word (p.line i) j))) := by
  obtain ⟨v, hv, hr⟩ := h.lines
  rcases hr with ⟨he, _⟩ | ⟨g, cap, rfl, hc, hg, hcell⟩
  · rw [he] at hi; simp at hi
  · obtain ⟨u, hu, gl, capl, rfl, hcl, hgl, hw⟩ := hcell i hi
    exact ⟨g, cap, gl, capl, hv, hc, hu, hcl, hw⟩
/-- .. and of the row of lets -/
theorem ProgAt.lets_at {w : World} {a : Nat} {p : RP} (h : ProgAt w a p) :
    ∃ v, w.cell? ⟨a, 1, none⟩ = some v ∧ ((p.lets = [] ∧ v = .slice none 0 0) ∨ ∃ g cap, v = .slice (some ⟨g, 0, none⟩) p.lets.length cap ∧ p.lets.length ≤ cap ∧ ∀ j, j < p.lets.length → w.cell? ⟨g, j, none⟩ = some (.int .i64 (p.lets.getD j 0))) := by
  obtain ⟨v, hv, hr⟩ := h.lets
  rcases hr with hr | ⟨g, cap, e, hc, _, hcell⟩
  · exact ⟨v, hv, .inl hr⟩
  · exact ⟨v, hv, .inr ⟨g, cap, e, hc, hcell⟩⟩
theorem ProgAt.blocks_at {w : World} {a : Nat} {p : RP} (h : ProgAt w a p) :
    ∃ v, w.cell? ⟨a, 2, none⟩ = some v ∧ ((p.blocks = [] ∧ v = .slice none 0 0) ∨ ∃ g cap, v = .slice (some ⟨g, 0, none⟩) p.blocks.length cap ∧ p.blocks.length ≤ cap ∧ ∀ j, j < p.blocks.length → w.cell? ⟨g, j, none⟩ = some (.int .i64 (p.blocks.getD j 0))) := by
  obtain ⟨v, hv, hr⟩ := h.blocks
  rcases hr with hr | ⟨g, cap, e, hc, _, hcell⟩
  · exact ⟨v, hv, .inl hr⟩
  · exact ⟨v, hv, .inr ⟨g, cap, e, hc, hcell⟩⟩
/-- .. the let of local j -/
theorem ProgAt.let_at {w : World} {a : Nat} {p : RP} (h : ProgAt w a p) (j : Nat) (hj : j < p.lets.length) :
    ∃ g cap, w.cell? ⟨a, 1, none⟩ = some (.slice (some ⟨g, 0, none⟩) p.lets.length cap) ∧ p.lets.length ≤ cap ∧ w.cell? ⟨g, j, none⟩ = some (.int .i64 (p.lets.getD j 0)) := by
  obtain ⟨v, hv, hr⟩ := h.lets_at
  rcases hr with ⟨he, _⟩ | ⟨g, cap, rfl, hc, hcell⟩
  · rw [he] at hj; simp at hj
  · exact ⟨g, cap, hv, hc, hcell j hj⟩
theorem ProgAt.block_at {w : World} {a : Nat} {p : RP} (h : ProgAt w a p) (j : Nat) (hj : j < p.blocks.length) :
    ∃ g cap, w.cell? ⟨a, 2, none⟩ = some (.slice (some ⟨g, 0, none⟩) p.blocks.length cap) ∧ p.blocks.length ≤ cap ∧ w.cell? ⟨g, j, none⟩ = some (.int .i64 (p.blocks.getD j 0)) := by
  obtain ⟨v, hv, hr⟩ := h.blocks_at
  rcases hr with ⟨he, _⟩ | ⟨g, cap, rfl, hc, hcell⟩
  · rw [he] at hj; simp at hj
  · exact ⟨g, cap, hv, hc, hcell j hj⟩
/-- the length of the row of lets, whatever it is -/
theorem ProgAt.lets_len {w : World} {a : Nat} {p : RP} (h : ProgAt w a p) : ∃ b cap, w.cell? ⟨a, 1, none⟩ = some (.slice b p.lets.length cap) := by
  obtain ⟨v, hv, hr⟩ := h.lets_at
  rcases hr with ⟨he, rfl⟩ | ⟨g, cap, rfl, hc, hcell⟩
  · exact ⟨none, 0, by rw [he]; exact hv⟩
  · exact ⟨_, cap, hv⟩
theorem ProgAt.blocks_len {w : World} {a : Nat} {p : RP} (h : ProgAt w a p) : ∃ b cap, w.cell? ⟨a, 2, none⟩ = some (.slice b p.blocks.length cap) := by
  obtain ⟨v, hv, hr⟩ := h.blocks_at
  rcases hr with ⟨he, rfl⟩ | ⟨g, cap, rfl, hc, hcell⟩
  · exact ⟨none, 0, by rw [he]; exact hv⟩
  · exact ⟨_, cap, hv⟩
end Go.Proofs.YtmlgajhhnojdjaaGreatDoor.Aux
/- Small laws for walks, over whatever program: one element appended to a row of the call's own. -/
namespace Go.Proofs.YtmlgajhhnojdjaaGreatDoor.Aux
open Go Go.RowKit

/-- 's = append(s, x)', x of one cell, s a row of the call's own: the new element lies in a block of its own first. -/
theorem append_one {P : Program} {w : World} {ops : Array Oper} {rest : List Oper} {o : Oper} {a : Act} {Q : Exit → Act → World → Prop} (hgd : o.guard = none) (s x : Operand) (t : TypeId)
    (ho : o.op = .call { callee := .builtin .append, args := #[s, x], argTypes := #[t, t] })
    (base : Nat) (e : TypeId) (i : TypeInfo) (z : Value) (bytes : Nat) (ht : P.underlying t = some (.slice e)) (hi : P.info? e = some i) (hz : i.zero = some z)
    (hsize : i.size = 1) (hby : i.bytes = bytes) (hzs : z.cells.size = 1)
    (v : Value) (n : Nat) (xs : List Value) (hs : a.eval s = v) (hown : w.ownsRow base e 1 v n xs)
    (u : Value) (hx : a.eval x = .slice (some ⟨w.heap.size, 0, none⟩) 1 1) (h1 : u.oneCell' = true)
    (hb1 : 1 ≤ bytes) (hbytes : (n + 1) * bytes ≤ 140737488355328) (hbase : base ≤ w.heap.size)
    (h : ∀ v' w', w'.ownsRow base e 1 v' (n + 1) (xs ++ [u]) → (w.alloc (.cells #[u] e)).grownBy w' v.ownBlock → wpList P ops Q rest (a.put o.dst v') w') : wpList P ops Q (o :: rest) a (w.alloc (.cells #[u] e)) := by
  refine wpList_append_own _ hgd s x t ho base e i z 1 bytes ht hi hz hsize hby hzs (by decide) v n xs hs (hown.alloc _) ⟨w.heap.size, 0, none⟩ 1 1 [u] hx rfl ?_ ?_ ?_ hbytes ?_ (fun v' w' a b _ => h v' w' a b)
  · intro j u' hj
    match j, hj with
    | 0, hj => simp at hj; subst hj; simp [Addr.add]
  · intro u' hu; simp at hu; subst hu; exact h1
  · have : n + 1 ≤ (n + 1) * bytes := Nat.le_mul_of_pos_right _ hb1
    unfold maxLen; omega
  · simp; omega

/-- the call's own row behind an append: nothing below 'base' has turned -/
theorem below_append {B : Nat} {w0 w w' : World} {o : Obj} {base : Nat} {e : TypeId} {size : Nat} {v : Value} {n : Nat} {xs : List Value} (hb : Below B w0 w) (hB : B ≤ base) (hbase : base ≤ w.heap.size)
    (hown : w.ownsRow base e size v n xs) (hg : (w.alloc o).grownBy w' v.ownBlock) : Below B w0 w' := by
  refine (hb.alloc (by omega) o).grown hg (by simp; omega) fun k hk => ?_
  have := hown.lt k hk
  omega
end Go.Proofs.YtmlgajhhnojdjaaGreatDoor.Aux
/- A program of the document's own reader while it is being read: its rows are the call's own, and each kind of row has its own type of elements. -/
namespace Go.Proofs.YtmlgajhhnojdjaaGreatDoor.Aux
open Go Go.RowKit Go.Proofs.YtmlgajhhnojdjaaGreatDoor.Spec

section
variable {w w' : World} {b1 b2 : Nat} {e1 e2 : TypeId} {s1 s2 : Nat} {v1 v2 : Value} {n1 n2 : Nat} {x1 x2 : List Value}

theorem own_ne (h1 : w.ownsRow b1 e1 s1 v1 n1 x1) (h2 : w.ownsRow b2 e2 s2 v2 n2 x2) (he : e1 ≠ e2) : v1.ownBlock = none ∨ v1.ownBlock ≠ v2.ownBlock := by
  obtain ⟨-, h1⟩ := h1
  obtain ⟨-, h2⟩ := h2
  rcases h1 with ⟨rfl, -⟩ | ⟨g, cap, cur, rfl, -, hg, -⟩
  · exact .inl rfl
  · refine .inr ?_
    rcases h2 with ⟨rfl, -⟩ | ⟨g', cap', cur', rfl, -, hg', -⟩
    · simp [Value.ownBlock]
    · simp only [Value.ownBlock, ne_eq, Option.some.injEq]
      intro e
      rw [e, hg'] at hg
      simp only [Option.some.injEq, Obj.cells.injEq] at hg
      exact he hg.2.1.symm
theorem own_at_ne (h1 : w.ownsRow b1 e1 s1 v1 n1 x1) {a : Nat} {cs : Array Value} {f : Nat × Nat} (ha : w.heap[a]? = some (.cells cs e2 f)) (he : e1 ≠ e2) : v1.ownBlock ≠ some a := by
  obtain ⟨-, h1⟩ := h1
  rcases h1 with ⟨rfl, -⟩ | ⟨g, cap, cur, rfl, -, hg, -⟩
  · simp [Value.ownBlock]
  · simp only [Value.ownBlock, ne_eq, Option.some.injEq]
    intro e
    rw [e, ha] at hg
    simp only [Option.some.injEq, Obj.cells.injEq] at hg
    exact he hg.2.1.symm
theorem own_heap (h : w.ownsRow b1 e1 s1 v1 n1 x1) (hw : ∀ g, v1.ownBlock = some g → w'.heap[g]? = w.heap[g]?) : w'.ownsRow b1 e1 s1 v1 n1 x1 := by
  obtain ⟨h0, h⟩ := h
  refine ⟨h0, ?_⟩
  rcases h with h | ⟨g, cap, cur, rfl, hb, hg, r⟩
  · exact .inl h
  · exact .inr ⟨g, cap, cur, rfl, hb, by rw [hw g rfl]; exact hg, r⟩
theorem own_below (h : w.ownsRow b1 e1 s1 v1 n1 x1) (hb : Below w.heap.size w w') : w'.ownsRow b1 e1 s1 v1 n1 x1 :=
  own_heap h fun g hg => hb.block g (h.lt g hg).2
theorem own_setCell (h : w.ownsRow b1 e1 s1 v1 n1 x1) {a : Addr} (u : Value) (hne : v1.ownBlock ≠ some a.block) : (w.setCell a u).ownsRow b1 e1 s1 v1 n1 x1 :=
  own_heap h fun g hg => Below.heap_setCell _ _ _ _ (fun e => hne (by rw [hg, e]))
theorem own_mono (h : w.ownsRow b1 e1 s1 v1 n1 x1) (hb : b2 ≤ b1) : w.ownsRow b2 e1 s1 v1 n1 x1 := by
  obtain ⟨h0, h⟩ := h
  refine ⟨h0, ?_⟩
  rcases h with h | ⟨g, cap, cur, rfl, hb', r⟩
  · exact .inl h
  · exact .inr ⟨g, cap, cur, rfl, by omega, r⟩
theorem own_lt (h : w.ownsRow b1 e1 s1 v1 n1 x1) : ∀ g, v1.ownBlock = some g → g < w.heap.size := fun g hg => (h.lt g hg).2
end

theorem heap_setCell_same {w : World} {a : Nat} {cs : Array Value} {e : TypeId} {f : Nat × Nat} (h : w.heap[a]? = some (.cells cs e f)) (o : Nat) (u : Value) : (w.setCell ⟨a, o, none⟩ u).heap[a]? = some (.cells (cs.setIfInBounds o u) e f) := by
  simp [World.setCell, Array.getElem?_modify, h]
theorem cell_of_heap {w : World} {a : Nat} {cs : Array Value} {e : TypeId} {f : Nat × Nat} (h : w.heap[a]? = some (.cells cs e f)) (o : Nat) : w.cell? ⟨a, o, none⟩ = cs[o]? := by
  simp [World.cell?, h]
theorem frozen_of_heap {w : World} {a : Nat} {cs : Array Value} {e : TypeId} (h : w.heap[a]? = some (.cells cs e (0, 0))) (o : Nat) : w.frozen? ⟨a, o, none⟩ = false := by
  simp [World.frozen?, h]

/-- numbers as a row's cells -/
def intCells (l : List Nat) : List Value := l.map fun (n : Nat) => .int .i64 (n : Int)

/-- a program while it is read: block a, its rows from block B on -/
structure RInv (z a : Nat) (w : World) (p : RP) (vl vt vb : Value) (us : List Value) : Prop where
  base : z ≤ a
  blk : w.heap[a]? = some (.cells #[vl, vt, vb, .bool p.raw] 128 (0, 0))
  lines : w.ownsRow z 34 1 vl p.lines.length us
  each : ∀ j, j < us.length → w.ownsRow z 9 1 (us.getD j undef) (p.line j).length (cellsOf (p.line j))
  lets : w.ownsRow z 3 1 vt p.lets.length (intCells p.lets)
  blocks : w.ownsRow z 3 1 vb p.blocks.length (intCells p.blocks)
  apart : vt.ownBlock = none ∨ vb.ownBlock = none ∨ vt.ownBlock ≠ vb.ownBlock

theorem RInv.usl {z a : Nat} {w : World} {p : RP} {vl vt vb : Value} {us : List Value} (h : RInv z a w p vl vt vb us) : us.length = p.lines.length := by
  have := h.lines.1; omega
theorem RInv.lt {z a : Nat} {w : World} {p : RP} {vl vt vb : Value} {us : List Value} (h : RInv z a w p vl vt vb us) : a < w.heap.size := by
  have := h.blk
  rw [Array.getElem?_eq_some_iff] at this
  exact this.1

/-- an owned row of words that is not empty, as a reader sees it -/
theorem strRow_of {w : World} {z : Nat} {v : Value} {L : List B} (h : w.ownsRow z 9 1 v L.length (cellsOf L)) (hL : 1 ≤ L.length) : StrRow w v L := by
  have hl := h.lt
  obtain ⟨h0, h⟩ := h
  rcases h with ⟨-, h⟩ | ⟨g, cap, cur, rfl, hb, hg, hc, hm, hs, ht⟩
  · omega
  · refine ⟨g, cap, rfl, hc, (hl g rfl).2, fun j hj => ?_⟩
    rw [cell_of_heap hg]
    have : (cur.toList.take (L.length * 1))[j]? = cur[j]? := by
      rw [List.getElem?_take, if_pos (by omega)]; simp
    rw [← this, ht, cellsOf, List.getElem?_map]
    simp [word, hj]
theorem intRow_of {w : World} {z : Nat} {v : Value} {L : List Nat} (h : w.ownsRow z 3 1 v L.length (intCells L)) : IntRow w v L := by
  have hl := h.lt
  obtain ⟨h0, h⟩ := h
  rcases h with ⟨h, h'⟩ | ⟨g, cap, cur, rfl, hb, hg, hc, hm, hs, ht⟩
  · exact .inl ⟨List.eq_nil_of_length_eq_zero h', h⟩
  · refine .inr ⟨g, cap, rfl, hc, (hl g rfl).2, fun j hj => ?_⟩
    rw [cell_of_heap hg]
    have : (cur.toList.take (L.length * 1))[j]? = cur[j]? := by
      rw [List.getElem?_take, if_pos (by omega)]; simp
    rw [← this, ht, intCells, List.getElem?_map]
    simp [hj]
theorem RInv.progAt {z a : Nat} {w : World} {p : RP} {vl vt vb : Value} {us : List Value} (h : RInv z a w p vl vt vb us) (hw : ∀ i, i < p.lines.length → 1 ≤ (p.line i).length) : ProgAt w a p := by
  have hu := h.usl
  refine ⟨h.lt, ⟨vl, by rw [cell_of_heap h.blk]; rfl, ?_⟩, ⟨vt, by rw [cell_of_heap h.blk]; rfl, intRow_of h.lets⟩, ⟨vb, by rw [cell_of_heap h.blk]; rfl, intRow_of h.blocks⟩, by rw [cell_of_heap h.blk]; rfl⟩
  have hl := h.lines.lt
  obtain ⟨h0, hh⟩ := h.lines
  rcases hh with ⟨hh, h'⟩ | ⟨g, cap, cur, rfl, hb, hg, hc, hm, hs, ht⟩
  · exact .inl ⟨List.eq_nil_of_length_eq_zero h', hh⟩
  · refine .inr ⟨g, cap, rfl, hc, (hl g rfl).2, fun j hj => ?_⟩
    rw [cell_of_heap hg]
    have : (cur.toList.take (p.lines.length * 1))[j]? = cur[j]? := by
      rw [List.getElem?_take, if_pos (by omega)]; simp
    rw [← this, ht]
    refine ⟨us.getD j undef, by simp [hu, hj], ?_⟩
    have he := h.each j (by omega)
    exact strRow_of he (hw j hj)
theorem RInv.below {z a : Nat} {w w' : World} {p : RP} {vl vt vb : Value} {us : List Value} (h : RInv z a w p vl vt vb us) (hb : Below w.heap.size w w') : RInv z a w' p vl vt vb us :=
  ⟨h.base, by rw [hb.block a h.lt]; exact h.blk, own_below h.lines hb, fun j hj => own_below (h.each j hj) hb, own_below h.lets hb, own_below h.blocks hb, h.apart⟩

/-- a line more -/
theorem RInv.addLine {z a : Nat} {w w2 w3 : World} {p : RP} {vl vt vb vl' u : Value} {us : List Value} {L : List B} {o : Obj} (h : RInv z a w p vl vt vb us)
    (hu : w.ownsRow z 9 1 u L.length (cellsOf L)) (h2 : w2 = w.alloc o) (h3 : w3.ownsRow z 34 1 vl' (p.lines.length + 1) (us ++ [u])) (hg : w2.grownBy w3 vl.ownBlock) :
    RInv z a (w3.setCell ⟨a, 0, none⟩ vl') { p with lines := p.lines ++ [L] } vl' vt vb (us ++ [u]) := by
  subst h2
  have hal : Below w.heap.size w (w.alloc o) := (Below.refl _ _).alloc (Nat.le_refl _) o
  have H := h.below hal
  have hua := own_below hu hal
  have hne : some a ≠ vl.ownBlock := (own_at_ne H.lines H.blk (by decide)).symm
  have hblk : w3.heap[a]? = some (.cells #[vl, vt, vb, .bool p.raw] 128 (0, 0)) := by rw [hg.block a H.lt hne]; exact H.blk
  have keep : ∀ {e : TypeId} {v : Value} {n : Nat} {xs : List Value}, (w.alloc o).ownsRow z e 1 v n xs → e ≠ 34 → e ≠ 128 → (w3.setCell ⟨a, 0, none⟩ vl').ownsRow z e 1 v n xs := by
    intro e v n xs hv he he'
    have hk := hv.kept hg (own_ne hv H.lines he)
    exact own_setCell hk _ (own_at_ne hk hblk he')
  have hlen := h.usl
  refine ⟨h.base, ?_, ?_, fun j hj => ?_, keep H.lets (by decide) (by decide), keep H.blocks (by decide) (by decide), h.apart⟩
  · rw [heap_setCell_same hblk]; rfl
  · have := own_setCell h3 (a := ⟨a, 0, none⟩) vl' (own_at_ne h3 hblk (by decide))
    simpa using this
  · simp at hj
    have hline : ∀ j, RP.line { p with lines := p.lines ++ [L] } j = if j < p.lines.length then p.line j else if j = p.lines.length then L else [] := by
      intro j
      simp only [RP.line, List.getD_eq_getElem?_getD, List.getElem?_append]
      split
      · rfl
      · split
        · rename_i h1 h2; subst h2; simp
        · rw [List.getElem?_eq_none (by simp; omega)]; rfl
    rw [hline]
    by_cases hlt : j < us.length
    · rw [if_pos (by omega)]
      have : (us ++ [u]).getD j undef = us.getD j undef := by simp [List.getD_eq_getElem?_getD, List.getElem?_append, hlt]
      rw [this]
      exact keep (H.each j hlt) (by decide) (by decide)
    · obtain rfl : j = us.length := by omega
      rw [if_neg (by omega), if_pos hlen]
      have : (us ++ [u]).getD us.length undef = u := by simp [List.getD_eq_getElem?_getD]
      rw [this]
      exact keep hua (by decide) (by decide)
end Go.Proofs.YtmlgajhhnojdjaaGreatDoor.Aux
/- One element appended to a row of the call's own, with the new slice written out; a local or a block more of a program that is read. -/
namespace Go.Proofs.YtmlgajhhnojdjaaGreatDoor.Aux
open Go Go.RowKit Go.Proofs.YtmlgajhhnojdjaaGreatDoor.Spec

section
variable {P : Program} {w : World} {ops : Array Oper} {rest : List Oper} {o : Oper} {a : Act} {Q : Exit → Act → World → Prop}
theorem append_lies (hgd : o.guard = none) (s x : Operand) (t : TypeId)
    (ho : o.op = .call { callee := .builtin .append, args := #[s, x], argTypes := #[t, t] })
    (base : Nat) (e : TypeId) (i : TypeInfo) (z : Value) (bytes : Nat) (ht : P.underlying t = some (.slice e)) (hi : P.info? e = some i) (hz : i.zero = some z)
    (hsize : i.size = 1) (hby : i.bytes = bytes) (hzs : z.cells.size = 1)
    (v : Value) (n : Nat) (xs : List Value) (hs : a.eval s = v) (hown : w.ownsRow base e 1 v n xs)
    (u : Value) (hx : a.eval x = .slice (some ⟨w.heap.size, 0, none⟩) 1 1) (h1 : u.oneCell' = true)
    (hb1 : 1 ≤ bytes) (hbytes : (n + 1) * bytes ≤ 140737488355328) (hbase : base ≤ w.heap.size)
    (h : ∀ g cap w', w'.ownsRow base e 1 (.slice (some ⟨g, 0, none⟩) (n + 1) cap) (n + 1) (xs ++ [u]) → (w.alloc (.cells #[u] e)).grownBy w' v.ownBlock → (v.ownBlock = some g ∨ g = w.heap.size + 1) → g < w'.heap.size → wpList P ops Q rest (a.put o.dst (.slice (some ⟨g, 0, none⟩) (n + 1) cap)) w') : wpList P ops Q (o :: rest) a (w.alloc (.cells #[u] e)) := by
  refine wpList_append_lies _ hgd s x t ho base e i z 1 bytes ht hi hz hsize hby hzs (by decide) v n xs hs (hown.alloc _) ⟨w.heap.size, 0, none⟩ 1 1 [u] hx rfl ?_ ?_ (by decide) ?_ hbytes ?_ (w.heap.size + 1) (by simp) h
  · intro j u' hj
    match j, hj with
    | 0, hj => simp at hj; subst hj; simp [Addr.add]
  · intro u' hu; simp at hu; subst hu; exact h1
  · have : n + 1 ≤ (n + 1) * bytes := Nat.le_mul_of_pos_right _ hb1
    unfold maxLen; omega
  · simp; omega
theorem step_lies {K : Act → World → Prop} {E : Prop} (hgd : o.guard = none) (s x : Operand) (t : TypeId)
    (ho : o.op = .call { callee := .builtin .append, args := #[s, x], argTypes := #[t, t] })
    (base : Nat) (e : TypeId) (i : TypeInfo) (z : Value) (bytes : Nat) (ht : P.underlying t = some (.slice e)) (hi : P.info? e = some i) (hz : i.zero = some z)
    (hsize : i.size = 1) (hby : i.bytes = bytes) (hzs : z.cells.size = 1)
    (v : Value) (n : Nat) (xs : List Value) (hs : a.eval s = v) (hown : w.ownsRow base e 1 v n xs)
    (u : Value) (hx : a.eval x = .slice (some ⟨w.heap.size, 0, none⟩) 1 1) (h1 : u.oneCell' = true)
    (hb1 : 1 ≤ bytes) (hbytes : (n + 1) * bytes ≤ 140737488355328) (hbase : base ≤ w.heap.size)
    (h : ∀ g cap w', w'.ownsRow base e 1 (.slice (some ⟨g, 0, none⟩) (n + 1) cap) (n + 1) (xs ++ [u]) → (w.alloc (.cells #[u] e)).grownBy w' v.ownBlock → (v.ownBlock = some g ∨ g = w.heap.size + 1) → g < w'.heap.size → K (a.put o.dst (.slice (some ⟨g, 0, none⟩) (n + 1) cap)) w') :
    if Region.wanted o (yielded ops a.tmps) = true then Oper.wp P o a (w.alloc (.cells #[u] e)) K Q else E := by
  refine step_append_lies _ hgd s x t ho base e i z 1 bytes ht hi hz hsize hby hzs (by decide) v n xs hs (hown.alloc _) ⟨w.heap.size, 0, none⟩ 1 1 [u] hx rfl ?_ ?_ (by decide) ?_ hbytes ?_ (w.heap.size + 1) (by simp) h
  · intro j u' hj
    match j, hj with
    | 0, hj => simp at hj; subst hj; simp [Addr.add]
  · intro u' hu; simp at hu; subst hu; exact h1
  · have : n + 1 ≤ (n + 1) * bytes := Nat.le_mul_of_pos_right _ hb1
    unfold maxLen; omega
  · simp; omega
end

section
variable {z a : Nat} {w w3 : World} {p : RP} {vl vt vb v' : Value} {us : List Value} {o : Obj}
/-- a local more -/
theorem RInv.addLet (h : RInv z a w p vl vt vb us) (k : Nat) (h3 : w3.ownsRow z 3 1 v' (p.lets.length + 1) (intCells p.lets ++ [.int .i64 (k : Int)])) (hg : (w.alloc o).grownBy w3 vt.ownBlock)
    (hat : ∀ g, v'.ownBlock = some g → vt.ownBlock = some g ∨ g = w.heap.size + 1) :
    RInv z a (w3.setCell ⟨a, 1, none⟩ v') { p with lets := p.lets ++ [k] } vl v' vb us := by
  have hal : Below w.heap.size w (w.alloc o) := (Below.refl _ _).alloc (Nat.le_refl _) o
  have H := h.below hal
  have hne : some a ≠ vt.ownBlock := (own_at_ne H.lets H.blk (by decide)).symm
  have hblk : w3.heap[a]? = some (.cells #[vl, vt, vb, .bool p.raw] 128 (0, 0)) := by rw [hg.block a H.lt hne]; exact H.blk
  have keep : ∀ {e : TypeId} {v : Value} {n : Nat} {xs : List Value}, (w.alloc o).ownsRow z e 1 v n xs → (v.ownBlock = none ∨ v.ownBlock ≠ vt.ownBlock) → e ≠ 128 → (w3.setCell ⟨a, 1, none⟩ v').ownsRow z e 1 v n xs := by
    intro e v n xs hv hn he'
    have hk := hv.kept hg hn
    exact own_setCell hk _ (own_at_ne hk hblk he')
  refine ⟨h.base, ?_, keep H.lines (own_ne H.lines H.lets (by decide)) (by decide), fun j hj => keep (H.each j hj) (own_ne (H.each j hj) H.lets (by decide)) (by decide), ?_, keep H.blocks ?_ (by decide), ?_⟩
  · rw [heap_setCell_same hblk]; rfl
  · have := own_setCell h3 (a := ⟨a, 1, none⟩) v' (own_at_ne h3 hblk (by decide))
    simpa [intCells] using this
  · rcases h.apart with hx | hx | hx
    · cases hb : vb.ownBlock with
      | none => exact .inl rfl
      | some g => exact .inr (by rw [hx]; simp)
    · exact .inl hx
    · exact .inr (Ne.symm hx)
  · cases hv' : v'.ownBlock with
    | none => exact .inl rfl
    | some g =>
      cases hb : vb.ownBlock with
      | none => exact .inr (.inl rfl)
      | some g' =>
        refine .inr (.inr ?_)
        rcases hat g hv' with hx | hx
        · rcases h.apart with hy | hy | hy
          · rw [hx] at hy; cases hy
          · rw [hb] at hy; cases hy
          · rw [hx, hb] at hy; exact hy
        · have := own_lt h.blocks g' hb
          simp; omega
/-- a block more -/
theorem RInv.addBlock (h : RInv z a w p vl vt vb us) (k : Nat) (h3 : w3.ownsRow z 3 1 v' (p.blocks.length + 1) (intCells p.blocks ++ [.int .i64 (k : Int)])) (hg : (w.alloc o).grownBy w3 vb.ownBlock)
    (hat : ∀ g, v'.ownBlock = some g → vb.ownBlock = some g ∨ g = w.heap.size + 1) :
    RInv z a (w3.setCell ⟨a, 2, none⟩ v') { p with blocks := p.blocks ++ [k] } vl vt v' us := by
  have hal : Below w.heap.size w (w.alloc o) := (Below.refl _ _).alloc (Nat.le_refl _) o
  have H := h.below hal
  have hne : some a ≠ vb.ownBlock := (own_at_ne H.blocks H.blk (by decide)).symm
  have hblk : w3.heap[a]? = some (.cells #[vl, vt, vb, .bool p.raw] 128 (0, 0)) := by rw [hg.block a H.lt hne]; exact H.blk
  have keep : ∀ {e : TypeId} {v : Value} {n : Nat} {xs : List Value}, (w.alloc o).ownsRow z e 1 v n xs → (v.ownBlock = none ∨ v.ownBlock ≠ vb.ownBlock) → e ≠ 128 → (w3.setCell ⟨a, 2, none⟩ v').ownsRow z e 1 v n xs := by
    intro e v n xs hv hn he'
    have hk := hv.kept hg hn
    exact own_setCell hk _ (own_at_ne hk hblk he')
  refine ⟨h.base, ?_, keep H.lines (own_ne H.lines H.blocks (by decide)) (by decide), fun j hj => keep (H.each j hj) (own_ne (H.each j hj) H.blocks (by decide)) (by decide), keep H.lets ?_ (by decide), ?_, ?_⟩
  · rw [heap_setCell_same hblk]; rfl
  · rcases h.apart with hx | hx | hx
    · exact .inl hx
    · cases hb : vt.ownBlock with
      | none => exact .inl rfl
      | some g => exact .inr (by rw [hx]; simp)
    · exact .inr hx
  · have := own_setCell h3 (a := ⟨a, 2, none⟩) v' (own_at_ne h3 hblk (by decide))
    simpa [intCells] using this
  · cases hb : vt.ownBlock with
    | none => exact .inl rfl
    | some g' =>
      cases hv' : v'.ownBlock with
      | none => exact .inr (.inl rfl)
      | some g =>
        refine .inr (.inr ?_)
        rcases hat g hv' with hx | hx
        · rcases h.apart with hy | hy | hy
          · rw [hb] at hy; cases hy
          · rw [hx] at hy; cases hy
          · rw [hx, hb] at hy; exact hy
        · have := own_lt h.lets g' hb
          simp; omega
end
end Go.Proofs.YtmlgajhhnojdjaaGreatDoor.Aux
/- What lies in memory while the document's own reader reads a text, and what each step of its loop makes of it. -/
namespace Go.Proofs.YtmlgajhhnojdjaaGreatDoor.Aux
open Go Go.RowKit Go.Proofs.YtmlgajhhnojdjaaGreatDoor.Spec

/-- memory at one moment of the loop: the program so far, old memory as it was, the row of the text's lines -/
structure Held (L : List B) (w : World) (a : Nat) (v0 : Value) (wr : World) (p : RP) : Prop where
  inv : ∃ vl vt vb us, RInv w.heap.size a wr p vl vt vb us
  old : Below w.heap.size w wr
  row : wr.ownsRow w.heap.size 9 1 v0 L.length (cellsOf L)

theorem below_drew {B : Nat} {w w' : World} (h : Below B w.drew w') : Below B w w' := ⟨h.os, h.tape, h.output, h.size, h.block⟩
theorem below_alloc (w : World) (o : Obj) : Below w.heap.size w (w.alloc o) := (Below.refl _ _).alloc (Nat.le_refl _) o

section
variable {L : List B} {w : World} {a : Nat} {v0 : Value} {wr : World} {p : RP}
theorem Held.below {w' : World} (h : Held L w a v0 wr p) (hb : Below wr.heap.size wr w') : Held L w a v0 w' p := by
  obtain ⟨⟨vl, vt, vb, us, hi⟩, ho, hr⟩ := h
  exact ⟨⟨vl, vt, vb, us, hi.below hb⟩, ho.trans (hb.mono ho.size), own_below hr hb⟩
theorem Held.drewN (h : Held L w a v0 wr p) (n : Nat) : Held L w a v0 (wr.drewN n) p := h.below (below_drewN (Below.refl _ _) n)
theorem Held.lt (h : Held L w a v0 wr p) : a < wr.heap.size := by obtain ⟨⟨vl, vt, vb, us, hi⟩, -, -⟩ := h; exact hi.lt
theorem Held.base (h : Held L w a v0 wr p) : w.heap.size ≤ a := by obtain ⟨⟨vl, vt, vb, us, hi⟩, -, -⟩ := h; exact hi.base
theorem Held.progAt (h : Held L w a v0 wr p) (hok : p.Ok) : ProgAt wr a p := by obtain ⟨⟨vl, vt, vb, us, hi⟩, -, -⟩ := h; exact hi.progAt hok.words

theorem Held.line {w1 w2 : World} {vl vt vb u v2 : Value} {us : List Value} {ws : List B} {o : Obj} (h : Held L w a v0 wr p) (hinv : RInv w.heap.size a wr p vl vt vb us) (hb1 : Below wr.heap.size wr w1)
    (ho1 : w1.ownsRow wr.heap.size 9 1 u ws.length (cellsOf ws)) (hown2 : w2.ownsRow w.heap.size 34 1 v2 (p.lines.length + 1) (us ++ [u])) (hgrow2 : (w1.alloc o).grownBy w2 vl.ownBlock) :
    Held L w a v0 (w2.setCell ⟨a, 0, none⟩ v2) (p.addLine ws) := by
  have h1 := h.below hb1
  have hi1 := hinv.below hb1
  have ha := h.base
  refine ⟨⟨v2, vt, vb, us ++ [u], RInv.addLine hi1 (own_mono ho1 h.old.size) rfl hown2 hgrow2⟩, ?_, ?_⟩
  · refine ((h1.old.alloc h1.old.size o).grown hgrow2 (by have := h1.old.size; simp; omega) fun k hk => (hi1.lines.lt k hk).1).setCell ha v2
  · have hal := below_alloc w1 o
    have hra := own_below h1.row hal
    have hk := hra.kept hgrow2 (own_ne hra (hi1.below hal).lines (by decide))
    have hblk : w2.heap[a]? = some (.cells #[vl, vt, vb, .bool p.raw] 128 (0, 0)) := by
      rw [hgrow2.block a (hi1.below hal).lt (own_at_ne (hi1.below hal).lines (hi1.below hal).blk (by decide)).symm]; exact (hi1.below hal).blk
    exact own_setCell hk _ (own_at_ne hk hblk (by decide))
theorem Held.addLet {w2 : World} {vl vt vb v2 : Value} {us : List Value} {o : Obj} {k : Nat} (h : Held L w a v0 wr p) (hinv : RInv w.heap.size a wr p vl vt vb us)
    (hown2 : w2.ownsRow w.heap.size 3 1 v2 (p.lets.length + 1) (intCells p.lets ++ [.int .i64 (k : Int)])) (hgrow2 : (wr.alloc o).grownBy w2 vt.ownBlock)
    (hat : ∀ g, v2.ownBlock = some g → vt.ownBlock = some g ∨ g = wr.heap.size + 1) : Held L w a v0 (w2.setCell ⟨a, 1, none⟩ v2) (p.addLet k) := by
  have ha := h.base
  refine ⟨⟨vl, v2, vb, us, RInv.addLet hinv k hown2 hgrow2 hat⟩, ?_, ?_⟩
  · refine ((h.old.alloc h.old.size o).grown hgrow2 (by have := h.old.size; simp; omega) fun k hk => (hinv.lets.lt k hk).1).setCell ha v2
  · have hal := below_alloc wr o
    have hra := own_below h.row hal
    have hk := hra.kept hgrow2 (own_ne hra (hinv.below hal).lets (by decide))
    have hblk : w2.heap[a]? = some (.cells #[vl, vt, vb, .bool p.raw] 128 (0, 0)) := by
      rw [hgrow2.block a (hinv.below hal).lt (own_at_ne (hinv.below hal).lets (hinv.below hal).blk (by decide)).symm]; exact (hinv.below hal).blk
    exact own_setCell hk _ (own_at_ne hk hblk (by decide))
theorem Held.addBlock {w2 : World} {vl vt vb v2 : Value} {us : List Value} {o : Obj} {k : Nat} (h : Held L w a v0 wr p) (hinv : RInv w.heap.size a wr p vl vt vb us)
    (hown2 : w2.ownsRow w.heap.size 3 1 v2 (p.blocks.length + 1) (intCells p.blocks ++ [.int .i64 (k : Int)])) (hgrow2 : (wr.alloc o).grownBy w2 vb.ownBlock)
    (hat : ∀ g, v2.ownBlock = some g → vb.ownBlock = some g ∨ g = wr.heap.size + 1) : Held L w a v0 (w2.setCell ⟨a, 2, none⟩ v2) (p.addBlock k) := by
  have ha := h.base
  refine ⟨⟨vl, vt, v2, us, RInv.addBlock hinv k hown2 hgrow2 hat⟩, ?_, ?_⟩
  · refine ((h.old.alloc h.old.size o).grown hgrow2 (by have := h.old.size; simp; omega) fun k hk => (hinv.blocks.lt k hk).1).setCell ha v2
  · have hal := below_alloc wr o
    have hra := own_below h.row hal
    have hk := hra.kept hgrow2 (own_ne hra (hinv.below hal).blocks (by decide))
    have hblk : w2.heap[a]? = some (.cells #[vl, vt, vb, .bool p.raw] 128 (0, 0)) := by
      rw [hgrow2.block a (hinv.below hal).lt (own_at_ne (hinv.below hal).blocks (hinv.below hal).blk (by decide)).symm]; exact (hinv.below hal).blk
    exact own_setCell hk _ (own_at_ne hk hblk (by decide))
end
end Go.Proofs.YtmlgajhhnojdjaaGreatDoor.Aux
/- Plain definitions: the ways in which a place may be, as letters. -/
namespace Go.Proofs.YtmlgajhhnojdjaaGreatDoor.Spec
open Go

theorem append_toList (a b : ByteArray) : (a ++ b).toList = a.toList ++ b.toList := by
  simp only [ByteArray.toList_eq]
  simp
/-- letters, with one more -/
def withC (s : B) (c : UInt8) : B := if c ∈ s then s else s ++ [c]
/-- are all letters among some? -/
def has (s : B) (c : UInt8) : Bool := s.contains c
def only (s some : B) : Bool := s.all fun c => has some c
/-- how a place is, when it was taken out or dropped -/
def left (w : B) : B := if partOf w = 115 then [104] else [45]
/-- of a place: the first spot, and how many -/
def RP.spots (p : RP) (w : B) : Nat × Nat :=
  if partOf w = 98 then (2 * (p.find (localOf w)).toNat + 1, 1)
  else if p.typeOf w = wPair then (2 * (p.find (localOf w)).toNat, 2) else (2 * (p.find (localOf w)).toNat, 1)
end Go.Proofs.YtmlgajhhnojdjaaGreatDoor.Spec
/- Plain definitions: all ways in which every spot may be, at one line; what a line makes of them. -/
namespace Go.Proofs.YtmlgajhhnojdjaaGreatDoor.Spec
open Go

structure WS where
  known : Bool
  spots : List B
def WS.at (s : WS) (k : Nat) : B := s.spots.getD k []
def WS.cells (s : WS) : List Value := .bool s.known :: s.spots.map fun b => .string (bs b)
def WS.val (s : WS) : Value := .agg s.cells.toArray
/-- twenty-four spots, each with few letters -/
structure WS.Ok (s : WS) : Prop where
  len : s.spots.length = 24
  few : ∀ k, (s.at k).length ≤ 1000
theorem WS.cells_length {s : WS} (h : s.Ok) : s.cells.length = 25 := by simp [WS.cells, h.len]
theorem WS.cells_at {s : WS} (h : s.Ok) (k : Nat) (hk : k < 24) : s.cells[1 + k]? = some (.string (bs (s.at k))) := by
  rw [Nat.add_comm, WS.cells, List.getElem?_cons_succ, List.getElem?_map]
  simp [WS.at, h.len, hk]
theorem WS.cells_one (s : WS) : ∀ v ∈ s.cells, v.oneCell' = true := by
  intro v hv
  simp only [WS.cells, List.mem_cons, List.mem_map] at hv
  rcases hv with rfl | ⟨b, -, rfl⟩ <;> rfl

/-- what a place has is there for sure -/
def RP.some (p : RP) (w : B) : B := if p.typeOf w = wOpt then [110, 119] else [119]
def thereGo (s : WS) (some : B) : Nat → Nat → Bool
  | 0, _ => true
  | m + 1, k => if only (s.at k) some then thereGo s some m (k + 1) else false
def RP.there (p : RP) (s : WS) (w : B) : Bool := thereGo s (p.some w) (p.spots w).2 (p.spots w).1
theorem thereGo_step (s : WS) (t : B) (i n k : Nat) (hk : k < i + n) : thereGo s t (i + n - k) k = if only (s.at k) t then thereGo s t (i + n - (k + 1)) (k + 1) else false := by
  rw [show i + n - k = (i + n - (k + 1)) + 1 by omega, thereGo]
theorem RP.spots_bound {p : RP} {w : B} {j : Nat} (hj : p.find (localOf w) = (j : Int)) : (p.spots w).1 + (p.spots w).2 ≤ 2 * j + 2 ∧ 1 ≤ (p.spots w).2 := by
  unfold RP.spots
  rw [hj]
  split
  · simp
  · split <;> simp
end Go.Proofs.YtmlgajhhnojdjaaGreatDoor.Spec
/- Ways in a block of their own: read whole, written whole, one spot written; a result that lies in memory. -/
namespace Go.Proofs.YtmlgajhhnojdjaaGreatDoor.Aux
open Go Go.RowKit Go.Proofs.YtmlgajhhnojdjaaGreatDoor.Spec

theorem heap_setCells_other (b : Nat) : ∀ (vs : List Value) (o : Nat) (w : World) (k : Nat), k ≠ b → (w.setCells b o vs).heap[k]? = w.heap[k]?
  | [], _, _, _, _ => rfl
  | v :: r, o, w, k, h => by
    rw [World.setCells, heap_setCells_other b r (o + 1) _ k h, Below.heap_setCell _ _ _ _ h]
theorem heap_setCells (b : Nat) : ∀ (vs : List Value) (o : Nat) (w : World) (cs : Array Value) (e : TypeId) (f : Nat × Nat), w.heap[b]? = some (.cells cs e f) →
    ∃ cs', (w.setCells b o vs).heap[b]? = some (.cells cs' e f) ∧ cs'.size = cs.size ∧ ∀ j, cs'[j]? = if o ≤ j ∧ j < o + vs.length ∧ j < cs.size then vs[j - o]? else cs[j]?
  | [], o, w, cs, e, f, h => ⟨cs, h, rfl, fun j => by rw [if_neg (by simp; omega)]⟩
  | v :: r, o, w, cs, e, f, h => by
    obtain ⟨cs', h1, h2, h3⟩ := heap_setCells b r (o + 1) (w.setCell ⟨b, o, none⟩ v) (cs.setIfInBounds o v) e f (heap_setCell_same h o v)
    refine ⟨cs', by rw [World.setCells]; exact h1, by rw [h2]; simp, fun j => ?_⟩
    rw [h3, Array.getElem?_setIfInBounds]
    by_cases hj : j = o
    · subst hj
      rw [if_neg (by omega), if_pos rfl]
      by_cases hs : j < cs.size
      · rw [if_pos hs, if_pos (by simp; omega)]; simp
      · rw [if_neg hs, if_neg (by omega)]; simp; omega
    · by_cases hc : o + 1 ≤ j ∧ j < o + 1 + r.length ∧ j < cs.size
      · rw [if_pos (by simpa using hc), if_pos (by simp; omega)]
        rw [show j - o = (j - (o + 1)) + 1 by omega, List.getElem?_cons_succ]
      · rw [if_neg (by simpa using hc), if_neg (by omega), if_neg (by simp; omega)]

/-- ways in block b -/
def WayAt (w : World) (b : Nat) (s : WS) : Prop := w.heap[b]? = some (.cells s.cells.toArray 155 (0, 0))
section
variable {w w' : World} {b : Nat} {s t : WS}
theorem WayAt.lt (h : WayAt w b s) : b < w.heap.size := by
  unfold WayAt at h; rw [Array.getElem?_eq_some_iff] at h; exact h.1
theorem WayAt.below (h : WayAt w b s) (hb : Below w.heap.size w w') : WayAt w' b s := by
  unfold WayAt; rw [hb.block b h.lt]; exact h
theorem WayAt.drewN (h : WayAt w b s) (n : Nat) : WayAt (w.drewN n) b s := h
theorem WayAt.drew (h : WayAt w b s) : WayAt w.drew b s := h
theorem WayAt.range (h : WayAt w b s) : w.rangeAt b 0 s.cells := fun j v hv => by
  rw [Nat.zero_add, cell_of_heap h]; simpa using hv
theorem WayAt.there (h : WayAt w b s) (hs : s.Ok) : w.there b 0 25 := fun j hj => by
  rw [Nat.zero_add, cell_of_heap h, frozen_of_heap h]
  have := WS.cells_length hs
  simp [this, hj]
theorem WayAt.cell (h : WayAt w b s) (hs : s.Ok) (k : Nat) (hk : k < 24) : w.cell? ⟨b, 1 + k, none⟩ = some (.string (bs (s.at k))) := by
  rw [cell_of_heap h]; simpa using WS.cells_at hs k hk
theorem WayAt.known (h : WayAt w b s) : w.cell? ⟨b, 0, none⟩ = some (.bool s.known) := by
  rw [cell_of_heap h]; rfl
theorem WayAt.frozen (h : WayAt w b s) (o : Nat) : w.frozen? ⟨b, o, none⟩ = false := frozen_of_heap h o
/-- written whole -/
theorem WayAt.store (h : WayAt w b s) (hs : s.Ok) (ht : t.Ok) : WayAt (w.setCells b 0 t.cells) b t := by
  obtain ⟨cs', h1, h2, h3⟩ := heap_setCells b t.cells 0 w _ _ _ h
  unfold WayAt
  rw [h1]
  congr 2
  apply Array.ext_getElem?
  intro j
  rw [h3]
  have l1 := WS.cells_length hs
  have l2 := WS.cells_length ht
  by_cases hj : j < 25
  · rw [if_pos (by simp [l1, l2, hj])]; simp
  · rw [if_neg (by simp [l2]; omega)]; simp [l1, l2, Nat.le_of_not_lt hj]
theorem WayAt.other {b' : Nat} (h : WayAt w b s) (hne : b ≠ b') (o : Nat) (vs : List Value) : WayAt (w.setCells b' o vs) b s := by
  unfold WayAt; rw [heap_setCells_other b' vs o w b hne]; exact h
theorem WayAt.setOther {a : Addr} (h : WayAt w b s) (hne : b ≠ a.block) (v : Value) : WayAt (w.setCell a v) b s := by
  unfold WayAt; rw [Below.heap_setCell _ _ _ _ hne]; exact h
theorem WayAt.new (w : World) (s : WS) : WayAt (w.alloc (.cells s.cells.toArray 155)) w.heap.size s := by
  unfold WayAt; show (w.heap.push _)[w.heap.size]? = _; simp
theorem below_setCells {B : Nat} {w0 : World} (h : Below B w0 w) (hB : B ≤ b) (o : Nat) (vs : List Value) : Below B w0 (w.setCells b o vs) := by
  have hos : ∀ (vs : List Value) (o : Nat) (w : World), (w.setCells b o vs).os = w.os ∧ (w.setCells b o vs).tape = w.tape ∧ (w.setCells b o vs).output = w.output ∧ (w.setCells b o vs).heap.size = w.heap.size := by
    intro vs
    induction vs with
    | nil => intro o w; exact ⟨rfl, rfl, rfl, rfl⟩
    | cons v r ih => intro o w; rw [World.setCells]; have := ih (o + 1) (w.setCell ⟨b, o, none⟩ v); simpa [World.setCell] using this
  obtain ⟨h1, h2, h3, h4⟩ := hos vs o w
  exact h.trans ⟨h1, h2, h3, by omega, fun k hk => heap_setCells_other b vs o w k (by omega)⟩
end
def WS.set (s : WS) (k : Nat) (c : B) : WS := { s with spots := s.spots.set k c }
theorem WS.set_ok {s : WS} (hs : s.Ok) (k : Nat) {c : B} (hc : c.length ≤ 1000) : (WS.set s k c).Ok := by
  refine ⟨by simp [WS.set, hs.len], fun j => ?_⟩
  unfold WS.at WS.set
  simp only [List.getD_eq_getElem?_getD, List.getElem?_set]
  split
  · split
    · simpa using hc
    · simp
  · exact hs.few j
/-- one spot written -/
theorem WayAt.set {w : World} {b : Nat} {s : WS} (h : WayAt w b s) (k : Nat) (c : B) : WayAt (w.setCell ⟨b, 1 + k, none⟩ (.string (bs c))) b (WS.set s k c) := by
  unfold WayAt
  rw [heap_setCell_same h]
  congr 2
  have : (WS.set s k c).cells = s.cells.set (1 + k) (.string (bs c)) := by
    simp [WS.set, WS.cells, Nat.add_comm 1 k, List.map_set]
  rw [this]
  simp
/-- a result that lies in memory -/
theorem results_cell {fn : Func} {p : Tmp} {ty : TypeId} (h : fn.results = #[.cell p ty]) (tmps : Array Value) (P : Program) (w : World) (b : Nat) (cs : List Value) (d : TypeDesc) (hp : tmps.getD p undef = .pointer (some ⟨b, 0, none⟩))
    (hc : w.rangeAt b 0 cs) (hu : P.underlying ty = some d) (hd : d.isRow = true) (hi : (P.info? ty).map (·.size) = some cs.length) : (results fn tmps).run P w = .ok (.agg cs.toArray) w := by
  have := run_loadVar_mid (P := P) w b 0 ty cs d hc hu hd hi
  rw [Array.getD_eq_getD_getElem?] at hp
  unfold results
  simp [h, hp, asAddr, this]
theorem results_cell_bool {fn : Func} {p u : Tmp} {ty : TypeId} (h : fn.results = #[.cell p ty, .tmp u]) (tmps : Array Value) (P : Program) (w : World) (b : Nat) (cs : List Value) (d : TypeDesc) (hp : tmps.getD p undef = .pointer (some ⟨b, 0, none⟩))
    (hc : w.rangeAt b 0 cs) (hu : P.underlying ty = some d) (hd : d.isRow = true) (hi : (P.info? ty).map (·.size) = some cs.length) : (results fn tmps).run P w = .ok (.tuple #[.agg cs.toArray, tmps.getD u undef]) w := by
  have := run_loadVar_mid (P := P) w b 0 ty cs d hc hu hd hi
  rw [Array.getD_eq_getD_getElem?] at hp
  unfold results
  simp [h, hp, asAddr, this]
end Go.Proofs.YtmlgajhhnojdjaaGreatDoor.Aux
/- How the library parts a text, in the words of the document's own; and what the project's reader makes of one line. -/
namespace Go.Proofs.YtmlgajhhnojdjaaGreatDoor.PrjJ
open Go Go.RowKit Go.Proofs.YtmlgajhhnojdjaaGreatDoor.Spec Go.Proofs.YtmlgajhhnojdjaaGreatDoor.Aux Go.Proofs.YtmlgajhhnojdjaaGreatDoor.PrjF Go.Proofs.YtmlgajhhnojdjaaGreatDoor.PrjG Go.Proofs.YtmlgajhhnojdjaaGreatDoor.PrjH Go.Proofs.YtmlgajhhnojdjaaGreatDoor.PrjI

theorem split_no (c : UInt8) : ∀ (a : B), ¬ c ∈ a → split c a = [a]
  | [], _ => rfl
  | x :: a, h => by
    simp only [List.mem_cons, not_or] at h
    rw [split, if_neg (fun e => h.1 e.symm), split_no c a h.2]; rfl
theorem split_app (c : UInt8) : ∀ (a t : B), ¬ c ∈ a → split c (a ++ c :: t) = a :: split c t
  | [], t, _ => by simp [split]
  | x :: a, t, h => by
    simp only [List.mem_cons, not_or] at h
    rw [List.cons_append, split, if_neg (fun e => h.1 e.symm), split_app c a t h.2]; rfl
theorem split_count (c : UInt8) : ∀ (l : B), (split c l).length = l.count c + 1
  | [] => rfl
  | x :: l => by
    rw [split]
    split
    · rename_i h; subst h; simp [split_count x l]
    · rename_i h
      have := split_count c l
      rw [List.count_cons_of_ne (fun e => h e)]
      cases hs : split c l with
      | nil => rw [hs] at this; simp at this
      | cons a b => rw [hs] at this; simpa [addHead] using this
theorem hit_parts {c : UInt8} {l : B} {i : Nat} : ((bs l).extract 0 (i + 0)) = bs (l.take i) ∧ ((bs l).extract (i + (⟨#[c]⟩ : ByteArray).size) (bs l).size) = bs (l.drop (i + 1)) := by
  constructor
  · rw [extract_eq, toList_bs]; simp
  · rw [extract_eq, toList_bs]
    have : (⟨#[c]⟩ : ByteArray).size = 1 := rfl
    rw [this, size_bs, List.take_of_length_le (by simp)]
theorem splitB_words (c : UInt8) : ∀ (k : Nat) (l : B), (Lib.splitB ⟨#[c]⟩ 0 k (bs l)).length = min (k + 1) (split c l).length ∧
    (∀ j, j < k → j < (split c l).length → (Lib.splitB ⟨#[c]⟩ 0 k (bs l))[j]? = some (bs (word (split c l) j))) ∧ ((split c l).length ≤ k + 1 → Lib.splitB ⟨#[c]⟩ 0 k (bs l) = (split c l).map bs)
  | 0, l => by
    have h1 := split_count c l
    refine ⟨by simp [Lib.splitB]; omega, fun j hj => absurd hj (by omega), fun h => ?_⟩
    have : ¬ c ∈ l := fun e => by have := List.count_pos_iff.mpr e; omega
    rw [split_no c l this]; rfl
  | k + 1, l => by
    have hx : Lib.indexB (bs l) ⟨#[c]⟩ = Lib.index l [c] := by simp [Lib.indexB, bs]
    rcases index_byte c l with ⟨h1, h2⟩ | ⟨i, h1, h2, h3, h4⟩
    · rw [Lib.splitB_miss _ _ _ _ (by rw [hx, h1]), split_no c l h2]
      refine ⟨by simp, fun j hj hl => ?_, fun _ => rfl⟩
      have : j = 0 := by simpa using hl
      subst this; rfl
    · obtain ⟨e1, e2⟩ := hit_parts (c := c) (l := l) (i := i)
      rw [Lib.splitB_hit _ _ _ _ i (by rw [hx, h1]), e1, e2]
      have hs : split c l = l.take i :: split c (l.drop (i + 1)) := (congrArg (split c) h3).trans (split_app c _ _ h4)
      obtain ⟨a1, a2, a3⟩ := splitB_words c k (l.drop (i + 1))
      rw [hs]
      refine ⟨?_, fun j hj hl => ?_, fun h => ?_⟩
      · simp only [List.length_cons, a1]; omega
      · cases j with
        | zero => rfl
        | succ j =>
          rw [List.getElem?_cons_succ, a2 j (by omega) (by simpa using hl)]
          rfl
      · rw [a3 (by simp at h; omega)]; rfl
theorem countB_split (c : UInt8) : ∀ (n : Nat) (l : B), l.length ≤ n → Lib.countB (bs l) ⟨#[c]⟩ + 1 = (split c l).length := by
  intro n
  induction n with
  | zero =>
    intro l hl
    have : l = [] := List.eq_nil_of_length_eq_zero (by omega)
    subst this
    rw [Lib.countB_miss (bs []) ⟨#[c]⟩ (by rfl)]; rfl
  | succ n ih =>
    intro l hl
    have hx : Lib.indexB (bs l) ⟨#[c]⟩ = Lib.index l [c] := by simp [Lib.indexB, bs]
    rcases index_byte c l with ⟨h1, h2⟩ | ⟨i, h1, h2, h3, h4⟩
    · rw [Lib.countB_miss _ _ (by rw [hx, h1]), split_no c l h2]; rfl
    · obtain ⟨e1, e2⟩ := hit_parts (c := c) (l := l) (i := i)
      rw [Lib.countB_hit (bs l) ⟨#[c]⟩ i (Nat.le_refl 1) (by rw [hx, h1]), e2]
      have hs : split c l = l.take i :: split c (l.drop (i + 1)) := (congrArg (split c) h3).trans (split_app c _ _ h4)
      have := ih (l.drop (i + 1)) (by simp; omega)
      rw [hs, List.length_cons]; omega
/-- a row of words somewhere in memory -/
def WordsAt (w : World) (v : Value) (L : List B) : Prop :=
  ∃ g o cap, v = .slice (some ⟨g, o, none⟩) L.length cap ∧ L.length ≤ cap ∧ (∃ cs f, w.heap[g]? = some (.cells cs 9 f)) ∧ ∀ j, j < L.length → w.cell? ⟨g, o + j, none⟩ = some (.string (bs (word L j)))
theorem lt_of_heap {w : World} {g : Nat} {x : Obj} (h : w.heap[g]? = some x) : g < w.heap.size := by
  rw [Array.getElem?_eq_some_iff] at h; exact h.1
theorem WordsAt.below {w w' : World} {v : Value} {L : List B} (h : WordsAt w v L) (hb : Below w.heap.size w w') : WordsAt w' v L := by
  obtain ⟨g, o, cap, rfl, hc, ⟨cs, f, hg⟩, hcell⟩ := h
  have hlt := lt_of_heap hg
  exact ⟨g, o, cap, rfl, hc, ⟨cs, f, (hb.block g hlt).trans hg⟩, fun j hj => (hb.cell (p := ⟨g, o + j, none⟩) hlt).trans (hcell j hj)⟩
theorem wants_len (op : Nat) (h : op < 23) : (wantsOf op).length ≤ 3 := by
  have : ∀ op : Fin 23, (wantsOf op.val).length ≤ 3 := by decide
  exact this ⟨op, h⟩
/-- what SplitN gives at blanks, five words at the most -/
theorem splitN_row (l : B) (w : World) (h : l.length ≤ 1048576) (E : Env w) :
    Calls Tryz.prog 195 #[.string (bs l), .string ⟨#[32]⟩, .int .i64 5] w fun e w' => ∃ g cap, e = .returned (.slice (some ⟨g, 0, none⟩) (min 5 (split 32 l).length) cap) ∧ min 5 (split 32 l).length ≤ cap ∧ (cap ≤ 5 ∧ (l ≠ [] → 2 ≤ cap)) ∧ g < w'.heap.size ∧ w.heap.size ≤ g ∧ Below w.heap.size w w' ∧
      w'.cell? ⟨g, 0, none⟩ = some (.string (bs (word (split 32 l) 0))) ∧ ((split 32 l).length ≤ 4 → ∀ j, j < (split 32 l).length → w'.cell? ⟨g, j, none⟩ = some (.string (bs (word (split 32 l) j)))) ∧ (∃ cs f, w'.heap[g]? = some (.cells cs 9 f)) := by
  obtain ⟨m, hm⟩ := E.most
  have K := Tryz.strings_SplitN (bs l) ⟨#[32]⟩ 5 m w (by rw [size_bs]; omega) hm (by decide) (by decide) (by decide)
  refine K.mono ?_
  rintro e w' ⟨rfl, rfl⟩
  rw [size_bs]
  have hsl := split_length 32 l
  have h1 := one_le_split 32 l
  have hk : min 5 (l.length + 1) - 1 + 1 = min 5 (l.length + 1) := by omega
  obtain ⟨a1, a2, a3⟩ := splitB_words 32 (min 5 (l.length + 1) - 1) l
  have hlen : (Lib.splitB ⟨#[32]⟩ 0 (min 5 (l.length + 1) - 1) (bs l)).length = min 5 (split 32 l).length := by rw [a1]; omega
  have hcell : ∀ j, j < min 5 (split 32 l).length → (w.alloc (.cells (Lib.cellsOf (Lib.splitB ⟨#[32]⟩ 0 (min 5 (l.length + 1) - 1) (bs l)) (min 5 (l.length + 1))) 9)).cell? ⟨w.heap.size, j, none⟩ = (Lib.splitB ⟨#[32]⟩ 0 (min 5 (l.length + 1) - 1) (bs l))[j]?.map Value.string := by
    intro j hj
    have : (w.alloc (.cells (Lib.cellsOf (Lib.splitB ⟨#[32]⟩ 0 (min 5 (l.length + 1) - 1) (bs l)) (min 5 (l.length + 1))) 9)).heap[w.heap.size]? = some (.cells (Lib.cellsOf (Lib.splitB ⟨#[32]⟩ 0 (min 5 (l.length + 1) - 1) (bs l)) (min 5 (l.length + 1))) 9 (0, 0)) := by show (w.heap.push _)[w.heap.size]? = _; simp
    simp only [World.cell?, this]
    unfold Lib.cellsOf
    simp only [List.getElem?_toArray]
    rw [List.getElem?_append_left (by simp; omega), List.getElem?_map]
    rfl
  refine ⟨w.heap.size, min 5 (l.length + 1), by rw [hlen], by omega, ⟨by omega, fun hl => by have : l.length ≠ 0 := fun e => hl (List.eq_nil_of_length_eq_zero e); omega⟩, by simp, Nat.le_refl _, (Below.refl _ _).alloc (Nat.le_refl _) _, ?_, fun h4 j hj => ?_, ⟨_, _, (show (w.heap.push _)[w.heap.size]? = _ from Array.getElem?_push_size)⟩⟩
  · rw [hcell 0 (by omega)]
    by_cases hk0 : 0 < min 5 (l.length + 1) - 1
    · rw [a2 0 hk0 (by omega)]; rfl
    · have hl0 : l = [] := List.eq_nil_of_length_eq_zero (by omega)
      subst hl0; rfl
  · rw [hcell j (by omega), a3 (by omega), List.getElem?_map]
    simp [word, hj]

/-- the place of a result that is still nothing -/
def ResAt (w : World) (b : Nat) : Prop := w.heap[b]? = some (.cells #[.int .i64 0, .slice none 0 0] 240 (0, 0))
theorem ResAt.new (w : World) : ResAt (w.alloc (.cells #[.int .i64 0, .slice none 0 0] 240)) w.heap.size := by
  unfold ResAt; show (w.heap.push _)[w.heap.size]? = _; simp
theorem ResAt.lt {w : World} {b : Nat} (h : ResAt w b) : b < w.heap.size := by
  unfold ResAt at h; rw [Array.getElem?_eq_some_iff] at h; exact h.1
theorem ResAt.below {w w' : World} {b : Nat} (h : ResAt w b) (hb : Below w.heap.size w w') : ResAt w' b := by
  unfold ResAt; rw [hb.block b h.lt]; exact h
theorem ResAt.facts {w : World} {b : Nat} (h : ResAt w b) : w.cell? ⟨b, 0, none⟩ = some (.int .i64 0) ∧ w.cell? ⟨b, 1, none⟩ = some (.slice none 0 0) ∧ w.frozen? ⟨b, 0, none⟩ = false ∧ w.frozen? ⟨b, 1, none⟩ = false := by
  unfold ResAt at h
  exact ⟨by rw [cell_of_heap h]; rfl, by rw [cell_of_heap h]; rfl, frozen_of_heap h 0, frozen_of_heap h 1⟩
/-- what sentenceOf hands back -/
def SentPost (l : B) (w : World) (e : Ending) (w' : World) : Prop :=
  Below w.heap.size w w' ∧ match sentP (split 32 l) with
    | none => e = .returned (.tuple #[.agg #[.int .i64 0, .slice none 0 0], .bool false])
    | some x => ∃ v, e = .returned (.tuple #[.agg #[.int .i64 (x.1 : Nat), v], .bool true]) ∧ WordsAt w' v x.2
theorem two_cells {w : World} {b : Nat} (r : ResAt w b) (x y : Value) : ((w.setCell ⟨b, 0, none⟩ x).setCell ⟨b, 1, none⟩ y).rangeAt b 0 [x, y] := by
  unfold ResAt at r
  have h1 := Go.Proofs.YtmlgajhhnojdjaaGreatDoor.Aux.heap_setCell_same r 0 x
  have h2 := Go.Proofs.YtmlgajhhnojdjaaGreatDoor.Aux.heap_setCell_same h1 1 y
  intro j v hv
  rw [cell_of_heap h2]
  match j, hv with
  | 0, hv => simpa using hv
  | 1, hv => simpa using hv
theorem below_two {w w2 : World} {b : Nat} (hb : Below w.heap.size w w2) (h : w.heap.size ≤ b) (x y : Value) : Below w.heap.size w ((w2.setCell ⟨b, 0, none⟩ x).setCell ⟨b, 1, none⟩ y) := by
  refine ⟨hb.os, hb.tape, hb.output, by simpa using hb.size, fun k hk => ?_⟩
  rw [Below.heap_setCell _ _ _ _ (by show k ≠ b; omega), Below.heap_setCell _ _ _ _ (by show k ≠ b; omega)]
  exact hb.block k hk
theorem info_sentence : (Tryz.prog.info? 240).map (·.size) = some 2 := by kernel_rfl
theorem sent_ret {l : B} {w w2 : World} {tmps : Array Value} {x y : Value} {bl : Bool} (h2 : tmps.getD 2 undef = .pointer (some ⟨w.heap.size, 0, none⟩)) (h3 : tmps.getD 3 undef = .bool bl) (r : ResAt w2 w.heap.size) (hb : Below w.heap.size w w2)
    (P : ∀ w3, Below w.heap.size w w3 → (∀ k, k ≠ w.heap.size → w3.heap[k]? = w2.heap[k]?) → w3.heap.size = w2.heap.size → SentPost l w (.returned (.tuple #[.agg #[x, y], .bool bl])) w3) :
    bodyPost Tryz.prog Tryz.f163 (SentPost l w) Exit.ret { tmps := tmps, defers := [] } ((w2.setCell ⟨w.heap.size, 0, none⟩ x).setCell ⟨w.heap.size, 1, none⟩ y) := by
  refine bodyPost_ret (results_cell_bool Tryz.results163 tmps _ _ w.heap.size [x, y] _ h2 (two_cells r x y) Tryz.underlying240 rfl info_sentence) rfl ?_
  rw [h3]
  refine P _ (below_two hb (Nat.le_refl _) x y) (fun k hk => ?_) (by simp)
  rw [Below.heap_setCell _ _ _ _ (by show k ≠ _; exact hk), Below.heap_setCell _ _ _ _ (by show k ≠ _; exact hk)]
theorem shape_at (op : Nat) (h : op < 23) : shapeCells[op * 2 + 1]? = some (.string (bs (wantsOf op))) := by
  have h : op = 0 ∨ op = 1 ∨ op = 2 ∨ op = 3 ∨ op = 4 ∨ op = 5 ∨ op = 6 ∨ op = 7 ∨ op = 8 ∨ op = 9 ∨ op = 10 ∨ op = 11 ∨ op = 12 ∨ op = 13 ∨ op = 14 ∨ op = 15 ∨ op = 16 ∨ op = 17 ∨ op = 18 ∨ op = 19 ∨ op = 20 ∨ op = 21 ∨ op = 22 := by omega
  rcases h with rfl | rfl | rfl | rfl | rfl | rfl | rfl | rfl | rfl | rfl | rfl | rfl | rfl | rfl | rfl | rfl | rfl | rfl | rfl | rfl | rfl | rfl | rfl <;> rfl
theorem shape_cell {w : World} (E : Env w) (op : Nat) (h : op < 23) : w.cell? ⟨0, op * 2 + 1, none⟩ = some (.string (bs (wantsOf op))) := by
  have := E.shapes (op * 2 + 1) (.string (bs (wantsOf op))) (shape_at op h)
  simpa using this
set_option maxRecDepth 20000 in
theorem sentenceOf_any (l : B) (w : World) (h : l.length ≤ 1048576) (E : Env w) :
    Calls Tryz.prog 163 #[.string (bs l)] w (SentPost l w) := by
  have KS := fun w' (E' : Env w') => splitN_row l w' h E'
  have E1 := E.on ((Below.refl _ _).alloc (Nat.le_refl _) (.cells #[.int .i64 0, .slice none 0 0] 240))
  have hb1 : Below w.heap.size w (w.alloc (.cells #[.int .i64 0, .slice none 0 0] 240)) := (Below.refl _ _).alloc (Nat.le_refl _) _
  have hs1 : (w.alloc (.cells #[.int .i64 0, .slice none 0 0] 240)).heap.size = w.heap.size + 1 := by simp
  have KO := fun w' (E' : Env w') => opOf_any (word (split 32 l) 0) w' E'.shapes
  have h1 := one_le_split 32 l
  cases ho : opIdx (word (split 32 l) 0) with
  | none =>
    have hx : sentP (split 32 l) = none := by rw [sentP, ho]
    have P : ∀ w', Below w.heap.size w w' → SentPost l w (.returned (.tuple #[.agg #[.int .i64 0, .slice none 0 0], .bool false])) w' := fun w' hb => ⟨hb, by rw [hx]⟩
    rw [ho] at KO
    go_enter Tryz.func163, Tryz.ntmps163
    go_wp2_with (first | (go_at_call 195; refine (KS _ E1).mono ?_; rintro e w1 ⟨g, cap, rfl, hc1, hc2, hg, hg1, hb, hc0, hcs, csg, fg, htag⟩; have r1 := (ResAt.new w).below hb) | (go_at_call 196; refine (KO _ (E1.on hb)).mono ?_; rintro e w2 ⟨rfl, hb2⟩; obtain ⟨rc0, rc1, rf0, rf1⟩ := (r1.below hb2).facts))
    refine sent_ret rfl rfl (r1.below hb2) ((hb1.trans (hb.mono (by omega))).trans (hb2.mono ?_)) (fun w3 h3 _ _ => P w3 h3)
    have := hb.size
    omega
  | some op =>
    have hop := opIdx_lt ho
    have hwl := wants_len op hop
    rw [ho] at KO
    have hl0 : l ≠ [] := by rintro rfl; have : opIdx (word (split 32 []) 0) = none := rfl; rw [this] at ho; cases ho
    have hword : ∀ j, (word (split 32 l) j).length ≤ 1048576 := fun j => Nat.le_trans (word_split_le 32 l j) h
    by_cases hlen : (split 32 l).length - 1 = (wantsOf op).length
    · have hmin : min 5 (split 32 l).length = (wantsOf op).length + 1 := by omega
      have hl4 : (split 32 l).length ≤ 4 := by omega
      have hll : (split 32 l).length = (wantsOf op).length + 1 := by omega
      rw [hmin] at KS
      have hx : Hid (sentP (split 32 l) = if formedGo (wantsOf op) ((split 32 l).drop 1) = true then some (op, (split 32 l).drop 1) else none) := by
        unfold Hid
        rw [sentP, ho]
        simp only [hlen, true_and]
      have HF : Hid (formedGo (wantsOf op) ((split 32 l).drop 1) = formedGo ((wantsOf op).drop 0) ((split 32 l).drop (0 + 1))) := rfl
      clear hmin hlen
      go_enter Tryz.func163, Tryz.ntmps163
      go_wp2_with (first | (go_at_call 195; refine (KS _ E1).mono ?_; rintro e w1 ⟨g, cap, rfl, hc1, hc2, hg, hg1, hb, hc0, hcs, csg, fg, htag⟩; have r1 := (ResAt.new w).below hb; have hcap : ¬ cap = 1 := (by have := hc2.2 hl0; omega)) | (go_at_call 196; refine (KO _ (E1.on hb)).mono ?_; rintro e w2 ⟨rfl, hb2⟩; obtain ⟨rc0, rc1, rf0, rf1⟩ := (r1.below hb2).facts; have hsh := shape_cell ((E1.on hb).on hb2) op hop))
      have hB : Below w.heap.size w w2 := (hb1.trans (hb.mono (by omega))).trans (hb2.mono (by have := hb.size; omega))
      have r2 := r1.below hb2
      have E2 := (E1.on hb).on hb2
      have hcs2 : ∀ j, j < (split 32 l).length → w2.cell? ⟨g, j, none⟩ = some (.string (bs (word (split 32 l) j))) := fun j hj => (hb2.cell (p := ⟨g, j, none⟩) hg).trans (hcs hl4 j hj)
      have hg2 : g < w2.heap.size := Nat.lt_of_lt_of_le hg hb2.size
      have htag2 : w2.heap[g]? = some (.cells csg 9 fg) := (hb2.block g hg).trans htag
      clear KS KO hcs hc0 rc0 rc1 rf0 rf1 hsh
      go_loopw [36] (fun i wr => ∃ k : Nat, k ≤ (wantsOf op).length ∧ i = .int .i64 k ∧ Hid (formedGo (wantsOf op) ((split 32 l).drop 1) = formedGo ((wantsOf op).drop k) ((split 32 l).drop (k + 1))) ∧ Below w2.heap.size w2 wr) (fun i _ => (wantsOf op).length - (intOf i).toNat)
      case atStart => exact ⟨0, Nat.zero_le _, rfl, HF, Below.refl _ _⟩
      case round =>
        obtain ⟨k, hk, rfl, HI, hbr⟩ := hrel
        have rr := r2.below hbr
        obtain ⟨rc0, rc1, rf0, rf1⟩ := rr.facts
        have hBr : Below w.heap.size w wr := hB.trans (hbr.mono (by have := hB.size; omega))
        by_cases hlt : k < (wantsOf op).length
        · have hck : wr.cell? ⟨g, 1 + k, none⟩ = some (.string (bs (word (split 32 l) (k + 1)))) := by
            rw [hbr.cell (p := ⟨g, 1 + k, none⟩) hg2, Nat.add_comm 1 k]; exact hcs2 (k + 1) (by omega)
          have KF := isFormed_any (word (split 32 l) (k + 1)) ((wantsOf op)[k]) wr (hword _) (E2.on hbr)
          have HS : Hid (formedGo ((wantsOf op).drop k) ((split 32 l).drop (k + 1)) = (formedP (word (split 32 l) (k + 1)) (wantsOf op)[k] && formedGo ((wantsOf op).drop (k + 1)) ((split 32 l).drop (k + 2)))) := by
            unfold Hid
            rw [List.drop_eq_getElem_cons hlt, formedGo, List.drop_drop]
            simp [word]
          cases hf : formedP (word (split 32 l) (k + 1)) (wantsOf op)[k]
          · rw [hf] at KF
            have hn : sentP (split 32 l) = none := by
              rw [hx.out, if_neg]; rw [HI.out, HS.out, hf]; simp
            clear hf
            go_wp2_with (go_at_call 197; refine KF.mono ?_; rintro e w3 ⟨rfl, hb3⟩; obtain ⟨sc0, sc1, sf0, sf1⟩ := (rr.below hb3).facts)
            refine sent_ret rfl rfl (rr.below hb3) (hBr.trans (hb3.mono (by have := hBr.size; omega))) (fun w4 h4 _ _ => ⟨h4, by rw [hn]⟩)
          · rw [hf] at KF
            have hs' : Hid (formedGo ((wantsOf op).drop k) ((split 32 l).drop (k + 1)) = formedGo ((wantsOf op).drop (k + 1)) ((split 32 l).drop (k + 2))) := by
              unfold Hid; rw [HS.out, hf, Bool.true_and]
            clear hf
            go_wp2_with (go_at_call 197; refine KF.mono ?_; rintro e w3 ⟨rfl, hb3⟩)
            go_roundw
            case rel => exact ⟨k + 1, by omega, by go_num, by unfold Hid; rw [HI.out, hs'.out], hbr.trans (hb3.mono hbr.size)⟩
            case measure => simp [intOf]; omega
        · have hs' : sentP (split 32 l) = some (op, (split 32 l).drop 1) := by
            rw [hx.out, if_pos]; rw [HI.out, show k = (wantsOf op).length by omega, List.drop_length]; rfl
          go_wp2
          have hgne : g ≠ w.heap.size := by omega
          refine sent_ret rfl rfl rr hBr (fun w4 h4 hk4 hz4 => ⟨h4, ?_⟩)
          rw [hs']
          refine ⟨_, rfl, g, 1, cap - 1, ?_, ?_, ?_, fun j hj => ?_⟩
          · simp only [List.length_drop, hll, Nat.add_sub_cancel]
          · simp only [List.length_drop, hll, Nat.add_sub_cancel]; omega
          · exact ⟨csg, fg, by rw [hk4 g hgne, hbr.block g hg2]; exact htag2⟩
          · simp only [List.length_drop] at hj
            have : w4.cell? ⟨g, 1 + j, none⟩ = wr.cell? ⟨g, 1 + j, none⟩ := by
              simp only [World.cell?, hk4 g hgne]
            rw [this, hbr.cell (p := ⟨g, 1 + j, none⟩) hg2, hcs2 (1 + j) (by omega)]
            simp [word, Nat.add_comm 1 j]
    · have hx : sentP (split 32 l) = none := by
        rw [sentP, ho]
        simp only [hlen, false_and, if_false]
      have P : ∀ w', Below w.heap.size w w' → SentPost l w (.returned (.tuple #[.agg #[.int .i64 0, .slice none 0 0], .bool false])) w' := fun w' hb => ⟨hb, by rw [hx]⟩
      obtain ⟨n, hn⟩ : ∃ n, min 5 (split 32 l).length = n + 1 := ⟨min 5 (split 32 l).length - 1, by omega⟩
      have hne : ¬ n = (wantsOf op).length := by omega
      rw [hn] at KS
      have hnb : ((n : Int) == ((wantsOf op).length : Int)) = false := by rw [beq_eq_false_iff_ne]; omega
      clear hlen hx hn
      go_enter Tryz.func163, Tryz.ntmps163
      go_wp2_with (first | (go_at_call 195; refine (KS _ E1).mono ?_; rintro e w1 ⟨g, cap, rfl, hc1, hc2, hg, hg1, hb, hc0, hcs, csg, fg, htag⟩; have r1 := (ResAt.new w).below hb; have hcap : ¬ cap = 1 := (by have := hc2.2 hl0; omega)) | (go_at_call 196; refine (KO _ (E1.on hb)).mono ?_; rintro e w2 ⟨rfl, hb2⟩; obtain ⟨rc0, rc1, rf0, rf1⟩ := (r1.below hb2).facts; have hsh := shape_cell ((E1.on hb).on hb2) op hop))
      refine sent_ret rfl rfl (r1.below hb2) ((hb1.trans (hb.mono (by omega))).trans (hb2.mono ?_)) (fun w3 h3 _ _ => P w3 h3)
      have := hb.size
      omega
end Go.Proofs.YtmlgajhhnojdjaaGreatDoor.PrjJ
