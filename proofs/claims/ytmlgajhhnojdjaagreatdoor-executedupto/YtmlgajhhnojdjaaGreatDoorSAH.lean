/- A program of the document's own reader while it is being read: its rows are the call's own, and each kind of row has its own type of elements. -/
import Derived.Test.YtmlgajhhnojdjaaGreatDoorSAG
import Derived.Deep.AppendLies
import Derived.Test.YtmlgajhhnojdjaaGreatDoorSAA
import Derived.Test.YtmlgajhhnojdjaaGreatDoorSAC
import Derived.Deep.MidRow
namespace Go.Proofs.YtmlgajhhnojdjaaGreatDoor.Aux
open Go Go.RowKit Go.Proofs.YtmlgajhhnojdjaaGreatDoor.Spec

section
variable {w w' : World} {b1 b2 : Nat} {e1 e2 : TypeId} {s1 s2 : Nat} {v1 v2 : Value} {n1 n2 : Nat} {x1 x2 : List Value}

theorem own_ne (h1 : w.ownsRow b1 e1 s1 v1 n1 x1) (h2 : w.ownsRow b2 e2 s2 v2 n2 x2) (he : e1 ≠ e2) : v1.ownBlock = none ∨ v1.ownBlock ≠ v2.ownBlock := by
  obtain ⟨-, h1⟩ := h1
  obtain ⟨-, h2⟩ := h2
  rcases h1 with ⟨rfl, -⟩ | ⟨g, cap, cur, rfl, -, hg, -⟩
  · exact .inl rfl
  · refine .inr ?_
    rcases h2 with ⟨rfl, -⟩ | ⟨g', cap', cur', rfl, -, hg', -⟩
    · simp [Value.ownBlock]
    · simp only [Value.ownBlock, ne_eq, Option.some.injEq]
      intro e
      rw [e, hg'] at hg
      simp only [Option.some.injEq, Obj.cells.injEq] at hg
      exact he hg.2.1.symm
theorem own_at_ne (h1 : w.ownsRow b1 e1 s1 v1 n1 x1) {a : Nat} {cs : Array Value} {f : Nat × Nat} (ha : w.heap[a]? = some (.cells cs e2 f)) (he : e1 ≠ e2) : v1.ownBlock ≠ some a := by
  obtain ⟨-, h1⟩ := h1
  rcases h1 with ⟨rfl, -⟩ | ⟨g, cap, cur, rfl, -, hg, -⟩
  · simp [Value.ownBlock]
  · simp only [Value.ownBlock, ne_eq, Option.some.injEq]
    intro e
    rw [e, ha] at hg
    simp only [Option.some.injEq, Obj.cells.injEq] at hg
    exact he hg.2.1.symm
theorem own_heap (h : w.ownsRow b1 e1 s1 v1 n1 x1) (hw : ∀ g, v1.ownBlock = some g → w'.heap[g]? = w.heap[g]?) : w'.ownsRow b1 e1 s1 v1 n1 x1 := by
  obtain ⟨h0, h⟩ := h
  refine ⟨h0, ?_⟩
  rcases h with h | ⟨g, cap, cur, rfl, hb, hg, r⟩
  · exact .inl h
  · exact .inr ⟨g, cap, cur, rfl, hb, by rw [hw g rfl]; exact hg, r⟩
theorem own_below (h : w.ownsRow b1 e1 s1 v1 n1 x1) (hb : Below w.heap.size w w') : w'.ownsRow b1 e1 s1 v1 n1 x1 :=
  own_heap h fun g hg => hb.block g (h.lt g hg).2
theorem own_setCell (h : w.ownsRow b1 e1 s1 v1 n1 x1) {a : Addr} (u : Value) (hne : v1.ownBlock ≠ some a.block) : (w.setCell a u).ownsRow b1 e1 s1 v1 n1 x1 :=
  own_heap h fun g hg => Below.heap_setCell _ _ _ _ (fun e => hne (by rw [hg, e]))
theorem own_mono (h : w.ownsRow b1 e1 s1 v1 n1 x1) (hb : b2 ≤ b1) : w.ownsRow b2 e1 s1 v1 n1 x1 := by
  obtain ⟨h0, h⟩ := h
  refine ⟨h0, ?_⟩
  rcases h with h | ⟨g, cap, cur, rfl, hb', r⟩
  · exact .inl h
  · exact .inr ⟨g, cap, cur, rfl, by omega, r⟩
theorem own_lt (h : w.ownsRow b1 e1 s1 v1 n1 x1) : ∀ g, v1.ownBlock = some g → g < w.heap.size := fun g hg => (h.lt g hg).2
end

theorem heap_setCell_same {w : World} {a : Nat} {cs : Array Value} {e : TypeId} {f : Nat × Nat} (h : w.heap[a]? = some (.cells cs e f)) (o : Nat) (u : Value) : (w.setCell ⟨a, o, none⟩ u).heap[a]? = some (.cells (cs.setIfInBounds o u) e f) := by
  simp [World.setCell, Array.getElem?_modify, h]
theorem cell_of_heap {w : World} {a : Nat} {cs : Array Value} {e : TypeId} {f : Nat × Nat} (h : w.heap[a]? = some (.cells cs e f)) (o : Nat) : w.cell? ⟨a, o, none⟩ = cs[o]? := by
  simp [World.cell?, h]
theorem frozen_of_heap {w : World} {a : Nat} {cs : Array Value} {e : TypeId} (h : w.heap[a]? = some (.cells cs e (0, 0))) (o : Nat) : w.frozen? ⟨a, o, none⟩ = false := by
  simp [World.frozen?, h]

/-- numbers as a row's cells -/
def intCells (l : List Nat) : List Value := l.map fun (n : Nat) => .int .i64 (n : Int)

/-- a program while it is read: block a, its rows from block B on -/
structure RInv (z a : Nat) (w : World) (p : RP) (vl vt vb : Value) (us : List Value) : Prop where
  base : z ≤ a
  blk : w.heap[a]? = some (.cells #[vl, vt, vb, .bool p.raw] 128 (0, 0))
  lines : w.ownsRow z 34 1 vl p.lines.length us
  each : ∀ j, j < us.length → w.ownsRow z 9 1 (us.getD j undef) (p.line j).length (cellsOf (p.line j))
  lets : w.ownsRow z 3 1 vt p.lets.length (intCells p.lets)
  blocks : w.ownsRow z 3 1 vb p.blocks.length (intCells p.blocks)
  apart : vt.ownBlock = none ∨ vb.ownBlock = none ∨ vt.ownBlock ≠ vb.ownBlock

theorem RInv.usl {z a : Nat} {w : World} {p : RP} {vl vt vb : Value} {us : List Value} (h : RInv z a w p vl vt vb us) : us.length = p.lines.length := by
  have := h.lines.1; omega
theorem RInv.lt {z a : Nat} {w : World} {p : RP} {vl vt vb : Value} {us : List Value} (h : RInv z a w p vl vt vb us) : a < w.heap.size := by
  have := h.blk
  rw [Array.getElem?_eq_some_iff] at this
  exact this.1

/-- an owned row of words that is not empty, as a reader sees it -/
theorem strRow_of {w : World} {z : Nat} {v : Value} {L : List B} (h : w.ownsRow z 9 1 v L.length (cellsOf L)) (hL : 1 ≤ L.length) : StrRow w v L := by
  have hl := h.lt
  obtain ⟨h0, h⟩ := h
  rcases h with ⟨-, h⟩ | ⟨g, cap, cur, rfl, hb, hg, hc, hm, hs, ht⟩
  · omega
  · refine ⟨g, cap, rfl, hc, (hl g rfl).2, fun j hj => ?_⟩
    rw [cell_of_heap hg]
    have : (cur.toList.take (L.length * 1))[j]? = cur[j]? := by
      rw [List.getElem?_take, if_pos (by omega)]; simp
    rw [← this, ht, cellsOf, List.getElem?_map]
    simp [word, hj]
theorem intRow_of {w : World} {z : Nat} {v : Value} {L : List Nat} (h : w.ownsRow z 3 1 v L.length (intCells L)) : IntRow w v L := by
  have hl := h.lt
  obtain ⟨h0, h⟩ := h
  rcases h with ⟨h, h'⟩ | ⟨g, cap, cur, rfl, hb, hg, hc, hm, hs, ht⟩
  · exact .inl ⟨List.eq_nil_of_length_eq_zero h', h⟩
  · refine .inr ⟨g, cap, rfl, hc, (hl g rfl).2, fun j hj => ?_⟩
    rw [cell_of_heap hg]
    have : (cur.toList.take (L.length * 1))[j]? = cur[j]? := by
      rw [List.getElem?_take, if_pos (by omega)]; simp
    rw [← this, ht, intCells, List.getElem?_map]
    simp [hj]
theorem RInv.progAt {z a : Nat} {w : World} {p : RP} {vl vt vb : Value} {us : List Value} (h : RInv z a w p vl vt vb us) (hw : ∀ i, i < p.lines.length → 1 ≤ (p.line i).length) : ProgAt w a p := by
  have hu := h.usl
  refine ⟨h.lt, ⟨vl, by rw [cell_of_heap h.blk]; rfl, ?_⟩, ⟨vt, by rw [cell_of_heap h.blk]; rfl, intRow_of h.lets⟩, ⟨vb, by rw [cell_of_heap h.blk]; rfl, intRow_of h.blocks⟩, by rw [cell_of_heap h.blk]; rfl⟩
  have hl := h.lines.lt
  obtain ⟨h0, hh⟩ := h.lines
  rcases hh with ⟨hh, h'⟩ | ⟨g, cap, cur, rfl, hb, hg, hc, hm, hs, ht⟩
  · exact .inl ⟨List.eq_nil_of_length_eq_zero h', hh⟩
  · refine .inr ⟨g, cap, rfl, hc, (hl g rfl).2, fun j hj => ?_⟩
    rw [cell_of_heap hg]
    have : (cur.toList.take (p.lines.length * 1))[j]? = cur[j]? := by
      rw [List.getElem?_take, if_pos (by omega)]; simp
    rw [← this, ht]
    refine ⟨us.getD j undef, by simp [hu, hj], ?_⟩
    have he := h.each j (by omega)
    exact strRow_of he (hw j hj)
theorem RInv.below {z a : Nat} {w w' : World} {p : RP} {vl vt vb : Value} {us : List Value} (h : RInv z a w p vl vt vb us) (hb : Below w.heap.size w w') : RInv z a w' p vl vt vb us :=
  ⟨h.base, by rw [hb.block a h.lt]; exact h.blk, own_below h.lines hb, fun j hj => own_below (h.each j hj) hb, own_below h.lets hb, own_below h.blocks hb, h.apart⟩

/-- a line more -/
theorem RInv.addLine {z a : Nat} {w w2 w3 : World} {p : RP} {vl vt vb vl' u : Value} {us : List Value} {L : List B} {o : Obj} (h : RInv z a w p vl vt vb us)
    (hu : w.ownsRow z 9 1 u L.length (cellsOf L)) (h2 : w2 = w.alloc o) (h3 : w3.ownsRow z 34 1 vl' (p.lines.length + 1) (us ++ [u])) (hg : w2.grownBy w3 vl.ownBlock) :
    RInv z a (w3.setCell ⟨a, 0, none⟩ vl') { p with lines := p.lines ++ [L] } vl' vt vb (us ++ [u]) := by
  subst h2
  have hal : Below w.heap.size w (w.alloc o) := (Below.refl _ _).alloc (Nat.le_refl _) o
  have H := h.below hal
  have hua := own_below hu hal
  have hne : some a ≠ vl.ownBlock := (own_at_ne H.lines H.blk (by decide)).symm
  have hblk : w3.heap[a]? = some (.cells #[vl, vt, vb, .bool p.raw] 128 (0, 0)) := by rw [hg.block a H.lt hne]; exact H.blk
  have keep : ∀ {e : TypeId} {v : Value} {n : Nat} {xs : List Value}, (w.alloc o).ownsRow z e 1 v n xs → e ≠ 34 → e ≠ 128 → (w3.setCell ⟨a, 0, none⟩ vl').ownsRow z e 1 v n xs := by
    intro e v n xs hv he he'
    have hk := hv.kept hg (own_ne hv H.lines he)
    exact own_setCell hk _ (own_at_ne hk hblk he')
  have hlen := h.usl
  refine ⟨h.base, ?_, ?_, fun j hj => ?_, keep H.lets (by decide) (by decide), keep H.blocks (by decide) (by decide), h.apart⟩
  · rw [heap_setCell_same hblk]; rfl
  · have := own_setCell h3 (a := ⟨a, 0, none⟩) vl' (own_at_ne h3 hblk (by decide))
    simpa using this
  · simp at hj
    have hline : ∀ j, RP.line { p with lines := p.lines ++ [L] } j = if j < p.lines.length then p.line j else if j = p.lines.length then L else [] := by
      intro j
      simp only [RP.line, List.getD_eq_getElem?_getD, List.getElem?_append]
      split
      · rfl
      · split
        · rename_i h1 h2; subst h2; simp
        · rw [List.getElem?_eq_none (by simp; omega)]; rfl
    rw [hline]
    by_cases hlt : j < us.length
    · rw [if_pos (by omega)]
      have : (us ++ [u]).getD j undef = us.getD j undef := by simp [List.getD_eq_getElem?_getD, List.getElem?_append, hlt]
      rw [this]
      exact keep (H.each j hlt) (by decide) (by decide)
    · obtain rfl : j = us.length := by omega
      rw [if_neg (by omega), if_pos hlen]
      have : (us ++ [u]).getD us.length undef = u := by simp [List.getD_eq_getElem?_getD]
      rw [this]
      exact keep hua (by decide) (by decide)
end Go.Proofs.YtmlgajhhnojdjaaGreatDoor.Aux
/- One element appended to a row of the call's own, with the new slice written out; a local or a block more of a program that is read. -/
namespace Go.Proofs.YtmlgajhhnojdjaaGreatDoor.Aux
open Go Go.RowKit Go.Proofs.YtmlgajhhnojdjaaGreatDoor.Spec

section
variable {P : Program} {w : World} {ops : Array Oper} {rest : List Oper} {o : Oper} {a : Act} {Q : Exit → Act → World → Prop}
theorem append_lies (hgd : o.guard = none) (s x : Operand) (t : TypeId)
    (ho : o.op = .call { callee := .builtin .append, args := #[s, x], argTypes := #[t, t] })
    (base : Nat) (e : TypeId) (i : TypeInfo) (z : Value) (bytes : Nat) (ht : P.underlying t = some (.slice e)) (hi : P.info? e = some i) (hz : i.zero = some z)
    (hsize : i.size = 1) (hby : i.bytes = bytes) (hzs : z.cells.size = 1)
    (v : Value) (n : Nat) (xs : List Value) (hs : a.eval s = v) (hown : w.ownsRow base e 1 v n xs)
    (u : Value) (hx : a.eval x = .slice (some ⟨w.heap.size, 0, none⟩) 1 1) (h1 : u.oneCell' = true)
    (hb1 : 1 ≤ bytes) (hbytes : (n + 1) * bytes ≤ 140737488355328) (hbase : base ≤ w.heap.size)
    (h : ∀ g cap w', w'.ownsRow base e 1 (.slice (some ⟨g, 0, none⟩) (n + 1) cap) (n + 1) (xs ++ [u]) → (w.alloc (.cells #[u] e)).grownBy w' v.ownBlock → (v.ownBlock = some g ∨ g = w.heap.size + 1) → g < w'.heap.size → wpList P ops Q rest (a.put o.dst (.slice (some ⟨g, 0, none⟩) (n + 1) cap)) w') : wpList P ops Q (o :: rest) a (w.alloc (.cells #[u] e)) := by
  refine wpList_append_lies _ hgd s x t ho base e i z 1 bytes ht hi hz hsize hby hzs (by decide) v n xs hs (hown.alloc _) ⟨w.heap.size, 0, none⟩ 1 1 [u] hx rfl ?_ ?_ (by decide) ?_ hbytes ?_ (w.heap.size + 1) (by simp) h
  · intro j u' hj
    match j, hj with
    | 0, hj => simp at hj; subst hj; simp [Addr.add]
  · intro u' hu; simp at hu; subst hu; exact h1
  · have : n + 1 ≤ (n + 1) * bytes := Nat.le_mul_of_pos_right _ hb1
    unfold maxLen; omega
  · simp; omega
theorem step_lies {K : Act → World → Prop} {E : Prop} (hgd : o.guard = none) (s x : Operand) (t : TypeId)
    (ho : o.op = .call { callee := .builtin .append, args := #[s, x], argTypes := #[t, t] })
    (base : Nat) (e : TypeId) (i : TypeInfo) (z : Value) (bytes : Nat) (ht : P.underlying t = some (.slice e)) (hi : P.info? e = some i) (hz : i.zero = some z)
    (hsize : i.size = 1) (hby : i.bytes = bytes) (hzs : z.cells.size = 1)
    (v : Value) (n : Nat) (xs : List Value) (hs : a.eval s = v) (hown : w.ownsRow base e 1 v n xs)
    (u : Value) (hx : a.eval x = .slice (some ⟨w.heap.size, 0, none⟩) 1 1) (h1 : u.oneCell' = true)
    (hb1 : 1 ≤ bytes) (hbytes : (n + 1) * bytes ≤ 140737488355328) (hbase : base ≤ w.heap.size)
    (h : ∀ g cap w', w'.ownsRow base e 1 (.slice (some ⟨g, 0, none⟩) (n + 1) cap) (n + 1) (xs ++ [u]) → (w.alloc (.cells #[u] e)).grownBy w' v.ownBlock → (v.ownBlock = some g ∨ g = w.heap.size + 1) → g < w'.heap.size → K (a.put o.dst (.slice (some ⟨g, 0, none⟩) (n + 1) cap)) w') :
    if Region.wanted o (yielded ops a.tmps) = true then Oper.wp P o a (w.alloc (.cells #[u] e)) K Q else E := by
  refine step_append_lies _ hgd s x t ho base e i z 1 bytes ht hi hz hsize hby hzs (by decide) v n xs hs (hown.alloc _) ⟨w.heap.size, 0, none⟩ 1 1 [u] hx rfl ?_ ?_ (by decide) ?_ hbytes ?_ (w.heap.size + 1) (by simp) h
  · intro j u' hj
    match j, hj with
    | 0, hj => simp at hj; subst hj; simp [Addr.add]
  · intro u' hu; simp at hu; subst hu; exact h1
  · have : n + 1 ≤ (n + 1) * bytes := Nat.le_mul_of_pos_right _ hb1
    unfold maxLen; omega
  · simp; omega
end

section
variable {z a : Nat} {w w3 : World} {p : RP} {vl vt vb v' : Value} {us : List Value} {o : Obj}
/-- a local more -/
theorem RInv.addLet (h : RInv z a w p vl vt vb us) (k : Nat) (h3 : w3.ownsRow z 3 1 v' (p.lets.length + 1) (intCells p.lets ++ [.int .i64 (k : Int)])) (hg : (w.alloc o).grownBy w3 vt.ownBlock)
    (hat : ∀ g, v'.ownBlock = some g → vt.ownBlock = some g ∨ g = w.heap.size + 1) :
    RInv z a (w3.setCell ⟨a, 1, none⟩ v') { p with lets := p.lets ++ [k] } vl v' vb us := by
  have hal : Below w.heap.size w (w.alloc o) := (Below.refl _ _).alloc (Nat.le_refl _) o
  have H := h.below hal
  have hne : some a ≠ vt.ownBlock := (own_at_ne H.lets H.blk (by decide)).symm
  have hblk : w3.heap[a]? = some (.cells #[vl, vt, vb, .bool p.raw] 128 (0, 0)) := by rw [hg.block a H.lt hne]; exact H.blk
  have keep : ∀ {e : TypeId} {v : Value} {n : Nat} {xs : List Value}, (w.alloc o).ownsRow z e 1 v n xs → (v.ownBlock = none ∨ v.ownBlock ≠ vt.ownBlock) → e ≠ 128 → (w3.setCell ⟨a, 1, none⟩ v').ownsRow z e 1 v n xs := by
    intro e v n xs hv hn he'
    have hk := hv.kept hg hn
    exact own_setCell hk _ (own_at_ne hk hblk he')
  refine ⟨h.base, ?_, keep H.lines (own_ne H.lines H.lets (by decide)) (by decide), fun j hj => keep (H.each j hj) (own_ne (H.each j hj) H.lets (by decide)) (by decide), ?_, keep H.blocks ?_ (by decide), ?_⟩
  · rw [heap_setCell_same hblk]; rfl
  · have := own_setCell h3 (a := ⟨a, 1, none⟩) v' (own_at_ne h3 hblk (by decide))
    simpa [intCells] using this
  · rcases h.apart with hx | hx | hx
    · cases hb : vb.ownBlock with
      | none => exact .inl rfl
      | some g => exact .inr (by rw [hx]; simp)
    · exact .inl hx
    · exact .inr (Ne.symm hx)
  · cases hv' : v'.ownBlock with
    | none => exact .inl rfl
    | some g =>
      cases hb : vb.ownBlock with
      | none => exact .inr (.inl rfl)
      | some g' =>
        refine .inr (.inr ?_)
        rcases hat g hv' with hx | hx
        · rcases h.apart with hy | hy | hy
          · rw [hx] at hy; cases hy
          · rw [hb] at hy; cases hy
          · rw [hx, hb] at hy; exact hy
        · have := own_lt h.blocks g' hb
          simp; omega
/-- a block more -/
theorem RInv.addBlock (h : RInv z a w p vl vt vb us) (k : Nat) (h3 : w3.ownsRow z 3 1 v' (p.blocks.length + 1) (intCells p.blocks ++ [.int .i64 (k : Int)])) (hg : (w.alloc o).grownBy w3 vb.ownBlock)
    (hat : ∀ g, v'.ownBlock = some g → vb.ownBlock = some g ∨ g = w.heap.size + 1) :
    RInv z a (w3.setCell ⟨a, 2, none⟩ v') { p with blocks := p.blocks ++ [k] } vl vt v' us := by
  have hal : Below w.heap.size w (w.alloc o) := (Below.refl _ _).alloc (Nat.le_refl _) o
  have H := h.below hal
  have hne : some a ≠ vb.ownBlock := (own_at_ne H.blocks H.blk (by decide)).symm
  have hblk : w3.heap[a]? = some (.cells #[vl, vt, vb, .bool p.raw] 128 (0, 0)) := by rw [hg.block a H.lt hne]; exact H.blk
  have keep : ∀ {e : TypeId} {v : Value} {n : Nat} {xs : List Value}, (w.alloc o).ownsRow z e 1 v n xs → (v.ownBlock = none ∨ v.ownBlock ≠ vb.ownBlock) → e ≠ 128 → (w3.setCell ⟨a, 2, none⟩ v').ownsRow z e 1 v n xs := by
    intro e v n xs hv hn he'
    have hk := hv.kept hg hn
    exact own_setCell hk _ (own_at_ne hk hblk he')
  refine ⟨h.base, ?_, keep H.lines (own_ne H.lines H.blocks (by decide)) (by decide), fun j hj => keep (H.each j hj) (own_ne (H.each j hj) H.blocks (by decide)) (by decide), keep H.lets ?_ (by decide), ?_, ?_⟩
  · rw [heap_setCell_same hblk]; rfl
  · rcases h.apart with hx | hx | hx
    · exact .inl hx
    · cases hb : vt.ownBlock with
      | none => exact .inl rfl
      | some g => exact .inr (by rw [hx]; simp)
    · exact .inr hx
  · have := own_setCell h3 (a := ⟨a, 2, none⟩) v' (own_at_ne h3 hblk (by decide))
    simpa [intCells] using this
  · cases hb : vt.ownBlock with
    | none => exact .inl rfl
    | some g' =>
      cases hv' : v'.ownBlock with
      | none => exact .inr (.inl rfl)
      | some g =>
        refine .inr (.inr ?_)
        rcases hat g hv' with hx | hx
        · rcases h.apart with hy | hy | hy
          · rw [hb] at hy; cases hy
          · rw [hx] at hy; cases hy
          · rw [hx, hb] at hy; exact hy
        · have := own_lt h.lets g' hb
          simp; omega
end
end Go.Proofs.YtmlgajhhnojdjaaGreatDoor.Aux
/- What lies in memory while the document's own reader reads a text, and what each step of its loop makes of it. -/
namespace Go.Proofs.YtmlgajhhnojdjaaGreatDoor.Aux
open Go Go.RowKit Go.Proofs.YtmlgajhhnojdjaaGreatDoor.Spec

/-- memory at one moment of the loop: the program so far, old memory as it was, the row of the text's lines -/
structure Held (L : List B) (w : World) (a : Nat) (v0 : Value) (wr : World) (p : RP) : Prop where
  inv : ∃ vl vt vb us, RInv w.heap.size a wr p vl vt vb us
  old : Below w.heap.size w wr
  row : wr.ownsRow w.heap.size 9 1 v0 L.length (cellsOf L)

theorem below_drew {B : Nat} {w w' : World} (h : Below B w.drew w') : Below B w w' := ⟨h.os, h.tape, h.output, h.size, h.block⟩
theorem below_alloc (w : World) (o : Obj) : Below w.heap.size w (w.alloc o) := (Below.refl _ _).alloc (Nat.le_refl _) o

section
variable {L : List B} {w : World} {a : Nat} {v0 : Value} {wr : World} {p : RP}
theorem Held.below {w' : World} (h : Held L w a v0 wr p) (hb : Below wr.heap.size wr w') : Held L w a v0 w' p := by
  obtain ⟨⟨vl, vt, vb, us, hi⟩, ho, hr⟩ := h
  exact ⟨⟨vl, vt, vb, us, hi.below hb⟩, ho.trans (hb.mono ho.size), own_below hr hb⟩
theorem Held.drewN (h : Held L w a v0 wr p) (n : Nat) : Held L w a v0 (wr.drewN n) p := h.below (below_drewN (Below.refl _ _) n)
theorem Held.base (h : Held L w a v0 wr p) : w.heap.size ≤ a := by obtain ⟨⟨vl, vt, vb, us, hi⟩, -, -⟩ := h; exact hi.base
theorem Held.progAt (h : Held L w a v0 wr p) (hok : p.Ok) : ProgAt wr a p := by obtain ⟨⟨vl, vt, vb, us, hi⟩, -, -⟩ := h; exact hi.progAt hok.words

theorem Held.line {w1 w2 : World} {vl vt vb u v2 : Value} {us : List Value} {ws : List B} {o : Obj} (h : Held L w a v0 wr p) (hinv : RInv w.heap.size a wr p vl vt vb us) (hb1 : Below wr.heap.size wr w1)
    (ho1 : w1.ownsRow wr.heap.size 9 1 u ws.length (cellsOf ws)) (hown2 : w2.ownsRow w.heap.size 34 1 v2 (p.lines.length + 1) (us ++ [u])) (hgrow2 : (w1.alloc o).grownBy w2 vl.ownBlock) :
    Held L w a v0 (w2.setCell ⟨a, 0, none⟩ v2) (p.addLine ws) := by
  have h1 := h.below hb1
  have hi1 := hinv.below hb1
  have ha := h.base
  refine ⟨⟨v2, vt, vb, us ++ [u], RInv.addLine hi1 (own_mono ho1 h.old.size) rfl hown2 hgrow2⟩, ?_, ?_⟩
  · refine ((h1.old.alloc h1.old.size o).grown hgrow2 (by have := h1.old.size; simp; omega) fun k hk => (hi1.lines.lt k hk).1).setCell ha v2
  · have hal := below_alloc w1 o
    have hra := own_below h1.row hal
    have hk := hra.kept hgrow2 (own_ne hra (hi1.below hal).lines (by decide))
    have hblk : w2.heap[a]? = some (.cells #[vl, vt, vb, .bool p.raw] 128 (0, 0)) := by
      rw [hgrow2.block a (hi1.below hal).lt (own_at_ne (hi1.below hal).lines (hi1.below hal).blk (by decide)).symm]; exact (hi1.below hal).blk
    exact own_setCell hk _ (own_at_ne hk hblk (by decide))
theorem Held.addLet {w2 : World} {vl vt vb v2 : Value} {us : List Value} {o : Obj} {k : Nat} (h : Held L w a v0 wr p) (hinv : RInv w.heap.size a wr p vl vt vb us)
    (hown2 : w2.ownsRow w.heap.size 3 1 v2 (p.lets.length + 1) (intCells p.lets ++ [.int .i64 (k : Int)])) (hgrow2 : (wr.alloc o).grownBy w2 vt.ownBlock)
    (hat : ∀ g, v2.ownBlock = some g → vt.ownBlock = some g ∨ g = wr.heap.size + 1) : Held L w a v0 (w2.setCell ⟨a, 1, none⟩ v2) (p.addLet k) := by
  have ha := h.base
  refine ⟨⟨vl, v2, vb, us, RInv.addLet hinv k hown2 hgrow2 hat⟩, ?_, ?_⟩
  · refine ((h.old.alloc h.old.size o).grown hgrow2 (by have := h.old.size; simp; omega) fun k hk => (hinv.lets.lt k hk).1).setCell ha v2
  · have hal := below_alloc wr o
    have hra := own_below h.row hal
    have hk := hra.kept hgrow2 (own_ne hra (hinv.below hal).lets (by decide))
    have hblk : w2.heap[a]? = some (.cells #[vl, vt, vb, .bool p.raw] 128 (0, 0)) := by
      rw [hgrow2.block a (hinv.below hal).lt (own_at_ne (hinv.below hal).lets (hinv.below hal).blk (by decide)).symm]; exact (hinv.below hal).blk
    exact own_setCell hk _ (own_at_ne hk hblk (by decide))
theorem Held.addBlock {w2 : World} {vl vt vb v2 : Value} {us : List Value} {o : Obj} {k : Nat} (h : Held L w a v0 wr p) (hinv : RInv w.heap.size a wr p vl vt vb us)
    (hown2 : w2.ownsRow w.heap.size 3 1 v2 (p.blocks.length + 1) (intCells p.blocks ++ [.int .i64 (k : Int)])) (hgrow2 : (wr.alloc o).grownBy w2 vb.ownBlock)
    (hat : ∀ g, v2.ownBlock = some g → vb.ownBlock = some g ∨ g = wr.heap.size + 1) : Held L w a v0 (w2.setCell ⟨a, 2, none⟩ v2) (p.addBlock k) := by
  have ha := h.base
  refine ⟨⟨vl, vt, v2, us, RInv.addBlock hinv k hown2 hgrow2 hat⟩, ?_, ?_⟩
  · refine ((h.old.alloc h.old.size o).grown hgrow2 (by have := h.old.size; simp; omega) fun k hk => (hinv.blocks.lt k hk).1).setCell ha v2
  · have hal := below_alloc wr o
    have hra := own_below h.row hal
    have hk := hra.kept hgrow2 (own_ne hra (hinv.below hal).blocks (by decide))
    have hblk : w2.heap[a]? = some (.cells #[vl, vt, vb, .bool p.raw] 128 (0, 0)) := by
      rw [hgrow2.block a (hinv.below hal).lt (own_at_ne (hinv.below hal).blocks (hinv.below hal).blk (by decide)).symm]; exact (hinv.below hal).blk
    exact own_setCell hk _ (own_at_ne hk hblk (by decide))
end
end Go.Proofs.YtmlgajhhnojdjaaGreatDoor.Aux
/- Plain definitions: the ways in which a place may be, as letters. -/
namespace Go.Proofs.YtmlgajhhnojdjaaGreatDoor.Spec
open Go

theorem append_toList (a b : ByteArray) : (a ++ b).toList = a.toList ++ b.toList := by
  simp only [ByteArray.toList_eq]
  simp
/-- are all letters among some? -/
def has (s : B) (c : UInt8) : Bool := s.contains c
/-- how a place is, when it was taken out or dropped -/
def left (w : B) : B := if partOf w = 115 then [104] else [45]
/-- of a place: the first spot, and how many -/
def RP.spots (p : RP) (w : B) : Nat × Nat :=
  if partOf w = 98 then (2 * (p.find (localOf w)).toNat + 1, 1)
  else if p.typeOf w = wPair then (2 * (p.find (localOf w)).toNat, 2) else (2 * (p.find (localOf w)).toNat, 1)
end Go.Proofs.YtmlgajhhnojdjaaGreatDoor.Spec
/- Plain definitions: all ways in which every spot may be, at one line; what a line makes of them. -/
namespace Go.Proofs.YtmlgajhhnojdjaaGreatDoor.Spec
open Go

structure WS where
  known : Bool
  spots : List B
def WS.at (s : WS) (k : Nat) : B := s.spots.getD k []
def WS.cells (s : WS) : List Value := .bool s.known :: s.spots.map fun b => .string (bs b)
def WS.val (s : WS) : Value := .agg s.cells.toArray
/-- what a place has is there for sure -/
def RP.some (p : RP) (w : B) : B := if p.typeOf w = wOpt then [110, 119] else [119]
theorem RP.spots_bound {p : RP} {w : B} {j : Nat} (hj : p.find (localOf w) = (j : Int)) : (p.spots w).1 + (p.spots w).2 ≤ 2 * j + 2 ∧ 1 ≤ (p.spots w).2 := by
  unfold RP.spots
  rw [hj]
  split
  · simp
  · split <;> simp
end Go.Proofs.YtmlgajhhnojdjaaGreatDoor.Spec
/- Ways in a block of their own: read whole, written whole, one spot written; a result that lies in memory. -/
namespace Go.Proofs.YtmlgajhhnojdjaaGreatDoor.Aux
open Go Go.RowKit Go.Proofs.YtmlgajhhnojdjaaGreatDoor.Spec

theorem heap_setCells_other (b : Nat) : ∀ (vs : List Value) (o : Nat) (w : World) (k : Nat), k ≠ b → (w.setCells b o vs).heap[k]? = w.heap[k]?
  | [], _, _, _, _ => rfl
  | v :: r, o, w, k, h => by
    rw [World.setCells, heap_setCells_other b r (o + 1) _ k h, Below.heap_setCell _ _ _ _ h]
theorem heap_setCells (b : Nat) : ∀ (vs : List Value) (o : Nat) (w : World) (cs : Array Value) (e : TypeId) (f : Nat × Nat), w.heap[b]? = some (.cells cs e f) →
    ∃ cs', (w.setCells b o vs).heap[b]? = some (.cells cs' e f) ∧ cs'.size = cs.size ∧ ∀ j, cs'[j]? = if o ≤ j ∧ j < o + vs.length ∧ j < cs.size then vs[j - o]? else cs[j]?
  | [], o, w, cs, e, f, h => ⟨cs, h, rfl, fun j => by rw [if_neg (by simp; omega)]⟩
  | v :: r, o, w, cs, e, f, h => by
    obtain ⟨cs', h1, h2, h3⟩ := heap_setCells b r (o + 1) (w.setCell ⟨b, o, none⟩ v) (cs.setIfInBounds o v) e f (heap_setCell_same h o v)
    refine ⟨cs', by rw [World.setCells]; exact h1, by rw [h2]; simp, fun j => ?_⟩
    rw [h3, Array.getElem?_setIfInBounds]
    by_cases hj : j = o
    · subst hj
      rw [if_neg (by omega), if_pos rfl]
      by_cases hs : j < cs.size
      · rw [if_pos hs, if_pos (by simp; omega)]; simp
      · rw [if_neg hs, if_neg (by omega)]; simp; omega
    · by_cases hc : o + 1 ≤ j ∧ j < o + 1 + r.length ∧ j < cs.size
      · rw [if_pos (by simpa using hc), if_pos (by simp; omega)]
        rw [show j - o = (j - (o + 1)) + 1 by omega, List.getElem?_cons_succ]
      · rw [if_neg (by simpa using hc), if_neg (by omega), if_neg (by simp; omega)]

section
variable {w w' : World} {b : Nat} {s t : WS}
theorem below_setCells {B : Nat} {w0 : World} (h : Below B w0 w) (hB : B ≤ b) (o : Nat) (vs : List Value) : Below B w0 (w.setCells b o vs) := by
  have hos : ∀ (vs : List Value) (o : Nat) (w : World), (w.setCells b o vs).os = w.os ∧ (w.setCells b o vs).tape = w.tape ∧ (w.setCells b o vs).output = w.output ∧ (w.setCells b o vs).heap.size = w.heap.size := by
    intro vs
    induction vs with
    | nil => intro o w; exact ⟨rfl, rfl, rfl, rfl⟩
    | cons v r ih => intro o w; rw [World.setCells]; have := ih (o + 1) (w.setCell ⟨b, o, none⟩ v); simpa [World.setCell] using this
  obtain ⟨h1, h2, h3, h4⟩ := hos vs o w
  exact h.trans ⟨h1, h2, h3, by omega, fun k hk => heap_setCells_other b vs o w k (by omega)⟩
end
def WS.set (s : WS) (k : Nat) (c : B) : WS := { s with spots := s.spots.set k c }
/-- a result that lies in memory -/
theorem results_cell {fn : Func} {p : Tmp} {ty : TypeId} (h : fn.results = #[.cell p ty]) (tmps : Array Value) (P : Program) (w : World) (b : Nat) (cs : List Value) (d : TypeDesc) (hp : tmps.getD p undef = .pointer (some ⟨b, 0, none⟩))
    (hc : w.rangeAt b 0 cs) (hu : P.underlying ty = some d) (hd : d.isRow = true) (hi : (P.info? ty).map (·.size) = some cs.length) : (results fn tmps).run P w = .ok (.agg cs.toArray) w := by
  have := run_loadVar_mid (P := P) w b 0 ty cs d hc hu hd hi
  rw [Array.getD_eq_getD_getElem?] at hp
  unfold results
  simp [h, hp, asAddr, this]
theorem results_cell_bool {fn : Func} {p u : Tmp} {ty : TypeId} (h : fn.results = #[.cell p ty, .tmp u]) (tmps : Array Value) (P : Program) (w : World) (b : Nat) (cs : List Value) (d : TypeDesc) (hp : tmps.getD p undef = .pointer (some ⟨b, 0, none⟩))
    (hc : w.rangeAt b 0 cs) (hu : P.underlying ty = some d) (hd : d.isRow = true) (hi : (P.info? ty).map (·.size) = some cs.length) : (results fn tmps).run P w = .ok (.tuple #[.agg cs.toArray, tmps.getD u undef]) w := by
  have := run_loadVar_mid (P := P) w b 0 ty cs d hc hu hd hi
  rw [Array.getD_eq_getD_getElem?] at hp
  unfold results
  simp [h, hp, asAddr, this]
end Go.Proofs.YtmlgajhhnojdjaaGreatDoor.Aux
