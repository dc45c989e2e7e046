/- How a program of the project's reader lies in memory, while it is made and behind it. -/
import Derived.Test.YtmlgajhhnojdjaaGreatDoorAAJ
import Derived.Test.YtmlgajhhnojdjaaGreatDoorAAA
import Derived.Deep.RegionHeld3
import Derived.Deep.RegionLaw
import Derived.BigRegion
import Derived.Lib.ItoaLen
namespace Go.Proofs.YtmlgajhhnojdjaaGreatDoor.PrjM
open Go Go.RowKit Go.Proofs.YtmlgajhhnojdjaaGreatDoor.Spec Go.Proofs.YtmlgajhhnojdjaaGreatDoor.Aux Go.Proofs.YtmlgajhhnojdjaaGreatDoor.PrjF Go.Proofs.YtmlgajhhnojdjaaGreatDoor.PrjG Go.Proofs.YtmlgajhhnojdjaaGreatDoor.PrjH Go.Proofs.YtmlgajhhnojdjaaGreatDoor.PrjI Go.Proofs.YtmlgajhhnojdjaaGreatDoor.PrjJ Go.Proofs.YtmlgajhhnojdjaaGreatDoor.PrjK Go.Proofs.YtmlgajhhnojdjaaGreatDoor.PrjL

def locCell (x : B × Nat) : List Value := [.string (bs x.1), .int .i64 (x.2 : Nat)]
def locCells (ls : List (B × Nat)) : List Value := ls.flatMap locCell
def plCell (x : Nat × Nat) : List Value := [.int .i64 (x.1 : Nat), .int .i64 (x.2 : Nat)]
def plCells (ls : List (Nat × Nat)) : List Value := ls.flatMap plCell
def lineCell (x : QLine × Value × Value) : List Value := [.int .i64 (x.1.num : Nat), .int .i64 (x.1.op : Nat), x.2.1, .int .i64 x.1.number, .int .i64 x.1.flag, x.2.2]
def lineCells (ls : List QLine) (vs : List (Value × Value)) : List Value := (ls.zip vs).flatMap lineCell
def QLine.nil : QLine := ⟨0, 0, [], 0, 0, []⟩
/-- a line's places and ways on -/
structure LineAt (z : Nat) (w : World) (l : QLine) (vp vn : Value) : Prop where
  places : w.ownsRow z 119 2 vp l.places.length (plCells l.places)
  next : w.ownsRow z 3 1 vn l.next.length (intCells l.next)
structure BlockAt (z : Nat) (w : World) (v : Value) (ls : List QLine) (vs : List (Value × Value)) : Prop where
  len : vs.length = ls.length
  row : w.ownsRow z 115 6 v ls.length (lineCells ls vs)
  each : ∀ j, j < ls.length → LineAt z w (ls.getD j QLine.nil) (vs.getD j (undef, undef)).1 (vs.getD j (undef, undef)).2
structure PAt (z a : Nat) (w : World) (q : QP) (vl vb : Value) (us : List Value) (vss : List (List (Value × Value))) : Prop where
  base : z ≤ a
  blk : w.heap[a]? = some (.cells #[vl, vb] 110 (0, 0))
  locals : w.ownsRow z 146 2 vl q.locals.length (locCells q.locals)
  blocks : w.ownsRow z 106 1 vb q.blocks.length us
  each : ∀ j, j < q.blocks.length → BlockAt z w (us.getD j undef) (q.blocks.getD j []) (vss.getD j [])
  apart : ∀ i j, i < j → j < q.blocks.length → (us.getD i undef).ownBlock = none ∨ (us.getD i undef).ownBlock ≠ (us.getD j undef).ownBlock
section
variable {z a : Nat} {w w' w2 w3 : World} {q : QP} {vl vb v' : Value} {us : List Value} {vss : List (List (Value × Value))}
theorem PAt.usl (h : PAt z a w q vl vb us vss) : us.length = q.blocks.length := by have := h.blocks.1; omega
theorem PAt.lt (h : PAt z a w q vl vb us vss) : a < w.heap.size := lt_of_heap h.blk
theorem LineAt.keep {l : QLine} {vp vn : Value} (h : LineAt z w l vp vn) (k : ∀ {e : TypeId} {s : Nat} {v : Value} {n : Nat} {xs : List Value}, e = 119 ∨ e = 3 → w.ownsRow z e s v n xs → w'.ownsRow z e s v n xs) : LineAt z w' l vp vn :=
  ⟨k (.inl rfl) h.places, k (.inr rfl) h.next⟩
theorem BlockAt.keep {v : Value} {ls : List QLine} {vs : List (Value × Value)} (h : BlockAt z w v ls vs) (hr : w'.ownsRow z 115 6 v ls.length (lineCells ls vs))
    (k : ∀ {e : TypeId} {s : Nat} {v : Value} {n : Nat} {xs : List Value}, e = 119 ∨ e = 3 → w.ownsRow z e s v n xs → w'.ownsRow z e s v n xs) : BlockAt z w' v ls vs :=
  ⟨h.len, hr, fun j hj => (h.each j hj).keep k⟩
theorem LineAt.below {l : QLine} {vp vn : Value} (h : LineAt z w l vp vn) (hb : Below w.heap.size w w') : LineAt z w' l vp vn := h.keep fun _ h => own_below h hb
theorem BlockAt.below {v : Value} {ls : List QLine} {vs : List (Value × Value)} (h : BlockAt z w v ls vs) (hb : Below w.heap.size w w') : BlockAt z w' v ls vs := h.keep (own_below h.row hb) fun _ h => own_below h hb
theorem PAt.below (h : PAt z a w q vl vb us vss) (hb : Below w.heap.size w w') : PAt z a w' q vl vb us vss :=
  ⟨h.base, by rw [hb.block a h.lt]; exact h.blk, own_below h.locals hb, own_below h.blocks hb, fun j hj => (h.each j hj).below hb, h.apart⟩
theorem PAt.start (z : Nat) (w : World) (hz : z ≤ w.heap.size) : PAt z w.heap.size (w.alloc (.cells #[.slice none 0 0, .slice none 0 0] 110)) QP.empty (.slice none 0 0) (.slice none 0 0) [] [] :=
  ⟨hz, by show (w.heap.push _)[w.heap.size]? = _; simp, World.ownsRow_nil _ _ _ _, World.ownsRow_nil _ _ _ _, fun j hj => by simp [QP.empty] at hj, fun i j _ hj => by simp [QP.empty] at hj⟩

/-- a local more -/
theorem PAt.addLocal (h : PAt z a w q vl vb us vss) (x : B × Nat) (h2 : Below w.heap.size w w2)
    (h3 : w3.ownsRow z 146 2 v' (q.locals.length + 1) (locCells q.locals ++ locCell x)) (hg : w2.grownBy w3 vl.ownBlock) :
    PAt z a (w3.setCell ⟨a, 0, none⟩ v') (q.addLocal x) v' vb us vss := by
  have H := h.below h2
  have hne : some a ≠ vl.ownBlock := own_type_ne H.locals H.blk (by decide)
  have hblk : w3.heap[a]? = some (.cells #[vl, vb] 110 (0, 0)) := by rw [hg.block a H.lt hne]; exact H.blk
  have keep : ∀ {e : TypeId} {s : Nat} {v : Value} {n : Nat} {xs : List Value}, w2.ownsRow z e s v n xs → e ≠ 146 → e ≠ 110 → (w3.setCell ⟨a, 0, none⟩ v').ownsRow z e s v n xs := by
    intro e s v n xs hv he he'
    have hk := hv.kept hg (own_ne hv H.locals he)
    exact own_setCell hk _ (own_at_ne hk hblk he')
  refine ⟨h.base, ?_, ?_, keep H.blocks (by decide) (by decide), fun j hj => (H.each j hj).keep (keep (H.each j hj).row (by decide) (by decide)) (fun he hv => keep hv ?_ ?_), h.apart⟩
  · rw [Go.Proofs.YtmlgajhhnojdjaaGreatDoor.Aux.heap_setCell_same hblk]; rfl
  · have := own_setCell h3 (a := ⟨a, 0, none⟩) v' (own_at_ne h3 hblk (by decide))
    simpa [QP.addLocal, locCells] using this
  · rcases he with rfl | rfl <;> decide
  · rcases he with rfl | rfl <;> decide
/-- a block more -/
theorem PAt.addBlock (h : PAt z a w q vl vb us vss) (hl : vss.length = q.blocks.length) (h2 : Below w.heap.size w w2)
    (h3 : w3.ownsRow z 106 1 v' (q.blocks.length + 1) (us ++ [.slice none 0 0])) (hg : w2.grownBy w3 vb.ownBlock) :
    PAt z a (w3.setCell ⟨a, 1, none⟩ v') q.addBlock vl v' (us ++ [.slice none 0 0]) (vss ++ [[]]) := by
  have H := h.below h2
  have hu := h.usl
  have hne : some a ≠ vb.ownBlock := own_type_ne H.blocks H.blk (by decide)
  have hblk : w3.heap[a]? = some (.cells #[vl, vb] 110 (0, 0)) := by rw [hg.block a H.lt hne]; exact H.blk
  have keep : ∀ {e : TypeId} {s : Nat} {v : Value} {n : Nat} {xs : List Value}, w2.ownsRow z e s v n xs → e ≠ 106 → e ≠ 110 → (w3.setCell ⟨a, 1, none⟩ v').ownsRow z e s v n xs := by
    intro e s v n xs hv he he'
    have hk := hv.kept hg (own_ne hv H.blocks he)
    exact own_setCell hk _ (own_at_ne hk hblk he')
  have eu : ∀ j, j < q.blocks.length → (us ++ [Value.slice none 0 0]).getD j undef = us.getD j undef := fun j hj => by simp [List.getD_eq_getElem?_getD, List.getElem?_append, hu, hj]
  have el : (us ++ [Value.slice none 0 0]).getD q.blocks.length undef = .slice none 0 0 := by simp [List.getD_eq_getElem?_getD, ← hu]
  refine ⟨h.base, ?_, keep H.locals (by decide) (by decide), ?_, fun j hj => ?_, fun i j hij hj => ?_⟩
  · rw [Go.Proofs.YtmlgajhhnojdjaaGreatDoor.Aux.heap_setCell_same hblk]; rfl
  · have := own_setCell h3 (a := ⟨a, 1, none⟩) v' (own_at_ne h3 hblk (by decide))
    simpa [QP.addBlock] using this
  · simp only [QP.addBlock, List.length_append, List.length_singleton] at hj
    by_cases hlt : j < q.blocks.length
    · have e2 : q.addBlock.blocks.getD j [] = q.blocks.getD j [] := by simp [QP.addBlock, List.getD_eq_getElem?_getD, List.getElem?_append, hlt]
      have e3 : (vss ++ [[]]).getD j [] = vss.getD j [] := by simp [List.getD_eq_getElem?_getD, List.getElem?_append, hl, hlt]
      rw [eu j hlt, e2, e3]
      refine (H.each j hlt).keep (keep (H.each j hlt).row (by decide) (by decide)) (fun he hv => keep hv ?_ ?_)
      · rcases he with rfl | rfl <;> decide
      · rcases he with rfl | rfl <;> decide
    · obtain rfl : j = q.blocks.length := by omega
      have e2 : q.addBlock.blocks.getD q.blocks.length [] = [] := by simp [QP.addBlock, List.getD_eq_getElem?_getD]
      have e3 : (vss ++ [[]]).getD q.blocks.length [] = [] := by simp [List.getD_eq_getElem?_getD, ← hl]
      rw [el, e2, e3]
      exact ⟨rfl, World.ownsRow_nil _ _ _ _, fun j hj => by simp at hj⟩
  · simp only [QP.addBlock, List.length_append, List.length_singleton] at hj
    by_cases hlt : j < q.blocks.length
    · rw [eu j hlt, eu i (by omega)]; exact h.apart i j hij hlt
    · obtain rfl : j = q.blocks.length := by omega
      rw [eu i (by omega), el]
      cases hx : (us.getD i undef).ownBlock with
      | none => exact .inl rfl
      | some g => exact .inr (by simp [Value.ownBlock])
/-- a line more, of the last block -/
theorem PAt.addLine (h : PAt z a w q vl vb us vss) (hl : vss.length = q.blocks.length) (n : Nat) (hn : q.blocks.length = n + 1) (l : QLine) (vp vn : Value) (hL : LineAt z w l vp vn) (h2 : Below w.heap.size w w2)
    {gb cb : Nat} (hvb : vb = .slice (some ⟨gb, 0, none⟩) (n + 1) cb) {g : Nat} (hv' : v'.ownBlock = some g) (hat : (us.getD n undef).ownBlock = some g ∨ w2.heap.size ≤ g)
    (h3 : w3.ownsRow z 115 6 v' ((q.blocks.getD n []).length + 1) (lineCells (q.blocks.getD n []) (vss.getD n []) ++ lineCell (l, vp, vn))) (hg : w2.grownBy w3 (us.getD n undef).ownBlock) :
    PAt z a (w3.setCell ⟨gb, n, none⟩ v') (q.addLine l) vl vb (us.set n v') (vss.set n (vss.getD n [] ++ [(vp, vn)])) := by
  have H := h.below h2
  have HL := hL.below h2
  have hu := h.usl
  have hlast : n < q.blocks.length := by omega
  have HN := H.each n hlast
  have hne : some a ≠ (us.getD n undef).ownBlock := own_type_ne HN.row H.blk (by decide)
  have hblk : w3.heap[a]? = some (.cells #[vl, vb] 110 (0, 0)) := by rw [hg.block a H.lt hne]; exact H.blk
  have HB3 : w3.ownsRow z 106 1 vb q.blocks.length us := H.blocks.kept hg (own_ne H.blocks HN.row (by decide))
  obtain ⟨g', cap, cur, e, hzg, hcur, hcap, hmax, hsz, htk⟩ : ∃ g' cap cur, vb = .slice (some ⟨g', 0, none⟩) q.blocks.length cap ∧ z ≤ g' ∧ w3.heap[g']? = some (.cells cur 106 (0, 0)) ∧ q.blocks.length ≤ cap ∧ cap ≤ maxLen ∧ cur.size = cap * 1 ∧ cur.toList.take (q.blocks.length * 1) = us := by
    rcases HB3.2 with ⟨e, -⟩ | ⟨g', cap, cur, e, r⟩
    · rw [hvb] at e; cases e
    · exact ⟨g', cap, cur, e, r⟩
  have : g' = gb := by rw [hvb] at e; simp only [Value.slice.injEq, Option.some.injEq, Addr.mk.injEq] at e; exact e.1.1.symm
  subst this
  have keep : ∀ {e : TypeId} {s : Nat} {v : Value} {n' : Nat} {xs : List Value}, w2.ownsRow z e s v n' xs → (v.ownBlock = none ∨ v.ownBlock ≠ (us.getD n undef).ownBlock) → e ≠ 106 → (w3.setCell ⟨g', n, none⟩ v').ownsRow z e s v n' xs := by
    intro e s v n' xs hv hnn he'
    have hk := hv.kept hg hnn
    exact own_setCell hk _ (own_at_ne hk hcur he')
  have eu : ∀ j, ¬ j = n → (us.set n v').getD j undef = us.getD j undef := fun j hj => by simp [List.getD_eq_getElem?_getD, List.getElem?_set_ne (Ne.symm hj)]
  have eun : (us.set n v').getD n undef = v' := by simp [List.getD_eq_getElem?_getD, hu, hlast]
  have hB : q.blocks = q.blocks.dropLast ++ [q.blocks.getD n []] := by
    have hne : q.blocks ≠ [] := by intro e; rw [e] at hlast; simp at hlast
    conv => lhs; rw [← List.dropLast_concat_getLast hne]
    congr 2
    rw [List.getLast_eq_getElem]
    simp [List.getD_eq_getElem?_getD, hn]
  have hD : q.blocks.dropLast.length = n := by simp [hn]
  have hlB : (q.addLine l).blocks = q.blocks.dropLast ++ [q.blocks.getD n [] ++ [l]] := by
    have : q.blocks.getLastD [] = q.blocks.getD n [] := by rw [hB]; simp [List.getD_eq_getElem?_getD, hD]
    simp only [QP.addLine, this]
  have ebn : (q.addLine l).blocks.getD n [] = q.blocks.getD n [] ++ [l] := by rw [hlB]; simp [List.getD_eq_getElem?_getD, hD]
  have eb : ∀ j, j < n → (q.addLine l).blocks.getD j [] = q.blocks.getD j [] := fun j hj => by
    rw [hlB, hB]; simp [List.getD_eq_getElem?_getD, List.getElem?_append, hD, hj]
  have elen : (q.addLine l).blocks.length = n + 1 := by rw [hlB]; simp [hD]
  have ev : ∀ j, ¬ j = n → (vss.set n (vss.getD n [] ++ [(vp, vn)])).getD j [] = vss.getD j [] := fun j hj => by simp [List.getD_eq_getElem?_getD, List.getElem?_set_ne (Ne.symm hj)]
  have evn : (vss.set n (vss.getD n [] ++ [(vp, vn)])).getD n [] = vss.getD n [] ++ [(vp, vn)] := by simp [List.getD_eq_getElem?_getD, hl, hlast]
  have ne2 : ∀ {e : TypeId} {s : Nat} {v : Value} {n' : Nat} {xs : List Value}, e = 119 ∨ e = 3 → w2.ownsRow z e s v n' xs → (w3.setCell ⟨g', n, none⟩ v').ownsRow z e s v n' xs := fun he hv =>
    keep hv (own_ne hv HN.row (by rcases he with rfl | rfl <;> decide)) (by rcases he with rfl | rfl <;> decide)
  refine ⟨h.base, ?_, keep H.locals (own_ne H.locals HN.row (by decide)) (by decide), ?_, fun j hj => ?_, fun i j hij hj => ?_⟩
  · rw [Below.heap_setCell _ _ _ _ (by show a ≠ g'; intro e; rw [e, hcur] at hblk; simp only [Option.some.injEq, Obj.cells.injEq] at hblk; exact absurd hblk.2.1 (by decide))]; exact hblk
  · rw [elen]
    refine ⟨by simp [hu, hn], .inr ⟨g', cap, cur.setIfInBounds n v', by rw [e, hn], hzg, Go.Proofs.YtmlgajhhnojdjaaGreatDoor.Aux.heap_setCell_same hcur n v', by omega, hmax, by simpa using hsz, ?_⟩⟩
    rw [Array.toList_setIfInBounds, ← htk, hn, List.take_set]
  · rw [elen] at hj
    by_cases hjn : j = n
    · subst hjn
      rw [eun, ebn, evn]
      refine ⟨by rw [List.length_append, List.length_append, HN.len]; rfl, ?_, fun i hi => ?_⟩
      · have := own_setCell h3 (a := ⟨g', j, none⟩) v' (own_at_ne h3 hcur (by decide))
        have e2 : lineCells (q.blocks.getD j [] ++ [l]) (vss.getD j [] ++ [(vp, vn)]) = lineCells (q.blocks.getD j []) (vss.getD j []) ++ lineCell (l, vp, vn) := by
          unfold lineCells
          rw [List.zip_append HN.len.symm]; simp
        rw [e2]
        simpa using this
      · simp at hi
        by_cases hlt : i < (q.blocks.getD j []).length
        · have e1 : (q.blocks.getD j [] ++ [l]).getD i QLine.nil = (q.blocks.getD j []).getD i QLine.nil := by rw [List.getD_eq_getElem?_getD, List.getElem?_append_left hlt, ← List.getD_eq_getElem?_getD]
          have e2 : (vss.getD j [] ++ [(vp, vn)]).getD i (undef, undef) = (vss.getD j []).getD i (undef, undef) := by rw [List.getD_eq_getElem?_getD, List.getElem?_append_left (by rw [HN.len]; exact hlt), ← List.getD_eq_getElem?_getD]
          rw [e1, e2]
          exact (HN.each i hlt).keep ne2
        · have hi' : i = (q.blocks.getD j []).length := by simp only [List.getD_eq_getElem?_getD] at hlt hi ⊢; omega
          have e1 : (q.blocks.getD j [] ++ [l]).getD i QLine.nil = l := by rw [hi', List.getD_eq_getElem?_getD, List.getElem?_append_right (Nat.le_refl _)]; simp
          have e2 : (vss.getD j [] ++ [(vp, vn)]).getD i (undef, undef) = (vp, vn) := by rw [hi', ← HN.len, List.getD_eq_getElem?_getD, List.getElem?_append_right (Nat.le_refl _)]; simp
          rw [e1, e2]
          exact HL.keep ne2
    · have hjl : j < n := by omega
      rw [eu j hjn, eb j hjl, ev j hjn]
      refine (H.each j (by omega)).keep (keep (H.each j (by omega)).row (h.apart j n hjl hlast) (by decide)) ne2
  · rw [elen] at hj
    by_cases hjn : j = n
    · subst hjn
      rw [eu i (by omega), eun, hv']
      cases hx : (us.getD i undef).ownBlock with
      | none => exact .inl rfl
      | some g0 =>
        refine .inr fun hc => ?_
        simp only [Option.some.injEq] at hc
        subst hc
        rcases hat with hat | hat
        · rcases h.apart i j hij hlast with h0 | h0
          · rw [hx] at h0; cases h0
          · rw [hx, hat] at h0; exact h0 rfl
        · have := own_lt (H.each i (by omega)).row g0 hx
          omega
    · rw [eu i (by omega), eu j hjn]; exact h.apart i j hij (by omega)
end
end Go.Proofs.YtmlgajhhnojdjaaGreatDoor.PrjM
/- The project's machines: what both have in a yard, as plain functions; how it lies in memory; a word more of the trace. -/
namespace Go.Proofs.YtmlgajhhnojdjaaGreatDoor.Own
open Go Go.RowKit Go.Proofs.YtmlgajhhnojdjaaGreatDoor.Spec Go.Proofs.YtmlgajhhnojdjaaGreatDoor.Aux Go.Proofs.YtmlgajhhnojdjaaGreatDoor.PrjJ Go.Proofs.YtmlgajhhnojdjaaGreatDoor.PrjK Go.Proofs.YtmlgajhhnojdjaaGreatDoor.PrjL Go.Proofs.YtmlgajhhnojdjaaGreatDoor.PrjM

/-- the library's table of powers lies where the start-up lays it -/
def Pow (w : World) : Prop := Lib.TabIs Tryz.prog w "internal/strconv.uint64pow10" .u64 Lib.pow10Tab
/-- what is kept of the boxes of a run, and the trace -/
structure Yd where
  made : List (Int × Bool)
  live : Int
  trace : List B
def Yd.note (y : Yd) (c : UInt8) (n : Int) : Yd := { y with trace := y.trace ++ [c :: Lib.itoa n] }
def boxCell (x : Int × Bool) : List Value := [.int .i64 x.1, .bool x.2]
def boxCells (l : List (Int × Bool)) : List Value := l.flatMap boxCell
def trCells (l : List B) : List Value := l.map fun b => .string (bs b)
def isMach (t : TypeId) : Prop := t = 104 ∨ t = 136
structure YAt (z x : Nat) (t : TypeId) (rest : List Value) (w : World) (y : Yd) (vm vt : Value) : Prop where
  base : z ≤ x
  ty : isMach t
  blk : w.heap[x]? = some (.cells (vm :: .int .i64 y.live :: vt :: rest).toArray t (0, 0))
  made : w.ownsRow z 175 2 vm y.made.length (boxCells y.made)
  trace : w.ownsRow z 9 1 vt y.trace.length (trCells y.trace)
/-- of what was there nothing but the machine and its rows has turned -/
structure Roam (x : Nat) (vm vt : Value) (w : World) (vm' vt' : Value) (w' : World) : Prop where
  os : w'.os = w.os
  tape : w'.tape = w.tape
  output : w'.output = w.output
  size : w.heap.size ≤ w'.heap.size
  block : ∀ k, k < w.heap.size → k ≠ x → vm.ownBlock ≠ some k → vt.ownBlock ≠ some k → w'.heap[k]? = w.heap[k]?
  fm : ∀ b, vm'.ownBlock = some b → vm.ownBlock = some b ∨ w.heap.size ≤ b
  ft : ∀ b, vt'.ownBlock = some b → vt.ownBlock = some b ∨ w.heap.size ≤ b
section
variable {z x : Nat} {t : TypeId} {rest : List Value} {w w1 w2 w3 : World} {y : Yd} {vm vt vm1 vt1 vm2 vt2 v' : Value}
theorem Roam.refl (x : Nat) (vm vt : Value) (w : World) : Roam x vm vt w vm vt w := ⟨rfl, rfl, rfl, Nat.le_refl _, fun _ _ _ _ _ => rfl, fun _ h => .inl h, fun _ h => .inl h⟩
theorem Roam.trans (h : Roam x vm vt w vm1 vt1 w1) (h' : Roam x vm1 vt1 w1 vm2 vt2 w2) : Roam x vm vt w vm2 vt2 w2 := by
  refine ⟨h'.os.trans h.os, h'.tape.trans h.tape, h'.output.trans h.output, Nat.le_trans h.size h'.size, fun k hk h1 h2 h3 => ?_, fun b hb => ?_, fun b hb => ?_⟩
  · refine (h'.block k (Nat.lt_of_lt_of_le hk h.size) h1 (fun e => ?_) (fun e => ?_)).trans (h.block k hk h1 h2 h3)
    · rcases h.fm k e with e' | e'
      · exact h2 e'
      · omega
    · rcases h.ft k e with e' | e'
      · exact h3 e'
      · omega
  · rcases h'.fm b hb with e | e
    · exact h.fm b e
    · exact .inr (Nat.le_trans h.size e)
  · rcases h'.ft b hb with e | e
    · exact h.ft b e
    · exact .inr (Nat.le_trans h.size e)
theorem Roam.of (h : Below w.heap.size w w1) : Roam x vm vt w vm vt w1 := ⟨h.os, h.tape, h.output, h.size, fun k hk _ _ _ => h.block k hk, fun _ h => .inl h, fun _ h => .inl h⟩
theorem YAt.lt (h : YAt z x t rest w y vm vt) : x < w.heap.size := lt_of_heap h.blk
theorem YAt.below (h : YAt z x t rest w y vm vt) (hb : Below w.heap.size w w1) : YAt z x t rest w1 y vm vt :=
  ⟨h.base, h.ty, by rw [hb.block x h.lt]; exact h.blk, own_below h.made hb, own_below h.trace hb⟩
theorem isMach.ne (h : isMach t) : 175 ≠ t ∧ 9 ≠ t := by
  rcases h with rfl | rfl <;> decide
theorem Roam.below (h : Roam x vm vt w vm1 vt1 w1) (hy : YAt z x t rest w y vm vt) {b : Nat} (hb : b ≤ z) (hs : b ≤ w.heap.size) : Below b w w1 := by
  refine ⟨h.os, h.tape, h.output, h.size, fun k hk => h.block k (by omega) (by have := hy.base; omega) (fun e => ?_) (fun e => ?_)⟩
  · have := (hy.made.lt k e).1; omega
  · have := (hy.trace.lt k e).1; omega
theorem YAt.facts (h : YAt z x t rest w y vm vt) : w.cell? ⟨x, 0, none⟩ = some vm ∧ w.cell? ⟨x, 1, none⟩ = some (.int .i64 y.live) ∧ w.cell? ⟨x, 2, none⟩ = some vt ∧ w.frozen? ⟨x, 0, none⟩ = false ∧ w.frozen? ⟨x, 1, none⟩ = false ∧ w.frozen? ⟨x, 2, none⟩ = false :=
  ⟨by rw [cell_of_heap h.blk]; simp, by rw [cell_of_heap h.blk]; simp, by rw [cell_of_heap h.blk]; simp, frozen_of_heap h.blk 0, frozen_of_heap h.blk 1, frozen_of_heap h.blk 2⟩
/-- a word more of the trace -/
theorem YAt.noted (h : YAt z x t rest w y vm vt) (h2 : Below w.heap.size w w2) {l : B} (h3 : w3.ownsRow z 9 1 v' (y.trace.length + 1) (trCells y.trace ++ [.string (bs l)])) (hg : w2.grownBy w3 vt.ownBlock)
    (hf : ∀ b, v'.ownBlock = some b → vt.ownBlock = some b ∨ w2.heap.size ≤ b) :
    YAt z x t rest (w3.setCell ⟨x, 2, none⟩ v') { y with trace := y.trace ++ [l] } vm v' ∧ Roam x vm vt w vm v' (w3.setCell ⟨x, 2, none⟩ v') := by
  have H := h.below h2
  obtain ⟨n1, n2⟩ := h.ty.ne
  have hne : some x ≠ vt.ownBlock := own_type_ne H.trace H.blk n2
  have hblk : w3.heap[x]? = some (.cells (vm :: .int .i64 y.live :: vt :: rest).toArray t (0, 0)) := by rw [hg.block x H.lt hne]; exact H.blk
  have hm := H.made.kept hg (own_ne H.made H.trace (by decide))
  refine ⟨⟨h.base, h.ty, ?_, own_setCell hm _ (own_at_ne hm hblk n1), ?_⟩, ?_⟩
  · rw [Aux.heap_setCell_same hblk]; simp
  · have := own_setCell h3 (a := ⟨x, 2, none⟩) v' (own_at_ne h3 hblk n2)
    simpa [trCells] using this
  · refine ⟨hg.os.trans h2.os, hg.tape.trans h2.tape, hg.output.trans h2.output, by simpa using Nat.le_trans h2.size hg.size, fun k hk h1 hm' ht' => ?_, fun _ h => .inl h, fun b hb => ?_⟩
    · rw [Below.heap_setCell _ _ _ _ (by show k ≠ x; exact h1), hg.block k (Nat.lt_of_lt_of_le hk h2.size) (fun e => ht' e.symm)]
      exact h2.block k hk
    · rcases hf b hb with e | e
      · exact .inl e
      · exact .inr (Nat.le_trans h2.size e)
theorem below_grow (k : Nat) (os : Array Obj) (w : World) : Below w.heap.size w (Go.Sort.grow (w.drewN k) os) := by
  have hd := below_drewN (Below.refl w.heap.size w) k
  refine ⟨hd.os, hd.tape, hd.output, ?_, fun j hj => ?_⟩
  · show w.heap.size ≤ ((w.drewN k).heap ++ os).size
    rw [Array.size_append]; have := hd.size; omega
  · show ((w.drewN k).heap ++ os)[j]? = _
    rw [Array.getElem?_append_left (by have := hd.size; omega)]; exact hd.block j hj
theorem info_str : (Tryz.prog.info? 9).map (fun i => (i.zero, i.size, i.bytes)) = some (some (.string ⟨#[]⟩), 1, 16) := by kernel_rfl
theorem info_box : (Tryz.prog.info? 175).map (fun i => (i.zero, i.size, i.bytes)) = some (some (.agg #[.int .i64 0, .bool false]), 2, 16) := by kernel_rfl
theorem pow_at : Tryz.prog.globalNamed "internal/strconv.uint64pow10" = some 4 := by kernel_rfl
theorem Pow.below (h : Pow w) {b : Nat} (hb : Below b w w1) (hs : 11 ≤ b) : Pow w1 := by
  unfold Pow Lib.TabIs World.var? at h ⊢
  rw [pow_at] at h ⊢
  simp only [Option.bind_some] at h ⊢
  rw [hb.block _ (Nat.lt_of_lt_of_le (by decide) hs)]
  exact h
set_option maxRecDepth 20000 in
set_option maxHeartbeats 2000000 in
theorem note_any (h : YAt z x t rest w y vm vt) (c : UInt8) (n : Int) (hn : -9223372036854775808 ≤ n ∧ n ≤ 9223372036854775807) (hp : Pow w) (hl : y.trace.length ≤ 10000000) :
    Calls Tryz.prog 98 #[.pointer (some ⟨x, 0, none⟩), .string (bs [c]), .int .i64 n] w fun e w' => ∃ vt', e = .returned (.tuple #[]) ∧ YAt z x t rest w' (y.note c n) vm vt' ∧ Roam x vm vt w vm vt' w' := by
  obtain ⟨c0, c1, c2, f0, f1, f2⟩ := h.facts
  obtain ⟨i, hi, hz0, hz1, hz2⟩ := info_parts info_str
  have hil : (Lib.itoa n).length ≤ 21 := Lib.itoa_length_le n hn.1 hn.2
  have hov : ¬ 9223372036854775807 < 1 + (Lib.itoa n).length := by omega
  have KF := fun w' (hp : Pow w') => Tryz.strconv_FormatInt_10 n hn.1 hn.2 w' hp
  go_enter Tryz.func98, Tryz.ntmps98
  go_region_law (first
    | (go_simp; go_at_call 133; refine (KF w.drew hp).mono ?_; rintro e w1 ⟨rfl, hk⟩; have hb1 : Below w.heap.size w w1 := (by obtain ⟨k, os, rfl⟩ := hk; have hb := below_grow k os w.drew; exact ⟨hb.os, hb.tape, hb.output, hb.size, hb.block⟩); clear hk; have H1 := h.below hb1; obtain ⟨d0, d1, d2, g0, g1, g2⟩ := H1.facts; have hbA : Below w1.heap.size w1 (w1.alloc (.cells #[.string (bs [c] ++ ⟨(Lib.itoa n).toArray⟩)] 9)) := (Below.refl _ _).alloc (Nat.le_refl _) _; have HA := H1.below hbA; obtain ⟨a0, a1, a2, b0, b1, b2⟩ := HA.facts; have hsA : z ≤ (w1.alloc (.cells #[.string (bs [c] ++ ⟨(Lib.itoa n).toArray⟩)] 9)).heap.size := (by have := HA.lt; have := HA.base; omega))
    | (refine step_blk (by rfl) _ _ _ (by rfl) z 9 i (.string ⟨#[]⟩) 1 16 Tryz.underlying34 hi hz0 hz1 hz2 (by rfl) (by decide) vt _ _ (by rfl) HA.trace w1.heap.size [.string (bs [c] ++ ⟨(Lib.itoa n).toArray⟩)] (by rfl) Array.getElem?_push_size (by rfl) (by intro u' hu; simp at hu; subst hu; rfl) (by decide) (by omega) hsA ?_; intro g4 c4 w4 hown4 hgrow4 hat4 hlt4; have hblk4 : w4.heap[x]? = _ := (hgrow4.block _ HA.lt (own_type_ne HA.trace HA.blk HA.ty.ne.2)).trans HA.blk; have r2 : w4.cell? ⟨x, 2, none⟩ = some vt := (by rw [cell_of_heap hblk4]; simp); have rf2 : w4.frozen? ⟨x, 2, none⟩ = false := frozen_of_heap hblk4 2))
  all_goals go_wp2_with fail
  all_goals
    go_end0
    have e : bs [c] ++ ⟨(Lib.itoa n).toArray⟩ = bs (c :: Lib.itoa n) := eq_bs (by rw [append_toList, toList_bs]; simp [ByteArray.toList_eq])
    rw [e] at hown4
    obtain ⟨h5, h6⟩ := h.noted (hb1.trans (hbA.mono hb1.size)) hown4 hgrow4 (fun b hb => by
      simp only [Value.ownBlock, Option.some.injEq] at hb
      subst hb
      rcases hat4 with e | e
      · exact .inl e
      · exact .inr (by omega))
    exact ⟨_, rfl, h5, h6⟩
end
end Go.Proofs.YtmlgajhhnojdjaaGreatDoor.Own
