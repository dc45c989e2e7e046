/- A program of the document's own reader while it is being read: its rows are the call's own, and each kind of row has its own type of elements. -/
import Derived.Test.YtmlgajhhnojdjaaGreatDoorBAH
import Derived.Deep.AppendLies
import Derived.Test.YtmlgajhhnojdjaaGreatDoorBAA
import Derived.Test.YtmlgajhhnojdjaaGreatDoorBAC
import Derived.Deep.MidRow
namespace Go.Proofs.YtmlgajhhnojdjaaGreatDoor.Aux
open Go Go.RowKit Go.Proofs.YtmlgajhhnojdjaaGreatDoor.Spec

section
variable {w w' : World} {b1 b2 : Nat} {e1 e2 : TypeId} {s1 s2 : Nat} {v1 v2 : Value} {n1 n2 : Nat} {x1 x2 : List Value}

theorem own_ne (h1 : w.ownsRow b1 e1 s1 v1 n1 x1) (h2 : w.ownsRow b2 e2 s2 v2 n2 x2) (he : e1 ≠ e2) : v1.ownBlock = none ∨ v1.ownBlock ≠ v2.ownBlock := by
  obtain ⟨-, h1⟩ := h1
  obtain ⟨-, h2⟩ := h2
  rcases h1 with ⟨rfl, -⟩ | ⟨g, cap, cur, rfl, -, hg, -⟩
  · exact .inl rfl
  · refine .inr ?_
    rcases h2 with ⟨rfl, -⟩ | ⟨g', cap', cur', rfl, -, hg', -⟩
    · simp [Value.ownBlock]
    · simp only [Value.ownBlock, ne_eq, Option.some.injEq]
      intro e
      rw [e, hg'] at hg
      simp only [Option.some.injEq, Obj.cells.injEq] at hg
      exact he hg.2.1.symm
theorem own_at_ne (h1 : w.ownsRow b1 e1 s1 v1 n1 x1) {a : Nat} {cs : Array Value} {f : Nat × Nat} (ha : w.heap[a]? = some (.cells cs e2 f)) (he : e1 ≠ e2) : v1.ownBlock ≠ some a := by
  obtain ⟨-, h1⟩ := h1
  rcases h1 with ⟨rfl, -⟩ | ⟨g, cap, cur, rfl, -, hg, -⟩
  · simp [Value.ownBlock]
  · simp only [Value.ownBlock, ne_eq, Option.some.injEq]
    intro e
    rw [e, ha] at hg
    simp only [Option.some.injEq, Obj.cells.injEq] at hg
    exact he hg.2.1.symm
theorem own_heap (h : w.ownsRow b1 e1 s1 v1 n1 x1) (hw : ∀ g, v1.ownBlock = some g → w'.heap[g]? = w.heap[g]?) : w'.ownsRow b1 e1 s1 v1 n1 x1 := by
  obtain ⟨h0, h⟩ := h
  refine ⟨h0, ?_⟩
  rcases h with h | ⟨g, cap, cur, rfl, hb, hg, r⟩
  · exact .inl h
  · exact .inr ⟨g, cap, cur, rfl, hb, by rw [hw g rfl]; exact hg, r⟩
theorem own_below (h : w.ownsRow b1 e1 s1 v1 n1 x1) (hb : Below w.heap.size w w') : w'.ownsRow b1 e1 s1 v1 n1 x1 :=
  own_heap h fun g hg => hb.block g (h.lt g hg).2
theorem own_setCell (h : w.ownsRow b1 e1 s1 v1 n1 x1) {a : Addr} (u : Value) (hne : v1.ownBlock ≠ some a.block) : (w.setCell a u).ownsRow b1 e1 s1 v1 n1 x1 :=
  own_heap h fun g hg => Below.heap_setCell _ _ _ _ (fun e => hne (by rw [hg, e]))
theorem own_mono (h : w.ownsRow b1 e1 s1 v1 n1 x1) (hb : b2 ≤ b1) : w.ownsRow b2 e1 s1 v1 n1 x1 := by
  obtain ⟨h0, h⟩ := h
  refine ⟨h0, ?_⟩
  rcases h with h | ⟨g, cap, cur, rfl, hb', r⟩
  · exact .inl h
  · exact .inr ⟨g, cap, cur, rfl, by omega, r⟩
theorem own_lt (h : w.ownsRow b1 e1 s1 v1 n1 x1) : ∀ g, v1.ownBlock = some g → g < w.heap.size := fun g hg => (h.lt g hg).2
end

theorem heap_setCell_same {w : World} {a : Nat} {cs : Array Value} {e : TypeId} {f : Nat × Nat} (h : w.heap[a]? = some (.cells cs e f)) (o : Nat) (u : Value) : (w.setCell ⟨a, o, none⟩ u).heap[a]? = some (.cells (cs.setIfInBounds o u) e f) := by
  simp [World.setCell, Array.getElem?_modify, h]
theorem cell_of_heap {w : World} {a : Nat} {cs : Array Value} {e : TypeId} {f : Nat × Nat} (h : w.heap[a]? = some (.cells cs e f)) (o : Nat) : w.cell? ⟨a, o, none⟩ = cs[o]? := by
  simp [World.cell?, h]
theorem frozen_of_heap {w : World} {a : Nat} {cs : Array Value} {e : TypeId} (h : w.heap[a]? = some (.cells cs e (0, 0))) (o : Nat) : w.frozen? ⟨a, o, none⟩ = false := by
  simp [World.frozen?, h]

/-- numbers as a row's cells -/
def intCells (l : List Nat) : List Value := l.map fun (n : Nat) => .int .i64 (n : Int)

end Go.Proofs.YtmlgajhhnojdjaaGreatDoor.Aux
/- One element appended to a row of the call's own, with the new slice written out; a local or a block more of a program that is read. -/
namespace Go.Proofs.YtmlgajhhnojdjaaGreatDoor.Aux
open Go Go.RowKit Go.Proofs.YtmlgajhhnojdjaaGreatDoor.Spec

section
variable {P : Program} {w : World} {ops : Array Oper} {rest : List Oper} {o : Oper} {a : Act} {Q : Exit → Act → World → Prop}
theorem append_lies (hgd : o.guard = none) (s x : Operand) (t : TypeId)
    (ho : o.op = .call { callee := .builtin .append, args := #[s, x], argTypes := #[t, t] })
    (base : Nat) (e : TypeId) (i : TypeInfo) (z : Value) (bytes : Nat) (ht : P.underlying t = some (.slice e)) (hi : P.info? e = some i) (hz : i.zero = some z)
    (hsize : i.size = 1) (hby : i.bytes = bytes) (hzs : z.cells.size = 1)
    (v : Value) (n : Nat) (xs : List Value) (hs : a.eval s = v) (hown : w.ownsRow base e 1 v n xs)
    (u : Value) (hx : a.eval x = .slice (some ⟨w.heap.size, 0, none⟩) 1 1) (h1 : u.oneCell' = true)
    (hb1 : 1 ≤ bytes) (hbytes : (n + 1) * bytes ≤ 140737488355328) (hbase : base ≤ w.heap.size)
    (h : ∀ g cap w', w'.ownsRow base e 1 (.slice (some ⟨g, 0, none⟩) (n + 1) cap) (n + 1) (xs ++ [u]) → (w.alloc (.cells #[u] e)).grownBy w' v.ownBlock → (v.ownBlock = some g ∨ g = w.heap.size + 1) → g < w'.heap.size → wpList P ops Q rest (a.put o.dst (.slice (some ⟨g, 0, none⟩) (n + 1) cap)) w') : wpList P ops Q (o :: rest) a (w.alloc (.cells #[u] e)) := by
  refine wpList_append_lies _ hgd s x t ho base e i z 1 bytes ht hi hz hsize hby hzs (by decide) v n xs hs (hown.alloc _) ⟨w.heap.size, 0, none⟩ 1 1 [u] hx rfl ?_ ?_ (by decide) ?_ hbytes ?_ (w.heap.size + 1) (by simp) h
  · intro j u' hj
    match j, hj with
    | 0, hj => simp at hj; subst hj; simp [Addr.add]
  · intro u' hu; simp at hu; subst hu; exact h1
  · have : n + 1 ≤ (n + 1) * bytes := Nat.le_mul_of_pos_right _ hb1
    unfold maxLen; omega
  · simp; omega
end

section
variable {z a : Nat} {w w3 : World} {p : RP} {vl vt vb v' : Value} {us : List Value} {o : Obj}
end
end Go.Proofs.YtmlgajhhnojdjaaGreatDoor.Aux
/- What lies in memory while the document's own reader reads a text, and what each step of its loop makes of it. -/
namespace Go.Proofs.YtmlgajhhnojdjaaGreatDoor.Aux
theorem hereAuxE : True := trivial
end Go.Proofs.YtmlgajhhnojdjaaGreatDoor.Aux
/- Plain definitions: the ways in which a place may be, as letters. -/
namespace Go.Proofs.YtmlgajhhnojdjaaGreatDoor.Spec
open Go

theorem append_toList (a b : ByteArray) : (a ++ b).toList = a.toList ++ b.toList := by
  simp only [ByteArray.toList_eq]
  simp
/-- of a place: the first spot, and how many -/
def RP.spots (p : RP) (w : B) : Nat × Nat :=
  if partOf w = 98 then (2 * (p.find (localOf w)).toNat + 1, 1)
  else if p.typeOf w = wPair then (2 * (p.find (localOf w)).toNat, 2) else (2 * (p.find (localOf w)).toNat, 1)
end Go.Proofs.YtmlgajhhnojdjaaGreatDoor.Spec
/- Plain definitions: all ways in which every spot may be, at one line; what a line makes of them. -/
namespace Go.Proofs.YtmlgajhhnojdjaaGreatDoor.Spec
open Go

structure WS where
  known : Bool
  spots : List B
def WS.at (s : WS) (k : Nat) : B := s.spots.getD k []
/-- what a place has is there for sure -/
def RP.some (p : RP) (w : B) : B := if p.typeOf w = wOpt then [110, 119] else [119]
end Go.Proofs.YtmlgajhhnojdjaaGreatDoor.Spec
/- Ways in a block of their own: read whole, written whole, one spot written; a result that lies in memory. -/
namespace Go.Proofs.YtmlgajhhnojdjaaGreatDoor.Aux
open Go Go.RowKit Go.Proofs.YtmlgajhhnojdjaaGreatDoor.Spec

theorem heap_setCells_other (b : Nat) : ∀ (vs : List Value) (o : Nat) (w : World) (k : Nat), k ≠ b → (w.setCells b o vs).heap[k]? = w.heap[k]?
  | [], _, _, _, _ => rfl
  | v :: r, o, w, k, h => by
    rw [World.setCells, heap_setCells_other b r (o + 1) _ k h, Below.heap_setCell _ _ _ _ h]
theorem heap_setCells (b : Nat) : ∀ (vs : List Value) (o : Nat) (w : World) (cs : Array Value) (e : TypeId) (f : Nat × Nat), w.heap[b]? = some (.cells cs e f) →
    ∃ cs', (w.setCells b o vs).heap[b]? = some (.cells cs' e f) ∧ cs'.size = cs.size ∧ ∀ j, cs'[j]? = if o ≤ j ∧ j < o + vs.length ∧ j < cs.size then vs[j - o]? else cs[j]?
  | [], o, w, cs, e, f, h => ⟨cs, h, rfl, fun j => by rw [if_neg (by simp; omega)]⟩
  | v :: r, o, w, cs, e, f, h => by
    obtain ⟨cs', h1, h2, h3⟩ := heap_setCells b r (o + 1) (w.setCell ⟨b, o, none⟩ v) (cs.setIfInBounds o v) e f (heap_setCell_same h o v)
    refine ⟨cs', by rw [World.setCells]; exact h1, by rw [h2]; simp, fun j => ?_⟩
    rw [h3, Array.getElem?_setIfInBounds]
    by_cases hj : j = o
    · subst hj
      rw [if_neg (by omega), if_pos rfl]
      by_cases hs : j < cs.size
      · rw [if_pos hs, if_pos (by simp; omega)]; simp
      · rw [if_neg hs, if_neg (by omega)]; simp; omega
    · by_cases hc : o + 1 ≤ j ∧ j < o + 1 + r.length ∧ j < cs.size
      · rw [if_pos (by simpa using hc), if_pos (by simp; omega)]
        rw [show j - o = (j - (o + 1)) + 1 by omega, List.getElem?_cons_succ]
      · rw [if_neg (by simpa using hc), if_neg (by omega), if_neg (by simp; omega)]

section
variable {w w' : World} {b : Nat} {s t : WS}
theorem below_setCells {B : Nat} {w0 : World} (h : Below B w0 w) (hB : B ≤ b) (o : Nat) (vs : List Value) : Below B w0 (w.setCells b o vs) := by
  have hos : ∀ (vs : List Value) (o : Nat) (w : World), (w.setCells b o vs).os = w.os ∧ (w.setCells b o vs).tape = w.tape ∧ (w.setCells b o vs).output = w.output ∧ (w.setCells b o vs).heap.size = w.heap.size := by
    intro vs
    induction vs with
    | nil => intro o w; exact ⟨rfl, rfl, rfl, rfl⟩
    | cons v r ih => intro o w; rw [World.setCells]; have := ih (o + 1) (w.setCell ⟨b, o, none⟩ v); simpa [World.setCell] using this
  obtain ⟨h1, h2, h3, h4⟩ := hos vs o w
  exact h.trans ⟨h1, h2, h3, by omega, fun k hk => heap_setCells_other b vs o w k (by omega)⟩
end
def WS.set (s : WS) (k : Nat) (c : B) : WS := { s with spots := s.spots.set k c }
/-- a result that lies in memory -/
theorem results_cell {fn : Func} {p : Tmp} {ty : TypeId} (h : fn.results = #[.cell p ty]) (tmps : Array Value) (P : Program) (w : World) (b : Nat) (cs : List Value) (d : TypeDesc) (hp : tmps.getD p undef = .pointer (some ⟨b, 0, none⟩))
    (hc : w.rangeAt b 0 cs) (hu : P.underlying ty = some d) (hd : d.isRow = true) (hi : (P.info? ty).map (·.size) = some cs.length) : (results fn tmps).run P w = .ok (.agg cs.toArray) w := by
  have := run_loadVar_mid (P := P) w b 0 ty cs d hc hu hd hi
  rw [Array.getD_eq_getD_getElem?] at hp
  unfold results
  simp [h, hp, asAddr, this]
theorem results_cell_bool {fn : Func} {p u : Tmp} {ty : TypeId} (h : fn.results = #[.cell p ty, .tmp u]) (tmps : Array Value) (P : Program) (w : World) (b : Nat) (cs : List Value) (d : TypeDesc) (hp : tmps.getD p undef = .pointer (some ⟨b, 0, none⟩))
    (hc : w.rangeAt b 0 cs) (hu : P.underlying ty = some d) (hd : d.isRow = true) (hi : (P.info? ty).map (·.size) = some cs.length) : (results fn tmps).run P w = .ok (.tuple #[.agg cs.toArray, tmps.getD u undef]) w := by
  have := run_loadVar_mid (P := P) w b 0 ty cs d hc hu hd hi
  rw [Array.getD_eq_getD_getElem?] at hp
  unfold results
  simp [h, hp, asAddr, this]
end Go.Proofs.YtmlgajhhnojdjaaGreatDoor.Aux
