/- Rows whose elements have several cells: one element appended, one element read; what a row holds is not turned by another type's row. -/
import Derived.Test.YtmlgajhhnojdjaaGreatDoorKAG
import Derived.Test.YtmlgajhhnojdjaaGreatDoorKAH
namespace Go.Proofs.YtmlgajhhnojdjaaGreatDoor.Aux
open Go Go.RowKit Go.Proofs.YtmlgajhhnojdjaaGreatDoor.Spec

section
variable {P : Program} {w : World} {ops : Array Oper} {rest : List Oper} {o : Oper} {a : Act} {Q : Exit → Act → World → Prop}
theorem append_blk (hgd : o.guard = none) (s x : Operand) (t : TypeId)
    (ho : o.op = .call { callee := .builtin .append, args := #[s, x], argTypes := #[t, t] })
    (base : Nat) (e : TypeId) (i : TypeInfo) (z : Value) (size bytes : Nat) (ht : P.underlying t = some (.slice e)) (hi : P.info? e = some i) (hz : i.zero = some z)
    (hsize : i.size = size) (hby : i.bytes = bytes) (hzs : z.cells.size = size) (hsz : 0 < size)
    (v : Value) (n : Nat) (xs : List Value) (hs : a.eval s = v) (hown : w.ownsRow base e size v n xs)
    (g0 : Nat) (us : List Value) (hx : a.eval x = .slice (some ⟨g0, 0, none⟩) 1 1) {e' : TypeId} {fr : Nat × Nat} (hblk : w.heap[g0]? = some (.cells us.toArray e' fr)) (hul : us.length = size) (h1 : ∀ u ∈ us, u.oneCell' = true)
    (hb1 : 1 ≤ bytes) (hbytes : (n + 1) * bytes ≤ 140737488355328) (hbase : base ≤ w.heap.size)
    (h : ∀ g cap w', w'.ownsRow base e size (.slice (some ⟨g, 0, none⟩) (n + 1) cap) (n + 1) (xs ++ us) → w.grownBy w' v.ownBlock → (v.ownBlock = some g ∨ g = w.heap.size) → g < w'.heap.size → wpList P ops Q rest (a.put o.dst (.slice (some ⟨g, 0, none⟩) (n + 1) cap)) w') : wpList P ops Q (o :: rest) a w := by
  refine wpList_append_lies _ hgd s x t ho base e i z size bytes ht hi hz hsize hby hzs hsz v n xs hs hown ⟨g0, 0, none⟩ 1 1 us hx (by omega) ?_ h1 (by decide) ?_ hbytes hbase w.heap.size rfl h
  · exact World.news_of_block hblk
  · have : n + 1 ≤ (n + 1) * bytes := Nat.le_mul_of_pos_right _ hb1
    unfold maxLen; omega
theorem step_blk {K : Act → World → Prop} {E : Prop} (hgd : o.guard = none) (s x : Operand) (t : TypeId)
    (ho : o.op = .call { callee := .builtin .append, args := #[s, x], argTypes := #[t, t] })
    (base : Nat) (e : TypeId) (i : TypeInfo) (z : Value) (size bytes : Nat) (ht : P.underlying t = some (.slice e)) (hi : P.info? e = some i) (hz : i.zero = some z)
    (hsize : i.size = size) (hby : i.bytes = bytes) (hzs : z.cells.size = size) (hsz : 0 < size)
    (v : Value) (n : Nat) (xs : List Value) (hs : a.eval s = v) (hown : w.ownsRow base e size v n xs)
    (g0 : Nat) (us : List Value) (hx : a.eval x = .slice (some ⟨g0, 0, none⟩) 1 1) {e' : TypeId} {fr : Nat × Nat} (hblk : w.heap[g0]? = some (.cells us.toArray e' fr)) (hul : us.length = size) (h1 : ∀ u ∈ us, u.oneCell' = true)
    (hb1 : 1 ≤ bytes) (hbytes : (n + 1) * bytes ≤ 140737488355328) (hbase : base ≤ w.heap.size)
    (h : ∀ g cap w', w'.ownsRow base e size (.slice (some ⟨g, 0, none⟩) (n + 1) cap) (n + 1) (xs ++ us) → w.grownBy w' v.ownBlock → (v.ownBlock = some g ∨ g = w.heap.size) → g < w'.heap.size → K (a.put o.dst (.slice (some ⟨g, 0, none⟩) (n + 1) cap)) w') :
    if Region.wanted o (yielded ops a.tmps) = true then Oper.wp P o a w K Q else E := by
  refine step_append_lies _ hgd s x t ho base e i z size bytes ht hi hz hsize hby hzs hsz v n xs hs hown ⟨g0, 0, none⟩ 1 1 us hx (by omega) ?_ h1 (by decide) ?_ hbytes hbase w.heap.size rfl h
  · exact World.news_of_block hblk
  · have : n + 1 ≤ (n + 1) * bytes := Nat.le_mul_of_pos_right _ hb1
    unfold maxLen; omega
end
/-- a row of elements of m cells each, cell by cell -/
theorem flat_get {α : Type} (f : α → List Value) (m : Nat) (hf : ∀ x, (f x).length = m) : ∀ (l : List α) (j c : Nat), c < m → (l.flatMap f)[j * m + c]? = (l[j]?).bind fun x => (f x)[c]?
  | [], j, c, _ => by simp
  | x :: l, 0, c, hc => by
    rw [List.flatMap_cons, Nat.zero_mul, Nat.zero_add, List.getElem?_append_left (by rw [hf]; exact hc)]; rfl
  | x :: l, j + 1, c, hc => by
    have e : (j + 1) * m + c = m + (j * m + c) := by rw [Nat.add_mul]; omega
    rw [List.flatMap_cons, e, List.getElem?_append_right (by rw [hf]; omega), hf, Nat.add_sub_cancel_left, flat_get f m hf l j c hc]; rfl
theorem flat_len {α : Type} (f : α → List Value) (m : Nat) (hf : ∀ x, (f x).length = m) : ∀ (l : List α), (l.flatMap f).length = l.length * m
  | [] => by simp
  | x :: l => by rw [List.flatMap_cons, List.length_append, hf, flat_len f m hf l, List.length_cons, Nat.add_mul]; omega
theorem own_cell {w : World} {base : Nat} {e : TypeId} {size : Nat} {v : Value} {n : Nat} {xs : List Value} (h : w.ownsRow base e size v n xs) (hn : 0 < n) :
    ∃ g cap, v = .slice (some ⟨g, 0, none⟩) n cap ∧ n ≤ cap ∧ g < w.heap.size ∧ ∀ j, j < n * size → w.cell? ⟨g, j, none⟩ = xs[j]? := by
  have hl := h.lt
  obtain ⟨h0, h⟩ := h
  rcases h with ⟨-, h⟩ | ⟨g, cap, cur, rfl, hb, hg, hc, hm, hs, ht⟩
  · omega
  · refine ⟨g, cap, rfl, hc, (hl g rfl).2, fun j hj => ?_⟩
    rw [cell_of_heap hg]
    have : (cur.toList.take (n * size))[j]? = cur[j]? := by
      rw [List.getElem?_take, if_pos hj]; simp
    rw [← this, ht]
end Go.Proofs.YtmlgajhhnojdjaaGreatDoor.Aux
/- Sentences in memory: what the project's reader makes of all lines, form by form. -/
namespace Go.Proofs.YtmlgajhhnojdjaaGreatDoor.PrjL
open Go Go.RowKit Go.Proofs.YtmlgajhhnojdjaaGreatDoor.Spec Go.Proofs.YtmlgajhhnojdjaaGreatDoor.Aux Go.Proofs.YtmlgajhhnojdjaaGreatDoor.PrjF Go.Proofs.YtmlgajhhnojdjaaGreatDoor.PrjG Go.Proofs.YtmlgajhhnojdjaaGreatDoor.PrjH Go.Proofs.YtmlgajhhnojdjaaGreatDoor.PrjI Go.Proofs.YtmlgajhhnojdjaaGreatDoor.PrjJ Go.Proofs.YtmlgajhhnojdjaaGreatDoor.PrjK

theorem admitsP_few (raw : Bool) (o : OrdP) (op : Nat) : (admitsP raw o op).1.locals ≤ o.locals + 1 ∧ (admitsP raw o op).1.blocks ≤ o.blocks + 1 := by
  unfold admitsP
  repeat (first | (split; (first | exact ⟨by simp, by simp⟩ | skip)) | exact ⟨by simp, by simp⟩)
/-- where the reader of lines stands behind k of them -/
structure Along (raw : Bool) (LS : List (List B)) (k : Nat) (done : List (Nat × List B)) (o : OrdP) : Prop where
  same : splitGo raw LS ⟨0, 0, 0⟩ 0 = (done ++ (splitGo raw (LS.drop k) o k).1, (splitGo raw (LS.drop k) o k).2)
  len : done.length = k
  sec : o.sec ≤ 2
  few : o.locals ≤ k ∧ o.blocks ≤ k
theorem Along.start (raw : Bool) (LS : List (List B)) : Along raw LS 0 [] ⟨0, 0, 0⟩ := ⟨rfl, rfl, by simp, by simp⟩
theorem Along.bad {raw : Bool} {LS : List (List B)} {k : Nat} {done : List (Nat × List B)} {o : OrdP} (h : Along raw LS k done o) (hk : k < LS.length) (hs : sentP LS[k] = none) : (splitGo raw LS ⟨0, 0, 0⟩ 0).2.2 = some k := by
  rw [h.same, List.drop_eq_getElem_cons hk, splitGo, hs]
theorem Along.out {raw : Bool} {LS : List (List B)} {k : Nat} {done : List (Nat × List B)} {o : OrdP} (h : Along raw LS k done o) (hk : k < LS.length) {x : Nat × List B} (hs : sentP LS[k] = some x) (ha : (admitsP raw o x.1).2 = false) : (splitGo raw LS ⟨0, 0, 0⟩ 0).2.2 = some k := by
  rw [h.same, List.drop_eq_getElem_cons hk, splitGo, hs]
  simp only
  rw [if_neg (by rw [ha]; simp)]
theorem Along.on {raw : Bool} {LS : List (List B)} {k : Nat} {done : List (Nat × List B)} {o : OrdP} (h : Along raw LS k done o) (hk : k < LS.length) {x : Nat × List B} (hs : sentP LS[k] = some x) (ha : (admitsP raw o x.1).2 = true) : Along raw LS (k + 1) (done ++ [x]) (admitsP raw o x.1).1 := by
  refine ⟨?_, by simp [h.len], admitsP_sec raw o x.1 h.sec, ?_⟩
  · rw [h.same, List.drop_eq_getElem_cons hk, splitGo, hs]
    simp only
    rw [if_pos ha]
    simp
  · have := admitsP_few raw o x.1
    have := h.few
    omega
theorem Along.whole {raw : Bool} {LS : List (List B)} {k : Nat} {done : List (Nat × List B)} {o : OrdP} (h : Along raw LS k done o) (hk : ¬ k < LS.length) : splitGo raw LS ⟨0, 0, 0⟩ 0 = (done, o, none) := by
  rw [h.same, List.drop_eq_nil_of_le (by omega), splitGo]; simp

/-- sentences in memory: a row of the call's own, each with its words -/
def sentCells (S : List (Nat × List B)) (vs : List Value) : List Value := (S.zip vs).flatMap fun x => [.int .i64 (x.1.1 : Nat), x.2]
structure SentsAt (z : Nat) (w : World) (v : Value) (S : List (Nat × List B)) (vs : List Value) : Prop where
  len : vs.length = S.length
  row : w.ownsRow z 240 2 v S.length (sentCells S vs)
  each : ∀ j, j < S.length → WordsAt w (vs.getD j undef) (S.getD j (0, [])).2
theorem SentsAt.nil (z : Nat) (w : World) : SentsAt z w (.slice none 0 0) [] [] := ⟨rfl, World.ownsRow_nil _ _ _ _, fun j hj => by simp at hj⟩
theorem SentsAt.below {z : Nat} {w w' : World} {v : Value} {S : List (Nat × List B)} {vs : List Value} (h : SentsAt z w v S vs) (hb : Below w.heap.size w w') : SentsAt z w' v S vs :=
  ⟨h.len, own_below h.row hb, fun j hj => (h.each j hj).below hb⟩
theorem words_heap {w w' : World} {v : Value} {L : List B} (h : WordsAt w v L) (hb : ∀ (g : Nat) (cs : Array Value) (f : Nat × Nat), w.heap[g]? = some (.cells cs 9 f) → w'.heap[g]? = w.heap[g]?) : WordsAt w' v L := by
  obtain ⟨g, o, cap, rfl, hc, ⟨cs, f, hg⟩, hcell⟩ := h
  have e := hb g cs f hg
  refine ⟨g, o, cap, rfl, hc, ⟨cs, f, e.trans hg⟩, fun j hj => ?_⟩
  have := hcell j hj
  simp only [World.cell?] at this ⊢
  rw [e]; exact this
/-- what lies in a row of another type is not turned by an append -/
theorem own_type_ne {w : World} {z : Nat} {e e' : TypeId} {size : Nat} {v : Value} {n : Nat} {xs : List Value} (h : w.ownsRow z e size v n xs) {g : Nat} {cs : Array Value} {f : Nat × Nat} (hg : w.heap[g]? = some (.cells cs e' f)) (he : e ≠ e') : some g ≠ v.ownBlock :=
  fun x => own_at_ne h hg he x.symm
theorem SentsAt.turn {z b : Nat} {w w' : World} {v : Value} {S : List (Nat × List B)} {vs : List Value} (h : SentsAt z w v S vs) (hb : Turn b w w') {cs : Array Value} {f : Nat × Nat} (ho : w.heap[b]? = some (.cells cs 238 f)) : SentsAt z w' v S vs := by
  have key : ∀ (g : Nat) (cs' : Array Value) (e' : TypeId) (f' : Nat × Nat), w.heap[g]? = some (.cells cs' e' f') → e' ≠ 238 → w'.heap[g]? = w.heap[g]? := fun g cs' e' f' hg he => hb.block g (lt_of_heap hg) (fun x => by
    subst x; rw [ho] at hg; simp only [Option.some.injEq, Obj.cells.injEq] at hg; exact he hg.2.1.symm)
  refine ⟨h.len, own_heap h.row (fun g hg => ?_), fun j hj => words_heap (h.each j hj) fun g cs' f' hg => key g cs' _ f' hg (by decide)⟩
  rcases h.row.2 with ⟨rfl, -⟩ | ⟨g', cap, cur, rfl, -, hg', -⟩
  · cases hg
  · simp only [Value.ownBlock, Option.some.injEq] at hg
    subst hg
    exact key _ _ _ _ hg' (by decide)
/-- a sentence more -/
theorem SentsAt.more {z : Nat} {w w2 w3 : World} {v v' u : Value} {S : List (Nat × List B)} {vs : List Value} (h : SentsAt z w v S vs) (x : Nat × List B) (hu : WordsAt w u x.2) (h2 : Below w.heap.size w w2)
    (h3 : w3.ownsRow z 240 2 v' (S.length + 1) (sentCells S vs ++ [.int .i64 (x.1 : Nat), u])) (hg : w2.grownBy w3 v.ownBlock) : SentsAt z w3 v' (S ++ [x]) (vs ++ [u]) := by
  have H := h.below h2
  have hu2 := hu.below h2
  have keep : ∀ (g : Nat) (cs : Array Value) (f : Nat × Nat), w2.heap[g]? = some (.cells cs 9 f) → w3.heap[g]? = w2.heap[g]? := fun g cs f hgg => hg.block g (lt_of_heap hgg) (own_type_ne H.row hgg (by decide))
  refine ⟨by simp [h.len], ?_, fun j hj => ?_⟩
  · have : sentCells (S ++ [x]) (vs ++ [u]) = sentCells S vs ++ [.int .i64 (x.1 : Nat), u] := by
      unfold sentCells
      rw [List.zip_append h.len.symm]
      simp
    rw [this]
    simpa using h3
  · simp at hj
    by_cases hlt : j < S.length
    · have e1 : (vs ++ [u]).getD j undef = vs.getD j undef := by simp [List.getD_eq_getElem?_getD, List.getElem?_append, h.len, hlt]
      have e2 : (S ++ [x]).getD j (0, []) = S.getD j (0, []) := by simp [List.getD_eq_getElem?_getD, List.getElem?_append, hlt]
      rw [e1, e2]
      exact words_heap (H.each j hlt) keep
    · obtain rfl : j = S.length := by omega
      have e1 : (vs ++ [u]).getD S.length undef = u := by simp [List.getD_eq_getElem?_getD, ← h.len]
      have e2 : (S ++ [x]).getD S.length (0, []) = x := by simp [List.getD_eq_getElem?_getD]
      rw [e1, e2]
      exact words_heap hu2 keep
/-- sentence j, as a walk reads it -/
theorem SentsAt.at {z : Nat} {w : World} {v : Value} {S : List (Nat × List B)} {vs : List Value} (h : SentsAt z w v S vs) (j : Nat) (hj : j < S.length) :
    ∃ g cap, v = .slice (some ⟨g, 0, none⟩) S.length cap ∧ S.length ≤ cap ∧ g < w.heap.size ∧ w.cell? ⟨g, j * 2, none⟩ = some (.int .i64 ((S.getD j (0, [])).1 : Nat)) ∧ w.cell? ⟨g, j * 2 + 1, none⟩ = some (vs.getD j undef) := by
  obtain ⟨g, cap, hv, hc, hlt, hcell⟩ := own_cell h.row (by omega)
  have hz : (S.zip vs)[j]? = some (S.getD j (0, []), vs.getD j undef) := by
    have : j < vs.length := by rw [h.len]; exact hj
    simp [List.getElem?_zip_eq_some, hj, this]
  have f0 := flat_get (fun x : (Nat × List B) × Value => [.int .i64 (x.1.1 : Nat), x.2]) 2 (fun _ => rfl) (S.zip vs) j 0 (by decide)
  have f1 := flat_get (fun x : (Nat × List B) × Value => [.int .i64 (x.1.1 : Nat), x.2]) 2 (fun _ => rfl) (S.zip vs) j 1 (by decide)
  rw [hz] at f0 f1
  exact ⟨g, cap, hv, hc, hlt, (hcell (j * 2) (by omega)).trans f0, (hcell (j * 2 + 1) (by omega)).trans f1⟩
end Go.Proofs.YtmlgajhhnojdjaaGreatDoor.PrjL
/- How a program of the project's reader lies in memory, while it is made and behind it. -/
namespace Go.Proofs.YtmlgajhhnojdjaaGreatDoor.PrjM
open Go Go.RowKit Go.Proofs.YtmlgajhhnojdjaaGreatDoor.Spec Go.Proofs.YtmlgajhhnojdjaaGreatDoor.Aux Go.Proofs.YtmlgajhhnojdjaaGreatDoor.PrjF Go.Proofs.YtmlgajhhnojdjaaGreatDoor.PrjG Go.Proofs.YtmlgajhhnojdjaaGreatDoor.PrjH Go.Proofs.YtmlgajhhnojdjaaGreatDoor.PrjI Go.Proofs.YtmlgajhhnojdjaaGreatDoor.PrjJ Go.Proofs.YtmlgajhhnojdjaaGreatDoor.PrjK Go.Proofs.YtmlgajhhnojdjaaGreatDoor.PrjL

def locCell (x : B × Nat) : List Value := [.string (bs x.1), .int .i64 (x.2 : Nat)]
def locCells (ls : List (B × Nat)) : List Value := ls.flatMap locCell
def plCell (x : Nat × Nat) : List Value := [.int .i64 (x.1 : Nat), .int .i64 (x.2 : Nat)]
def plCells (ls : List (Nat × Nat)) : List Value := ls.flatMap plCell
def lineCell (x : QLine × Value × Value) : List Value := [.int .i64 (x.1.num : Nat), .int .i64 (x.1.op : Nat), x.2.1, .int .i64 x.1.number, .int .i64 x.1.flag, x.2.2]
def lineCells (ls : List QLine) (vs : List (Value × Value)) : List Value := (ls.zip vs).flatMap lineCell
def QLine.nil : QLine := ⟨0, 0, [], 0, 0, []⟩
/-- a line's places and ways on -/
structure LineAt (z : Nat) (w : World) (l : QLine) (vp vn : Value) : Prop where
  places : w.ownsRow z 119 2 vp l.places.length (plCells l.places)
  next : w.ownsRow z 3 1 vn l.next.length (intCells l.next)
structure BlockAt (z : Nat) (w : World) (v : Value) (ls : List QLine) (vs : List (Value × Value)) : Prop where
  len : vs.length = ls.length
  row : w.ownsRow z 115 6 v ls.length (lineCells ls vs)
  each : ∀ j, j < ls.length → LineAt z w (ls.getD j QLine.nil) (vs.getD j (undef, undef)).1 (vs.getD j (undef, undef)).2
structure PAt (z a : Nat) (w : World) (q : QP) (vl vb : Value) (us : List Value) (vss : List (List (Value × Value))) : Prop where
  base : z ≤ a
  blk : w.heap[a]? = some (.cells #[vl, vb] 110 (0, 0))
  locals : w.ownsRow z 146 2 vl q.locals.length (locCells q.locals)
  blocks : w.ownsRow z 106 1 vb q.blocks.length us
  each : ∀ j, j < q.blocks.length → BlockAt z w (us.getD j undef) (q.blocks.getD j []) (vss.getD j [])
  apart : ∀ i j, i < j → j < q.blocks.length → (us.getD i undef).ownBlock = none ∨ (us.getD i undef).ownBlock ≠ (us.getD j undef).ownBlock
section
variable {z a : Nat} {w w' w2 w3 : World} {q : QP} {vl vb v' : Value} {us : List Value} {vss : List (List (Value × Value))}
theorem PAt.usl (h : PAt z a w q vl vb us vss) : us.length = q.blocks.length := by have := h.blocks.1; omega
theorem PAt.lt (h : PAt z a w q vl vb us vss) : a < w.heap.size := lt_of_heap h.blk
theorem LineAt.keep {l : QLine} {vp vn : Value} (h : LineAt z w l vp vn) (k : ∀ {e : TypeId} {s : Nat} {v : Value} {n : Nat} {xs : List Value}, e = 119 ∨ e = 3 → w.ownsRow z e s v n xs → w'.ownsRow z e s v n xs) : LineAt z w' l vp vn :=
  ⟨k (.inl rfl) h.places, k (.inr rfl) h.next⟩
theorem BlockAt.keep {v : Value} {ls : List QLine} {vs : List (Value × Value)} (h : BlockAt z w v ls vs) (hr : w'.ownsRow z 115 6 v ls.length (lineCells ls vs))
    (k : ∀ {e : TypeId} {s : Nat} {v : Value} {n : Nat} {xs : List Value}, e = 119 ∨ e = 3 → w.ownsRow z e s v n xs → w'.ownsRow z e s v n xs) : BlockAt z w' v ls vs :=
  ⟨h.len, hr, fun j hj => (h.each j hj).keep k⟩
theorem LineAt.below {l : QLine} {vp vn : Value} (h : LineAt z w l vp vn) (hb : Below w.heap.size w w') : LineAt z w' l vp vn := h.keep fun _ h => own_below h hb
theorem BlockAt.below {v : Value} {ls : List QLine} {vs : List (Value × Value)} (h : BlockAt z w v ls vs) (hb : Below w.heap.size w w') : BlockAt z w' v ls vs := h.keep (own_below h.row hb) fun _ h => own_below h hb
theorem PAt.below (h : PAt z a w q vl vb us vss) (hb : Below w.heap.size w w') : PAt z a w' q vl vb us vss :=
  ⟨h.base, by rw [hb.block a h.lt]; exact h.blk, own_below h.locals hb, own_below h.blocks hb, fun j hj => (h.each j hj).below hb, h.apart⟩
theorem PAt.start (z : Nat) (w : World) (hz : z ≤ w.heap.size) : PAt z w.heap.size (w.alloc (.cells #[.slice none 0 0, .slice none 0 0] 110)) QP.empty (.slice none 0 0) (.slice none 0 0) [] [] :=
  ⟨hz, by show (w.heap.push _)[w.heap.size]? = _; simp, World.ownsRow_nil _ _ _ _, World.ownsRow_nil _ _ _ _, fun j hj => by simp [QP.empty] at hj, fun i j _ hj => by simp [QP.empty] at hj⟩

/-- a local more -/
theorem PAt.addLocal (h : PAt z a w q vl vb us vss) (x : B × Nat) (h2 : Below w.heap.size w w2)
    (h3 : w3.ownsRow z 146 2 v' (q.locals.length + 1) (locCells q.locals ++ locCell x)) (hg : w2.grownBy w3 vl.ownBlock) :
    PAt z a (w3.setCell ⟨a, 0, none⟩ v') (q.addLocal x) v' vb us vss := by
  have H := h.below h2
  have hne : some a ≠ vl.ownBlock := own_type_ne H.locals H.blk (by decide)
  have hblk : w3.heap[a]? = some (.cells #[vl, vb] 110 (0, 0)) := by rw [hg.block a H.lt hne]; exact H.blk
  have keep : ∀ {e : TypeId} {s : Nat} {v : Value} {n : Nat} {xs : List Value}, w2.ownsRow z e s v n xs → e ≠ 146 → e ≠ 110 → (w3.setCell ⟨a, 0, none⟩ v').ownsRow z e s v n xs := by
    intro e s v n xs hv he he'
    have hk := hv.kept hg (own_ne hv H.locals he)
    exact own_setCell hk _ (own_at_ne hk hblk he')
  refine ⟨h.base, ?_, ?_, keep H.blocks (by decide) (by decide), fun j hj => (H.each j hj).keep (keep (H.each j hj).row (by decide) (by decide)) (fun he hv => keep hv ?_ ?_), h.apart⟩
  · rw [Go.Proofs.YtmlgajhhnojdjaaGreatDoor.Aux.heap_setCell_same hblk]; rfl
  · have := own_setCell h3 (a := ⟨a, 0, none⟩) v' (own_at_ne h3 hblk (by decide))
    simpa [QP.addLocal, locCells] using this
  · rcases he with rfl | rfl <;> decide
  · rcases he with rfl | rfl <;> decide
/-- a block more -/
theorem PAt.addBlock (h : PAt z a w q vl vb us vss) (hl : vss.length = q.blocks.length) (h2 : Below w.heap.size w w2)
    (h3 : w3.ownsRow z 106 1 v' (q.blocks.length + 1) (us ++ [.slice none 0 0])) (hg : w2.grownBy w3 vb.ownBlock) :
    PAt z a (w3.setCell ⟨a, 1, none⟩ v') q.addBlock vl v' (us ++ [.slice none 0 0]) (vss ++ [[]]) := by
  have H := h.below h2
  have hu := h.usl
  have hne : some a ≠ vb.ownBlock := own_type_ne H.blocks H.blk (by decide)
  have hblk : w3.heap[a]? = some (.cells #[vl, vb] 110 (0, 0)) := by rw [hg.block a H.lt hne]; exact H.blk
  have keep : ∀ {e : TypeId} {s : Nat} {v : Value} {n : Nat} {xs : List Value}, w2.ownsRow z e s v n xs → e ≠ 106 → e ≠ 110 → (w3.setCell ⟨a, 1, none⟩ v').ownsRow z e s v n xs := by
    intro e s v n xs hv he he'
    have hk := hv.kept hg (own_ne hv H.blocks he)
    exact own_setCell hk _ (own_at_ne hk hblk he')
  have eu : ∀ j, j < q.blocks.length → (us ++ [Value.slice none 0 0]).getD j undef = us.getD j undef := fun j hj => by simp [List.getD_eq_getElem?_getD, List.getElem?_append, hu, hj]
  have el : (us ++ [Value.slice none 0 0]).getD q.blocks.length undef = .slice none 0 0 := by simp [List.getD_eq_getElem?_getD, ← hu]
  refine ⟨h.base, ?_, keep H.locals (by decide) (by decide), ?_, fun j hj => ?_, fun i j hij hj => ?_⟩
  · rw [Go.Proofs.YtmlgajhhnojdjaaGreatDoor.Aux.heap_setCell_same hblk]; rfl
  · have := own_setCell h3 (a := ⟨a, 1, none⟩) v' (own_at_ne h3 hblk (by decide))
    simpa [QP.addBlock] using this
  · simp only [QP.addBlock, List.length_append, List.length_singleton] at hj
    by_cases hlt : j < q.blocks.length
    · have e2 : q.addBlock.blocks.getD j [] = q.blocks.getD j [] := by simp [QP.addBlock, List.getD_eq_getElem?_getD, List.getElem?_append, hlt]
      have e3 : (vss ++ [[]]).getD j [] = vss.getD j [] := by simp [List.getD_eq_getElem?_getD, List.getElem?_append, hl, hlt]
      rw [eu j hlt, e2, e3]
      refine (H.each j hlt).keep (keep (H.each j hlt).row (by decide) (by decide)) (fun he hv => keep hv ?_ ?_)
      · rcases he with rfl | rfl <;> decide
      · rcases he with rfl | rfl <;> decide
    · obtain rfl : j = q.blocks.length := by omega
      have e2 : q.addBlock.blocks.getD q.blocks.length [] = [] := by simp [QP.addBlock, List.getD_eq_getElem?_getD]
      have e3 : (vss ++ [[]]).getD q.blocks.length [] = [] := by simp [List.getD_eq_getElem?_getD, ← hl]
      rw [el, e2, e3]
      exact ⟨rfl, World.ownsRow_nil _ _ _ _, fun j hj => by simp at hj⟩
  · simp only [QP.addBlock, List.length_append, List.length_singleton] at hj
    by_cases hlt : j < q.blocks.length
    · rw [eu j hlt, eu i (by omega)]; exact h.apart i j hij hlt
    · obtain rfl : j = q.blocks.length := by omega
      rw [eu i (by omega), el]
      cases hx : (us.getD i undef).ownBlock with
      | none => exact .inl rfl
      | some g => exact .inr (by simp [Value.ownBlock])
/-- a line more, of the last block -/
theorem PAt.addLine (h : PAt z a w q vl vb us vss) (hl : vss.length = q.blocks.length) (n : Nat) (hn : q.blocks.length = n + 1) (l : QLine) (vp vn : Value) (hL : LineAt z w l vp vn) (h2 : Below w.heap.size w w2)
    {gb cb : Nat} (hvb : vb = .slice (some ⟨gb, 0, none⟩) (n + 1) cb) {g : Nat} (hv' : v'.ownBlock = some g) (hat : (us.getD n undef).ownBlock = some g ∨ w2.heap.size ≤ g)
    (h3 : w3.ownsRow z 115 6 v' ((q.blocks.getD n []).length + 1) (lineCells (q.blocks.getD n []) (vss.getD n []) ++ lineCell (l, vp, vn))) (hg : w2.grownBy w3 (us.getD n undef).ownBlock) :
    PAt z a (w3.setCell ⟨gb, n, none⟩ v') (q.addLine l) vl vb (us.set n v') (vss.set n (vss.getD n [] ++ [(vp, vn)])) := by
  have H := h.below h2
  have HL := hL.below h2
  have hu := h.usl
  have hlast : n < q.blocks.length := by omega
  have HN := H.each n hlast
  have hne : some a ≠ (us.getD n undef).ownBlock := own_type_ne HN.row H.blk (by decide)
  have hblk : w3.heap[a]? = some (.cells #[vl, vb] 110 (0, 0)) := by rw [hg.block a H.lt hne]; exact H.blk
  have HB3 : w3.ownsRow z 106 1 vb q.blocks.length us := H.blocks.kept hg (own_ne H.blocks HN.row (by decide))
  obtain ⟨g', cap, cur, e, hzg, hcur, hcap, hmax, hsz, htk⟩ : ∃ g' cap cur, vb = .slice (some ⟨g', 0, none⟩) q.blocks.length cap ∧ z ≤ g' ∧ w3.heap[g']? = some (.cells cur 106 (0, 0)) ∧ q.blocks.length ≤ cap ∧ cap ≤ maxLen ∧ cur.size = cap * 1 ∧ cur.toList.take (q.blocks.length * 1) = us := by
    rcases HB3.2 with ⟨e, -⟩ | ⟨g', cap, cur, e, r⟩
    · rw [hvb] at e; cases e
    · exact ⟨g', cap, cur, e, r⟩
  have : g' = gb := by rw [hvb] at e; simp only [Value.slice.injEq, Option.some.injEq, Addr.mk.injEq] at e; exact e.1.1.symm
  subst this
  have keep : ∀ {e : TypeId} {s : Nat} {v : Value} {n' : Nat} {xs : List Value}, w2.ownsRow z e s v n' xs → (v.ownBlock = none ∨ v.ownBlock ≠ (us.getD n undef).ownBlock) → e ≠ 106 → (w3.setCell ⟨g', n, none⟩ v').ownsRow z e s v n' xs := by
    intro e s v n' xs hv hnn he'
    have hk := hv.kept hg hnn
    exact own_setCell hk _ (own_at_ne hk hcur he')
  have eu : ∀ j, ¬ j = n → (us.set n v').getD j undef = us.getD j undef := fun j hj => by simp [List.getD_eq_getElem?_getD, List.getElem?_set_ne (Ne.symm hj)]
  have eun : (us.set n v').getD n undef = v' := by simp [List.getD_eq_getElem?_getD, hu, hlast]
  have hB : q.blocks = q.blocks.dropLast ++ [q.blocks.getD n []] := by
    have hne : q.blocks ≠ [] := by intro e; rw [e] at hlast; simp at hlast
    conv => lhs; rw [← List.dropLast_concat_getLast hne]
    congr 2
    rw [List.getLast_eq_getElem]
    simp [List.getD_eq_getElem?_getD, hn]
  have hD : q.blocks.dropLast.length = n := by simp [hn]
  have hlB : (q.addLine l).blocks = q.blocks.dropLast ++ [q.blocks.getD n [] ++ [l]] := by
    have : q.blocks.getLastD [] = q.blocks.getD n [] := by rw [hB]; simp [List.getD_eq_getElem?_getD, hD]
    simp only [QP.addLine, this]
  have ebn : (q.addLine l).blocks.getD n [] = q.blocks.getD n [] ++ [l] := by rw [hlB]; simp [List.getD_eq_getElem?_getD, hD]
  have eb : ∀ j, j < n → (q.addLine l).blocks.getD j [] = q.blocks.getD j [] := fun j hj => by
    rw [hlB, hB]; simp [List.getD_eq_getElem?_getD, List.getElem?_append, hD, hj]
  have elen : (q.addLine l).blocks.length = n + 1 := by rw [hlB]; simp [hD]
  have ev : ∀ j, ¬ j = n → (vss.set n (vss.getD n [] ++ [(vp, vn)])).getD j [] = vss.getD j [] := fun j hj => by simp [List.getD_eq_getElem?_getD, List.getElem?_set_ne (Ne.symm hj)]
  have evn : (vss.set n (vss.getD n [] ++ [(vp, vn)])).getD n [] = vss.getD n [] ++ [(vp, vn)] := by simp [List.getD_eq_getElem?_getD, hl, hlast]
  have ne2 : ∀ {e : TypeId} {s : Nat} {v : Value} {n' : Nat} {xs : List Value}, e = 119 ∨ e = 3 → w2.ownsRow z e s v n' xs → (w3.setCell ⟨g', n, none⟩ v').ownsRow z e s v n' xs := fun he hv =>
    keep hv (own_ne hv HN.row (by rcases he with rfl | rfl <;> decide)) (by rcases he with rfl | rfl <;> decide)
  refine ⟨h.base, ?_, keep H.locals (own_ne H.locals HN.row (by decide)) (by decide), ?_, fun j hj => ?_, fun i j hij hj => ?_⟩
  · rw [Below.heap_setCell _ _ _ _ (by show a ≠ g'; intro e; rw [e, hcur] at hblk; simp only [Option.some.injEq, Obj.cells.injEq] at hblk; exact absurd hblk.2.1 (by decide))]; exact hblk
  · rw [elen]
    refine ⟨by simp [hu, hn], .inr ⟨g', cap, cur.setIfInBounds n v', by rw [e, hn], hzg, Go.Proofs.YtmlgajhhnojdjaaGreatDoor.Aux.heap_setCell_same hcur n v', by omega, hmax, by simpa using hsz, ?_⟩⟩
    rw [Array.toList_setIfInBounds, ← htk, hn, List.take_set]
  · rw [elen] at hj
    by_cases hjn : j = n
    · subst hjn
      rw [eun, ebn, evn]
      refine ⟨by rw [List.length_append, List.length_append, HN.len]; rfl, ?_, fun i hi => ?_⟩
      · have := own_setCell h3 (a := ⟨g', j, none⟩) v' (own_at_ne h3 hcur (by decide))
        have e2 : lineCells (q.blocks.getD j [] ++ [l]) (vss.getD j [] ++ [(vp, vn)]) = lineCells (q.blocks.getD j []) (vss.getD j []) ++ lineCell (l, vp, vn) := by
          unfold lineCells
          rw [List.zip_append HN.len.symm]; simp
        rw [e2]
        simpa using this
      · simp at hi
        by_cases hlt : i < (q.blocks.getD j []).length
        · have e1 : (q.blocks.getD j [] ++ [l]).getD i QLine.nil = (q.blocks.getD j []).getD i QLine.nil := by rw [List.getD_eq_getElem?_getD, List.getElem?_append_left hlt, ← List.getD_eq_getElem?_getD]
          have e2 : (vss.getD j [] ++ [(vp, vn)]).getD i (undef, undef) = (vss.getD j []).getD i (undef, undef) := by rw [List.getD_eq_getElem?_getD, List.getElem?_append_left (by rw [HN.len]; exact hlt), ← List.getD_eq_getElem?_getD]
          rw [e1, e2]
          exact (HN.each i hlt).keep ne2
        · have hi' : i = (q.blocks.getD j []).length := by simp only [List.getD_eq_getElem?_getD] at hlt hi ⊢; omega
          have e1 : (q.blocks.getD j [] ++ [l]).getD i QLine.nil = l := by rw [hi', List.getD_eq_getElem?_getD, List.getElem?_append_right (Nat.le_refl _)]; simp
          have e2 : (vss.getD j [] ++ [(vp, vn)]).getD i (undef, undef) = (vp, vn) := by rw [hi', ← HN.len, List.getD_eq_getElem?_getD, List.getElem?_append_right (Nat.le_refl _)]; simp
          rw [e1, e2]
          exact HL.keep ne2
    · have hjl : j < n := by omega
      rw [eu j hjn, eb j hjl, ev j hjn]
      refine (H.each j (by omega)).keep (keep (H.each j (by omega)).row (h.apart j n hjl hlast) (by decide)) ne2
  · rw [elen] at hj
    by_cases hjn : j = n
    · subst hjn
      rw [eu i (by omega), eun, hv']
      cases hx : (us.getD i undef).ownBlock with
      | none => exact .inl rfl
      | some g0 =>
        refine .inr fun hc => ?_
        simp only [Option.some.injEq] at hc
        subst hc
        rcases hat with hat | hat
        · rcases h.apart i j hij hlast with h0 | h0
          · rw [hx] at h0; cases h0
          · rw [hx, hat] at h0; exact h0 rfl
        · have := own_lt (H.each i (by omega)).row g0 hx
          omega
    · rw [eu i (by omega), eu j hjn]; exact h.apart i j hij (by omega)
end
end Go.Proofs.YtmlgajhhnojdjaaGreatDoor.PrjM
