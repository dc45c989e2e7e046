/- Rows whose elements have several cells: one element appended, one element read; what a row holds is not turned by another type's row. -/
import Derived.Test.YtmlgajhhnojdjaaGreatDoorPAG
import Derived.Test.YtmlgajhhnojdjaaGreatDoorPAH
import Derived.Deep.DeepMust
namespace Go.Proofs.YtmlgajhhnojdjaaGreatDoor.Aux
open Go Go.RowKit Go.Proofs.YtmlgajhhnojdjaaGreatDoor.Spec

section
variable {P : Program} {w : World} {ops : Array Oper} {rest : List Oper} {o : Oper} {a : Act} {Q : Exit → Act → World → Prop}
theorem append_blk (hgd : o.guard = none) (s x : Operand) (t : TypeId)
    (ho : o.op = .call { callee := .builtin .append, args := #[s, x], argTypes := #[t, t] })
    (base : Nat) (e : TypeId) (i : TypeInfo) (z : Value) (size bytes : Nat) (ht : P.underlying t = some (.slice e)) (hi : P.info? e = some i) (hz : i.zero = some z)
    (hsize : i.size = size) (hby : i.bytes = bytes) (hzs : z.cells.size = size) (hsz : 0 < size)
    (v : Value) (n : Nat) (xs : List Value) (hs : a.eval s = v) (hown : w.ownsRow base e size v n xs)
    (g0 : Nat) (us : List Value) (hx : a.eval x = .slice (some ⟨g0, 0, none⟩) 1 1) {e' : TypeId} {fr : Nat × Nat} (hblk : w.heap[g0]? = some (.cells us.toArray e' fr)) (hul : us.length = size) (h1 : ∀ u ∈ us, u.oneCell' = true)
    (hb1 : 1 ≤ bytes) (hbytes : (n + 1) * bytes ≤ 140737488355328) (hbase : base ≤ w.heap.size)
    (h : ∀ g cap w', w'.ownsRow base e size (.slice (some ⟨g, 0, none⟩) (n + 1) cap) (n + 1) (xs ++ us) → w.grownBy w' v.ownBlock → (v.ownBlock = some g ∨ g = w.heap.size) → g < w'.heap.size → wpList P ops Q rest (a.put o.dst (.slice (some ⟨g, 0, none⟩) (n + 1) cap)) w') : wpList P ops Q (o :: rest) a w := by
  refine wpList_append_lies _ hgd s x t ho base e i z size bytes ht hi hz hsize hby hzs hsz v n xs hs hown ⟨g0, 0, none⟩ 1 1 us hx (by omega) ?_ h1 (by decide) ?_ hbytes hbase w.heap.size rfl h
  · exact World.news_of_block hblk
  · have : n + 1 ≤ (n + 1) * bytes := Nat.le_mul_of_pos_right _ hb1
    unfold maxLen; omega
theorem step_blk {K : Act → World → Prop} {E : Prop} (hgd : o.guard = none) (s x : Operand) (t : TypeId)
    (ho : o.op = .call { callee := .builtin .append, args := #[s, x], argTypes := #[t, t] })
    (base : Nat) (e : TypeId) (i : TypeInfo) (z : Value) (size bytes : Nat) (ht : P.underlying t = some (.slice e)) (hi : P.info? e = some i) (hz : i.zero = some z)
    (hsize : i.size = size) (hby : i.bytes = bytes) (hzs : z.cells.size = size) (hsz : 0 < size)
    (v : Value) (n : Nat) (xs : List Value) (hs : a.eval s = v) (hown : w.ownsRow base e size v n xs)
    (g0 : Nat) (us : List Value) (hx : a.eval x = .slice (some ⟨g0, 0, none⟩) 1 1) {e' : TypeId} {fr : Nat × Nat} (hblk : w.heap[g0]? = some (.cells us.toArray e' fr)) (hul : us.length = size) (h1 : ∀ u ∈ us, u.oneCell' = true)
    (hb1 : 1 ≤ bytes) (hbytes : (n + 1) * bytes ≤ 140737488355328) (hbase : base ≤ w.heap.size)
    (h : ∀ g cap w', w'.ownsRow base e size (.slice (some ⟨g, 0, none⟩) (n + 1) cap) (n + 1) (xs ++ us) → w.grownBy w' v.ownBlock → (v.ownBlock = some g ∨ g = w.heap.size) → g < w'.heap.size → K (a.put o.dst (.slice (some ⟨g, 0, none⟩) (n + 1) cap)) w') :
    if Region.wanted o (yielded ops a.tmps) = true then Oper.wp P o a w K Q else E := by
  refine step_append_lies _ hgd s x t ho base e i z size bytes ht hi hz hsize hby hzs hsz v n xs hs hown ⟨g0, 0, none⟩ 1 1 us hx (by omega) ?_ h1 (by decide) ?_ hbytes hbase w.heap.size rfl h
  · exact World.news_of_block hblk
  · have : n + 1 ≤ (n + 1) * bytes := Nat.le_mul_of_pos_right _ hb1
    unfold maxLen; omega
end
/-- a row of elements of m cells each, cell by cell -/
theorem flat_get {α : Type} (f : α → List Value) (m : Nat) (hf : ∀ x, (f x).length = m) : ∀ (l : List α) (j c : Nat), c < m → (l.flatMap f)[j * m + c]? = (l[j]?).bind fun x => (f x)[c]?
  | [], j, c, _ => by simp
  | x :: l, 0, c, hc => by
    rw [List.flatMap_cons, Nat.zero_mul, Nat.zero_add, List.getElem?_append_left (by rw [hf]; exact hc)]; rfl
  | x :: l, j + 1, c, hc => by
    have e : (j + 1) * m + c = m + (j * m + c) := by rw [Nat.add_mul]; omega
    rw [List.flatMap_cons, e, List.getElem?_append_right (by rw [hf]; omega), hf, Nat.add_sub_cancel_left, flat_get f m hf l j c hc]; rfl
theorem flat_len {α : Type} (f : α → List Value) (m : Nat) (hf : ∀ x, (f x).length = m) : ∀ (l : List α), (l.flatMap f).length = l.length * m
  | [] => by simp
  | x :: l => by rw [List.flatMap_cons, List.length_append, hf, flat_len f m hf l, List.length_cons, Nat.add_mul]; omega
theorem own_cell {w : World} {base : Nat} {e : TypeId} {size : Nat} {v : Value} {n : Nat} {xs : List Value} (h : w.ownsRow base e size v n xs) (hn : 0 < n) :
    ∃ g cap, v = .slice (some ⟨g, 0, none⟩) n cap ∧ n ≤ cap ∧ g < w.heap.size ∧ ∀ j, j < n * size → w.cell? ⟨g, j, none⟩ = xs[j]? := by
  have hl := h.lt
  obtain ⟨h0, h⟩ := h
  rcases h with ⟨-, h⟩ | ⟨g, cap, cur, rfl, hb, hg, hc, hm, hs, ht⟩
  · omega
  · refine ⟨g, cap, rfl, hc, (hl g rfl).2, fun j hj => ?_⟩
    rw [cell_of_heap hg]
    have : (cur.toList.take (n * size))[j]? = cur[j]? := by
      rw [List.getElem?_take, if_pos hj]; simp
    rw [← this, ht]
theorem own_nil {w : World} {base : Nat} {e : TypeId} {size : Nat} {v : Value} {xs : List Value} (h : w.ownsRow base e size v 0 xs) : xs = [] := by
  have := h.1; simpa using this
end Go.Proofs.YtmlgajhhnojdjaaGreatDoor.Aux
/- Sentences in memory: what the project's reader makes of all lines, form by form. -/
namespace Go.Proofs.YtmlgajhhnojdjaaGreatDoor.PrjL
open Go Go.RowKit Go.Proofs.YtmlgajhhnojdjaaGreatDoor.Spec Go.Proofs.YtmlgajhhnojdjaaGreatDoor.Aux Go.Proofs.YtmlgajhhnojdjaaGreatDoor.PrjF Go.Proofs.YtmlgajhhnojdjaaGreatDoor.PrjG Go.Proofs.YtmlgajhhnojdjaaGreatDoor.PrjH Go.Proofs.YtmlgajhhnojdjaaGreatDoor.PrjI Go.Proofs.YtmlgajhhnojdjaaGreatDoor.PrjJ Go.Proofs.YtmlgajhhnojdjaaGreatDoor.PrjK

theorem admitsP_few (raw : Bool) (o : OrdP) (op : Nat) : (admitsP raw o op).1.locals ≤ o.locals + 1 ∧ (admitsP raw o op).1.blocks ≤ o.blocks + 1 := by
  unfold admitsP
  repeat (first | (split; (first | exact ⟨by simp, by simp⟩ | skip)) | exact ⟨by simp, by simp⟩)
/-- where the reader of lines stands behind k of them -/
structure Along (raw : Bool) (LS : List (List B)) (k : Nat) (done : List (Nat × List B)) (o : OrdP) : Prop where
  same : splitGo raw LS ⟨0, 0, 0⟩ 0 = (done ++ (splitGo raw (LS.drop k) o k).1, (splitGo raw (LS.drop k) o k).2)
  len : done.length = k
  sec : o.sec ≤ 2
  few : o.locals ≤ k ∧ o.blocks ≤ k
theorem Along.start (raw : Bool) (LS : List (List B)) : Along raw LS 0 [] ⟨0, 0, 0⟩ := ⟨rfl, rfl, by simp, by simp⟩
theorem Along.bad {raw : Bool} {LS : List (List B)} {k : Nat} {done : List (Nat × List B)} {o : OrdP} (h : Along raw LS k done o) (hk : k < LS.length) (hs : sentP LS[k] = none) : (splitGo raw LS ⟨0, 0, 0⟩ 0).2.2 = some k := by
  rw [h.same, List.drop_eq_getElem_cons hk, splitGo, hs]
theorem Along.out {raw : Bool} {LS : List (List B)} {k : Nat} {done : List (Nat × List B)} {o : OrdP} (h : Along raw LS k done o) (hk : k < LS.length) {x : Nat × List B} (hs : sentP LS[k] = some x) (ha : (admitsP raw o x.1).2 = false) : (splitGo raw LS ⟨0, 0, 0⟩ 0).2.2 = some k := by
  rw [h.same, List.drop_eq_getElem_cons hk, splitGo, hs]
  simp only
  rw [if_neg (by rw [ha]; simp)]
theorem Along.on {raw : Bool} {LS : List (List B)} {k : Nat} {done : List (Nat × List B)} {o : OrdP} (h : Along raw LS k done o) (hk : k < LS.length) {x : Nat × List B} (hs : sentP LS[k] = some x) (ha : (admitsP raw o x.1).2 = true) : Along raw LS (k + 1) (done ++ [x]) (admitsP raw o x.1).1 := by
  refine ⟨?_, by simp [h.len], admitsP_sec raw o x.1 h.sec, ?_⟩
  · rw [h.same, List.drop_eq_getElem_cons hk, splitGo, hs]
    simp only
    rw [if_pos ha]
    simp
  · have := admitsP_few raw o x.1
    have := h.few
    omega
theorem Along.whole {raw : Bool} {LS : List (List B)} {k : Nat} {done : List (Nat × List B)} {o : OrdP} (h : Along raw LS k done o) (hk : ¬ k < LS.length) : splitGo raw LS ⟨0, 0, 0⟩ 0 = (done, o, none) := by
  rw [h.same, List.drop_eq_nil_of_le (by omega), splitGo]; simp

/-- sentences in memory: a row of the call's own, each with its words -/
def sentCells (S : List (Nat × List B)) (vs : List Value) : List Value := (S.zip vs).flatMap fun x => [.int .i64 (x.1.1 : Nat), x.2]
structure SentsAt (z : Nat) (w : World) (v : Value) (S : List (Nat × List B)) (vs : List Value) : Prop where
  len : vs.length = S.length
  row : w.ownsRow z 240 2 v S.length (sentCells S vs)
  each : ∀ j, j < S.length → WordsAt w (vs.getD j undef) (S.getD j (0, [])).2
theorem SentsAt.nil (z : Nat) (w : World) : SentsAt z w (.slice none 0 0) [] [] := ⟨rfl, World.ownsRow_nil _ _ _ _, fun j hj => by simp at hj⟩
theorem SentsAt.below {z : Nat} {w w' : World} {v : Value} {S : List (Nat × List B)} {vs : List Value} (h : SentsAt z w v S vs) (hb : Below w.heap.size w w') : SentsAt z w' v S vs :=
  ⟨h.len, own_below h.row hb, fun j hj => (h.each j hj).below hb⟩
theorem words_heap {w w' : World} {v : Value} {L : List B} (h : WordsAt w v L) (hb : ∀ (g : Nat) (cs : Array Value) (f : Nat × Nat), w.heap[g]? = some (.cells cs 9 f) → w'.heap[g]? = w.heap[g]?) : WordsAt w' v L := by
  obtain ⟨g, o, cap, rfl, hc, ⟨cs, f, hg⟩, hcell⟩ := h
  have e := hb g cs f hg
  refine ⟨g, o, cap, rfl, hc, ⟨cs, f, e.trans hg⟩, fun j hj => ?_⟩
  have := hcell j hj
  simp only [World.cell?] at this ⊢
  rw [e]; exact this
/-- what lies in a row of another type is not turned by an append -/
theorem own_type_ne {w : World} {z : Nat} {e e' : TypeId} {size : Nat} {v : Value} {n : Nat} {xs : List Value} (h : w.ownsRow z e size v n xs) {g : Nat} {cs : Array Value} {f : Nat × Nat} (hg : w.heap[g]? = some (.cells cs e' f)) (he : e ≠ e') : some g ≠ v.ownBlock :=
  fun x => own_at_ne h hg he x.symm
theorem SentsAt.turn {z b : Nat} {w w' : World} {v : Value} {S : List (Nat × List B)} {vs : List Value} (h : SentsAt z w v S vs) (hb : Turn b w w') {cs : Array Value} {f : Nat × Nat} (ho : w.heap[b]? = some (.cells cs 238 f)) : SentsAt z w' v S vs := by
  have key : ∀ (g : Nat) (cs' : Array Value) (e' : TypeId) (f' : Nat × Nat), w.heap[g]? = some (.cells cs' e' f') → e' ≠ 238 → w'.heap[g]? = w.heap[g]? := fun g cs' e' f' hg he => hb.block g (lt_of_heap hg) (fun x => by
    subst x; rw [ho] at hg; simp only [Option.some.injEq, Obj.cells.injEq] at hg; exact he hg.2.1.symm)
  refine ⟨h.len, own_heap h.row (fun g hg => ?_), fun j hj => words_heap (h.each j hj) fun g cs' f' hg => key g cs' _ f' hg (by decide)⟩
  rcases h.row.2 with ⟨rfl, -⟩ | ⟨g', cap, cur, rfl, -, hg', -⟩
  · cases hg
  · simp only [Value.ownBlock, Option.some.injEq] at hg
    subst hg
    exact key _ _ _ _ hg' (by decide)
/-- a sentence more -/
theorem SentsAt.more {z : Nat} {w w2 w3 : World} {v v' u : Value} {S : List (Nat × List B)} {vs : List Value} (h : SentsAt z w v S vs) (x : Nat × List B) (hu : WordsAt w u x.2) (h2 : Below w.heap.size w w2)
    (h3 : w3.ownsRow z 240 2 v' (S.length + 1) (sentCells S vs ++ [.int .i64 (x.1 : Nat), u])) (hg : w2.grownBy w3 v.ownBlock) : SentsAt z w3 v' (S ++ [x]) (vs ++ [u]) := by
  have H := h.below h2
  have hu2 := hu.below h2
  have keep : ∀ (g : Nat) (cs : Array Value) (f : Nat × Nat), w2.heap[g]? = some (.cells cs 9 f) → w3.heap[g]? = w2.heap[g]? := fun g cs f hgg => hg.block g (lt_of_heap hgg) (own_type_ne H.row hgg (by decide))
  refine ⟨by simp [h.len], ?_, fun j hj => ?_⟩
  · have : sentCells (S ++ [x]) (vs ++ [u]) = sentCells S vs ++ [.int .i64 (x.1 : Nat), u] := by
      unfold sentCells
      rw [List.zip_append h.len.symm]
      simp
    rw [this]
    simpa using h3
  · simp at hj
    by_cases hlt : j < S.length
    · have e1 : (vs ++ [u]).getD j undef = vs.getD j undef := by simp [List.getD_eq_getElem?_getD, List.getElem?_append, h.len, hlt]
      have e2 : (S ++ [x]).getD j (0, []) = S.getD j (0, []) := by simp [List.getD_eq_getElem?_getD, List.getElem?_append, hlt]
      rw [e1, e2]
      exact words_heap (H.each j hlt) keep
    · obtain rfl : j = S.length := by omega
      have e1 : (vs ++ [u]).getD S.length undef = u := by simp [List.getD_eq_getElem?_getD, ← h.len]
      have e2 : (S ++ [x]).getD S.length (0, []) = x := by simp [List.getD_eq_getElem?_getD]
      rw [e1, e2]
      exact words_heap hu2 keep
/-- sentence j, as a walk reads it -/
theorem SentsAt.at {z : Nat} {w : World} {v : Value} {S : List (Nat × List B)} {vs : List Value} (h : SentsAt z w v S vs) (j : Nat) (hj : j < S.length) :
    ∃ g cap, v = .slice (some ⟨g, 0, none⟩) S.length cap ∧ S.length ≤ cap ∧ g < w.heap.size ∧ w.cell? ⟨g, j * 2, none⟩ = some (.int .i64 ((S.getD j (0, [])).1 : Nat)) ∧ w.cell? ⟨g, j * 2 + 1, none⟩ = some (vs.getD j undef) := by
  obtain ⟨g, cap, hv, hc, hlt, hcell⟩ := own_cell h.row (by omega)
  have hz : (S.zip vs)[j]? = some (S.getD j (0, []), vs.getD j undef) := by
    have : j < vs.length := by rw [h.len]; exact hj
    simp [List.getElem?_zip_eq_some, hj, this]
  have f0 := flat_get (fun x : (Nat × List B) × Value => [.int .i64 (x.1.1 : Nat), x.2]) 2 (fun _ => rfl) (S.zip vs) j 0 (by decide)
  have f1 := flat_get (fun x : (Nat × List B) × Value => [.int .i64 (x.1.1 : Nat), x.2]) 2 (fun _ => rfl) (S.zip vs) j 1 (by decide)
  rw [hz] at f0 f1
  exact ⟨g, cap, hv, hc, hlt, (hcell (j * 2) (by omega)).trans f0, (hcell (j * 2 + 1) (by omega)).trans f1⟩
end Go.Proofs.YtmlgajhhnojdjaaGreatDoor.PrjL
/- What the project's reader makes of all lines: the form. -/
namespace Go.Proofs.YtmlgajhhnojdjaaGreatDoor.PrjN
open Go Go.RowKit Go.Proofs.YtmlgajhhnojdjaaGreatDoor.Spec Go.Proofs.YtmlgajhhnojdjaaGreatDoor.Aux Go.Proofs.YtmlgajhhnojdjaaGreatDoor.PrjF Go.Proofs.YtmlgajhhnojdjaaGreatDoor.PrjG Go.Proofs.YtmlgajhhnojdjaaGreatDoor.PrjH Go.Proofs.YtmlgajhhnojdjaaGreatDoor.PrjI Go.Proofs.YtmlgajhhnojdjaaGreatDoor.PrjJ Go.Proofs.YtmlgajhhnojdjaaGreatDoor.PrjK Go.Proofs.YtmlgajhhnojdjaaGreatDoor.PrjL

def SplitPost (raw : Bool) (L : List B) (w : World) (e : Ending) (w' : World) : Prop :=
  Below w.heap.size w w' ∧ match splitGo raw (L.map (split 32)) ⟨0, 0, 0⟩ 0 with
    | (_, _, some k) => e = .returned (.tuple #[.slice none 0 0, .int .i64 (k : Nat), .bool false])
    | (S, o, none) => ∃ v vs, e = .returned (.tuple #[v, .int .i64 (L.length : Nat), .bool (decide (o.sec = 2))]) ∧ SentsAt w.heap.size w' v S vs
theorem SplitPost.bad {raw : Bool} {L : List B} {w w' : World} {k : Nat} (hb : Below w.heap.size w w') (h : (splitGo raw (L.map (split 32)) ⟨0, 0, 0⟩ 0).2.2 = some k) : SplitPost raw L w (.returned (.tuple #[.slice none 0 0, .int .i64 (k : Nat), .bool false])) w' := by
  refine ⟨hb, ?_⟩
  generalize splitGo raw (L.map (split 32)) ⟨0, 0, 0⟩ 0 = R at h
  obtain ⟨S, o, x⟩ := R
  simp only at h
  subst h
  rfl
theorem SplitPost.good {raw : Bool} {L : List B} {w w' : World} {S : List (Nat × List B)} {o : OrdP} {v : Value} {vs : List Value} (hb : Below w.heap.size w w') (h : splitGo raw (L.map (split 32)) ⟨0, 0, 0⟩ 0 = (S, o, none)) (hs : SentsAt w.heap.size w' v S vs) : SplitPost raw L w (.returned (.tuple #[v, .int .i64 (L.length : Nat), .bool (decide (o.sec = 2))])) w' := by
  refine ⟨hb, ?_⟩
  rw [h]
  exact ⟨v, vs, rfl, hs⟩
theorem words_one {w : World} {u : Value} {L : List B} (h : WordsAt w u L) : u.oneCell' = true := by
  obtain ⟨g, o, cap, rfl, -⟩ := h; rfl
theorem one_two {n : Int} {u : Value} (h : u.oneCell' = true) : ∀ u' ∈ [Value.int .i64 n, u], u'.oneCell' = true := by
  intro u' hu; simp at hu; rcases hu with rfl | rfl
  · rfl
  · exact h
theorem words_turn {b : Nat} {w w' : World} {v : Value} {L : List B} (h : WordsAt w v L) (hb : Turn b w w') {raw : Bool} {ln mb : Nat} {o : OrdP} (ho : OrdAt w b raw ln mb o) : WordsAt w' v L :=
  words_heap h fun g cs f hg => hb.block g (lt_of_heap hg) (fun x => by
    subst x; unfold OrdAt at ho; rw [ho] at hg; simp only [Option.some.injEq, Obj.cells.injEq] at hg; exact absurd hg.2.1 (by decide))
theorem sent_block {b : Nat} {w w' : World} {x y : Value} (hb : Turn b (w.alloc (.cells #[x, y] 240)) w') (hne : b < w.heap.size) : w'.cell? ⟨w.heap.size, 0, none⟩ = some x ∧ w'.cell? ⟨w.heap.size, 1, none⟩ = some y := by
  have h0 : (w.alloc (.cells #[x, y] 240)).heap[w.heap.size]? = some (.cells #[x, y] 240 (0, 0)) := Array.getElem?_push_size
  have h1 : w'.heap[w.heap.size]? = some (.cells #[x, y] 240 (0, 0)) := (hb.block _ (lt_of_heap h0) (by omega)).trans h0
  exact ⟨by rw [cell_of_heap h1]; rfl, by rw [cell_of_heap h1]; rfl⟩
theorem info_sent : (Tryz.prog.info? 240).map (fun i => (i.zero, i.size, i.bytes)) = some (some (.agg #[.int .i64 0, .slice none 0 0]), 2, 32) := by kernel_rfl
set_option maxRecDepth 20000 in
set_option maxHeartbeats 1000000 in
theorem split_any (raw : Bool) (ln g cap : Nat) (L : List B) (w : World) (hL : L.length ≤ 4000) (_hcap : L.length ≤ cap) (hg : g < w.heap.size) (hcell : ∀ j, j < L.length → w.cell? ⟨g, j, none⟩ = some (.string (bs (word L j)))) (hlen : ∀ j, (word L j).length ≤ 1048576) (E : Env w) :
    Calls Tryz.prog 115 #[.agg #[.bool raw, .int .i64 ln, .int .i64 (if raw then 2000 else 20 : Nat)], .slice (some ⟨g, 0, none⟩) L.length cap] w (SplitPost raw L w) := by
  obtain ⟨i0, hi0, hz0, hz1, hz2⟩ := info_parts info_sent
  have KA := fun (op : Nat) (o : OrdP) (w' : World) => admits_any raw ln (w.heap.size + 1) op o w'
  generalize (if raw then 2000 else 20 : Nat) = mb at KA ⊢
  have hb0 : Below w.heap.size w ((w.alloc (.cells #[.bool raw, .int .i64 ln, .int .i64 mb] 130)).alloc (.cells #[.bool raw, .int .i64 ln, .int .i64 mb, .int .i64 0, .int .i64 0, .int .i64 0] 238)) := ((Below.refl _ _).alloc (Nat.le_refl _) _).alloc (by simp) _
  have hO0 : OrdAt ((w.alloc (.cells #[.bool raw, .int .i64 ln, .int .i64 mb] 130)).alloc (.cells #[.bool raw, .int .i64 ln, .int .i64 mb, .int .i64 0, .int .i64 0, .int .i64 0] 238)) (w.heap.size + 1) raw ln mb ⟨0, 0, 0⟩ := by
    unfold OrdAt
    rw [show w.heap.size + 1 = (w.alloc (.cells #[.bool raw, .int .i64 ln, .int .i64 mb] 130)).heap.size by simp]
    exact Array.getElem?_push_size
  go_enter Tryz.func115, Tryz.ntmps115
  go_wp2
  go_loopw [4, 16] (fun v i wr => ∃ (k : Nat) (done : List (Nat × List B)) (o : OrdP) (vs : List Value), k ≤ L.length ∧ i = .int .i64 k ∧ OrdAt wr (w.heap.size + 1) raw ln mb o ∧ SentsAt w.heap.size wr v done vs ∧ Below w.heap.size w wr ∧ Hid (Along raw (L.map (split 32)) k done o)) (fun _ i _ => L.length - (intOf i).toNat)
  case atStart => exact ⟨0, [], ⟨0, 0, 0⟩, [], Nat.zero_le _, rfl, hO0, SentsAt.nil _ _, hb0, Along.start raw _⟩
  case round =>
    obtain ⟨k, done, o, vs, hk, rfl, hO, hS, hB, HA⟩ := hrel
    clear hb0 hO0
    by_cases hlt : k < L.length
    · have hck : wr.cell? ⟨g, k, none⟩ = some (.string (bs (word L k))) := (hB.cell (p := ⟨g, k, none⟩) hg).trans (hcell k hlt)
      have KS := sentenceOf_any (word L k) wr (hlen k) (E.on hB)
      have hlk : k < (L.map (split 32)).length := by simpa using hlt
      have hword : Hid ((L.map (split 32))[k] = split 32 (word L k)) := by
        unfold Hid; simp [word, hlt]
      have hsz : w.heap.size + 1 < wr.heap.size := lt_of_heap hO
      cases hx : sentP (split 32 (word L k)) with
      | none =>
        have hbad := HA.out.bad hlk (by rw [hword.out]; exact hx)
        unfold SentPost at KS
        rw [hx] at KS
        clear hx
        go_wp2_with (go_at_call 163; refine KS.mono ?_; rintro e w1 ⟨hb1, rfl⟩)
        go_ret3
        exact SplitPost.bad ((hB.trans (hb1.mono hB.size)).alloc (Nat.le_trans hB.size hb1.size) _) hbad
      | some x =>
        obtain ⟨-, hopx⟩ := sentP_sent hx
        have hop := opIdx_lt hopx
        have hfew := HA.out.few
        have hlen2 := HA.out.len
        unfold SentPost at KS
        rw [hx] at KS
        replace KS : Calls Tryz.prog 163 #[.string (bs (word L k))] wr fun e w' => Below wr.heap.size wr w' ∧ ∃ gw ow cw, e = .returned (.tuple #[.agg #[.int .i64 (x.1 : Nat), .slice (some ⟨gw, ow, none⟩) x.2.length cw], .bool true]) ∧ WordsAt w' (.slice (some ⟨gw, ow, none⟩) x.2.length cw) x.2 :=
          KS.mono fun e w' ⟨h1, v, h2, h3⟩ => by
            have h3' := h3
            obtain ⟨gw, ow, cw, rfl, -⟩ := h3'
            exact ⟨h1, gw, ow, cw, h2, h3⟩
        cases ha : (admitsP raw o x.1).2 with
        | false =>
          have hbad := HA.out.out hlk (by rw [hword.out]; exact hx) ha
          have KB : ∀ w', OrdAt w' (w.heap.size + 1) raw ln mb o → w.heap.size + 1 < w'.heap.size → Calls Tryz.prog 164 #[.pointer (some ⟨w.heap.size + 1, 0, none⟩), .int .i64 x.1] w' fun e w'' => e = .returned (.bool false) ∧ OrdAt w'' (w.heap.size + 1) raw ln mb (admitsP raw o x.1).1 ∧ Turn (w.heap.size + 1) w' w'' := fun w' h1 h2 => by
            have := KA x.1 o w' h1 hop (by omega) (by omega) h2
            unfold AdmitsPost at this
            rwa [ha] at this
          clear hx ha hopx hlen2 hfew KA
          go_wp2_with (first
            | (go_at_call 163; refine KS.mono ?_; rintro e w1 ⟨hb1, gw, ow, cw, rfl, hu⟩; have hsA : w.heap.size + 1 < (w1.alloc (.cells #[.int .i64 (x.1 : Nat), .slice (some ⟨gw, ow, none⟩) x.2.length cw] 240)).heap.size := (by have := hb1.size; simp; omega); have hOA := hO.below (hb1.alloc hb1.size (.cells #[.int .i64 (x.1 : Nat), .slice (some ⟨gw, ow, none⟩) x.2.length cw] 240)) hsz)
            | (go_at_call 164; refine (KB _ hOA hsA).mono ?_; rintro e w2 ⟨rfl, hO2, hT2⟩))
          go_ret3
          exact SplitPost.bad ((hB.trans ((hb1.alloc hb1.size _).mono hB.size)).trans (hT2.below (by omega) (by omega))) hbad
        | true =>
          have HA2 : Hid (Along raw (L.map (split 32)) (k + 1) (done ++ [x]) (admitsP raw o x.1).1) := HA.out.on hlk (by rw [hword.out]; exact hx) ha
          have KB : ∀ w', OrdAt w' (w.heap.size + 1) raw ln mb o → w.heap.size + 1 < w'.heap.size → Calls Tryz.prog 164 #[.pointer (some ⟨w.heap.size + 1, 0, none⟩), .int .i64 x.1] w' fun e w'' => e = .returned (.bool true) ∧ OrdAt w'' (w.heap.size + 1) raw ln mb (admitsP raw o x.1).1 ∧ Turn (w.heap.size + 1) w' w'' := fun w' h1 h2 => by
            have := KA x.1 o w' h1 hop (by omega) (by omega) h2
            unfold AdmitsPost at this
            rwa [ha] at this
          clear hx ha hopx hfew KA
          go_wp2_with (first
            | (go_at_call 163; refine KS.mono ?_; rintro e w1 ⟨hb1, gw, ow, cw, rfl, hu⟩; have hsA : w.heap.size + 1 < (w1.alloc (.cells #[.int .i64 (x.1 : Nat), .slice (some ⟨gw, ow, none⟩) x.2.length cw] 240)).heap.size := (by have := hb1.size; simp; omega); have hOA := hO.below (hb1.alloc hb1.size (.cells #[.int .i64 (x.1 : Nat), .slice (some ⟨gw, ow, none⟩) x.2.length cw] 240)) hsz)
            | (go_at_call 164; refine (KB _ hOA hsA).mono ?_; rintro e w2 ⟨rfl, hO2, hT2⟩; have hsb := sent_block hT2 (by have := hb1.size; omega); obtain ⟨hs0, hs1⟩ := hsb; have hS2 := (hS.below (hb1.alloc hb1.size (.cells #[.int .i64 (x.1 : Nat), .slice (some ⟨gw, ow, none⟩) x.2.length cw] 240))).turn hT2 hOA; have hu1 := words_one hu; have hbs : w.heap.size ≤ w2.heap.size := (by have := hT2.size; omega))
            | (at_builtin; go_must (refine append_blk rfl _ _ 193 rfl w.heap.size 240 i0 (.agg #[.int .i64 0, .slice none 0 0]) 2 32 Tryz.underlying193 hi0 hz0 hz1 hz2 rfl (by decide) _ _ _ rfl (own_below hS2.row ((Below.refl _ _).alloc (Nat.le_refl _) (.cells #[.int .i64 (x.1 : Nat), .slice (some ⟨gw, ow, none⟩) x.2.length cw] 240))) w2.heap.size [.int .i64 (x.1 : Nat), .slice (some ⟨gw, ow, none⟩) x.2.length cw] rfl Array.getElem?_push_size rfl (one_two hu1) (by decide) (by omega) (by simp; omega) ?_); intro g3 c3 w3 hown3 hgrow3 hat3 hlt3))
          go_roundw
          case rel =>
            have hbe : Below w2.heap.size w2 (w2.alloc (.cells #[.int .i64 (x.1 : Nat), .slice (some ⟨gw, ow, none⟩) x.2.length cw] 240)) := (Below.refl _ _).alloc (Nat.le_refl _) _
            have hB2 : Below w.heap.size w w2 := (hB.trans ((hb1.alloc hb1.size _).mono hB.size)).trans (hT2.below (by omega) (by omega))
            have hu2 := words_turn (hu.below ((Below.refl _ _).alloc (Nat.le_refl _) (.cells #[.int .i64 (x.1 : Nat), .slice (some ⟨gw, ow, none⟩) x.2.length cw] 240))) hT2 hOA
            have hOE := hO2.below hbe (lt_of_heap hO2)
            have hmore := hS2.more x hu2 hbe hown3 hgrow3
            rw [hlen2] at hmore
            refine ⟨k + 1, done ++ [x], (admitsP raw o x.1).1, vs ++ [.slice (some ⟨gw, ow, none⟩) x.2.length cw], by omega, by go_num, ?_, hmore, below_append hB2 (Nat.le_refl _) hB2.size hS2.row hgrow3, HA2⟩
            unfold OrdAt at hOE ⊢
            rw [hgrow3.block _ (lt_of_heap hOE) (own_type_ne (own_below hS2.row hbe) hOE (by decide))]
            exact hOE
          case measure => simp [intOf]; omega
    · have hw := HA.out.whole (by simpa using hlt)
      have KD := fun w' (h : OrdAt w' (w.heap.size + 1) raw ln mb o) => done_any raw ln mb (w.heap.size + 1) o w' h
      go_wp2_with (go_at_call 165; refine (KD _ hO).mono ?_; rintro e wd ⟨rfl, rfl⟩)
      go_ret3
      exact SplitPost.good hB hw hS
end Go.Proofs.YtmlgajhhnojdjaaGreatDoor.PrjN
