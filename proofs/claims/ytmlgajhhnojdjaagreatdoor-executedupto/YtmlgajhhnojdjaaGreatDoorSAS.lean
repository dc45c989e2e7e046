/- What the project's reader leaves, as plain functions say it: facts that its own parts ask of one another. -/
import Derived.Test.YtmlgajhhnojdjaaGreatDoorSAP
import Derived.Deep.DeepCutAuto
import Derived.Test.YtmlgajhhnojdjaaGreatDoorSAQ
namespace Go.Proofs.YtmlgajhhnojdjaaGreatDoor.PrjV
open Go Go.RowKit Go.Proofs.YtmlgajhhnojdjaaGreatDoor.Spec Go.Proofs.YtmlgajhhnojdjaaGreatDoor.Aux Go.Proofs.YtmlgajhhnojdjaaGreatDoor.PrjF Go.Proofs.YtmlgajhhnojdjaaGreatDoor.PrjG Go.Proofs.YtmlgajhhnojdjaaGreatDoor.PrjH Go.Proofs.YtmlgajhhnojdjaaGreatDoor.PrjI Go.Proofs.YtmlgajhhnojdjaaGreatDoor.PrjJ Go.Proofs.YtmlgajhhnojdjaaGreatDoor.PrjK Go.Proofs.YtmlgajhhnojdjaaGreatDoor.PrjL Go.Proofs.YtmlgajhhnojdjaaGreatDoor.PrjM Go.Proofs.YtmlgajhhnojdjaaGreatDoor.PrjN Go.Proofs.YtmlgajhhnojdjaaGreatDoor.PrjO Go.Proofs.YtmlgajhhnojdjaaGreatDoor.PrjP Go.Proofs.YtmlgajhhnojdjaaGreatDoor.PrjQ Go.Proofs.YtmlgajhhnojdjaaGreatDoor.PrjR Go.Proofs.YtmlgajhhnojdjaaGreatDoor.PrjS Go.Proofs.YtmlgajhhnojdjaaGreatDoor.PrjT Go.Proofs.YtmlgajhhnojdjaaGreatDoor.PrjU

theorem sentP_words {ws : List B} {x : Nat × List B} (h : sentP ws = some x) : x.1 < 23 ∧ x.2.length = (wantsOf x.1).length ∧ x.2 = ws.drop 1 := by
  obtain ⟨h1, h2⟩ := sentP_sent h
  rw [sentP, h2] at h
  simp only at h
  split at h
  · rename_i hc
    refine ⟨opIdx_lt h2, ?_, by rw [h1]⟩
    rw [h1]
    simp only [List.length_drop]
    rw [h2]
    exact hc.1
  · cases h
theorem splitGo_len (raw : Bool) : ∀ (LS : List (List B)) (o : OrdP) (i : Nat) (S : List (Nat × List B)) (o' : OrdP), splitGo raw LS o i = (S, o', none) → S.length = LS.length ∧ ∀ j, j < LS.length → ∃ ws x, LS[j]? = some ws ∧ S[j]? = some x ∧ sentP ws = some x
  | [], o, i, S, o', h => by
    simp only [splitGo, Prod.mk.injEq] at h
    obtain ⟨rfl, -⟩ := h
    exact ⟨rfl, fun j hj => by simp at hj⟩
  | ws :: r, o, i, S, o', h => by
    rw [splitGo] at h
    cases hs : sentP ws with
    | none => rw [hs] at h; simp at h
    | some x =>
      rw [hs] at h
      simp only at h
      by_cases ha : (admitsP raw o x.1).2 = true
      · rw [if_pos ha] at h
        simp only [Prod.mk.injEq] at h
        obtain ⟨rfl, h2⟩ := h
        obtain ⟨i1, i2⟩ := splitGo_len raw r _ (i + 1) _ o' (Prod.ext rfl h2)
        refine ⟨by simp [i1], fun j hj => ?_⟩
        cases j with
        | zero => exact ⟨ws, x, rfl, rfl, hs⟩
        | succ j => simpa using i2 j (by simpa using hj)
      · rw [if_neg ha] at h; simp at h
theorem splitGo_order (raw : Bool) : ∀ (LS : List (List B)) (o : OrdP) (i : Nat) (S : List (Nat × List B)) (o' : OrdP), splitGo raw LS o i = (S, o', none) → ∀ j, j < S.length → 2 ≤ (S.getD j (0, [])).1 → o.sec = 1 ∨ 1 ≤ countB (S.take j)
  | [], o, i, S, o', h, j, hj, _ => by
    simp only [splitGo, Prod.mk.injEq] at h
    obtain ⟨rfl, -⟩ := h
    simp at hj
  | ws :: r, o, i, S, o', h, j, hj, h2 => by
    rw [splitGo] at h
    cases hs : sentP ws with
    | none => rw [hs] at h; simp at h
    | some x =>
      rw [hs] at h
      simp only at h
      by_cases ha : (admitsP raw o x.1).2 = true
      · rw [if_pos ha] at h
        simp only [Prod.mk.injEq] at h
        obtain ⟨rfl, hr⟩ := h
        have hop : ∀ (h2 : 2 ≤ x.1), o.sec = 1 := fun h2 => by
          rw [admitsP] at ha
          split at ha
          · simp at ha
          · rw [if_neg (by omega), if_neg (by omega)] at ha
            split at ha
            · simp at ha
            · rename_i h1; simpa using h1
        cases j with
        | zero => exact .inl (hop (by simpa using h2))
        | succ j =>
          have ih := splitGo_order raw r _ (i + 1) _ o' (Prod.ext rfl hr) j (by simpa using hj) (by simpa using h2)
          by_cases h1 : x.1 = 1
          · right
            unfold countB
            rw [List.take_succ_cons, List.filter_cons, if_pos (by simp [h1])]
            simp
          · rcases ih with ih | ih
            · left
              by_cases h0 : x.1 = 0
              · rw [admitsP] at ih
                split at ih
                · exact ih
                · exact ih
              · exact hop (by omega)
            · right
              unfold countB at ih ⊢
              rw [List.take_succ_cons, List.filter_cons]
              split
              · simp
              · exact ih
      · rw [if_neg ha] at h; simp at h
theorem sents_ok {raw : Bool} {L : List B} {S : List (Nat × List B)} {o : OrdP} (h : splitGo raw (L.map (split 32)) ⟨0, 0, 0⟩ 0 = (S, o, none)) (hL : L.length ≤ 4000) (hlen : ∀ j, (word L j).length ≤ 1048576) : SentsOk S ∧ S.length = L.length := by
  obtain ⟨h1, h2⟩ := splitGo_len raw _ _ _ _ _ h
  rw [List.length_map] at h1
  have key : ∀ j, j < S.length → ∃ ws, ws = split 32 (word L j) ∧ sentP ws = some (S.getD j (0, [])) := fun j hj => by
    obtain ⟨ws, x, e1, e2, e3⟩ := h2 j (by simp; omega)
    refine ⟨ws, ?_, by rw [List.getD_eq_getElem?_getD, e2]; exact e3⟩
    have hjl : j < L.length := by omega
    rw [List.getElem?_map, List.getElem?_eq_getElem hjl] at e1
    simp only [Option.map_some, Option.some.injEq] at e1
    rw [← e1]; simp [word, hjl]
  refine ⟨⟨by omega, fun j hj => ?_, fun j hj => ?_, fun j i => ?_, fun j hj h2 => ?_⟩, h1⟩
  · obtain ⟨ws, -, hs⟩ := key j hj; exact (sentP_words hs).1
  · obtain ⟨ws, -, hs⟩ := key j hj; exact (sentP_words hs).2.1
  · by_cases hj : j < S.length
    · obtain ⟨ws, e, hs⟩ := key j hj
      rw [(sentP_words hs).2.2, e]
      have : word ((split 32 (word L j)).drop 1) i = word (split 32 (word L j)) (i + 1) := by simp [word]
      rw [this]
      exact Nat.le_trans (word_split_le 32 _ _) (hlen j)
    · rw [List.getD_eq_getElem?_getD, List.getElem?_eq_none (by omega)]; simp [word]
  · have := splitGo_order raw _ _ _ _ _ h j hj h2
    rcases this with h | h
    · simp at h
    · exact h
theorem lookGo_size (nb : Nat) : ∀ (S : List (Nat × List B)) (i m : Nat) (q0 q : QP), lookGo nb S i q0 = (q, none) → (∀ b ∈ q0.blocks, b.length ≤ m) → q.locals.length ≤ q0.locals.length + S.length ∧ q.blocks.length ≤ q0.blocks.length + S.length ∧ ∀ b ∈ q.blocks, b.length ≤ m + S.length
  | [], i, m, q0, q, h, hm => by
    simp only [lookGo, Prod.mk.injEq, and_true] at h
    subst h; exact ⟨Nat.le_refl _, Nat.le_refl _, hm⟩
  | x :: r, i, m, q0, q, h, hm => by
    rw [lookGo] at h
    by_cases e0 : x.1 = 0
    · rw [if_pos e0] at h
      split at h
      · cases h
      · obtain ⟨i1, i2, i3⟩ := lookGo_size nb r (i + 1) m _ q h hm
        simp only [QP.addLocal, List.length_append, List.length_singleton] at i1 i2
        exact ⟨by simp; omega, by simp; omega, fun b hb => by have := i3 b hb; simp; omega⟩
    · rw [if_neg e0] at h
      by_cases e1 : x.1 = 1
      · rw [if_pos e1] at h
        obtain ⟨i1, i2, i3⟩ := lookGo_size nb r (i + 1) m _ q h (fun b hb => by
          simp only [QP.addBlock, List.mem_append, List.mem_singleton] at hb
          rcases hb with hb | rfl
          · exact hm b hb
          · simp)
        simp only [QP.addBlock, List.length_append, List.length_singleton] at i1 i2
        exact ⟨by simp; omega, by simp; omega, fun b hb => by have := i3 b hb; simp; omega⟩
      · rw [if_neg e1] at h
        cases hl : lineP q0.locals nb x with
        | none => rw [hl] at h; cases h
        | some l =>
          rw [hl] at h
          obtain ⟨i1, i2, i3⟩ := lookGo_size nb r (i + 1) (m + 1) _ q h (fun b hb => by
            simp only [QP.addLine, List.mem_append, List.mem_singleton] at hb
            rcases hb with hb | rfl
            · exact Nat.le_succ_of_le (hm b (List.dropLast_subset _ hb))
            · rw [List.length_append, List.length_singleton, List.getLastD_eq_getLast?]
              cases hq : q0.blocks.getLast? with
              | none => simp
              | some b' => have := hm b' (List.mem_of_getLast? hq); simp; omega)
          simp only [QP.addLine, List.length_append, List.length_singleton, List.length_dropLast] at i1 i2
          exact ⟨by simp; omega, by simp; omega, fun b hb => by have := i3 b hb; simp; omega⟩
/-- the lines of a text, as the library parts them -/
theorem lines_row (l : B) (w : World) (h : l.length ≤ 1048576) (E : Env w) :
    Calls Tryz.prog 116 #[.string (bs l), .string ⟨#[10]⟩] w fun e w' => e = .returned (.slice (some ⟨w.heap.size, 0, none⟩) (split 10 l).length (split 10 l).length) ∧ Below w.heap.size w w' ∧ w.heap.size < w'.heap.size ∧ ∀ j, j < (split 10 l).length → w'.cell? ⟨w.heap.size, j, none⟩ = some (.string (bs (word (split 10 l) j))) := by
  obtain ⟨m, hm⟩ := E.most
  have hc := countB_split 10 l.length l (Nat.le_refl _)
  refine (Tryz.strings_Split (bs l) ⟨#[10]⟩ m w (by rw [size_bs]; omega) hm (by decide)).mono ?_
  rintro e w' ⟨rfl, rfl⟩
  rw [hc]
  refine ⟨rfl, (Below.refl _ _).alloc (Nat.le_refl _) _, by simp, fun j hj => ?_⟩
  rw [((splitB_words 10 (Lib.countB (bs l) ⟨#[10]⟩) l).2.2 (by omega))]
  have : (w.alloc (.cells (((split 10 l).map bs).map Value.string).toArray 9)).heap[w.heap.size]? = some (.cells (((split 10 l).map bs).map Value.string).toArray 9 (0, 0)) := Array.getElem?_push_size
  rw [cell_of_heap this]
  simp [word, hj]
theorem count_lines (l : B) (w : World) : Calls Tryz.prog 114 #[.string (bs l), .string ⟨#[10]⟩] w fun e w' => e = .returned (.int .i64 (((split 10 l).length - 1 : Nat) : Int)) ∧ w' = w := by
  have := Tryz.strings_Count_one (bs l) 10 w
  have e : (Lib.countByte (bs l).data.toList 10 : Nat) = (split 10 l).length - 1 := by
    rw [split_count]; simp [Lib.countByte, bs]
  rw [e] at this
  exact this
end Go.Proofs.YtmlgajhhnojdjaaGreatDoor.PrjV
/- What the project's reader answers, whole: as the plain functions say. -/
namespace Go.Proofs.YtmlgajhhnojdjaaGreatDoor.PrjW
open Go Go.RowKit Go.Proofs.YtmlgajhhnojdjaaGreatDoor.Spec Go.Proofs.YtmlgajhhnojdjaaGreatDoor.Aux Go.Proofs.YtmlgajhhnojdjaaGreatDoor.PrjF Go.Proofs.YtmlgajhhnojdjaaGreatDoor.PrjG Go.Proofs.YtmlgajhhnojdjaaGreatDoor.PrjH Go.Proofs.YtmlgajhhnojdjaaGreatDoor.PrjI Go.Proofs.YtmlgajhhnojdjaaGreatDoor.PrjJ Go.Proofs.YtmlgajhhnojdjaaGreatDoor.PrjK Go.Proofs.YtmlgajhhnojdjaaGreatDoor.PrjL Go.Proofs.YtmlgajhhnojdjaaGreatDoor.PrjM Go.Proofs.YtmlgajhhnojdjaaGreatDoor.PrjN Go.Proofs.YtmlgajhhnojdjaaGreatDoor.PrjO Go.Proofs.YtmlgajhhnojdjaaGreatDoor.PrjP Go.Proofs.YtmlgajhhnojdjaaGreatDoor.PrjQ Go.Proofs.YtmlgajhhnojdjaaGreatDoor.PrjR Go.Proofs.YtmlgajhhnojdjaaGreatDoor.PrjS Go.Proofs.YtmlgajhhnojdjaaGreatDoor.PrjT Go.Proofs.YtmlgajhhnojdjaaGreatDoor.PrjU Go.Proofs.YtmlgajhhnojdjaaGreatDoor.PrjV

/-- what a program that was read has -/
structure Got (z a : Nat) (w : World) (q : QP) : Prop where
  at_ : ∃ vl vb us vss, PAt z a w q vl vb us vss
  ok : ∃ nb, nb ≤ 4000 ∧ QOk nb q
  locals : q.locals.length ≤ 4000
  blocks : q.blocks.length ≤ 4000
  lines : ∀ j, (q.blocks.getD j []).length ≤ 4000
def PReadPost (text : B) (raw : Bool) (w : World) (e : Ending) (w' : World) : Prop :=
  Below w.heap.size w w' ∧ ∃ v, e = .returned (.tuple #[v, .int .i64 ((prjRead text raw).2.1 : Nat), .int .i64 ((prjRead text raw).2.2 : Nat)]) ∧
    (((prjRead text raw).1 = none ∧ v = .pointer none) ∨ ∃ q a z, (prjRead text raw).1 = some q ∧ v = .pointer (some ⟨a, 0, none⟩) ∧ w.heap.size ≤ z ∧ Got z a w' q)
theorem PReadPost.bad {text : B} {raw : Bool} {w w' : World} {c k : Nat} (hb : Below w.heap.size w w') (h : prjRead text raw = (none, c, k)) : PReadPost text raw w (.returned (.tuple #[.pointer none, .int .i64 (c : Nat), .int .i64 (k : Nat)])) w' :=
  ⟨hb, .pointer none, by rw [h], .inl ⟨by rw [h], rfl⟩⟩
theorem PReadPost.good {text : B} {raw : Bool} {w w' : World} {q : QP} {a z : Nat} (hb : Below w.heap.size w w') (h : prjRead text raw = (some q, 0, 0)) (hz : w.heap.size ≤ z) (hg : Got z a w' q) : PReadPost text raw w (.returned (.tuple #[.pointer (some ⟨a, 0, none⟩), .int .i64 0, .int .i64 0])) w' :=
  ⟨hb, .pointer (some ⟨a, 0, none⟩), by rw [h]; rfl, .inr ⟨q, a, z, by rw [h], rfl, hz, hg⟩⟩
section
variable {text : B} {raw : Bool}
theorem read_long (h : (split 10 text).length > (if raw then 4000 else 120)) : prjRead text raw = (none, 1, 0) := by rw [prjRead, if_pos h]
theorem read_form (h : ¬ (split 10 text).length > (if raw then 4000 else 120)) {k : Nat} (hs : (splitGo raw (wordsOf text) ⟨0, 0, 0⟩ 0).2.2 = some k) : prjRead text raw = (none, 2, k) := by
  rw [prjRead, if_neg h, hs]
theorem read_short (h : ¬ (split 10 text).length > (if raw then 4000 else 120)) {S : List (Nat × List B)} {o : OrdP} (hs : splitGo raw (wordsOf text) ⟨0, 0, 0⟩ 0 = (S, o, none)) (ho : ¬ o.sec = 2) : prjRead text raw = (none, 2, (split 10 text).length) := by
  rw [prjRead, if_neg h, hs]
  simp only
  rw [if_pos ho]
theorem read_name (h : ¬ (split 10 text).length > (if raw then 4000 else 120)) {S : List (Nat × List B)} {o : OrdP} (hs : splitGo raw (wordsOf text) ⟨0, 0, 0⟩ 0 = (S, o, none)) (ho : o.sec = 2) {k : Nat} (hl : (lookGo (countB S) S 0 QP.empty).2 = some k) : prjRead text raw = (none, 3, k) := by
  rw [prjRead, if_neg h, hs]
  simp only
  rw [if_neg (by simp [ho]), hl]
theorem read_type (h : ¬ (split 10 text).length > (if raw then 4000 else 120)) {S : List (Nat × List B)} {o : OrdP} (hs : splitGo raw (wordsOf text) ⟨0, 0, 0⟩ 0 = (S, o, none)) (ho : o.sec = 2) {q : QP} (hl : lookGo (countB S) S 0 QP.empty = (q, none)) {k : Nat} (hm : q.misfit = some k) : prjRead text raw = (none, 4, k) := by
  rw [prjRead, if_neg h, hs]
  simp only
  rw [if_neg (by simp [ho]), hl]
  simp only
  rw [hm]
theorem read_good (h : ¬ (split 10 text).length > (if raw then 4000 else 120)) {S : List (Nat × List B)} {o : OrdP} (hs : splitGo raw (wordsOf text) ⟨0, 0, 0⟩ 0 = (S, o, none)) (ho : o.sec = 2) {q : QP} (hl : lookGo (countB S) S 0 QP.empty = (q, none)) (hm : q.misfit = none) : prjRead text raw = (some q, 0, 0) := by
  rw [prjRead, if_neg h, hs]
  simp only
  rw [if_neg (by simp [ho]), hl]
  simp only
  rw [hm]
end
theorem Got.make {z a nb : Nat} {w : World} {S : List (Nat × List B)} {q : QP} (hn : nb = countB S) (hS : SentsOk S) (hl : lookGo nb S 0 QP.empty = (q, none)) {vl vb : Value} {us : List Value} {vss : List (List (Value × Value))} (hp : PAt z a w q vl vb us vss) : Got z a w q := by
  have h1 := lookGo_size nb S 0 0 QP.empty q hl (fun b hb => by simp [QP.empty] at hb)
  have h2 := lookGo_ok nb S 0 QP.empty q hl (fun x hx => by
    obtain ⟨j, hj, rfl⟩ := List.getElem_of_mem hx
    have := hS.op j hj
    simpa [List.getD_eq_getElem?_getD, hj] using this) ⟨fun x hx => by simp [QP.empty] at hx, fun b hb => by simp [QP.empty] at hb⟩
  have hfew := hS.few
  simp only [QP.empty, List.length_nil, Nat.zero_add] at h1
  refine ⟨⟨vl, vb, us, vss, hp⟩, ⟨nb, by have := countB_le S; omega, h2⟩, by omega, by omega, fun j => ?_⟩
  by_cases hj : j < q.blocks.length
  · have := h1.2.2 (q.blocks.getD j []) (by simp [hj])
    omega
  · rw [List.getD_eq_getElem?_getD, List.getElem?_eq_none (by omega)]; simp
theorem split_form {raw : Bool} {L : List B} {w w' : World} {e : Ending} (h : SplitPost raw L w e w') : ∃ v7 v8 v9, e = .returned (.tuple #[v7, v8, v9]) ∧ SplitPost raw L w (.returned (.tuple #[v7, v8, v9])) w' := by
  have h' := h
  unfold SplitPost at h
  obtain ⟨-, h⟩ := h
  split at h
  · subst h; exact ⟨_, _, _, rfl, h'⟩
  · obtain ⟨v, vs, rfl, -⟩ := h; exact ⟨_, _, _, rfl, h'⟩
theorem split_cases {raw : Bool} {L : List B} {w w' : World} {v7 v8 v9 : Value} (h : SplitPost raw L w (.returned (.tuple #[v7, v8, v9])) w') : Below w.heap.size w w' ∧ ((∃ k : Nat, (splitGo raw (L.map (split 32)) ⟨0, 0, 0⟩ 0).2.2 = some k ∧ v7 = .slice none 0 0 ∧ v8 = .int .i64 (k : Nat) ∧ v9 = .bool false) ∨
    ∃ S o vs, splitGo raw (L.map (split 32)) ⟨0, 0, 0⟩ 0 = (S, o, none) ∧ v8 = .int .i64 (L.length : Nat) ∧ v9 = .bool (decide (o.sec = 2)) ∧ SentsAt w.heap.size w' v7 S vs) := by
  obtain ⟨hb, h⟩ := h
  refine ⟨hb, ?_⟩
  generalize splitGo raw (L.map (split 32)) ⟨0, 0, 0⟩ 0 = R at h ⊢
  obtain ⟨S, o, x⟩ := R
  cases x with
  | some k =>
    simp only [Ending.returned.injEq, Value.tuple.injEq, Array.mk.injEq, List.cons.injEq, and_true] at h
    exact .inl ⟨k, rfl, h.1, h.2.1, h.2.2⟩
  | none =>
    obtain ⟨v, vs, e, hs⟩ := h
    simp only [Ending.returned.injEq, Value.tuple.injEq, Array.mk.injEq, List.cons.injEq, and_true] at e
    obtain ⟨rfl, h2, h3⟩ := e
    exact .inr ⟨S, o, vs, rfl, h2, h3, hs⟩
theorem look_form {nb : Nat} {S : List (Nat × List B)} {w w' : World} {e : Ending} (h : LookPost nb S w e w') : Below w.heap.size w w' ∧ ((∃ k : Nat, (lookGo nb S 0 QP.empty).2 = some k ∧ e = .returned (.tuple #[.pointer none, .int .i64 (k : Nat), .bool false])) ∨ ∃ q a vl vb us vss, lookGo nb S 0 QP.empty = (q, none) ∧ e = .returned (.tuple #[.pointer (some ⟨a, 0, none⟩), .int .i64 0, .bool true]) ∧ PAt w.heap.size a w' q vl vb us vss) := by
  obtain ⟨hb, h⟩ := h
  refine ⟨hb, ?_⟩
  generalize lookGo nb S 0 QP.empty = R at h ⊢
  obtain ⟨q, x⟩ := R
  cases x with
  | some k => exact .inl ⟨k, rfl, h⟩
  | none =>
    obtain ⟨a, vl, vb, us, vss, h1, h2⟩ := h
    exact .inr ⟨q, a, vl, vb, us, vss, rfl, h1, h2⟩
theorem miss_form {q : QP} {w w' : World} {e : Ending} (h : MissPost q w e w') : Below w.heap.size w w' ∧ ((∃ k : Nat, q.misfit = some k ∧ e = .returned (.tuple #[.int .i64 (k : Nat), .bool true])) ∨ (q.misfit = none ∧ e = .returned (.tuple #[.int .i64 0, .bool false]))) := by
  obtain ⟨hb, h⟩ := h
  refine ⟨hb, ?_⟩
  cases hm : q.misfit with
  | some k => rw [hm] at h; exact .inl ⟨k, rfl, h⟩
  | none => rw [hm] at h; exact .inr ⟨rfl, h⟩
theorem lookUp_form {z g cap : Nat} {S : List (Nat × List B)} {vs : List Value} (w : World) (h : SentsAt z w (.slice (some ⟨g, 0, none⟩) S.length cap) S vs) (hS : SentsOk S) (hg : g < w.heap.size) (hcap : S.length ≤ cap) (E : Env w) :
    Calls Tryz.prog 117 #[.slice (some ⟨g, 0, none⟩) S.length cap] w fun e w' => Below w.heap.size w w' ∧ ((∃ k : Nat, (lookGo (countB S) S 0 QP.empty).2 = some k ∧ e = .returned (.tuple #[.pointer none, .int .i64 (k : Nat), .bool false])) ∨ ∃ q a, lookGo (countB S) S 0 QP.empty = (q, none) ∧ e = .returned (.tuple #[.pointer (some ⟨a, 0, none⟩), .int .i64 0, .bool true]) ∧ Got w.heap.size a w' q) :=
  (lookUp_any w h hS hg hcap E).mono fun e w' hl => by
    obtain ⟨h1, h2 | ⟨q, a, vl, vb, us, vss, h3, h4, h5⟩⟩ := look_form hl
    · exact ⟨h1, .inl h2⟩
    · exact ⟨h1, .inr ⟨q, a, h3, h4, Got.make rfl hS h3 h5⟩⟩
theorem misfit_form {z a : Nat} {q : QP} (w : World) (h : Got z a w q) (E : Env w) :
    Calls Tryz.prog 118 #[.pointer (some ⟨a, 0, none⟩)] w fun e w' => Below w.heap.size w w' ∧ ((∃ k : Nat, q.misfit = some k ∧ e = .returned (.tuple #[.int .i64 (k : Nat), .bool true])) ∨ (q.misfit = none ∧ e = .returned (.tuple #[.int .i64 0, .bool false]))) := by
  obtain ⟨⟨vl, vb, us, vss, hP⟩, ⟨nb, -, hq⟩, h1, h2, h3⟩ := h
  exact (misfit_any q nb z a vl vb us vss w hP h1 hq h2 h3 E).mono fun e w' hm => miss_form hm
theorem Got.below {z a : Nat} {w w' : World} {q : QP} (h : Got z a w q) (hb : Below w.heap.size w w') : Got z a w' q := by
  obtain ⟨⟨vl, vb, us, vss, hP⟩, h0, h1, h2, h3⟩ := h
  exact ⟨⟨vl, vb, us, vss, hP.below hb⟩, h0, h1, h2, h3⟩
set_option maxRecDepth 20000 in
set_option maxHeartbeats 2000000 in
theorem pread_any (text : B) (raw : Bool) (w : World) (h : text.length ≤ 1048576) (E : Env w) :
    Calls Tryz.prog 72 #[.agg #[.bool raw, .int .i64 (if raw then 4000 else 120 : Nat), .int .i64 (if raw then 2000 else 20 : Nat)], .string (bs text)] w (PReadPost text raw w) := by
  have KSp := fun w' (hL : (split 10 text).length ≤ 4000) (g cap : Nat) (hc : (split 10 text).length ≤ cap) (hg : g < w'.heap.size) (hcell : ∀ j, j < (split 10 text).length → w'.cell? ⟨g, j, none⟩ = some (.string (bs (word (split 10 text) j)))) (E' : Env w') =>
    split_any raw (if raw then 4000 else 120) g cap (split 10 text) w' hL hc hg hcell (fun j => Nat.le_trans (word_split_le 10 text j) h) E'
  have hone := one_le_split 10 text
  have KC := fun w' => count_lines text w'
  by_cases hlong : (split 10 text).length > (if raw then 4000 else 120)
  · have hx := read_long hlong
    generalize (if raw then 4000 else 120 : Nat) = ln at *
    generalize (if raw then 2000 else 20 : Nat) = mb at *
    have hcmp : (ln : Int) ≤ (((split 10 text).length - 1 : Nat) : Int) := by omega
    generalize (split 10 text).length - 1 = cnt at *
    have hbA : Below w.heap.size w (w.alloc (.cells #[.bool raw, .int .i64 (ln : Nat), .int .i64 (mb : Nat)] 130)) := (Below.refl _ _).alloc (Nat.le_refl _) _
    go_enter Tryz.func72, Tryz.ntmps72
    go_wp2
    go_quiet ((go_at_call 114; exact Calls.quiet_of_same (KC _)))
    go_wp2
    go_ret3
    exact PReadPost.bad (below_drewN hbA _) hx
  · have hL : (split 10 text).length ≤ 4000 := by cases raw <;> simp at hlong <;> omega
    have R1 := fun k => read_form (raw := raw) (text := text) hlong (k := k)
    have R2 := fun S o hs ho => read_short (raw := raw) (text := text) hlong (S := S) (o := o) hs ho
    have R3 := fun S o hs ho k hl => read_name (raw := raw) (text := text) hlong (S := S) (o := o) hs ho (k := k) hl
    have R4 := fun S o hs ho q hl k hm => read_type (raw := raw) (text := text) hlong (S := S) (o := o) hs ho (q := q) hl (k := k) hm
    have R5 := fun S o hs ho q hl hm => read_good (raw := raw) (text := text) hlong (S := S) (o := o) hs ho (q := q) hl hm
    have HR : Hid (_ ∧ _ ∧ _ ∧ _ ∧ _) := ⟨R1, R2, R3, R4, R5⟩
    clear R1 R2 R3 R4 R5
    generalize (if raw then 4000 else 120 : Nat) = ln at *
    generalize (if raw then 2000 else 20 : Nat) = mb at *
    have hcmp : ¬ (ln : Int) ≤ (((split 10 text).length - 1 : Nat) : Int) := by omega
    have hbA : Below w.heap.size w (w.alloc (.cells #[.bool raw, .int .i64 (ln : Nat), .int .i64 (mb : Nat)] 130)) := (Below.refl _ _).alloc (Nat.le_refl _) _
    have HL1 : Hid (_) := hone
    obtain ⟨cnt, hcnt⟩ : ∃ cnt, cnt = (split 10 text).length - 1 := ⟨_, rfl⟩
    rw [← hcnt] at KC hcmp
    clear hcnt hlong
    go_enter Tryz.func72, Tryz.ntmps72
    go_wp2
    go_quiet ((go_at_call 114; exact Calls.quiet_of_same (KC _)))
    go_wp2
    have hbW := below_drewN hbA nq
    have d0 : ((w.alloc (.cells #[.bool raw, .int .i64 (ln : Nat), .int .i64 (mb : Nat)] 130)).drewN nq).heap[w.heap.size]? = some (.cells #[.bool raw, .int .i64 (ln : Nat), .int .i64 (mb : Nat)] 130 (0, 0)) := Array.getElem?_push_size
    generalize ((w.alloc (.cells #[.bool raw, .int .i64 (ln : Nat), .int .i64 (mb : Nat)] 130)).drewN nq) = W at *
    have hbWd : Below w.heap.size w W.drew := ⟨hbW.os, hbW.tape, hbW.output, hbW.size, hbW.block⟩
    have KL := lines_row text W.drew h (E.on hbWd)
    have e0 : W.cell? ⟨w.heap.size, 0, none⟩ = some (.bool raw) := by rw [cell_of_heap d0]; rfl
    have e1 : W.cell? ⟨w.heap.size, 1, none⟩ = some (.int .i64 (ln : Nat)) := by rw [cell_of_heap d0]; rfl
    have e2 : W.cell? ⟨w.heap.size, 2, none⟩ = some (.int .i64 (mb : Nat)) := by rw [cell_of_heap d0]; rfl
    have hltW := lt_of_heap d0
    go_cut [7, 8, 9] (fun v7 v8 v9 wc => ∃ w1, Below w.heap.size w w1 ∧ SplitPost raw (split 10 text) w1 (.returned (.tuple #[v7, v8, v9])) wc)
    case first =>
      go_region_with (first
        | (go_at_call 115; refine K1.mono ?_; rintro e w2 hsp; obtain ⟨v7, v8, v9, rfl, hsp⟩ := split_form hsp)
        | (go_at_call 116; refine KL.mono ?_; rintro e w1 ⟨rfl, hb1, hg1, hc1⟩; have hd1 : w1.heap[w.heap.size]? = _ := (hb1.block w.heap.size hltW).trans d0; have c0 := (cell_of_heap hd1 0).trans (by rfl : _ = some (Value.bool raw)); have c1 := (cell_of_heap hd1 1).trans (by rfl : _ = some (Value.int .i64 (ln : Nat))); have c2 := (cell_of_heap hd1 2).trans (by rfl : _ = some (Value.int .i64 (mb : Nat))); have hB1 : Below w.heap.size w w1 := hbWd.trans (hb1.mono hbWd.size); have K1 := KSp w1 hL W.heap.size (split 10 text).length (Nat.le_refl _) hg1 hc1 (E.on hB1)))
      all_goals go_wp2_with fail
      all_goals
        go_meet
        case rel => exact ⟨w1, hB1, hsp⟩
    case rest =>
      obtain ⟨w1, hB1, hsp⟩ := hcut
      obtain ⟨hb2, hcase⟩ := split_cases hsp
      have hB2 := hB1.trans (hb2.mono hB1.size)
      obtain ⟨R1, R2, R3, R4, R5⟩ := HR.out
      clear HR KSp KC KL hsp
      rcases hcase with ⟨k, hk, rfl, rfl, rfl⟩ | ⟨SS, o, vs, hs, rfl, rfl, hSents⟩
      · have hx := R1 k hk
        clear R1 R2 R3 R4 R5 hk
        go_wp2
        go_ret3
        exact PReadPost.bad hB2 hx
      · obtain ⟨hok, hlen⟩ := sents_ok hs hL (fun j => Nat.le_trans (word_split_le 10 text j) h)
        by_cases ho : o.sec = 2
        · have hod : decide (o.sec = 2) = true := by simp [ho]
          rw [hod]
          obtain ⟨g, cap, rfl, hcap, hg⟩ := sents_form hSents (by have := HL1.out; omega)
          have KU := lookUp_form wc hSents hok hg hcap (E.on hB2)
          have Q3 := fun k hl => R3 SS o hs ho k hl
          have Q4 := fun q hl k hm => R4 SS o hs ho q hl k hm
          have Q5 := fun q hl hm => R5 SS o hs ho q hl hm
          have HQ : Hid (_ ∧ _ ∧ _) := ⟨Q3, Q4, Q5⟩
          clear R1 R2 R3 R4 R5 Q3 Q4 Q5 hs
          have KM := fun (q : QP) (a : Nat) (w3 : World) (hb3 : Below wc.heap.size wc w3) (hG : Got wc.heap.size a w3 q) => misfit_form w3 hG ((E.on hB2).on hb3)
          generalize (lookGo (countB SS) SS 0 QP.empty) = LK at *
          clear hSents hok hone hL hlen ho hod e0 e1 e2 d0 hcmp
          go_wp2_with (first
            | (go_at_call 117; refine KU.mono ?_; rintro e w3 ⟨hb3, ⟨k, hk, rfl⟩ | ⟨q, a, hq, rfl, hG⟩⟩)
            | (go_at_call 118; refine (KM q a w3 hb3 hG).mono ?_; rintro e w4 ⟨hb4, ⟨k, hk, rfl⟩ | ⟨hm, rfl⟩⟩))
          · go_ret3
            exact PReadPost.bad (hB2.trans (hb3.mono hB2.size)) (HQ.out.1 k hk)
          · go_ret3
            have hB3 := hB2.trans (hb3.mono hB2.size)
            exact PReadPost.bad (hB3.trans (hb4.mono hB3.size)) (HQ.out.2.1 q hq k hk)
          · go_ret3
            have hB3 := hB2.trans (hb3.mono hB2.size)
            exact PReadPost.good (hB3.trans (hb4.mono hB3.size)) (HQ.out.2.2 q hq hm) hB2.size (hG.below hb4)
        · have hx := R2 SS o hs ho
          have hod : decide (o.sec = 2) = false := by simp [ho]
          rw [hod]
          clear R1 R2 R3 R4 R5 hs ho hod
          go_wp2
          go_ret3
          exact PReadPost.bad hB2 hx
end Go.Proofs.YtmlgajhhnojdjaaGreatDoor.PrjW
/- What the document's own reader answers on what a line names. Condition: the program lies in memory as it is kept, and the line's form is right. -/
namespace Go.Proofs.YtmlgajhhnojdjaaGreatDoor.RefI
open Go.RowKit Go.Proofs.YtmlgajhhnojdjaaGreatDoor.Spec Go.Proofs.YtmlgajhhnojdjaaGreatDoor.RefA Go.Proofs.YtmlgajhhnojdjaaGreatDoor.RefB Go.Proofs.YtmlgajhhnojdjaaGreatDoor.RefC Go.Proofs.YtmlgajhhnojdjaaGreatDoor.RefD Go.Proofs.YtmlgajhhnojdjaaGreatDoor.RefG Go.Proofs.YtmlgajhhnojdjaaGreatDoor.Aux

theorem nameOk_nat (p : RP) (c : UInt8) (w : B) : p.nameOk c w =
    if ((c.toNat : Int) == 105) = true ∨ ((c.toNat : Int) == 111) = true ∨ ((c.toNat : Int) == 112) = true ∨ ((c.toNat : Int) == 109) = true ∨ ((c.toNat : Int) == 100) = true then decide (0 ≤ p.find (localOf w))
    else if ((c.toNat : Int) == 78) = true then decide ((number w).getD 0 < p.blocks.length) else true := by
  have e := fun n hn => u8_beq c n hn
  have e1 := e 105 (by omega); have e2 := e 111 (by omega); have e3 := e 112 (by omega); have e4 := e 109 (by omega); have e5 := e 100 (by omega); have e6 := e 78 (by omega)
  simp only [Int.cast_ofNat_Int] at e1 e2 e3 e4 e5 e6
  rw [e1, e2, e3, e4, e5, e6]
  simp only [decide_eq_true_eq, RP.nameOk]
  rfl

set_option maxRecDepth 20000 in
set_option maxHeartbeats 1000000 in
theorem names_let (p : RP) (a i : Nat) (w : World) (hp : ProgAt w a p) (hok : p.Ok) (hi : i < p.lines.length) (hlet : word (p.line i) 0 = wLet) (h3 : (p.line i).length = 3) (hf : 0 ≤ p.find (word (p.line i) 1)) :
    Calls Tryz.prog 70 #[.pointer (some ⟨a, 0, none⟩), .int .i64 i] w fun e w' => e = .returned (.bool (p.names i)) ∧ ∃ n, w' = w.drewN n := by
  obtain ⟨j, hj, hjl, _⟩ := RP.find_lt hf
  have HN : Hid (p.names i = decide (p.lets.getD j 0 = i)) := by unfold Hid RP.names; rw [if_pos hlet, hj]; rfl
  have hsz := hok.size
  have hln := hok.letn
  obtain ⟨gt, ct, ht1, ht1', ht2⟩ := hp.let_at j hjl
  generalize p.lets.getD j 0 = t at *
  obtain ⟨g, cap, gl, capl, hc1, hc1', hc2, hc2', hw⟩ := hp.line_at i hi
  have hw0 := hw 0 (by omega)
  have hw1 := hw 1 (by omega)
  have hj0 : (j : Int) < p.lets.length := by omega
  have hi3 : (1 : Int) < (p.line i).length := by omega
  have HF : ∀ n, Calls Tryz.prog 110 #[.pointer (some ⟨a, 0, none⟩), .string (bs (word (p.line i) 1))] (w.drewN n) fun e w' => e = .returned (.int .i64 j) ∧ ∃ m, w' = w.drewN m := fun n =>
    (find_any p a _ (w.drewN n) (hp.drewN n) hok).mono fun e w' ⟨he, m, hm⟩ => ⟨by rw [he, hj], n + m, by rw [hm]; simp⟩
  have hbl : (word (p.line i) 0 == [108, 101, 116]) = true := by rw [hlet]; rfl
  clear hj hf hlet
  go_enter Tryz.func70, Tryz.ntmps70
  go_wp2
  go_quiet ((go_at_call 110; exact HF _))
  go_wp2
  go_ret
  refine ⟨ret_bool ?_, _, rfl⟩
  rw [HN.out, Bool.eq_iff_iff]; simp; omega
set_option maxRecDepth 20000 in
set_option maxHeartbeats 2000000 in
theorem names_line (p : RP) (a i : Nat) (w : World) (hp : ProgAt w a p) (hok : p.Ok) (hi : i < p.lines.length) (hlet : ¬ word (p.line i) 0 = wLet) (h3 : (behind (word (p.line i) 0) p.raw).1.length + 1 ≤ (p.line i).length) :
    Calls Tryz.prog 70 #[.pointer (some ⟨a, 0, none⟩), .int .i64 i] w fun e w' => e = .returned (.bool (p.names i)) ∧ ∃ n, w' = w.drewN n := by
  have HN : Hid (p.names i = p.namesGo (behind (word (p.line i) 0) p.raw).1 ((p.line i).drop 1)) := by unfold Hid RP.names; rw [if_neg hlet]
  have hsz := hok.size
  have hbn := hok.blockn
  have hlong := hok.long
  obtain ⟨g, cap, gl, capl, hc1, hc1', hc2, hc2', hw⟩ := hp.line_at i hi
  have hwn := hok.words i hi
  have hw0 := hw 0 (by omega)
  have hi3 : (0 : Int) < (p.line i).length := by omega
  have hraw := hp.raw
  obtain ⟨bb, cb, hlenb⟩ := hp.blocks_len
  have hbl : (word (p.line i) 0 == [108, 101, 116]) = false := by simpa [wLet] using hlet
  have hb3 := behind_len (word (p.line i) 0) p.raw
  clear hlet
  go_enter Tryz.func70, Tryz.ntmps70
  go_wp2
  go_quiet ((go_at_call 87; exact Calls.quiet_of_same (behind_bs _ _ _)))
  go_wp2
  generalize (behind (word (p.line i) 0) p.raw).1 = f at *
  go_loopw [8] (fun kk wr => ∃ k : Nat, k ≤ f.length ∧ kk = .int .i64 k ∧ Hid (p.names i = p.namesGo (f.drop k) ((p.line i).drop (k + 1))) ∧ ∃ n, wr = w.drewN n) (fun kk _ => f.length - (intOf kk).toNat)
  case atStart => exact ⟨0, Nat.zero_le _, rfl, HN, _, rfl⟩
  case round =>
    obtain ⟨k, hk, rfl, HI, n, rfl⟩ := hrel
    clear HN
    by_cases hlt : k < f.length
    · have HS : Hid (_ = _) := p.namesGo_step f (p.line i) k hlt
      have hwk := hw (k + 1) (by omega)
      have hlk : (word (p.line i) (k + 1)).length ≤ maxLen := Nat.le_trans (hlong i (k + 1)) (by decide)
      have hk3 : (k : Int) + 1 < (p.line i).length := by omega
      clear hlong hw
      go_wp2_with (first
        | (go_at_call 111; refine (local_bs _ _ hlk).mono ?_; rintro e w' ⟨rfl, rfl⟩)
        | (go_at_call 110; refine (find_any p a _ _ (hp.drewN _) hok).mono ?_; rintro e w' ⟨rfl, nf, rfl⟩)
        | (go_at_call 112; refine (number_bs _ _ hlk).mono ?_; rintro e w' ⟨rfl, rfl⟩))
      all_goals first
        | (go_ret
           go_light
           have hx : decide (0 ≤ p.find (localOf (word (p.line i) (k + 1)))) = false := by simp; omega
           exact ⟨ret_bool (by rw [HI.out, HS.out, nameOk_nat]; simp [*]), _, rfl⟩)
        | (go_ret
           go_light
           have hx : decide ((number (word (p.line i) (k + 1))).getD 0 < p.blocks.length) = false := by simp; omega
           exact ⟨ret_bool (by rw [HI.out, HS.out, nameOk_nat]; simp [*]), _, rfl⟩)
        | (go_roundw
           case rel =>
             go_light
             exact ⟨k + 1, by omega, by go_num, by rw [HI.out, HS.out, nameOk_nat]; simp [*, Hid], _, rfl⟩
           case measure => simp [intOf]; omega)
    · go_wp2
      go_ret
      refine ⟨ret_bool ?_, n, rfl⟩
      rw [HI.out, List.drop_eq_nil_of_le (by omega)]; rfl
end Go.Proofs.YtmlgajhhnojdjaaGreatDoor.RefI
