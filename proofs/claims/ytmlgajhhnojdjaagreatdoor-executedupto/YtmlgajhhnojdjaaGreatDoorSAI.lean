/- How the library parts a text, in the words of the document's own; and what the project's reader makes of one line. -/
import Derived.Test.YtmlgajhhnojdjaaGreatDoorSAG
import Derived.Test.YtmlgajhhnojdjaaGreatDoorSAH
namespace Go.Proofs.YtmlgajhhnojdjaaGreatDoor.PrjJ
open Go Go.RowKit Go.Proofs.YtmlgajhhnojdjaaGreatDoor.Spec Go.Proofs.YtmlgajhhnojdjaaGreatDoor.Aux Go.Proofs.YtmlgajhhnojdjaaGreatDoor.PrjF Go.Proofs.YtmlgajhhnojdjaaGreatDoor.PrjG Go.Proofs.YtmlgajhhnojdjaaGreatDoor.PrjH Go.Proofs.YtmlgajhhnojdjaaGreatDoor.PrjI

theorem split_no (c : UInt8) : ∀ (a : B), ¬ c ∈ a → split c a = [a]
  | [], _ => rfl
  | x :: a, h => by
    simp only [List.mem_cons, not_or] at h
    rw [split, if_neg (fun e => h.1 e.symm), split_no c a h.2]; rfl
theorem split_app (c : UInt8) : ∀ (a t : B), ¬ c ∈ a → split c (a ++ c :: t) = a :: split c t
  | [], t, _ => by simp [split]
  | x :: a, t, h => by
    simp only [List.mem_cons, not_or] at h
    rw [List.cons_append, split, if_neg (fun e => h.1 e.symm), split_app c a t h.2]; rfl
theorem split_count (c : UInt8) : ∀ (l : B), (split c l).length = l.count c + 1
  | [] => rfl
  | x :: l => by
    rw [split]
    split
    · rename_i h; subst h; simp [split_count x l]
    · rename_i h
      have := split_count c l
      rw [List.count_cons_of_ne (fun e => h e)]
      cases hs : split c l with
      | nil => rw [hs] at this; simp at this
      | cons a b => rw [hs] at this; simpa [addHead] using this
theorem hit_parts {c : UInt8} {l : B} {i : Nat} : ((bs l).extract 0 (i + 0)) = bs (l.take i) ∧ ((bs l).extract (i + (⟨#[c]⟩ : ByteArray).size) (bs l).size) = bs (l.drop (i + 1)) := by
  constructor
  · rw [extract_eq, toList_bs]; simp
  · rw [extract_eq, toList_bs]
    have : (⟨#[c]⟩ : ByteArray).size = 1 := rfl
    rw [this, size_bs, List.take_of_length_le (by simp)]
theorem splitB_words (c : UInt8) : ∀ (k : Nat) (l : B), (Lib.splitB ⟨#[c]⟩ 0 k (bs l)).length = min (k + 1) (split c l).length ∧
    (∀ j, j < k → j < (split c l).length → (Lib.splitB ⟨#[c]⟩ 0 k (bs l))[j]? = some (bs (word (split c l) j))) ∧ ((split c l).length ≤ k + 1 → Lib.splitB ⟨#[c]⟩ 0 k (bs l) = (split c l).map bs)
  | 0, l => by
    have h1 := split_count c l
    refine ⟨by simp [Lib.splitB]; omega, fun j hj => absurd hj (by omega), fun h => ?_⟩
    have : ¬ c ∈ l := fun e => by have := List.count_pos_iff.mpr e; omega
    rw [split_no c l this]; rfl
  | k + 1, l => by
    have hx : Lib.indexB (bs l) ⟨#[c]⟩ = Lib.index l [c] := by simp [Lib.indexB, bs]
    rcases index_byte c l with ⟨h1, h2⟩ | ⟨i, h1, h2, h3, h4⟩
    · rw [Lib.splitB_miss _ _ _ _ (by rw [hx, h1]), split_no c l h2]
      refine ⟨by simp, fun j hj hl => ?_, fun _ => rfl⟩
      have : j = 0 := by simpa using hl
      subst this; rfl
    · obtain ⟨e1, e2⟩ := hit_parts (c := c) (l := l) (i := i)
      rw [Lib.splitB_hit _ _ _ _ i (by rw [hx, h1]), e1, e2]
      have hs : split c l = l.take i :: split c (l.drop (i + 1)) := (congrArg (split c) h3).trans (split_app c _ _ h4)
      obtain ⟨a1, a2, a3⟩ := splitB_words c k (l.drop (i + 1))
      rw [hs]
      refine ⟨?_, fun j hj hl => ?_, fun h => ?_⟩
      · simp only [List.length_cons, a1]; omega
      · cases j with
        | zero => rfl
        | succ j =>
          rw [List.getElem?_cons_succ, a2 j (by omega) (by simpa using hl)]
          rfl
      · rw [a3 (by simp at h; omega)]; rfl
theorem countB_split (c : UInt8) : ∀ (n : Nat) (l : B), l.length ≤ n → Lib.countB (bs l) ⟨#[c]⟩ + 1 = (split c l).length := by
  intro n
  induction n with
  | zero =>
    intro l hl
    have : l = [] := List.eq_nil_of_length_eq_zero (by omega)
    subst this
    rw [Lib.countB_miss (bs []) ⟨#[c]⟩ (by rfl)]; rfl
  | succ n ih =>
    intro l hl
    have hx : Lib.indexB (bs l) ⟨#[c]⟩ = Lib.index l [c] := by simp [Lib.indexB, bs]
    rcases index_byte c l with ⟨h1, h2⟩ | ⟨i, h1, h2, h3, h4⟩
    · rw [Lib.countB_miss _ _ (by rw [hx, h1]), split_no c l h2]; rfl
    · obtain ⟨e1, e2⟩ := hit_parts (c := c) (l := l) (i := i)
      rw [Lib.countB_hit (bs l) ⟨#[c]⟩ i (Nat.le_refl 1) (by rw [hx, h1]), e2]
      have hs : split c l = l.take i :: split c (l.drop (i + 1)) := (congrArg (split c) h3).trans (split_app c _ _ h4)
      have := ih (l.drop (i + 1)) (by simp; omega)
      rw [hs, List.length_cons]; omega
/-- a row of words somewhere in memory -/
def WordsAt (w : World) (v : Value) (L : List B) : Prop :=
  ∃ g o cap, v = .slice (some ⟨g, o, none⟩) L.length cap ∧ L.length ≤ cap ∧ (∃ cs f, w.heap[g]? = some (.cells cs 9 f)) ∧ ∀ j, j < L.length → w.cell? ⟨g, o + j, none⟩ = some (.string (bs (word L j)))
theorem lt_of_heap {w : World} {g : Nat} {x : Obj} (h : w.heap[g]? = some x) : g < w.heap.size := by
  rw [Array.getElem?_eq_some_iff] at h; exact h.1
theorem WordsAt.below {w w' : World} {v : Value} {L : List B} (h : WordsAt w v L) (hb : Below w.heap.size w w') : WordsAt w' v L := by
  obtain ⟨g, o, cap, rfl, hc, ⟨cs, f, hg⟩, hcell⟩ := h
  have hlt := lt_of_heap hg
  exact ⟨g, o, cap, rfl, hc, ⟨cs, f, (hb.block g hlt).trans hg⟩, fun j hj => (hb.cell (p := ⟨g, o + j, none⟩) hlt).trans (hcell j hj)⟩
theorem wants_len (op : Nat) (h : op < 23) : (wantsOf op).length ≤ 3 := by
  have : ∀ op : Fin 23, (wantsOf op.val).length ≤ 3 := by decide
  exact this ⟨op, h⟩
/-- what SplitN gives at blanks, five words at the most -/
theorem splitN_row (l : B) (w : World) (h : l.length ≤ 1048576) (E : Env w) :
    Calls Tryz.prog 195 #[.string (bs l), .string ⟨#[32]⟩, .int .i64 5] w fun e w' => ∃ g cap, e = .returned (.slice (some ⟨g, 0, none⟩) (min 5 (split 32 l).length) cap) ∧ min 5 (split 32 l).length ≤ cap ∧ (cap ≤ 5 ∧ (l ≠ [] → 2 ≤ cap)) ∧ g < w'.heap.size ∧ w.heap.size ≤ g ∧ Below w.heap.size w w' ∧
      w'.cell? ⟨g, 0, none⟩ = some (.string (bs (word (split 32 l) 0))) ∧ ((split 32 l).length ≤ 4 → ∀ j, j < (split 32 l).length → w'.cell? ⟨g, j, none⟩ = some (.string (bs (word (split 32 l) j)))) ∧ (∃ cs f, w'.heap[g]? = some (.cells cs 9 f)) := by
  obtain ⟨m, hm⟩ := E.most
  have K := Tryz.strings_SplitN (bs l) ⟨#[32]⟩ 5 m w (by rw [size_bs]; omega) hm (by decide) (by decide) (by decide)
  refine K.mono ?_
  rintro e w' ⟨rfl, rfl⟩
  rw [size_bs]
  have hsl := split_length 32 l
  have h1 := one_le_split 32 l
  have hk : min 5 (l.length + 1) - 1 + 1 = min 5 (l.length + 1) := by omega
  obtain ⟨a1, a2, a3⟩ := splitB_words 32 (min 5 (l.length + 1) - 1) l
  have hlen : (Lib.splitB ⟨#[32]⟩ 0 (min 5 (l.length + 1) - 1) (bs l)).length = min 5 (split 32 l).length := by rw [a1]; omega
  have hcell : ∀ j, j < min 5 (split 32 l).length → (w.alloc (.cells (Lib.cellsOf (Lib.splitB ⟨#[32]⟩ 0 (min 5 (l.length + 1) - 1) (bs l)) (min 5 (l.length + 1))) 9)).cell? ⟨w.heap.size, j, none⟩ = (Lib.splitB ⟨#[32]⟩ 0 (min 5 (l.length + 1) - 1) (bs l))[j]?.map Value.string := by
    intro j hj
    have : (w.alloc (.cells (Lib.cellsOf (Lib.splitB ⟨#[32]⟩ 0 (min 5 (l.length + 1) - 1) (bs l)) (min 5 (l.length + 1))) 9)).heap[w.heap.size]? = some (.cells (Lib.cellsOf (Lib.splitB ⟨#[32]⟩ 0 (min 5 (l.length + 1) - 1) (bs l)) (min 5 (l.length + 1))) 9 (0, 0)) := by show (w.heap.push _)[w.heap.size]? = _; simp
    simp only [World.cell?, this]
    unfold Lib.cellsOf
    simp only [List.getElem?_toArray]
    rw [List.getElem?_append_left (by simp; omega), List.getElem?_map]
    rfl
  refine ⟨w.heap.size, min 5 (l.length + 1), by rw [hlen], by omega, ⟨by omega, fun hl => by have : l.length ≠ 0 := fun e => hl (List.eq_nil_of_length_eq_zero e); omega⟩, by simp, Nat.le_refl _, (Below.refl _ _).alloc (Nat.le_refl _) _, ?_, fun h4 j hj => ?_, ⟨_, _, (show (w.heap.push _)[w.heap.size]? = _ from Array.getElem?_push_size)⟩⟩
  · rw [hcell 0 (by omega)]
    by_cases hk0 : 0 < min 5 (l.length + 1) - 1
    · rw [a2 0 hk0 (by omega)]; rfl
    · have hl0 : l = [] := List.eq_nil_of_length_eq_zero (by omega)
      subst hl0; rfl
  · rw [hcell j (by omega), a3 (by omega), List.getElem?_map]
    simp [word, hj]

/-- the place of a result that is still nothing -/
def ResAt (w : World) (b : Nat) : Prop := w.heap[b]? = some (.cells #[.int .i64 0, .slice none 0 0] 240 (0, 0))
theorem ResAt.new (w : World) : ResAt (w.alloc (.cells #[.int .i64 0, .slice none 0 0] 240)) w.heap.size := by
  unfold ResAt; show (w.heap.push _)[w.heap.size]? = _; simp
theorem ResAt.lt {w : World} {b : Nat} (h : ResAt w b) : b < w.heap.size := by
  unfold ResAt at h; rw [Array.getElem?_eq_some_iff] at h; exact h.1
theorem ResAt.below {w w' : World} {b : Nat} (h : ResAt w b) (hb : Below w.heap.size w w') : ResAt w' b := by
  unfold ResAt; rw [hb.block b h.lt]; exact h
theorem ResAt.facts {w : World} {b : Nat} (h : ResAt w b) : w.cell? ⟨b, 0, none⟩ = some (.int .i64 0) ∧ w.cell? ⟨b, 1, none⟩ = some (.slice none 0 0) ∧ w.frozen? ⟨b, 0, none⟩ = false ∧ w.frozen? ⟨b, 1, none⟩ = false := by
  unfold ResAt at h
  exact ⟨by rw [cell_of_heap h]; rfl, by rw [cell_of_heap h]; rfl, frozen_of_heap h 0, frozen_of_heap h 1⟩
/-- what sentenceOf hands back -/
def SentPost (l : B) (w : World) (e : Ending) (w' : World) : Prop :=
  Below w.heap.size w w' ∧ match sentP (split 32 l) with
    | none => e = .returned (.tuple #[.agg #[.int .i64 0, .slice none 0 0], .bool false])
    | some x => ∃ v, e = .returned (.tuple #[.agg #[.int .i64 (x.1 : Nat), v], .bool true]) ∧ WordsAt w' v x.2
theorem two_cells {w : World} {b : Nat} (r : ResAt w b) (x y : Value) : ((w.setCell ⟨b, 0, none⟩ x).setCell ⟨b, 1, none⟩ y).rangeAt b 0 [x, y] := by
  unfold ResAt at r
  have h1 := Go.Proofs.YtmlgajhhnojdjaaGreatDoor.Aux.heap_setCell_same r 0 x
  have h2 := Go.Proofs.YtmlgajhhnojdjaaGreatDoor.Aux.heap_setCell_same h1 1 y
  intro j v hv
  rw [cell_of_heap h2]
  match j, hv with
  | 0, hv => simpa using hv
  | 1, hv => simpa using hv
theorem below_two {w w2 : World} {b : Nat} (hb : Below w.heap.size w w2) (h : w.heap.size ≤ b) (x y : Value) : Below w.heap.size w ((w2.setCell ⟨b, 0, none⟩ x).setCell ⟨b, 1, none⟩ y) := by
  refine ⟨hb.os, hb.tape, hb.output, by simpa using hb.size, fun k hk => ?_⟩
  rw [Below.heap_setCell _ _ _ _ (by show k ≠ b; omega), Below.heap_setCell _ _ _ _ (by show k ≠ b; omega)]
  exact hb.block k hk
theorem info_sentence : (Tryz.prog.info? 240).map (·.size) = some 2 := by kernel_rfl
theorem sent_ret {l : B} {w w2 : World} {tmps : Array Value} {x y : Value} {bl : Bool} (h2 : tmps.getD 2 undef = .pointer (some ⟨w.heap.size, 0, none⟩)) (h3 : tmps.getD 3 undef = .bool bl) (r : ResAt w2 w.heap.size) (hb : Below w.heap.size w w2)
    (P : ∀ w3, Below w.heap.size w w3 → (∀ k, k ≠ w.heap.size → w3.heap[k]? = w2.heap[k]?) → w3.heap.size = w2.heap.size → SentPost l w (.returned (.tuple #[.agg #[x, y], .bool bl])) w3) :
    bodyPost Tryz.prog Tryz.f163 (SentPost l w) Exit.ret { tmps := tmps, defers := [] } ((w2.setCell ⟨w.heap.size, 0, none⟩ x).setCell ⟨w.heap.size, 1, none⟩ y) := by
  refine bodyPost_ret (results_cell_bool Tryz.results163 tmps _ _ w.heap.size [x, y] _ h2 (two_cells r x y) Tryz.underlying240 rfl info_sentence) rfl ?_
  rw [h3]
  refine P _ (below_two hb (Nat.le_refl _) x y) (fun k hk => ?_) (by simp)
  rw [Below.heap_setCell _ _ _ _ (by show k ≠ _; exact hk), Below.heap_setCell _ _ _ _ (by show k ≠ _; exact hk)]
theorem shape_at (op : Nat) (h : op < 23) : shapeCells[op * 2 + 1]? = some (.string (bs (wantsOf op))) := by
  have h : op = 0 ∨ op = 1 ∨ op = 2 ∨ op = 3 ∨ op = 4 ∨ op = 5 ∨ op = 6 ∨ op = 7 ∨ op = 8 ∨ op = 9 ∨ op = 10 ∨ op = 11 ∨ op = 12 ∨ op = 13 ∨ op = 14 ∨ op = 15 ∨ op = 16 ∨ op = 17 ∨ op = 18 ∨ op = 19 ∨ op = 20 ∨ op = 21 ∨ op = 22 := by omega
  rcases h with rfl | rfl | rfl | rfl | rfl | rfl | rfl | rfl | rfl | rfl | rfl | rfl | rfl | rfl | rfl | rfl | rfl | rfl | rfl | rfl | rfl | rfl | rfl <;> rfl
theorem shape_cell {w : World} (E : Env w) (op : Nat) (h : op < 23) : w.cell? ⟨0, op * 2 + 1, none⟩ = some (.string (bs (wantsOf op))) := by
  have := E.shapes (op * 2 + 1) (.string (bs (wantsOf op))) (shape_at op h)
  simpa using this
set_option maxRecDepth 20000 in
theorem sentenceOf_any (l : B) (w : World) (h : l.length ≤ 1048576) (E : Env w) :
    Calls Tryz.prog 163 #[.string (bs l)] w (SentPost l w) := by
  have KS := fun w' (E' : Env w') => splitN_row l w' h E'
  have E1 := E.on ((Below.refl _ _).alloc (Nat.le_refl _) (.cells #[.int .i64 0, .slice none 0 0] 240))
  have hb1 : Below w.heap.size w (w.alloc (.cells #[.int .i64 0, .slice none 0 0] 240)) := (Below.refl _ _).alloc (Nat.le_refl _) _
  have hs1 : (w.alloc (.cells #[.int .i64 0, .slice none 0 0] 240)).heap.size = w.heap.size + 1 := by simp
  have KO := fun w' (E' : Env w') => opOf_any (word (split 32 l) 0) w' E'.shapes
  have h1 := one_le_split 32 l
  cases ho : opIdx (word (split 32 l) 0) with
  | none =>
    have hx : sentP (split 32 l) = none := by rw [sentP, ho]
    have P : ∀ w', Below w.heap.size w w' → SentPost l w (.returned (.tuple #[.agg #[.int .i64 0, .slice none 0 0], .bool false])) w' := fun w' hb => ⟨hb, by rw [hx]⟩
    rw [ho] at KO
    go_enter Tryz.func163, Tryz.ntmps163
    go_wp2_with (first | (go_at_call 195; refine (KS _ E1).mono ?_; rintro e w1 ⟨g, cap, rfl, hc1, hc2, hg, hg1, hb, hc0, hcs, csg, fg, htag⟩; have r1 := (ResAt.new w).below hb) | (go_at_call 196; refine (KO _ (E1.on hb)).mono ?_; rintro e w2 ⟨rfl, hb2⟩; obtain ⟨rc0, rc1, rf0, rf1⟩ := (r1.below hb2).facts))
    refine sent_ret rfl rfl (r1.below hb2) ((hb1.trans (hb.mono (by omega))).trans (hb2.mono ?_)) (fun w3 h3 _ _ => P w3 h3)
    have := hb.size
    omega
  | some op =>
    have hop := opIdx_lt ho
    have hwl := wants_len op hop
    rw [ho] at KO
    have hl0 : l ≠ [] := by rintro rfl; have : opIdx (word (split 32 []) 0) = none := rfl; rw [this] at ho; cases ho
    have hword : ∀ j, (word (split 32 l) j).length ≤ 1048576 := fun j => Nat.le_trans (word_split_le 32 l j) h
    by_cases hlen : (split 32 l).length - 1 = (wantsOf op).length
    · have hmin : min 5 (split 32 l).length = (wantsOf op).length + 1 := by omega
      have hl4 : (split 32 l).length ≤ 4 := by omega
      have hll : (split 32 l).length = (wantsOf op).length + 1 := by omega
      rw [hmin] at KS
      have hx : Hid (sentP (split 32 l) = if formedGo (wantsOf op) ((split 32 l).drop 1) = true then some (op, (split 32 l).drop 1) else none) := by
        unfold Hid
        rw [sentP, ho]
        simp only [hlen, true_and]
      have HF : Hid (formedGo (wantsOf op) ((split 32 l).drop 1) = formedGo ((wantsOf op).drop 0) ((split 32 l).drop (0 + 1))) := rfl
      clear hmin hlen
      go_enter Tryz.func163, Tryz.ntmps163
      go_wp2_with (first | (go_at_call 195; refine (KS _ E1).mono ?_; rintro e w1 ⟨g, cap, rfl, hc1, hc2, hg, hg1, hb, hc0, hcs, csg, fg, htag⟩; have r1 := (ResAt.new w).below hb; have hcap : ¬ cap = 1 := (by have := hc2.2 hl0; omega)) | (go_at_call 196; refine (KO _ (E1.on hb)).mono ?_; rintro e w2 ⟨rfl, hb2⟩; obtain ⟨rc0, rc1, rf0, rf1⟩ := (r1.below hb2).facts; have hsh := shape_cell ((E1.on hb).on hb2) op hop))
      have hB : Below w.heap.size w w2 := (hb1.trans (hb.mono (by omega))).trans (hb2.mono (by have := hb.size; omega))
      have r2 := r1.below hb2
      have E2 := (E1.on hb).on hb2
      have hcs2 : ∀ j, j < (split 32 l).length → w2.cell? ⟨g, j, none⟩ = some (.string (bs (word (split 32 l) j))) := fun j hj => (hb2.cell (p := ⟨g, j, none⟩) hg).trans (hcs hl4 j hj)
      have hg2 : g < w2.heap.size := Nat.lt_of_lt_of_le hg hb2.size
      have htag2 : w2.heap[g]? = some (.cells csg 9 fg) := (hb2.block g hg).trans htag
      clear KS KO hcs hc0 rc0 rc1 rf0 rf1 hsh
      go_loopw [36] (fun i wr => ∃ k : Nat, k ≤ (wantsOf op).length ∧ i = .int .i64 k ∧ Hid (formedGo (wantsOf op) ((split 32 l).drop 1) = formedGo ((wantsOf op).drop k) ((split 32 l).drop (k + 1))) ∧ Below w2.heap.size w2 wr) (fun i _ => (wantsOf op).length - (intOf i).toNat)
      case atStart => exact ⟨0, Nat.zero_le _, rfl, HF, Below.refl _ _⟩
      case round =>
        obtain ⟨k, hk, rfl, HI, hbr⟩ := hrel
        have rr := r2.below hbr
        obtain ⟨rc0, rc1, rf0, rf1⟩ := rr.facts
        have hBr : Below w.heap.size w wr := hB.trans (hbr.mono (by have := hB.size; omega))
        by_cases hlt : k < (wantsOf op).length
        · have hck : wr.cell? ⟨g, 1 + k, none⟩ = some (.string (bs (word (split 32 l) (k + 1)))) := by
            rw [hbr.cell (p := ⟨g, 1 + k, none⟩) hg2, Nat.add_comm 1 k]; exact hcs2 (k + 1) (by omega)
          have KF := isFormed_any (word (split 32 l) (k + 1)) ((wantsOf op)[k]) wr (hword _) (E2.on hbr)
          have HS : Hid (formedGo ((wantsOf op).drop k) ((split 32 l).drop (k + 1)) = (formedP (word (split 32 l) (k + 1)) (wantsOf op)[k] && formedGo ((wantsOf op).drop (k + 1)) ((split 32 l).drop (k + 2)))) := by
            unfold Hid
            rw [List.drop_eq_getElem_cons hlt, formedGo, List.drop_drop]
            simp [word]
          cases hf : formedP (word (split 32 l) (k + 1)) (wantsOf op)[k]
          · rw [hf] at KF
            have hn : sentP (split 32 l) = none := by
              rw [hx.out, if_neg]; rw [HI.out, HS.out, hf]; simp
            clear hf
            go_wp2_with (go_at_call 197; refine KF.mono ?_; rintro e w3 ⟨rfl, hb3⟩; obtain ⟨sc0, sc1, sf0, sf1⟩ := (rr.below hb3).facts)
            refine sent_ret rfl rfl (rr.below hb3) (hBr.trans (hb3.mono (by have := hBr.size; omega))) (fun w4 h4 _ _ => ⟨h4, by rw [hn]⟩)
          · rw [hf] at KF
            have hs' : Hid (formedGo ((wantsOf op).drop k) ((split 32 l).drop (k + 1)) = formedGo ((wantsOf op).drop (k + 1)) ((split 32 l).drop (k + 2))) := by
              unfold Hid; rw [HS.out, hf, Bool.true_and]
            clear hf
            go_wp2_with (go_at_call 197; refine KF.mono ?_; rintro e w3 ⟨rfl, hb3⟩)
            go_roundw
            case rel => exact ⟨k + 1, by omega, by go_num, by unfold Hid; rw [HI.out, hs'.out], hbr.trans (hb3.mono hbr.size)⟩
            case measure => simp [intOf]; omega
        · have hs' : sentP (split 32 l) = some (op, (split 32 l).drop 1) := by
            rw [hx.out, if_pos]; rw [HI.out, show k = (wantsOf op).length by omega, List.drop_length]; rfl
          go_wp2
          have hgne : g ≠ w.heap.size := by omega
          refine sent_ret rfl rfl rr hBr (fun w4 h4 hk4 hz4 => ⟨h4, ?_⟩)
          rw [hs']
          refine ⟨_, rfl, g, 1, cap - 1, ?_, ?_, ?_, fun j hj => ?_⟩
          · simp only [List.length_drop, hll, Nat.add_sub_cancel]
          · simp only [List.length_drop, hll, Nat.add_sub_cancel]; omega
          · exact ⟨csg, fg, by rw [hk4 g hgne, hbr.block g hg2]; exact htag2⟩
          · simp only [List.length_drop] at hj
            have : w4.cell? ⟨g, 1 + j, none⟩ = wr.cell? ⟨g, 1 + j, none⟩ := by
              simp only [World.cell?, hk4 g hgne]
            rw [this, hbr.cell (p := ⟨g, 1 + j, none⟩) hg2, hcs2 (1 + j) (by omega)]
            simp [word, Nat.add_comm 1 j]
    · have hx : sentP (split 32 l) = none := by
        rw [sentP, ho]
        simp only [hlen, false_and, if_false]
      have P : ∀ w', Below w.heap.size w w' → SentPost l w (.returned (.tuple #[.agg #[.int .i64 0, .slice none 0 0], .bool false])) w' := fun w' hb => ⟨hb, by rw [hx]⟩
      obtain ⟨n, hn⟩ : ∃ n, min 5 (split 32 l).length = n + 1 := ⟨min 5 (split 32 l).length - 1, by omega⟩
      have hne : ¬ n = (wantsOf op).length := by omega
      rw [hn] at KS
      have hnb : ((n : Int) == ((wantsOf op).length : Int)) = false := by rw [beq_eq_false_iff_ne]; omega
      clear hlen hx hn
      go_enter Tryz.func163, Tryz.ntmps163
      go_wp2_with (first | (go_at_call 195; refine (KS _ E1).mono ?_; rintro e w1 ⟨g, cap, rfl, hc1, hc2, hg, hg1, hb, hc0, hcs, csg, fg, htag⟩; have r1 := (ResAt.new w).below hb; have hcap : ¬ cap = 1 := (by have := hc2.2 hl0; omega)) | (go_at_call 196; refine (KO _ (E1.on hb)).mono ?_; rintro e w2 ⟨rfl, hb2⟩; obtain ⟨rc0, rc1, rf0, rf1⟩ := (r1.below hb2).facts; have hsh := shape_cell ((E1.on hb).on hb2) op hop))
      refine sent_ret rfl rfl (r1.below hb2) ((hb1.trans (hb.mono (by omega))).trans (hb2.mono ?_)) (fun w3 h3 _ _ => P w3 h3)
      have := hb.size
      omega
end Go.Proofs.YtmlgajhhnojdjaaGreatDoor.PrjJ
