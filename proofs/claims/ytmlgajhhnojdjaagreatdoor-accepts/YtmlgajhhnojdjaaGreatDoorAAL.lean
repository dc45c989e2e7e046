/- The project's machines: boxes made, freed, read, written; what is put out. -/
import Derived.Test.YtmlgajhhnojdjaaGreatDoorAAK
import Derived.Laws.OwnMore
import Derived.Deep.DeepMust
import Derived.Deep.AppendLies
namespace Go.Proofs.YtmlgajhhnojdjaaGreatDoor.Own
open Go Go.RowKit Go.Proofs.YtmlgajhhnojdjaaGreatDoor.Spec Go.Proofs.YtmlgajhhnojdjaaGreatDoor.Aux Go.Proofs.YtmlgajhhnojdjaaGreatDoor.PrjJ Go.Proofs.YtmlgajhhnojdjaaGreatDoor.PrjK Go.Proofs.YtmlgajhhnojdjaaGreatDoor.PrjL Go.Proofs.YtmlgajhhnojdjaaGreatDoor.PrjM

def Yd.build (y : Yd) (v : Int) : Yd := Yd.note { y with made := y.made ++ [(v, true)], live := y.live + 1 } 43 ((y.made.length + 1 : Nat) : Int)
def Yd.at (y : Yd) (n : Nat) : Int × Bool := y.made.getD (n - 1) (0, false)
def Yd.free (y : Yd) (n : Nat) : Yd := Yd.note { y with made := y.made.set (n - 1) ((y.at n).1, false), live := y.live - 1 } 45 ((n : Nat) : Int)
def Yd.load (y : Yd) (n : Nat) : Yd := y.note 60 ((n : Nat) : Int)
def Yd.store (y : Yd) (n : Nat) (v : Int) : Yd := { y.note 62 ((n : Nat) : Int) with made := y.made.set (n - 1) (v, (y.at n).2) }
theorem fresh_of {v : Value} {g n k c : Nat} (h : v.ownBlock = some g ∨ g = n) : ∀ b, (Value.slice (some ⟨g, 0, none⟩) k c).ownBlock = some b → v.ownBlock = some b ∨ n ≤ b := fun b hb => by
  simp only [Value.ownBlock, Option.some.injEq] at hb
  subst hb
  rcases h with e | e
  · exact .inl e
  · exact .inr (by omega)
theorem box_len (x : Int × Bool) : (boxCell x).length = 2 := rfl
theorem box_get (l : List (Int × Bool)) (j : Nat) (hj : j < l.length) : (boxCells l)[j * 2]? = some (.int .i64 (l.getD j (0, false)).1) ∧ (boxCells l)[j * 2 + 1]? = some (.bool (l.getD j (0, false)).2) := by
  have h0 := flat_get boxCell 2 box_len l j 0 (by decide)
  have h1 := flat_get boxCell 2 box_len l j 1 (by decide)
  rw [List.getElem?_eq_getElem hj] at h0 h1
  have e : l.getD j (0, false) = l[j] := by simp [hj]
  rw [e]
  exact ⟨h0, h1⟩
theorem box_set : ∀ (l : List (Int × Bool)) (j : Nat) (x : Int × Bool), boxCells (l.set j x) = if j < l.length then ((boxCells l).set (j * 2) (.int .i64 x.1)).set (j * 2 + 1) (.bool x.2) else boxCells l
  | [], j, x => by simp [boxCells]
  | b :: l, 0, x => by simp [boxCells, boxCell]
  | b :: l, j + 1, x => by
    have ih := box_set l j x
    have e : boxCells (b :: l) = .int .i64 b.1 :: .bool b.2 :: boxCells l := rfl
    have e2 : boxCells ((b :: l).set (j + 1) x) = .int .i64 b.1 :: .bool b.2 :: boxCells (l.set j x) := rfl
    rw [e2, ih, e]
    by_cases hj : j < l.length
    · rw [if_pos hj, if_pos (by simp; omega), show (j + 1) * 2 = j * 2 + 1 + 1 by omega]; rfl
    · rw [if_neg hj, if_neg (by simp; omega)]
theorem set_same {l : List Value} {j : Nat} {v : Value} (h : l[j]? = some v) : l.set j v = l := by
  apply List.ext_getElem?
  intro k
  rw [List.getElem?_set]
  by_cases hk : j = k
  · subst hk
    rw [if_pos rfl, h]
    split
    · rfl
    · rename_i hn; rw [List.getElem?_eq_none (by omega)] at h; cases h
  · rw [if_neg hk]
section
variable {z x : Nat} {t : TypeId} {rest : List Value} {w w1 w2 w3 : World} {y : Yd} {vm vt v' : Value}
theorem YAt.setLive (h : YAt z x t rest w y vm vt) (k : Int) : YAt z x t rest (w.setCell ⟨x, 1, none⟩ (.int .i64 k)) { y with live := k } vm vt ∧ Roam x vm vt w vm vt (w.setCell ⟨x, 1, none⟩ (.int .i64 k)) := by
  obtain ⟨n1, n2⟩ := h.ty.ne
  refine ⟨⟨h.base, h.ty, ?_, own_setCell h.made _ (own_at_ne h.made h.blk n1), own_setCell h.trace _ (own_at_ne h.trace h.blk n2)⟩, ⟨rfl, rfl, rfl, by simp, fun j _ h1 _ _ => Below.heap_setCell _ _ _ _ (by show j ≠ x; exact h1), fun _ h => .inl h, fun _ h => .inl h⟩⟩
  rw [Aux.heap_setCell_same h.blk]; simp
theorem YAt.addBox (h : YAt z x t rest w y vm vt) (h2 : Below w.heap.size w w2) {b : Int × Bool} (h3 : w3.ownsRow z 175 2 v' (y.made.length + 1) (boxCells y.made ++ boxCell b)) (hg : w2.grownBy w3 vm.ownBlock)
    (hf : ∀ b, v'.ownBlock = some b → vm.ownBlock = some b ∨ w2.heap.size ≤ b) :
    YAt z x t rest (w3.setCell ⟨x, 0, none⟩ v') { y with made := y.made ++ [b] } v' vt ∧ Roam x vm vt w v' vt (w3.setCell ⟨x, 0, none⟩ v') := by
  have H := h.below h2
  obtain ⟨n1, n2⟩ := h.ty.ne
  have hne : some x ≠ vm.ownBlock := own_type_ne H.made H.blk n1
  have hblk : w3.heap[x]? = some (.cells (vm :: .int .i64 y.live :: vt :: rest).toArray t (0, 0)) := by rw [hg.block x H.lt hne]; exact H.blk
  have hm := H.trace.kept hg (own_ne H.trace H.made (by decide))
  refine ⟨⟨h.base, h.ty, ?_, ?_, own_setCell hm _ (own_at_ne hm hblk n2)⟩, ?_⟩
  · rw [Aux.heap_setCell_same hblk]; simp
  · have := own_setCell h3 (a := ⟨x, 0, none⟩) v' (own_at_ne h3 hblk n1)
    simpa [boxCells] using this
  · refine ⟨hg.os.trans h2.os, hg.tape.trans h2.tape, hg.output.trans h2.output, by simpa using Nat.le_trans h2.size hg.size, fun k hk h1 hm' ht' => ?_, fun b hb => ?_, fun _ h => .inl h⟩
    · rw [Below.heap_setCell _ _ _ _ (by show k ≠ x; exact h1), hg.block k (Nat.lt_of_lt_of_le hk h2.size) (fun e => hm' e.symm)]
      exact h2.block k hk
    · rcases hf b hb with e | e
      · exact .inl e
      · exact .inr (Nat.le_trans h2.size e)
/-- a box's cells -/
theorem YAt.box (h : YAt z x t rest w y vm vt) {n : Nat} (h1 : 1 ≤ n) (hn : n ≤ y.made.length) : ∃ g cap, vm = .slice (some ⟨g, 0, none⟩) y.made.length cap ∧ y.made.length ≤ cap ∧ g < w.heap.size ∧ w.cell? ⟨g, (n - 1) * 2, none⟩ = some (.int .i64 (y.at n).1) ∧ w.cell? ⟨g, (n - 1) * 2 + 1, none⟩ = some (.bool (y.at n).2) ∧
    w.frozen? ⟨g, (n - 1) * 2, none⟩ = false ∧ w.frozen? ⟨g, (n - 1) * 2 + 1, none⟩ = false := by
  obtain ⟨g, cap, rfl, hc, hg, hcell⟩ := own_cell h.made (by omega)
  obtain ⟨b0, b1⟩ := box_get y.made (n - 1) (by omega)
  exact ⟨g, cap, rfl, hc, hg, by rw [hcell _ (by omega)]; exact b0, by rw [hcell _ (by omega)]; exact b1, h.made.frozenAt _, h.made.frozenAt _⟩
theorem YAt.box' {g k cap : Nat} (h : YAt z x t rest w y (.slice (some ⟨g, 0, none⟩) k cap) vt) {n : Nat} (h1 : 1 ≤ n) (hn : n ≤ y.made.length) : w.cell? ⟨g, (n - 1) * 2, none⟩ = some (.int .i64 (y.at n).1) ∧ w.cell? ⟨g, (n - 1) * 2 + 1, none⟩ = some (.bool (y.at n).2) ∧
    w.frozen? ⟨g, (n - 1) * 2, none⟩ = false ∧ w.frozen? ⟨g, (n - 1) * 2 + 1, none⟩ = false := by
  obtain ⟨g', cap', e, -, -, a1, a2, a3, a4⟩ := h.box h1 hn
  simp only [Value.slice.injEq, Option.some.injEq, Addr.mk.injEq, and_true] at e
  obtain ⟨rfl, -, -⟩ := e
  exact ⟨a1, a2, a3, a4⟩
theorem YAt.setBox {g cap : Nat} (h : YAt z x t rest w y (.slice (some ⟨g, 0, none⟩) y.made.length cap) vt) {n : Nat} (h1 : 1 ≤ n) (hn : n ≤ y.made.length) :
    (∀ v : Int, YAt z x t rest (w.setCell ⟨g, (n - 1) * 2, none⟩ (.int .i64 v)) { y with made := y.made.set (n - 1) (v, (y.at n).2) } (.slice (some ⟨g, 0, none⟩) y.made.length cap) vt ∧ Roam x (.slice (some ⟨g, 0, none⟩) y.made.length cap) vt w (.slice (some ⟨g, 0, none⟩) y.made.length cap) vt (w.setCell ⟨g, (n - 1) * 2, none⟩ (.int .i64 v))) ∧
    (∀ v : Bool, YAt z x t rest (w.setCell ⟨g, (n - 1) * 2 + 1, none⟩ (.bool v)) { y with made := y.made.set (n - 1) ((y.at n).1, v) } (.slice (some ⟨g, 0, none⟩) y.made.length cap) vt ∧ Roam x (.slice (some ⟨g, 0, none⟩) y.made.length cap) vt w (.slice (some ⟨g, 0, none⟩) y.made.length cap) vt (w.setCell ⟨g, (n - 1) * 2 + 1, none⟩ (.bool v))) := by
  obtain ⟨n1, n2⟩ := h.ty.ne
  obtain ⟨b0, b1⟩ := box_get y.made (n - 1) (by omega)
  have hxg : x ≠ g := fun e => own_at_ne h.made h.blk n1 (by rw [e]; rfl)
  have htg : vt.ownBlock ≠ some g := fun e => by
    rcases own_ne h.trace h.made (by decide) with h0 | h0
    · rw [e] at h0; cases h0
    · exact h0 e
  have roam : ∀ (o : Nat) (u : Value), Roam x (.slice (some ⟨g, 0, none⟩) y.made.length cap) vt w (.slice (some ⟨g, 0, none⟩) y.made.length cap) vt (w.setCell ⟨g, o, none⟩ u) := fun o u =>
    ⟨rfl, rfl, rfl, by simp, fun j _ _ h2 _ => Below.heap_setCell _ _ _ _ (by show j ≠ g; intro e; exact h2 (by rw [e]; rfl)), fun _ h => .inl h, fun _ h => .inl h⟩
  have blk : ∀ (o : Nat) (u : Value), (w.setCell ⟨g, o, none⟩ u).heap[x]? = w.heap[x]? := fun o u => Below.heap_setCell _ _ _ _ (by show x ≠ g; exact hxg)
  constructor
  · intro v
    refine ⟨⟨h.base, h.ty, by rw [blk]; exact h.blk, ?_, own_setCell h.trace _ htg⟩, roam _ _⟩
    have := (h.made.stored ((n - 1) * 2) (.int .i64 v)).1
    have e : boxCells (y.made.set (n - 1) (v, (y.at n).2)) = (boxCells y.made).set ((n - 1) * 2) (.int .i64 v) := by
      rw [box_set, if_pos (by omega)]
      refine set_same ?_
      rw [List.getElem?_set_ne (by omega)]; exact b1
    simp only [List.length_set]
    rw [e]; exact this
  · intro v
    refine ⟨⟨h.base, h.ty, by rw [blk]; exact h.blk, ?_, own_setCell h.trace _ htg⟩, roam _ _⟩
    have := (h.made.stored ((n - 1) * 2 + 1) (.bool v)).1
    have e : boxCells (y.made.set (n - 1) ((y.at n).1, v)) = (boxCells y.made).set ((n - 1) * 2 + 1) (.bool v) := by
      rw [box_set, if_pos (by omega)]
      have : (boxCells y.made).set ((n - 1) * 2) (.int .i64 (y.at n).1) = boxCells y.made := set_same b0
      rw [this]
    simp only [List.length_set]
    rw [e]; exact this
end
end Go.Proofs.YtmlgajhhnojdjaaGreatDoor.Own
/- Plain facts: what a trace says, as stowkeep's Story is told; a yard and those who hold its boxes. -/
namespace Go.Proofs.YtmlgajhhnojdjaaGreatDoor.Bal
open Go Go.Proofs.YtmlgajhhnojdjaaGreatDoor.Spec Go.Proofs.YtmlgajhhnojdjaaGreatDoor.Own

structure Sty where
  live : List Bool
  count : Int
  right : Bool
def Sty.nil : Sty := ⟨[], 0, true⟩
def numF (n : Int) (c : UInt8) : Int := 10 * n + (c.toNat : Int) - 48
def numW (l : B) : Int := (l.take 8).foldl numF 0
/-- a word of a trace -/
def Sty.word (s : Sty) : B → Sty
  | [] => { s with right := false }
  | c :: r =>
    if c = 111 then s
    else if c = 43 then ⟨s.live ++ [true], s.count + 1, s.right && (numW r == (s.live.length : Int) + 1)⟩
    else if numW r < 1 ∨ numW r > (s.live.length : Int) ∨ s.live.getD ((numW r).toNat - 1) false = false then { s with right := false }
    else if c = 45 then ⟨s.live.set ((numW r).toNat - 1) false, s.count - 1, s.right⟩
    else s
def story (ws : List B) : Sty := ws.foldl Sty.word .nil
theorem story_add (ws : List B) (b : B) : story (ws ++ [b]) = (story ws).word b := by simp [story]
/-! numbers -/
theorem digits_num (u : Nat) : (Lib.decDigits u).foldl numF 0 = (u : Int) := by
  induction u using Nat.strongRecOn with
  | _ u ih =>
    by_cases h : u < 10
    · rw [Lib.decDigits, dif_pos h]
      simp only [List.foldl_cons, List.foldl_nil, numF, UInt8.toNat_ofNat']
      omega
    · rw [Lib.decDigits, dif_neg h, List.foldl_append, ih (u / 10) (by omega)]
      simp only [List.foldl_cons, List.foldl_nil, numF, UInt8.toNat_ofNat']
      omega
theorem digits_few : ∀ (k u : Nat), u < 10 ^ (k + 1) → Lib.nDigits u ≤ k + 1
  | 0, u, h => by rw [Lib.nDigits_small (by simpa using h)]; omega
  | k + 1, u, h => by
    by_cases hs : u < 10
    · rw [Lib.nDigits_small hs]; omega
    · rw [Lib.nDigits_big hs]
      have := digits_few k (u / 10) (by rw [Nat.pow_succ] at h; omega)
      omega
theorem itoa_nat (u : Nat) : Lib.itoa (u : Int) = Lib.decDigits u := by
  unfold Lib.itoa; rw [if_neg (by omega)]; simp
theorem num_itoa {u : Nat} (h : u < 100000000) : numW (Lib.itoa (u : Int)) = u := by
  rw [itoa_nat, numW, List.take_of_length_le (by rw [Lib.decDigits_length]; exact digits_few 7 u (by simpa using h)), digits_num]
theorem digits_plain (u : Nat) : ∀ c ∈ Lib.decDigits u, 48 ≤ c.toNat ∧ c.toNat ≤ 57 := by
  induction u using Nat.strongRecOn with
  | _ u ih =>
    intro c hc
    by_cases h : u < 10
    · rw [Lib.decDigits, dif_pos h, List.mem_singleton] at hc
      rw [hc, UInt8.toNat_ofNat']; omega
    · rw [Lib.decDigits, dif_neg h, List.mem_append, List.mem_singleton] at hc
      rcases hc with hc | hc
      · exact ih _ (by omega) c hc
      · rw [hc, UInt8.toNat_ofNat']; omega
theorem itoa_plain (n : Int) : (32 : UInt8) ∉ Lib.itoa n := by
  intro h
  have key : ∀ u, (32 : UInt8) ∉ Lib.decDigits u := fun u hu => by
    have := (digits_plain u _ hu).1
    exact absurd this (by decide)
  unfold Lib.itoa at h
  split at h
  · rcases List.mem_cons.1 h with h | h
    · cases h
    · exact key _ h
  · exact key _ h
/-! a yard, and who holds its boxes -/
def liveN (y : Yd) (n : Nat) : Nat := if (y.at n).2 = true then 1 else 0
structure BalY (cs : List Nat) (y : Yd) : Prop where
  told : y.made.length < 10000000 → story y.trace = ⟨y.made.map (·.2), y.live, true⟩
  tal : ∀ n, 1 ≤ n → cs.count n = liveN y n
  sum : y.live = (((y.made.map (·.2)).count true : Nat) : Int)
  words : ∀ b ∈ y.trace, b ≠ [] ∧ (32 : UInt8) ∉ b
section
variable {cs ds : List Nat} {y : Yd} {n : Nat}
theorem BalY.congr (h : BalY cs y) (he : ∀ n, 1 ≤ n → ds.count n = cs.count n) : BalY ds y := ⟨h.told, fun n hn => (he n hn).trans (h.tal n hn), h.sum, h.words⟩
theorem words_add {l : List B} (h : ∀ b ∈ l, b ≠ [] ∧ (32 : UInt8) ∉ b) (c : UInt8) (hc : c ≠ 32) (n : Int) : ∀ b ∈ l ++ [c :: Lib.itoa n], b ≠ [] ∧ (32 : UInt8) ∉ b := fun b hb => by
  rcases List.mem_append.1 hb with hb | hb
  · exact h b hb
  · rw [List.mem_singleton.1 hb]
    refine ⟨by simp, fun hm => ?_⟩
    rcases List.mem_cons.1 hm with hm | hm
    · exact hc hm.symm
    · exact itoa_plain n hm
theorem BalY.out (h : BalY cs y) (m : Int) : BalY cs (y.note 111 m) := by
  refine ⟨fun hm => ?_, h.tal, h.sum, words_add h.words 111 (by decide) m⟩
  have := h.told hm
  show story (y.trace ++ [111 :: Lib.itoa m]) = _
  rw [story_add, this]
  rfl
theorem at_live (h : (y.at n).2 = true) : n - 1 < y.made.length := by
  rcases Nat.lt_or_ge (n - 1) y.made.length with h1 | h1
  · exact h1
  · rw [Yd.at, List.getD_eq_getElem?_getD, List.getElem?_eq_none h1] at h; cases h
theorem at_map (y : Yd) (n : Nat) : (y.made.map (·.2)).getD (n - 1) false = (y.at n).2 := by
  rw [Yd.at, List.getD_eq_getElem?_getD, List.getD_eq_getElem?_getD, List.getElem?_map]
  cases y.made[n - 1]? <;> rfl
theorem BalY.build (h : BalY cs y) (v : Int) : BalY ((y.made.length + 1) :: cs) (y.build v) := by
  refine ⟨fun hm => ?_, fun n hn => ?_, ?_, words_add h.words 43 (by decide) _⟩
  · have hm' : y.made.length + 1 < 10000000 := by simpa [Yd.build, Yd.note] using hm
    show story (y.trace ++ [43 :: Lib.itoa ((y.made.length + 1 : Nat) : Int)]) = ⟨(y.made ++ [(v, true)]).map (·.2), y.live + 1, true⟩
    rw [story_add, h.told (by omega)]
    simp only [Sty.word]
    rw [if_neg (by decide), if_pos trivial, num_itoa (by omega)]
    simp
  · rw [List.count_cons, h.tal n hn]
    show _ = if ((y.made ++ [(v, true)]).getD (n - 1) (0, false)).2 = true then 1 else 0
    unfold liveN Yd.at
    rw [List.getD_eq_getElem?_getD, List.getD_eq_getElem?_getD, List.getElem?_append]
    by_cases h1 : n - 1 < y.made.length
    · rw [if_pos h1]
      have : (y.made.length + 1 == n) = false := by simp; omega
      rw [this]; simp
    · rw [if_neg h1, List.getElem?_eq_none (by omega)]
      by_cases h2 : n = y.made.length + 1
      · subst h2; simp
      · have : (y.made.length + 1 == n) = false := by simp; omega
        rw [this, List.getElem?_eq_none (by simp; omega)]; simp
  · show y.live + 1 = ((((y.made ++ [(v, true)]).map (·.2)).count true : Nat) : Int)
    rw [h.sum]; simp
theorem BalY.live_of (h : BalY cs y) (hn : 1 ≤ n) (hc : n ∈ cs) : (y.at n).2 = true := by
  have h1 := h.tal n hn
  have h2 := List.count_pos_iff.2 hc
  unfold liveN at h1
  split at h1
  · assumption
  · omega
theorem BalY.free (h : BalY (n :: cs) y) (hn : 1 ≤ n) : BalY cs (y.free n) := by
  have hl := h.live_of hn (List.mem_cons_self ..)
  have hlt := at_live hl
  refine ⟨fun hm => ?_, fun k hk => ?_, ?_, words_add h.words 45 (by decide) _⟩
  · have hm' : y.made.length < 10000000 := by simpa [Yd.free, Yd.note] using hm
    show story (y.trace ++ [45 :: Lib.itoa ((n : Nat) : Int)]) = ⟨(y.made.set (n - 1) ((y.at n).1, false)).map (·.2), y.live - 1, true⟩
    rw [story_add, h.told hm']
    simp only [Sty.word]
    rw [if_neg (by decide), if_neg (by decide), num_itoa (by omega), if_neg, if_pos trivial, List.map_set]
    · simp
    · rw [Int.toNat_natCast, at_map, hl, List.length_map]
      rintro (e | e | e)
      · omega
      · omega
      · cases e
  · have h1 := h.tal k hk
    rw [List.count_cons] at h1
    show _ = if ((y.made.set (n - 1) ((y.at n).1, false)).getD (k - 1) (0, false)).2 = true then 1 else 0
    rw [List.getD_eq_getElem?_getD]
    by_cases e : n = k
    · subst e
      rw [List.getElem?_set_self hlt]
      unfold liveN at h1
      rw [if_pos hl] at h1
      simp at h1 ⊢
      exact h1
    · rw [List.getElem?_set_ne (by omega)]
      have : (n == k) = false := by simp; omega
      rw [this] at h1
      simpa [liveN, Yd.at, List.getD_eq_getElem?_getD] using h1
  · show y.live - 1 = (((((y.made.set (n - 1) ((y.at n).1, false)).map (·.2)).count true : Nat)) : Int)
    rw [List.map_set, List.count_set (by simpa using hlt), h.sum]
    have hg : (y.made.map (·.2))[n - 1]'(by simpa using hlt) = true := by
      have := at_map y n
      rw [List.getD_eq_getElem?_getD, List.getElem?_eq_getElem (by simpa using hlt)] at this
      rw [hl] at this; exact this
    rw [hg]
    have hp : 1 ≤ (y.made.map (·.2)).count true := List.count_pos_iff.2 (hg ▸ List.getElem_mem _)
    simp
    omega
theorem story_use {s : Sty} {c : UInt8} (h1 : ¬ c = 111) (h2 : ¬ c = 43) (h3 : ¬ c = 45) {n : Nat} (hn : 1 ≤ n) (h8 : n < 100000000) (hl : s.live.getD (n - 1) false = true) : s.word (c :: Lib.itoa (n : Int)) = s := by
  have hlt : n - 1 < s.live.length := by
    rcases Nat.lt_or_ge (n - 1) s.live.length with h | h
    · exact h
    · rw [List.getD_eq_getElem?_getD, List.getElem?_eq_none h] at hl; cases hl
  simp only [Sty.word]
  rw [if_neg h1, if_neg h2, num_itoa h8, if_neg, if_neg h3]
  rw [Int.toNat_natCast, hl]
  rintro (e | e | e)
  · omega
  · omega
  · cases e
theorem BalY.use (h : BalY cs y) (hn : 1 ≤ n) (hc : n ∈ cs) (c : UInt8) (h1 : ¬ c = 111) (h2 : ¬ c = 43) (h3 : ¬ c = 45) (h4 : c ≠ 32) : BalY cs (y.note c (n : Nat)) := by
  have hl := h.live_of hn hc
  have hlt := at_live hl
  refine ⟨fun hm => ?_, h.tal, h.sum, words_add h.words c h4 _⟩
  have hm' : y.made.length < 10000000 := hm
  show story (y.trace ++ [c :: Lib.itoa ((n : Nat) : Int)]) = _
  rw [story_add, h.told hm', story_use h1 h2 h3 hn (by omega) (by rw [at_map]; exact hl)]
  rfl
theorem BalY.load (h : BalY cs y) (hn : 1 ≤ n) (hc : n ∈ cs) : BalY cs (y.load n) := h.use hn hc 60 (by decide) (by decide) (by decide) (by decide)
theorem BalY.store (h : BalY cs y) (hn : 1 ≤ n) (hc : n ∈ cs) (v : Int) : BalY cs (y.store n v) := by
  have hs := h.use hn hc 62 (by decide) (by decide) (by decide) (by decide)
  have hm : (y.made.set (n - 1) (v, (y.at n).2)).map (·.2) = y.made.map (·.2) := by
    rw [List.map_set]
    have := at_live (h.live_of hn hc)
    refine List.ext_getElem? fun k => ?_
    rw [List.getElem?_set]
    by_cases e : n - 1 = k
    · subst e
      rw [if_pos rfl, if_pos (by simpa using this), ← at_map, List.getD_eq_getElem?_getD, List.getElem?_eq_getElem (by simpa using this)]; rfl
    · rw [if_neg e]
  refine ⟨fun hk => ?_, fun k hk => ?_, ?_, hs.words⟩
  · have := hs.told (by simpa [Yd.store, Yd.note] using hk)
    show story _ = ⟨(y.made.set (n - 1) (v, (y.at n).2)).map (·.2), y.live, true⟩
    rw [hm]; exact this
  · rw [h.tal k hk]
    unfold liveN
    rw [← at_map, ← at_map]
    show (if (y.made.map (·.2)).getD (k - 1) false = true then 1 else 0) = if ((y.made.set (n - 1) (v, (y.at n).2)).map (·.2)).getD (k - 1) false = true then 1 else 0
    rw [hm]
  · show y.live = ((((y.made.set (n - 1) (v, (y.at n).2)).map (·.2)).count true : Nat) : Int)
    rw [hm]; exact h.sum
theorem BalY.none_left (h : BalY cs y) (h0 : ∀ n ∈ cs, n = 0) : y.live = 0 := by
  rw [h.sum]
  have : (y.made.map (·.2)).count true = 0 := by
    rw [List.count_eq_zero]
    intro hm
    obtain ⟨k, hk, e⟩ := List.mem_iff_getElem.1 hm
    have ht := h.tal (k + 1) (by omega)
    have hl : (y.at (k + 1)).2 = true := by
      rw [← at_map, List.getD_eq_getElem?_getD, Nat.add_sub_cancel, List.getElem?_eq_getElem hk, e]; rfl
    unfold liveN at ht
    rw [if_pos hl] at ht
    have := h0 (k + 1) (List.count_pos_iff.1 (by omega))
    omega
  omega
end
end Go.Proofs.YtmlgajhhnojdjaaGreatDoor.Bal
/- The project's machines: the yard's functions, walked. -/
namespace Go.Proofs.YtmlgajhhnojdjaaGreatDoor.Own
open Go Go.RowKit Go.Proofs.YtmlgajhhnojdjaaGreatDoor.Spec Go.Proofs.YtmlgajhhnojdjaaGreatDoor.Aux Go.Proofs.YtmlgajhhnojdjaaGreatDoor.PrjJ Go.Proofs.YtmlgajhhnojdjaaGreatDoor.PrjK Go.Proofs.YtmlgajhhnojdjaaGreatDoor.PrjL Go.Proofs.YtmlgajhhnojdjaaGreatDoor.PrjM

/-- a yard within bounds -/
structure Yd.Ok (y : Yd) : Prop where
  made : y.made.length ≤ 1000000
  trace : y.trace.length ≤ 9000000
  live : -100000000 ≤ y.live ∧ y.live ≤ 100000000
  words : ∀ b ∈ y.trace, b.length ≤ 30
/-- what a yard's function leaves -/
def Left (z x : Nat) (t : TypeId) (rest : List Value) (w : World) (vm vt : Value) (y' : Yd) (w' : World) : Prop := ∃ vm' vt', YAt z x t rest w' y' vm' vt' ∧ Roam x vm vt w vm' vt' w'
section
variable {z x : Nat} {t : TypeId} {rest : List Value} {w : World} {y : Yd} {vm vt : Value}
theorem putOut_any (h : YAt z x t rest w y vm vt) (n : Int) (hn : -9223372036854775808 ≤ n ∧ n ≤ 9223372036854775807) (hp : Pow w) (ho : y.Ok) :
    Calls Tryz.prog 104 #[.pointer (some ⟨x, 0, none⟩), .int .i64 n] w fun e w' => e = .returned (.tuple #[]) ∧ Left z x t rest w vm vt (y.note 111 n) w' := by
  have K := note_any h 111 n hn hp (by have := ho.trace; omega)
  have K2 : Calls Tryz.prog 98 #[.pointer (some ⟨x, 0, none⟩), .string ⟨#[111]⟩, .int .i64 n] w _ := K
  go_enter Tryz.func104, Tryz.ntmps104
  go_wp2_with (go_at_call 98; refine K2.mono ?_; rintro e w1 ⟨vt', rfl, h1, r1⟩)
  go_end0
  exact ⟨rfl, vm, vt', h1, r1⟩
set_option maxRecDepth 20000 in
set_option maxHeartbeats 1000000 in
theorem build_any (h : YAt z x t rest w y vm vt) (v : Int) (hp : Pow w) (ho : y.Ok) (hz : 11 ≤ z) :
    Calls Tryz.prog 61 #[.pointer (some ⟨x, 0, none⟩), .int .i64 v] w fun e w' => e = .returned (.int .i64 ((y.made.length + 1 : Nat) : Int)) ∧ Left z x t rest w vm vt (y.build v) w' := by
  obtain ⟨c0, c1, c2, f0, f1, f2⟩ := h.facts
  obtain ⟨i, hi, hz0, hz1, hz2⟩ := info_parts info_box
  have hbA : Below w.heap.size w (w.alloc (.cells #[.int .i64 v, .bool true] 175)) := (Below.refl _ _).alloc (Nat.le_refl _) _
  have HA := h.below hbA
  obtain ⟨a0, a1, a2, b0, b1, b2⟩ := HA.facts
  have hsA : z ≤ (w.alloc (.cells #[.int .i64 v, .bool true] 175)).heap.size := by have := HA.lt; have := HA.base; omega
  have hm := ho.made
  have hlv := ho.live
  go_enter Tryz.func61, Tryz.ntmps61
  go_wp2_with (first
    | (at_builtin; go_must (refine append_blk rfl _ _ 98 rfl z 175 i (.agg #[.int .i64 0, .bool false]) 2 16 Tryz.underlying98 hi hz0 hz1 hz2 rfl (by decide) vm _ _ rfl HA.made w.heap.size [.int .i64 v, .bool true] rfl Array.getElem?_push_size rfl (by intro u' hu; simp at hu; rcases hu with rfl | rfl <;> rfl) (by decide) (by omega) hsA ?_); intro g4 c4 w4 hown4 hgrow4 hat4 hlt4; have hblk4 : w4.heap[x]? = _ := (hgrow4.block _ HA.lt (own_type_ne HA.made HA.blk HA.ty.ne.1)).trans HA.blk; have r0 : w4.cell? ⟨x, 0, none⟩ = some vm := (by rw [cell_of_heap hblk4]; simp); have rf0 : w4.frozen? ⟨x, 0, none⟩ = false := frozen_of_heap hblk4 0; obtain ⟨h5, h6⟩ := h.addBox (b := (v, true)) hbA hown4 hgrow4 (fresh_of hat4); obtain ⟨d0, d1, d2, g0, g1, g2⟩ := h5.facts; obtain ⟨h7, h8⟩ := h5.setLive (y.live + 1); obtain ⟨k0, k1, k2, l0, l1, l2⟩ := h7.facts; have hr := h6.trans h8; have KN : Calls Tryz.prog 98 #[.pointer (some ⟨x, 0, none⟩), .string ⟨#[43]⟩, .int .i64 ((y.made.length : Int) + 1)] _ _ := note_any h7 43 ((y.made.length + 1 : Nat) : Int) (by omega) (hp.below (hr.below h hz (by have := h.lt; have := h.base; omega)) (Nat.le_refl _)) (by have := ho.trace; simp only; omega))
    | (go_at_call 98; refine KN.mono ?_; rintro e w9 ⟨vt', rfl, h9, r9⟩))
  go_ret
  exact ⟨rfl, _, vt', h9, hr.trans r9⟩
set_option maxRecDepth 20000 in
set_option maxHeartbeats 1000000 in
theorem free_any (h : YAt z x t rest w y vm vt) (n : Nat) (h1 : 1 ≤ n) (hn : n ≤ y.made.length) (hp : Pow w) (ho : y.Ok) (hz : 11 ≤ z) :
    Calls Tryz.prog 97 #[.pointer (some ⟨x, 0, none⟩), .int .i64 ((n : Nat) : Int)] w fun e w' => e = .returned (.tuple #[]) ∧ Left z x t rest w vm vt (y.free n) w' := by
  obtain ⟨c0, c1, c2, f0, f1, f2⟩ := h.facts
  obtain ⟨g, cap, rfl, hcap, hg, q0, q1, q2, q3⟩ := h.box h1 hn
  obtain ⟨h5, h6⟩ := (h.setBox h1 hn).2 false
  obtain ⟨d0, d1, d2, g0, g1, g2⟩ := h5.facts
  obtain ⟨h7, h8⟩ := h5.setLive (y.live - 1)
  have hr := h6.trans h8
  have hm := ho.made
  have hlv := ho.live
  have KN : Calls Tryz.prog 98 #[.pointer (some ⟨x, 0, none⟩), .string ⟨#[45]⟩, .int .i64 ((n : Nat) : Int)] _ _ := note_any h7 45 ((n : Nat) : Int) (by omega) (hp.below (hr.below h hz (by have := h.lt; have := h.base; omega)) (Nat.le_refl _)) (by have := ho.trace; simp only; omega)
  have i1 : (1 : Int) ≤ n := by omega
  have i2 : (n : Int) ≤ y.made.length := by omega
  have e1 : ((n : Int) - 1).toNat = n - 1 := by omega
  go_enter Tryz.func97, Tryz.ntmps97
  go_wp2_with (go_at_call 98; refine KN.mono ?_; rintro e w9 ⟨vt', rfl, h9, r9⟩)
  go_end0
  exact ⟨rfl, _, vt', h9, hr.trans r9⟩
set_option maxRecDepth 20000 in
set_option maxHeartbeats 1000000 in
theorem load_any (h : YAt z x t rest w y vm vt) (n : Nat) (h1 : 1 ≤ n) (hn : n ≤ y.made.length) (hp : Pow w) (ho : y.Ok) :
    Calls Tryz.prog 105 #[.pointer (some ⟨x, 0, none⟩), .int .i64 ((n : Nat) : Int)] w fun e w' => e = .returned (.int .i64 (y.at n).1) ∧ Left z x t rest w vm vt (y.load n) w' := by
  obtain ⟨g, cap, rfl, hcap, -⟩ := h.box h1 hn
  have hm := ho.made
  have KN : Calls Tryz.prog 98 #[.pointer (some ⟨x, 0, none⟩), .string ⟨#[60]⟩, .int .i64 ((n : Nat) : Int)] _ _ := note_any h 60 ((n : Nat) : Int) (by omega) hp (by have := ho.trace; omega)
  have i1 : (1 : Int) ≤ n := by omega
  have i2 : (n : Int) ≤ y.made.length := by omega
  have e1 : ((n : Int) - 1).toNat = n - 1 := by omega
  go_enter Tryz.func105, Tryz.ntmps105
  go_wp2_with (go_at_call 98; refine KN.mono ?_; rintro e w9 ⟨vt', rfl, h9, r9⟩; obtain ⟨c0, c1, c2, f0, f1, f2⟩ := h9.facts; have q := h9.box' h1 (show n ≤ (y.note 60 ((n : Nat) : Int)).made.length from hn); have q0 : w9.cell? ⟨g, (n - 1) * 2, none⟩ = some (.int .i64 (y.at n).1) := q.1; clear q)
  go_ret
  exact ⟨rfl, _, vt', h9, r9⟩
set_option maxRecDepth 20000 in
set_option maxHeartbeats 1000000 in
theorem store_any (h : YAt z x t rest w y vm vt) (n : Nat) (h1 : 1 ≤ n) (hn : n ≤ y.made.length) (v : Int) (hp : Pow w) (ho : y.Ok) :
    Calls Tryz.prog 106 #[.pointer (some ⟨x, 0, none⟩), .int .i64 ((n : Nat) : Int), .int .i64 v] w fun e w' => e = .returned (.tuple #[]) ∧ Left z x t rest w vm vt (y.store n v) w' := by
  obtain ⟨g, cap, rfl, hcap, -⟩ := h.box h1 hn
  have hm := ho.made
  have KN : Calls Tryz.prog 98 #[.pointer (some ⟨x, 0, none⟩), .string ⟨#[62]⟩, .int .i64 ((n : Nat) : Int)] _ _ := note_any h 62 ((n : Nat) : Int) (by omega) hp (by have := ho.trace; omega)
  have i1 : (1 : Int) ≤ n := by omega
  have i2 : (n : Int) ≤ y.made.length := by omega
  have e1 : ((n : Int) - 1).toNat = n - 1 := by omega
  go_enter Tryz.func106, Tryz.ntmps106
  go_wp2_with (go_at_call 98; refine KN.mono ?_; rintro e w9 ⟨vt', rfl, h9, r9⟩; obtain ⟨c0, c1, c2, f0, f1, f2⟩ := h9.facts; have q := h9.box' h1 (show n ≤ (y.note 62 ((n : Nat) : Int)).made.length from hn); have q0 : w9.cell? ⟨g, (n - 1) * 2, none⟩ = some (.int .i64 (y.at n).1) := q.1; have q2 := q.2.2.1; clear q; obtain ⟨h10, r10⟩ := (YAt.setBox (y := y.note 62 ((n : Nat) : Int)) h9 h1 hn).1 v)
  go_end0
  exact ⟨rfl, _, vt', h10, r9.trans r10⟩
end
end Go.Proofs.YtmlgajhhnojdjaaGreatDoor.Own
