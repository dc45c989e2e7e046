/- Plain facts: what a trace says, as stowkeep's Story is told; a yard and those who hold its boxes. -/
import Derived.Test.YtmlgajhhnojdjaaGreatDoorKAJ
import Derived.Test.YtmlgajhhnojdjaaGreatDoorKBE
import Derived.Laws.MakeOwn
import Derived.Test.YtmlgajhhnojdjaaGreatDoorKBC
namespace Go.Proofs.YtmlgajhhnojdjaaGreatDoor.Bal
open Go Go.Proofs.YtmlgajhhnojdjaaGreatDoor.Spec Go.Proofs.YtmlgajhhnojdjaaGreatDoor.Own

structure Sty where
  live : List Bool
  count : Int
  right : Bool
def Sty.nil : Sty := ⟨[], 0, true⟩
def numF (n : Int) (c : UInt8) : Int := 10 * n + (c.toNat : Int) - 48
def numW (l : B) : Int := (l.take 8).foldl numF 0
/-- a word of a trace -/
def Sty.word (s : Sty) : B → Sty
  | [] => { s with right := false }
  | c :: r =>
    if c = 111 then s
    else if c = 43 then ⟨s.live ++ [true], s.count + 1, s.right && (numW r == (s.live.length : Int) + 1)⟩
    else if numW r < 1 ∨ numW r > (s.live.length : Int) ∨ s.live.getD ((numW r).toNat - 1) false = false then { s with right := false }
    else if c = 45 then ⟨s.live.set ((numW r).toNat - 1) false, s.count - 1, s.right⟩
    else s
def story (ws : List B) : Sty := ws.foldl Sty.word .nil
theorem story_add (ws : List B) (b : B) : story (ws ++ [b]) = (story ws).word b := by simp [story]
/-! numbers -/
theorem digits_num (u : Nat) : (Lib.decDigits u).foldl numF 0 = (u : Int) := by
  induction u using Nat.strongRecOn with
  | _ u ih =>
    by_cases h : u < 10
    · rw [Lib.decDigits, dif_pos h]
      simp only [List.foldl_cons, List.foldl_nil, numF, UInt8.toNat_ofNat']
      omega
    · rw [Lib.decDigits, dif_neg h, List.foldl_append, ih (u / 10) (by omega)]
      simp only [List.foldl_cons, List.foldl_nil, numF, UInt8.toNat_ofNat']
      omega
theorem digits_few : ∀ (k u : Nat), u < 10 ^ (k + 1) → Lib.nDigits u ≤ k + 1
  | 0, u, h => by rw [Lib.nDigits_small (by simpa using h)]; omega
  | k + 1, u, h => by
    by_cases hs : u < 10
    · rw [Lib.nDigits_small hs]; omega
    · rw [Lib.nDigits_big hs]
      have := digits_few k (u / 10) (by rw [Nat.pow_succ] at h; omega)
      omega
theorem itoa_nat (u : Nat) : Lib.itoa (u : Int) = Lib.decDigits u := by
  unfold Lib.itoa; rw [if_neg (by omega)]; simp
theorem num_itoa {u : Nat} (h : u < 100000000) : numW (Lib.itoa (u : Int)) = u := by
  rw [itoa_nat, numW, List.take_of_length_le (by rw [Lib.decDigits_length]; exact digits_few 7 u (by simpa using h)), digits_num]
theorem digits_plain (u : Nat) : ∀ c ∈ Lib.decDigits u, 48 ≤ c.toNat ∧ c.toNat ≤ 57 := by
  induction u using Nat.strongRecOn with
  | _ u ih =>
    intro c hc
    by_cases h : u < 10
    · rw [Lib.decDigits, dif_pos h, List.mem_singleton] at hc
      rw [hc, UInt8.toNat_ofNat']; omega
    · rw [Lib.decDigits, dif_neg h, List.mem_append, List.mem_singleton] at hc
      rcases hc with hc | hc
      · exact ih _ (by omega) c hc
      · rw [hc, UInt8.toNat_ofNat']; omega
theorem itoa_plain (n : Int) : (32 : UInt8) ∉ Lib.itoa n := by
  intro h
  have key : ∀ u, (32 : UInt8) ∉ Lib.decDigits u := fun u hu => by
    have := (digits_plain u _ hu).1
    exact absurd this (by decide)
  unfold Lib.itoa at h
  split at h
  · rcases List.mem_cons.1 h with h | h
    · cases h
    · exact key _ h
  · exact key _ h
/-! a yard, and who holds its boxes -/
def liveN (y : Yd) (n : Nat) : Nat := if (y.at n).2 = true then 1 else 0
structure BalY (cs : List Nat) (y : Yd) : Prop where
  told : y.made.length < 10000000 → story y.trace = ⟨y.made.map (·.2), y.live, true⟩
  tal : ∀ n, 1 ≤ n → cs.count n = liveN y n
  sum : y.live = (((y.made.map (·.2)).count true : Nat) : Int)
  words : ∀ b ∈ y.trace, b ≠ [] ∧ (32 : UInt8) ∉ b
section
variable {cs ds : List Nat} {y : Yd} {n : Nat}
theorem BalY.congr (h : BalY cs y) (he : ∀ n, 1 ≤ n → ds.count n = cs.count n) : BalY ds y := ⟨h.told, fun n hn => (he n hn).trans (h.tal n hn), h.sum, h.words⟩
theorem words_add {l : List B} (h : ∀ b ∈ l, b ≠ [] ∧ (32 : UInt8) ∉ b) (c : UInt8) (hc : c ≠ 32) (n : Int) : ∀ b ∈ l ++ [c :: Lib.itoa n], b ≠ [] ∧ (32 : UInt8) ∉ b := fun b hb => by
  rcases List.mem_append.1 hb with hb | hb
  · exact h b hb
  · rw [List.mem_singleton.1 hb]
    refine ⟨by simp, fun hm => ?_⟩
    rcases List.mem_cons.1 hm with hm | hm
    · exact hc hm.symm
    · exact itoa_plain n hm
theorem BalY.out (h : BalY cs y) (m : Int) : BalY cs (y.note 111 m) := by
  refine ⟨fun hm => ?_, h.tal, h.sum, words_add h.words 111 (by decide) m⟩
  have := h.told hm
  show story (y.trace ++ [111 :: Lib.itoa m]) = _
  rw [story_add, this]
  rfl
theorem at_live (h : (y.at n).2 = true) : n - 1 < y.made.length := by
  rcases Nat.lt_or_ge (n - 1) y.made.length with h1 | h1
  · exact h1
  · rw [Yd.at, List.getD_eq_getElem?_getD, List.getElem?_eq_none h1] at h; cases h
theorem at_map (y : Yd) (n : Nat) : (y.made.map (·.2)).getD (n - 1) false = (y.at n).2 := by
  rw [Yd.at, List.getD_eq_getElem?_getD, List.getD_eq_getElem?_getD, List.getElem?_map]
  cases y.made[n - 1]? <;> rfl
theorem BalY.build (h : BalY cs y) (v : Int) : BalY ((y.made.length + 1) :: cs) (y.build v) := by
  refine ⟨fun hm => ?_, fun n hn => ?_, ?_, words_add h.words 43 (by decide) _⟩
  · have hm' : y.made.length + 1 < 10000000 := by simpa [Yd.build, Yd.note] using hm
    show story (y.trace ++ [43 :: Lib.itoa ((y.made.length + 1 : Nat) : Int)]) = ⟨(y.made ++ [(v, true)]).map (·.2), y.live + 1, true⟩
    rw [story_add, h.told (by omega)]
    simp only [Sty.word]
    rw [if_neg (by decide), if_pos trivial, num_itoa (by omega)]
    simp
  · rw [List.count_cons, h.tal n hn]
    show _ = if ((y.made ++ [(v, true)]).getD (n - 1) (0, false)).2 = true then 1 else 0
    unfold liveN Yd.at
    rw [List.getD_eq_getElem?_getD, List.getD_eq_getElem?_getD, List.getElem?_append]
    by_cases h1 : n - 1 < y.made.length
    · rw [if_pos h1]
      have : (y.made.length + 1 == n) = false := by simp; omega
      rw [this]; simp
    · rw [if_neg h1, List.getElem?_eq_none (by omega)]
      by_cases h2 : n = y.made.length + 1
      · subst h2; simp
      · have : (y.made.length + 1 == n) = false := by simp; omega
        rw [this, List.getElem?_eq_none (by simp; omega)]; simp
  · show y.live + 1 = ((((y.made ++ [(v, true)]).map (·.2)).count true : Nat) : Int)
    rw [h.sum]; simp
theorem BalY.live_of (h : BalY cs y) (hn : 1 ≤ n) (hc : n ∈ cs) : (y.at n).2 = true := by
  have h1 := h.tal n hn
  have h2 := List.count_pos_iff.2 hc
  unfold liveN at h1
  split at h1
  · assumption
  · omega
theorem BalY.free (h : BalY (n :: cs) y) (hn : 1 ≤ n) : BalY cs (y.free n) := by
  have hl := h.live_of hn (List.mem_cons_self ..)
  have hlt := at_live hl
  refine ⟨fun hm => ?_, fun k hk => ?_, ?_, words_add h.words 45 (by decide) _⟩
  · have hm' : y.made.length < 10000000 := by simpa [Yd.free, Yd.note] using hm
    show story (y.trace ++ [45 :: Lib.itoa ((n : Nat) : Int)]) = ⟨(y.made.set (n - 1) ((y.at n).1, false)).map (·.2), y.live - 1, true⟩
    rw [story_add, h.told hm']
    simp only [Sty.word]
    rw [if_neg (by decide), if_neg (by decide), num_itoa (by omega), if_neg, if_pos trivial, List.map_set]
    · simp
    · rw [Int.toNat_natCast, at_map, hl, List.length_map]
      rintro (e | e | e)
      · omega
      · omega
      · cases e
  · have h1 := h.tal k hk
    rw [List.count_cons] at h1
    show _ = if ((y.made.set (n - 1) ((y.at n).1, false)).getD (k - 1) (0, false)).2 = true then 1 else 0
    rw [List.getD_eq_getElem?_getD]
    by_cases e : n = k
    · subst e
      rw [List.getElem?_set_self hlt]
      unfold liveN at h1
      rw [if_pos hl] at h1
      simp at h1 ⊢
      exact h1
    · rw [List.getElem?_set_ne (by omega)]
      have : (n == k) = false := by simp; omega
      rw [this] at h1
      simpa [liveN, Yd.at, List.getD_eq_getElem?_getD] using h1
  · show y.live - 1 = (((((y.made.set (n - 1) ((y.at n).1, false)).map (·.2)).count true : Nat)) : Int)
    rw [List.map_set, List.count_set (by simpa using hlt), h.sum]
    have hg : (y.made.map (·.2))[n - 1]'(by simpa using hlt) = true := by
      have := at_map y n
      rw [List.getD_eq_getElem?_getD, List.getElem?_eq_getElem (by simpa using hlt)] at this
      rw [hl] at this; exact this
    rw [hg]
    have hp : 1 ≤ (y.made.map (·.2)).count true := List.count_pos_iff.2 (hg ▸ List.getElem_mem _)
    simp
    omega
theorem story_use {s : Sty} {c : UInt8} (h1 : ¬ c = 111) (h2 : ¬ c = 43) (h3 : ¬ c = 45) {n : Nat} (hn : 1 ≤ n) (h8 : n < 100000000) (hl : s.live.getD (n - 1) false = true) : s.word (c :: Lib.itoa (n : Int)) = s := by
  have hlt : n - 1 < s.live.length := by
    rcases Nat.lt_or_ge (n - 1) s.live.length with h | h
    · exact h
    · rw [List.getD_eq_getElem?_getD, List.getElem?_eq_none h] at hl; cases hl
  simp only [Sty.word]
  rw [if_neg h1, if_neg h2, num_itoa h8, if_neg, if_neg h3]
  rw [Int.toNat_natCast, hl]
  rintro (e | e | e)
  · omega
  · omega
  · cases e
theorem BalY.use (h : BalY cs y) (hn : 1 ≤ n) (hc : n ∈ cs) (c : UInt8) (h1 : ¬ c = 111) (h2 : ¬ c = 43) (h3 : ¬ c = 45) (h4 : c ≠ 32) : BalY cs (y.note c (n : Nat)) := by
  have hl := h.live_of hn hc
  have hlt := at_live hl
  refine ⟨fun hm => ?_, h.tal, h.sum, words_add h.words c h4 _⟩
  have hm' : y.made.length < 10000000 := hm
  show story (y.trace ++ [c :: Lib.itoa ((n : Nat) : Int)]) = _
  rw [story_add, h.told hm', story_use h1 h2 h3 hn (by omega) (by rw [at_map]; exact hl)]
  rfl
theorem BalY.load (h : BalY cs y) (hn : 1 ≤ n) (hc : n ∈ cs) : BalY cs (y.load n) := h.use hn hc 60 (by decide) (by decide) (by decide) (by decide)
theorem BalY.store (h : BalY cs y) (hn : 1 ≤ n) (hc : n ∈ cs) (v : Int) : BalY cs (y.store n v) := by
  have hs := h.use hn hc 62 (by decide) (by decide) (by decide) (by decide)
  have hm : (y.made.set (n - 1) (v, (y.at n).2)).map (·.2) = y.made.map (·.2) := by
    rw [List.map_set]
    have := at_live (h.live_of hn hc)
    refine List.ext_getElem? fun k => ?_
    rw [List.getElem?_set]
    by_cases e : n - 1 = k
    · subst e
      rw [if_pos rfl, if_pos (by simpa using this), ← at_map, List.getD_eq_getElem?_getD, List.getElem?_eq_getElem (by simpa using this)]; rfl
    · rw [if_neg e]
  refine ⟨fun hk => ?_, fun k hk => ?_, ?_, hs.words⟩
  · have := hs.told (by simpa [Yd.store, Yd.note] using hk)
    show story _ = ⟨(y.made.set (n - 1) (v, (y.at n).2)).map (·.2), y.live, true⟩
    rw [hm]; exact this
  · rw [h.tal k hk]
    unfold liveN
    rw [← at_map, ← at_map]
    show (if (y.made.map (·.2)).getD (k - 1) false = true then 1 else 0) = if ((y.made.set (n - 1) (v, (y.at n).2)).map (·.2)).getD (k - 1) false = true then 1 else 0
    rw [hm]
  · show y.live = ((((y.made.set (n - 1) (v, (y.at n).2)).map (·.2)).count true : Nat) : Int)
    rw [hm]; exact h.sum
end
end Go.Proofs.YtmlgajhhnojdjaaGreatDoor.Bal
/- All ways of a program, made and gone; its first fault. -/
namespace Go.Proofs.YtmlgajhhnojdjaaGreatDoor.FlwR
open Go Go.RowKit Go.Proofs.YtmlgajhhnojdjaaGreatDoor.Spec Go.Proofs.YtmlgajhhnojdjaaGreatDoor.Aux Go.Proofs.YtmlgajhhnojdjaaGreatDoor.PrjF Go.Proofs.YtmlgajhhnojdjaaGreatDoor.PrjG Go.Proofs.YtmlgajhhnojdjaaGreatDoor.PrjJ Go.Proofs.YtmlgajhhnojdjaaGreatDoor.PrjK Go.Proofs.YtmlgajhhnojdjaaGreatDoor.PrjL Go.Proofs.YtmlgajhhnojdjaaGreatDoor.PrjM Go.Proofs.YtmlgajhhnojdjaaGreatDoor.PrjO Go.Proofs.YtmlgajhhnojdjaaGreatDoor.PrjP Go.Proofs.YtmlgajhhnojdjaaGreatDoor.PrjQ Go.Proofs.YtmlgajhhnojdjaaGreatDoor.PrjS Go.Proofs.YtmlgajhhnojdjaaGreatDoor.PrjU Go.Proofs.YtmlgajhhnojdjaaGreatDoor.FlwA Go.Proofs.YtmlgajhhnojdjaaGreatDoor.FlwB Go.Proofs.YtmlgajhhnojdjaaGreatDoor.FlwC Go.Proofs.YtmlgajhhnojdjaaGreatDoor.FlwD Go.Proofs.YtmlgajhhnojdjaaGreatDoor.FlwE Go.Proofs.YtmlgajhhnojdjaaGreatDoor.FlwF Go.Proofs.YtmlgajhhnojdjaaGreatDoor.FlwG Go.Proofs.YtmlgajhhnojdjaaGreatDoor.FlwH Go.Proofs.YtmlgajhhnojdjaaGreatDoor.FlwI Go.Proofs.YtmlgajhhnojdjaaGreatDoor.FlwJ Go.Proofs.YtmlgajhhnojdjaaGreatDoor.FlwK Go.Proofs.YtmlgajhhnojdjaaGreatDoor.FlwL Go.Proofs.YtmlgajhhnojdjaaGreatDoor.FlwM Go.Proofs.YtmlgajhhnojdjaaGreatDoor.FlwN Go.Proofs.YtmlgajhhnojdjaaGreatDoor.FlwO Go.Proofs.YtmlgajhhnojdjaaGreatDoor.FlwP Go.Proofs.YtmlgajhhnojdjaaGreatDoor.FlwQ

theorem info_state3 : (Tryz.prog.info? 209).map (fun i => (i.zero.map Value.cells, i.size, i.bytes)) = some (some (stCells zeroSt).toArray, 24, 24) := by kernel_rfl
theorem under_states : Tryz.prog.underlying 139 = some (.slice 209) := by kernel_rfl
theorem zeroSt_ok : SOk zeroSt := ⟨by decide, zeroSt_lt⟩
theorem made_row (w : World) (n : Nat) : RowAt (w.alloc (.cells (madeCells (stCells zeroSt).toArray (n * 24)) 209)) w.heap.size (List.replicate n zeroSt) := by
  refine ⟨fun s hs => by rw [List.eq_of_mem_replicate hs]; exact zeroSt_ok, madeCells (stCells zeroSt).toArray (n * 24), by show (w.heap.push _)[w.heap.size]? = _; simp, by rw [size_madeCells]; simp; omega, fun i j hi hj => ?_⟩
  rw [List.length_replicate] at hi
  have hs : (stCells zeroSt).toArray.size = 24 := by decide
  have hj' : j < (stCells zeroSt).toArray.size := by rw [hs]; exact hj
  have e : (i * 24 + j) % (stCells zeroSt).toArray.size = j := by rw [hs]; omega
  unfold madeCells
  rw [Array.getElem?_map, Array.getElem?_range, if_pos (by omega), Option.map_some, e]
  rw [getElem!_pos _ j hj']
  have hz : (List.replicate n zeroSt).getD i [] = zeroSt := by simp [List.getD_eq_getElem?_getD, hi]
  have hl : j < zeroSt.length := by simpa [zeroSt] using hj
  rw [hz]
  simp [stCells, hl]
theorem run_make_states (n : Nat) (hn : n ≤ 4000) (w : World) : (Instr.makeSlice 139 (.int .i64 (n : Int)) (.int .i64 (n : Int))).run Tryz.prog w = .ok (.slice (some ⟨w.heap.size, 0, none⟩) n n) (w.alloc (.cells (madeCells (stCells zeroSt).toArray (n * 24)) 209)) := by
  obtain ⟨i, hi, hx⟩ := Option.map_eq_some_iff.1 info_state3
  simp only [Prod.mk.injEq] at hx
  obtain ⟨hz, hs, hb⟩ := hx
  obtain ⟨z, hz, hc⟩ := Option.map_eq_some_iff.1 hz
  have := run_make (P := Tryz.prog) w 139 209 i z under_states hi hz .i64 .i64 n n (by omega) (Int.le_refl _) (by rw [hb]; omega) (by omega)
  rw [hs, hc] at this
  simpa using this
section
variable {z a : Nat} {w w' : World} {q : QP} {vl vb : Value} {us : List Value} {vss : List (List (Value × Value))}
set_option maxRecDepth 20000 in
set_option maxHeartbeats 2000000 in
theorem waysOf_any (h : PAt z a w q vl vb us vss) (h0 : 0 < q.blocks.length) (hn : q.blocks.length ≤ 4000) (hls : q.locals.length ≤ 12) (hq : QOk q.blocks.length q) (hlines : ∀ j, (q.blocks.getD j []).length ≤ 4000)
    (I : List (List Nat) → (Nat → Bool) → Prop) (hI0 : I (leadE (List.replicate q.blocks.length zeroSt) 0 startSt) (leadO (List.replicate q.blocks.length zeroSt) (fun _ => false) 0 startSt))
    (hI : ∀ E O b, EOk E → E.length = q.blocks.length → b < q.blocks.length → O b = true → I E O → I (goBlk q E (setO O b false) b).2.1 (goBlk q E (setO O b false) b).2.2) :
    Calls Tryz.prog 90 #[.pointer (some ⟨a, 0, none⟩)] w fun e w' => ∃ ap mb E' O', e = .returned (.agg #[.pointer (some ⟨a, 0, none⟩), .slice (some ⟨ap, 0, none⟩) q.blocks.length q.blocks.length, .map (some mb)]) ∧
      PAt z a w' q vl vb us vss ∧ E'.length = q.blocks.length ∧ RowAt w' ap E' ∧ OpenAt w' mb q.blocks.length O' ∧ I E' O' ∧ (∀ b, O' b = false) ∧ w.heap.size ≤ ap ∧ w.heap.size ≤ mb ∧ Below w.heap.size w w' := by
  obtain ⟨p0, p1, -, -⟩ := PAt.facts h
  obtain ⟨adb, cb, rfl⟩ := own_slice h.blocks
  have hbR : Below w.heap.size w (w.alloc (.cells #[.pointer none, .slice none 0 0, .map none] 165)) := (Below.refl _ _).alloc (Nat.le_refl _) _
  have hmk := run_make_states q.blocks.length hn
  have hmm := @run_makeMap Tryz.prog
  have p1R := (hbR.cell (p := ⟨a, 1, none⟩) h.lt).trans p1
  have hPR := h.below hbR
  have hRr : (w.alloc (.cells #[.pointer none, .slice none 0 0, .map none] 165)).heap[w.heap.size]? = some (.cells #[.pointer none, .slice none 0 0, .map none] 165 (0, 0)) := Array.getElem?_push_size
  go_enter Tryz.func90, Tryz.ntmps90
  go_upto_region 1 with fail
  generalize (w.alloc (.cells #[.pointer none, .slice none 0 0, .map none] 165)) = R at *
  go_upto_region 2 with fail
  have hb1 : Below R.heap.size R (R.alloc (.cells (madeCells (stCells zeroSt).toArray (q.blocks.length * 24)) 209)) := (Below.refl _ _).alloc (Nat.le_refl _) _
  have hr1 := made_row R q.blocks.length
  have hs1 : (R.alloc (.cells (madeCells (stCells zeroSt).toArray (q.blocks.length * 24)) 209)).heap.size = R.heap.size + 1 := by simp
  generalize (R.alloc (.cells (madeCells (stCells zeroSt).toArray (q.blocks.length * 24)) 209)) = R1 at *
  have hb2 : Below R1.heap.size R1 (R1.alloc (.map #[] 0)) := (Below.refl _ _).alloc (Nat.le_refl _) _
  have ho2 := OpenAt.made R1 q.blocks.length
  have hs2 : (R1.alloc (.map #[] 0)).heap.size = R.heap.size + 1 + 1 := by simp [hs1]
  generalize (R1.alloc (.map #[] 0)) = R2 at *
  have hb3 : Below R2.heap.size R2 (R2.alloc (.cells #[.pointer (some ⟨a, 0, none⟩), .slice (some ⟨R.heap.size, 0, none⟩) q.blocks.length q.blocks.length, .map (some (R.heap.size + 1))] 165)) := (Below.refl _ _).alloc (Nat.le_refl _) _
  have hx3 : (R2.alloc (.cells #[.pointer (some ⟨a, 0, none⟩), .slice (some ⟨R.heap.size, 0, none⟩) q.blocks.length q.blocks.length, .map (some (R.heap.size + 1))] 165)).heap[R2.heap.size]? = some (.cells #[.pointer (some ⟨a, 0, none⟩), .slice (some ⟨R.heap.size, 0, none⟩) q.blocks.length q.blocks.length, .map (some (R.heap.size + 1))] 165 (0, 0)) := Array.getElem?_push_size
  generalize (R2.alloc (.cells #[.pointer (some ⟨a, 0, none⟩), .slice (some ⟨R.heap.size, 0, none⟩) q.blocks.length q.blocks.length, .map (some (R.heap.size + 1))] 165)) = R3 at *
  have hwR : w.heap.size < R.heap.size := lt_of_heap hRr
  have hbb : Below R.heap.size R R3 := hb1.trans ((hb2.mono hb1.size).trans (hb3.mono (Nat.le_trans hb1.size hb2.size)))
  have hrow3 : RowAt R3 R.heap.size (List.replicate q.blocks.length zeroSt) := (hr1.heap (hb2.block _ hr1.lt)).heap (hb3.block _ (by omega))
  rw [hs1] at ho2
  rw [hs2] at hx3
  have hopn3 : OpenAt R3 (R.heap.size + 1) q.blocks.length (fun _ => false) := ho2.heap (hb3.block _ (by omega))
  have hW : WAt z (R.heap.size + 1 + 1) a R.heap.size (R.heap.size + 1) R3 q vl (.slice adb q.blocks.length cb) us vss (List.replicate q.blocks.length zeroSt) (fun _ => false) :=
    ⟨hx3, hPR.below hbb, by simp, hrow3, hopn3⟩
  have hrr3 := (hbb.block w.heap.size hwR).trans hRr
  have hB3 := hbR.trans (hbb.mono hbR.size)
  have KF := follow_any hW h0 hn hls hq hlines I hI0 hI
  clear hb1 hb2 hb3 hr1 ho2 hs1 hs2 hx3 hopn3 hrow3 hmk hmm p1R hRr hPR p0 p1 hI0 hI
  have hap : w.heap.size ≤ R.heap.size := by omega
  have hmb : w.heap.size ≤ R.heap.size + 1 := by omega
  generalize hxx : R.heap.size + 1 + 1 = x at *
  have hne1 : w.heap.size ≠ R.heap.size := by omega
  have hne2 : w.heap.size ≠ R.heap.size + 1 := by omega
  clear hxx
  generalize R.heap.size = ap at *
  generalize ap + 1 = mb at *
  go_wp2_with (go_at_call 144; refine KF.mono ?_; rintro e w1 ⟨rfl, E', O', hW1, hI1, hO1, hT1⟩; obtain ⟨c0, c1, c2⟩ := hW1.facts; have hr1 := (hT1.block _ (lt_of_heap hrr3) hne1 hne2).trans hrr3; have d0 := (cell_of_heap hr1 0).trans (by rfl : _ = some (Value.pointer none)); have d1 := (cell_of_heap hr1 1).trans (by rfl : _ = some (Value.slice none 0 0)); have d2 := (cell_of_heap hr1 2).trans (by rfl : _ = some (Value.map none)); have f0 := frozen_of_heap hr1 0; have f1 := frozen_of_heap hr1 1; have f2 := frozen_of_heap hr1 2)
  have hrf : (((w1.setCell ⟨w.heap.size, 0, none⟩ (.pointer (some ⟨a, 0, none⟩))).setCell ⟨w.heap.size, 1, none⟩ (.slice (some ⟨ap, 0, none⟩) q.blocks.length q.blocks.length)).setCell ⟨w.heap.size, 2, none⟩ (.map (some mb))).heap[w.heap.size]? = some (.cells #[.pointer (some ⟨a, 0, none⟩), .slice (some ⟨ap, 0, none⟩) q.blocks.length q.blocks.length, .map (some mb)] 165 (0, 0)) := by
    rw [Go.Proofs.YtmlgajhhnojdjaaGreatDoor.Aux.heap_setCell_same (Go.Proofs.YtmlgajhhnojdjaaGreatDoor.Aux.heap_setCell_same (Go.Proofs.YtmlgajhhnojdjaaGreatDoor.Aux.heap_setCell_same hr1 0 _) 1 _) 2 _]; rfl
  have hTr : Turn w.heap.size w1 (((w1.setCell ⟨w.heap.size, 0, none⟩ (.pointer (some ⟨a, 0, none⟩))).setCell ⟨w.heap.size, 1, none⟩ (.slice (some ⟨ap, 0, none⟩) q.blocks.length q.blocks.length)).setCell ⟨w.heap.size, 2, none⟩ (.map (some mb))) := (((Turn.refl _ _).setCell 0 _).setCell 1 _).setCell 2 _
  clear d0 d1 d2 f0 f1 f2 c0 c1 c2
  generalize (((w1.setCell ⟨w.heap.size, 0, none⟩ (.pointer (some ⟨a, 0, none⟩))).setCell ⟨w.heap.size, 1, none⟩ (.slice (some ⟨ap, 0, none⟩) q.blocks.length q.blocks.length)).setCell ⟨w.heap.size, 2, none⟩ (.map (some mb))) = wf at *
  refine bodyPost_ret (results_cell Tryz.results90 _ _ _ w.heap.size [.pointer (some ⟨a, 0, none⟩), .slice (some ⟨ap, 0, none⟩) q.blocks.length q.blocks.length, .map (some mb)] _ rfl (fun j v hv => by rw [Nat.zero_add, cell_of_heap hrf]; simpa using hv) Tryz.underlying165 rfl (by kernel_rfl)) rfl ?_
  have hkey : ∀ (g : Nat) (cs : Array Value) (e : TypeId) (f : Nat × Nat), w1.heap[g]? = some (.cells cs e f) → e ≠ 165 → wf.heap[g]? = w1.heap[g]? := fun g cs e f hg he => hTr.block g (lt_of_heap hg) (fun e1 => by
    rw [e1, hr1] at hg; simp only [Option.some.injEq, Obj.cells.injEq] at hg; exact he hg.2.1.symm)
  refine ⟨ap, mb, E', O', rfl, ?_, hW1.len, hW1.row.heap (hTr.block _ hW1.row.lt (by omega)), hW1.opn.heap (hTr.block _ hW1.opn.lt (by omega)), hI1, hO1, hap, hmb, (hB3.trans (hT1.below hap hmb hB3.size)).trans (hTr.below (Nat.le_refl _) (Nat.le_trans hB3.size hT1.size))⟩
  exact (h.below ((hB3.trans (hT1.below hap hmb hB3.size)).trans (hTr.below (Nat.le_refl _) (Nat.le_trans hB3.size hT1.size))))
set_option maxRecDepth 20000 in
theorem FirstFault_any (h : PAt z a w q vl vb us vss) (h0 : 0 < q.blocks.length) (hn : q.blocks.length ≤ 4000) (hls : q.locals.length ≤ 12) (hq : QOk q.blocks.length q) (hlines : ∀ j, (q.blocks.getD j []).length ≤ 4000)
    (I : List (List Nat) → (Nat → Bool) → Prop) (hI0 : I (leadE (List.replicate q.blocks.length zeroSt) 0 startSt) (leadO (List.replicate q.blocks.length zeroSt) (fun _ => false) 0 startSt))
    (hI : ∀ E O b, EOk E → E.length = q.blocks.length → b < q.blocks.length → O b = true → I E O → I (goBlk q E (setO O b false) b).2.1 (goBlk q E (setO O b false) b).2.2) :
    Calls Tryz.prog 54 #[.pointer (some ⟨a, 0, none⟩)] w fun e w' => (∃ E', EOk E' ∧ E'.length = q.blocks.length ∧ I E' (fun _ => false) ∧ e = .returned (ansOf (firstSome (faultB q E') q.blocks.length 0))) ∧ Below w.heap.size w w' := by
  have KW := waysOf_any h h0 hn hls hq hlines I hI0 hI
  have KF := fun x ap mb w1 E' (hW : WAt z x a ap mb w1 q vl vb us vss E' (fun _ => false)) => firstFault_any hW hn hls hq hlines
  go_enter Tryz.func54, Tryz.ntmps54
  go_upto_region 2 with (go_at_call 90; refine KW.mono ?_; rintro e w1 ⟨ap, mb, E', O', rfl, hP1, hl1, hr1, ho1, hI1, hO1, hap, hmb, hB1⟩)
  have hO : O' = fun _ => false := funext hO1
  have hbX : Below w1.heap.size w1 (w1.alloc (.cells #[.pointer (some ⟨a, 0, none⟩), .slice (some ⟨ap, 0, none⟩) q.blocks.length q.blocks.length, .map (some mb)] 165)) := (Below.refl _ _).alloc (Nat.le_refl _) _
  have hX : (w1.alloc (.cells #[.pointer (some ⟨a, 0, none⟩), .slice (some ⟨ap, 0, none⟩) q.blocks.length q.blocks.length, .map (some mb)] 165)).heap[w1.heap.size]? = some (.cells #[.pointer (some ⟨a, 0, none⟩), .slice (some ⟨ap, 0, none⟩) q.blocks.length q.blocks.length, .map (some mb)] 165 (0, 0)) := Array.getElem?_push_size
  have hW : WAt z w1.heap.size a ap mb _ q vl vb us vss E' O' := ⟨hX, hP1.below hbX, hl1, hr1.heap (hbX.block _ hr1.lt), ho1.below hbX⟩
  rw [hO] at hW hI1
  have KX := KF _ _ _ _ _ hW
  have hBX := hB1.trans (hbX.mono hB1.size)
  have hEok : EOk E' := hr1.1
  obtain ⟨r, hr⟩ : ∃ r, Hid (firstSome (faultB q E') q.blocks.length 0 = r) := ⟨_, rfl⟩
  rw [hr.out, ansOf_eq] at KX
  clear KF KW hW hX hbX ho1 hr1 hP1 hO1 hO hI0 hI
  generalize (w1.alloc (.cells #[.pointer (some ⟨a, 0, none⟩), .slice (some ⟨ap, 0, none⟩) q.blocks.length q.blocks.length, .map (some mb)] 165)) = W at *
  go_wp2_with (go_at_call 91; refine KX.mono ?_; rintro e w2 ⟨rfl, hT2⟩)
  go_ret2
  refine ⟨⟨E', hEok, hl1, hI1, ?_⟩, hBX.trans (hT2.below hap hmb hBX.size)⟩
  rw [hr.out, ansOf_eq]; rfl
end
end Go.Proofs.YtmlgajhhnojdjaaGreatDoor.FlwR
/- What the project's reader leaves, as plain functions say it: facts that its own parts ask of one another. -/
namespace Go.Proofs.YtmlgajhhnojdjaaGreatDoor.PrjV
open Go Go.RowKit Go.Proofs.YtmlgajhhnojdjaaGreatDoor.Spec Go.Proofs.YtmlgajhhnojdjaaGreatDoor.Aux Go.Proofs.YtmlgajhhnojdjaaGreatDoor.PrjF Go.Proofs.YtmlgajhhnojdjaaGreatDoor.PrjG Go.Proofs.YtmlgajhhnojdjaaGreatDoor.PrjH Go.Proofs.YtmlgajhhnojdjaaGreatDoor.PrjI Go.Proofs.YtmlgajhhnojdjaaGreatDoor.PrjJ Go.Proofs.YtmlgajhhnojdjaaGreatDoor.PrjK Go.Proofs.YtmlgajhhnojdjaaGreatDoor.PrjL Go.Proofs.YtmlgajhhnojdjaaGreatDoor.PrjM Go.Proofs.YtmlgajhhnojdjaaGreatDoor.PrjN Go.Proofs.YtmlgajhhnojdjaaGreatDoor.PrjO Go.Proofs.YtmlgajhhnojdjaaGreatDoor.PrjP Go.Proofs.YtmlgajhhnojdjaaGreatDoor.PrjQ Go.Proofs.YtmlgajhhnojdjaaGreatDoor.PrjR Go.Proofs.YtmlgajhhnojdjaaGreatDoor.PrjS Go.Proofs.YtmlgajhhnojdjaaGreatDoor.PrjT Go.Proofs.YtmlgajhhnojdjaaGreatDoor.PrjU

theorem sentP_words {ws : List B} {x : Nat × List B} (h : sentP ws = some x) : x.1 < 23 ∧ x.2.length = (wantsOf x.1).length ∧ x.2 = ws.drop 1 := by
  obtain ⟨h1, h2⟩ := sentP_sent h
  rw [sentP, h2] at h
  simp only at h
  split at h
  · rename_i hc
    refine ⟨opIdx_lt h2, ?_, by rw [h1]⟩
    rw [h1]
    simp only [List.length_drop]
    rw [h2]
    exact hc.1
  · cases h
theorem splitGo_len (raw : Bool) : ∀ (LS : List (List B)) (o : OrdP) (i : Nat) (S : List (Nat × List B)) (o' : OrdP), splitGo raw LS o i = (S, o', none) → S.length = LS.length ∧ ∀ j, j < LS.length → ∃ ws x, LS[j]? = some ws ∧ S[j]? = some x ∧ sentP ws = some x
  | [], o, i, S, o', h => by
    simp only [splitGo, Prod.mk.injEq] at h
    obtain ⟨rfl, -⟩ := h
    exact ⟨rfl, fun j hj => by simp at hj⟩
  | ws :: r, o, i, S, o', h => by
    rw [splitGo] at h
    cases hs : sentP ws with
    | none => rw [hs] at h; simp at h
    | some x =>
      rw [hs] at h
      simp only at h
      by_cases ha : (admitsP raw o x.1).2 = true
      · rw [if_pos ha] at h
        simp only [Prod.mk.injEq] at h
        obtain ⟨rfl, h2⟩ := h
        obtain ⟨i1, i2⟩ := splitGo_len raw r _ (i + 1) _ o' (Prod.ext rfl h2)
        refine ⟨by simp [i1], fun j hj => ?_⟩
        cases j with
        | zero => exact ⟨ws, x, rfl, rfl, hs⟩
        | succ j => simpa using i2 j (by simpa using hj)
      · rw [if_neg ha] at h; simp at h
theorem splitGo_order (raw : Bool) : ∀ (LS : List (List B)) (o : OrdP) (i : Nat) (S : List (Nat × List B)) (o' : OrdP), splitGo raw LS o i = (S, o', none) → ∀ j, j < S.length → 2 ≤ (S.getD j (0, [])).1 → o.sec = 1 ∨ 1 ≤ countB (S.take j)
  | [], o, i, S, o', h, j, hj, _ => by
    simp only [splitGo, Prod.mk.injEq] at h
    obtain ⟨rfl, -⟩ := h
    simp at hj
  | ws :: r, o, i, S, o', h, j, hj, h2 => by
    rw [splitGo] at h
    cases hs : sentP ws with
    | none => rw [hs] at h; simp at h
    | some x =>
      rw [hs] at h
      simp only at h
      by_cases ha : (admitsP raw o x.1).2 = true
      · rw [if_pos ha] at h
        simp only [Prod.mk.injEq] at h
        obtain ⟨rfl, hr⟩ := h
        have hop : ∀ (h2 : 2 ≤ x.1), o.sec = 1 := fun h2 => by
          rw [admitsP] at ha
          split at ha
          · simp at ha
          · rw [if_neg (by omega), if_neg (by omega)] at ha
            split at ha
            · simp at ha
            · rename_i h1; simpa using h1
        cases j with
        | zero => exact .inl (hop (by simpa using h2))
        | succ j =>
          have ih := splitGo_order raw r _ (i + 1) _ o' (Prod.ext rfl hr) j (by simpa using hj) (by simpa using h2)
          by_cases h1 : x.1 = 1
          · right
            unfold countB
            rw [List.take_succ_cons, List.filter_cons, if_pos (by simp [h1])]
            simp
          · rcases ih with ih | ih
            · left
              by_cases h0 : x.1 = 0
              · rw [admitsP] at ih
                split at ih
                · exact ih
                · exact ih
              · exact hop (by omega)
            · right
              unfold countB at ih ⊢
              rw [List.take_succ_cons, List.filter_cons]
              split
              · simp
              · exact ih
      · rw [if_neg ha] at h; simp at h
theorem sents_ok {raw : Bool} {L : List B} {S : List (Nat × List B)} {o : OrdP} (h : splitGo raw (L.map (split 32)) ⟨0, 0, 0⟩ 0 = (S, o, none)) (hL : L.length ≤ 4000) (hlen : ∀ j, (word L j).length ≤ 1048576) : SentsOk S ∧ S.length = L.length := by
  obtain ⟨h1, h2⟩ := splitGo_len raw _ _ _ _ _ h
  rw [List.length_map] at h1
  have key : ∀ j, j < S.length → ∃ ws, ws = split 32 (word L j) ∧ sentP ws = some (S.getD j (0, [])) := fun j hj => by
    obtain ⟨ws, x, e1, e2, e3⟩ := h2 j (by simp; omega)
    refine ⟨ws, ?_, by rw [List.getD_eq_getElem?_getD, e2]; exact e3⟩
    have hjl : j < L.length := by omega
    rw [List.getElem?_map, List.getElem?_eq_getElem hjl] at e1
    simp only [Option.map_some, Option.some.injEq] at e1
    rw [← e1]; simp [word, hjl]
  refine ⟨⟨by omega, fun j hj => ?_, fun j hj => ?_, fun j i => ?_, fun j hj h2 => ?_⟩, h1⟩
  · obtain ⟨ws, -, hs⟩ := key j hj; exact (sentP_words hs).1
  · obtain ⟨ws, -, hs⟩ := key j hj; exact (sentP_words hs).2.1
  · by_cases hj : j < S.length
    · obtain ⟨ws, e, hs⟩ := key j hj
      rw [(sentP_words hs).2.2, e]
      have : word ((split 32 (word L j)).drop 1) i = word (split 32 (word L j)) (i + 1) := by simp [word]
      rw [this]
      exact Nat.le_trans (word_split_le 32 _ _) (hlen j)
    · rw [List.getD_eq_getElem?_getD, List.getElem?_eq_none (by omega)]; simp [word]
  · have := splitGo_order raw _ _ _ _ _ h j hj h2
    rcases this with h | h
    · simp at h
    · exact h
theorem lookGo_size (nb : Nat) : ∀ (S : List (Nat × List B)) (i m : Nat) (q0 q : QP), lookGo nb S i q0 = (q, none) → (∀ b ∈ q0.blocks, b.length ≤ m) → q.locals.length ≤ q0.locals.length + S.length ∧ q.blocks.length ≤ q0.blocks.length + S.length ∧ ∀ b ∈ q.blocks, b.length ≤ m + S.length
  | [], i, m, q0, q, h, hm => by
    simp only [lookGo, Prod.mk.injEq, and_true] at h
    subst h; exact ⟨Nat.le_refl _, Nat.le_refl _, hm⟩
  | x :: r, i, m, q0, q, h, hm => by
    rw [lookGo] at h
    by_cases e0 : x.1 = 0
    · rw [if_pos e0] at h
      split at h
      · cases h
      · obtain ⟨i1, i2, i3⟩ := lookGo_size nb r (i + 1) m _ q h hm
        simp only [QP.addLocal, List.length_append, List.length_singleton] at i1 i2
        exact ⟨by simp; omega, by simp; omega, fun b hb => by have := i3 b hb; simp; omega⟩
    · rw [if_neg e0] at h
      by_cases e1 : x.1 = 1
      · rw [if_pos e1] at h
        obtain ⟨i1, i2, i3⟩ := lookGo_size nb r (i + 1) m _ q h (fun b hb => by
          simp only [QP.addBlock, List.mem_append, List.mem_singleton] at hb
          rcases hb with hb | rfl
          · exact hm b hb
          · simp)
        simp only [QP.addBlock, List.length_append, List.length_singleton] at i1 i2
        exact ⟨by simp; omega, by simp; omega, fun b hb => by have := i3 b hb; simp; omega⟩
      · rw [if_neg e1] at h
        cases hl : lineP q0.locals nb x with
        | none => rw [hl] at h; cases h
        | some l =>
          rw [hl] at h
          obtain ⟨i1, i2, i3⟩ := lookGo_size nb r (i + 1) (m + 1) _ q h (fun b hb => by
            simp only [QP.addLine, List.mem_append, List.mem_singleton] at hb
            rcases hb with hb | rfl
            · exact Nat.le_succ_of_le (hm b (List.dropLast_subset _ hb))
            · rw [List.length_append, List.length_singleton, List.getLastD_eq_getLast?]
              cases hq : q0.blocks.getLast? with
              | none => simp
              | some b' => have := hm b' (List.mem_of_getLast? hq); simp; omega)
          simp only [QP.addLine, List.length_append, List.length_singleton, List.length_dropLast] at i1 i2
          exact ⟨by simp; omega, by simp; omega, fun b hb => by have := i3 b hb; simp; omega⟩
/-- the lines of a text, as the library parts them -/
theorem lines_row (l : B) (w : World) (h : l.length ≤ 1048576) (E : Env w) :
    Calls Tryz.prog 116 #[.string (bs l), .string ⟨#[10]⟩] w fun e w' => e = .returned (.slice (some ⟨w.heap.size, 0, none⟩) (split 10 l).length (split 10 l).length) ∧ Below w.heap.size w w' ∧ w.heap.size < w'.heap.size ∧ ∀ j, j < (split 10 l).length → w'.cell? ⟨w.heap.size, j, none⟩ = some (.string (bs (word (split 10 l) j))) := by
  obtain ⟨m, hm⟩ := E.most
  have hc := countB_split 10 l.length l (Nat.le_refl _)
  refine (Tryz.strings_Split (bs l) ⟨#[10]⟩ m w (by rw [size_bs]; omega) hm (by decide)).mono ?_
  rintro e w' ⟨rfl, rfl⟩
  rw [hc]
  refine ⟨rfl, (Below.refl _ _).alloc (Nat.le_refl _) _, by simp, fun j hj => ?_⟩
  rw [((splitB_words 10 (Lib.countB (bs l) ⟨#[10]⟩) l).2.2 (by omega))]
  have : (w.alloc (.cells (((split 10 l).map bs).map Value.string).toArray 9)).heap[w.heap.size]? = some (.cells (((split 10 l).map bs).map Value.string).toArray 9 (0, 0)) := Array.getElem?_push_size
  rw [cell_of_heap this]
  simp [word, hj]
theorem count_lines (l : B) (w : World) : Calls Tryz.prog 114 #[.string (bs l), .string ⟨#[10]⟩] w fun e w' => e = .returned (.int .i64 (((split 10 l).length - 1 : Nat) : Int)) ∧ w' = w := by
  have := Tryz.strings_Count_one (bs l) 10 w
  have e : (Lib.countByte (bs l).data.toList 10 : Nat) = (split 10 l).length - 1 := by
    rw [split_count]; simp [Lib.countByte, bs]
  rw [e] at this
  exact this
end Go.Proofs.YtmlgajhhnojdjaaGreatDoor.PrjV
