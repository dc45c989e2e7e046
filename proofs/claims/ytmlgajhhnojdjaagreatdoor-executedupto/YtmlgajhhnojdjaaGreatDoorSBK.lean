/- Plain facts: what the bare machine's cells hold stays right, line by line; what stays within bounds. -/
import Derived.Test.YtmlgajhhnojdjaaGreatDoorSBJ
import Derived.Test.YtmlgajhhnojdjaaGreatDoorSAX
import Derived.Test.YtmlgajhhnojdjaaGreatDoorSAU
namespace Go.Proofs.YtmlgajhhnojdjaaGreatDoor.Ex
open Go Go.Proofs.YtmlgajhhnojdjaaGreatDoor.Spec Go.Proofs.YtmlgajhhnojdjaaGreatDoor.Aux Go.Proofs.YtmlgajhhnojdjaaGreatDoor.Own Go.Proofs.YtmlgajhhnojdjaaGreatDoor.RunA Go.Proofs.YtmlgajhhnojdjaaGreatDoor.RunB Go.Proofs.YtmlgajhhnojdjaaGreatDoor.PrjS Go.Proofs.YtmlgajhhnojdjaaGreatDoor.FlwA Go.Proofs.YtmlgajhhnojdjaaGreatDoor.FlwE Go.Proofs.YtmlgajhhnojdjaaGreatDoor.FlwS

/-- a line of a raw program -/
structure RLn (q : QP) (l : QLine) : Prop where
  ok : LOk q.locals.length q.blocks.length l
  has : ¬ l.op = 15
  fits : q.fits l = true
  flag : l.op = 17 ∨ l.op = 21 → 0 ≤ l.flag ∧ l.flag < 50
structure Br.Fit (q : QP) (b : Br) : Prop where
  len : b.cs.length = 36
  bx : b.Bx q
  tg : ∀ i, i < 12 → q.tyOf i = 3 → b.cs.getD (24 + i) (false, 0) = (true, 1) → (b.cs.getD (2 * i) (false, 0)).1 = true
section
variable {q : QP} {b : Br} {l : QLine} {p t f : Nat × Nat} {v : Int}
theorem getD_put (s : List (Bool × Int)) (i : Nat) (y : Bool × Int) (k : Nat) : (s.set i y).getD k (false, 0) = if i = k ∧ k < s.length then y else s.getD k (false, 0) := by
  rw [List.getD_eq_getElem?_getD, List.getD_eq_getElem?_getD, List.getElem?_set]
  by_cases e : i = k
  · subst e
    by_cases h : i < s.length
    · simp [h]
    · simp [h]
  · simp [e]
theorem not_tag (h : isTag q p = false) : cellOf q p = slotQ p := by unfold cellOf; rw [h]; rfl
theorem is_tag (h : isTag q p = true) : cellOf q p = 24 + p.1 := by unfold cellOf; rw [h]; rfl
theorem tag_opt (h : isTag q p = true) : q.tyOf p.1 = 3 ∧ ¬ (p.2 = 1 ∨ p.2 = 2 ∨ p.2 = 3) := by
  unfold isTag QP.kindV at h
  split at h
  · simp at h
  · rename_i hn; exact ⟨by simpa using h, hn⟩
theorem content_not_tag (q : QP) (i : Nat) : isTag q (i, 3) = false := by simp [isTag, QP.kindV]
theorem content_slot (i : Nat) : slotQ (i, 3) = 2 * i := by simp [slotQ]
theorem Br.Fit.write (h : b.Fit q) (hp : p.1 < 12) (hv : q.tyOf p.1 = 0 ∨ (isTag q p = true ∧ ¬ v = 1) ∨ (isTag q p = false ∧ 1 ≤ v ∧ v ≤ b.yd.made.length)) : (b.write q p v).Fit q := by
  have hlen := h.len
  refine ⟨by simpa [Br.write] using hlen, fun k hk ht hf => ?_, fun i hi h3 htag => ?_⟩
  · show 1 ≤ ((b.cs.set (cellOf q p) (true, v)).getD k (false, 0)).2 ∧ ((b.cs.set (cellOf q p) (true, v)).getD k (false, 0)).2 ≤ b.yd.made.length
    have hf' : ((b.cs.set (cellOf q p) (true, v)).getD k (false, 0)).1 = true := hf
    rw [getD_put] at hf' ⊢
    by_cases e : cellOf q p = k ∧ k < b.cs.length
    · rw [if_pos e]
      rcases hv with h0 | ⟨h1, -⟩ | ⟨h1, h2⟩
      · exfalso
        by_cases htg : isTag q p = true
        · have := (tag_opt htg).1; omega
        · rw [not_tag (by simpa using htg)] at e
          have := slot_half p
          rw [e.1] at this
          rw [this] at ht; exact ht h0
      · rw [is_tag h1] at e; omega
      · exact h2
    · rw [if_neg e] at hf' ⊢
      exact h.bx k hk ht hf'
  · have ht' : (b.cs.set (cellOf q p) (true, v)).getD (24 + i) (false, 0) = (true, 1) := htag
    show ((b.cs.set (cellOf q p) (true, v)).getD (2 * i) (false, 0)).1 = true
    rw [getD_put] at ht' ⊢
    by_cases e : cellOf q p = 2 * i ∧ 2 * i < b.cs.length
    · rw [if_pos e]
    · rw [if_neg e]
      by_cases e2 : cellOf q p = 24 + i ∧ 24 + i < b.cs.length
      · rw [if_pos e2] at ht'
        have hv1 : v = 1 := by simpa using ht'
        exfalso
        rcases hv with h0 | ⟨h1, h2⟩ | ⟨h1, -⟩
        · by_cases htg : isTag q p = true
          · have := (tag_opt htg).1; omega
          · rw [not_tag (by simpa using htg)] at e2
            have := slot_lt hp; omega
        · exact h2 hv1
        · rw [not_tag h1] at e2
          have := slot_lt hp; omega
      · rw [if_neg e2] at ht'
        exact h.tg i hi h3 ht'
/-- a tag and its content -/
theorem Br.Fit.both (h : b.Fit q) (hp : p.1 < 12) (ht : isTag q p = true) (u : Int) (hv : 1 ≤ v ∧ v ≤ b.yd.made.length) : ((b.write q p u).write q (p.1, 3) v).Fit q := by
  have hlen := h.len
  have e1 := is_tag ht
  have e2 : cellOf q (p.1, 3) = 2 * p.1 := by rw [not_tag (content_not_tag q p.1), content_slot]
  have key : ∀ k, ((b.write q p u).write q (p.1, 3) v).cs.getD k (false, 0) = if 2 * p.1 = k then (true, v) else if 24 + p.1 = k then (true, u) else b.cs.getD k (false, 0) := fun k => by
    show ((b.cs.set (cellOf q p) (true, u)).set (cellOf q (p.1, 3)) (true, v)).getD k (false, 0) = _
    rw [getD_put, getD_put, e1, e2, List.length_set, hlen]
    by_cases a1 : 2 * p.1 = k
    · rw [if_pos ⟨a1, by omega⟩, if_pos a1]
    · rw [if_neg (fun e => a1 e.1), if_neg a1]
      by_cases a2 : 24 + p.1 = k
      · rw [if_pos ⟨a2, by omega⟩, if_pos a2]
      · rw [if_neg (fun e => a2 e.1), if_neg a2]
  refine ⟨by simpa [Br.write] using hlen, fun k hk ht hf => ?_, fun i hi h3 htag => ?_⟩
  · rw [key] at hf ⊢
    by_cases a1 : 2 * p.1 = k
    · rw [if_pos a1]; exact hv
    · rw [if_neg a1, if_neg (by omega)] at hf ⊢
      exact h.bx k hk ht hf
  · rw [key] at htag ⊢
    by_cases a1 : 2 * p.1 = 2 * i
    · rw [if_pos a1]
    · rw [if_neg a1, if_neg (by omega)]
      rw [if_neg (by omega), if_neg (by omega)] at htag
      exact h.tg i hi h3 htag
theorem full_mono {k : Nat} (_hp : cellOf q p < b.cs.length) (hf : (b.cs.getD k (false, 0)).1 = true) : ((b.write q p v).cs.getD k (false, 0)).1 = true := by
  show ((b.cs.set (cellOf q p) (true, v)).getD k (false, 0)).1 = true
  rw [getD_put]; split
  · rfl
  · exact hf
theorem Br.Fit.val (h : b.Fit q) (hp : p.1 < 12) (ht : isTag q p = false) (h0 : ¬ q.tyOf p.1 = 0) (hf : (b.cell q p).1 = true) : 1 ≤ b.val q p ∧ b.val q p ≤ b.yd.made.length := by
  unfold Br.val Br.cell at *
  rw [not_tag ht] at hf ⊢
  exact h.bx (slotQ p) (slot_lt hp) (by rw [slot_half]; exact h0) hf
theorem copies_fit (ts fs : List (Nat × Nat)) (hl : ts.length = fs.length) (ht : ∀ y ∈ ts, y.1 < 12 ∧ isTag q y = false) (hf : ∀ y ∈ fs, y.1 < 12 ∧ isTag q y = false ∧ ¬ q.tyOf y.1 = 0 ∧ (b.cell q y).1 = true) (h : b.Fit q) :
    ∀ k, k ≤ fs.length → (Br.copies q ts fs k b).Fit q ∧ (Br.copies q ts fs k b).yd = b.yd ∧ ∀ j, (b.cs.getD j (false, 0)).1 = true → ((Br.copies q ts fs k b).cs.getD j (false, 0)).1 = true
  | 0, _ => ⟨h, rfl, fun _ h => h⟩
  | k + 1, hk => by
    obtain ⟨h1, h2, h3⟩ := copies_fit ts fs hl ht hf h k (by omega)
    have mt : ts.getD k (0, 0) ∈ ts := by rw [List.getD_eq_getElem?_getD, List.getElem?_eq_getElem (by omega)]; exact List.getElem_mem _
    have mf : fs.getD k (0, 0) ∈ fs := by rw [List.getD_eq_getElem?_getD, List.getElem?_eq_getElem (by omega)]; exact List.getElem_mem _
    obtain ⟨t1, t2⟩ := ht _ mt
    obtain ⟨f1, f2, f3, f4⟩ := hf _ mf
    have hv := h1.val f1 f2 f3 (h3 _ f4)
    refine ⟨h1.write t1 (.inr (.inr ⟨t2, hv⟩)), h2, fun j hj => full_mono (by rw [h1.len]; exact cellOf_lt t1) (h3 j hj)⟩
theorem halves_not_tag (h : isTag q p = false) : ∀ y ∈ QP.halvesQ q p, isTag q y = false ∧ y.1 = p.1 := fun y hy => by
  rcases halves_cases q p with ⟨e, -⟩ | ⟨e, -⟩ <;> rw [e] at hy <;> simp at hy
  · rw [hy]; exact ⟨h, rfl⟩
  · rcases hy with rfl | rfl <;> exact ⟨by simp [isTag, QP.kindV], rfl⟩
theorem Br.Fit.move (h : b.Fit q) (ht : t.1 < 12) (hf : f.1 < 12) (hk : q.kindV t = q.kindV f) (h0 : ¬ q.tyOf f.1 = 0) (hl : (QP.halvesQ q t).length = (QP.halvesQ q f).length) (hfull : ∀ y ∈ QP.halvesQ q f, (b.cell q y).1 = true) : (b.move q t f).Fit q := by
  have htf : isTag q t = isTag q f := by unfold isTag; rw [hk]
  unfold Br.move
  cases hit : isTag q f
  · rw [if_neg (by simp)]
    refine (copies_fit _ _ hl (fun y hy => ?_) (fun y hy => ?_) h _ (Nat.le_refl _)).1
    · obtain ⟨a1, a2⟩ := halves_not_tag (htf.trans hit) y hy
      exact ⟨by omega, a1⟩
    · obtain ⟨a1, a2⟩ := halves_not_tag hit y hy
      exact ⟨by omega, a1, by rw [a2]; exact h0, hfull y hy⟩
  · have hitt := htf.trans hit
    have ef : QP.halvesQ q f = [f] := by
      rcases halves_cases q f with ⟨e, -⟩ | ⟨-, -, e⟩
      · exact e
      · have := (tag_opt hit).1; omega
    have et : QP.halvesQ q t = [t] := by
      rcases halves_cases q t with ⟨e, -⟩ | ⟨-, -, e⟩
      · exact e
      · have := (tag_opt hitt).1; omega
    have em : b.moved q t f = b.write q t (b.val q f) := by unfold Br.moved; rw [ef, et]; rfl
    have hff : (b.cell q f).1 = true := hfull f (by rw [ef]; simp)
    have ev : (b.moved q t f).val q f = b.val q f := by
      rw [em]
      show ((b.cs.set (cellOf q t) (true, b.val q f)).getD (cellOf q f) (false, 0)).2 = _
      rw [getD_put]
      split
      · rfl
      · rfl
    by_cases h1 : (b.moved q t f).val q f = 1
    · rw [if_pos ⟨rfl, h1⟩, em]
      have hb1 : b.val q f = 1 := by rw [← ev]; exact h1
      have hcont : (b.cs.getD (2 * f.1) (false, 0)).1 = true := h.tg f.1 hf (tag_opt hit).1 (by
        unfold Br.val Br.cell at *
        rw [is_tag hit] at hff hb1
        exact Prod.ext hff hb1)
      have hval : 1 ≤ (b.cs.getD (2 * f.1) (false, 0)).2 ∧ (b.cs.getD (2 * f.1) (false, 0)).2 ≤ b.yd.made.length := h.bx (2 * f.1) (by omega) (by rw [show 2 * f.1 / 2 = f.1 by omega]; exact h0) hcont
      have ec : (b.write q t (b.val q f)).val q (f.1, 3) = (b.cs.getD (2 * f.1) (false, 0)).2 := by
        show ((b.cs.set (cellOf q t) (true, b.val q f)).getD (cellOf q (f.1, 3)) (false, 0)).2 = _
        rw [not_tag (content_not_tag q f.1), content_slot, is_tag hitt, getD_put, if_neg (by omega)]
      rw [ec]
      exact h.both ht hitt _ hval
    · rw [if_neg (fun e => h1 e.2), em]
      refine h.write ht (.inr (.inl ⟨hitt, ?_⟩))
      rw [← ev]; exact h1
end
end Go.Proofs.YtmlgajhhnojdjaaGreatDoor.Ex
/- Plain facts: what a trace says, as stowkeep's Story is told; a yard and those who hold its boxes. -/
namespace Go.Proofs.YtmlgajhhnojdjaaGreatDoor.Bal
open Go Go.Proofs.YtmlgajhhnojdjaaGreatDoor.Spec Go.Proofs.YtmlgajhhnojdjaaGreatDoor.Own

structure Sty where
  live : List Bool
  count : Int
  right : Bool
def Sty.nil : Sty := ⟨[], 0, true⟩
def numF (n : Int) (c : UInt8) : Int := 10 * n + (c.toNat : Int) - 48
def numW (l : B) : Int := (l.take 8).foldl numF 0
/-- a word of a trace -/
def Sty.word (s : Sty) : B → Sty
  | [] => { s with right := false }
  | c :: r =>
    if c = 111 then s
    else if c = 43 then ⟨s.live ++ [true], s.count + 1, s.right && (numW r == (s.live.length : Int) + 1)⟩
    else if numW r < 1 ∨ numW r > (s.live.length : Int) ∨ s.live.getD ((numW r).toNat - 1) false = false then { s with right := false }
    else if c = 45 then ⟨s.live.set ((numW r).toNat - 1) false, s.count - 1, s.right⟩
    else s
def story (ws : List B) : Sty := ws.foldl Sty.word .nil
theorem story_add (ws : List B) (b : B) : story (ws ++ [b]) = (story ws).word b := by simp [story]
/-! numbers -/
theorem digits_num (u : Nat) : (Lib.decDigits u).foldl numF 0 = (u : Int) := by
  induction u using Nat.strongRecOn with
  | _ u ih =>
    by_cases h : u < 10
    · rw [Lib.decDigits, dif_pos h]
      simp only [List.foldl_cons, List.foldl_nil, numF, UInt8.toNat_ofNat']
      omega
    · rw [Lib.decDigits, dif_neg h, List.foldl_append, ih (u / 10) (by omega)]
      simp only [List.foldl_cons, List.foldl_nil, numF, UInt8.toNat_ofNat']
      omega
theorem digits_few : ∀ (k u : Nat), u < 10 ^ (k + 1) → Lib.nDigits u ≤ k + 1
  | 0, u, h => by rw [Lib.nDigits_small (by simpa using h)]; omega
  | k + 1, u, h => by
    by_cases hs : u < 10
    · rw [Lib.nDigits_small hs]; omega
    · rw [Lib.nDigits_big hs]
      have := digits_few k (u / 10) (by rw [Nat.pow_succ] at h; omega)
      omega
theorem itoa_nat (u : Nat) : Lib.itoa (u : Int) = Lib.decDigits u := by
  unfold Lib.itoa; rw [if_neg (by omega)]; simp
theorem num_itoa {u : Nat} (h : u < 100000000) : numW (Lib.itoa (u : Int)) = u := by
  rw [itoa_nat, numW, List.take_of_length_le (by rw [Lib.decDigits_length]; exact digits_few 7 u (by simpa using h)), digits_num]
theorem digits_plain (u : Nat) : ∀ c ∈ Lib.decDigits u, 48 ≤ c.toNat ∧ c.toNat ≤ 57 := by
  induction u using Nat.strongRecOn with
  | _ u ih =>
    intro c hc
    by_cases h : u < 10
    · rw [Lib.decDigits, dif_pos h, List.mem_singleton] at hc
      rw [hc, UInt8.toNat_ofNat']; omega
    · rw [Lib.decDigits, dif_neg h, List.mem_append, List.mem_singleton] at hc
      rcases hc with hc | hc
      · exact ih _ (by omega) c hc
      · rw [hc, UInt8.toNat_ofNat']; omega
theorem itoa_plain (n : Int) : (32 : UInt8) ∉ Lib.itoa n := by
  intro h
  have key : ∀ u, (32 : UInt8) ∉ Lib.decDigits u := fun u hu => by
    have := (digits_plain u _ hu).1
    exact absurd this (by decide)
  unfold Lib.itoa at h
  split at h
  · rcases List.mem_cons.1 h with h | h
    · cases h
    · exact key _ h
  · exact key _ h
/-! a yard, and who holds its boxes -/
def liveN (y : Yd) (n : Nat) : Nat := if (y.at n).2 = true then 1 else 0
structure BalY (cs : List Nat) (y : Yd) : Prop where
  told : y.made.length < 10000000 → story y.trace = ⟨y.made.map (·.2), y.live, true⟩
  tal : ∀ n, 1 ≤ n → cs.count n = liveN y n
  sum : y.live = (((y.made.map (·.2)).count true : Nat) : Int)
  words : ∀ b ∈ y.trace, b ≠ [] ∧ (32 : UInt8) ∉ b
section
variable {cs ds : List Nat} {y : Yd} {n : Nat}
theorem BalY.congr (h : BalY cs y) (he : ∀ n, 1 ≤ n → ds.count n = cs.count n) : BalY ds y := ⟨h.told, fun n hn => (he n hn).trans (h.tal n hn), h.sum, h.words⟩
theorem words_add {l : List B} (h : ∀ b ∈ l, b ≠ [] ∧ (32 : UInt8) ∉ b) (c : UInt8) (hc : c ≠ 32) (n : Int) : ∀ b ∈ l ++ [c :: Lib.itoa n], b ≠ [] ∧ (32 : UInt8) ∉ b := fun b hb => by
  rcases List.mem_append.1 hb with hb | hb
  · exact h b hb
  · rw [List.mem_singleton.1 hb]
    refine ⟨by simp, fun hm => ?_⟩
    rcases List.mem_cons.1 hm with hm | hm
    · exact hc hm.symm
    · exact itoa_plain n hm
theorem BalY.out (h : BalY cs y) (m : Int) : BalY cs (y.note 111 m) := by
  refine ⟨fun hm => ?_, h.tal, h.sum, words_add h.words 111 (by decide) m⟩
  have := h.told hm
  show story (y.trace ++ [111 :: Lib.itoa m]) = _
  rw [story_add, this]
  rfl
theorem at_live (h : (y.at n).2 = true) : n - 1 < y.made.length := by
  rcases Nat.lt_or_ge (n - 1) y.made.length with h1 | h1
  · exact h1
  · rw [Yd.at, List.getD_eq_getElem?_getD, List.getElem?_eq_none h1] at h; cases h
theorem at_map (y : Yd) (n : Nat) : (y.made.map (·.2)).getD (n - 1) false = (y.at n).2 := by
  rw [Yd.at, List.getD_eq_getElem?_getD, List.getD_eq_getElem?_getD, List.getElem?_map]
  cases y.made[n - 1]? <;> rfl
theorem BalY.build (h : BalY cs y) (v : Int) : BalY ((y.made.length + 1) :: cs) (y.build v) := by
  refine ⟨fun hm => ?_, fun n hn => ?_, ?_, words_add h.words 43 (by decide) _⟩
  · have hm' : y.made.length + 1 < 10000000 := by simpa [Yd.build, Yd.note] using hm
    show story (y.trace ++ [43 :: Lib.itoa ((y.made.length + 1 : Nat) : Int)]) = ⟨(y.made ++ [(v, true)]).map (·.2), y.live + 1, true⟩
    rw [story_add, h.told (by omega)]
    simp only [Sty.word]
    rw [if_neg (by decide), if_pos trivial, num_itoa (by omega)]
    simp
  · rw [List.count_cons, h.tal n hn]
    show _ = if ((y.made ++ [(v, true)]).getD (n - 1) (0, false)).2 = true then 1 else 0
    unfold liveN Yd.at
    rw [List.getD_eq_getElem?_getD, List.getD_eq_getElem?_getD, List.getElem?_append]
    by_cases h1 : n - 1 < y.made.length
    · rw [if_pos h1]
      have : (y.made.length + 1 == n) = false := by simp; omega
      rw [this]; simp
    · rw [if_neg h1, List.getElem?_eq_none (by omega)]
      by_cases h2 : n = y.made.length + 1
      · subst h2; simp
      · have : (y.made.length + 1 == n) = false := by simp; omega
        rw [this, List.getElem?_eq_none (by simp; omega)]; simp
  · show y.live + 1 = ((((y.made ++ [(v, true)]).map (·.2)).count true : Nat) : Int)
    rw [h.sum]; simp
theorem BalY.live_of (h : BalY cs y) (hn : 1 ≤ n) (hc : n ∈ cs) : (y.at n).2 = true := by
  have h1 := h.tal n hn
  have h2 := List.count_pos_iff.2 hc
  unfold liveN at h1
  split at h1
  · assumption
  · omega
theorem BalY.free (h : BalY (n :: cs) y) (hn : 1 ≤ n) : BalY cs (y.free n) := by
  have hl := h.live_of hn (List.mem_cons_self ..)
  have hlt := at_live hl
  refine ⟨fun hm => ?_, fun k hk => ?_, ?_, words_add h.words 45 (by decide) _⟩
  · have hm' : y.made.length < 10000000 := by simpa [Yd.free, Yd.note] using hm
    show story (y.trace ++ [45 :: Lib.itoa ((n : Nat) : Int)]) = ⟨(y.made.set (n - 1) ((y.at n).1, false)).map (·.2), y.live - 1, true⟩
    rw [story_add, h.told hm']
    simp only [Sty.word]
    rw [if_neg (by decide), if_neg (by decide), num_itoa (by omega), if_neg, if_pos trivial, List.map_set]
    · simp
    · rw [Int.toNat_natCast, at_map, hl, List.length_map]
      rintro (e | e | e)
      · omega
      · omega
      · cases e
  · have h1 := h.tal k hk
    rw [List.count_cons] at h1
    show _ = if ((y.made.set (n - 1) ((y.at n).1, false)).getD (k - 1) (0, false)).2 = true then 1 else 0
    rw [List.getD_eq_getElem?_getD]
    by_cases e : n = k
    · subst e
      rw [List.getElem?_set_self hlt]
      unfold liveN at h1
      rw [if_pos hl] at h1
      simp at h1 ⊢
      exact h1
    · rw [List.getElem?_set_ne (by omega)]
      have : (n == k) = false := by simp; omega
      rw [this] at h1
      simpa [liveN, Yd.at, List.getD_eq_getElem?_getD] using h1
  · show y.live - 1 = (((((y.made.set (n - 1) ((y.at n).1, false)).map (·.2)).count true : Nat)) : Int)
    rw [List.map_set, List.count_set (by simpa using hlt), h.sum]
    have hg : (y.made.map (·.2))[n - 1]'(by simpa using hlt) = true := by
      have := at_map y n
      rw [List.getD_eq_getElem?_getD, List.getElem?_eq_getElem (by simpa using hlt)] at this
      rw [hl] at this; exact this
    rw [hg]
    have hp : 1 ≤ (y.made.map (·.2)).count true := List.count_pos_iff.2 (hg ▸ List.getElem_mem _)
    simp
    omega
theorem story_use {s : Sty} {c : UInt8} (h1 : ¬ c = 111) (h2 : ¬ c = 43) (h3 : ¬ c = 45) {n : Nat} (hn : 1 ≤ n) (h8 : n < 100000000) (hl : s.live.getD (n - 1) false = true) : s.word (c :: Lib.itoa (n : Int)) = s := by
  have hlt : n - 1 < s.live.length := by
    rcases Nat.lt_or_ge (n - 1) s.live.length with h | h
    · exact h
    · rw [List.getD_eq_getElem?_getD, List.getElem?_eq_none h] at hl; cases hl
  simp only [Sty.word]
  rw [if_neg h1, if_neg h2, num_itoa h8, if_neg, if_neg h3]
  rw [Int.toNat_natCast, hl]
  rintro (e | e | e)
  · omega
  · omega
  · cases e
theorem BalY.use (h : BalY cs y) (hn : 1 ≤ n) (hc : n ∈ cs) (c : UInt8) (h1 : ¬ c = 111) (h2 : ¬ c = 43) (h3 : ¬ c = 45) (h4 : c ≠ 32) : BalY cs (y.note c (n : Nat)) := by
  have hl := h.live_of hn hc
  have hlt := at_live hl
  refine ⟨fun hm => ?_, h.tal, h.sum, words_add h.words c h4 _⟩
  have hm' : y.made.length < 10000000 := hm
  show story (y.trace ++ [c :: Lib.itoa ((n : Nat) : Int)]) = _
  rw [story_add, h.told hm', story_use h1 h2 h3 hn (by omega) (by rw [at_map]; exact hl)]
  rfl
theorem BalY.load (h : BalY cs y) (hn : 1 ≤ n) (hc : n ∈ cs) : BalY cs (y.load n) := h.use hn hc 60 (by decide) (by decide) (by decide) (by decide)
theorem BalY.store (h : BalY cs y) (hn : 1 ≤ n) (hc : n ∈ cs) (v : Int) : BalY cs (y.store n v) := by
  have hs := h.use hn hc 62 (by decide) (by decide) (by decide) (by decide)
  have hm : (y.made.set (n - 1) (v, (y.at n).2)).map (·.2) = y.made.map (·.2) := by
    rw [List.map_set]
    have := at_live (h.live_of hn hc)
    refine List.ext_getElem? fun k => ?_
    rw [List.getElem?_set]
    by_cases e : n - 1 = k
    · subst e
      rw [if_pos rfl, if_pos (by simpa using this), ← at_map, List.getD_eq_getElem?_getD, List.getElem?_eq_getElem (by simpa using this)]; rfl
    · rw [if_neg e]
  refine ⟨fun hk => ?_, fun k hk => ?_, ?_, hs.words⟩
  · have := hs.told (by simpa [Yd.store, Yd.note] using hk)
    show story _ = ⟨(y.made.set (n - 1) (v, (y.at n).2)).map (·.2), y.live, true⟩
    rw [hm]; exact this
  · rw [h.tal k hk]
    unfold liveN
    rw [← at_map, ← at_map]
    show (if (y.made.map (·.2)).getD (k - 1) false = true then 1 else 0) = if ((y.made.set (n - 1) (v, (y.at n).2)).map (·.2)).getD (k - 1) false = true then 1 else 0
    rw [hm]
  · show y.live = ((((y.made.set (n - 1) (v, (y.at n).2)).map (·.2)).count true : Nat) : Int)
    rw [hm]; exact h.sum
end
end Go.Proofs.YtmlgajhhnojdjaaGreatDoor.Bal
/- Plain facts: a run of a checked program always comes to an answer, whatever is held from line to line. -/
namespace Go.Proofs.YtmlgajhhnojdjaaGreatDoor.RunB
open Go Go.Proofs.YtmlgajhhnojdjaaGreatDoor.Spec Go.Proofs.YtmlgajhhnojdjaaGreatDoor.Aux Go.Proofs.YtmlgajhhnojdjaaGreatDoor.Own Go.Proofs.YtmlgajhhnojdjaaGreatDoor.RunA Go.Proofs.YtmlgajhhnojdjaaGreatDoor.PrjS Go.Proofs.YtmlgajhhnojdjaaGreatDoor.FlwA Go.Proofs.YtmlgajhhnojdjaaGreatDoor.FlwB Go.Proofs.YtmlgajhhnojdjaaGreatDoor.FlwC Go.Proofs.YtmlgajhhnojdjaaGreatDoor.FlwD Go.Proofs.YtmlgajhhnojdjaaGreatDoor.FlwE Go.Proofs.YtmlgajhhnojdjaaGreatDoor.FlwF Go.Proofs.YtmlgajhhnojdjaaGreatDoor.FlwG Go.Proofs.YtmlgajhhnojdjaaGreatDoor.FlwH Go.Proofs.YtmlgajhhnojdjaaGreatDoor.FlwI Go.Proofs.YtmlgajhhnojdjaaGreatDoor.FlwJ Go.Proofs.YtmlgajhhnojdjaaGreatDoor.FlwK Go.Proofs.YtmlgajhhnojdjaaGreatDoor.FlwM Go.Proofs.YtmlgajhhnojdjaaGreatDoor.FlwO Go.Proofs.YtmlgajhhnojdjaaGreatDoor.FlwP Go.Proofs.YtmlgajhhnojdjaaGreatDoor.FlwQ Go.Proofs.YtmlgajhhnojdjaaGreatDoor.FlwS Go.Proofs.YtmlgajhhnojdjaaGreatDoor.FlwV Go.Proofs.YtmlgajhhnojdjaaGreatDoor.FlwY Go.Proofs.YtmlgajhhnojdjaaGreatDoor.FlwZ

theorem whole_cons {l : QLine} {ls : List QLine} (h : Whole (l :: ls)) : (18 ≤ l.op ∧ ls = []) ∨ (l.op < 18 ∧ Whole ls) := by
  obtain ⟨us, t, e, h1, h2⟩ := h
  cases us with
  | nil => simp only [List.nil_append, List.cons.injEq] at e; exact .inl ⟨by rw [e.1]; exact h1, e.2⟩
  | cons a us =>
    simp only [List.cons_append, List.cons.injEq] at e
    exact .inr ⟨by rw [e.1]; exact h2 a (List.mem_cons_self ..), us, t, e.2, h1, fun m hm => h2 m (List.mem_cons_of_mem _ hm)⟩
end Go.Proofs.YtmlgajhhnojdjaaGreatDoor.RunB
