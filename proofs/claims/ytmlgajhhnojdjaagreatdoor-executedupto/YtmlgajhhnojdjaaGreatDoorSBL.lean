/- Plain facts: a run of the bare machine always comes to an answer; what its trace says is right. -/
import Derived.Test.YtmlgajhhnojdjaaGreatDoorSBK
import Derived.Test.YtmlgajhhnojdjaaGreatDoorSBC
import Derived.Test.YtmlgajhhnojdjaaGreatDoorSAP
import Derived.Test.YtmlgajhhnojdjaaGreatDoorSAU
namespace Go.Proofs.YtmlgajhhnojdjaaGreatDoor.Ex
open Go Go.Proofs.YtmlgajhhnojdjaaGreatDoor.Spec Go.Proofs.YtmlgajhhnojdjaaGreatDoor.Aux Go.Proofs.YtmlgajhhnojdjaaGreatDoor.Own Go.Proofs.YtmlgajhhnojdjaaGreatDoor.RunA Go.Proofs.YtmlgajhhnojdjaaGreatDoor.RunB Go.Proofs.YtmlgajhhnojdjaaGreatDoor.PrjS Go.Proofs.YtmlgajhhnojdjaaGreatDoor.FlwA Go.Proofs.YtmlgajhhnojdjaaGreatDoor.FlwE Go.Proofs.YtmlgajhhnojdjaaGreatDoor.FlwS Go.Proofs.YtmlgajhhnojdjaaGreatDoor.Bal

structure Held (q : QP) (b : Br) : Prop where
  fit : b.Fit q
  bal : ∃ cs, BalY cs b.yd
section
variable {q : QP} {b : Br} {l : QLine} {p : Nat × Nat}
theorem place_of (hl : RLn q l) {j : Nat} (hj : j < l.places.length) : (plOf l j).1 < q.locals.length ∧ (plOf l j).2 ≤ 3 :=
  hl.ok.places _ (by unfold plOf; rw [List.getD_eq_getElem?_getD, List.getElem?_eq_getElem hj]; exact List.getElem_mem _)
theorem box_tag {x : Nat × Nat} (h : q.okPlace x 112 = true) : isTag q x = false := by
  have := (kind_box h).2.2
  unfold isTag; rw [this]; rfl
theorem opt_tag {x : Nat × Nat} (h : q.okPlace x 111 = true) (h3 : x.2 ≤ 3) : isTag q x = true := by
  obtain ⟨h1, h2⟩ := kind_opt h h3
  unfold isTag QP.kindV; rw [if_neg (by omega), h1]; rfl
theorem not_dead (h : b.dead q p = false) : (b.cell q p).1 = true ∧ (b.yd.at (b.val q p).toNat).2 = true := by
  unfold Br.dead at h
  simpa using h
theorem live_in {cs : List Nat} {y : Yd} (h : BalY cs y) {n : Nat} (hn : 1 ≤ n) (hl : (y.at n).2 = true) : n ∈ cs := by
  have := h.tal n hn
  unfold liveN at this
  rw [if_pos hl] at this
  exact List.count_pos_iff.1 (by omega)
theorem free_bal {y : Yd} (h : ∃ cs, BalY cs y) {n : Nat} (hn : 1 ≤ n) (hl : (y.at n).2 = true) : ∃ cs, BalY cs (y.free n) := by
  obtain ⟨cs, h⟩ := h
  have hm := live_in h hn hl
  refine ⟨cs.erase n, BalY.free (h.congr fun k _ => ?_) hn⟩
  rw [List.count_cons, List.count_erase]
  have : 1 ≤ cs.count n := List.count_pos_iff.2 hm
  by_cases e : n = k
  · subst e; simp; omega
  · have : (n == k) = false := by simp; omega
    rw [this]; simp
theorem Held.yard (h : Held q b) {y : Yd} (hm : y.made.length = b.yd.made.length) (hy : ∃ cs, BalY cs y) : Held q { b with yd := y } :=
  ⟨⟨h.fit.len, fun k hk ht hf => by have := h.fit.bx k hk ht hf; show _ ∧ _ ≤ (y.made.length : Int); rw [hm]; exact this, h.fit.tg⟩, hy⟩
theorem empty_one (h : b.empty q [p] = false) : (b.cell q p).1 = true := by simpa [Br.empty] using h
theorem empty_all {ps : List (Nat × Nat)} (h : b.empty q ps = false) : ∀ y ∈ ps, (b.cell q y).1 = true := fun y hy => by
  unfold Br.empty at h
  have := List.any_eq_false.1 h y hy
  simpa using this
theorem copies_yd (q : QP) (ts fs : List (Nat × Nat)) (b : Br) : ∀ k, (Br.copies q ts fs k b).yd = b.yd
  | 0 => rfl
  | k + 1 => copies_yd q ts fs b k
theorem move_yd (q : QP) (b : Br) (t f : Nat × Nat) : (b.move q t f).yd = b.yd := by
  unfold Br.move; split
  · exact copies_yd _ _ _ _ _
  · exact copies_yd _ _ _ _ _
theorem do1_made (q : QP) (b : Br) (l : QLine) : (b.do1 q l).yd.made.length = b.yd.made.length := by
  unfold Br.do1
  split
  · rfl
  split
  · rfl
  split
  · rfl
  split
  · rfl
  split
  · rfl
  split
  · simp [Yd.store, Yd.note]
  split
  · simp [Yd.free, Yd.note]
  split
  · rw [move_yd]
  split
  · rfl
  split
  · rfl
  split
  · rfl
  · rfl
/-- a statement behind which a run goes on -/
theorem line_held (h12 : q.locals.length ≤ 12) (hl : RLn q l) (hop : l.op = 2 ∨ l.op = 3 ∨ l.op = 4 ∨ l.op = 5 ∨ l.op = 7 ∨ l.op = 8 ∨ l.op = 10 ∨ l.op = 11 ∨ l.op = 16 ∨ l.op = 12 ∨ l.op = 13 ∨ l.op = 14 ∨ l.op = 17) (hb : b.breaks q l = false) (h : Held q b) : DoOk q b l ∧ Held q (b.do1 q l) := by
  have int0 : l.op = 2 ∨ l.op = 3 ∨ l.op = 4 ∨ l.op = 5 ∨ l.op = 7 ∨ l.op = 10 → q.tyOf (plOf l 0).1 = 0 ∧ (plOf l 0).1 < 12 := fun ho => by
    have hlen : 0 < l.places.length := by rcases ho with e | e | e | e | e | e <;> (rw [hl.ok.plen, e]; decide)
    have k0 := fits_at hl.fits (j := 0) hlen
    have hw : (wantsOf l.op).getD 0 0 = 105 := by rcases ho with e | e | e | e | e | e <;> (rw [e]; rfl)
    rw [hw] at k0
    exact ⟨kind_int k0, by have := (place_of hl hlen).1; omega⟩
  have hw : ∀ {b' : Br} (v : Int), Held q b' → (l.op = 2 ∨ l.op = 3 ∨ l.op = 4 ∨ l.op = 5 ∨ l.op = 7 ∨ l.op = 10) → Held q (b'.write q (plOf l 0) v) := fun v h' ho => ⟨h'.fit.write (int0 ho).2 (.inl (int0 ho).1), h'.bal⟩
  have hdo : ∀ (a1 : l.op = 17 → 0 ≤ l.flag ∧ l.flag < 50) (a2 : l.op = 12 → (QP.halvesQ q (plOf l 0)).length = (QP.halvesQ q (plOf l 1)).length) (a3 : l.op = 11 ∨ l.op = 16 → 1 ≤ b.val q (plOf l 0) ∧ b.val q (plOf l 0) ≤ b.yd.made.length) (a4 : l.op = 10 → 1 ≤ b.val q (plOf l 1) ∧ b.val q (plOf l 1) ≤ b.yd.made.length), DoOk q b l := fun a1 a2 a3 a4 => ⟨hop, a1, a2, a3, a4⟩
  unfold Br.do1
  unfold Br.breaks at hb
  rcases hop with e | e | e | e | e | e | e | e | e | e | e | e | e
  · refine ⟨hdo (by omega) (by omega) (by omega) (by omega), ?_⟩
    rw [if_pos e]; exact hw _ h (by omega)
  · refine ⟨hdo (by omega) (by omega) (by omega) (by omega), ?_⟩
    rw [if_neg (by omega), if_pos (by omega)]; exact hw _ h (by omega)
  · refine ⟨hdo (by omega) (by omega) (by omega) (by omega), ?_⟩
    rw [if_neg (by omega), if_pos (by omega)]; exact hw _ h (by omega)
  · refine ⟨hdo (by omega) (by omega) (by omega) (by omega), ?_⟩
    rw [if_neg (by omega), if_pos (by omega)]; exact hw _ h (by omega)
  · refine ⟨hdo (by omega) (by omega) (by omega) (by omega), ?_⟩
    rw [if_neg (by omega), if_neg (by omega), if_pos (by omega)]
    exact hw _ (b' := { b with inp := b.inp.tail }) ⟨⟨h.fit.len, h.fit.bx, h.fit.tg⟩, h.bal⟩ (by omega)
  · refine ⟨hdo (by omega) (by omega) (by omega) (by omega), ?_⟩
    rw [if_neg (by omega), if_neg (by omega), if_neg (by omega), if_pos (by omega)]
    obtain ⟨cs, hc⟩ := h.bal
    exact h.yard rfl ⟨cs, hc.out _⟩
  · have hlen : l.places.length = 2 := by rw [hl.ok.plen, e]; rfl
    have k1 := fits_at hl.fits (j := 1) (by omega)
    rw [e] at k1
    rw [if_neg (by omega), if_neg (by omega), if_neg (by omega), if_neg (by omega), if_pos e] at hb
    obtain ⟨d1, d2⟩ := not_dead hb
    have p1 := (place_of hl (j := 1) (by omega)).1
    have hv := h.fit.val (by omega) (box_tag (x := plOf l 1) k1) (kind_box (x := plOf l 1) k1).1 d1
    refine ⟨hdo (by omega) (by omega) (by omega) (fun _ => hv), ?_⟩
    rw [if_neg (by omega), if_neg (by omega), if_neg (by omega), if_neg (by omega), if_pos (by omega)]
    obtain ⟨cs, hc⟩ := h.bal
    exact hw _ (h.yard (y := b.yd.load (b.val q (plOf l 1)).toNat) rfl ⟨cs, hc.load (by omega) (live_in hc (by omega) d2)⟩) (by omega)
  · have hlen : l.places.length = 2 := by rw [hl.ok.plen, e]; rfl
    have k0 := fits_at hl.fits (j := 0) (by omega)
    rw [e] at k0
    rw [if_neg (by omega), if_neg (by omega), if_neg (by omega), if_neg (by omega), if_neg (by omega), if_pos e, Bool.or_eq_false_iff] at hb
    obtain ⟨d1, d2⟩ := not_dead hb.1
    have p0 := (place_of hl (j := 0) (by omega)).1
    have hv := h.fit.val (by omega) (box_tag (x := plOf l 0) k0) (kind_box (x := plOf l 0) k0).1 d1
    refine ⟨hdo (by omega) (by omega) (fun _ => hv) (by omega), ?_⟩
    rw [if_neg (by omega), if_neg (by omega), if_neg (by omega), if_neg (by omega), if_neg (by omega), if_pos (by omega)]
    obtain ⟨cs, hc⟩ := h.bal
    exact h.yard (by simp [Yd.store, Yd.note]) ⟨cs, hc.store (by omega) (live_in hc (by omega) d2) _⟩
  · have hlen : l.places.length = 1 := by rw [hl.ok.plen, e]; rfl
    have k0 := fits_at hl.fits (j := 0) (by omega)
    rw [e] at k0
    rw [if_neg (by omega), if_neg (by omega), if_neg (by omega), if_neg (by omega), if_neg (by omega), if_neg (by omega), if_pos e] at hb
    obtain ⟨d1, d2⟩ := not_dead hb
    have p0 := (place_of hl (j := 0) (by omega)).1
    have hv := h.fit.val (by omega) (box_tag (x := plOf l 0) k0) (kind_box (x := plOf l 0) k0).1 d1
    refine ⟨hdo (by omega) (by omega) (fun _ => hv) (by omega), ?_⟩
    rw [if_neg (by omega), if_neg (by omega), if_neg (by omega), if_neg (by omega), if_neg (by omega), if_neg (by omega), if_pos (by omega)]
    exact h.yard (by simp [Yd.free, Yd.note]) (free_bal h.bal (by omega) d2)
  · have hlen : l.places.length = 2 := by rw [hl.ok.plen, e]; rfl
    have k0 := fits_at hl.fits (j := 0) (by omega)
    have k1 := fits_at hl.fits (j := 1) (by omega)
    rw [e] at k0 k1
    have hkv := fits_same hl.fits e
    have p0 := place_of hl (j := 0) (by omega)
    have p1 := place_of hl (j := 1) (by omega)
    have hhl : (QP.halvesQ q (plOf l 0)).length = (QP.halvesQ q (plOf l 1)).length := by
      rcases halves_cases q (plOf l 0) with ⟨a1, a2⟩ | ⟨a1, a2, a3⟩ <;> rcases halves_cases q (plOf l 1) with ⟨c1, c2⟩ | ⟨c1, c2, c3⟩ <;> rw [a1, c1]
      · rfl
      · exfalso
        unfold QP.kindV at hkv
        rw [if_neg (show ¬ ((plOf l 1).2 = 1 ∨ (plOf l 1).2 = 2 ∨ (plOf l 1).2 = 3) by omega)] at hkv
        by_cases hp : (plOf l 0).2 = 1 ∨ (plOf l 0).2 = 2 ∨ (plOf l 0).2 = 3
        · rw [if_pos hp] at hkv; omega
        · rw [if_neg hp] at hkv; exact a2 ⟨by omega, by omega⟩
      · exfalso
        unfold QP.kindV at hkv
        rw [if_neg (show ¬ ((plOf l 0).2 = 1 ∨ (plOf l 0).2 = 2 ∨ (plOf l 0).2 = 3) by omega)] at hkv
        by_cases hp : (plOf l 1).2 = 1 ∨ (plOf l 1).2 = 2 ∨ (plOf l 1).2 = 3
        · rw [if_pos hp] at hkv; omega
        · rw [if_neg hp] at hkv; exact c2 ⟨by omega, by omega⟩
      · rfl
    rw [if_neg (by omega), if_neg (by omega), if_neg (by omega), if_pos e] at hb
    refine ⟨hdo (by omega) (fun _ => hhl) (by omega) (by omega), ?_⟩
    rw [if_neg (by omega), if_neg (by omega), if_neg (by omega), if_neg (by omega), if_neg (by omega), if_neg (by omega), if_neg (by omega), if_pos (by omega)]
    refine ⟨h.fit.move (by omega) (by omega) hkv (kind_thing (x := plOf l 1) k1) hhl (empty_all hb), ?_⟩
    rw [move_yd]; exact h.bal
  · have hlen : l.places.length = 1 := by rw [hl.ok.plen, e]; rfl
    have k0 := fits_at hl.fits (j := 0) (by omega)
    rw [e] at k0
    have p0 := place_of hl (j := 0) (by omega)
    refine ⟨hdo (by omega) (by omega) (by omega) (by omega), ?_⟩
    rw [if_neg (by omega), if_neg (by omega), if_neg (by omega), if_neg (by omega), if_neg (by omega), if_neg (by omega), if_neg (by omega), if_neg (by omega), if_pos (by omega)]
    exact ⟨h.fit.write (by omega) (.inr (.inl ⟨opt_tag (x := plOf l 0) k0 p0.2, by decide⟩)), h.bal⟩
  · have hlen : l.places.length = 2 := by rw [hl.ok.plen, e]; rfl
    have k0 := fits_at hl.fits (j := 0) (by omega)
    have k1 := fits_at hl.fits (j := 1) (by omega)
    rw [e] at k0 k1
    have p0 := place_of hl (j := 0) (by omega)
    have p1 := place_of hl (j := 1) (by omega)
    rw [if_neg (by omega), if_neg (by omega), if_pos (by omega)] at hb
    have hf1 := empty_one hb
    have ht0 := opt_tag (x := plOf l 0) k0 p0.2
    have ht1 := box_tag (x := plOf l 1) k1
    have hv := h.fit.val (by omega) ht1 (kind_box (x := plOf l 1) k1).1 hf1
    refine ⟨hdo (by omega) (by omega) (by omega) (by omega), ?_⟩
    rw [if_neg (by omega), if_neg (by omega), if_neg (by omega), if_neg (by omega), if_neg (by omega), if_neg (by omega), if_neg (by omega), if_neg (by omega), if_neg (by omega), if_pos (by omega)]
    have ev : (b.write q (plOf l 0) 1).val q (plOf l 1) = b.val q (plOf l 1) := by
      show ((b.cs.set (cellOf q (plOf l 0)) (true, 1)).getD (cellOf q (plOf l 1)) (false, 0)).2 = _
      have := slot_lt (x := plOf l 1) (by omega)
      rw [getD_put, if_neg (by rw [is_tag ht0, not_tag ht1]; omega)]; rfl
    rw [ev]
    exact ⟨h.fit.both (by omega) ht0 1 hv, h.bal⟩
  · refine ⟨hdo (fun _ => hl.flag (.inl e)) (by omega) (by omega) (by omega), ?_⟩
    rw [if_neg (by omega), if_neg (by omega), if_neg (by omega), if_neg (by omega), if_neg (by omega), if_neg (by omega), if_neg (by omega), if_neg (by omega), if_neg (by omega), if_neg (by omega), if_pos (by omega)]
    exact ⟨⟨h.fit.len, h.fit.bx, h.fit.tg⟩, h.bal⟩
theorem calc_held (h12 : q.locals.length ≤ 12) (hl : RLn q l) (hop : l.op = 6) (h : Held q b) : Held q (b.calc q l) := by
  have hlen : l.places.length = 3 := by rw [hl.ok.plen, hop]; rfl
  have k0 := fits_at hl.fits (j := 0) (by omega)
  rw [hop] at k0
  have p0 := place_of hl (j := 0) (by omega)
  exact ⟨h.fit.write (by have := p0.1; unfold plOf at this; omega) (.inl (kind_int (x := plOf l 0) k0)), h.bal⟩
theorem new_held (h12 : q.locals.length ≤ 12) (hl : RLn q l) (hop : l.op = 9) (v : Int) (h : Held q b) : Held q (b.new q (plOf l 0) v) := by
  have hlen : l.places.length = 2 := by rw [hl.ok.plen, hop]; rfl
  have k0 := fits_at hl.fits (j := 0) (by omega)
  rw [hop] at k0
  have p0 := (place_of hl (j := 0) (by omega)).1
  obtain ⟨cs, hc⟩ := h.bal
  have hmade : (b.yd.build v).made.length = b.yd.made.length + 1 := by simp [Yd.build, Yd.note]
  have h1 : ({ b with yd := b.yd.build v } : Br).Fit q := ⟨h.fit.len, fun k hk ht hf => by
    have hx := h.fit.bx k hk ht hf
    refine ⟨hx.1, Int.le_trans hx.2 ?_⟩
    show (b.yd.made.length : Int) ≤ ((b.yd.build v).made.length : Int)
    rw [hmade]; omega, h.fit.tg⟩
  refine ⟨h1.write (by omega) (.inr (.inr ⟨box_tag (x := plOf l 0) k0, by omega, ?_⟩)), ⟨_, hc.build v⟩⟩
  show _ ≤ ((b.yd.build v).made.length : Int)
  rw [hmade]; omega
/-- a run comes to an answer -/
theorem run_held (h12 : q.locals.length ≤ 12) (room : Int) (hblk : ∀ j, j < q.blocks.length → Whole (q.blocks.getD j [])) (hln : ∀ j, ∀ l ∈ q.blocks.getD j [], RLn q l) :
    ∀ (f : Nat) (ls : List QLine) (b : Br), Whole ls → (∀ l ∈ ls, RLn q l) → Held q b → ∃ ans, runB q room f ls b = some ans ∧ Held q ans.2.2 ∧ (ans.1 = 1 ∨ ans.1 = 2 ∨ ans.1 = 3 ∨ ans.1 = 4 ∨ ans.1 = 5) ∧ ans.2.2.yd.made.length ≤ b.yd.made.length + f
  | f, [], b, hw, _, _ => by obtain ⟨us, t, e, -⟩ := hw; simp at e
  | 0, l :: ls, b, _, _, h => ⟨(2, 0, b), rfl, h, by simp, Nat.le_refl _⟩
  | f + 1, l :: ls, b, hw, hl, h => by
    have hl0 := hl l (List.mem_cons_self ..)
    have o1 := hl0.ok.op
    have o2 := hl0.ok.op2
    have o3 := hl0.has
    rw [runB]
    cases hb : b.breaks q l
    · rw [if_neg (by simp)]
      rcases whole_cons hw with ⟨h18, rfl⟩ | ⟨h18, hw2⟩
      · by_cases h22 : l.op = 22
        · rw [if_neg (by omega), if_neg (by omega), if_neg (by omega), if_pos h22]
          exact ⟨_, rfl, h, by simp, by show b.yd.made.length ≤ _; omega⟩
        · rw [if_neg (by omega), if_neg (by omega), if_pos (by omega), if_pos rfl]
          have hnl : l.next.length = if l.op = 18 then 1 else 2 := by
            rw [hl0.ok.nlen]
            have : l.op = 18 ∨ l.op = 19 ∨ l.op = 20 ∨ l.op = 21 := by omega
            rcases this with e | e | e | e <;> rw [e] <;> rfl
          have hi : (if b.other q l then 1 else 0) < l.next.length := by
            rw [hnl]
            by_cases e : l.op = 18
            · have : b.other q l = false := by rw [Br.other, if_neg (by omega), if_neg (by omega), if_neg (by omega)]
              rw [this, if_pos e]; decide
            · rw [if_neg e]; split <;> omega
          have hbb : l.next.getD (if b.other q l then 1 else 0) 0 < q.blocks.length := hl0.ok.next _ (by rw [List.getD_eq_getElem?_getD, List.getElem?_eq_getElem hi]; exact List.getElem_mem _)
          obtain ⟨ans, h1, h2, h3, h4⟩ := run_held h12 room hblk hln f _ b (hblk _ hbb) (hln _) h
          exact ⟨ans, h1, h2, h3, by omega⟩
      · have hl' : ∀ m ∈ ls, RLn q m := fun m hm => hl m (List.mem_cons_of_mem _ hm)
        by_cases h6 : l.op = 6
        · rw [if_pos h6]
          split
          · exact ⟨_, rfl, h, by simp, by show b.yd.made.length ≤ _; omega⟩
          · obtain ⟨ans, h1, h2, h3, h4⟩ := run_held h12 room hblk hln f ls _ hw2 hl' (calc_held h12 hl0 h6 h)
            exact ⟨ans, h1, h2, h3, by have e : (b.calc q l).yd.made.length = b.yd.made.length := rfl; omega⟩
        · rw [if_neg h6]
          by_cases h9 : l.op = 9
          · rw [if_pos h9]
            split
            · exact ⟨_, rfl, h, by simp, by show b.yd.made.length ≤ _; omega⟩
            · obtain ⟨ans, h1, h2, h3, h4⟩ := run_held h12 room hblk hln f ls _ hw2 hl' (new_held h12 hl0 h9 (b.val q (plOf l 1)) h)
              refine ⟨ans, h1, h2, h3, ?_⟩
              have e : (b.new q (plOf l 0) (b.val q (plOf l 1))).yd.made.length = b.yd.made.length + 1 := by simp [Br.new, Br.write, Yd.build, Yd.note]
              omega
          · rw [if_neg h9, if_neg (by omega), if_neg (by omega)]
            obtain ⟨-, hd⟩ := line_held h12 hl0 (by omega) hb h
            obtain ⟨ans, h1, h2, h3, h4⟩ := run_held h12 room hblk hln f ls _ hw2 hl' hd
            refine ⟨ans, h1, h2, h3, ?_⟩
            have e := do1_made q b l
            omega
    · rw [if_pos rfl]
      exact ⟨_, rfl, h, by simp, by show b.yd.made.length ≤ _; omega⟩
end
end Go.Proofs.YtmlgajhhnojdjaaGreatDoor.Ex
/- Plain facts: what the bare machine has stays within bounds. -/
namespace Go.Proofs.YtmlgajhhnojdjaaGreatDoor.Ex
open Go Go.Proofs.YtmlgajhhnojdjaaGreatDoor.Spec Go.Proofs.YtmlgajhhnojdjaaGreatDoor.Aux Go.Proofs.YtmlgajhhnojdjaaGreatDoor.Own Go.Proofs.YtmlgajhhnojdjaaGreatDoor.RunA Go.Proofs.YtmlgajhhnojdjaaGreatDoor.RunB Go.Proofs.YtmlgajhhnojdjaaGreatDoor.PrjS Go.Proofs.YtmlgajhhnojdjaaGreatDoor.FlwA

/-- within bounds: t words at most -/
structure Br.In (b : Br) (t : Nat) : Prop where
  many : b.yd.made.length ≤ t
  trace : b.yd.trace.length ≤ t
  live : -(t : Int) ≤ b.yd.live ∧ b.yd.live ≤ t
  words : ∀ x ∈ b.yd.trace, x.length ≤ 30
  nums : ∀ c ∈ b.cs, isI64 c.2
  inp : ∀ n ∈ b.inp, isI64 n
  made : ∀ m ∈ b.yd.made, isI64 m.1
section
variable {q : QP} {b : Br} {t u : Nat}
theorem Br.In.mono (h : b.In t) (ht : t ≤ u) : b.In u := ⟨by have := h.many; omega, by have := h.trace; omega, by have := h.live; omega, h.words, h.nums, h.inp, h.made⟩
theorem Br.In.ok (h : b.In t) (ht : t ≤ 1000000) : b.yd.Ok := ⟨by have := h.many; omega, by have := h.trace; omega, by have := h.live; omega, h.words⟩
theorem Br.In.val (h : b.In t) (q : QP) (p : Nat × Nat) : isI64 (b.val q p) := by
  unfold Br.val Br.cell
  rw [List.getD_eq_getElem?_getD]
  cases hx : b.cs[cellOf q p]? with
  | none => exact zero_i64
  | some c => exact h.nums c (List.mem_of_getElem? hx)
theorem Br.In.write (h : b.In t) (q : QP) (p : Nat × Nat) {v : Int} (hv : isI64 v) : (b.write q p v).In t :=
  ⟨h.many, h.trace, h.live, h.words, fun c hc => by
    rcases List.mem_or_eq_of_mem_set hc with hc | rfl
    · exact h.nums c hc
    · exact hv, h.inp, h.made⟩
theorem Br.In.note (h : b.In t) (c : UInt8) {n : Int} (hn : isI64 n) : ({ b with yd := b.yd.note c n } : Br).In (t + 1) :=
  ⟨by have := h.many; show b.yd.made.length ≤ _; omega, by have := h.trace; show (b.yd.trace ++ [_]).length ≤ _; simp; omega, by have := h.live; show -((t + 1 : Nat) : Int) ≤ b.yd.live ∧ b.yd.live ≤ _; omega, note_words hn h.words, h.nums, h.inp, h.made⟩
theorem Br.In.at (h : b.In t) (n : Nat) : isI64 (b.yd.at n).1 := by
  unfold Yd.at
  rw [List.getD_eq_getElem?_getD]
  cases hx : b.yd.made[n - 1]? with
  | none => exact zero_i64
  | some c => exact h.made c (List.mem_of_getElem? hx)
theorem num_i64 {n : Nat} (h : n ≤ 1000000) : isI64 ((n : Nat) : Int) := by unfold isI64; omega
theorem Br.In.made_set (h : b.In t) (n : Nat) {m : Int × Bool} (hm : isI64 m.1) (k : Int) (hk : -(t : Int) ≤ k ∧ k ≤ t) : ({ b with yd := { b.yd with made := b.yd.made.set n m, live := k } } : Br).In t :=
  ⟨by simpa using h.many, h.trace, hk, h.words, h.nums, h.inp, fun c hc => by
    rcases List.mem_or_eq_of_mem_set hc with hc | rfl
    · exact h.made c hc
    · exact hm⟩
theorem Br.In.free (h : b.In t) {n : Nat} (hn : n ≤ 1000000) : ({ b with yd := b.yd.free n } : Br).In (t + 1) := by
  have h1 := (h.mono (Nat.le_succ t)).made_set (n - 1) (m := ((b.yd.at n).1, false)) (h.at n) (b.yd.live - 1) (by have := h.live; omega)
  have h2 := h1.note 45 (num_i64 hn)
  exact ⟨by have := h.many; show (b.yd.made.set _ _).length ≤ _; simp; omega, by have := h.trace; show (b.yd.trace ++ [_]).length ≤ _; simp; omega, by have := h.live; show -((t + 1 : Nat) : Int) ≤ b.yd.live - 1 ∧ b.yd.live - 1 ≤ _; omega, h2.words, h2.nums, h2.inp, h2.made⟩
theorem Br.In.store (h : b.In t) {n : Nat} (hn : n ≤ 1000000) {v : Int} (hv : isI64 v) : ({ b with yd := b.yd.store n v } : Br).In (t + 1) := by
  have h2 := h.note 62 (num_i64 hn)
  exact ⟨by have := h.many; show (b.yd.made.set _ _).length ≤ _; simp; omega, h2.trace, h2.live, h2.words, h2.nums, h2.inp, fun c hc => by
    rcases List.mem_or_eq_of_mem_set hc with hc | rfl
    · exact h.made c hc
    · exact hv⟩
theorem Br.In.new (h : b.In t) (ht : t ≤ 999999) (q : QP) (p : Nat × Nat) {v : Int} (hv : isI64 v) : (b.new q p v).In (t + 1) := by
  have hm := h.many
  have h1 : ({ b with yd := b.yd.build v } : Br).In (t + 1) := by
    refine ⟨by show (b.yd.made ++ [_]).length ≤ _; simp; omega, by have := h.trace; show (b.yd.trace ++ [_]).length ≤ _; simp; omega, by have := h.live; show -((t + 1 : Nat) : Int) ≤ b.yd.live + 1 ∧ b.yd.live + 1 ≤ _; omega, ?_, h.nums, h.inp, fun c hc => ?_⟩
    · exact note_words (y := { b.yd with made := b.yd.made ++ [(v, true)], live := b.yd.live + 1 }) (num_i64 (by omega)) h.words
    · rcases List.mem_append.1 hc with hc | hc
      · exact h.made c hc
      · rw [List.mem_singleton.1 hc]; exact hv
  exact h1.write q p (num_i64 (by omega))
theorem Br.In.calc (h : b.In t) (q : QP) (l : QLine) : (b.calc q l).In t := h.write q _ (calc_i64 _ _ _)
theorem Br.In.copies (h : b.In t) (q : QP) (ts fs : List (Nat × Nat)) : ∀ k, (Br.copies q ts fs k b).In t
  | 0 => h
  | k + 1 => (Br.In.copies h q ts fs k).write q _ ((Br.In.copies h q ts fs k).val q _)
theorem Br.In.move (h : b.In t) (q : QP) (x y : Nat × Nat) : (b.move q x y).In t := by
  have h1 : (b.moved q x y).In t := Br.In.copies h q _ _ _
  unfold Br.move; split
  · exact h1.write q _ (h1.val q _)
  · exact h1
theorem Br.In.do1 (h : b.In t) (ht : t ≤ 999999) (q : QP) {l : QLine} (hd : DoOk q b l) (hnum : isI64 l.number) : (b.do1 q l).In (t + 1) := by
  have hm := h.many
  have h' := h.mono (Nat.le_succ t)
  have one : isI64 1 := by unfold isI64; omega
  obtain ⟨hop, -, -, h0, h1⟩ := hd
  unfold Br.do1
  rcases hop with e | e | e | e | e | e | e | e | e | e | e | e | e
  · rw [if_pos e]; exact h'.write q _ hnum
  · rw [if_neg (by omega), if_pos (by omega)]; exact h'.calc q l
  · rw [if_neg (by omega), if_pos (by omega)]; exact h'.calc q l
  · rw [if_neg (by omega), if_pos (by omega)]; exact h'.calc q l
  · rw [if_neg (by omega), if_neg (by omega), if_pos (by omega)]
    refine Br.In.write (b := { b with inp := b.inp.tail }) ⟨h'.many, h'.trace, h'.live, h'.words, h'.nums, fun n hn => h.inp n (List.mem_of_mem_tail hn), h'.made⟩ q _ ?_
    cases hi : b.inp with
    | nil => exact zero_i64
    | cons v r => exact h.inp v (by rw [hi]; exact List.mem_cons_self ..)
  · rw [if_neg (by omega), if_neg (by omega), if_neg (by omega), if_pos (by omega)]; exact h.note 111 (h.val q _)
  · rw [if_neg (by omega), if_neg (by omega), if_neg (by omega), if_neg (by omega), if_pos (by omega)]
    have hb := h1 e
    exact Br.In.write (h.note 60 (num_i64 (by omega))) q _ (h.at _)
  · rw [if_neg (by omega), if_neg (by omega), if_neg (by omega), if_neg (by omega), if_neg (by omega), if_pos (by omega)]
    have hb := h0 (.inl e)
    exact h.store (by omega) (h.val q _)
  · rw [if_neg (by omega), if_neg (by omega), if_neg (by omega), if_neg (by omega), if_neg (by omega), if_neg (by omega), if_pos (by omega)]
    have hb := h0 (.inr e)
    exact h.free (by omega)
  · rw [if_neg (by omega), if_neg (by omega), if_neg (by omega), if_neg (by omega), if_neg (by omega), if_neg (by omega), if_neg (by omega), if_pos (by omega)]; exact h'.move q _ _
  · rw [if_neg (by omega), if_neg (by omega), if_neg (by omega), if_neg (by omega), if_neg (by omega), if_neg (by omega), if_neg (by omega), if_neg (by omega), if_pos (by omega)]; exact h'.write q _ zero_i64
  · rw [if_neg (by omega), if_neg (by omega), if_neg (by omega), if_neg (by omega), if_neg (by omega), if_neg (by omega), if_neg (by omega), if_neg (by omega), if_neg (by omega), if_pos (by omega)]; exact (h'.write q _ one).write q _ ((h'.write q _ one).val q _)
  · rw [if_neg (by omega), if_neg (by omega), if_neg (by omega), if_neg (by omega), if_neg (by omega), if_neg (by omega), if_neg (by omega), if_neg (by omega), if_neg (by omega), if_neg (by omega), if_pos (by omega)]; exact ⟨h'.many, h'.trace, h'.live, h'.words, h'.nums, h'.inp, h'.made⟩
theorem Br.In.start {inp : List Int} (h : ∀ n ∈ inp, isI64 n) : (Br.start inp).In 0 :=
  ⟨Nat.le_refl _, Nat.le_refl _, (by show -((0 : Nat) : Int) ≤ 0 ∧ (0 : Int) ≤ ((0 : Nat) : Int); omega), (fun x hx => by cases hx), (fun c hc => by rw [List.eq_of_mem_replicate hc]; exact zero_i64), h, (fun m hm => by cases hm)⟩
theorem start_held (q : QP) (inp : List Int) : Held q (Br.start inp) := by
  have hz : ∀ k, (Br.start inp).cs.getD k (false, 0) = (false, 0) := fun k => by
    show (List.replicate 36 (false, (0 : Int))).getD k (false, 0) = _
    rw [List.getD_eq_getElem?_getD, List.getElem?_replicate]; split <;> rfl
  refine ⟨⟨by simp [Br.start], fun k _ _ hf => ?_, fun i _ _ ht => ?_⟩, [], ⟨fun _ => rfl, fun n hn => ?_, rfl, fun x hx => by cases hx⟩⟩
  · rw [hz] at hf; cases hf
  · rw [hz] at ht; cases ht
  · simp [Bal.liveN, Yd.at, Br.start]
end
end Go.Proofs.YtmlgajhhnojdjaaGreatDoor.Ex
/- The project's machine that owns: a run. -/
namespace Go.Proofs.YtmlgajhhnojdjaaGreatDoor.Own
open Go Go.RowKit Go.Proofs.YtmlgajhhnojdjaaGreatDoor.Spec Go.Proofs.YtmlgajhhnojdjaaGreatDoor.Aux Go.Proofs.YtmlgajhhnojdjaaGreatDoor.PrjJ Go.Proofs.YtmlgajhhnojdjaaGreatDoor.PrjK Go.Proofs.YtmlgajhhnojdjaaGreatDoor.PrjL Go.Proofs.YtmlgajhhnojdjaaGreatDoor.PrjM Go.Proofs.YtmlgajhhnojdjaaGreatDoor.PrjQ Go.Proofs.YtmlgajhhnojdjaaGreatDoor.PrjS Go.Proofs.YtmlgajhhnojdjaaGreatDoor.PrjT Go.Proofs.YtmlgajhhnojdjaaGreatDoor.FlwA Go.Proofs.YtmlgajhhnojdjaaGreatDoor.FlwB Go.Proofs.YtmlgajhhnojdjaaGreatDoor.FlwD Go.Proofs.YtmlgajhhnojdjaaGreatDoor.FlwE Go.Proofs.YtmlgajhhnojdjaaGreatDoor.FlwM
attribute [local go_sem] jumpTo_normal jumpTo_exit jumpTo_ret jumpTo_panic jumpTo_goto

theorem block_of {z a : Nat} {w0 : World} {q : QP} {vl vb : Value} {us : List Value} {vss : List (List (Value × Value))} (h : PAt z a w0 q vl vb us vss) {b : Nat} (hb : b < q.blocks.length) :
    ∃ gb cb adk ck, vb = .slice (some ⟨gb, 0, none⟩) q.blocks.length cb ∧ q.blocks.length ≤ cb ∧ (∀ W, Below w0.heap.size w0 W → W.cell? ⟨gb, b, none⟩ = some (.slice adk (q.blocks.getD b []).length ck)) ∧ BlockAt z w0 (.slice adk (q.blocks.getD b []).length ck) (q.blocks.getD b []) (vss.getD b []) := by
  obtain ⟨gb, cb, adk, ck, e, hcb, hgb, hcell, hus⟩ := blocks_cell2 h b hb
  refine ⟨gb, cb, adk, ck, e, hcb, fun W hW => (hW.cell (p := ⟨gb, b, none⟩) hgb).trans hcell, ?_⟩
  have h1 := h.each b hb
  rw [hus] at h1; exact h1
theorem line_of {z : Nat} {w0 : World} {ad : Option Addr} {n c : Nat} {ls : List QLine} {vs : List (Value × Value)} (h : BlockAt z w0 (.slice ad n c) ls vs) {j : Nat} (hj : j < ls.length) :
    ∃ g ap cp an cn, ad = some ⟨g, 0, none⟩ ∧ n = ls.length ∧ ls.length ≤ c ∧ ∀ W, Below w0.heap.size w0 W → (W.cell? ⟨g, j * 6, none⟩ = some (.int .i64 ((ls.getD j QLine.nil).num : Nat)) ∧ W.cell? ⟨g, j * 6 + 1, none⟩ = some (.int .i64 ((ls.getD j QLine.nil).op : Nat)) ∧ W.cell? ⟨g, j * 6 + 2, none⟩ = some (.slice ap (ls.getD j QLine.nil).places.length cp) ∧
      W.cell? ⟨g, j * 6 + 3, none⟩ = some (.int .i64 (ls.getD j QLine.nil).number) ∧ W.cell? ⟨g, j * 6 + 4, none⟩ = some (.int .i64 (ls.getD j QLine.nil).flag) ∧ W.cell? ⟨g, j * 6 + 5, none⟩ = some (.slice an (ls.getD j QLine.nil).next.length cn)) ∧
      LineAt z W (ls.getD j QLine.nil) (.slice ap (ls.getD j QLine.nil).places.length cp) (.slice an (ls.getD j QLine.nil).next.length cn) := by
  obtain ⟨g, ap, cp, an, cn, e, hn, hc, hg, k0, k1, k2, k3, k4, k5, hvs⟩ := block_cells2 h j hj
  refine ⟨g, ap, cp, an, cn, e, hn, hc, fun W hW => ⟨⟨(hW.cell (p := ⟨g, j * 6, none⟩) hg).trans k0, (hW.cell (p := ⟨g, j * 6 + 1, none⟩) hg).trans k1, (hW.cell (p := ⟨g, j * 6 + 2, none⟩) hg).trans k2, (hW.cell (p := ⟨g, j * 6 + 3, none⟩) hg).trans k3, (hW.cell (p := ⟨g, j * 6 + 4, none⟩) hg).trans k4, (hW.cell (p := ⟨g, j * 6 + 5, none⟩) hg).trans k5⟩, ?_⟩⟩
  have h1 := h.each j hj
  rw [hvs] at h1
  exact LineAt.below h1 hW
theorem res_put {w1 : World} {R : Nat} {u0 u1 u2 u3 : Value} (hR : w1.heap[R]? = some (.cells #[u0, u1, u2, u3] 47 (0, 0))) (v0 v1 v2 v3 : Value) :
    ((((w1.setCell ⟨R, 0, none⟩ v0).setCell ⟨R, 1, none⟩ v1).setCell ⟨R, 2, none⟩ v2).setCell ⟨R, 3, none⟩ v3).heap[R]? = some (.cells #[v0, v1, v2, v3] 47 (0, 0)) ∧ Below R w1 ((((w1.setCell ⟨R, 0, none⟩ v0).setCell ⟨R, 1, none⟩ v1).setCell ⟨R, 2, none⟩ v2).setCell ⟨R, 3, none⟩ v3) := by
  have e1 := Aux.heap_setCell_same hR 0 v0
  have e2 := Aux.heap_setCell_same e1 1 v1
  have e3 := Aux.heap_setCell_same e2 2 v2
  have e4 := Aux.heap_setCell_same e3 3 v3
  have hT := ((((Turn.refl R w1).setCell 0 v0).setCell 1 v1).setCell 2 v2).setCell 3 v3
  exact ⟨e4, hT.below (Nat.le_refl _) (Nat.le_of_lt (lt_of_heap hR))⟩
section
variable {a : Nat} {w : World} {q : QP}
end
end Go.Proofs.YtmlgajhhnojdjaaGreatDoor.Own
/- Plain facts: of one text there is one answer of Check; a run with more fuel goes on where less stopped. -/
namespace Go.Proofs.YtmlgajhhnojdjaaGreatDoor.RunB
open Go Go.Proofs.YtmlgajhhnojdjaaGreatDoor.Spec Go.Proofs.YtmlgajhhnojdjaaGreatDoor.Aux Go.Proofs.YtmlgajhhnojdjaaGreatDoor.Own Go.Proofs.YtmlgajhhnojdjaaGreatDoor.RunA Go.Proofs.YtmlgajhhnojdjaaGreatDoor.RefM Go.Proofs.YtmlgajhhnojdjaaGreatDoor.PrjS Go.Proofs.YtmlgajhhnojdjaaGreatDoor.FlwA Go.Proofs.YtmlgajhhnojdjaaGreatDoor.FlwI Go.Proofs.YtmlgajhhnojdjaaGreatDoor.FlwJ Go.Proofs.YtmlgajhhnojdjaaGreatDoor.FlwK Go.Proofs.YtmlgajhhnojdjaaGreatDoor.FlwM Go.Proofs.YtmlgajhhnojdjaaGreatDoor.FlwO Go.Proofs.YtmlgajhhnojdjaaGreatDoor.FlwP Go.Proofs.YtmlgajhhnojdjaaGreatDoor.FlwQ Go.Proofs.YtmlgajhhnojdjaaGreatDoor.FlwS Go.Proofs.YtmlgajhhnojdjaaGreatDoor.FlwV Go.Proofs.YtmlgajhhnojdjaaGreatDoor.FlwY Go.Proofs.YtmlgajhhnojdjaaGreatDoor.FlwZ

/-! words are only added -/
/-! what Run answers -/
def zeroRes : Value := .agg #[.int .i64 0, .int .i64 0, .string ⟨#[]⟩, .int .i64 0]
end Go.Proofs.YtmlgajhhnojdjaaGreatDoor.RunB
/- The project's Run, walked: for texts of at most 2^20 letters, in every world that holds the tables. -/
namespace Go.Proofs.YtmlgajhhnojdjaaGreatDoor.RunB
open Go Go.RowKit Go.Proofs.YtmlgajhhnojdjaaGreatDoor.Spec Go.Proofs.YtmlgajhhnojdjaaGreatDoor.Aux Go.Proofs.YtmlgajhhnojdjaaGreatDoor.Own Go.Proofs.YtmlgajhhnojdjaaGreatDoor.RunA Go.Proofs.YtmlgajhhnojdjaaGreatDoor.RefM Go.Proofs.YtmlgajhhnojdjaaGreatDoor.PrjG Go.Proofs.YtmlgajhhnojdjaaGreatDoor.PrjJ Go.Proofs.YtmlgajhhnojdjaaGreatDoor.PrjK Go.Proofs.YtmlgajhhnojdjaaGreatDoor.PrjM Go.Proofs.YtmlgajhhnojdjaaGreatDoor.PrjS Go.Proofs.YtmlgajhhnojdjaaGreatDoor.PrjW Go.Proofs.YtmlgajhhnojdjaaGreatDoor.FlwA Go.Proofs.YtmlgajhhnojdjaaGreatDoor.FlwP Go.Proofs.YtmlgajhhnojdjaaGreatDoor.FlwQ Go.Proofs.YtmlgajhhnojdjaaGreatDoor.FlwV Go.Proofs.YtmlgajhhnojdjaaGreatDoor.FlwY Go.Proofs.YtmlgajhhnojdjaaGreatDoor.FlwZ Go.Proofs.YtmlgajhhnojdjaaGreatDoor.FlwZa

set_option maxRecDepth 20000 in
theorem mayRun_any (ad : Option Addr) (n c : Nat) (f m r : Int) (w : World) : Calls Tryz.prog 43 #[.slice ad n c, .int .i64 f, .int .i64 m, .int .i64 r] w fun e w' => e = .returned (.bool (decide (n ≤ 100 ∧ 0 ≤ f ∧ f ≤ m ∧ 0 ≤ r ∧ r ≤ 50))) ∧ w' = w := by
  go_enter Tryz.func43, Tryz.ntmps43
  by_cases h1 : n ≤ 100 <;> by_cases h2 : 0 ≤ f <;> by_cases h3 : f ≤ m <;> by_cases h4 : 0 ≤ r <;> by_cases h5 : r ≤ 50
  all_goals
    go_wp2 <;> (go_ret; simp [h1, h2, h3, h4, h5])
theorem res_facts {w1 : World} {R : Nat} {u0 u1 u2 u3 : Value} (hR : w1.heap[R]? = some (.cells #[u0, u1, u2, u3] 47 (0, 0))) : w1.cell? ⟨R, 0, none⟩ = some u0 ∧ w1.cell? ⟨R, 1, none⟩ = some u1 ∧ w1.cell? ⟨R, 2, none⟩ = some u2 ∧ w1.cell? ⟨R, 3, none⟩ = some u3 ∧
    w1.frozen? ⟨R, 0, none⟩ = false ∧ w1.frozen? ⟨R, 1, none⟩ = false ∧ w1.frozen? ⟨R, 2, none⟩ = false ∧ w1.frozen? ⟨R, 3, none⟩ = false :=
  ⟨by rw [cell_of_heap hR]; rfl, by rw [cell_of_heap hR]; rfl, by rw [cell_of_heap hR]; rfl, by rw [cell_of_heap hR]; rfl, frozen_of_heap hR 0, frozen_of_heap hR 1, frozen_of_heap hR 2, frozen_of_heap hR 3⟩
theorem feed_below {w w1 : World} {v : Value} {l : List Int} (h : FeedAt w v l) {b : Nat} (hb : Below b w w1) (hs : w.heap.size ≤ b) : FeedAt w1 v l := by
  obtain ⟨ad, c, rfl, h1, h2, h3⟩ := h
  refine ⟨ad, c, rfl, h1, h2, fun j hj => ?_⟩
  obtain ⟨g, f, e, hg, hc⟩ := h3 j hj
  exact ⟨g, f, e, by have := hb.size; omega, (hb.cell (p := ⟨g, f + j, none⟩) (Nat.lt_of_lt_of_le hg hs)).trans hc⟩
theorem results_cell_two {fn : Func} {p u v : Tmp} {ty : TypeId} (h : fn.results = #[.cell p ty, .tmp u, .tmp v]) (tmps : Array Value) (P : Program) (w : World) (b : Nat) (cs : List Value) (d : TypeDesc) (hp : tmps.getD p undef = .pointer (some ⟨b, 0, none⟩))
    (hc : w.rangeAt b 0 cs) (hu : P.underlying ty = some d) (hd : d.isRow = true) (hi : (P.info? ty).map (·.size) = some cs.length) : (results fn tmps).run P w = .ok (.tuple #[.agg cs.toArray, tmps.getD u undef, tmps.getD v undef]) w := by
  have := run_loadVar_mid (P := P) w b 0 ty cs d hc hu hd hi
  rw [Array.getD_eq_getD_getElem?] at hp
  unfold results
  simp [h, hp, asAddr, this]
end Go.Proofs.YtmlgajhhnojdjaaGreatDoor.RunB
