/- Plain facts: a run of the machine that owns keeps its boxes: each is held in just one place while it lives; at an end none is left. -/
import Derived.Test.YtmlgajhhnojdjaaGreatDoorAAL
import Derived.Test.YtmlgajhhnojdjaaGreatDoorABI
import Derived.Test.YtmlgajhhnojdjaaGreatDoorAAM
namespace Go.Proofs.YtmlgajhhnojdjaaGreatDoor.Bal
open Go Go.Proofs.YtmlgajhhnojdjaaGreatDoor.Spec Go.Proofs.YtmlgajhhnojdjaaGreatDoor.Aux Go.Proofs.YtmlgajhhnojdjaaGreatDoor.Own Go.Proofs.YtmlgajhhnojdjaaGreatDoor.RunA Go.Proofs.YtmlgajhhnojdjaaGreatDoor.RunB Go.Proofs.YtmlgajhhnojdjaaGreatDoor.PrjS Go.Proofs.YtmlgajhhnojdjaaGreatDoor.FlwA Go.Proofs.YtmlgajhhnojdjaaGreatDoor.FlwB Go.Proofs.YtmlgajhhnojdjaaGreatDoor.FlwC Go.Proofs.YtmlgajhhnojdjaaGreatDoor.FlwD Go.Proofs.YtmlgajhhnojdjaaGreatDoor.FlwE Go.Proofs.YtmlgajhhnojdjaaGreatDoor.FlwF Go.Proofs.YtmlgajhhnojdjaaGreatDoor.FlwG Go.Proofs.YtmlgajhhnojdjaaGreatDoor.FlwH Go.Proofs.YtmlgajhhnojdjaaGreatDoor.FlwS Go.Proofs.YtmlgajhhnojdjaaGreatDoor.FlwY

/-- a cell that a local has -/
def Real (q : QP) (k : Nat) : Prop := ∃ i, i < q.locals.length ∧ k ∈ (QP.halvesQ q (i, 0)).map slotQ
structure BalH (q : QP) (hs : List Nat) (o : Own.Own) : Prop where
  len : o.boxes.length = 24
  y : BalY (hs ++ o.boxes) o.yd
  real : ∀ k, ¬ o.boxes.getD k 0 = 0 → Real q k
section
variable {q : QP} {hs : List Nat} {o : Own.Own}
theorem count_put {l : List Nat} {k v n : Nat} (hk : k < l.length) (_hn : 1 ≤ n) : (l.set k v).count n + (if l.getD k 0 = n then 1 else 0) = l.count n + (if v = n then 1 else 0) := by
  rw [List.count_set hk]
  have e : l.getD k 0 = l[k] := by rw [List.getD_eq_getElem?_getD, List.getElem?_eq_getElem hk]; rfl
  rw [e]
  simp only [beq_iff_eq]
  split
  · rename_i h
    have : 1 ≤ l.count n := List.count_pos_iff.2 (h ▸ List.getElem_mem _)
    omega
  · omega
theorem clear_bal (h : BalH q hs o) {p : Nat × Nat} (hp : slotQ p < 24) : BalH q (o.box p :: hs) (o.clear p) := by
  refine ⟨by simpa [Own.clear] using h.len, h.y.congr fun n hn => ?_, fun k hk => h.real k fun e => hk ?_⟩
  · show (o.box p :: (hs ++ o.boxes.set (slotQ p) 0)).count n = _
    have := count_put (l := o.boxes) (k := slotQ p) (v := 0) (by rw [h.len]; exact hp) hn
    rw [if_neg (show ¬ 0 = n by omega)] at this
    rw [List.count_cons, List.count_append, List.count_append]
    simp only [Own.box, beq_iff_eq]
    omega
  · show (o.boxes.set (slotQ p) 0).getD k 0 = 0
    rw [getD_set1]; split
    · rfl
    · exact e
theorem take_bal : ∀ (ps : List (Nat × Nat)) {hs : List Nat} {o : Own.Own}, BalH q hs o → (∀ p ∈ ps, slotQ p < 24) → BalH q ((Own.take ps o).1 ++ hs) (Own.take ps o).2
  | [], _, _, h, _ => h
  | p :: ps, hs, o, h, hp => by
    rw [Own.take]
    have := take_bal ps (clear_bal h (hp p (List.mem_cons_self ..))) (fun x hx => hp x (List.mem_cons_of_mem _ hx))
    refine ⟨this.len, this.y.congr fun n hn => ?_, this.real⟩
    simp only [List.count_append, List.count_cons, List.cons_append]
    omega
theorem free1_bal {n : Nat} (h : BalH q (n :: hs) o) : BalH q hs (o.free1 n) := by
  unfold Own.free1
  split
  · rename_i e
    subst e
    exact ⟨h.len, h.y.congr fun n hn => by rw [List.cons_append, List.count_cons, if_neg (by simp; omega)]; rfl, h.real⟩
  · rename_i e
    exact ⟨h.len, BalY.free h.y (by omega), h.real⟩
theorem frees_bal : ∀ (ns : List Nat) {o : Own.Own}, BalH q (ns ++ hs) o → BalH q hs (Own.frees ns o)
  | [], _, h => h
  | n :: ns, o, h => by rw [Own.frees]; exact frees_bal ns (free1_bal h)
theorem drop_bal (ps : List (Nat × Nat)) (h : BalH q hs o) (hp : ∀ p ∈ ps, slotQ p < 24) : BalH q hs (o.drop ps) := frees_bal _ (take_bal ps h hp)
theorem take_zero : ∀ (ps : List (Nat × Nat)) (o : Own.Own) (k : Nat), k ∈ ps.map slotQ ∨ o.boxes.getD k 0 = 0 → (Own.take ps o).2.boxes.getD k 0 = 0
  | [], _, _, h => h.resolve_left (by simp)
  | p :: ps, o, k, h => by
    rw [Own.take]
    refine take_zero ps (o.clear p) k ?_
    by_cases hm : k ∈ ps.map slotQ
    · exact .inl hm
    · refine .inr ?_
      show (o.boxes.set (slotQ p) 0).getD k 0 = 0
      rw [getD_set1]
      split
      · rfl
      · rename_i hne
        rcases h with h | h
        · rw [List.map_cons, List.mem_cons] at h
          rcases h with h | h
          · have : ¬ k < o.boxes.length := fun hk => hne ⟨h.symm, hk⟩
            rw [List.getD_eq_getElem?_getD, List.getElem?_eq_none (by omega)]; rfl
          · exact absurd h hm
        · exact h
theorem drop_zero (ps : List (Nat × Nat)) (o : Own.Own) {k : Nat} (h : k ∈ ps.map slotQ ∨ o.boxes.getD k 0 = 0) : (o.drop ps).boxes.getD k 0 = 0 := by
  rw [(drop_parts ps o).2.2.2]; exact take_zero ps o k h
theorem put1_bal {p : Nat × Nat} {n : Nat} (h : BalH q (n :: hs) o) (hp : slotQ p < 24) (hz : o.boxes.getD (slotQ p) 0 = 0) (hr : Real q (slotQ p)) : BalH q hs (o.put1 p n) := by
  refine ⟨by simpa [Own.put1] using h.len, h.y.congr fun m hm => ?_, fun k hk => ?_⟩
  · show (hs ++ o.boxes.set (slotQ p) n).count m = (n :: hs ++ o.boxes).count m
    have := count_put (l := o.boxes) (k := slotQ p) (v := n) (by rw [h.len]; exact hp) hm
    rw [hz, if_neg (show ¬ 0 = m by omega)] at this
    rw [List.cons_append, List.count_cons, List.count_append, List.count_append]
    simp only [beq_iff_eq]
    omega
  · by_cases e : slotQ p = k
    · exact e ▸ hr
    · refine h.real k fun e2 => hk ?_
      show (o.boxes.set (slotQ p) n).getD k 0 = 0
      rw [getD_set1, if_neg (fun x => e x.1)]; exact e2
theorem puts_bal : ∀ (ps : List (Nat × Nat)) (ns : List Nat) {o : Own.Own}, ps.length = ns.length → (ps.map slotQ).Nodup → (∀ p ∈ ps, slotQ p < 24 ∧ o.boxes.getD (slotQ p) 0 = 0 ∧ Real q (slotQ p)) → BalH q (ns ++ hs) o → BalH q hs (Own.puts ps ns o)
  | [], [], _, _, _, _, h => h
  | [], _ :: _, _, hl, _, _, _ => by cases hl
  | _ :: _, [], _, hl, _, _, _ => by cases hl
  | p :: ps, n :: ns, o, hl, hd, hp, h => by
    rw [Own.puts]
    obtain ⟨h1, h2, h3⟩ := hp p (List.mem_cons_self ..)
    rw [List.map_cons, List.nodup_cons] at hd
    refine puts_bal ps ns (o := o.put1 p n) (by simpa using hl) hd.2 (fun x hx => ?_) (put1_bal h h1 h2 h3)
    obtain ⟨g1, g2, g3⟩ := hp x (List.mem_cons_of_mem _ hx)
    refine ⟨g1, ?_, g3⟩
    show (o.boxes.set (slotQ p) n).getD (slotQ x) 0 = 0
    rw [getD_set1, if_neg (fun e => hd.1 (List.mem_map.2 ⟨x, hx, e.1.symm⟩))]
    exact g2
theorem move_bal (ts frm : List (Nat × Nat)) (h : BalH q [] o) (hl : ts.length = frm.length) (hd : (ts.map slotQ).Nodup) (hf : ∀ p ∈ frm, slotQ p < 24) (ht : ∀ p ∈ ts, slotQ p < 24 ∧ Real q (slotQ p)) : BalH q [] (o.move ts frm) := by
  unfold Own.move
  refine puts_bal ts _ (by rw [Go.Proofs.YtmlgajhhnojdjaaGreatDoor.Own.take_len]; exact hl) hd (fun p hp => ⟨(ht p hp).1, drop_zero ts _ (.inl (List.mem_map.2 ⟨p, hp, rfl⟩)), (ht p hp).2⟩) ?_
  exact drop_bal ts (take_bal frm h hf) (fun p hp => (ht p hp).1)
theorem new_bal {p : Nat × Nat} (h : BalH q [] o) (hp : slotQ p < 24) (hr : Real q (slotQ p)) (v : Int) : BalH q [] ((o.drop [p]).new p v) := by
  have h1 := drop_bal [p] h (fun x hx => by rw [List.mem_singleton.1 hx]; exact hp)
  have hz := drop_zero [p] o (k := slotQ p) (.inl (by simp))
  have h2 : BalH q [(o.drop [p]).yd.made.length + 1] { o.drop [p] with yd := (o.drop [p]).yd.build v } := ⟨h1.len, BalY.build h1.y v, h1.real⟩
  exact put1_bal h2 hp hz hr
theorem dropAll_bal (h12 : q.locals.length ≤ 12) : ∀ (i : Nat) {o : Own.Own}, i ≤ 12 → BalH q [] o → BalH q [] (Own.dropAll q i o) ∧ ∀ k, (o.boxes.getD k 0 = 0 ∨ ∃ j, j < i ∧ k ∈ (QP.halvesQ q (j, 0)).map slotQ) → (Own.dropAll q i o).boxes.getD k 0 = 0
  | 0, o, _, h => ⟨h, fun k hk => hk.resolve_right (by rintro ⟨j, hj, -⟩; omega)⟩
  | i + 1, o, hi, h => by
    have hs : ∀ p ∈ QP.halvesQ q (i, 0), slotQ p < 24 := fun p hp => by
      rcases halves_cases q (i, 0) with ⟨e, -⟩ | ⟨e, -⟩ <;> rw [e] at hp <;> simp at hp
      · rw [hp]; unfold slotQ; simp; omega
      · rcases hp with rfl | rfl <;> unfold slotQ <;> simp <;> omega
    have h1 := drop_bal (QP.halvesQ q (i, 0)) h hs
    obtain ⟨h2, h3⟩ := dropAll_bal h12 i (by omega) h1
    refine ⟨h2, fun k hk => h3 k ?_⟩
    rcases hk with hk | ⟨j, hj, hk⟩
    · exact .inl (drop_zero _ _ (.inr hk))
    · by_cases e : j = i
      · subst e; exact .inl (drop_zero _ _ (.inl hk))
      · exact .inr ⟨j, by omega, hk⟩
/-- at an end none is left -/
theorem end_bal (h12 : q.locals.length ≤ 12) (h : BalH q [] o) : BalH q [] (Own.dropAll q q.locals.length o) ∧ (Own.dropAll q q.locals.length o).yd.live = 0 := by
  obtain ⟨h1, h2⟩ := dropAll_bal h12 q.locals.length h12 h
  refine ⟨h1, h1.y.none_left fun n hn => ?_⟩
  obtain ⟨k, hk, e⟩ := List.mem_iff_getElem.1 hn
  have hk' : k < (Own.dropAll q q.locals.length o).boxes.length := by simpa using hk
  have e' : (Own.dropAll q q.locals.length o).boxes.getD k 0 = n := by
    rw [List.getD_eq_getElem?_getD, List.getElem?_eq_getElem hk']; simpa using e
  by_cases hz : n = 0
  · exact hz
  · rw [← e']
    exact h2 k (.inr (h1.real k (by omega)))
theorem start_bal (q : QP) (inp : List Int) : BalH q [] (Own.start inp) := by
  have hz : ∀ k, (Own.start inp).boxes.getD k 0 = 0 := fun k => by
    show (List.replicate 24 0).getD k 0 = 0
    rw [List.getD_eq_getElem?_getD, List.getElem?_replicate]; split <;> rfl
  refine ⟨by simp [Own.start], ⟨fun _ => rfl, fun n hn => ?_, rfl, fun b hb => by cases hb⟩, fun k hk => absurd (hz k) hk⟩
  show (List.replicate 24 0).count n = 0
  rw [List.count_eq_zero]
  intro hm
  have := List.eq_of_mem_replicate hm
  omega
/-! the lines -/
theorem slot_in {x : Nat × Nat} (hx : x.1 < 12) : slotQ x < 24 := by unfold slotQ; split <;> omega
theorem real_of {x : Nat × Nat} {c : UInt8} (hx : x.1 < q.locals.length) (h3 : x.2 ≤ 3) (hk : q.okPlace x c = true) : ∀ p ∈ QP.halvesQ q x, Real q (slotQ p) := fun p hp => by
  refine ⟨x.1, hx, ?_⟩
  obtain ⟨i, t⟩ := x
  unfold QP.okPlace QP.kind at hk
  simp only at hx h3 hk ⊢
  have ht : t = 0 ∨ t = 1 ∨ t = 2 ∨ t = 3 := by omega
  rcases ht with rfl | rfl | rfl | rfl
  · exact List.mem_map.2 ⟨p, hp, rfl⟩
  · have h2 : q.tyOf i = 2 := by
      by_cases e : q.tyOf i = 2
      · exact e
      · simp [e] at hk
    rcases halves_cases q (i, 1) with ⟨e, -⟩ | ⟨-, e, -⟩
    · rw [e, List.mem_singleton] at hp
      subst hp
      unfold QP.halvesQ; rw [if_pos ⟨rfl, h2⟩]; simp
    · cases e
  · have h2 : q.tyOf i = 2 := by
      by_cases e : q.tyOf i = 2
      · exact e
      · simp [e] at hk
    rcases halves_cases q (i, 2) with ⟨e, -⟩ | ⟨-, e, -⟩
    · rw [e, List.mem_singleton] at hp
      subst hp
      unfold QP.halvesQ; rw [if_pos ⟨rfl, h2⟩]; simp
    · cases e
  · have h2 : q.tyOf i = 3 := by
      by_cases e : q.tyOf i = 3
      · exact e
      · simp [e] at hk
    rcases halves_cases q (i, 3) with ⟨e, -⟩ | ⟨-, e, -⟩
    · rw [e, List.mem_singleton] at hp
      subst hp
      unfold QP.halvesQ; rw [if_neg (by simp; omega)]; simp [slotQ]
    · cases e
variable {l : QLine}
theorem halves_in (h12 : q.locals.length ≤ 12) {x : Nat × Nat} (hx : x.1 < q.locals.length) : ∀ p ∈ QP.halvesQ q x, slotQ p < 24 := fun p hp => by
  rcases halves_cases q x with ⟨e, -⟩ | ⟨e, -⟩ <;> rw [e] at hp <;> simp at hp
  · rw [hp]; exact slot_in (by omega)
  · rcases hp with rfl | rfl <;> exact slot_in (by simp; omega)
theorem halves_nodup (q : QP) (x : Nat × Nat) : ((QP.halvesQ q x).map slotQ).Nodup := by
  rcases halves_cases q x with ⟨e, -⟩ | ⟨e, -⟩ <;> rw [e]
  · simp
  · simp [slotQ]
theorem box_mem {p : Nat × Nat} (h : 1 ≤ o.box p) : o.box p ∈ [] ++ o.boxes := by
  unfold Own.box at *
  rw [List.nil_append]
  rcases Nat.lt_or_ge (slotQ p) o.boxes.length with h1 | h1
  · rw [List.getD_eq_getElem?_getD, List.getElem?_eq_getElem h1]; exact List.getElem_mem _
  · rw [List.getD_eq_getElem?_getD, List.getElem?_eq_none h1] at h; exact absurd h (by decide)
theorem line_bal (h12 : q.locals.length ≤ 12) (hl : LnOk q l) (hgo : goesOn l.op) (hn : o.need l = true) (h : BalH q [] o) : BalH q [] (o.do1 q l) := by
  have hints : ∀ v, BalH q [] { o with ints := v } := fun v => ⟨h.len, h.y, h.real⟩
  rcases hgo with e | e | e | e | e | e | e | e | e | e | e | e
  · rw [Own.do1, if_pos e]; exact ⟨h.len, h.y, h.real⟩
  · rw [Own.do1, if_neg (by omega), if_pos (by omega)]; exact ⟨h.len, h.y, h.real⟩
  · rw [Own.do1, if_neg (by omega), if_pos (by omega)]; exact ⟨h.len, h.y, h.real⟩
  · rw [Own.do1, if_neg (by omega), if_pos (by omega)]; exact ⟨h.len, h.y, h.real⟩
  · rw [Own.do1, if_neg (by omega), if_neg (by omega), if_pos (by omega)]; exact ⟨h.len, h.y, h.real⟩
  · rw [Own.do1, if_neg (by omega), if_neg (by omega), if_neg (by omega), if_pos (by omega)]; exact ⟨h.len, h.y.out _, h.real⟩
  · rw [Own.need, if_pos e] at hn
    rw [Own.do1, if_neg (by omega), if_neg (by omega), if_neg (by omega), if_neg (by omega), if_pos (by omega)]
    exact ⟨h.len, h.y.load (of_decide_eq_true hn) (box_mem (of_decide_eq_true hn)), h.real⟩
  · rw [Own.need, if_neg (by omega), if_pos e] at hn
    rw [Own.do1, if_neg (by omega), if_neg (by omega), if_neg (by omega), if_neg (by omega), if_neg (by omega), if_pos (by omega)]
    exact ⟨h.len, h.y.store (of_decide_eq_true hn) (box_mem (of_decide_eq_true hn)) _, h.real⟩
  · have hlen : l.places.length = 2 := by rw [hl.ok.plen, e]; rfl
    have p0 := place_in hl (j := 0) (by omega)
    have p1 := place_in hl (j := 1) (by omega)
    rw [Own.do1, if_neg (by omega), if_neg (by omega), if_neg (by omega), if_neg (by omega), if_neg (by omega), if_neg (by omega), if_pos (by omega)]
    exact move_bal _ _ h (same_halves hl e) (halves_nodup q _) (halves_in h12 p1.1) (fun p hp => ⟨halves_in h12 p0.1 p hp, real_of p0.1 p0.2 (fits_at hl.fits (j := 0) (by omega)) p hp⟩)
  · have hlen : l.places.length = 1 := by rw [hl.ok.plen, e]; rfl
    rw [Own.do1, if_neg (by omega), if_neg (by omega), if_neg (by omega), if_neg (by omega), if_neg (by omega), if_neg (by omega), if_neg (by omega), if_pos (by omega)]
    exact drop_bal _ h (halves_in h12 (place_in hl (j := 0) (by omega)).1)
  · have hlen : l.places.length = 2 := by rw [hl.ok.plen, e]; rfl
    have p0 := place_in hl (j := 0) (by omega)
    have p1 := place_in hl (j := 1) (by omega)
    obtain ⟨e0, e1, -⟩ := some_halves hl e
    rw [Own.do1, if_neg (by omega), if_neg (by omega), if_neg (by omega), if_neg (by omega), if_neg (by omega), if_neg (by omega), if_pos (by omega)]
    exact move_bal _ _ h (by rw [e0, e1]; rfl) (halves_nodup q _) (halves_in h12 p1.1) (fun p hp => ⟨halves_in h12 p0.1 p hp, real_of p0.1 p0.2 (fits_at hl.fits (j := 0) (by omega)) p hp⟩)
  · have hlen : l.places.length = 1 := by rw [hl.ok.plen, e]; rfl
    rw [Own.do1, if_neg (by omega), if_neg (by omega), if_neg (by omega), if_neg (by omega), if_neg (by omega), if_neg (by omega), if_neg (by omega), if_pos (by omega)]
    exact drop_bal _ h (halves_in h12 (place_in hl (j := 0) (by omega)).1)
theorem first_in (hl : LnOk q l) (hop : l.op = 9) : (plOf l 0).1 < q.locals.length ∧ ∃ c, (plOf l 0).2 ≤ 3 ∧ q.okPlace (plOf l 0) c = true ∧ QP.halvesQ q (plOf l 0) = [plOf l 0] := by
  have hlen : l.places.length = 2 := by rw [hl.ok.plen, hop]; rfl
  have p0 := place_in hl (j := 0) (by omega)
  have k0 := fits_at hl.fits (j := 0) (by omega)
  refine ⟨p0.1, _, p0.2, k0, ?_⟩
  rw [hop] at k0
  have o0 := kind_box (x := plOf l 0) k0
  rcases halves_cases q (plOf l 0) with ⟨e, -⟩ | ⟨-, e1, e2⟩
  · exact e
  · exact absurd ⟨e1, e2⟩ o0.2.1
/-- what is held from line to line -/
theorem bal_steps (h12 : q.locals.length ≤ 12) : RunB.Steps q (fun s o => FitL q s o ∧ BalH q [] o) where
  do1 := fun l s o hl hgo hs hf h => by
    obtain ⟨h1, h2⟩ := (fit_steps h12).do1 l s o hl hgo hs hf h.1
    exact ⟨h1, h2, line_bal h12 hl hgo h1 h.2⟩
  clc := fun l s o hl hop hs hf h => ⟨(fit_steps h12).clc l s o hl hop hs hf h.1, h.2.len, h.2.y, h.2.real⟩
  new := fun l s o hl hop hs hf h => by
    obtain ⟨h1, c, h2, h3, h4⟩ := first_in hl hop
    refine ⟨(fit_steps h12).new l s o hl hop hs hf h.1, new_bal h.2 (slot_in (by omega)) ?_ _⟩
    exact real_of h1 h2 h3 _ (by rw [h4]; simp)
  term := fun l s o hl hop hs hf h => ⟨(fit_steps h12).term l s o hl hop hs hf h.1, h.2⟩
  mono := fun s t o hs ht hle h => ⟨(fit_steps h12).mono s t o hs ht hle h.1, h.2⟩
/-- how a run ends, whatever program was checked -/
theorem run_bal (h12 : q.locals.length ≤ 12) {room : Int} {ans : Nat × Int × Own.Own} (h : Fin' q (fun s o => FitL q s o ∧ BalH q [] o) room ans) : BalH q [] ans.2.2 ∧ ((ans.1 = 1 ∧ ans.2.2.yd.live = 0) ∨ ((ans.1 = 2 ∨ ans.1 = 3 ∨ ans.1 = 4) ∧ ans.2.1 = 0)) := by
  obtain ⟨s, o, ⟨-, hb⟩, rfl | rfl | ⟨l, hl, hop, -, rfl⟩ | ⟨l, -, -, rfl⟩⟩ := h
  · exact ⟨hb, .inr ⟨.inl rfl, rfl⟩⟩
  · exact ⟨hb, .inr ⟨.inr (.inr rfl), rfl⟩⟩
  · have h1 := (first_in hl hop).1
    exact ⟨drop_bal _ hb (fun p hp => by rw [List.mem_singleton.1 hp]; exact slot_in (by omega)), .inr ⟨.inr (.inl rfl), rfl⟩⟩
  · obtain ⟨h1, h2⟩ := end_bal h12 hb
    exact ⟨h1, .inl ⟨rfl, h2⟩⟩
/-! how many are made -/
theorem move_made (a b : List (Nat × Nat)) (o : Own.Own) : (Own.move a b o).yd.made.length = o.yd.made.length := by
  unfold Own.move
  rw [puts_y, (drop_parts _ _).1, take_y]
theorem dropAll_made (q : QP) : ∀ (i : Nat) (o : Own.Own), (Own.dropAll q i o).yd.made.length = o.yd.made.length
  | 0, _ => rfl
  | i + 1, o => by rw [Own.dropAll, dropAll_made q i, (drop_parts _ _).1]
theorem do1_made (q : QP) (o : Own.Own) (l : QLine) : (o.do1 q l).yd.made.length = o.yd.made.length := by
  unfold Own.do1
  repeat' split
  all_goals first
    | rfl
    | exact move_made _ _ _
    | exact (drop_parts _ _).1
    | simp [Yd.store, Yd.note]
theorem run_made (q : QP) (room : Int) : ∀ (f : Nat) (ls : List QLine) (o : Own.Own) (ans : Nat × Int × Own.Own), runO q room f ls o = some ans → ans.2.2.yd.made.length ≤ o.yd.made.length + f
  | f, [], o, ans, h => by cases f <;> simp [runO] at h
  | 0, l :: ls, o, ans, h => by
    rw [runO] at h; cases h; exact Nat.le_refl _
  | f + 1, l :: ls, o, ans, h => by
    rw [runO] at h
    split at h
    · split at h
      · cases h; show o.yd.made.length ≤ _; omega
      · have := run_made q room f ls (o.calc l) ans h
        have e : (o.calc l).yd.made.length = o.yd.made.length := rfl
        omega
    · split at h
      · split at h
        · cases h; show (o.drop _).yd.made.length ≤ _; rw [(drop_parts _ _).1]; omega
        · have := run_made q room f ls _ ans h
          have e : ((o.drop [plOf l 0]).new (plOf l 0) (o.num (plOf l 1))).yd.made.length = (o.drop [plOf l 0]).yd.made.length + 1 := by simp [Own.new, Yd.build, Yd.note]
          rw [(drop_parts _ _).1] at e
          omega
      · split at h
        · split at h
          · have := run_made q room f _ o ans h; omega
          · cases h
        · split at h
          · cases h; show (Own.dropAll q _ o).yd.made.length ≤ _; rw [dropAll_made]; omega
          · split at h
            · have := run_made q room f ls _ ans h
              rw [do1_made] at this; omega
            · cases h
end
end Go.Proofs.YtmlgajhhnojdjaaGreatDoor.Bal
/- Plain facts: a trace as one text, told word by word. -/
namespace Go.Proofs.YtmlgajhhnojdjaaGreatDoor.Bal
open Go Go.Proofs.YtmlgajhhnojdjaaGreatDoor.Spec Go.Proofs.YtmlgajhhnojdjaaGreatDoor.Own

/-- a text, cut at its blanks -/
def splitW : B → List B
  | [] => [[]]
  | c :: r => if c = 32 then [] :: splitW r else match splitW r with
    | [] => [[c]]
    | w :: ws => (c :: w) :: ws
def tell (t : B) : Sty := if t = [] then .nil else (splitW t).foldl Sty.word .nil
theorem split_one : ∀ {a : B}, (32 : UInt8) ∉ a → splitW a = [a]
  | [], _ => rfl
  | c :: r, h => by
    rw [splitW, if_neg (show ¬ c = 32 from fun e => h (by rw [e]; exact List.mem_cons_self ..)), split_one (a := r) (fun hm => h (List.mem_cons_of_mem _ hm))]
theorem split_cons : ∀ {a : B} (r : B), (32 : UInt8) ∉ a → splitW (a ++ 32 :: r) = a :: splitW r
  | [], r, _ => by rw [List.nil_append, splitW, if_pos rfl]
  | c :: a, r, h => by
    rw [List.cons_append, splitW, if_neg (show ¬ c = 32 from fun e => h (by rw [e]; exact List.mem_cons_self ..)), split_cons (a := a) r (fun hm => h (List.mem_cons_of_mem _ hm))]
theorem split_join : ∀ (ws : List B), ws ≠ [] → (∀ b ∈ ws, (32 : UInt8) ∉ b) → splitW (Lib.join ws [32]) = ws
  | [], h, _ => absurd rfl h
  | [a], _, h => by rw [Lib.join_one]; exact split_one (h a (List.mem_cons_self ..))
  | a :: b :: l, _, h => by
    have e1 : Lib.join (a :: b :: l) [32] = a ++ 32 :: Lib.join (b :: l) [32] := by simp [Lib.join, List.intercalate, List.intersperse]
    rw [e1, split_cons _ (h a (List.mem_cons_self ..)), split_join (b :: l) (by simp) (fun x hx => h x (List.mem_cons_of_mem _ hx))]
theorem join_ne : ∀ (ws : List B), ws ≠ [] → (∀ b ∈ ws, b ≠ []) → Lib.join ws [32] ≠ []
  | [], h, _ => absurd rfl h
  | [a], _, h => by rw [Lib.join_one]; exact h a (List.mem_cons_self ..)
  | a :: b :: l, _, _ => by
    have e1 : Lib.join (a :: b :: l) [32] = a ++ 32 :: Lib.join (b :: l) [32] := by simp [Lib.join, List.intercalate, List.intersperse]
    rw [e1]; simp
theorem tell_join (ws : List B) (h : ∀ b ∈ ws, b ≠ [] ∧ (32 : UInt8) ∉ b) : tell (Lib.join ws [32]) = story ws := by
  by_cases hw : ws = []
  · subst hw; simp [tell, story, Lib.join, List.intercalate]
  · rw [tell, if_neg (join_ne ws hw fun b hb => (h b hb).1), split_join ws hw fun b hb => (h b hb).2]; rfl
/-- what the trace of a run says -/
theorem BalY.tells {cs : List Nat} {y : Yd} (h : BalY cs y) (hm : y.made.length < 10000000) : tell y.text = ⟨y.made.map (·.2), y.live, true⟩ := by
  rw [Yd.text, tell_join _ h.words, h.told hm]
/-! word by word -/
theorem split_at {t : B} {from_ i : Nat} (h1 : from_ ≤ i) (h2 : i ≤ t.length) (hn : ∀ j, from_ ≤ j → j < i → t.getD j 0 ≠ 32) (he : i = t.length ∨ t.getD i 0 = 32) :
    splitW (t.drop from_) = (t.drop from_).take (i - from_) :: (if i = t.length then [] else splitW (t.drop (i + 1))) := by
  have hm : (32 : UInt8) ∉ (t.drop from_).take (i - from_) := fun hm => by
    obtain ⟨k, hk, e⟩ := List.mem_iff_getElem.1 hm
    simp only [List.length_take, List.length_drop] at hk
    refine hn (from_ + k) (by omega) (by omega) ?_
    rw [List.getD_eq_getElem?_getD, List.getElem?_eq_getElem (by omega)]
    simpa using e
  by_cases hl : i = t.length
  · rw [if_pos hl]
    have e : (t.drop from_).take (i - from_) = t.drop from_ := List.take_of_length_le (by rw [List.length_drop]; omega)
    rw [e] at hm ⊢
    exact split_one hm
  · rw [if_neg hl]
    have h32 := he.resolve_left hl
    have e : t.drop from_ = (t.drop from_).take (i - from_) ++ 32 :: t.drop (i + 1) := by
      have e1 : t.drop i = 32 :: t.drop (i + 1) := by
        rw [List.drop_eq_getElem_cons (by omega)]
        rw [List.getD_eq_getElem?_getD, List.getElem?_eq_getElem (by omega)] at h32
        rw [← h32]; rfl
      rw [← e1]
      have : t.drop i = (t.drop from_).drop (i - from_) := by rw [List.drop_drop]; congr 1; omega
      rw [this, List.take_append_drop]
    conv => lhs; rw [e]
    exact split_cons _ hm
end Go.Proofs.YtmlgajhhnojdjaaGreatDoor.Bal
