/- Plain facts: what the flow makes of a line, as bits, is what the document's own ways make of it. -/
import Derived.Test.YtmlgajhhnojdjaaGreatDoorPAQ
import Derived.Test.YtmlgajhhnojdjaaGreatDoorPAN
import Derived.Test.YtmlgajhhnojdjaaGreatDoorPAC
namespace Go.Proofs.YtmlgajhhnojdjaaGreatDoor.Spec
open Go Go.Proofs.YtmlgajhhnojdjaaGreatDoor.Aux Go.Proofs.YtmlgajhhnojdjaaGreatDoor.RefS Go.Proofs.YtmlgajhhnojdjaaGreatDoor.RefT

theorem word_dropN (ws : List B) (n k : Nat) : word (ws.drop n) k = word ws (n + k) := by simp [word, List.getD_eq_getElem?_getD]
theorem isName_part {w : B} (h : isName w = true) : partOf w = 0 := by
  unfold partOf
  have : dotted w = false := by
    cases hd : dotted w
    · rfl
    · exfalso
      simp only [dotted, Bool.and_eq_true, decide_eq_true_eq, beq_iff_eq] at hd
      obtain ⟨h1, h2⟩ := hd
      have hm : (46 : UInt8) ∈ w := List.mem_of_getElem? h2
      simp only [isName, Bool.and_eq_true, List.all_eq_true] at h
      have := h.1.1 46 hm
      exact absurd this (by decide)
  rw [this]; rfl
theorem isPlace_part {w : B} (h : isPlace w = true) : partFit w := by
  simp only [isPlace, Bool.and_eq_true, Bool.or_eq_true, decide_eq_true_eq, beq_iff_eq] at h
  obtain ⟨h1, ((h2 | h2) | h2) | h2⟩ := h
  · rw [h2] at h1; exact .inl (isName_part h1)
  · exact .inr (.inl h2)
  · exact .inr (.inr (.inl h2))
  · exact .inr (.inr (.inr h2))
theorem typesGo_at (p : RP) (w1 : B) : ∀ (f : B) (ws : List B) (k : Nat) (hk : k < f.length), p.typesGo w1 f ws = true → p.typeOk f[k] (word ws k) w1 = true := by
  intro f
  induction f with
  | nil => intro ws k hk; simp at hk
  | cons c f ih =>
    intro ws k hk h
    rw [RP.typesGo, Bool.and_eq_true] at h
    cases k with
    | zero => exact h.1
    | succ k =>
      have := ih (ws.drop 1) k (by simpa using hk) h.2
      rw [word_drop] at this
      simpa using this
/-- a word that names a place that is there -/
structure PlaceOk (p : RP) (w : B) : Prop where
  find : 0 ≤ p.find (localOf w)
  part : partFit w
  fits : p.fits w
  type : ¬ p.typeOf w = []
section
variable {text : B} {raw : Bool} {p : RP}
theorem ReadOk.place (h : ReadOk text raw p) {i : Nat} (hb : p.body i) {f : B} (hf : (behind (word (p.line i) 0) p.raw).1 = f) (k : Nat) (hk : k < f.length) (hc : isPlaceKind f[k] = true) : PlaceOk p (word (p.line i) (k + 1)) ∧ p.typeOk f[k] (word (p.line i) (k + 1)) (word (p.line i) 1) = true := by
  subst hf
  have hl : ¬ word (p.line i) 0 = wLet := by have := hb.2.1; simpa [isLet] using this
  have hbl : ¬ word (p.line i) 0 = wBlock := by have := hb.2.2; simpa [isBlock] using this
  simp only [isPlaceKind, Bool.or_eq_true, beq_iff_eq] at hc
  have hfd := RP.names_find (h.names i hb.1) hl k hk (by simp only [List.mem_cons, List.not_mem_nil, or_false]; rcases hc with (((hc | hc) | hc) | hc) | hc <;> simp [hc])
  have hw := lineForm_word (h.pre.form i hb.1) hl k hk
  have ht : p.typeOk (behind (word (p.line i) 0) p.raw).1[k] (word (p.line i) (k + 1)) (word (p.line i) 1) = true := by
    have := h.types i hb.1
    simp only [RP.typesOk, Bool.or_eq_true, beq_iff_eq] at this
    rcases this with (e | e) | e
    · exact absurd e hl
    · exact absurd e hbl
    · have := typesGo_at p _ _ _ k hk e
      rwa [word_drop] at this
  refine ⟨⟨hfd, ?_, RP.fits_of hfd h.pre.twelve, ?_⟩, ht⟩
  · rcases hc with (((hc | hc) | hc) | hc) | hc
    · rw [hc, wordOf, if_pos (.inl rfl)] at hw; exact .inl (isName_part hw)
    · rw [hc, wordOf, if_pos (.inr rfl)] at hw; exact .inl (isName_part hw)
    · rw [hc, wordOf, if_neg (by decide), if_pos (.inl rfl)] at hw; exact isPlace_part hw
    · rw [hc, wordOf, if_neg (by decide), if_pos (.inr (.inl rfl))] at hw; exact isPlace_part hw
    · rw [hc, wordOf, if_neg (by decide), if_pos (.inr (.inr rfl))] at hw; exact isPlace_part hw
  · intro e
    unfold RP.typeOk at ht
    rw [if_neg (by rcases hc with (((hc | hc) | hc) | hc) | hc <;> rw [hc] <;> decide), if_pos e] at ht
    cases ht
theorem typeOk_i {w w1 : B} (h : p.typeOk 105 w w1 = true) : p.typeOf w = wInt := by
  unfold RP.typeOk at h
  rw [if_neg (by decide)] at h
  by_cases e : p.typeOf w = wInt
  · exact e
  · split at h
    · cases h
    · rw [if_pos (.inl ⟨rfl, e⟩)] at h; cases h
theorem typeOk_p {w w1 : B} (h : p.typeOk 112 w w1 = true) : p.typeOf w = wBox := by
  unfold RP.typeOk at h
  rw [if_neg (by decide)] at h
  by_cases e : p.typeOf w = wBox
  · exact e
  · split at h
    · cases h
    · rw [if_pos (.inr (.inl ⟨rfl, e⟩))] at h; cases h
theorem typeOk_o {w w1 : B} (h : p.typeOk 111 w w1 = true) : p.typeOf w = wOpt := by
  unfold RP.typeOk at h
  rw [if_neg (by decide)] at h
  by_cases e : p.typeOf w = wOpt
  · exact e
  · split at h
    · cases h
    · rw [if_pos (.inr (.inr ⟨rfl, e⟩))] at h; cases h
theorem typeOk_m {w w1 : B} (h : p.typeOk 109 w w1 = true) : ¬ p.typeOf w = wInt ∧ p.typeOf w = p.typeOf w1 := by
  unfold RP.typeOk at h
  rw [if_neg (by decide)] at h
  split at h
  · cases h
  · rw [if_neg (by rintro (⟨h, -⟩ | ⟨h, -⟩ | ⟨h, -⟩) <;> exact absurd h (by decide))] at h
    split at h
    · cases h
    · rename_i h1
      refine ⟨fun e => h1 ⟨.inl rfl, e⟩, ?_⟩
      by_cases e : p.typeOf w = p.typeOf w1
      · exact e
      · rw [if_pos ⟨rfl, e⟩] at h; cases h
theorem typeOk_d {w w1 : B} (h : p.typeOk 100 w w1 = true) : ¬ p.typeOf w = wInt := by
  unfold RP.typeOk at h
  rw [if_neg (by decide)] at h
  split at h
  · cases h
  · rw [if_neg (by rintro (⟨h, -⟩ | ⟨h, -⟩ | ⟨h, -⟩) <;> exact absurd h (by decide))] at h
    split at h
    · cases h
    · rename_i h1
      exact fun e => h1 ⟨.inr rfl, e⟩
theorem kindP_eq {w : B} (h : PlaceOk p w) : p.toPP.kind (p.placeOf w) = p.typeOf w := by
  have ht := h.type
  unfold PProg.kind
  rw [tyOf_eq h.find]
  unfold RP.typeOf at ht ⊢
  have e : (p.placeOf w).part = partOf w := rfl
  rw [e]
  rcases h.part with hp | hp | hp | hp
  · rw [hp, if_neg (by decide), if_neg (by decide), if_neg (by decide)]
  · rw [hp, if_pos (.inl rfl)] at ht; rw [hp, if_pos (.inl rfl), if_pos (.inl rfl)]
    split at ht
    · rw [if_pos ‹_›]
    · exact absurd rfl ht
  · rw [hp, if_pos (.inr rfl)] at ht; rw [hp, if_pos (.inr (.inl rfl)), if_pos (.inr rfl)]
    split at ht
    · rw [if_pos ‹_›]
    · exact absurd rfl ht
  · rw [hp, if_neg (by decide), if_pos rfl] at ht; rw [hp, if_pos (.inr (.inr rfl)), if_neg (by decide), if_pos rfl]
    split at ht
    · rw [if_pos ‹_›]
    · exact absurd rfl ht
theorem int_ne : ¬ wInt = wPair := by decide
theorem box_ne : ¬ wBox = wPair := by decide
theorem opt_ne : ¬ wOpt = wPair := by decide

/-- few letters: which ones, as bits -/
theorem only_iff {s : B} (hs : ∀ c ∈ s, c ∈ letters) (t : B) : only s t = true ↔ (45 ∈ s → 45 ∈ t) ∧ (110 ∈ s → 110 ∈ t) ∧ (119 ∈ s → 119 ∈ t) ∧ (104 ∈ s → 104 ∈ t) := by
  simp only [only, has, List.all_eq_true, List.contains_iff_mem]
  refine ⟨fun h => ⟨h 45, h 110, h 119, h 104⟩, fun ⟨h1, h2, h3, h4⟩ c hc => ?_⟩
  have := hs c hc
  simp only [letters, List.mem_cons, List.not_mem_nil, or_false] at this
  rcases this with rfl | rfl | rfl | rfl
  · exact h1 hc
  · exact h2 hc
  · exact h3 hc
  · exact h4 hc
theorem only_w {s : B} (hs : ∀ c ∈ s, c ∈ letters) : (!(bitsOf s &&& (15 - 2) == 0)) = !only s [119] := by
  congr 1
  rw [Bool.eq_iff_iff, only_iff hs]
  unfold bitsOf
  by_cases h1 : (45 : UInt8) ∈ s <;> by_cases h2 : (110 : UInt8) ∈ s <;> by_cases h3 : (119 : UInt8) ∈ s <;> by_cases h4 : (104 : UInt8) ∈ s <;> simp [h1, h2, h3, h4]
theorem only_nw {s : B} (hs : ∀ c ∈ s, c ∈ letters) : (!(bitsOf s &&& (15 - 6) == 0)) = !only s [110, 119] := by
  congr 1
  rw [Bool.eq_iff_iff, only_iff hs]
  unfold bitsOf
  by_cases h1 : (45 : UInt8) ∈ s <;> by_cases h2 : (110 : UInt8) ∈ s <;> by_cases h3 : (119 : UInt8) ∈ s <;> by_cases h4 : (104 : UInt8) ∈ s <;> simp [h1, h2, h3, h4]
theorem only_wh {s : B} (hs : ∀ c ∈ s, c ∈ letters) : (!(bitsOf s &&& (15 - 10) == 0)) = !only s [119, 104] := by
  congr 1
  rw [Bool.eq_iff_iff, only_iff hs]
  unfold bitsOf
  by_cases h1 : (45 : UInt8) ∈ s <;> by_cases h2 : (110 : UInt8) ∈ s <;> by_cases h3 : (119 : UInt8) ∈ s <;> by_cases h4 : (104 : UInt8) ∈ s <;> simp [h1, h2, h3, h4]
end
end Go.Proofs.YtmlgajhhnojdjaaGreatDoor.Spec
/- Plain facts: what the flow makes of a line, as bits, is what the document's own ways make of it; and what it finds wrong. -/
namespace Go.Proofs.YtmlgajhhnojdjaaGreatDoor.Spec
open Go Go.Proofs.YtmlgajhhnojdjaaGreatDoor.Aux Go.Proofs.YtmlgajhhnojdjaaGreatDoor.RefS Go.Proofs.YtmlgajhhnojdjaaGreatDoor.RefT

theorem word_tail (ws : List B) (k : Nat) : word ws.tail k = word ws (k + 1) := by rw [← List.drop_one, word_drop]
section
variable {text : B} {p : RP}
/-- the words of a line whose first word is known -/
theorem pline_places {i : Nat} {f : B} (hf : (behind (word (p.line i) 0) p.raw).1 = f) : (p.pline i).places = p.placesOf f ((p.line i).drop 1) := by
  unfold RP.pline; rw [hf]
theorem w_iii {i : Nat} (hf : (behind (word (p.line i) 0) p.raw).1 = [105, 105, 105]) : (p.pline i).w 0 = p.placeOf (word (p.line i) 1) ∧ (p.pline i).w 1 = p.placeOf (word (p.line i) 2) ∧ (p.pline i).w 2 = p.placeOf (word (p.line i) 3) := by
  unfold PLine.w; rw [pline_places hf]; simp [RP.placesOf, isPlaceKind, word_dropN, word_tail]
theorem w_one {i : Nat} {c : UInt8} {r : B} (hf : (behind (word (p.line i) 0) p.raw).1 = c :: r) (hc : isPlaceKind c = true) : (p.pline i).w 0 = p.placeOf (word (p.line i) 1) := by
  unfold PLine.w; rw [pline_places hf, RP.placesOf, if_pos hc]; simp [word_tail]
theorem w_two {i : Nat} {c d : UInt8} {r : B} (hf : (behind (word (p.line i) 0) p.raw).1 = c :: d :: r) (hc : isPlaceKind c = true) (hd : isPlaceKind d = true) : (p.pline i).w 1 = p.placeOf (word (p.line i) 2) := by
  unfold PLine.w; rw [pline_places hf, RP.placesOf, if_pos hc, RP.placesOf, if_pos hd]; simp [word_dropN]
theorem there_one {s : Nat → Nat} {t : WS} (ht : t.Few) (hr : Rel s t) {w : B} (hw : PlaceOk p w) (hp : ¬ p.typeOf w = wPair) (ho : ¬ p.typeOf w = wOpt) : lacksP 2 [p.placeOf w] s = !p.there t w := by
  have hs := spots_one hp
  have hk : (p.spots w).1 < 24 := by have := hw.fits; unfold RP.fits at this; omega
  unfold lacksP RP.there
  rw [hs, List.any_cons, List.any_nil, Bool.or_false, slot_eq, hr _ hk, only_w (ht.few _).among]
  unfold RP.some
  rw [if_neg ho, thereGo]
  cases only (t.at (p.spots w).1) [119] <;> rfl
theorem there_opt {s : Nat → Nat} {t : WS} (ht : t.Few) (hr : Rel s t) {w : B} (hw : PlaceOk p w) (ho : p.typeOf w = wOpt) : lacksP 6 [p.placeOf w] s = !p.there t w := by
  have hs := spots_one (p := p) (w := w) (by rw [ho]; exact opt_ne)
  have hk : (p.spots w).1 < 24 := by have := hw.fits; unfold RP.fits at this; omega
  unfold lacksP RP.there
  rw [hs, List.any_cons, List.any_nil, Bool.or_false, slot_eq, hr _ hk, only_nw (ht.few _).among]
  unfold RP.some
  rw [if_pos ho, thereGo]
  cases only (t.at (p.spots w).1) [110, 119] <;> rfl
theorem there_pair {s : Nat → Nat} {t : WS} (ht : t.Few) (hr : Rel s t) {w : B} (hw : PlaceOk p w) (ho : p.typeOf w = wPair) : lacksP 2 (p.toPP.halves (p.placeOf w)) s = !p.there t w := by
  have hpi := (pair_iff hw.find hw.part).mp ho
  have hpart : partOf w = 0 := hpi.1
  have hs : p.spots w = (2 * (p.find (localOf w)).toNat, 2) := by
    unfold RP.spots; rw [if_neg (by rw [hpart]; decide), if_pos ho]
  have hf := hw.fits
  unfold RP.fits at hf
  rw [hs] at hf
  unfold PProg.halves
  rw [if_pos hpi]
  unfold lacksP RP.there
  rw [hs]
  have e1 : PPlace.slot ⟨(p.placeOf w).loc, 97⟩ = 2 * (p.find (localOf w)).toNat := rfl
  have e2 : PPlace.slot ⟨(p.placeOf w).loc, 98⟩ = 2 * (p.find (localOf w)).toNat + 1 := rfl
  simp only [List.any_cons, List.any_nil, Bool.or_false, e1, e2]
  rw [hr _ (by omega), hr _ (by omega), only_w (ht.few _).among, only_w (ht.few _).among]
  unfold RP.some
  rw [if_neg (by rw [ho]; decide), thereGo, thereGo, thereGo]
  cases only (t.at (2 * (p.find (localOf w)).toNat)) [119] <;> cases only (t.at (2 * (p.find (localOf w)).toNat + 1)) [119] <;> rfl
theorem shut_eq {s : Nat → Nat} {t : WS} (ht : t.Few) (hr : Rel s t) {w : B} (hw : PlaceOk p w) : shutP (p.placeOf w) s = !writable p t w := by
  have hb := (RP.spots_bound (p := p) (w := w) (RP.find_lt hw.find).choose_spec.1).2
  have hk : (p.spots w).1 < 24 := by have := hw.fits; unfold RP.fits at this; omega
  unfold shutP writable lacksP
  rw [List.any_cons, List.any_nil, Bool.or_false, slot_eq, hr _ hk, only_wh (ht.few _).among]
  show (partOf w == 115 && _) = _
  cases partOf w == 115 <;> cases only (t.at (p.spots w).1) [119, 104] <;> rfl
/-- move: what must be there -/
theorem stuck_eq {s : Nat → Nat} {t : WS} (ht : t.Few) (hr : Rel s t) {w : B} (hw : PlaceOk p w) : p.toPP.stuck (p.placeOf w) s = !p.there t w := by
  unfold PProg.stuck
  rw [kindP_eq hw]
  by_cases ho : p.typeOf w = wOpt
  · rw [if_pos ho]; exact there_opt ht hr hw ho
  · rw [if_neg ho]
    by_cases hp : p.typeOf w = wPair
    · exact there_pair ht hr hw hp
    · have : p.toPP.halves (p.placeOf w) = [p.placeOf w] := by
        unfold PProg.halves; rw [if_neg (fun e => hp ((pair_iff hw.find hw.part).mpr e))]
      rw [this]; exact there_one ht hr hw hp ho
end
end Go.Proofs.YtmlgajhhnojdjaaGreatDoor.Spec
/- Plain facts: what the flow makes of any line, as bits, and what it finds wrong, is as in the document's own ways. -/
namespace Go.Proofs.YtmlgajhhnojdjaaGreatDoor.Spec
open Go Go.Proofs.YtmlgajhhnojdjaaGreatDoor.Aux Go.Proofs.YtmlgajhhnojdjaaGreatDoor.RefS Go.Proofs.YtmlgajhhnojdjaaGreatDoor.RefT

section
variable {text : B} {p : RP}
theorem rel_put1 {w : B} (hw : PlaceOk p w) (hp : ¬ p.typeOf w = wPair) {s : Nat → Nat} {t : WS} (ht : t.spots.length = 24) (h : Rel s t) {may : Nat} {c : B} (hc : bitsOf c = may) : Rel (putP may [p.placeOf w] s) (p.now t w c) := rel_put (one_slot hp) ht hw.fits h hc
theorem rel_putH {w : B} (hw : PlaceOk p w) {s : Nat → Nat} {t : WS} (ht : t.spots.length = 24) (h : Rel s t) {may : Nat} {c : B} (hc : bitsOf c = may) : Rel (putP may (p.toPP.halves (p.placeOf w)) s) (p.now t w c) := rel_put (halves_slots hw.find hw.part) ht hw.fits h hc
theorem rel_takeH {w : B} (hw : PlaceOk p w) {s : Nat → Nat} {t : WS} (ht : t.spots.length = 24) (h : Rel s t) : Rel (takeP (p.toPP.halves (p.placeOf w)) s) (p.now t w (left w)) := rel_take (halves_slots hw.find hw.part) halves_part ht hw.fits h
theorem rel_take1 {w : B} (hw : PlaceOk p w) (hp : ¬ p.typeOf w = wPair) {s : Nat → Nat} {t : WS} (ht : t.spots.length = 24) (h : Rel s t) : Rel (takeP [p.placeOf w] s) (p.now t w (left w)) := rel_take (one_slot hp) (fun x hx => by rw [List.mem_singleton] at hx; subst hx; rfl) ht hw.fits h
theorem now_now (t : WS) (ht : t.spots.length = 24) {w : B} (hw : p.fits w) (c d : B) (k : Nat) : (p.now (p.now t w c) w d).at k = (p.now t w d).at k := by
  rw [p.now_at (by rw [p.now_len, ht]) hw, p.now_at ht hw, p.now_at ht hw]
  split <;> rfl
theorem Rel.congr {s : Nat → Nat} {t u : WS} (h : Rel s t) (e : ∀ k, t.at k = u.at k) : Rel s u := fun k hk => by rw [h k hk, e k]
theorem rel_takes {i : Nat} {s : Nat → Nat} {t : WS} (ht : t.spots.length = 24) (h : Rel s t) (h1 : PlaceOk p (word (p.line i) 1)) (h2 : PlaceOk p (word (p.line i) 2)) (hw : word (p.line i) 0 = [109, 111, 118, 101]) (hty : p.typeOf (word (p.line i) 2) = p.typeOf (word (p.line i) 1)) :
    Rel (putP (if p.toPP.kind (p.placeOf (word (p.line i) 2)) = wOpt then s (p.placeOf (word (p.line i) 2)).slot else 2) (p.toPP.halves (p.placeOf (word (p.line i) 1))) (takeP (p.toPP.halves (p.placeOf (word (p.line i) 2))) s)) (RP.takes p (p.line i) t).1 := by
  have hT := rel_takeH h2 ht h
  have hl : (p.now t (word (p.line i) 2) (left (word (p.line i) 2))).spots.length = 24 := by rw [p.now_len, ht]
  have hk : (p.spots (word (p.line i) 2)).1 < 24 := by have := h2.fits; have := (RP.spots_bound (p := p) (w := word (p.line i) 2) (RP.find_lt h2.find).choose_spec.1).2; unfold RP.fits at *; omega
  rw [kindP_eq h2, hty, slot_eq]
  unfold RP.takes RP.taken
  by_cases ho : p.typeOf (word (p.line i) 1) = wOpt
  · rw [if_pos ho]
    have e : word (p.line i) 0 = [109, 111, 118, 101] ∧ p.typeOf (word (p.line i) 1) = [111, 112, 116] := ⟨hw, ho⟩
    simp only [e, and_self, if_true]
    have := rel_putH h1 hl hT (may := s (p.spots (word (p.line i) 2)).1) (c := t.at (p.spots (word (p.line i) 2)).1) (h _ hk).symm
    exact this.congr fun k => (now_now _ hl h1.fits _ _ k).symm
  · rw [if_neg ho]
    have e : ¬ (word (p.line i) 0 = [109, 111, 118, 101] ∧ p.typeOf (word (p.line i) 1) = [111, 112, 116]) := fun x => ho x.2
    simp only [e, if_false]
    exact rel_putH h1 hl hT (by decide)
theorem rel_some {i : Nat} {s : Nat → Nat} {t : WS} (ht : t.spots.length = 24) (h : Rel s t) (h1 : PlaceOk p (word (p.line i) 1)) (h2 : PlaceOk p (word (p.line i) 2)) (hw : word (p.line i) 0 = [115, 111, 109, 101]) (ht1 : p.typeOf (word (p.line i) 1) = wOpt) (ht2 : p.typeOf (word (p.line i) 2) = wBox) :
    Rel (putP 2 [p.placeOf (word (p.line i) 1)] (takeP [p.placeOf (word (p.line i) 2)] s)) (RP.takes p (p.line i) t).1 := by
  have hT := rel_take1 h2 (by rw [ht2]; exact box_ne) ht h
  have hl : (p.now t (word (p.line i) 2) (left (word (p.line i) 2))).spots.length = 24 := by rw [p.now_len, ht]
  unfold RP.takes RP.taken
  have e : ¬ (word (p.line i) 0 = [109, 111, 118, 101] ∧ p.typeOf (word (p.line i) 1) = [111, 112, 116]) := fun x => by have := x.1; rw [hw] at this; exact absurd this (by decide)
  simp only [e, if_false]
  exact rel_put1 h1 (by rw [ht1]; exact opt_ne) hl hT (by decide)

/-- the words that may open a line of a body -/
def bodyWords : List B := [[115, 101, 116], [105, 110], [97, 100, 100], [115, 117, 98], [109, 117, 108], [100, 105, 118], [111, 117, 116], [105, 102], [101, 110, 100], [109, 97, 116, 99, 104], [110, 101, 119], [108, 111, 97, 100], [115, 116, 111, 114, 101], [110, 111, 110, 101], [100, 114, 111, 112], [109, 111, 118, 101], [115, 111, 109, 101], [103, 111, 116, 111]]
theorem body_words (w : B) (h : (behind w false).2 = true) : w ∈ bodyWords := by
  by_cases hn : w ∈ bodyWords
  · exact hn
  · exfalso
    simp only [bodyWords, List.mem_cons, List.not_mem_nil, or_false, not_or] at hn
    obtain ⟨h1, h2, h3, h4, h5, h6, h7, h8, h9, h10, h11, h12, h13, h14, h15, h16, h17, h18⟩ := hn
    unfold behind at h
    simp only [h1, h2, h3, h4, h5, h6, h7, h8, h9, h10, h11, h12, h13, h14, h15, h16, h17, h18, or_self, if_false] at h
    repeat (split at h <;> first | (cases h; done) | skip)
theorem ReadOk.body_word (h : ReadOk text false p) {i : Nat} (hb : p.body i) : word (p.line i) 0 ∈ bodyWords := by
  have hl : ¬ word (p.line i) 0 = wLet := by have := hb.2.1; simpa [isLet] using this
  have hbl : ¬ word (p.line i) 0 = wBlock := by have := hb.2.2; simpa [isBlock] using this
  have := h.pre.form i hb.1
  unfold lineForm at this
  rw [if_neg hl, if_neg hbl, h.raw] at this
  simp only [Bool.and_eq_true] at this
  exact body_words _ this.1.1
theorem takes_ok {i : Nat} {t : WS} (ht : t.Few) (h1 : PlaceOk p (word (p.line i) 1)) (h2 : PlaceOk p (word (p.line i) 2)) (hw : word (p.line i) 0 = [109, 111, 118, 101]) (hty : p.typeOf (word (p.line i) 2) = p.typeOf (word (p.line i) 1)) :
    (RP.takes p (p.line i) t).2 = (p.there t (word (p.line i) 2) && writable p t (word (p.line i) 1)) := by
  have hl2 : (RP.takes p (p.line i) t).2 = (p.there t (word (p.line i) 2) && (writable p (p.now t (word (p.line i) 2) (left (word (p.line i) 2))) (word (p.line i) 1) || (word (p.line i) 0 == [115, 111, 109, 101]))) := rfl
  rw [hl2, hw, show (([109, 111, 118, 101] : B) == [115, 111, 109, 101]) = false by decide, Bool.or_false]
  unfold writable
  by_cases hp1 : partOf (word (p.line i) 1) = 115
  · have e1 : (!(partOf (word (p.line i) 1) == 115)) = false := by rw [hp1]; rfl
    rw [e1, Bool.false_or, Bool.false_or, p.now_at ht.len h2.fits]
    by_cases hx : p.isSpot (word (p.line i) 2) (p.spots (word (p.line i) 1)).1 = true
    · rw [if_pos hx]
      have hty1 : p.typeW (word (p.line i) 1) = wOpt ∧ p.typeOf (word (p.line i) 1) = wBox := by
        have := h1.type
        unfold RP.typeOf at this ⊢
        rw [hp1, if_neg (by decide), if_pos rfl] at this ⊢
        split at this
        · rename_i e; exact ⟨e, by rw [if_pos e]⟩
        · exact absurd rfl this
      have hty2 : p.typeOf (word (p.line i) 2) = wBox := hty.trans hty1.2
      have hs2 := spots_one (p := p) (w := word (p.line i) 2) (by rw [hty2]; exact box_ne)
      have hs1 : (p.spots (word (p.line i) 1)).1 = 2 * (p.find (localOf (word (p.line i) 1))).toNat := by
        unfold RP.spots; rw [if_neg (by rw [hp1]; decide)]; split <;> rfl
      have heq : (p.spots (word (p.line i) 2)).1 = (p.spots (word (p.line i) 1)).1 := by
        unfold RP.isSpot at hx
        rw [hs2] at hx
        simp only [Bool.and_eq_true, decide_eq_true_eq] at hx; omega
      have hp2 : partOf (word (p.line i) 2) = 115 := by
        have hn98 : ¬ partOf (word (p.line i) 2) = 98 := fun e => by
          have : (p.spots (word (p.line i) 2)).1 = 2 * (p.find (localOf (word (p.line i) 2))).toNat + 1 := by unfold RP.spots; rw [if_pos e]
          omega
        have hs2' : (p.spots (word (p.line i) 2)).1 = 2 * (p.find (localOf (word (p.line i) 2))).toNat := by
          unfold RP.spots; rw [if_neg hn98]; split <;> rfl
        have htw : p.typeW (word (p.line i) 2) = wOpt := by
          have : (p.find (localOf (word (p.line i) 2))).toNat = (p.find (localOf (word (p.line i) 1))).toNat := by omega
          rw [← hty1.1]; unfold RP.typeW; rw [this]
        unfold RP.typeOf at hty2
        rw [htw] at hty2
        rcases h2.part with e | e | e | e
        · rw [e, if_neg (by decide), if_neg (by decide)] at hty2; exact absurd hty2 (by decide)
        · rw [e, if_pos (.inl rfl), if_neg opt_ne] at hty2; exact absurd hty2 (by decide)
        · exact absurd e hn98
        · exact e
      have hleft : left (word (p.line i) 2) = [104] := by unfold left; rw [if_pos hp2]
      rw [hleft, show only [104] [119, 104] = true by decide, Bool.and_true]
      cases hth : p.there t (word (p.line i) 2)
      · rfl
      · unfold RP.there RP.some at hth
        rw [hs2, if_neg (by rw [hty2]; decide), thereGo, heq] at hth
        split at hth
        · rename_i ho
          have := (only_iff (ht.few _).among _).mp ho
          rw [(only_iff (ht.few _).among [119, 104]).mpr ⟨fun h => absurd (this.1 h) (by decide), fun h => absurd (this.2.1 h) (by decide), fun _ => by simp, fun h => absurd (this.2.2.2 h) (by decide)⟩]
          rfl
        · cases hth
    · rw [if_neg hx]
  · have e1 : (!(partOf (word (p.line i) 1) == 115)) = true := by simp [hp1]
    rw [e1]; rfl
/-- the flow makes of a line what the document's own ways make of it -/
theorem ReadOk.pass_ok (h : ReadOk text false p) {i : Nat} (hb : p.body i) {s : Nat → Nat} {t : WS} (ht : t.spots.length = 24) (hr : Rel s t) : Rel (p.toPP.pass (p.pline i) s) (p.step (p.line i) t).1 := by
  have hop : (p.pline i).op = word (p.line i) 0 := rfl
  have hm := h.body_word hb
  have H := fun f (hf : (behind (word (p.line i) 0) p.raw).1 = f) k hk hc => h.place hb hf k hk hc
  unfold PProg.pass RP.step
  rw [hop]
  simp only [bodyWords, List.mem_cons, List.not_mem_nil, or_false] at hm
  rcases hm with e | e | e | e | e | e | e | e | e | e | e | e | e | e | e | e | e | e
  · have hf : (behind (word (p.line i) 0) p.raw).1 = [105, 110] := by rw [e]; rfl
    obtain ⟨h1, t1⟩ := H _ hf 0 (by simp) (by rfl)
    rw [w_one hf rfl]
    simp only [e]
    exact rel_put1 h1 (by rw [typeOk_i t1]; exact int_ne) ht hr (by decide)
  · have hf : (behind (word (p.line i) 0) p.raw).1 = [105] := by rw [e]; rfl
    obtain ⟨h1, t1⟩ := H _ hf 0 (by simp) (by rfl)
    rw [w_one hf rfl]
    simp only [e]
    exact rel_put1 h1 (by rw [typeOk_i t1]; exact int_ne) ht hr (by decide)
  · have hf : (behind (word (p.line i) 0) p.raw).1 = [105, 105, 105] := by rw [e]; rfl
    obtain ⟨h1, t1⟩ := H _ hf 0 (by simp) (by rfl)
    rw [w_one hf rfl]
    simp only [e]
    exact rel_put1 h1 (by rw [typeOk_i t1]; exact int_ne) ht hr (by decide)
  · have hf : (behind (word (p.line i) 0) p.raw).1 = [105, 105, 105] := by rw [e]; rfl
    obtain ⟨h1, t1⟩ := H _ hf 0 (by simp) (by rfl)
    rw [w_one hf rfl]
    simp only [e]
    exact rel_put1 h1 (by rw [typeOk_i t1]; exact int_ne) ht hr (by decide)
  · have hf : (behind (word (p.line i) 0) p.raw).1 = [105, 105, 105] := by rw [e]; rfl
    obtain ⟨h1, t1⟩ := H _ hf 0 (by simp) (by rfl)
    rw [w_one hf rfl]
    simp only [e]
    exact rel_put1 h1 (by rw [typeOk_i t1]; exact int_ne) ht hr (by decide)
  · have hf : (behind (word (p.line i) 0) p.raw).1 = [105, 105, 105] := by rw [e]; rfl
    obtain ⟨h1, t1⟩ := H _ hf 0 (by simp) (by rfl)
    rw [w_one hf rfl]
    simp only [e]
    exact rel_put1 h1 (by rw [typeOk_i t1]; exact int_ne) ht hr (by decide)
  · simp only [e]; exact hr
  · simp only [e]; exact hr
  · simp only [e]; exact hr
  · simp only [e]; exact hr
  · have hf : (behind (word (p.line i) 0) p.raw).1 = [112, 105] := by rw [e]; rfl
    obtain ⟨h1, t1⟩ := H _ hf 0 (by simp) (by rfl)
    rw [w_one hf rfl]
    simp only [e]
    exact rel_put1 h1 (by rw [typeOk_p t1]; exact box_ne) ht hr (by decide)
  · have hf : (behind (word (p.line i) 0) p.raw).1 = [105, 112] := by rw [e]; rfl
    obtain ⟨h1, t1⟩ := H _ hf 0 (by simp) (by rfl)
    rw [w_one hf rfl]
    simp only [e]
    exact rel_put1 h1 (by rw [typeOk_i t1]; exact int_ne) ht hr (by decide)
  · simp only [e]; exact hr
  · have hf : (behind (word (p.line i) 0) p.raw).1 = [111] := by rw [e]; rfl
    obtain ⟨h1, t1⟩ := H _ hf 0 (by simp) (by rfl)
    rw [w_one hf rfl]
    simp only [e]
    exact rel_put1 h1 (by rw [typeOk_o t1]; exact opt_ne) ht hr (by decide)
  · have hf : (behind (word (p.line i) 0) p.raw).1 = [100] := by rw [e]; rfl
    obtain ⟨h1, t1⟩ := H _ hf 0 (by simp) (by rfl)
    rw [w_one hf rfl]
    simp only [e]
    exact rel_takeH h1 ht hr
  · have hf : (behind (word (p.line i) 0) p.raw).1 = [109, 109] := by rw [e]; rfl
    obtain ⟨h1, t1⟩ := H _ hf 0 (by simp) (by rfl)
    obtain ⟨h2, t2⟩ := H _ hf 1 (by simp) (by rfl)
    have := rel_takes ht hr h1 h2 e (typeOk_m t2).2
    rw [w_one hf rfl, w_two hf rfl rfl]
    simp only [e]
    exact this
  · have hf : (behind (word (p.line i) 0) p.raw).1 = [111, 112] := by rw [e]; rfl
    obtain ⟨h1, t1⟩ := H _ hf 0 (by simp) (by rfl)
    obtain ⟨h2, t2⟩ := H _ hf 1 (by simp) (by rfl)
    have := rel_some ht hr h1 h2 e (typeOk_o t1) (typeOk_p t2)
    rw [w_one hf rfl, w_two hf rfl rfl]
    simp only [e]
    exact this
  · simp only [e]; exact hr
end
end Go.Proofs.YtmlgajhhnojdjaaGreatDoor.Spec
/- Plain facts: what the flow finds wrong is what the document's own ways find wrong; both find the same line first. -/
namespace Go.Proofs.YtmlgajhhnojdjaaGreatDoor.Spec
open Go Go.Proofs.YtmlgajhhnojdjaaGreatDoor.Aux Go.Proofs.YtmlgajhhnojdjaaGreatDoor.RefS Go.Proofs.YtmlgajhhnojdjaaGreatDoor.RefT

section
variable {text : B} {p : RP}
theorem lacks_two (fit : Nat) (x y : PPlace) (s : Nat → Nat) : lacksP fit [x, y] s = (lacksP fit [x] s || lacksP fit [y] s) := by
  simp [lacksP]
theorem not_and_or (a b : Bool) : (!a || !b) = !(a && b) := by cases a <;> cases b <;> rfl
theorem ReadOk.fault_ok (h : ReadOk text false p) {i : Nat} (hb : p.body i) {s : Nat → Nat} {t : WS} (ht : t.Few) (hr : Rel s t) : p.toPP.faulty (p.pline i) s = !(p.step (p.line i) t).2 := by
  have hop : (p.pline i).op = word (p.line i) 0 := rfl
  have hm := h.body_word hb
  have H := fun f (hf : (behind (word (p.line i) 0) p.raw).1 = f) k hk hc => h.place hb hf k hk hc
  have one : ∀ {w : B}, PlaceOk p w → p.typeOf w = wInt → lacksP 2 [p.placeOf w] s = !p.there t w := fun hw e => there_one ht hr hw (by rw [e]; exact int_ne) (by rw [e]; decide)
  have box : ∀ {w : B}, PlaceOk p w → p.typeOf w = wBox → lacksP 2 [p.placeOf w] s = !p.there t w := fun hw e => there_one ht hr hw (by rw [e]; exact box_ne) (by rw [e]; decide)
  unfold PProg.faulty RP.step
  rw [hop]
  simp only [bodyWords, List.mem_cons, List.not_mem_nil, or_false] at hm
  rcases hm with e | e | e | e | e | e | e | e | e | e | e | e | e | e | e | e | e | e
  · simp only [e]; rfl
  · simp only [e]; rfl
  · have hf : (behind (word (p.line i) 0) p.raw).1 = [105, 105, 105] := by rw [e]; rfl
    obtain ⟨h2, t2⟩ := H _ hf 1 (by simp) (by rfl)
    obtain ⟨h3, t3⟩ := H _ hf 2 (by simp) (by rfl)
    rw [(w_iii hf).2.1, (w_iii hf).2.2, lacks_two, one h2 (typeOk_i t2), one h3 (typeOk_i t3), not_and_or]
    simp only [e]; rfl
  · have hf : (behind (word (p.line i) 0) p.raw).1 = [105, 105, 105] := by rw [e]; rfl
    obtain ⟨h2, t2⟩ := H _ hf 1 (by simp) (by rfl)
    obtain ⟨h3, t3⟩ := H _ hf 2 (by simp) (by rfl)
    rw [(w_iii hf).2.1, (w_iii hf).2.2, lacks_two, one h2 (typeOk_i t2), one h3 (typeOk_i t3), not_and_or]
    simp only [e]; rfl
  · have hf : (behind (word (p.line i) 0) p.raw).1 = [105, 105, 105] := by rw [e]; rfl
    obtain ⟨h2, t2⟩ := H _ hf 1 (by simp) (by rfl)
    obtain ⟨h3, t3⟩ := H _ hf 2 (by simp) (by rfl)
    rw [(w_iii hf).2.1, (w_iii hf).2.2, lacks_two, one h2 (typeOk_i t2), one h3 (typeOk_i t3), not_and_or]
    simp only [e]; rfl
  · have hf : (behind (word (p.line i) 0) p.raw).1 = [105, 105, 105] := by rw [e]; rfl
    obtain ⟨h2, t2⟩ := H _ hf 1 (by simp) (by rfl)
    obtain ⟨h3, t3⟩ := H _ hf 2 (by simp) (by rfl)
    rw [(w_iii hf).2.1, (w_iii hf).2.2, lacks_two, one h2 (typeOk_i t2), one h3 (typeOk_i t3), not_and_or]
    simp only [e]; rfl
  · have hf : (behind (word (p.line i) 0) p.raw).1 = [105] := by rw [e]; rfl
    obtain ⟨h1, t1⟩ := H _ hf 0 (by simp) (by rfl)
    rw [w_one hf rfl, one h1 (typeOk_i t1)]
    simp only [e]; rfl
  · have hf : (behind (word (p.line i) 0) p.raw).1 = [105, 78, 78] := by rw [e]; rfl
    obtain ⟨h1, t1⟩ := H _ hf 0 (by simp) (by rfl)
    rw [w_one hf rfl, one h1 (typeOk_i t1)]
    simp only [e]; rfl
  · have hf : (behind (word (p.line i) 0) p.raw).1 = [105] := by rw [e]; rfl
    obtain ⟨h1, t1⟩ := H _ hf 0 (by simp) (by rfl)
    rw [w_one hf rfl, one h1 (typeOk_i t1)]
    simp only [e]; rfl
  · have hf : (behind (word (p.line i) 0) p.raw).1 = [111, 78, 78] := by rw [e]; rfl
    obtain ⟨h1, t1⟩ := H _ hf 0 (by simp) (by rfl)
    rw [w_one hf rfl, there_opt ht hr h1 (typeOk_o t1)]
    simp only [e]; rfl
  · have hf : (behind (word (p.line i) 0) p.raw).1 = [112, 105] := by rw [e]; rfl
    obtain ⟨h1, t1⟩ := H _ hf 0 (by simp) (by rfl)
    obtain ⟨h2, t2⟩ := H _ hf 1 (by simp) (by rfl)
    rw [w_one hf rfl, w_two hf rfl rfl, one h2 (typeOk_i t2), shut_eq ht hr h1, not_and_or]
    simp only [e]; rfl
  · have hf : (behind (word (p.line i) 0) p.raw).1 = [105, 112] := by rw [e]; rfl
    obtain ⟨h2, t2⟩ := H _ hf 1 (by simp) (by rfl)
    rw [w_two hf rfl rfl, box h2 (typeOk_p t2)]
    simp only [e]; rfl
  · have hf : (behind (word (p.line i) 0) p.raw).1 = [112, 105] := by rw [e]; rfl
    obtain ⟨h1, t1⟩ := H _ hf 0 (by simp) (by rfl)
    obtain ⟨h2, t2⟩ := H _ hf 1 (by simp) (by rfl)
    rw [w_one hf rfl, w_two hf rfl rfl, lacks_two 2 (p.placeOf (word (p.line i) 1)), box h1 (typeOk_p t1), one h2 (typeOk_i t2), not_and_or]
    simp only [e]; rfl
  · simp only [e]; rfl
  · have hf : (behind (word (p.line i) 0) p.raw).1 = [100] := by rw [e]; rfl
    obtain ⟨h1, t1⟩ := H _ hf 0 (by simp) (by rfl)
    rw [w_one hf rfl, shut_eq ht hr h1]
    simp only [e]; rfl
  · have hf : (behind (word (p.line i) 0) p.raw).1 = [109, 109] := by rw [e]; rfl
    obtain ⟨h1, t1⟩ := H _ hf 0 (by simp) (by rfl)
    obtain ⟨h2, t2⟩ := H _ hf 1 (by simp) (by rfl)
    have := takes_ok ht h1 h2 e (typeOk_m t2).2
    rw [w_one hf rfl, w_two hf rfl rfl, stuck_eq ht hr h2, shut_eq ht hr h1, not_and_or, ← this]
    simp only [e]; rfl
  · have hf : (behind (word (p.line i) 0) p.raw).1 = [111, 112] := by rw [e]; rfl
    obtain ⟨h2, t2⟩ := H _ hf 1 (by simp) (by rfl)
    have hl2 : (RP.takes p (p.line i) t).2 = (p.there t (word (p.line i) 2) && (writable p (p.now t (word (p.line i) 2) (left (word (p.line i) 2))) (word (p.line i) 1) || (word (p.line i) 0 == [115, 111, 109, 101]))) := rfl
    have hl3 : (RP.takes p (p.line i) t).2 = p.there t (word (p.line i) 2) := by
      rw [hl2, e, show (([115, 111, 109, 101] : B) == [115, 111, 109, 101]) = true by decide, Bool.or_true, Bool.and_true]
    rw [w_two hf rfl rfl, box h2 (typeOk_p t2), ← hl3]
    simp only [e]; rfl
  · simp only [e]; rfl
/-- the first line of bodies that is wrong, of those from i on -/
def RP.firstWrong (p : RP) (wrong : Nat → Bool) : Nat → Nat → Int
  | 0, _ => -1
  | m + 1, i => if (!isLet (p.line i) && !isBlock (p.line i) && wrong i) = true then i else RP.firstWrong p wrong m (i + 1)
theorem faultGo_eq {L : List WS} {wrong : Nat → Bool} (hw : ∀ i, p.body i → ((lw L i).known && !(p.step (p.line i) (lw L i)).2) = wrong i) (hl : ∀ i, i < p.lines.length → isLet (p.line i) = true → (lw L i).known = false) :
    ∀ (m i : Nat), i + m ≤ p.lines.length → p.faultGo L m i = p.firstWrong wrong m i
  | 0, _, _ => rfl
  | m + 1, i, hi => by
    rw [RP.faultGo, RP.firstWrong, faultGo_eq hw hl m (i + 1) (by omega)]
    cases h1 : isLet (p.line i)
    · cases h2 : isBlock (p.line i)
      · rw [hw i ⟨by omega, h1, h2⟩]; rfl
      · have hwd : word (p.line i) 0 = wBlock := by simpa [isBlock] using h2
        rw [step_block p hwd]; simp
    · rw [hl i (by omega) h1]; simp
theorem ReadOk.let_known (h : ReadOk text false p) {L : List WS} (hL : p.Settled L) {i : Nat} (hi : i < p.lines.length) (hl : isLet (p.line i) = true) : (lw L i).known = false := by
  obtain ⟨hR, hC⟩ := h.settled hL
  have hz : p.cnt (i + 1) = 0 := by
    have hnb : isBlock (p.line i) = false := by
      have : word (p.line i) 0 = wLet := by simpa [isLet] using hl
      simp [isBlock, this]; decide
    rw [p.cnt_succ, hnb]
    cases hc : p.cnt i with
    | zero => rfl
    | succ n => have := h.not_let hi (by omega); rw [hl] at this; cases this
  have := (hR.least _ (h.spread_closed (h.heads_closed hC)) i).1
  cases hk : (lw L i).known
  · rfl
  · have := this hk
    unfold RP.spread at this
    rw [if_pos hz] at this; cases this
/-- the document's own first line that needs what may not be there, from the ways of the blocks -/
theorem ReadOk.fault_eq (h : ReadOk text false p) {L : List WS} (hL : p.Settled L) {E : Nat → WS} (hE : BClosed p E) (hl : BLeast p E) {wrong : Nat → Bool} (hw : ∀ i, p.body i → wrong i = ((E (p.blk i)).known && !(p.step (p.line i) (p.along E i)).2))
    (hset : ∀ i, p.body i → ∀ s t : WS, s.spots.length = 24 → t.spots.length = 24 → (∀ k c, c ∈ s.at k ↔ c ∈ t.at k) → (p.step (p.line i) s).2 = (p.step (p.line i) t).2) :
    p.faultGo L p.lines.length 0 = p.firstWrong wrong p.lines.length 0 := by
  obtain ⟨hR, hC⟩ := h.settled hL
  refine faultGo_eq (fun i hb => ?_) (fun i hi hl => h.let_known hL hi hl) _ 0 (by omega)
  rw [hw i hb]
  obtain ⟨h1, h2⟩ := h.same hL hE hl hb
  cases hk : (lw L i).known
  · cases hk2 : (E (p.blk i)).known
    · rfl
    · have := h1.mpr hk2; rw [hk] at this; cases this
  · rw [h1.mp hk, hset i hb _ _ (hC.len i) (along_len hE.len i) (h2 hk)]
end
end Go.Proofs.YtmlgajhhnojdjaaGreatDoor.Spec
/- Plain facts: which line is wrong hangs on which letters there are alone; the document's own answer from the ways of the blocks. -/
namespace Go.Proofs.YtmlgajhhnojdjaaGreatDoor.Spec
open Go Go.Proofs.YtmlgajhhnojdjaaGreatDoor.Aux Go.Proofs.YtmlgajhhnojdjaaGreatDoor.RefS Go.Proofs.YtmlgajhhnojdjaaGreatDoor.RefT

def Same (s t : WS) : Prop := ∀ k c, c ∈ s.at k ↔ c ∈ t.at k
section
variable {text : B} {p : RP}
theorem only_congr {s s' : B} (h : ∀ c, c ∈ s ↔ c ∈ s') (t : B) : only s t = only s' t := by
  rw [Bool.eq_iff_iff]
  simp only [only, List.all_eq_true]
  exact ⟨fun x c hc => x c ((h c).mpr hc), fun x c hc => x c ((h c).mp hc)⟩
theorem thereGo_congr {s t : WS} (h : Same s t) (u : B) : ∀ m k, thereGo s u m k = thereGo t u m k
  | 0, _ => rfl
  | m + 1, k => by rw [thereGo, thereGo, only_congr (h k), thereGo_congr h u m]
theorem there_congr {s t : WS} (h : Same s t) (w : B) : p.there s w = p.there t w := thereGo_congr h _ _ _
theorem writable_congr {s t : WS} (h : Same s t) (w : B) : writable p s w = writable p t w := by
  unfold writable; rw [only_congr (h _)]
theorem step_ok_congr {i : Nat} (hf : p.lineFits (p.line i)) {s t : WS} (hs : s.spots.length = 24) (ht : t.spots.length = 24) (h : Same s t) : (p.step (p.line i) s).2 = (p.step (p.line i) t).2 := by
  unfold RP.step
  repeat' split
  all_goals first
    | rfl
    | (simp only [there_congr h, writable_congr h]; done)
    | skip
  rename_i hw
  have h2 := hf.2 hw
  have hn : Same (p.now s (word (p.line i) 2) (left (word (p.line i) 2))) (p.now t (word (p.line i) 2) (left (word (p.line i) 2))) := fun k c => by
    rw [p.now_at hs h2, p.now_at ht h2]
    split
    · rfl
    · exact h k c
  unfold RP.takes
  simp only [there_congr h, writable_congr hn]
theorem ReadOk.fault_same (h : ReadOk text false p) {L : List WS} (hL : p.Settled L) {E : Nat → WS} (hE : BClosed p E) (hl : BLeast p E) {wrong : Nat → Bool} (hw : ∀ i, p.body i → wrong i = ((E (p.blk i)).known && !(p.step (p.line i) (p.along E i)).2)) :
    p.faultGo L p.lines.length 0 = p.firstWrong wrong p.lines.length 0 :=
  h.fault_eq hL hE hl hw fun i hb _ _ hs ht e => step_ok_congr (h.lineFits i hb.1) hs ht e
end
end Go.Proofs.YtmlgajhhnojdjaaGreatDoor.Spec
/- Plain facts: what the flow leads on with, as bits; where it begins; ways that meet. -/
namespace Go.Proofs.YtmlgajhhnojdjaaGreatDoor.Spec
open Go Go.Proofs.YtmlgajhhnojdjaaGreatDoor.Aux Go.Proofs.YtmlgajhhnojdjaaGreatDoor.RefS Go.Proofs.YtmlgajhhnojdjaaGreatDoor.RefT

section
variable {text : B} {p : RP}
theorem ReadOk.out_match (h : ReadOk text false p) {i : Nat} (hb : p.body i) (hm : word (p.line i) 0 = wMatch) {s : Nat → Nat} {t : WS} (ht : t.spots.length = 24) (hr : Rel s t) :
    Rel (putP 4 [(p.pline i).w 0] s) (p.outOf (p.line i) t 1) ∧ Rel (putP 2 [(p.pline i).w 0] s) (p.outOf (p.line i) t 2) := by
  have hf : (behind (word (p.line i) 0) p.raw).1 = [111, 78, 78] := by rw [hm]; rfl
  obtain ⟨h1, t1⟩ := h.place hb hf 0 (by simp) (by rfl)
  have ho := typeOk_o t1
  rw [w_one hf rfl]
  have e1 : p.outOf (p.line i) t 1 = p.now t (word (p.line i) 1) [110] := by
    unfold RP.outOf; rw [if_neg (fun x => absurd x.2 (by decide)), if_pos ⟨hm, rfl⟩]
  have e2 : p.outOf (p.line i) t 2 = p.now t (word (p.line i) 1) [119] := by
    unfold RP.outOf; rw [if_pos ⟨hm, rfl⟩]
  rw [e1, e2]
  exact ⟨rel_put1 h1 (by rw [ho]; exact opt_ne) ht hr (by decide), rel_put1 h1 (by rw [ho]; exact opt_ne) ht hr (by decide)⟩
theorem out_other {i k : Nat} {t : WS} (hm : ¬ word (p.line i) 0 = wMatch) : p.outOf (p.line i) t k = t := by
  unfold RP.outOf
  rw [if_neg (fun x => hm x.1), if_neg (fun x => hm x.1)]
theorem rel_start : Rel (fun _ => 1) startWS := fun k hk => by
  have : startWS.at k = [45] := by
    unfold WS.at startWS
    simp only [List.getD_eq_getElem?_getD, List.getElem?_replicate, hk, if_true]; rfl
  rw [this]; rfl
theorem bits_zero (s : B) (h : Few s) : bitsOf s = 0 ↔ s = [] := by
  constructor
  · intro e
    cases s with
    | nil => rfl
    | cons c r =>
      exfalso
      have := h.among c (by simp)
      simp only [letters, List.mem_cons, List.not_mem_nil, or_false] at this
      unfold bitsOf at e
      rcases this with rfl | rfl | rfl | rfl
      · rw [if_pos (by simp)] at e; omega
      · rw [if_pos (show (110 : UInt8) ∈ 110 :: r by simp)] at e; omega
      · rw [if_pos (show (119 : UInt8) ∈ 119 :: r by simp)] at e; omega
      · rw [if_pos (show (104 : UInt8) ∈ 104 :: r by simp)] at e; omega
  · intro e; rw [e]; rfl
/-- ways that meet: their bits together -/
theorem bits_or {a b c : B} (h : ∀ x, x ∈ c ↔ x ∈ a ∨ x ∈ b) : bitsOf c = bitsOf a ||| bitsOf b := by
  unfold bitsOf
  simp only [h]
  by_cases h1 : (45 : UInt8) ∈ a <;> by_cases h2 : (119 : UInt8) ∈ a <;> by_cases h3 : (110 : UInt8) ∈ a <;> by_cases h4 : (104 : UInt8) ∈ a <;>
  by_cases g1 : (45 : UInt8) ∈ b <;> by_cases g2 : (119 : UInt8) ∈ b <;> by_cases g3 : (110 : UInt8) ∈ b <;> by_cases g4 : (104 : UInt8) ∈ b <;> simp [h1, h2, h3, h4, g1, g2, g3, g4]
/-- letters of bits -/
def lettersOf (v : Nat) : B := (if v.testBit 0 then [45] else []) ++ (if v.testBit 1 then [119] else []) ++ (if v.testBit 2 then [110] else []) ++ (if v.testBit 3 then [104] else [])
theorem bits_letters : ∀ v, v < 16 → bitsOf (lettersOf v) = v := by decide
theorem few_letters : ∀ v, v < 16 → Few (lettersOf v) := by
  intro v hv
  have : ∀ v, v < 16 → (lettersOf v).Nodup ∧ ∀ c ∈ lettersOf v, c ∈ letters := by decide
  exact ⟨(this v hv).1, (this v hv).2⟩
theorem bits_lt (s : B) : bitsOf s < 16 := by
  unfold bitsOf; repeat' split
  all_goals decide
end
end Go.Proofs.YtmlgajhhnojdjaaGreatDoor.Spec
/- Plain facts: a line as the project keeps it, and as the document's own reader has it: both make the same of a state. -/
namespace Go.Proofs.YtmlgajhhnojdjaaGreatDoor.FlwT
open Go Go.Proofs.YtmlgajhhnojdjaaGreatDoor.Spec Go.Proofs.YtmlgajhhnojdjaaGreatDoor.Aux Go.Proofs.YtmlgajhhnojdjaaGreatDoor.FlwA Go.Proofs.YtmlgajhhnojdjaaGreatDoor.FlwB Go.Proofs.YtmlgajhhnojdjaaGreatDoor.FlwC Go.Proofs.YtmlgajhhnojdjaaGreatDoor.FlwD Go.Proofs.YtmlgajhhnojdjaaGreatDoor.FlwE Go.Proofs.YtmlgajhhnojdjaaGreatDoor.FlwF Go.Proofs.YtmlgajhhnojdjaaGreatDoor.FlwG Go.Proofs.YtmlgajhhnojdjaaGreatDoor.FlwH Go.Proofs.YtmlgajhhnojdjaaGreatDoor.FlwI Go.Proofs.YtmlgajhhnojdjaaGreatDoor.FlwJ Go.Proofs.YtmlgajhhnojdjaaGreatDoor.FlwK Go.Proofs.YtmlgajhhnojdjaaGreatDoor.FlwM Go.Proofs.YtmlgajhhnojdjaaGreatDoor.FlwO Go.Proofs.YtmlgajhhnojdjaaGreatDoor.FlwQ Go.Proofs.YtmlgajhhnojdjaaGreatDoor.FlwS

def toQ (x : PPlace) : Nat × Nat := (x.loc, pidx x.part)
def PFit (x : PPlace) : Prop := x.part = 0 ∨ x.part = 97 ∨ x.part = 98 ∨ x.part = 115
theorem pidx_two {c : UInt8} : pidx c = 2 ↔ c = 98 := by
  unfold pidx
  constructor
  · intro h; split at h
    · omega
    · split at h
      · assumption
      · split at h <;> omega
  · intro h; subst h; rfl
theorem pidx_three {c : UInt8} : pidx c = 3 ↔ c = 115 := by
  unfold pidx
  constructor
  · intro h; split at h
    · omega
    · split at h
      · omega
      · split at h
        · assumption
        · omega
  · intro h; subst h; rfl
theorem pidx_zero {x : PPlace} (h : PFit x) : pidx x.part = 0 ↔ x.part = 0 := by
  rcases h with e | e | e | e <;> rw [e] <;> decide
theorem slot_toQ (x : PPlace) : slotQ (toQ x) = x.slot := by
  unfold slotQ PPlace.slot toQ
  by_cases h : x.part = 98
  · rw [if_pos h, if_pos (pidx_two.mpr h)]
  · rw [if_neg h, if_neg (fun e => h (pidx_two.mp e))]
/-- a state as a list, and as a function -/
structure Ag (s : List Nat) (f : Nat → Nat) : Prop where
  len : s.length = 24
  eq : ∀ k, k < 24 → s.getD k 0 = f k
theorem Ag.self {s : List Nat} (h : s.length = 24) : Ag s (fun k => s.getD k 0) := ⟨h, fun _ _ => rfl⟩
theorem ag_set {s : List Nat} {f : Nat → Nat} (h : Ag s f) (i v : Nat) : Ag (s.set i v) (fun k => if k = i then v else f k) :=
  ⟨by simpa using h.len, fun k hk => by
    rw [getD_set1, h.len]
    by_cases e : i = k
    · rw [if_pos ⟨e, hk⟩, if_pos e.symm]
    · rw [if_neg (fun x => e x.1), if_neg (fun x => e x.symm)]; exact h.eq k hk⟩
theorem ag_put (m : Nat) : ∀ (ps : List PPlace) {s : List Nat} {f : Nat → Nat}, Ag s f → Ag (putL m (ps.map toQ) s) (putP m ps f)
  | [], _, _, h => h
  | x :: ps, s, f, h => by
    have := ag_put m ps (s := s.set (slotQ (toQ x)) m) (f := fun k => if k = x.slot then m else f k) (by rw [slot_toQ]; exact ag_set h _ _)
    exact this
theorem ag_take : ∀ (ps : List PPlace) {s : List Nat} {f : Nat → Nat}, Ag s f → Ag (takeL (ps.map toQ) s) (takeP ps f)
  | [], _, _, h => h
  | x :: ps, s, f, h => by
    have e : (if (toQ x).2 = 3 then 8 else 1) = (if x.part = 115 then 8 else 1 : Nat) := by
      by_cases h3 : x.part = 115
      · rw [if_pos h3, if_pos (show (toQ x).2 = 3 from pidx_three.mpr h3)]
      · rw [if_neg h3, if_neg (show ¬ (toQ x).2 = 3 from fun y => h3 (pidx_three.mp y))]
    have := ag_take ps (s := s.set (slotQ (toQ x)) (if (toQ x).2 = 3 then 8 else 1)) (f := fun k => if k = x.slot then (if x.part = 115 then 8 else 1) else f k) (by rw [slot_toQ, e]; exact ag_set h _ _)
    exact this
theorem ag_lacks (fit : Nat) (ps : List PPlace) (s : List Nat) : lacksL fit (ps.map toQ) s = lacksP fit ps (fun k => s.getD k 0) := by
  unfold lacksL lacksP
  rw [List.any_map]
  congr 1
  funext x
  simp only [Function.comp, slot_toQ, lackB]
/-- the types of the locals, both ways -/
structure TyLink (q : QP) (P : PProg) : Prop where
  pair : ∀ n, q.tyOf n = 2 ↔ P.tyOf n = wPair
  opt : ∀ n, q.tyOf n = 3 ↔ P.tyOf n = wOpt
section
variable {q : QP} {P : PProg}
theorem halves_toQ (h : TyLink q P) {x : PPlace} (hx : PFit x) : QP.halvesQ q (toQ x) = (P.halves x).map toQ := by
  unfold QP.halvesQ PProg.halves
  by_cases hc : x.part = 0 ∧ P.tyOf x.loc = wPair
  · rw [if_pos hc, if_pos ⟨(pidx_zero hx).mpr hc.1, (h.pair _).mpr hc.2⟩]; rfl
  · rw [if_neg hc, if_neg (fun e => hc ⟨(pidx_zero hx).mp e.1, (h.pair _).mp e.2⟩)]; rfl
theorem kind_toQ (h : TyLink q P) {x : PPlace} (hx : PFit x) : q.kindV (toQ x) = 3 ↔ P.kind x = wOpt := by
  unfold QP.kindV PProg.kind toQ
  have hbo : ¬ wBox = wOpt := by decide
  rcases hx with e | e | e | e <;> rw [e] <;> simp only
  · rw [if_neg (by decide), if_neg (by decide)]; exact h.opt _
  · rw [if_pos (by decide), if_pos (by decide)]; exact ⟨fun x => absurd x (by decide), fun x => absurd x hbo⟩
  · rw [if_pos (by decide), if_pos (by decide)]; exact ⟨fun x => absurd x (by decide), fun x => absurd x hbo⟩
  · rw [if_pos (by decide), if_pos (by decide)]; exact ⟨fun x => absurd x (by decide), fun x => absurd x hbo⟩
/-- a line, both ways -/
structure LnLink (l : QLine) (m : PLine) : Prop where
  op : l.op < 23
  word : m.op = opWord l.op
  places : l.places = m.places.map toQ
  fit : ∀ j, PFit (m.w j)
theorem LnLink.w {l : QLine} {m : PLine} (h : LnLink l m) (j : Nat) : l.places.getD j (0, 0) = toQ (m.w j) := by
  rw [h.places, PLine.w, List.getD_eq_getElem?_getD, List.getD_eq_getElem?_getD, List.getElem?_map]
  cases m.places[j]? <;> rfl
theorem pass_words : ∀ op : Fin 23, (opWord op.val ∈ ([[115, 101, 116], [105, 110], [97, 100, 100], [115, 117, 98], [109, 117, 108], [100, 105, 118], [110, 101, 119], [108, 111, 97, 100]] : List B) ↔ (isPut op.val = true ∧ ¬ op.val = 14)) ∧ (opWord op.val = [109, 111, 118, 101] ↔ op.val = 12) ∧ (opWord op.val = [110, 111, 110, 101] ↔ op.val = 13) ∧ (opWord op.val = [115, 111, 109, 101] ↔ op.val = 14) ∧ (opWord op.val = [100, 114, 111, 112] ↔ op.val = 15) := by decide
theorem ag_pass (h : TyLink q P) {l : QLine} {m : PLine} (hl : LnLink l m) {s : List Nat} (hs : s.length = 24) : Ag (passQ q l s) (P.pass m (fun k => s.getD k 0)) := by
  obtain ⟨h1, h2, h3, h4, h5⟩ := pass_words ⟨l.op, hl.op⟩
  simp only at h1 h2 h3 h4 h5
  have hself := Ag.self hs
  unfold passQ PProg.pass takeQ
  rw [hl.word, hl.w 0, hl.w 1]
  have one : ∀ x, [toQ x] = [x].map toQ := fun _ => rfl
  by_cases e14 : l.op = 14
  · rw [if_pos (show isPut l.op = true by rw [e14]; rfl), if_neg (show ¬ l.op = 12 by omega), if_pos e14, if_neg (fun x => (h1.mp x).2 e14), if_neg (fun x => by have := h2.mp x; omega), if_neg (fun x => by have := h3.mp x; omega), if_pos (h4.mpr e14), one, one]
    exact ag_put _ _ (ag_take _ hself)
  · by_cases ep : isPut l.op = true
    · have e12 : ¬ l.op = 12 := fun e => by rw [e] at ep; exact absurd ep (by decide)
      rw [if_pos ep, if_neg e12, if_neg e14, if_pos (h1.mpr ⟨ep, e14⟩), one]
      exact ag_put _ _ hself
    · rw [if_neg ep, if_neg (fun x => ep (h1.mp x).1)]
      by_cases e12 : l.op = 12
      · rw [if_pos e12, if_pos e12, if_pos (h2.mpr e12), halves_toQ h (hl.fit 0), halves_toQ h (hl.fit 1)]
        have em : movedL q (toQ (m.w 1)) s = if P.kind (m.w 1) = wOpt then s.getD (m.w 1).slot 0 else 2 := by
          unfold movedL
          rw [slot_toQ]
          by_cases hk : P.kind (m.w 1) = wOpt
          · rw [if_pos hk, if_pos ((kind_toQ h (hl.fit 1)).mpr hk)]
          · rw [if_neg hk, if_neg (fun x => hk ((kind_toQ h (hl.fit 1)).mp x))]
        rw [em]
        exact ag_put _ _ (ag_take _ hself)
      · rw [if_neg e12, if_neg e12, if_neg e14, if_neg (fun x => e12 (h2.mp x))]
        by_cases e13 : l.op = 13
        · rw [if_pos e13, if_pos (h3.mpr e13), one]; exact ag_put _ _ hself
        · rw [if_neg e13, if_neg (fun x => e13 (h3.mp x)), if_neg (fun x => e14 (h4.mp x))]
          by_cases e15 : l.op = 15
          · rw [if_pos e15, if_pos (h5.mpr e15), halves_toQ h (hl.fit 0)]; exact ag_take _ hself
          · rw [if_neg e15, if_neg (fun x => e15 (h5.mp x))]; exact hself
theorem fault_words : ∀ op : Fin 23, (opWord op.val ∈ ([[97, 100, 100], [115, 117, 98], [109, 117, 108], [100, 105, 118]] : List B) ↔ (op.val = 3 ∨ op.val = 4 ∨ op.val = 5 ∨ op.val = 6)) ∧ (opWord op.val ∈ ([[111, 117, 116], [105, 102], [101, 110, 100]] : List B) ↔ (op.val = 8 ∨ op.val = 19 ∨ op.val = 22)) ∧ (opWord op.val = [110, 101, 119] ↔ op.val = 9) ∧
    ((opWord op.val = [108, 111, 97, 100] ∨ opWord op.val = [115, 111, 109, 101]) ↔ (op.val = 10 ∨ op.val = 14)) ∧ (opWord op.val = [115, 116, 111, 114, 101] ↔ op.val = 11) ∧ (opWord op.val = [109, 111, 118, 101] ↔ op.val = 12) ∧ (opWord op.val = [100, 114, 111, 112] ↔ op.val = 15) ∧ (opWord op.val = [109, 97, 116, 99, 104] ↔ op.val = 20) := by decide
theorem shut_toQ (x : PPlace) (s : List Nat) : shutL (toQ x) s = shutP x (fun k => s.getD k 0) := by
  unfold shutL shutP
  have : ((toQ x).2 == 3) = (x.part == 115) := by
    rw [Bool.eq_iff_iff, beq_iff_eq, beq_iff_eq]; exact pidx_three
  rw [this]
  congr 1
  exact ag_lacks 10 [x] s
theorem stuck_toQ (h : TyLink q P) {x : PPlace} (hx : PFit x) (s : List Nat) : stuckL q (toQ x) s = P.stuck x (fun k => s.getD k 0) := by
  unfold stuckL PProg.stuck
  by_cases hk : P.kind x = wOpt
  · rw [if_pos hk, if_pos ((kind_toQ h hx).mpr hk)]; exact ag_lacks 6 [x] s
  · rw [if_neg hk, if_neg (fun y => hk ((kind_toQ h hx).mp y)), halves_toQ h hx]; exact ag_lacks 2 _ s
theorem ite_iff {α : Type} {a b : Prop} [Decidable a] [Decidable b] (h : a ↔ b) {x y x' y' : α} (hx : x = x') (hy : y = y') : (if b then x else y) = (if a then x' else y') := by
  subst hx hy
  by_cases hb : b
  · rw [if_pos hb, if_pos (h.mpr hb)]
  · rw [if_neg hb, if_neg (fun e => hb (h.mp e))]
theorem eq_faulty (h : TyLink q P) {l : QLine} {m : PLine} (hl : LnLink l m) (s : List Nat) : faultyQ q l s = P.faulty m (fun k => s.getD k 0) := by
  obtain ⟨h1, h2, h3, h4, h5, h6, h7, h8⟩ := fault_words ⟨l.op, hl.op⟩
  simp only at h1 h2 h3 h4 h5 h6 h7 h8
  unfold faultyQ PProg.faulty QLine.at
  rw [hl.word, hl.w 0, hl.w 1, hl.w 2]
  refine ite_iff h1 (ag_lacks 2 [_, _] s) (ite_iff h2 (ag_lacks 2 [_] s) (ite_iff h3 ?_ (ite_iff h4 (ag_lacks 2 [_] s) (ite_iff h5 (ag_lacks 2 [_, _] s) (ite_iff h6 ?_ (ite_iff h7 (shut_toQ _ s) (ite_iff h8 (ag_lacks 6 [_] s) rfl)))))))
  · rw [shut_toQ]; congr 1; exact ag_lacks 2 [_] s
  · rw [shut_toQ, stuck_toQ h (hl.fit 1)]
end
end Go.Proofs.YtmlgajhhnojdjaaGreatDoor.FlwT
/- Plain facts: in which block of the project's program a line stands. -/
namespace Go.Proofs.YtmlgajhhnojdjaaGreatDoor.FlwU
open Go Go.Proofs.YtmlgajhhnojdjaaGreatDoor.Spec

/-- every line stands in the block that was begun last ahead of it: c counts them -/
def InBlk (c : Nat → Nat) (q : QP) : Prop := ∀ j, ∀ l ∈ q.blocks.getD j [], c l.num = j + 1
theorem inBlk_empty (c : Nat → Nat) : InBlk c QP.empty := fun j l hl => by simp [QP.empty] at hl
theorem addBlock_in {c : Nat → Nat} {q : QP} (h : InBlk c q) : InBlk c q.addBlock := fun j l hl => by
  by_cases hj : j < q.blocks.length
  · have : q.addBlock.blocks.getD j [] = q.blocks.getD j [] := by simp [QP.addBlock, List.getD_eq_getElem?_getD, List.getElem?_append, hj]
    rw [this] at hl; exact h j l hl
  · have : q.addBlock.blocks.getD j [] = [] := by
      simp only [QP.addBlock, List.getD_eq_getElem?_getD, List.getElem?_append, if_neg hj]
      cases h2 : j - q.blocks.length with
      | zero => rfl
      | succ n => rfl
    rw [this] at hl; cases hl
theorem addLine_in {c : Nat → Nat} {q : QP} (h : InBlk c q) {l : QLine} {n : Nat} (hn : q.blocks.length = n + 1) (hc : c l.num = n + 1) : InBlk c (q.addLine l) ∧ (q.addLine l).blocks.length = n + 1 := by
  have hne : q.blocks ≠ [] := by intro e; rw [e] at hn; simp at hn
  have hD : q.blocks.dropLast.length = n := by simp [hn]
  have hg : q.blocks.getLastD [] = q.blocks.getD n [] := by
    rw [List.getLastD_eq_getLast?, List.getLast?_eq_getElem?, hn, List.getD_eq_getElem?_getD]; rfl
  refine ⟨fun j x hx => ?_, by simp [QP.addLine, hD]⟩
  by_cases hj : j < n
  · have : (q.addLine l).blocks.getD j [] = q.blocks.getD j [] := by
      simp only [QP.addLine, List.getD_eq_getElem?_getD]
      rw [List.getElem?_append_left (by omega), List.getElem?_dropLast, if_pos (by omega)]
    rw [this] at hx; exact h j x hx
  · by_cases e : j = n
    · subst e
      have : (q.addLine l).blocks.getD j [] = q.blocks.getD j [] ++ [l] := by
        simp only [QP.addLine, List.getD_eq_getElem?_getD]
        rw [List.getElem?_append_right (by omega), hD, Nat.sub_self]
        simp only [List.getElem?_cons_zero, Option.getD_some]
        rw [hg, List.getD_eq_getElem?_getD]
      rw [this] at hx
      rcases List.mem_append.mp hx with hx | hx
      · exact h j x hx
      · rw [List.mem_singleton.mp hx]; exact hc
    · have : (q.addLine l).blocks.getD j [] = [] := by
        rw [List.getD_eq_getElem?_getD, List.getElem?_eq_none (by simp [QP.addLine, hD]; omega)]; rfl
      rw [this] at hx; cases hx
theorem look_in (c : Nat → Nat) (nb : Nat) : ∀ (S : List (Nat × List B)) (i : Nat) (q0 q : QP), lookGo nb S i q0 = (q, none) →
    (∀ k x, S[k]? = some x → c (i + k + 1) = c (i + k) + (if x.1 = 1 then 1 else 0)) → (∀ k x, S[k]? = some x → ¬ x.1 = 0 → ¬ x.1 = 1 → 1 ≤ c (i + k)) → q0.blocks.length = c i → InBlk c q0 → InBlk c q
  | [], i, q0, q, h, _, _, _, hI => by simp only [lookGo, Prod.mk.injEq, and_true] at h; rw [← h]; exact hI
  | x :: S, i, q0, q, h, hc, hp, hl, hI => by
    have h0 := hc 0 x rfl
    have hc' : ∀ k y, S[k]? = some y → c (i + 1 + k + 1) = c (i + 1 + k) + (if y.1 = 1 then 1 else 0) := fun k y hy => by
      have := hc (k + 1) y (by simpa using hy)
      rw [show i + 1 + k = i + (k + 1) by omega]; exact this
    have hp' : ∀ k y, S[k]? = some y → ¬ y.1 = 0 → ¬ y.1 = 1 → 1 ≤ c (i + 1 + k) := fun k y hy => by
      have := hp (k + 1) y (by simpa using hy)
      rw [show i + 1 + k = i + (k + 1) by omega]; exact this
    rw [lookGo] at h
    simp only [Nat.add_zero] at h0
    by_cases e0 : x.1 = 0
    · rw [if_pos e0] at h
      rw [if_neg (by omega)] at h0
      split at h
      · simp at h
      · exact look_in c nb S (i + 1) _ q h hc' hp' (by simpa [QP.addLocal] using hl.trans (by omega)) hI
    · rw [if_neg e0] at h
      by_cases e1 : x.1 = 1
      · rw [if_pos e1] at h
        rw [if_pos e1] at h0
        exact look_in c nb S (i + 1) _ q h hc' hp' (by simp [QP.addBlock]; omega) (addBlock_in hI)
      · rw [if_neg e1] at h
        rw [if_neg e1] at h0
        have h1 := hp 0 x rfl e0 e1
        simp only [Nat.add_zero] at h1
        split at h
        · simp at h
        · rename_i l _
          obtain ⟨a1, a2⟩ := addLine_in (l := { l with num := i }) hI (n := c i - 1) (by omega) (by show c i = _; omega)
          exact look_in c nb S (i + 1) _ q h hc' hp' (by rw [a2]; omega) a1
/-- blocks, told by their lines alone -/
theorem flat_filter {α : Type} (g : α → Nat) : ∀ (L : List (List α)) (d j : Nat), (∀ j, ∀ l ∈ L.getD j [], g l = d + j) → L.getD j [] = L.flatten.filter (fun l => g l == d + j)
  | [], d, j, _ => by simp
  | b :: L, d, j, h => by
    have hb : ∀ l ∈ b, g l = d := fun l hl => by simpa using h 0 l (by simpa using hl)
    have hL : ∀ j, ∀ l ∈ L.getD j [], g l = d + 1 + j := fun j l hl => by
      have := h (j + 1) l (by simpa using hl)
      omega
    rw [List.flatten_cons, List.filter_append]
    cases j with
    | zero =>
      have e1 : b.filter (fun l => g l == d + 0) = b := List.filter_eq_self.mpr fun l hl => by simp [hb l hl]
      have e2 : L.flatten.filter (fun l => g l == d + 0) = [] := List.filter_eq_nil_iff.mpr fun l hl => by
        obtain ⟨c, hc, hlc⟩ := List.mem_flatten.mp hl
        obtain ⟨k, hk, rfl⟩ := List.getElem_of_mem hc
        have := hL k l (by simpa [hk] using hlc)
        simp; omega
      rw [e1, e2]; simp
    | succ j =>
      have e1 : b.filter (fun l => g l == d + (j + 1)) = [] := List.filter_eq_nil_iff.mpr fun l hl => by simp [hb l hl]
      have := flat_filter g L (d + 1) j hL
      rw [e1, List.nil_append, List.getD_cons_succ, this]
      congr 1
      funext l
      rw [show d + 1 + j = d + (j + 1) by omega]
end Go.Proofs.YtmlgajhhnojdjaaGreatDoor.FlwU
