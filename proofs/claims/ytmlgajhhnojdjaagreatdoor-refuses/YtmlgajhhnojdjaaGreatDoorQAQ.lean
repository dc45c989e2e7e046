/- Plain definitions: a program as the project's packages keep it; what its flow makes of a state, as bits; and that both are one. -/
import Derived.Test.YtmlgajhhnojdjaaGreatDoorQAP
namespace Go.Proofs.YtmlgajhhnojdjaaGreatDoor.Spec
open Go Go.Proofs.YtmlgajhhnojdjaaGreatDoor.Aux Go.Proofs.YtmlgajhhnojdjaaGreatDoor.RefS Go.Proofs.YtmlgajhhnojdjaaGreatDoor.RefT

structure PPlace where
  loc : Nat
  part : UInt8
instance : Inhabited PPlace := ⟨⟨0, 0⟩⟩
def PPlace.slot (x : PPlace) : Nat := if x.part = 98 then 2 * x.loc + 1 else 2 * x.loc
structure PLine where
  num : Nat
  op : B
  places : List PPlace
  number : Int
  next : List Nat
def PLine.w (l : PLine) (j : Nat) : PPlace := l.places.getD j default
structure PProg where
  locals : List (B × B)
  blocks : List (List PLine)
def PProg.tyOf (q : PProg) (n : Nat) : B := (q.locals.getD n ([], [])).2
def PProg.kind (q : PProg) (x : PPlace) : B := if x.part = 97 ∨ x.part = 98 ∨ x.part = 115 then wBox else q.tyOf x.loc
def PProg.halves (q : PProg) (x : PPlace) : List PPlace := if x.part = 0 ∧ q.tyOf x.loc = wPair then [⟨x.loc, 97⟩, ⟨x.loc, 98⟩] else [x]

/-- of a program that was read: its lines as the project keeps them -/
def isPlaceKind (c : UInt8) : Bool := c == 105 || c == 111 || c == 112 || c == 109 || c == 100
def RP.placeOf (p : RP) (w : B) : PPlace := ⟨(p.find (localOf w)).toNat, partOf w⟩
def RP.placesOf (p : RP) : B → List B → List PPlace
  | [], _ => []
  | c :: f, ws => if isPlaceKind c then p.placeOf (word ws 0) :: RP.placesOf p f (ws.drop 1) else RP.placesOf p f (ws.drop 1)
def nextOf : B → List B → List Nat
  | [], _ => []
  | c :: f, ws => if c = 78 then ((number (word ws 0)).getD 0).toNat :: nextOf f (ws.drop 1) else nextOf f (ws.drop 1)
def numOf : B → List B → Int
  | [], _ => 0
  | c :: f, ws => if c = 110 then (number (word ws 0)).getD 0 else numOf f (ws.drop 1)
def RP.pline (p : RP) (i : Nat) : PLine := ⟨i, word (p.line i) 0, p.placesOf (behind (word (p.line i) 0) p.raw).1 ((p.line i).drop 1), numOf (behind (word (p.line i) 0) p.raw).1 ((p.line i).drop 1), nextOf (behind (word (p.line i) 0) p.raw).1 ((p.line i).drop 1)⟩
def RP.localsOf (p : RP) : List (B × B) := p.lets.map fun j => (word (p.line j) 1, word (p.line j) 2)
/-- the lines of the body behind line b -/
def RP.bodyOf (p : RP) (b : Nat) : List PLine := (((List.range p.lines.length).drop (b + 1)).takeWhile fun j => !isBlock (p.line j)).map p.pline
def RP.toPP (p : RP) : PProg := ⟨p.localsOf, p.blocks.map p.bodyOf⟩

/-- states as bits: gone 1, there 2, nothing 4, hollow 8 -/
def bitsOf (s : B) : Nat := (if 45 ∈ s then 1 else 0) + (if 119 ∈ s then 2 else 0) + (if 110 ∈ s then 4 else 0) + (if 104 ∈ s then 8 else 0)
def putP (may : Nat) (ps : List PPlace) (s : Nat → Nat) : Nat → Nat := ps.foldl (fun s x k => if k = x.slot then may else s k) s
def takeP (ps : List PPlace) (s : Nat → Nat) : Nat → Nat := ps.foldl (fun s x k => if k = x.slot then (if x.part = 115 then 8 else 1) else s k) s
def lacksP (fit : Nat) (ps : List PPlace) (s : Nat → Nat) : Bool := ps.any fun x => !(s x.slot &&& (15 - fit) == 0)
def PProg.pass (q : PProg) (l : PLine) (s : Nat → Nat) : Nat → Nat :=
  if l.op ∈ ([[115, 101, 116], [105, 110], [97, 100, 100], [115, 117, 98], [109, 117, 108], [100, 105, 118], [110, 101, 119], [108, 111, 97, 100]] : List B) then putP 2 [l.w 0] s
  else if l.op = [109, 111, 118, 101] then putP (if q.kind (l.w 1) = wOpt then s (l.w 1).slot else 2) (q.halves (l.w 0)) (takeP (q.halves (l.w 1)) s)
  else if l.op = [110, 111, 110, 101] then putP 4 [l.w 0] s
  else if l.op = [115, 111, 109, 101] then putP 2 [l.w 0] (takeP [l.w 1] s)
  else if l.op = [100, 114, 111, 112] then takeP (q.halves (l.w 0)) s
  else s
def shutP (x : PPlace) (s : Nat → Nat) : Bool := x.part == 115 && lacksP 10 [x] s
def PProg.stuck (q : PProg) (x : PPlace) (s : Nat → Nat) : Bool := if q.kind x = wOpt then lacksP 6 [x] s else lacksP 2 (q.halves x) s
def PProg.faulty (q : PProg) (l : PLine) (s : Nat → Nat) : Bool :=
  if l.op ∈ ([[97, 100, 100], [115, 117, 98], [109, 117, 108], [100, 105, 118]] : List B) then lacksP 2 [l.w 1, l.w 2] s
  else if l.op ∈ ([[111, 117, 116], [105, 102], [101, 110, 100]] : List B) then lacksP 2 [l.w 0] s
  else if l.op = [110, 101, 119] then lacksP 2 [l.w 1] s || shutP (l.w 0) s
  else if l.op = [108, 111, 97, 100] ∨ l.op = [115, 111, 109, 101] then lacksP 2 [l.w 1] s
  else if l.op = [115, 116, 111, 114, 101] then lacksP 2 [l.w 0, l.w 1] s
  else if l.op = [109, 111, 118, 101] then q.stuck (l.w 1) s || shutP (l.w 0) s
  else if l.op = [100, 114, 111, 112] then shutP (l.w 0) s
  else if l.op = [109, 97, 116, 99, 104] then lacksP 6 [l.w 0] s
  else false

def Rel (s : Nat → Nat) (t : WS) : Prop := ∀ k, k < 24 → s k = bitsOf (t.at k)
theorem putP_at (may : Nat) : ∀ (ps : List PPlace) (s : Nat → Nat) (k : Nat), putP may ps s k = if k ∈ ps.map PPlace.slot then may else s k
  | [], s, k => rfl
  | x :: ps, s, k => by
    have := putP_at may ps (fun j => if j = x.slot then may else s j) k
    unfold putP at this ⊢
    rw [List.foldl_cons, this]
    by_cases h1 : k ∈ ps.map PPlace.slot
    · rw [if_pos h1, if_pos (by simp at h1 ⊢; exact .inr h1)]
    · rw [if_neg h1]
      by_cases h2 : k = x.slot
      · rw [if_pos h2, if_pos (by simp [h2])]
      · rw [if_neg h2, if_neg (by simp at h1 ⊢; exact ⟨h2, h1⟩)]
theorem takeP_at (v : Nat) : ∀ (ps : List PPlace) (_ : ∀ x ∈ ps, (if x.part = 115 then 8 else 1) = v) (s : Nat → Nat) (k : Nat), takeP ps s k = if k ∈ ps.map PPlace.slot then v else s k
  | [], _, s, k => rfl
  | x :: ps, hv, s, k => by
    have := takeP_at v ps (fun y hy => hv y (by simp [hy])) (fun j => if j = x.slot then (if x.part = 115 then 8 else 1) else s j) k
    unfold takeP at this ⊢
    rw [List.foldl_cons, this]
    by_cases h1 : k ∈ ps.map PPlace.slot
    · rw [if_pos h1, if_pos (by simp at h1 ⊢; exact .inr h1)]
    · rw [if_neg h1]
      by_cases h2 : k = x.slot
      · rw [if_pos h2, hv x (List.mem_cons_self ..)]
        exact (if_pos (by rw [List.map_cons, h2]; exact List.mem_cons_self ..)).symm
      · rw [if_neg h2, if_neg (by simp at h1 ⊢; exact ⟨h2, h1⟩)]
section
variable {p : RP}
theorem tyOf_eq {w : B} (h : 0 ≤ p.find (localOf w)) : p.toPP.tyOf (p.placeOf w).loc = p.typeW w := by
  obtain ⟨j, hj, hjl, -⟩ := RP.find_lt h
  unfold PProg.tyOf RP.toPP RP.localsOf RP.placeOf RP.typeW
  simp only
  rw [hj, Int.toNat_natCast]
  simp [hjl]
theorem slot_eq (w : B) : (p.placeOf w).slot = (p.spots w).1 := by
  unfold PPlace.slot RP.placeOf RP.spots
  simp only
  split
  · rfl
  · split <;> rfl
/-- the parts that a place can have -/
def partFit (w : B) : Prop := partOf w = 0 ∨ partOf w = 97 ∨ partOf w = 98 ∨ partOf w = 115
theorem pair_iff {w : B} (h : 0 ≤ p.find (localOf w)) (hp : partFit w) : p.typeOf w = wPair ↔ (p.placeOf w).part = 0 ∧ p.toPP.tyOf (p.placeOf w).loc = wPair := by
  rw [tyOf_eq h]
  unfold RP.typeOf RP.placeOf
  simp only
  have hbox : ¬ wBox = wPair := by decide
  have hnil : ¬ ([] : B) = wPair := by decide
  have hh : ∀ t u : B, ¬ (if t = u then wBox else []) = wPair := fun t u => by split; exact hbox; exact hnil
  rcases hp with e | e | e | e
  · rw [e, if_neg (by decide), if_neg (by decide)]; exact ⟨fun h => ⟨rfl, h⟩, fun h => h.2⟩
  · rw [e, if_pos (.inl rfl)]; exact ⟨fun h => absurd h (hh _ _), fun h => absurd h.1 (by decide)⟩
  · rw [e, if_pos (.inr rfl)]; exact ⟨fun h => absurd h (hh _ _), fun h => absurd h.1 (by decide)⟩
  · rw [e, if_neg (by decide), if_pos rfl]; exact ⟨fun h => absurd h (hh _ _), fun h => absurd h.1 (by decide)⟩
theorem spots_one {w : B} (ht : ¬ p.typeOf w = wPair) : (p.spots w).2 = 1 := by
  unfold RP.spots
  by_cases h : partOf w = 98
  · rw [if_pos h]
  · rw [if_neg h, if_neg ht]
theorem halves_slots {w : B} (h : 0 ≤ p.find (localOf w)) (hp : partFit w) (k : Nat) : k ∈ (p.toPP.halves (p.placeOf w)).map PPlace.slot ↔ p.isSpot w k = true := by
  have hpi := pair_iff h hp
  unfold PProg.halves RP.isSpot
  by_cases hc : (p.placeOf w).part = 0 ∧ p.toPP.tyOf (p.placeOf w).loc = wPair
  · rw [if_pos hc]
    have ht := hpi.mpr hc
    have hpart : partOf w = 0 := hc.1
    have hs : p.spots w = (2 * (p.find (localOf w)).toNat, 2) := by
      unfold RP.spots; rw [if_neg (by rw [hpart]; decide), if_pos ht]
    rw [hs]
    have hl : (p.placeOf w).loc = (p.find (localOf w)).toNat := rfl
    simp [PPlace.slot, hl]; omega
  · rw [if_neg hc]
    have ht : ¬ p.typeOf w = wPair := fun e => hc (hpi.mp e)
    have hs : (p.spots w).2 = 1 := spots_one ht
    rw [hs, List.map_cons, List.map_nil, List.mem_singleton, slot_eq]
    simp; omega
theorem one_slot {w : B} (ht : ¬ p.typeOf w = wPair) (k : Nat) : k ∈ [p.placeOf w].map PPlace.slot ↔ p.isSpot w k = true := by
  have hs : (p.spots w).2 = 1 := spots_one ht
  unfold RP.isSpot
  rw [hs, List.map_cons, List.map_nil, List.mem_singleton, slot_eq]
  simp; omega
theorem rel_put {ps : List PPlace} {w : B} (hps : ∀ k, k ∈ ps.map PPlace.slot ↔ p.isSpot w k = true) {s : Nat → Nat} {t : WS} (ht : t.spots.length = 24) (hf : p.fits w) (h : Rel s t) {may : Nat} {c : B} (hc : bitsOf c = may) : Rel (putP may ps s) (p.now t w c) := by
  intro k hk
  rw [putP_at, p.now_at ht hf]
  by_cases hx : p.isSpot w k = true
  · rw [if_pos ((hps k).mpr hx), if_pos hx, hc]
  · rw [if_neg (fun e => hx ((hps k).mp e)), if_neg hx]; exact h k hk
theorem left_bits (w : B) : bitsOf (left w) = if partOf w = 115 then 8 else 1 := by
  unfold left; split <;> decide
theorem rel_take {ps : List PPlace} {w : B} (hps : ∀ k, k ∈ ps.map PPlace.slot ↔ p.isSpot w k = true) (hv : ∀ x ∈ ps, (if x.part = 115 then 8 else 1) = if partOf w = 115 then 8 else 1) {s : Nat → Nat} {t : WS} (ht : t.spots.length = 24) (hf : p.fits w) (h : Rel s t) : Rel (takeP ps s) (p.now t w (left w)) := by
  intro k hk
  rw [takeP_at _ ps hv, p.now_at ht hf]
  by_cases hx : p.isSpot w k = true
  · rw [if_pos ((hps k).mpr hx), if_pos hx, left_bits]
  · rw [if_neg (fun e => hx ((hps k).mp e)), if_neg hx]; exact h k hk
theorem halves_part {w : B} : ∀ x ∈ p.toPP.halves (p.placeOf w), (if x.part = 115 then 8 else 1) = if partOf w = 115 then (8 : Nat) else 1 := by
  intro x hx
  unfold PProg.halves at hx
  split at hx
  · rename_i hc
    have hpart : partOf w = 0 := hc.1
    rw [hpart]
    simp only [List.mem_cons, List.not_mem_nil, or_false] at hx
    rcases hx with rfl | rfl <;> rfl
  · rw [List.mem_singleton] at hx; subst hx; rfl
end
end Go.Proofs.YtmlgajhhnojdjaaGreatDoor.Spec
/- Plain facts: what the flow makes of a line, as bits, is what the document's own ways make of it. -/
namespace Go.Proofs.YtmlgajhhnojdjaaGreatDoor.Spec
open Go Go.Proofs.YtmlgajhhnojdjaaGreatDoor.Aux Go.Proofs.YtmlgajhhnojdjaaGreatDoor.RefS Go.Proofs.YtmlgajhhnojdjaaGreatDoor.RefT

theorem word_dropN (ws : List B) (n k : Nat) : word (ws.drop n) k = word ws (n + k) := by simp [word, List.getD_eq_getElem?_getD]
theorem isName_part {w : B} (h : isName w = true) : partOf w = 0 := by
  unfold partOf
  have : dotted w = false := by
    cases hd : dotted w
    · rfl
    · exfalso
      simp only [dotted, Bool.and_eq_true, decide_eq_true_eq, beq_iff_eq] at hd
      obtain ⟨h1, h2⟩ := hd
      have hm : (46 : UInt8) ∈ w := List.mem_of_getElem? h2
      simp only [isName, Bool.and_eq_true, List.all_eq_true] at h
      have := h.1.1 46 hm
      exact absurd this (by decide)
  rw [this]; rfl
theorem isPlace_part {w : B} (h : isPlace w = true) : partFit w := by
  simp only [isPlace, Bool.and_eq_true, Bool.or_eq_true, decide_eq_true_eq, beq_iff_eq] at h
  obtain ⟨h1, ((h2 | h2) | h2) | h2⟩ := h
  · rw [h2] at h1; exact .inl (isName_part h1)
  · exact .inr (.inl h2)
  · exact .inr (.inr (.inl h2))
  · exact .inr (.inr (.inr h2))
theorem typesGo_at (p : RP) (w1 : B) : ∀ (f : B) (ws : List B) (k : Nat) (hk : k < f.length), p.typesGo w1 f ws = true → p.typeOk f[k] (word ws k) w1 = true := by
  intro f
  induction f with
  | nil => intro ws k hk; simp at hk
  | cons c f ih =>
    intro ws k hk h
    rw [RP.typesGo, Bool.and_eq_true] at h
    cases k with
    | zero => exact h.1
    | succ k =>
      have := ih (ws.drop 1) k (by simpa using hk) h.2
      rw [word_drop] at this
      simpa using this
/-- a word that names a place that is there -/
structure PlaceOk (p : RP) (w : B) : Prop where
  find : 0 ≤ p.find (localOf w)
  part : partFit w
  fits : p.fits w
  type : ¬ p.typeOf w = []
section
variable {text : B} {raw : Bool} {p : RP}
theorem ReadOk.place (h : ReadOk text raw p) {i : Nat} (hb : p.body i) {f : B} (hf : (behind (word (p.line i) 0) p.raw).1 = f) (k : Nat) (hk : k < f.length) (hc : isPlaceKind f[k] = true) : PlaceOk p (word (p.line i) (k + 1)) ∧ p.typeOk f[k] (word (p.line i) (k + 1)) (word (p.line i) 1) = true := by
  subst hf
  have hl : ¬ word (p.line i) 0 = wLet := by have := hb.2.1; simpa [isLet] using this
  have hbl : ¬ word (p.line i) 0 = wBlock := by have := hb.2.2; simpa [isBlock] using this
  simp only [isPlaceKind, Bool.or_eq_true, beq_iff_eq] at hc
  have hfd := RP.names_find (h.names i hb.1) hl k hk (by simp only [List.mem_cons, List.not_mem_nil, or_false]; rcases hc with (((hc | hc) | hc) | hc) | hc <;> simp [hc])
  have hw := lineForm_word (h.pre.form i hb.1) hl k hk
  have ht : p.typeOk (behind (word (p.line i) 0) p.raw).1[k] (word (p.line i) (k + 1)) (word (p.line i) 1) = true := by
    have := h.types i hb.1
    simp only [RP.typesOk, Bool.or_eq_true, beq_iff_eq] at this
    rcases this with (e | e) | e
    · exact absurd e hl
    · exact absurd e hbl
    · have := typesGo_at p _ _ _ k hk e
      rwa [word_drop] at this
  refine ⟨⟨hfd, ?_, RP.fits_of hfd h.pre.twelve, ?_⟩, ht⟩
  · rcases hc with (((hc | hc) | hc) | hc) | hc
    · rw [hc, wordOf, if_pos (.inl rfl)] at hw; exact .inl (isName_part hw)
    · rw [hc, wordOf, if_pos (.inr rfl)] at hw; exact .inl (isName_part hw)
    · rw [hc, wordOf, if_neg (by decide), if_pos (.inl rfl)] at hw; exact isPlace_part hw
    · rw [hc, wordOf, if_neg (by decide), if_pos (.inr (.inl rfl))] at hw; exact isPlace_part hw
    · rw [hc, wordOf, if_neg (by decide), if_pos (.inr (.inr rfl))] at hw; exact isPlace_part hw
  · intro e
    unfold RP.typeOk at ht
    rw [if_neg (by rcases hc with (((hc | hc) | hc) | hc) | hc <;> rw [hc] <;> decide), if_pos e] at ht
    cases ht
theorem typeOk_i {w w1 : B} (h : p.typeOk 105 w w1 = true) : p.typeOf w = wInt := by
  unfold RP.typeOk at h
  rw [if_neg (by decide)] at h
  by_cases e : p.typeOf w = wInt
  · exact e
  · split at h
    · cases h
    · rw [if_pos (.inl ⟨rfl, e⟩)] at h; cases h
theorem typeOk_p {w w1 : B} (h : p.typeOk 112 w w1 = true) : p.typeOf w = wBox := by
  unfold RP.typeOk at h
  rw [if_neg (by decide)] at h
  by_cases e : p.typeOf w = wBox
  · exact e
  · split at h
    · cases h
    · rw [if_pos (.inr (.inl ⟨rfl, e⟩))] at h; cases h
theorem typeOk_o {w w1 : B} (h : p.typeOk 111 w w1 = true) : p.typeOf w = wOpt := by
  unfold RP.typeOk at h
  rw [if_neg (by decide)] at h
  by_cases e : p.typeOf w = wOpt
  · exact e
  · split at h
    · cases h
    · rw [if_pos (.inr (.inr ⟨rfl, e⟩))] at h; cases h
theorem typeOk_m {w w1 : B} (h : p.typeOk 109 w w1 = true) : ¬ p.typeOf w = wInt ∧ p.typeOf w = p.typeOf w1 := by
  unfold RP.typeOk at h
  rw [if_neg (by decide)] at h
  split at h
  · cases h
  · rw [if_neg (by rintro (⟨h, -⟩ | ⟨h, -⟩ | ⟨h, -⟩) <;> exact absurd h (by decide))] at h
    split at h
    · cases h
    · rename_i h1
      refine ⟨fun e => h1 ⟨.inl rfl, e⟩, ?_⟩
      by_cases e : p.typeOf w = p.typeOf w1
      · exact e
      · rw [if_pos ⟨rfl, e⟩] at h; cases h
theorem typeOk_d {w w1 : B} (h : p.typeOk 100 w w1 = true) : ¬ p.typeOf w = wInt := by
  unfold RP.typeOk at h
  rw [if_neg (by decide)] at h
  split at h
  · cases h
  · rw [if_neg (by rintro (⟨h, -⟩ | ⟨h, -⟩ | ⟨h, -⟩) <;> exact absurd h (by decide))] at h
    split at h
    · cases h
    · rename_i h1
      exact fun e => h1 ⟨.inr rfl, e⟩
theorem kindP_eq {w : B} (h : PlaceOk p w) : p.toPP.kind (p.placeOf w) = p.typeOf w := by
  have ht := h.type
  unfold PProg.kind
  rw [tyOf_eq h.find]
  unfold RP.typeOf at ht ⊢
  have e : (p.placeOf w).part = partOf w := rfl
  rw [e]
  rcases h.part with hp | hp | hp | hp
  · rw [hp, if_neg (by decide), if_neg (by decide), if_neg (by decide)]
  · rw [hp, if_pos (.inl rfl)] at ht; rw [hp, if_pos (.inl rfl), if_pos (.inl rfl)]
    split at ht
    · rw [if_pos ‹_›]
    · exact absurd rfl ht
  · rw [hp, if_pos (.inr rfl)] at ht; rw [hp, if_pos (.inr (.inl rfl)), if_pos (.inr rfl)]
    split at ht
    · rw [if_pos ‹_›]
    · exact absurd rfl ht
  · rw [hp, if_neg (by decide), if_pos rfl] at ht; rw [hp, if_pos (.inr (.inr rfl)), if_neg (by decide), if_pos rfl]
    split at ht
    · rw [if_pos ‹_›]
    · exact absurd rfl ht
theorem int_ne : ¬ wInt = wPair := by decide
theorem box_ne : ¬ wBox = wPair := by decide
theorem opt_ne : ¬ wOpt = wPair := by decide

/-- few letters: which ones, as bits -/
theorem only_iff {s : B} (hs : ∀ c ∈ s, c ∈ letters) (t : B) : only s t = true ↔ (45 ∈ s → 45 ∈ t) ∧ (110 ∈ s → 110 ∈ t) ∧ (119 ∈ s → 119 ∈ t) ∧ (104 ∈ s → 104 ∈ t) := by
  simp only [only, has, List.all_eq_true, List.contains_iff_mem]
  refine ⟨fun h => ⟨h 45, h 110, h 119, h 104⟩, fun ⟨h1, h2, h3, h4⟩ c hc => ?_⟩
  have := hs c hc
  simp only [letters, List.mem_cons, List.not_mem_nil, or_false] at this
  rcases this with rfl | rfl | rfl | rfl
  · exact h1 hc
  · exact h2 hc
  · exact h3 hc
  · exact h4 hc
theorem only_w {s : B} (hs : ∀ c ∈ s, c ∈ letters) : (!(bitsOf s &&& (15 - 2) == 0)) = !only s [119] := by
  congr 1
  rw [Bool.eq_iff_iff, only_iff hs]
  unfold bitsOf
  by_cases h1 : (45 : UInt8) ∈ s <;> by_cases h2 : (110 : UInt8) ∈ s <;> by_cases h3 : (119 : UInt8) ∈ s <;> by_cases h4 : (104 : UInt8) ∈ s <;> simp [h1, h2, h3, h4]
theorem only_nw {s : B} (hs : ∀ c ∈ s, c ∈ letters) : (!(bitsOf s &&& (15 - 6) == 0)) = !only s [110, 119] := by
  congr 1
  rw [Bool.eq_iff_iff, only_iff hs]
  unfold bitsOf
  by_cases h1 : (45 : UInt8) ∈ s <;> by_cases h2 : (110 : UInt8) ∈ s <;> by_cases h3 : (119 : UInt8) ∈ s <;> by_cases h4 : (104 : UInt8) ∈ s <;> simp [h1, h2, h3, h4]
theorem only_wh {s : B} (hs : ∀ c ∈ s, c ∈ letters) : (!(bitsOf s &&& (15 - 10) == 0)) = !only s [119, 104] := by
  congr 1
  rw [Bool.eq_iff_iff, only_iff hs]
  unfold bitsOf
  by_cases h1 : (45 : UInt8) ∈ s <;> by_cases h2 : (110 : UInt8) ∈ s <;> by_cases h3 : (119 : UInt8) ∈ s <;> by_cases h4 : (104 : UInt8) ∈ s <;> simp [h1, h2, h3, h4]
end
end Go.Proofs.YtmlgajhhnojdjaaGreatDoor.Spec
/- Plain facts: what the flow makes of a line, as bits, is what the document's own ways make of it; and what it finds wrong. -/
namespace Go.Proofs.YtmlgajhhnojdjaaGreatDoor.Spec
open Go Go.Proofs.YtmlgajhhnojdjaaGreatDoor.Aux Go.Proofs.YtmlgajhhnojdjaaGreatDoor.RefS Go.Proofs.YtmlgajhhnojdjaaGreatDoor.RefT

theorem word_tail (ws : List B) (k : Nat) : word ws.tail k = word ws (k + 1) := by rw [← List.drop_one, word_drop]
section
variable {text : B} {p : RP}
/-- the words of a line whose first word is known -/
theorem pline_places {i : Nat} {f : B} (hf : (behind (word (p.line i) 0) p.raw).1 = f) : (p.pline i).places = p.placesOf f ((p.line i).drop 1) := by
  unfold RP.pline; rw [hf]
theorem w_iii {i : Nat} (hf : (behind (word (p.line i) 0) p.raw).1 = [105, 105, 105]) : (p.pline i).w 0 = p.placeOf (word (p.line i) 1) ∧ (p.pline i).w 1 = p.placeOf (word (p.line i) 2) ∧ (p.pline i).w 2 = p.placeOf (word (p.line i) 3) := by
  unfold PLine.w; rw [pline_places hf]; simp [RP.placesOf, isPlaceKind, word_dropN, word_tail]
theorem w_one {i : Nat} {c : UInt8} {r : B} (hf : (behind (word (p.line i) 0) p.raw).1 = c :: r) (hc : isPlaceKind c = true) : (p.pline i).w 0 = p.placeOf (word (p.line i) 1) := by
  unfold PLine.w; rw [pline_places hf, RP.placesOf, if_pos hc]; simp [word_tail]
theorem w_two {i : Nat} {c d : UInt8} {r : B} (hf : (behind (word (p.line i) 0) p.raw).1 = c :: d :: r) (hc : isPlaceKind c = true) (hd : isPlaceKind d = true) : (p.pline i).w 1 = p.placeOf (word (p.line i) 2) := by
  unfold PLine.w; rw [pline_places hf, RP.placesOf, if_pos hc, RP.placesOf, if_pos hd]; simp [word_dropN]
theorem there_one {s : Nat → Nat} {t : WS} (ht : t.Few) (hr : Rel s t) {w : B} (hw : PlaceOk p w) (hp : ¬ p.typeOf w = wPair) (ho : ¬ p.typeOf w = wOpt) : lacksP 2 [p.placeOf w] s = !p.there t w := by
  have hs := spots_one hp
  have hk : (p.spots w).1 < 24 := by have := hw.fits; unfold RP.fits at this; omega
  unfold lacksP RP.there
  rw [hs, List.any_cons, List.any_nil, Bool.or_false, slot_eq, hr _ hk, only_w (ht.few _).among]
  unfold RP.some
  rw [if_neg ho, thereGo]
  cases only (t.at (p.spots w).1) [119] <;> rfl
theorem there_opt {s : Nat → Nat} {t : WS} (ht : t.Few) (hr : Rel s t) {w : B} (hw : PlaceOk p w) (ho : p.typeOf w = wOpt) : lacksP 6 [p.placeOf w] s = !p.there t w := by
  have hs := spots_one (p := p) (w := w) (by rw [ho]; exact opt_ne)
  have hk : (p.spots w).1 < 24 := by have := hw.fits; unfold RP.fits at this; omega
  unfold lacksP RP.there
  rw [hs, List.any_cons, List.any_nil, Bool.or_false, slot_eq, hr _ hk, only_nw (ht.few _).among]
  unfold RP.some
  rw [if_pos ho, thereGo]
  cases only (t.at (p.spots w).1) [110, 119] <;> rfl
theorem there_pair {s : Nat → Nat} {t : WS} (ht : t.Few) (hr : Rel s t) {w : B} (hw : PlaceOk p w) (ho : p.typeOf w = wPair) : lacksP 2 (p.toPP.halves (p.placeOf w)) s = !p.there t w := by
  have hpi := (pair_iff hw.find hw.part).mp ho
  have hpart : partOf w = 0 := hpi.1
  have hs : p.spots w = (2 * (p.find (localOf w)).toNat, 2) := by
    unfold RP.spots; rw [if_neg (by rw [hpart]; decide), if_pos ho]
  have hf := hw.fits
  unfold RP.fits at hf
  rw [hs] at hf
  unfold PProg.halves
  rw [if_pos hpi]
  unfold lacksP RP.there
  rw [hs]
  have e1 : PPlace.slot ⟨(p.placeOf w).loc, 97⟩ = 2 * (p.find (localOf w)).toNat := rfl
  have e2 : PPlace.slot ⟨(p.placeOf w).loc, 98⟩ = 2 * (p.find (localOf w)).toNat + 1 := rfl
  simp only [List.any_cons, List.any_nil, Bool.or_false, e1, e2]
  rw [hr _ (by omega), hr _ (by omega), only_w (ht.few _).among, only_w (ht.few _).among]
  unfold RP.some
  rw [if_neg (by rw [ho]; decide), thereGo, thereGo, thereGo]
  cases only (t.at (2 * (p.find (localOf w)).toNat)) [119] <;> cases only (t.at (2 * (p.find (localOf w)).toNat + 1)) [119] <;> rfl
theorem shut_eq {s : Nat → Nat} {t : WS} (ht : t.Few) (hr : Rel s t) {w : B} (hw : PlaceOk p w) : shutP (p.placeOf w) s = !writable p t w := by
  have hb := (RP.spots_bound (p := p) (w := w) (RP.find_lt hw.find).choose_spec.1).2
  have hk : (p.spots w).1 < 24 := by have := hw.fits; unfold RP.fits at this; omega
  unfold shutP writable lacksP
  rw [List.any_cons, List.any_nil, Bool.or_false, slot_eq, hr _ hk, only_wh (ht.few _).among]
  show (partOf w == 115 && _) = _
  cases partOf w == 115 <;> cases only (t.at (p.spots w).1) [119, 104] <;> rfl
/-- move: what must be there -/
theorem stuck_eq {s : Nat → Nat} {t : WS} (ht : t.Few) (hr : Rel s t) {w : B} (hw : PlaceOk p w) : p.toPP.stuck (p.placeOf w) s = !p.there t w := by
  unfold PProg.stuck
  rw [kindP_eq hw]
  by_cases ho : p.typeOf w = wOpt
  · rw [if_pos ho]; exact there_opt ht hr hw ho
  · rw [if_neg ho]
    by_cases hp : p.typeOf w = wPair
    · exact there_pair ht hr hw hp
    · have : p.toPP.halves (p.placeOf w) = [p.placeOf w] := by
        unfold PProg.halves; rw [if_neg (fun e => hp ((pair_iff hw.find hw.part).mpr e))]
      rw [this]; exact there_one ht hr hw hp ho
end
end Go.Proofs.YtmlgajhhnojdjaaGreatDoor.Spec
/- Plain facts: what the flow makes of any line, as bits, and what it finds wrong, is as in the document's own ways. -/
namespace Go.Proofs.YtmlgajhhnojdjaaGreatDoor.Spec
open Go Go.Proofs.YtmlgajhhnojdjaaGreatDoor.Aux Go.Proofs.YtmlgajhhnojdjaaGreatDoor.RefS Go.Proofs.YtmlgajhhnojdjaaGreatDoor.RefT

section
variable {text : B} {p : RP}
theorem rel_put1 {w : B} (hw : PlaceOk p w) (hp : ¬ p.typeOf w = wPair) {s : Nat → Nat} {t : WS} (ht : t.spots.length = 24) (h : Rel s t) {may : Nat} {c : B} (hc : bitsOf c = may) : Rel (putP may [p.placeOf w] s) (p.now t w c) := rel_put (one_slot hp) ht hw.fits h hc
theorem rel_putH {w : B} (hw : PlaceOk p w) {s : Nat → Nat} {t : WS} (ht : t.spots.length = 24) (h : Rel s t) {may : Nat} {c : B} (hc : bitsOf c = may) : Rel (putP may (p.toPP.halves (p.placeOf w)) s) (p.now t w c) := rel_put (halves_slots hw.find hw.part) ht hw.fits h hc
theorem rel_takeH {w : B} (hw : PlaceOk p w) {s : Nat → Nat} {t : WS} (ht : t.spots.length = 24) (h : Rel s t) : Rel (takeP (p.toPP.halves (p.placeOf w)) s) (p.now t w (left w)) := rel_take (halves_slots hw.find hw.part) halves_part ht hw.fits h
theorem rel_take1 {w : B} (hw : PlaceOk p w) (hp : ¬ p.typeOf w = wPair) {s : Nat → Nat} {t : WS} (ht : t.spots.length = 24) (h : Rel s t) : Rel (takeP [p.placeOf w] s) (p.now t w (left w)) := rel_take (one_slot hp) (fun x hx => by rw [List.mem_singleton] at hx; subst hx; rfl) ht hw.fits h
theorem now_now (t : WS) (ht : t.spots.length = 24) {w : B} (hw : p.fits w) (c d : B) (k : Nat) : (p.now (p.now t w c) w d).at k = (p.now t w d).at k := by
  rw [p.now_at (by rw [p.now_len, ht]) hw, p.now_at ht hw, p.now_at ht hw]
  split <;> rfl
theorem Rel.congr {s : Nat → Nat} {t u : WS} (h : Rel s t) (e : ∀ k, t.at k = u.at k) : Rel s u := fun k hk => by rw [h k hk, e k]
theorem rel_takes {i : Nat} {s : Nat → Nat} {t : WS} (ht : t.spots.length = 24) (h : Rel s t) (h1 : PlaceOk p (word (p.line i) 1)) (h2 : PlaceOk p (word (p.line i) 2)) (hw : word (p.line i) 0 = [109, 111, 118, 101]) (hty : p.typeOf (word (p.line i) 2) = p.typeOf (word (p.line i) 1)) :
    Rel (putP (if p.toPP.kind (p.placeOf (word (p.line i) 2)) = wOpt then s (p.placeOf (word (p.line i) 2)).slot else 2) (p.toPP.halves (p.placeOf (word (p.line i) 1))) (takeP (p.toPP.halves (p.placeOf (word (p.line i) 2))) s)) (RP.takes p (p.line i) t).1 := by
  have hT := rel_takeH h2 ht h
  have hl : (p.now t (word (p.line i) 2) (left (word (p.line i) 2))).spots.length = 24 := by rw [p.now_len, ht]
  have hk : (p.spots (word (p.line i) 2)).1 < 24 := by have := h2.fits; have := (RP.spots_bound (p := p) (w := word (p.line i) 2) (RP.find_lt h2.find).choose_spec.1).2; unfold RP.fits at *; omega
  rw [kindP_eq h2, hty, slot_eq]
  unfold RP.takes RP.taken
  by_cases ho : p.typeOf (word (p.line i) 1) = wOpt
  · rw [if_pos ho]
    have e : word (p.line i) 0 = [109, 111, 118, 101] ∧ p.typeOf (word (p.line i) 1) = [111, 112, 116] := ⟨hw, ho⟩
    simp only [e, and_self, if_true]
    have := rel_putH h1 hl hT (may := s (p.spots (word (p.line i) 2)).1) (c := t.at (p.spots (word (p.line i) 2)).1) (h _ hk).symm
    exact this.congr fun k => (now_now _ hl h1.fits _ _ k).symm
  · rw [if_neg ho]
    have e : ¬ (word (p.line i) 0 = [109, 111, 118, 101] ∧ p.typeOf (word (p.line i) 1) = [111, 112, 116]) := fun x => ho x.2
    simp only [e, if_false]
    exact rel_putH h1 hl hT (by decide)
theorem rel_some {i : Nat} {s : Nat → Nat} {t : WS} (ht : t.spots.length = 24) (h : Rel s t) (h1 : PlaceOk p (word (p.line i) 1)) (h2 : PlaceOk p (word (p.line i) 2)) (hw : word (p.line i) 0 = [115, 111, 109, 101]) (ht1 : p.typeOf (word (p.line i) 1) = wOpt) (ht2 : p.typeOf (word (p.line i) 2) = wBox) :
    Rel (putP 2 [p.placeOf (word (p.line i) 1)] (takeP [p.placeOf (word (p.line i) 2)] s)) (RP.takes p (p.line i) t).1 := by
  have hT := rel_take1 h2 (by rw [ht2]; exact box_ne) ht h
  have hl : (p.now t (word (p.line i) 2) (left (word (p.line i) 2))).spots.length = 24 := by rw [p.now_len, ht]
  unfold RP.takes RP.taken
  have e : ¬ (word (p.line i) 0 = [109, 111, 118, 101] ∧ p.typeOf (word (p.line i) 1) = [111, 112, 116]) := fun x => by have := x.1; rw [hw] at this; exact absurd this (by decide)
  simp only [e, if_false]
  exact rel_put1 h1 (by rw [ht1]; exact opt_ne) hl hT (by decide)

/-- the words that may open a line of a body -/
def bodyWords : List B := [[115, 101, 116], [105, 110], [97, 100, 100], [115, 117, 98], [109, 117, 108], [100, 105, 118], [111, 117, 116], [105, 102], [101, 110, 100], [109, 97, 116, 99, 104], [110, 101, 119], [108, 111, 97, 100], [115, 116, 111, 114, 101], [110, 111, 110, 101], [100, 114, 111, 112], [109, 111, 118, 101], [115, 111, 109, 101], [103, 111, 116, 111]]
theorem body_words (w : B) (h : (behind w false).2 = true) : w ∈ bodyWords := by
  by_cases hn : w ∈ bodyWords
  · exact hn
  · exfalso
    simp only [bodyWords, List.mem_cons, List.not_mem_nil, or_false, not_or] at hn
    obtain ⟨h1, h2, h3, h4, h5, h6, h7, h8, h9, h10, h11, h12, h13, h14, h15, h16, h17, h18⟩ := hn
    unfold behind at h
    simp only [h1, h2, h3, h4, h5, h6, h7, h8, h9, h10, h11, h12, h13, h14, h15, h16, h17, h18, or_self, if_false] at h
    repeat (split at h <;> first | (cases h; done) | skip)
theorem ReadOk.body_word (h : ReadOk text false p) {i : Nat} (hb : p.body i) : word (p.line i) 0 ∈ bodyWords := by
  have hl : ¬ word (p.line i) 0 = wLet := by have := hb.2.1; simpa [isLet] using this
  have hbl : ¬ word (p.line i) 0 = wBlock := by have := hb.2.2; simpa [isBlock] using this
  have := h.pre.form i hb.1
  unfold lineForm at this
  rw [if_neg hl, if_neg hbl, h.raw] at this
  simp only [Bool.and_eq_true] at this
  exact body_words _ this.1.1
theorem takes_ok {i : Nat} {t : WS} (ht : t.Few) (h1 : PlaceOk p (word (p.line i) 1)) (h2 : PlaceOk p (word (p.line i) 2)) (hw : word (p.line i) 0 = [109, 111, 118, 101]) (hty : p.typeOf (word (p.line i) 2) = p.typeOf (word (p.line i) 1)) :
    (RP.takes p (p.line i) t).2 = (p.there t (word (p.line i) 2) && writable p t (word (p.line i) 1)) := by
  have hl2 : (RP.takes p (p.line i) t).2 = (p.there t (word (p.line i) 2) && (writable p (p.now t (word (p.line i) 2) (left (word (p.line i) 2))) (word (p.line i) 1) || (word (p.line i) 0 == [115, 111, 109, 101]))) := rfl
  rw [hl2, hw, show (([109, 111, 118, 101] : B) == [115, 111, 109, 101]) = false by decide, Bool.or_false]
  unfold writable
  by_cases hp1 : partOf (word (p.line i) 1) = 115
  · have e1 : (!(partOf (word (p.line i) 1) == 115)) = false := by rw [hp1]; rfl
    rw [e1, Bool.false_or, Bool.false_or, p.now_at ht.len h2.fits]
    by_cases hx : p.isSpot (word (p.line i) 2) (p.spots (word (p.line i) 1)).1 = true
    · rw [if_pos hx]
      have hty1 : p.typeW (word (p.line i) 1) = wOpt ∧ p.typeOf (word (p.line i) 1) = wBox := by
        have := h1.type
        unfold RP.typeOf at this ⊢
        rw [hp1, if_neg (by decide), if_pos rfl] at this ⊢
        split at this
        · rename_i e; exact ⟨e, by rw [if_pos e]⟩
        · exact absurd rfl this
      have hty2 : p.typeOf (word (p.line i) 2) = wBox := hty.trans hty1.2
      have hs2 := spots_one (p := p) (w := word (p.line i) 2) (by rw [hty2]; exact box_ne)
      have hs1 : (p.spots (word (p.line i) 1)).1 = 2 * (p.find (localOf (word (p.line i) 1))).toNat := by
        unfold RP.spots; rw [if_neg (by rw [hp1]; decide)]; split <;> rfl
      have heq : (p.spots (word (p.line i) 2)).1 = (p.spots (word (p.line i) 1)).1 := by
        unfold RP.isSpot at hx
        rw [hs2] at hx
        simp only [Bool.and_eq_true, decide_eq_true_eq] at hx; omega
      have hp2 : partOf (word (p.line i) 2) = 115 := by
        have hn98 : ¬ partOf (word (p.line i) 2) = 98 := fun e => by
          have : (p.spots (word (p.line i) 2)).1 = 2 * (p.find (localOf (word (p.line i) 2))).toNat + 1 := by unfold RP.spots; rw [if_pos e]
          omega
        have hs2' : (p.spots (word (p.line i) 2)).1 = 2 * (p.find (localOf (word (p.line i) 2))).toNat := by
          unfold RP.spots; rw [if_neg hn98]; split <;> rfl
        have htw : p.typeW (word (p.line i) 2) = wOpt := by
          have : (p.find (localOf (word (p.line i) 2))).toNat = (p.find (localOf (word (p.line i) 1))).toNat := by omega
          rw [← hty1.1]; unfold RP.typeW; rw [this]
        unfold RP.typeOf at hty2
        rw [htw] at hty2
        rcases h2.part with e | e | e | e
        · rw [e, if_neg (by decide), if_neg (by decide)] at hty2; exact absurd hty2 (by decide)
        · rw [e, if_pos (.inl rfl), if_neg opt_ne] at hty2; exact absurd hty2 (by decide)
        · exact absurd e hn98
        · exact e
      have hleft : left (word (p.line i) 2) = [104] := by unfold left; rw [if_pos hp2]
      rw [hleft, show only [104] [119, 104] = true by decide, Bool.and_true]
      cases hth : p.there t (word (p.line i) 2)
      · rfl
      · unfold RP.there RP.some at hth
        rw [hs2, if_neg (by rw [hty2]; decide), thereGo, heq] at hth
        split at hth
        · rename_i ho
          have := (only_iff (ht.few _).among _).mp ho
          rw [(only_iff (ht.few _).among [119, 104]).mpr ⟨fun h => absurd (this.1 h) (by decide), fun h => absurd (this.2.1 h) (by decide), fun _ => by simp, fun h => absurd (this.2.2.2 h) (by decide)⟩]
          rfl
        · cases hth
    · rw [if_neg hx]
  · have e1 : (!(partOf (word (p.line i) 1) == 115)) = true := by simp [hp1]
    rw [e1]; rfl
/-- the flow makes of a line what the document's own ways make of it -/
theorem ReadOk.pass_ok (h : ReadOk text false p) {i : Nat} (hb : p.body i) {s : Nat → Nat} {t : WS} (ht : t.spots.length = 24) (hr : Rel s t) : Rel (p.toPP.pass (p.pline i) s) (p.step (p.line i) t).1 := by
  have hop : (p.pline i).op = word (p.line i) 0 := rfl
  have hm := h.body_word hb
  have H := fun f (hf : (behind (word (p.line i) 0) p.raw).1 = f) k hk hc => h.place hb hf k hk hc
  unfold PProg.pass RP.step
  rw [hop]
  simp only [bodyWords, List.mem_cons, List.not_mem_nil, or_false] at hm
  rcases hm with e | e | e | e | e | e | e | e | e | e | e | e | e | e | e | e | e | e
  · have hf : (behind (word (p.line i) 0) p.raw).1 = [105, 110] := by rw [e]; rfl
    obtain ⟨h1, t1⟩ := H _ hf 0 (by simp) (by rfl)
    rw [w_one hf rfl]
    simp only [e]
    exact rel_put1 h1 (by rw [typeOk_i t1]; exact int_ne) ht hr (by decide)
  · have hf : (behind (word (p.line i) 0) p.raw).1 = [105] := by rw [e]; rfl
    obtain ⟨h1, t1⟩ := H _ hf 0 (by simp) (by rfl)
    rw [w_one hf rfl]
    simp only [e]
    exact rel_put1 h1 (by rw [typeOk_i t1]; exact int_ne) ht hr (by decide)
  · have hf : (behind (word (p.line i) 0) p.raw).1 = [105, 105, 105] := by rw [e]; rfl
    obtain ⟨h1, t1⟩ := H _ hf 0 (by simp) (by rfl)
    rw [w_one hf rfl]
    simp only [e]
    exact rel_put1 h1 (by rw [typeOk_i t1]; exact int_ne) ht hr (by decide)
  · have hf : (behind (word (p.line i) 0) p.raw).1 = [105, 105, 105] := by rw [e]; rfl
    obtain ⟨h1, t1⟩ := H _ hf 0 (by simp) (by rfl)
    rw [w_one hf rfl]
    simp only [e]
    exact rel_put1 h1 (by rw [typeOk_i t1]; exact int_ne) ht hr (by decide)
  · have hf : (behind (word (p.line i) 0) p.raw).1 = [105, 105, 105] := by rw [e]; rfl
    obtain ⟨h1, t1⟩ := H _ hf 0 (by simp) (by rfl)
    rw [w_one hf rfl]
    simp only [e]
    exact rel_put1 h1 (by rw [typeOk_i t1]; exact int_ne) ht hr (by decide)
  · have hf : (behind (word (p.line i) 0) p.raw).1 = [105, 105, 105] := by rw [e]; rfl
    obtain ⟨h1, t1⟩ := H _ hf 0 (by simp) (by rfl)
    rw [w_one hf rfl]
    simp only [e]
    exact rel_put1 h1 (by rw [typeOk_i t1]; exact int_ne) ht hr (by decide)
  · simp only [e]; exact hr
  · simp only [e]; exact hr
  · simp only [e]; exact hr
  · simp only [e]; exact hr
  · have hf : (behind (word (p.line i) 0) p.raw).1 = [112, 105] := by rw [e]; rfl
    obtain ⟨h1, t1⟩ := H _ hf 0 (by simp) (by rfl)
    rw [w_one hf rfl]
    simp only [e]
    exact rel_put1 h1 (by rw [typeOk_p t1]; exact box_ne) ht hr (by decide)
  · have hf : (behind (word (p.line i) 0) p.raw).1 = [105, 112] := by rw [e]; rfl
    obtain ⟨h1, t1⟩ := H _ hf 0 (by simp) (by rfl)
    rw [w_one hf rfl]
    simp only [e]
    exact rel_put1 h1 (by rw [typeOk_i t1]; exact int_ne) ht hr (by decide)
  · simp only [e]; exact hr
  · have hf : (behind (word (p.line i) 0) p.raw).1 = [111] := by rw [e]; rfl
    obtain ⟨h1, t1⟩ := H _ hf 0 (by simp) (by rfl)
    rw [w_one hf rfl]
    simp only [e]
    exact rel_put1 h1 (by rw [typeOk_o t1]; exact opt_ne) ht hr (by decide)
  · have hf : (behind (word (p.line i) 0) p.raw).1 = [100] := by rw [e]; rfl
    obtain ⟨h1, t1⟩ := H _ hf 0 (by simp) (by rfl)
    rw [w_one hf rfl]
    simp only [e]
    exact rel_takeH h1 ht hr
  · have hf : (behind (word (p.line i) 0) p.raw).1 = [109, 109] := by rw [e]; rfl
    obtain ⟨h1, t1⟩ := H _ hf 0 (by simp) (by rfl)
    obtain ⟨h2, t2⟩ := H _ hf 1 (by simp) (by rfl)
    have := rel_takes ht hr h1 h2 e (typeOk_m t2).2
    rw [w_one hf rfl, w_two hf rfl rfl]
    simp only [e]
    exact this
  · have hf : (behind (word (p.line i) 0) p.raw).1 = [111, 112] := by rw [e]; rfl
    obtain ⟨h1, t1⟩ := H _ hf 0 (by simp) (by rfl)
    obtain ⟨h2, t2⟩ := H _ hf 1 (by simp) (by rfl)
    have := rel_some ht hr h1 h2 e (typeOk_o t1) (typeOk_p t2)
    rw [w_one hf rfl, w_two hf rfl rfl]
    simp only [e]
    exact this
  · simp only [e]; exact hr
end
end Go.Proofs.YtmlgajhhnojdjaaGreatDoor.Spec
/- Plain facts: what the flow finds wrong is what the document's own ways find wrong; both find the same line first. -/
namespace Go.Proofs.YtmlgajhhnojdjaaGreatDoor.Spec
open Go Go.Proofs.YtmlgajhhnojdjaaGreatDoor.Aux Go.Proofs.YtmlgajhhnojdjaaGreatDoor.RefS Go.Proofs.YtmlgajhhnojdjaaGreatDoor.RefT

section
variable {text : B} {p : RP}
theorem lacks_two (fit : Nat) (x y : PPlace) (s : Nat → Nat) : lacksP fit [x, y] s = (lacksP fit [x] s || lacksP fit [y] s) := by
  simp [lacksP]
theorem not_and_or (a b : Bool) : (!a || !b) = !(a && b) := by cases a <;> cases b <;> rfl
theorem ReadOk.fault_ok (h : ReadOk text false p) {i : Nat} (hb : p.body i) {s : Nat → Nat} {t : WS} (ht : t.Few) (hr : Rel s t) : p.toPP.faulty (p.pline i) s = !(p.step (p.line i) t).2 := by
  have hop : (p.pline i).op = word (p.line i) 0 := rfl
  have hm := h.body_word hb
  have H := fun f (hf : (behind (word (p.line i) 0) p.raw).1 = f) k hk hc => h.place hb hf k hk hc
  have one : ∀ {w : B}, PlaceOk p w → p.typeOf w = wInt → lacksP 2 [p.placeOf w] s = !p.there t w := fun hw e => there_one ht hr hw (by rw [e]; exact int_ne) (by rw [e]; decide)
  have box : ∀ {w : B}, PlaceOk p w → p.typeOf w = wBox → lacksP 2 [p.placeOf w] s = !p.there t w := fun hw e => there_one ht hr hw (by rw [e]; exact box_ne) (by rw [e]; decide)
  unfold PProg.faulty RP.step
  rw [hop]
  simp only [bodyWords, List.mem_cons, List.not_mem_nil, or_false] at hm
  rcases hm with e | e | e | e | e | e | e | e | e | e | e | e | e | e | e | e | e | e
  · simp only [e]; rfl
  · simp only [e]; rfl
  · have hf : (behind (word (p.line i) 0) p.raw).1 = [105, 105, 105] := by rw [e]; rfl
    obtain ⟨h2, t2⟩ := H _ hf 1 (by simp) (by rfl)
    obtain ⟨h3, t3⟩ := H _ hf 2 (by simp) (by rfl)
    rw [(w_iii hf).2.1, (w_iii hf).2.2, lacks_two, one h2 (typeOk_i t2), one h3 (typeOk_i t3), not_and_or]
    simp only [e]; rfl
  · have hf : (behind (word (p.line i) 0) p.raw).1 = [105, 105, 105] := by rw [e]; rfl
    obtain ⟨h2, t2⟩ := H _ hf 1 (by simp) (by rfl)
    obtain ⟨h3, t3⟩ := H _ hf 2 (by simp) (by rfl)
    rw [(w_iii hf).2.1, (w_iii hf).2.2, lacks_two, one h2 (typeOk_i t2), one h3 (typeOk_i t3), not_and_or]
    simp only [e]; rfl
  · have hf : (behind (word (p.line i) 0) p.raw).1 = [105, 105, 105] := by rw [e]; rfl
    obtain ⟨h2, t2⟩ := H _ hf 1 (by simp) (by rfl)
    obtain ⟨h3, t3⟩ := H _ hf 2 (by simp) (by rfl)
    rw [(w_iii hf).2.1, (w_iii hf).2.2, lacks_two, one h2 (typeOk_i t2), one h3 (typeOk_i t3), not_and_or]
    simp only [e]; rfl
  · have hf : (behind (word (p.line i) 0) p.raw).1 = [105, 105, 105] := by rw [e]; rfl
    obtain ⟨h2, t2⟩ := H _ hf 1 (by simp) (by rfl)
    obtain ⟨h3, t3⟩ := H _ hf 2 (by simp) (by rfl)
    rw [(w_iii hf).2.1, (w_iii hf).2.2, lacks_two, one h2 (typeOk_i t2), one h3 (typeOk_i t3), not_and_or]
    simp only [e]; rfl
  · have hf : (behind (word (p.line i) 0) p.raw).1 = [105] := by rw [e]; rfl
    obtain ⟨h1, t1⟩ := H _ hf 0 (by simp) (by rfl)
    rw [w_one hf rfl, one h1 (typeOk_i t1)]
    simp only [e]; rfl
  · have hf : (behind (word (p.line i) 0) p.raw).1 = [105, 78, 78] := by rw [e]; rfl
    obtain ⟨h1, t1⟩ := H _ hf 0 (by simp) (by rfl)
    rw [w_one hf rfl, one h1 (typeOk_i t1)]
    simp only [e]; rfl
  · have hf : (behind (word (p.line i) 0) p.raw).1 = [105] := by rw [e]; rfl
    obtain ⟨h1, t1⟩ := H _ hf 0 (by simp) (by rfl)
    rw [w_one hf rfl, one h1 (typeOk_i t1)]
    simp only [e]; rfl
  · have hf : (behind (word (p.line i) 0) p.raw).1 = [111, 78, 78] := by rw [e]; rfl
    obtain ⟨h1, t1⟩ := H _ hf 0 (by simp) (by rfl)
    rw [w_one hf rfl, there_opt ht hr h1 (typeOk_o t1)]
    simp only [e]; rfl
  · have hf : (behind (word (p.line i) 0) p.raw).1 = [112, 105] := by rw [e]; rfl
    obtain ⟨h1, t1⟩ := H _ hf 0 (by simp) (by rfl)
    obtain ⟨h2, t2⟩ := H _ hf 1 (by simp) (by rfl)
    rw [w_one hf rfl, w_two hf rfl rfl, one h2 (typeOk_i t2), shut_eq ht hr h1, not_and_or]
    simp only [e]; rfl
  · have hf : (behind (word (p.line i) 0) p.raw).1 = [105, 112] := by rw [e]; rfl
    obtain ⟨h2, t2⟩ := H _ hf 1 (by simp) (by rfl)
    rw [w_two hf rfl rfl, box h2 (typeOk_p t2)]
    simp only [e]; rfl
  · have hf : (behind (word (p.line i) 0) p.raw).1 = [112, 105] := by rw [e]; rfl
    obtain ⟨h1, t1⟩ := H _ hf 0 (by simp) (by rfl)
    obtain ⟨h2, t2⟩ := H _ hf 1 (by simp) (by rfl)
    rw [w_one hf rfl, w_two hf rfl rfl, lacks_two 2 (p.placeOf (word (p.line i) 1)), box h1 (typeOk_p t1), one h2 (typeOk_i t2), not_and_or]
    simp only [e]; rfl
  · simp only [e]; rfl
  · have hf : (behind (word (p.line i) 0) p.raw).1 = [100] := by rw [e]; rfl
    obtain ⟨h1, t1⟩ := H _ hf 0 (by simp) (by rfl)
    rw [w_one hf rfl, shut_eq ht hr h1]
    simp only [e]; rfl
  · have hf : (behind (word (p.line i) 0) p.raw).1 = [109, 109] := by rw [e]; rfl
    obtain ⟨h1, t1⟩ := H _ hf 0 (by simp) (by rfl)
    obtain ⟨h2, t2⟩ := H _ hf 1 (by simp) (by rfl)
    have := takes_ok ht h1 h2 e (typeOk_m t2).2
    rw [w_one hf rfl, w_two hf rfl rfl, stuck_eq ht hr h2, shut_eq ht hr h1, not_and_or, ← this]
    simp only [e]; rfl
  · have hf : (behind (word (p.line i) 0) p.raw).1 = [111, 112] := by rw [e]; rfl
    obtain ⟨h2, t2⟩ := H _ hf 1 (by simp) (by rfl)
    have hl2 : (RP.takes p (p.line i) t).2 = (p.there t (word (p.line i) 2) && (writable p (p.now t (word (p.line i) 2) (left (word (p.line i) 2))) (word (p.line i) 1) || (word (p.line i) 0 == [115, 111, 109, 101]))) := rfl
    have hl3 : (RP.takes p (p.line i) t).2 = p.there t (word (p.line i) 2) := by
      rw [hl2, e, show (([115, 111, 109, 101] : B) == [115, 111, 109, 101]) = true by decide, Bool.or_true, Bool.and_true]
    rw [w_two hf rfl rfl, box h2 (typeOk_p t2), ← hl3]
    simp only [e]; rfl
  · simp only [e]; rfl
/-- the first line of bodies that is wrong, of those from i on -/
def RP.firstWrong (p : RP) (wrong : Nat → Bool) : Nat → Nat → Int
  | 0, _ => -1
  | m + 1, i => if (!isLet (p.line i) && !isBlock (p.line i) && wrong i) = true then i else RP.firstWrong p wrong m (i + 1)
theorem faultGo_eq {L : List WS} {wrong : Nat → Bool} (hw : ∀ i, p.body i → ((lw L i).known && !(p.step (p.line i) (lw L i)).2) = wrong i) (hl : ∀ i, i < p.lines.length → isLet (p.line i) = true → (lw L i).known = false) :
    ∀ (m i : Nat), i + m ≤ p.lines.length → p.faultGo L m i = p.firstWrong wrong m i
  | 0, _, _ => rfl
  | m + 1, i, hi => by
    rw [RP.faultGo, RP.firstWrong, faultGo_eq hw hl m (i + 1) (by omega)]
    cases h1 : isLet (p.line i)
    · cases h2 : isBlock (p.line i)
      · rw [hw i ⟨by omega, h1, h2⟩]; rfl
      · have hwd : word (p.line i) 0 = wBlock := by simpa [isBlock] using h2
        rw [step_block p hwd]; simp
    · rw [hl i (by omega) h1]; simp
theorem ReadOk.let_known (h : ReadOk text false p) {L : List WS} (hL : p.Settled L) {i : Nat} (hi : i < p.lines.length) (hl : isLet (p.line i) = true) : (lw L i).known = false := by
  obtain ⟨hR, hC⟩ := h.settled hL
  have hz : p.cnt (i + 1) = 0 := by
    have hnb : isBlock (p.line i) = false := by
      have : word (p.line i) 0 = wLet := by simpa [isLet] using hl
      simp [isBlock, this]; decide
    rw [p.cnt_succ, hnb]
    cases hc : p.cnt i with
    | zero => rfl
    | succ n => have := h.not_let hi (by omega); rw [hl] at this; cases this
  have := (hR.least _ (h.spread_closed (h.heads_closed hC)) i).1
  cases hk : (lw L i).known
  · rfl
  · have := this hk
    unfold RP.spread at this
    rw [if_pos hz] at this; cases this
/-- the document's own first line that needs what may not be there, from the ways of the blocks -/
theorem ReadOk.fault_eq (h : ReadOk text false p) {L : List WS} (hL : p.Settled L) {E : Nat → WS} (hE : BClosed p E) (hl : BLeast p E) {wrong : Nat → Bool} (hw : ∀ i, p.body i → wrong i = ((E (p.blk i)).known && !(p.step (p.line i) (p.along E i)).2))
    (hset : ∀ i, p.body i → ∀ s t : WS, s.spots.length = 24 → t.spots.length = 24 → (∀ k c, c ∈ s.at k ↔ c ∈ t.at k) → (p.step (p.line i) s).2 = (p.step (p.line i) t).2) :
    p.faultGo L p.lines.length 0 = p.firstWrong wrong p.lines.length 0 := by
  obtain ⟨hR, hC⟩ := h.settled hL
  refine faultGo_eq (fun i hb => ?_) (fun i hi hl => h.let_known hL hi hl) _ 0 (by omega)
  rw [hw i hb]
  obtain ⟨h1, h2⟩ := h.same hL hE hl hb
  cases hk : (lw L i).known
  · cases hk2 : (E (p.blk i)).known
    · rfl
    · have := h1.mpr hk2; rw [hk] at this; cases this
  · rw [h1.mp hk, hset i hb _ _ (hC.len i) (along_len hE.len i) (h2 hk)]
end
end Go.Proofs.YtmlgajhhnojdjaaGreatDoor.Spec
/- Plain facts: which line is wrong hangs on which letters there are alone; the document's own answer from the ways of the blocks. -/
namespace Go.Proofs.YtmlgajhhnojdjaaGreatDoor.Spec
open Go Go.Proofs.YtmlgajhhnojdjaaGreatDoor.Aux Go.Proofs.YtmlgajhhnojdjaaGreatDoor.RefS Go.Proofs.YtmlgajhhnojdjaaGreatDoor.RefT

def Same (s t : WS) : Prop := ∀ k c, c ∈ s.at k ↔ c ∈ t.at k
section
variable {text : B} {p : RP}
theorem only_congr {s s' : B} (h : ∀ c, c ∈ s ↔ c ∈ s') (t : B) : only s t = only s' t := by
  rw [Bool.eq_iff_iff]
  simp only [only, List.all_eq_true]
  exact ⟨fun x c hc => x c ((h c).mpr hc), fun x c hc => x c ((h c).mp hc)⟩
theorem thereGo_congr {s t : WS} (h : Same s t) (u : B) : ∀ m k, thereGo s u m k = thereGo t u m k
  | 0, _ => rfl
  | m + 1, k => by rw [thereGo, thereGo, only_congr (h k), thereGo_congr h u m]
theorem there_congr {s t : WS} (h : Same s t) (w : B) : p.there s w = p.there t w := thereGo_congr h _ _ _
theorem writable_congr {s t : WS} (h : Same s t) (w : B) : writable p s w = writable p t w := by
  unfold writable; rw [only_congr (h _)]
theorem step_ok_congr {i : Nat} (hf : p.lineFits (p.line i)) {s t : WS} (hs : s.spots.length = 24) (ht : t.spots.length = 24) (h : Same s t) : (p.step (p.line i) s).2 = (p.step (p.line i) t).2 := by
  unfold RP.step
  repeat' split
  all_goals first
    | rfl
    | (simp only [there_congr h, writable_congr h]; done)
    | skip
  rename_i hw
  have h2 := hf.2 hw
  have hn : Same (p.now s (word (p.line i) 2) (left (word (p.line i) 2))) (p.now t (word (p.line i) 2) (left (word (p.line i) 2))) := fun k c => by
    rw [p.now_at hs h2, p.now_at ht h2]
    split
    · rfl
    · exact h k c
  unfold RP.takes
  simp only [there_congr h, writable_congr hn]
theorem ReadOk.fault_same (h : ReadOk text false p) {L : List WS} (hL : p.Settled L) {E : Nat → WS} (hE : BClosed p E) (hl : BLeast p E) {wrong : Nat → Bool} (hw : ∀ i, p.body i → wrong i = ((E (p.blk i)).known && !(p.step (p.line i) (p.along E i)).2)) :
    p.faultGo L p.lines.length 0 = p.firstWrong wrong p.lines.length 0 :=
  h.fault_eq hL hE hl hw fun i hb _ _ hs ht e => step_ok_congr (h.lineFits i hb.1) hs ht e
end
end Go.Proofs.YtmlgajhhnojdjaaGreatDoor.Spec
/- Plain facts: what the flow leads on with, as bits; where it begins; ways that meet. -/
namespace Go.Proofs.YtmlgajhhnojdjaaGreatDoor.Spec
open Go Go.Proofs.YtmlgajhhnojdjaaGreatDoor.Aux Go.Proofs.YtmlgajhhnojdjaaGreatDoor.RefS Go.Proofs.YtmlgajhhnojdjaaGreatDoor.RefT

section
variable {text : B} {p : RP}
theorem ReadOk.out_match (h : ReadOk text false p) {i : Nat} (hb : p.body i) (hm : word (p.line i) 0 = wMatch) {s : Nat → Nat} {t : WS} (ht : t.spots.length = 24) (hr : Rel s t) :
    Rel (putP 4 [(p.pline i).w 0] s) (p.outOf (p.line i) t 1) ∧ Rel (putP 2 [(p.pline i).w 0] s) (p.outOf (p.line i) t 2) := by
  have hf : (behind (word (p.line i) 0) p.raw).1 = [111, 78, 78] := by rw [hm]; rfl
  obtain ⟨h1, t1⟩ := h.place hb hf 0 (by simp) (by rfl)
  have ho := typeOk_o t1
  rw [w_one hf rfl]
  have e1 : p.outOf (p.line i) t 1 = p.now t (word (p.line i) 1) [110] := by
    unfold RP.outOf; rw [if_neg (fun x => absurd x.2 (by decide)), if_pos ⟨hm, rfl⟩]
  have e2 : p.outOf (p.line i) t 2 = p.now t (word (p.line i) 1) [119] := by
    unfold RP.outOf; rw [if_pos ⟨hm, rfl⟩]
  rw [e1, e2]
  exact ⟨rel_put1 h1 (by rw [ho]; exact opt_ne) ht hr (by decide), rel_put1 h1 (by rw [ho]; exact opt_ne) ht hr (by decide)⟩
theorem out_other {i k : Nat} {t : WS} (hm : ¬ word (p.line i) 0 = wMatch) : p.outOf (p.line i) t k = t := by
  unfold RP.outOf
  rw [if_neg (fun x => hm x.1), if_neg (fun x => hm x.1)]
theorem rel_start : Rel (fun _ => 1) startWS := fun k hk => by
  have : startWS.at k = [45] := by
    unfold WS.at startWS
    simp only [List.getD_eq_getElem?_getD, List.getElem?_replicate, hk, if_true]; rfl
  rw [this]; rfl
theorem bits_zero (s : B) (h : Few s) : bitsOf s = 0 ↔ s = [] := by
  constructor
  · intro e
    cases s with
    | nil => rfl
    | cons c r =>
      exfalso
      have := h.among c (by simp)
      simp only [letters, List.mem_cons, List.not_mem_nil, or_false] at this
      unfold bitsOf at e
      rcases this with rfl | rfl | rfl | rfl
      · rw [if_pos (by simp)] at e; omega
      · rw [if_pos (show (110 : UInt8) ∈ 110 :: r by simp)] at e; omega
      · rw [if_pos (show (119 : UInt8) ∈ 119 :: r by simp)] at e; omega
      · rw [if_pos (show (104 : UInt8) ∈ 104 :: r by simp)] at e; omega
  · intro e; rw [e]; rfl
/-- ways that meet: their bits together -/
theorem bits_or {a b c : B} (h : ∀ x, x ∈ c ↔ x ∈ a ∨ x ∈ b) : bitsOf c = bitsOf a ||| bitsOf b := by
  unfold bitsOf
  simp only [h]
  by_cases h1 : (45 : UInt8) ∈ a <;> by_cases h2 : (119 : UInt8) ∈ a <;> by_cases h3 : (110 : UInt8) ∈ a <;> by_cases h4 : (104 : UInt8) ∈ a <;>
  by_cases g1 : (45 : UInt8) ∈ b <;> by_cases g2 : (119 : UInt8) ∈ b <;> by_cases g3 : (110 : UInt8) ∈ b <;> by_cases g4 : (104 : UInt8) ∈ b <;> simp [h1, h2, h3, h4, g1, g2, g3, g4]
/-- letters of bits -/
def lettersOf (v : Nat) : B := (if v.testBit 0 then [45] else []) ++ (if v.testBit 1 then [119] else []) ++ (if v.testBit 2 then [110] else []) ++ (if v.testBit 3 then [104] else [])
theorem bits_letters : ∀ v, v < 16 → bitsOf (lettersOf v) = v := by decide
theorem few_letters : ∀ v, v < 16 → Few (lettersOf v) := by
  intro v hv
  have : ∀ v, v < 16 → (lettersOf v).Nodup ∧ ∀ c ∈ lettersOf v, c ∈ letters := by decide
  exact ⟨(this v hv).1, (this v hv).2⟩
theorem bits_lt (s : B) : bitsOf s < 16 := by
  unfold bitsOf; repeat' split
  all_goals decide
end
end Go.Proofs.YtmlgajhhnojdjaaGreatDoor.Spec
