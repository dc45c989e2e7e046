/- Plain definitions: a program as the project's packages keep it; what its flow makes of a state, as bits; and that both are one. -/
import Derived.Test.YtmlgajhhnojdjaaGreatDoorSAQ
import Derived.Test.YtmlgajhhnojdjaaGreatDoorSAP
import Derived.Test.YtmlgajhhnojdjaaGreatDoorSAE
import Derived.Test.YtmlgajhhnojdjaaGreatDoorSAN
namespace Go.Proofs.YtmlgajhhnojdjaaGreatDoor.Spec
open Go Go.Proofs.YtmlgajhhnojdjaaGreatDoor.Aux Go.Proofs.YtmlgajhhnojdjaaGreatDoor.RefS Go.Proofs.YtmlgajhhnojdjaaGreatDoor.RefT

structure PPlace where
  loc : Nat
  part : UInt8
instance : Inhabited PPlace := ⟨⟨0, 0⟩⟩
structure PLine where
  num : Nat
  op : B
  places : List PPlace
  number : Int
  next : List Nat
def PLine.w (l : PLine) (j : Nat) : PPlace := l.places.getD j default
structure PProg where
  locals : List (B × B)
  blocks : List (List PLine)
def PProg.tyOf (q : PProg) (n : Nat) : B := (q.locals.getD n ([], [])).2
/-- of a program that was read: its lines as the project keeps them -/
def isPlaceKind (c : UInt8) : Bool := c == 105 || c == 111 || c == 112 || c == 109 || c == 100
def RP.placeOf (p : RP) (w : B) : PPlace := ⟨(p.find (localOf w)).toNat, partOf w⟩
def RP.placesOf (p : RP) : B → List B → List PPlace
  | [], _ => []
  | c :: f, ws => if isPlaceKind c then p.placeOf (word ws 0) :: RP.placesOf p f (ws.drop 1) else RP.placesOf p f (ws.drop 1)
def nextOf : B → List B → List Nat
  | [], _ => []
  | c :: f, ws => if c = 78 then ((number (word ws 0)).getD 0).toNat :: nextOf f (ws.drop 1) else nextOf f (ws.drop 1)
def numOf : B → List B → Int
  | [], _ => 0
  | c :: f, ws => if c = 110 then (number (word ws 0)).getD 0 else numOf f (ws.drop 1)
def RP.pline (p : RP) (i : Nat) : PLine := ⟨i, word (p.line i) 0, p.placesOf (behind (word (p.line i) 0) p.raw).1 ((p.line i).drop 1), numOf (behind (word (p.line i) 0) p.raw).1 ((p.line i).drop 1), nextOf (behind (word (p.line i) 0) p.raw).1 ((p.line i).drop 1)⟩
def RP.localsOf (p : RP) : List (B × B) := p.lets.map fun j => (word (p.line j) 1, word (p.line j) 2)
/-- the lines of the body behind line b -/
def RP.bodyOf (p : RP) (b : Nat) : List PLine := (((List.range p.lines.length).drop (b + 1)).takeWhile fun j => !isBlock (p.line j)).map p.pline
def RP.toPP (p : RP) : PProg := ⟨p.localsOf, p.blocks.map p.bodyOf⟩

section
variable {p : RP}
/-- the parts that a place can have -/
def partFit (w : B) : Prop := partOf w = 0 ∨ partOf w = 97 ∨ partOf w = 98 ∨ partOf w = 115
end
end Go.Proofs.YtmlgajhhnojdjaaGreatDoor.Spec
/- Plain facts: what the flow makes of a line, as bits, is what the document's own ways make of it. -/
namespace Go.Proofs.YtmlgajhhnojdjaaGreatDoor.Spec
open Go Go.Proofs.YtmlgajhhnojdjaaGreatDoor.Aux Go.Proofs.YtmlgajhhnojdjaaGreatDoor.RefS Go.Proofs.YtmlgajhhnojdjaaGreatDoor.RefT

theorem isName_part {w : B} (h : isName w = true) : partOf w = 0 := by
  unfold partOf
  have : dotted w = false := by
    cases hd : dotted w
    · rfl
    · exfalso
      simp only [dotted, Bool.and_eq_true, decide_eq_true_eq, beq_iff_eq] at hd
      obtain ⟨h1, h2⟩ := hd
      have hm : (46 : UInt8) ∈ w := List.mem_of_getElem? h2
      simp only [isName, Bool.and_eq_true, List.all_eq_true] at h
      have := h.1.1 46 hm
      exact absurd this (by decide)
  rw [this]; rfl
theorem isPlace_part {w : B} (h : isPlace w = true) : partFit w := by
  simp only [isPlace, Bool.and_eq_true, Bool.or_eq_true, decide_eq_true_eq, beq_iff_eq] at h
  obtain ⟨h1, ((h2 | h2) | h2) | h2⟩ := h
  · rw [h2] at h1; exact .inl (isName_part h1)
  · exact .inr (.inl h2)
  · exact .inr (.inr (.inl h2))
  · exact .inr (.inr (.inr h2))
theorem typesGo_at (p : RP) (w1 : B) : ∀ (f : B) (ws : List B) (k : Nat) (hk : k < f.length), p.typesGo w1 f ws = true → p.typeOk f[k] (word ws k) w1 = true := by
  intro f
  induction f with
  | nil => intro ws k hk; simp at hk
  | cons c f ih =>
    intro ws k hk h
    rw [RP.typesGo, Bool.and_eq_true] at h
    cases k with
    | zero => exact h.1
    | succ k =>
      have := ih (ws.drop 1) k (by simpa using hk) h.2
      rw [word_drop] at this
      simpa using this
/-- a word that names a place that is there -/
structure PlaceOk (p : RP) (w : B) : Prop where
  find : 0 ≤ p.find (localOf w)
  part : partFit w
  fits : p.fits w
  type : ¬ p.typeOf w = []
section
variable {text : B} {raw : Bool} {p : RP}
theorem ReadOk.place (h : ReadOk text raw p) {i : Nat} (hb : p.body i) {f : B} (hf : (behind (word (p.line i) 0) p.raw).1 = f) (k : Nat) (hk : k < f.length) (hc : isPlaceKind f[k] = true) : PlaceOk p (word (p.line i) (k + 1)) ∧ p.typeOk f[k] (word (p.line i) (k + 1)) (word (p.line i) 1) = true := by
  subst hf
  have hl : ¬ word (p.line i) 0 = wLet := by have := hb.2.1; simpa [isLet] using this
  have hbl : ¬ word (p.line i) 0 = wBlock := by have := hb.2.2; simpa [isBlock] using this
  simp only [isPlaceKind, Bool.or_eq_true, beq_iff_eq] at hc
  have hfd := RP.names_find (h.names i hb.1) hl k hk (by simp only [List.mem_cons, List.not_mem_nil, or_false]; rcases hc with (((hc | hc) | hc) | hc) | hc <;> simp [hc])
  have hw := lineForm_word (h.pre.form i hb.1) hl k hk
  have ht : p.typeOk (behind (word (p.line i) 0) p.raw).1[k] (word (p.line i) (k + 1)) (word (p.line i) 1) = true := by
    have := h.types i hb.1
    simp only [RP.typesOk, Bool.or_eq_true, beq_iff_eq] at this
    rcases this with (e | e) | e
    · exact absurd e hl
    · exact absurd e hbl
    · have := typesGo_at p _ _ _ k hk e
      rwa [word_drop] at this
  refine ⟨⟨hfd, ?_, RP.fits_of hfd h.pre.twelve, ?_⟩, ht⟩
  · rcases hc with (((hc | hc) | hc) | hc) | hc
    · rw [hc, wordOf, if_pos (.inl rfl)] at hw; exact .inl (isName_part hw)
    · rw [hc, wordOf, if_pos (.inr rfl)] at hw; exact .inl (isName_part hw)
    · rw [hc, wordOf, if_neg (by decide), if_pos (.inl rfl)] at hw; exact isPlace_part hw
    · rw [hc, wordOf, if_neg (by decide), if_pos (.inr (.inl rfl))] at hw; exact isPlace_part hw
    · rw [hc, wordOf, if_neg (by decide), if_pos (.inr (.inr rfl))] at hw; exact isPlace_part hw
  · intro e
    unfold RP.typeOk at ht
    rw [if_neg (by rcases hc with (((hc | hc) | hc) | hc) | hc <;> rw [hc] <;> decide), if_pos e] at ht
    cases ht
theorem typeOk_p {w w1 : B} (h : p.typeOk 112 w w1 = true) : p.typeOf w = wBox := by
  unfold RP.typeOk at h
  rw [if_neg (by decide)] at h
  by_cases e : p.typeOf w = wBox
  · exact e
  · split at h
    · cases h
    · rw [if_pos (.inr (.inl ⟨rfl, e⟩))] at h; cases h
theorem typeOk_m {w w1 : B} (h : p.typeOk 109 w w1 = true) : ¬ p.typeOf w = wInt ∧ p.typeOf w = p.typeOf w1 := by
  unfold RP.typeOk at h
  rw [if_neg (by decide)] at h
  split at h
  · cases h
  · rw [if_neg (by rintro (⟨h, -⟩ | ⟨h, -⟩ | ⟨h, -⟩) <;> exact absurd h (by decide))] at h
    split at h
    · cases h
    · rename_i h1
      refine ⟨fun e => h1 ⟨.inl rfl, e⟩, ?_⟩
      by_cases e : p.typeOf w = p.typeOf w1
      · exact e
      · rw [if_pos ⟨rfl, e⟩] at h; cases h
end
end Go.Proofs.YtmlgajhhnojdjaaGreatDoor.Spec
/- Plain facts: what the flow makes of a line, as bits, is what the document's own ways make of it; and what it finds wrong. -/
namespace Go.Proofs.YtmlgajhhnojdjaaGreatDoor.Spec
theorem hereSpecU : True := trivial
end Go.Proofs.YtmlgajhhnojdjaaGreatDoor.Spec
/- Plain facts: what the flow makes of any line, as bits, and what it finds wrong, is as in the document's own ways. -/
namespace Go.Proofs.YtmlgajhhnojdjaaGreatDoor.Spec
theorem hereSpecV : True := trivial
end Go.Proofs.YtmlgajhhnojdjaaGreatDoor.Spec
/- Plain facts: what the flow finds wrong is what the document's own ways find wrong; both find the same line first. -/
namespace Go.Proofs.YtmlgajhhnojdjaaGreatDoor.Spec
theorem hereSpecW : True := trivial
end Go.Proofs.YtmlgajhhnojdjaaGreatDoor.Spec
/- Plain facts: which line is wrong hangs on which letters there are alone; the document's own answer from the ways of the blocks. -/
namespace Go.Proofs.YtmlgajhhnojdjaaGreatDoor.Spec
theorem hereSpecX : True := trivial
end Go.Proofs.YtmlgajhhnojdjaaGreatDoor.Spec
/- Plain facts: what the flow leads on with, as bits; where it begins; ways that meet. -/
namespace Go.Proofs.YtmlgajhhnojdjaaGreatDoor.Spec
theorem hereSpecY : True := trivial
end Go.Proofs.YtmlgajhhnojdjaaGreatDoor.Spec
/- Plain facts: a line as the project keeps it, and as the document's own reader has it: both make the same of a state. -/
namespace Go.Proofs.YtmlgajhhnojdjaaGreatDoor.FlwT
open Go Go.Proofs.YtmlgajhhnojdjaaGreatDoor.Spec Go.Proofs.YtmlgajhhnojdjaaGreatDoor.Aux Go.Proofs.YtmlgajhhnojdjaaGreatDoor.FlwA Go.Proofs.YtmlgajhhnojdjaaGreatDoor.FlwB Go.Proofs.YtmlgajhhnojdjaaGreatDoor.FlwC Go.Proofs.YtmlgajhhnojdjaaGreatDoor.FlwD Go.Proofs.YtmlgajhhnojdjaaGreatDoor.FlwE Go.Proofs.YtmlgajhhnojdjaaGreatDoor.FlwF Go.Proofs.YtmlgajhhnojdjaaGreatDoor.FlwG Go.Proofs.YtmlgajhhnojdjaaGreatDoor.FlwH Go.Proofs.YtmlgajhhnojdjaaGreatDoor.FlwI Go.Proofs.YtmlgajhhnojdjaaGreatDoor.FlwJ Go.Proofs.YtmlgajhhnojdjaaGreatDoor.FlwK Go.Proofs.YtmlgajhhnojdjaaGreatDoor.FlwM Go.Proofs.YtmlgajhhnojdjaaGreatDoor.FlwO Go.Proofs.YtmlgajhhnojdjaaGreatDoor.FlwQ Go.Proofs.YtmlgajhhnojdjaaGreatDoor.FlwS

theorem pidx_two {c : UInt8} : pidx c = 2 ↔ c = 98 := by
  unfold pidx
  constructor
  · intro h; split at h
    · omega
    · split at h
      · assumption
      · split at h <;> omega
  · intro h; subst h; rfl
/-- the types of the locals, both ways -/
structure TyLink (q : QP) (P : PProg) : Prop where
  pair : ∀ n, q.tyOf n = 2 ↔ P.tyOf n = wPair
  opt : ∀ n, q.tyOf n = 3 ↔ P.tyOf n = wOpt
section
variable {q : QP} {P : PProg}
end
end Go.Proofs.YtmlgajhhnojdjaaGreatDoor.FlwT
/- Plain facts: in which block of the project's program a line stands. -/
namespace Go.Proofs.YtmlgajhhnojdjaaGreatDoor.FlwU
open Go Go.Proofs.YtmlgajhhnojdjaaGreatDoor.Spec

/-- every line stands in the block that was begun last ahead of it: c counts them -/
def InBlk (c : Nat → Nat) (q : QP) : Prop := ∀ j, ∀ l ∈ q.blocks.getD j [], c l.num = j + 1
theorem inBlk_empty (c : Nat → Nat) : InBlk c QP.empty := fun j l hl => by simp [QP.empty] at hl
theorem addBlock_in {c : Nat → Nat} {q : QP} (h : InBlk c q) : InBlk c q.addBlock := fun j l hl => by
  by_cases hj : j < q.blocks.length
  · have : q.addBlock.blocks.getD j [] = q.blocks.getD j [] := by simp [QP.addBlock, List.getD_eq_getElem?_getD, List.getElem?_append, hj]
    rw [this] at hl; exact h j l hl
  · have : q.addBlock.blocks.getD j [] = [] := by
      simp only [QP.addBlock, List.getD_eq_getElem?_getD, List.getElem?_append, if_neg hj]
      cases h2 : j - q.blocks.length with
      | zero => rfl
      | succ n => rfl
    rw [this] at hl; cases hl
theorem addLine_in {c : Nat → Nat} {q : QP} (h : InBlk c q) {l : QLine} {n : Nat} (hn : q.blocks.length = n + 1) (hc : c l.num = n + 1) : InBlk c (q.addLine l) ∧ (q.addLine l).blocks.length = n + 1 := by
  have hne : q.blocks ≠ [] := by intro e; rw [e] at hn; simp at hn
  have hD : q.blocks.dropLast.length = n := by simp [hn]
  have hg : q.blocks.getLastD [] = q.blocks.getD n [] := by
    rw [List.getLastD_eq_getLast?, List.getLast?_eq_getElem?, hn, List.getD_eq_getElem?_getD]; rfl
  refine ⟨fun j x hx => ?_, by simp [QP.addLine, hD]⟩
  by_cases hj : j < n
  · have : (q.addLine l).blocks.getD j [] = q.blocks.getD j [] := by
      simp only [QP.addLine, List.getD_eq_getElem?_getD]
      rw [List.getElem?_append_left (by omega), List.getElem?_dropLast, if_pos (by omega)]
    rw [this] at hx; exact h j x hx
  · by_cases e : j = n
    · subst e
      have : (q.addLine l).blocks.getD j [] = q.blocks.getD j [] ++ [l] := by
        simp only [QP.addLine, List.getD_eq_getElem?_getD]
        rw [List.getElem?_append_right (by omega), hD, Nat.sub_self]
        simp only [List.getElem?_cons_zero, Option.getD_some]
        rw [hg, List.getD_eq_getElem?_getD]
      rw [this] at hx
      rcases List.mem_append.mp hx with hx | hx
      · exact h j x hx
      · rw [List.mem_singleton.mp hx]; exact hc
    · have : (q.addLine l).blocks.getD j [] = [] := by
        rw [List.getD_eq_getElem?_getD, List.getElem?_eq_none (by simp [QP.addLine, hD]; omega)]; rfl
      rw [this] at hx; cases hx
theorem look_in (c : Nat → Nat) (nb : Nat) : ∀ (S : List (Nat × List B)) (i : Nat) (q0 q : QP), lookGo nb S i q0 = (q, none) →
    (∀ k x, S[k]? = some x → c (i + k + 1) = c (i + k) + (if x.1 = 1 then 1 else 0)) → (∀ k x, S[k]? = some x → ¬ x.1 = 0 → ¬ x.1 = 1 → 1 ≤ c (i + k)) → q0.blocks.length = c i → InBlk c q0 → InBlk c q
  | [], i, q0, q, h, _, _, _, hI => by simp only [lookGo, Prod.mk.injEq, and_true] at h; rw [← h]; exact hI
  | x :: S, i, q0, q, h, hc, hp, hl, hI => by
    have h0 := hc 0 x rfl
    have hc' : ∀ k y, S[k]? = some y → c (i + 1 + k + 1) = c (i + 1 + k) + (if y.1 = 1 then 1 else 0) := fun k y hy => by
      have := hc (k + 1) y (by simpa using hy)
      rw [show i + 1 + k = i + (k + 1) by omega]; exact this
    have hp' : ∀ k y, S[k]? = some y → ¬ y.1 = 0 → ¬ y.1 = 1 → 1 ≤ c (i + 1 + k) := fun k y hy => by
      have := hp (k + 1) y (by simpa using hy)
      rw [show i + 1 + k = i + (k + 1) by omega]; exact this
    rw [lookGo] at h
    simp only [Nat.add_zero] at h0
    by_cases e0 : x.1 = 0
    · rw [if_pos e0] at h
      rw [if_neg (by omega)] at h0
      split at h
      · simp at h
      · exact look_in c nb S (i + 1) _ q h hc' hp' (by simpa [QP.addLocal] using hl.trans (by omega)) hI
    · rw [if_neg e0] at h
      by_cases e1 : x.1 = 1
      · rw [if_pos e1] at h
        rw [if_pos e1] at h0
        exact look_in c nb S (i + 1) _ q h hc' hp' (by simp [QP.addBlock]; omega) (addBlock_in hI)
      · rw [if_neg e1] at h
        rw [if_neg e1] at h0
        have h1 := hp 0 x rfl e0 e1
        simp only [Nat.add_zero] at h1
        split at h
        · simp at h
        · rename_i l _
          obtain ⟨a1, a2⟩ := addLine_in (l := { l with num := i }) hI (n := c i - 1) (by omega) (by show c i = _; omega)
          exact look_in c nb S (i + 1) _ q h hc' hp' (by rw [a2]; omega) a1
/-- blocks, told by their lines alone -/
theorem flat_filter {α : Type} (g : α → Nat) : ∀ (L : List (List α)) (d j : Nat), (∀ j, ∀ l ∈ L.getD j [], g l = d + j) → L.getD j [] = L.flatten.filter (fun l => g l == d + j)
  | [], d, j, _ => by simp
  | b :: L, d, j, h => by
    have hb : ∀ l ∈ b, g l = d := fun l hl => by simpa using h 0 l (by simpa using hl)
    have hL : ∀ j, ∀ l ∈ L.getD j [], g l = d + 1 + j := fun j l hl => by
      have := h (j + 1) l (by simpa using hl)
      omega
    rw [List.flatten_cons, List.filter_append]
    cases j with
    | zero =>
      have e1 : b.filter (fun l => g l == d + 0) = b := List.filter_eq_self.mpr fun l hl => by simp [hb l hl]
      have e2 : L.flatten.filter (fun l => g l == d + 0) = [] := List.filter_eq_nil_iff.mpr fun l hl => by
        obtain ⟨c, hc, hlc⟩ := List.mem_flatten.mp hl
        obtain ⟨k, hk, rfl⟩ := List.getElem_of_mem hc
        have := hL k l (by simpa [hk] using hlc)
        simp; omega
      rw [e1, e2]; simp
    | succ j =>
      have e1 : b.filter (fun l => g l == d + (j + 1)) = [] := List.filter_eq_nil_iff.mpr fun l hl => by simp [hb l hl]
      have := flat_filter g L (d + 1) j hL
      rw [e1, List.nil_append, List.getD_cons_succ, this]
      congr 1
      funext l
      rw [show d + 1 + j = d + (j + 1) by omega]
end Go.Proofs.YtmlgajhhnojdjaaGreatDoor.FlwU
/- Plain facts: all that is known of a program that both readers took. -/
namespace Go.Proofs.YtmlgajhhnojdjaaGreatDoor.FlwV
open Go Go.Proofs.YtmlgajhhnojdjaaGreatDoor.Spec Go.Proofs.YtmlgajhhnojdjaaGreatDoor.FlwU Go.Proofs.YtmlgajhhnojdjaaGreatDoor.PrjS

theorem look_len (nb : Nat) : ∀ (S : List (Nat × List B)) (i : Nat) (q0 q : QP) (c : Nat → Nat), lookGo nb S i q0 = (q, none) →
    (∀ k x, S[k]? = some x → c (i + k + 1) = c (i + k) + (if x.1 = 1 then 1 else 0)) → (∀ k x, S[k]? = some x → ¬ x.1 = 0 → ¬ x.1 = 1 → 1 ≤ c (i + k)) → q0.blocks.length = c i → q.blocks.length = c (i + S.length)
  | [], i, q0, q, c, h, _, _, hl => by simp only [lookGo, Prod.mk.injEq, and_true] at h; rw [← h]; exact hl
  | x :: S, i, q0, q, c, h, hc, hp, hl => by
    have h0 := hc 0 x rfl
    have hc' : ∀ k y, S[k]? = some y → c (i + 1 + k + 1) = c (i + 1 + k) + (if y.1 = 1 then 1 else 0) := fun k y hy => by
      have := hc (k + 1) y (by simpa using hy)
      rw [show i + 1 + k = i + (k + 1) by omega]; exact this
    have hp' : ∀ k y, S[k]? = some y → ¬ y.1 = 0 → ¬ y.1 = 1 → 1 ≤ c (i + 1 + k) := fun k y hy => by
      have := hp (k + 1) y (by simpa using hy)
      rw [show i + 1 + k = i + (k + 1) by omega]; exact this
    have key : ∀ q1 : QP, lookGo nb S (i + 1) q1 = (q, none) → q1.blocks.length = c (i + 1) → q.blocks.length = c (i + (x :: S).length) := fun q1 h1 h2 => by
      have := look_len nb S (i + 1) q1 q c h1 hc' hp' h2
      rw [this, List.length_cons]; congr 1; omega
    rw [lookGo] at h
    simp only [Nat.add_zero] at h0
    by_cases e0 : x.1 = 0
    · rw [if_pos e0] at h
      rw [if_neg (by omega)] at h0
      split at h
      · simp at h
      · exact key _ h (by simpa [QP.addLocal] using hl.trans (by omega))
    · rw [if_neg e0] at h
      by_cases e1 : x.1 = 1
      · rw [if_pos e1] at h
        rw [if_pos e1] at h0
        exact key _ h (by simp [QP.addBlock]; omega)
      · rw [if_neg e1] at h
        rw [if_neg e1] at h0
        have h1 := hp 0 x rfl e0 e1
        simp only [Nat.add_zero] at h1
        split at h
        · simp at h
        · rename_i l _
          exact key _ h (by simp [QP.addLine]; omega)
structure Both (text : B) (raw : Bool) (p : RP) (q : QP) : Prop where
  ref : (refRead text raw).1 = some p
  ok : ReadOk text raw p
  lr : LR p q p.lines.length
  inb : InBlk p.cnt q
  qok : QOk q.blocks.length q
  len : q.blocks.length = p.blocks.length
theorem read_more {text : B} {raw : Bool} {q : QP} (h : (prjRead text raw).1 = some q) : ∃ p, Both text raw p q := by
  obtain ⟨p, hp, R⟩ := (read_same text raw).2 q h
  have hgood : ReadOk text raw p := by
    have e : refRead text raw = (some p, (refRead text raw).2.1, (refRead text raw).2.2) := by rw [← hp]
    exact (refRead_good e).1
  have H := hgood.pre
  by_cases hlong : (split 10 text).length > (if raw then 4000 else 120)
  · rw [prjRead, if_pos hlong] at h; cases h
  · rw [prjRead, if_neg hlong] at h
    split at h
    · cases h
    · rename_i hsp
      split at h
      · cases h
      · split at h
        · cases h
        · rename_i hlook
          split at h
          · cases h
          · simp only [Option.some.injEq] at h
            obtain ⟨-, hn⟩ := split_read raw (wordsOf text) (Spec.start raw) ⟨0, 0, 0⟩ rfl (OrdRel.start raw) (by simp) (fun ws hw => by
              simp only [wordsOf, List.mem_map] at hw
              obtain ⟨a, -, rfl⟩ := hw
              exact one_le_split _ _)
            have hl0 : (Spec.start raw).lines.length = 0 := rfl
            rw [hl0] at hn
            obtain ⟨-, -, -, -, hsents⟩ := hn hsp
            have hS : (splitGo raw (wordsOf text) ⟨0, 0, 0⟩ 0).1 = (List.range p.lines.length).map p.sent := by
              rw [hsents, ← hgood.lines]
              apply List.ext_getElem
              · simp
              · intro i h1 h2
                simp only [List.length_map] at h1
                rw [List.getElem_map, List.getElem_map, List.getElem_range, RP.sent]
                have : p.line i = p.lines[i] := by rw [RP.line, List.getD_eq_getElem?_getD, List.getElem?_eq_getElem h1]; rfl
                rw [this]
            rw [hS] at hlook h
            have hlk : lookGo (countB ((List.range p.lines.length).map p.sent)) ((List.range p.lines.length).map p.sent) 0 QP.empty = (q, none) := Prod.ext h hlook
            have hat : ∀ k x, ((List.range p.lines.length).map p.sent)[k]? = some x → k < p.lines.length ∧ x = p.sent k := fun k x hx => by
              rw [List.getElem?_map] at hx
              by_cases hk : k < p.lines.length
              · rw [List.getElem?_range hk] at hx
                simp only [Option.map_some, Option.some.injEq] at hx
                exact ⟨hk, hx.symm⟩
              · rw [List.getElem?_eq_none (by simp; omega)] at hx; cases hx
            have hop : ∀ k, k < p.lines.length → (p.sent k).1 < 23 ∧ ((p.sent k).1 = 1 ↔ isBlock (p.line k) = true) ∧ ((p.sent k).1 = 0 ↔ isLet (p.line k) = true) := fun k hk => by
              obtain ⟨op, ho, hl, -⟩ := line_op H hk
              have e : (p.sent k).1 = op := by rw [RP.sent, ho]; rfl
              rw [e]
              refine ⟨hl, ?_, ?_⟩
              · rw [isBlock, beq_iff_eq]; exact (block_op ho).symm
              · rw [isLet, beq_iff_eq]; exact (let_op ho).symm
            have hc : ∀ k x, ((List.range p.lines.length).map p.sent)[k]? = some x → p.cnt (0 + k + 1) = p.cnt (0 + k) + (if x.1 = 1 then 1 else 0) := fun k x hx => by
              obtain ⟨hk, rfl⟩ := hat k x hx
              rw [Nat.zero_add, p.cnt_succ]
              congr 1
              by_cases hb : isBlock (p.line k) = true
              · rw [if_pos hb, if_pos ((hop k hk).2.1.mpr hb)]
              · rw [if_neg hb, if_neg (fun e => hb ((hop k hk).2.1.mp e))]
            have hpl : ∀ k x, ((List.range p.lines.length).map p.sent)[k]? = some x → ¬ x.1 = 0 → ¬ x.1 = 1 → 1 ≤ p.cnt (0 + k) := fun k x hx h0 h1 => by
              obtain ⟨hk, rfl⟩ := hat k x hx
              rw [Nat.zero_add]
              have hL : isLet (p.line k) = false := by
                cases hL : isLet (p.line k)
                · rfl
                · exact absurd ((hop k hk).2.2.mpr hL) h0
              have hB : isBlock (p.line k) = false := by
                cases hB : isBlock (p.line k)
                · rfl
                · exact absurd ((hop k hk).2.1.mpr hB) h1
              exact (hgood.body_inside ⟨hk, hL, hB⟩).2
            have hcz : QP.empty.blocks.length = p.cnt 0 := rfl
            have hlen : q.blocks.length = p.blocks.length := by
              rw [R.blocks]
              congr 1
              rw [List.filter_eq_self]
              intro b hb
              rw [H.blocks] at hb
              have := (mem_whichAre hb).1
              simp [this]
            have hqlen := look_len _ _ 0 _ _ p.cnt hlk hc hpl hcz
            have hcount : countB ((List.range p.lines.length).map p.sent) = p.blocks.length := by
              rw [countB, H.blocks, RP.whichAre, List.filter_map, List.length_map]
              congr 1
              apply List.filter_congr
              intro j hj
              have hj' : j < p.lines.length := by simpa using hj
              rw [Bool.eq_iff_iff]
              simp only [Function.comp, beq_iff_eq]
              exact (hop j hj').2.1
            refine ⟨p, hp, hgood, R, look_in p.cnt _ _ 0 _ _ hlk hc hpl hcz (inBlk_empty _), ?_, hlen⟩
            have := lookGo_ok _ _ 0 _ _ hlk (fun x hx => by
              obtain ⟨k, hk, rfl⟩ := List.mem_map.mp hx
              exact (hop k (by simpa using hk)).1) ⟨fun x hx => by simp [QP.empty] at hx, fun b hb => by simp [QP.empty] at hb⟩
            rw [hcount, ← hlen] at this
            exact this
section
variable {text : B} {raw : Bool} {p : RP} {q : QP}
theorem Both.locals (h : Both text raw p q) : q.locals = p.locQ := by
  rw [h.lr.locals, RP.locQ, List.filter_eq_self.mpr]
  intro t ht
  rw [h.ok.pre.lets] at ht
  have := (mem_whichAre ht).1
  simp [this]
theorem Both.twelve (h : Both text raw p q) : q.locals.length ≤ 12 := by
  rw [h.locals, RP.locQ, List.length_map]; exact h.ok.pre.twelve
theorem qline_num (p : RP) (i : Nat) : (p.qline i).num = i := rfl
/-- the lines of block j, up to line m -/
def idxP (p : RP) (j m : Nat) : List Nat := ((List.range m).filter p.plain).filter fun i => p.cnt i == j + 1
theorem Both.block (h : Both text raw p q) (j : Nat) : q.blocks.getD j [] = (idxP p j p.lines.length).map p.qline := by
  have h1 := flat_filter (fun l : QLine => p.cnt l.num) q.blocks 1 j (fun j l hl => by rw [h.inb j l hl]; omega)
  rw [h1, h.lr.flat, List.filter_map, idxP]
  congr 1
  apply List.filter_congr
  intro i _
  simp only [Function.comp, qline_num]
  rw [show 1 + j = j + 1 by omega]
theorem plain_iff {i : Nat} : p.plain i = true ↔ (isLet (p.line i) = false ∧ isBlock (p.line i) = false) := by
  simp [RP.plain]
end
end Go.Proofs.YtmlgajhhnojdjaaGreatDoor.FlwV
/- Plain facts: every line of a program, both ways; the ways ahead of a line, both ways. -/
namespace Go.Proofs.YtmlgajhhnojdjaaGreatDoor.FlwW
open Go Go.Proofs.YtmlgajhhnojdjaaGreatDoor.Spec Go.Proofs.YtmlgajhhnojdjaaGreatDoor.Aux Go.Proofs.YtmlgajhhnojdjaaGreatDoor.FlwA Go.Proofs.YtmlgajhhnojdjaaGreatDoor.FlwB Go.Proofs.YtmlgajhhnojdjaaGreatDoor.FlwC Go.Proofs.YtmlgajhhnojdjaaGreatDoor.FlwD Go.Proofs.YtmlgajhhnojdjaaGreatDoor.FlwE Go.Proofs.YtmlgajhhnojdjaaGreatDoor.FlwF Go.Proofs.YtmlgajhhnojdjaaGreatDoor.FlwG Go.Proofs.YtmlgajhhnojdjaaGreatDoor.FlwH Go.Proofs.YtmlgajhhnojdjaaGreatDoor.FlwI Go.Proofs.YtmlgajhhnojdjaaGreatDoor.FlwJ Go.Proofs.YtmlgajhhnojdjaaGreatDoor.FlwK Go.Proofs.YtmlgajhhnojdjaaGreatDoor.FlwM Go.Proofs.YtmlgajhhnojdjaaGreatDoor.FlwO Go.Proofs.YtmlgajhhnojdjaaGreatDoor.FlwP Go.Proofs.YtmlgajhhnojdjaaGreatDoor.FlwQ Go.Proofs.YtmlgajhhnojdjaaGreatDoor.FlwS Go.Proofs.YtmlgajhhnojdjaaGreatDoor.FlwT Go.Proofs.YtmlgajhhnojdjaaGreatDoor.FlwU Go.Proofs.YtmlgajhhnojdjaaGreatDoor.FlwV

section
variable {text : B} {p : RP} {q : QP}
theorem both_ty {raw : Bool} (h : Both text raw p q) : TyLink q p.toPP := by
  have key : ∀ n, (∃ t, t < 4 ∧ q.tyOf n = t ∧ p.toPP.tyOf n = kindWord t) ∨ (q.tyOf n = 0 ∧ p.toPP.tyOf n = []) := fun n => by
    by_cases hn : n < p.lets.length
    · left
      have hm : p.lets[n] ∈ p.whichAre isLet := by rw [← h.ok.pre.lets]; exact List.getElem_mem hn
      have hx := mem_whichAre hm
      have hf := h.ok.pre.form _ hx.1
      have hlet : word (p.line p.lets[n]) 0 = wLet := by simpa [isLet] using hx.2
      rw [lineForm, if_pos hlet] at hf
      simp only [Bool.and_eq_true, decide_eq_true_eq] at hf
      obtain ⟨t, ht, ht4, htw⟩ := tyIdx_word hf.2
      refine ⟨t, ht4, ?_, ?_⟩
      · rw [QP.tyOf, h.locals, RP.locQ, List.getD_eq_getElem?_getD, List.getElem?_map, List.getElem?_eq_getElem hn]
        simp only [Option.map_some, Option.getD_some, RP.locAt]
        rw [ht]; rfl
      · rw [PProg.tyOf, RP.toPP, RP.localsOf, List.getD_eq_getElem?_getD, List.getElem?_map, List.getElem?_eq_getElem hn]
        simp only [Option.map_some, Option.getD_some]
        exact htw
    · right
      constructor
      · rw [QP.tyOf, h.locals, RP.locQ, List.getD_eq_getElem?_getD, List.getElem?_eq_none (by simp; omega)]; rfl
      · rw [PProg.tyOf, RP.toPP, RP.localsOf, List.getD_eq_getElem?_getD, List.getElem?_eq_none (by simp; omega)]; rfl
  have k4 : ∀ t, t < 4 → (t = 2 ↔ kindWord t = wPair) ∧ (t = 3 ↔ kindWord t = wOpt) := by decide
  constructor
  · intro n
    rcases key n with ⟨t, h4, h1, h2⟩ | ⟨h1, h2⟩
    · rw [h1, h2]; exact (k4 t h4).1
    · rw [h1, h2]; exact ⟨fun x => absurd x (by decide), fun x => absurd x (by decide)⟩
  · intro n
    rcases key n with ⟨t, h4, h1, h2⟩ | ⟨h1, h2⟩
    · rw [h1, h2]; exact (k4 t h4).2
    · rw [h1, h2]; exact ⟨fun x => absurd x (by decide), fun x => absurd x (by decide)⟩
end
end Go.Proofs.YtmlgajhhnojdjaaGreatDoor.FlwW
/- Plain facts: where the lines of a block lead, and which of them is wrong first: from line to line. -/
namespace Go.Proofs.YtmlgajhhnojdjaaGreatDoor.FlwX
open Go Go.Proofs.YtmlgajhhnojdjaaGreatDoor.Spec Go.Proofs.YtmlgajhhnojdjaaGreatDoor.Aux Go.Proofs.YtmlgajhhnojdjaaGreatDoor.FlwA Go.Proofs.YtmlgajhhnojdjaaGreatDoor.FlwB Go.Proofs.YtmlgajhhnojdjaaGreatDoor.FlwC Go.Proofs.YtmlgajhhnojdjaaGreatDoor.FlwD Go.Proofs.YtmlgajhhnojdjaaGreatDoor.FlwE Go.Proofs.YtmlgajhhnojdjaaGreatDoor.FlwF Go.Proofs.YtmlgajhhnojdjaaGreatDoor.FlwG Go.Proofs.YtmlgajhhnojdjaaGreatDoor.FlwH Go.Proofs.YtmlgajhhnojdjaaGreatDoor.FlwI Go.Proofs.YtmlgajhhnojdjaaGreatDoor.FlwJ Go.Proofs.YtmlgajhhnojdjaaGreatDoor.FlwK Go.Proofs.YtmlgajhhnojdjaaGreatDoor.FlwM Go.Proofs.YtmlgajhhnojdjaaGreatDoor.FlwO Go.Proofs.YtmlgajhhnojdjaaGreatDoor.FlwP Go.Proofs.YtmlgajhhnojdjaaGreatDoor.FlwQ Go.Proofs.YtmlgajhhnojdjaaGreatDoor.FlwS Go.Proofs.YtmlgajhhnojdjaaGreatDoor.FlwT Go.Proofs.YtmlgajhhnojdjaaGreatDoor.FlwU Go.Proofs.YtmlgajhhnojdjaaGreatDoor.FlwV Go.Proofs.YtmlgajhhnojdjaaGreatDoor.FlwW

theorem digits_number {w : B} (h : formedP w 98 = true) : (digitsP w).getD 0 = (number w).getD 0 := by
  have h1 : (digitsP w).isSome = true := h
  have h2 := digitsP_eq w
  cases hn : number w with
  | none => rw [hn] at h2; rw [h2] at h1; cases h1
  | some n =>
    rw [hn] at h2
    simp only at h2
    split at h2
    · rw [h2]
    · rw [h2] at h1; cases h1
section
variable {text : B} {p : RP} {q : QP}
/-! the first wrong one -/
end
end Go.Proofs.YtmlgajhhnojdjaaGreatDoor.FlwX
/- Plain facts: the ways that were gone to the end, as the document's own ways of the blocks: closed, and the least; so both find the same line first. -/
namespace Go.Proofs.YtmlgajhhnojdjaaGreatDoor.FlwY
theorem hereFlwY : True := trivial
end Go.Proofs.YtmlgajhhnojdjaaGreatDoor.FlwY
