/- Plain definitions: a program as the project keeps it, made of sentences; and that its names and types are asked for as the document's own reader does. -/
import Derived.Test.YtmlgajhhnojdjaaGreatDoorBAC
namespace Go.Proofs.YtmlgajhhnojdjaaGreatDoor.Spec
open Go

structure QLine where
  num : Nat
  op : Nat
  places : List (Nat × Nat)
  number : Int
  flag : Int
  next : List Nat
structure QP where
  locals : List (B × Nat)
  blocks : List (List QLine)
def QP.empty : QP := ⟨[], []⟩
def findQGo : List (B × Nat) → B → Nat → Int
  | [], _, _ => -1
  | x :: r, n, k => if x.1 = n then k else findQGo r n (k + 1)
def findQ (ls : List (B × Nat)) (n : B) : Int := findQGo ls n 0
/-- the words of a line looked up: none, if one names what there is not -/
def lineGo (ls : List (B × Nat)) (nb : Nat) : B → List B → QLine → Option QLine
  | [], _, l => some l
  | c :: f, ws, l =>
    if c = 35 ∨ c = 118 then lineGo ls nb f (ws.drop 1) { l with number := (numberP (word ws 0)).getD 0 }
    else if c = 102 then lineGo ls nb f (ws.drop 1) { l with flag := (digitsP (word ws 0)).getD 0 }
    else if c = 98 then
      (if ((digitsP (word ws 0)).getD 0) ≥ nb then none else lineGo ls nb f (ws.drop 1) { l with next := l.next ++ [((digitsP (word ws 0)).getD 0).toNat] })
    else
      (if findQ ls ((splitPl (word ws 0)).getD ([], 0)).1 < 0 then none
       else lineGo ls nb f (ws.drop 1) { l with places := l.places ++ [((findQ ls ((splitPl (word ws 0)).getD ([], 0)).1).toNat, ((splitPl (word ws 0)).getD ([], 0)).2)] })
def lineP (ls : List (B × Nat)) (nb : Nat) (x : Nat × List B) : Option QLine := lineGo ls nb (wantsOf x.1) x.2 ⟨0, x.1, [], 0, 0, []⟩
def QP.addLocal (q : QP) (x : B × Nat) : QP := { q with locals := q.locals ++ [x] }
def QP.addBlock (q : QP) : QP := { q with blocks := q.blocks ++ [[]] }
def QP.addLine (q : QP) (l : QLine) : QP := { q with blocks := q.blocks.dropLast ++ [q.blocks.getLastD [] ++ [l]] }
/-- a program made of sentences: the first one with a name twice, or of nothing -/
def lookGo (nb : Nat) : List (Nat × List B) → Nat → QP → QP × Option Nat
  | [], _, q => (q, none)
  | x :: r, i, q =>
    if x.1 = 0 then
      (if findQ q.locals (word x.2 0) ≥ 0 then (q, some i) else lookGo nb r (i + 1) (q.addLocal (word x.2 0, (tyIdx (word x.2 1)).getD 0)))
    else if x.1 = 1 then lookGo nb r (i + 1) q.addBlock
    else match lineP q.locals nb x with
      | none => (q, some i)
      | some l => lookGo nb r (i + 1) (q.addLine { l with num := i })
def countB (l : List (Nat × List B)) : Nat := (l.filter fun x => x.1 == 1).length
/-- the kind of a place: none, if its local has no such part -/
def QP.tyOf (q : QP) (n : Nat) : Nat := (q.locals.getD n ([], 0)).2
def QP.kind (q : QP) (x : Nat × Nat) : Option Nat :=
  if x.2 = 1 ∨ x.2 = 2 then (if q.tyOf x.1 = 2 then some 1 else none)
  else if x.2 = 3 then (if q.tyOf x.1 = 3 then some 1 else none) else some (q.tyOf x.1)
def isKindP (t : Nat) (c : UInt8) : Bool := if c = 105 then t == 0 else if c = 111 then t == 3 else if c = 112 then t == 1 else !(t == 0)
def QP.okPlace (q : QP) (x : Nat × Nat) (c : UInt8) : Bool := match q.kind x with | none => false | some t => isKindP t c
def QP.fitsGo (q : QP) (f : B) : List (Nat × Nat) → Nat → Bool
  | [], _ => true
  | x :: r, k => q.okPlace x (f.getD k 0) && QP.fitsGo q f r (k + 1)
/-- the kind of a place as Kind hands it out, whatever ok says -/
def QP.kindV (q : QP) (x : Nat × Nat) : Nat := if x.2 = 1 ∨ x.2 = 2 ∨ x.2 = 3 then 1 else q.tyOf x.1
def QP.fits (q : QP) (l : QLine) : Bool := q.fitsGo (wantsOf l.op) l.places 0 && (!(l.op == 12) || q.kindV (l.places.getD 0 (0, 0)) == q.kindV (l.places.getD 1 (0, 0)))
def QP.misfit (q : QP) : Option Nat := ((q.blocks.flatten).find? fun l => !q.fits l).map (·.num)

theorem findQGo_ge (ls : List (B × Nat)) (n : B) (k : Nat) : -1 ≤ findQGo ls n k ∧ findQGo ls n k < (k + ls.length : Nat) := by
  induction ls generalizing k with
  | nil => simp [findQGo]; omega
  | cons x r ih =>
    rw [findQGo]
    split
    · simp; omega
    · have := ih (k + 1); simp at this ⊢; omega
/-- which part a letter means -/
def pidx (c : UInt8) : Nat := if c = 97 then 1 else if c = 98 then 2 else if c = 115 then 3 else 0
theorem splitPl_place {w : B} (h : isPlace w = true) : splitPl w = some (localOf w, pidx (partOf w)) := by
  have h' := h
  rw [← place_eq] at h'
  rw [splitPl] at h' ⊢
  cases hc : (cutDot w).2 with
  | none =>
    obtain ⟨h1, h2⟩ := cutDot_none hc
    have hd := dotted_no h2
    simp only
    rw [h1, localOf, partOf, hd]; rfl
  | some t =>
    rw [hc] at h'
    obtain ⟨h1, h2⟩ := cutDot_some hc
    simp only at h' ⊢
    generalize (cutDot w).1 = a at h1 h2 h' ⊢
    have key : ∀ x : UInt8, t = [x] → 1 ≤ a.length → localOf w = a ∧ partOf w = x := by
      intro x ht hal
      subst ht
      have hlen : w.length = a.length + 2 := by rw [h1]; simp
      have hx : w[w.length - 2]? = some 46 := by rw [hlen, h1]; simp
      have hd : dotted w = true := by rw [dotted, hx]; simp; omega
      exact ⟨by rw [localOf, if_pos hd, h1]; simp, by rw [partOf, if_pos hd, h1]; simp⟩
    have hlen : isName a = true → 1 ≤ a.length := fun e => by
      simp only [isName, Bool.and_eq_true, decide_eq_true_eq] at e; exact e.1.2
    by_cases h97 : t = [97]
    · rw [if_pos h97] at h' ⊢
      obtain ⟨k1, k2⟩ := key 97 h97 (hlen h')
      rw [k1, k2]; rfl
    · rw [if_neg h97] at h' ⊢
      by_cases h98 : t = [98]
      · rw [if_pos h98] at h' ⊢
        obtain ⟨k1, k2⟩ := key 98 h98 (hlen h')
        rw [k1, k2]; rfl
      · rw [if_neg h98] at h' ⊢
        by_cases h115 : t = [115]
        · rw [if_pos h115] at h' ⊢
          obtain ⟨k1, k2⟩ := key 115 h115 (hlen h')
          rw [k1, k2]; rfl
        · rw [if_neg h115] at h'; cases h'
theorem isName_place {w : B} (h : isName w = true) : isPlace w = true ∧ localOf w = w ∧ partOf w = 0 := by
  have hd : dotted w = false := dotted_no (fun e => by rw [name_nodot e] at h; cases h)
  have hl : localOf w = w := by rw [localOf, hd]; rfl
  exact ⟨by simp [isPlace, hl, h], hl, by rw [partOf, hd]; rfl⟩
theorem part_fit {w : B} (h : isPlace w = true) : partOf w = 0 ∨ partOf w = 97 ∨ partOf w = 98 ∨ partOf w = 115 := by
  by_cases hd : dotted w = true
  · rw [isPlace, Bool.and_eq_true] at h
    have h2 := h.2
    simp only [Bool.or_eq_true, decide_eq_true_eq, beq_iff_eq] at h2
    rcases h2 with ((h2 | h2) | h2) | h2
    · exfalso
      rw [localOf, if_pos hd] at h2
      have := congrArg List.length h2
      simp only [dotted, Bool.and_eq_true, decide_eq_true_eq] at hd
      simp at this; omega
    · exact .inr (.inl h2)
    · exact .inr (.inr (.inl h2))
    · exact .inr (.inr (.inr h2))
  · left; rw [partOf, if_neg hd]
end Go.Proofs.YtmlgajhhnojdjaaGreatDoor.Spec
