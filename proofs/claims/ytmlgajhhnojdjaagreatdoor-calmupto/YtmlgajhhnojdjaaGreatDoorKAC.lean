/- Plain facts: what a program has whose form, names and types are right. -/
import Derived.Test.YtmlgajhhnojdjaaGreatDoorKAB
namespace Go.Proofs.YtmlgajhhnojdjaaGreatDoor.Spec
open Go

def isType (t : B) : Bool := t == wInt || t == wBox || t == wPair || t == wOpt
/-- the words of one line by themselves -/
def lineForm (raw : Bool) (ws : List B) : Bool :=
  if word ws 0 = wLet then decide (ws.length = 3) && isName (word ws 1) && isType (word ws 2)
  else if word ws 0 = wBlock then decide (ws.length = 1)
  else (behind (word ws 0) raw).2 && decide (ws.length = (behind (word ws 0) raw).1.length + 1) && formGo (behind (word ws 0) raw).1 (ws.drop 1)
def isLet (ws : List B) : Bool := word ws 0 == wLet
def isBlock (ws : List B) : Bool := word ws 0 == wBlock
def RP.whichAre (p : RP) (f : List B → Bool) : List Nat := (List.range p.lines.length).filter fun j => f (p.line j)
/-- what the reading of the form gives -/
structure Pre (p : RP) : Prop where
  form : ∀ j, j < p.lines.length → lineForm p.raw (p.line j) = true
  inb : ∀ j, j < p.lines.length → isLet (p.line j) = true ∨ p.inside j = !isBlock (p.line j)
  lets : p.lets = p.whichAre isLet
  blocks : p.blocks = p.whichAre isBlock
  first : ∀ j, j < p.lines.length → isLet (p.line j) = true → ∀ b ∈ p.blocks, j < b
  twelve : p.lets.length ≤ 12
  most : p.blocks.length ≤ if p.raw then 2000 else 20
theorem RP.inside_addLine (p : RP) (ws : List B) (j : Nat) (h : j ≤ p.lines.length) : (p.addLine ws).inside j = p.inside j := by
  unfold RP.inside RP.addLine
  simp only
  rw [List.take_append_of_le_length h]
theorem RP.mark_inside (p : RP) (i j : Nat) : (p.mark i).inside j = p.inside j := by
  unfold RP.inside; rw [p.mark_lines]
theorem RP.lineForm_of {p : RP} {i : Nat} (h : p.form i = true) : lineForm p.raw (p.line i) = true := by
  unfold RP.form at h
  unfold lineForm
  by_cases hl : word (p.line i) 0 = wLet
  · rw [if_pos hl] at h ⊢
    by_cases hx : (p.line i).length ≠ 3 ∨ 0 < p.blocks.length ∨ 12 ≤ p.lets.length
    · rw [if_pos hx] at h; cases h
    · rw [if_neg hx] at h
      simp only [not_or, ne_eq, Decidable.not_not] at hx
      simp only [hx.1, decide_true, Bool.true_and, isType]
      exact h
  · rw [if_neg hl] at h ⊢
    by_cases hb : word (p.line i) 0 = wBlock
    · rw [if_pos hb] at h ⊢
      simp only [Bool.and_eq_true] at h
      exact h.1.1.1
    · rw [if_neg hb] at h ⊢
      by_cases hx : (behind (word (p.line i) 0) p.raw).2 = false ∨ p.inside i = false ∨ (p.line i).length ≠ (behind (word (p.line i) 0) p.raw).1.length + 1
      · rw [if_pos hx] at h; cases h
      · rw [if_neg hx] at h
        simp only [not_or, ne_eq, Decidable.not_not, Bool.not_eq_false] at hx
        rw [hx.1, h]
        simp [hx.2.2]
theorem whichAre_addLine (p : RP) (ws : List B) (f : List B → Bool) : (p.addLine ws).whichAre f = p.whichAre f ++ if f ws then [p.lines.length] else [] := by
  have hl : (p.addLine ws).lines.length = p.lines.length + 1 := by simp [RP.addLine]
  unfold RP.whichAre
  rw [hl, List.range_succ, List.filter_append]
  congr 1
  · refine List.filter_congr fun j hj => ?_
    rw [p.addLine_line, if_pos (by simpa using hj)]
  · have : (p.addLine ws).line p.lines.length = ws := by rw [p.addLine_line, if_neg (by omega), if_pos rfl]
    cases hf : f ws <;> simp [this, hf]
theorem whichAre_mark (p : RP) (i : Nat) (f : List B → Bool) : (p.mark i).whichAre f = p.whichAre f := by
  unfold RP.whichAre
  rw [p.mark_lines]
  refine List.filter_congr fun j _ => ?_
  rw [p.mark_line]
theorem Pre.start (raw : Bool) : Pre (Spec.start raw) :=
  ⟨fun j hj => by simp [Spec.start] at hj, fun j hj => by simp [Spec.start] at hj, rfl, rfl, fun j hj => by simp [Spec.start] at hj, by simp [Spec.start], by simp [Spec.start]⟩
theorem mem_whichAre {p : RP} {f : List B → Bool} {b : Nat} (h : b ∈ p.whichAre f) : b < p.lines.length ∧ f (p.line b) = true := by
  unfold RP.whichAre at h; simpa using h
theorem Pre.add {p : RP} (h : Pre p) (ws : List B) (hf : (p.addLine ws).form p.lines.length = true) : Pre ((p.addLine ws).mark p.lines.length) := by
  have hl : (p.addLine ws).lines.length = p.lines.length + 1 := by simp [RP.addLine]
  have hn : (p.addLine ws).line p.lines.length = ws := by rw [p.addLine_line, if_neg (by omega), if_pos rfl]
  have ho : ∀ j, j < p.lines.length → (p.addLine ws).line j = p.line j := fun j hj => by rw [p.addLine_line, if_pos hj]
  have hraw : (p.addLine ws).raw = p.raw := rfl
  have hF := RP.lineForm_of hf
  have hf' := hf
  unfold RP.form at hf
  rw [hn] at hf hF
  rw [p.inside_addLine ws _ (Nat.le_refl _)] at hf
  have eLets : ((p.addLine ws).mark p.lines.length).lets = p.lets ++ if isLet ws then [p.lines.length] else [] := by
    unfold RP.mark RP.addLet RP.addBlock isLet
    rw [hn]
    by_cases h1 : word ws 0 = wLet
    · simp [h1, RP.addLine]
    · rw [if_neg h1]; by_cases h2 : word ws 0 = wBlock <;> simp [h1, h2, RP.addLine]; decide
  have eBlocks : ((p.addLine ws).mark p.lines.length).blocks = p.blocks ++ if isBlock ws then [p.lines.length] else [] := by
    unfold RP.mark RP.addLet RP.addBlock isBlock
    rw [hn]
    by_cases h1 : word ws 0 = wLet
    · simp [h1, RP.addLine]; decide
    · rw [if_neg h1]; by_cases h2 : word ws 0 = wBlock <;> simp [h2, RP.addLine]
  refine ⟨fun j hj => ?_, fun j hj => ?_, ?_, ?_, fun j hj hj' b hb => ?_, ?_, ?_⟩
  · rw [RP.mark_lines, hl] at hj
    rw [RP.mark_line, RP.mark_raw, hraw]
    by_cases hx : j < p.lines.length
    · rw [ho j hx]; exact h.form j hx
    · obtain rfl : j = p.lines.length := by omega
      rw [hn]; exact hF
  · rw [RP.mark_lines, hl] at hj
    rw [RP.mark_line, RP.mark_inside]
    by_cases hx : j < p.lines.length
    · rw [ho j hx, p.inside_addLine ws j (by omega)]; exact h.inb j hx
    · obtain rfl : j = p.lines.length := by omega
      rw [hn, p.inside_addLine ws _ (Nat.le_refl _)]
      by_cases h1 : word ws 0 = wLet
      · exact .inl (by simp [isLet, h1])
      · refine .inr ?_
        rw [if_neg h1] at hf
        by_cases h2 : word ws 0 = wBlock
        · rw [if_pos h2] at hf
          simp only [Bool.and_eq_true, Bool.not_eq_true'] at hf
          rw [hf.1.1.2]; simp [isBlock, h2]
        · rw [if_neg h2] at hf
          cases hi : p.inside p.lines.length
          · rw [if_pos (.inr (.inl hi))] at hf; cases hf
          · simp [isBlock, h2]
  · rw [eLets, whichAre_mark, whichAre_addLine, ← h.lets]
  · rw [eBlocks, whichAre_mark, whichAre_addLine, ← h.blocks]
  · rw [RP.mark_lines, hl] at hj
    rw [RP.mark_line] at hj'
    rw [eBlocks, List.mem_append] at hb
    by_cases hx : j < p.lines.length
    · rw [ho j hx] at hj'
      rcases hb with hb | hb
      · exact h.first j hx hj' b hb
      · split at hb
        · rw [List.mem_singleton] at hb; omega
        · simp at hb
    · obtain rfl : j = p.lines.length := by omega
      rw [hn] at hj'
      have h1 : word ws 0 = wLet := by simpa [isLet] using hj'
      rw [if_pos h1] at hf
      have hx : ¬ (0 < p.blocks.length) := by
        intro hc
        rw [if_pos (.inr (.inl hc))] at hf
        cases hf
      rcases hb with hb | hb
      · have := List.length_pos_of_mem hb; omega
      · have : isBlock ws = false := by simp [isBlock, h1]; decide
        simp [this] at hb
  · rw [eLets]
    cases hw : isLet ws
    · simpa using h.twelve
    · have h1 : word ws 0 = wLet := by simpa [isLet] using hw
      rw [if_pos h1] at hf
      have hx : ¬ (12 ≤ p.lets.length) := by
        intro hc
        rw [if_pos (.inr (.inr hc))] at hf
        cases hf
      simp; omega
  · rw [eBlocks, RP.mark_raw, hraw]
    cases hw : isBlock ws
    · simpa using h.most
    · have h2 : word ws 0 = wBlock := by simpa [isBlock] using hw
      have h1 : ¬ word ws 0 = wLet := by rw [h2]; decide
      rw [if_neg h1, if_pos h2] at hf
      simp only [Bool.and_eq_true, decide_eq_true_eq] at hf
      have := hf.2
      simp only [hraw] at this
      have e : (p.addLine ws).blocks = p.blocks := rfl
      rw [e] at this
      simp; omega
theorem Pre.read : ∀ (ls : List (List B)) (p q : RP), Pre p → readForm ls p p.lines.length = (q, none) → Pre q ∧ q.raw = p.raw ∧ q.lines = p.lines ++ ls
  | [], p, q, h, hr => by
    rw [readForm] at hr
    obtain rfl : p = q := (Prod.mk.inj hr).1
    exact ⟨h, rfl, by simp⟩
  | ws :: r, p, q, h, hr => by
    rw [readForm] at hr
    by_cases hf : (p.addLine ws).form p.lines.length = true
    · rw [if_pos hf] at hr
      have hl : ((p.addLine ws).mark p.lines.length).lines.length = p.lines.length + 1 := by rw [RP.mark_lines]; simp [RP.addLine]
      rw [← hl] at hr
      obtain ⟨h1, h2, h3⟩ := Pre.read r _ q (h.add ws hf) hr
      refine ⟨h1, ?_, ?_⟩
      · rw [h2, RP.mark_raw]; rfl
      · rw [h3, RP.mark_lines]; simp [RP.addLine]
    · rw [if_neg hf] at hr; cases hr
/-- a program that was read whole -/
structure ReadOk (text : B) (raw : Bool) (p : RP) : Prop where
  pre : Pre p
  raw : p.raw = raw
  lines : p.lines = wordsOf text
  shut : p.inside p.lines.length = false
  nonempty : p.blocks ≠ []
  names : ∀ j, j < p.lines.length → p.names j = true
  types : ∀ j, j < p.lines.length → p.typesOk j = true
theorem firstNot_none (f : Nat → Bool) (m k : Nat) (h : firstNot f m k = none) : ∀ j, k ≤ j → j < k + m → f j = true := firstNot_all f m k h
theorem refRead_good {text : B} {raw : Bool} {p : RP} {c k : Nat} (h : refRead text raw = (some p, c, k)) : ReadOk text raw p ∧ c = 0 ∧ k = 0 ∧ (split 10 text).length ≤ 4000 ∧ (raw = false → (split 10 text).length ≤ 120) := by
  unfold refRead at h
  split at h
  · cases h
  · rename_i hlen
    split at h
    · cases h
    · rename_i q hq
      have hp := Pre.read (wordsOf text) (Spec.start raw) q (Pre.start raw) hq
      have hn : q.lines.length = (split 10 text).length := by rw [hp.2.2, ← wordsOf_length]; simp [Spec.start]
      split at h
      · cases h
      · rename_i hs
        split at h
        · cases h
        · rename_i hnm
          split at h
          · cases h
          · rename_i hty
            simp only [Prod.mk.injEq, Option.some.injEq] at h
            obtain ⟨rfl, rfl, rfl⟩ := h
            simp only [not_or, Bool.not_eq_true] at hs
            refine ⟨⟨hp.1, hp.2.1, by rw [hp.2.2]; rfl, by rw [hn]; exact hs.1, fun e => hs.2 (by rw [e]; rfl), fun j hj => ?_, fun j hj => ?_⟩, rfl, rfl, by omega, fun hr => ?_⟩
            · exact firstNot_all _ _ _ hnm j (by omega) (by omega)
            · exact firstNot_all _ _ _ hty j (by omega) (by omega)
            · simp only [not_or, not_and] at hlen
              have := hlen.2 hr; omega
end Go.Proofs.YtmlgajhhnojdjaaGreatDoor.Spec
/- Plain definitions: a program as the project keeps it, made of sentences; and that its names and types are asked for as the document's own reader does. -/
namespace Go.Proofs.YtmlgajhhnojdjaaGreatDoor.Spec
open Go

structure QLine where
  num : Nat
  op : Nat
  places : List (Nat × Nat)
  number : Int
  flag : Int
  next : List Nat
structure QP where
  locals : List (B × Nat)
  blocks : List (List QLine)
def QP.empty : QP := ⟨[], []⟩
def findQGo : List (B × Nat) → B → Nat → Int
  | [], _, _ => -1
  | x :: r, n, k => if x.1 = n then k else findQGo r n (k + 1)
def findQ (ls : List (B × Nat)) (n : B) : Int := findQGo ls n 0
/-- the words of a line looked up: none, if one names what there is not -/
def lineGo (ls : List (B × Nat)) (nb : Nat) : B → List B → QLine → Option QLine
  | [], _, l => some l
  | c :: f, ws, l =>
    if c = 35 ∨ c = 118 then lineGo ls nb f (ws.drop 1) { l with number := (numberP (word ws 0)).getD 0 }
    else if c = 102 then lineGo ls nb f (ws.drop 1) { l with flag := (digitsP (word ws 0)).getD 0 }
    else if c = 98 then
      (if ((digitsP (word ws 0)).getD 0) ≥ nb then none else lineGo ls nb f (ws.drop 1) { l with next := l.next ++ [((digitsP (word ws 0)).getD 0).toNat] })
    else
      (if findQ ls ((splitPl (word ws 0)).getD ([], 0)).1 < 0 then none
       else lineGo ls nb f (ws.drop 1) { l with places := l.places ++ [((findQ ls ((splitPl (word ws 0)).getD ([], 0)).1).toNat, ((splitPl (word ws 0)).getD ([], 0)).2)] })
def lineP (ls : List (B × Nat)) (nb : Nat) (x : Nat × List B) : Option QLine := lineGo ls nb (wantsOf x.1) x.2 ⟨0, x.1, [], 0, 0, []⟩
def QP.addLocal (q : QP) (x : B × Nat) : QP := { q with locals := q.locals ++ [x] }
def QP.addBlock (q : QP) : QP := { q with blocks := q.blocks ++ [[]] }
def QP.addLine (q : QP) (l : QLine) : QP := { q with blocks := q.blocks.dropLast ++ [q.blocks.getLastD [] ++ [l]] }
/-- a program made of sentences: the first one with a name twice, or of nothing -/
def lookGo (nb : Nat) : List (Nat × List B) → Nat → QP → QP × Option Nat
  | [], _, q => (q, none)
  | x :: r, i, q =>
    if x.1 = 0 then
      (if findQ q.locals (word x.2 0) ≥ 0 then (q, some i) else lookGo nb r (i + 1) (q.addLocal (word x.2 0, (tyIdx (word x.2 1)).getD 0)))
    else if x.1 = 1 then lookGo nb r (i + 1) q.addBlock
    else match lineP q.locals nb x with
      | none => (q, some i)
      | some l => lookGo nb r (i + 1) (q.addLine { l with num := i })
def countB (l : List (Nat × List B)) : Nat := (l.filter fun x => x.1 == 1).length
/-- the kind of a place: none, if its local has no such part -/
def QP.tyOf (q : QP) (n : Nat) : Nat := (q.locals.getD n ([], 0)).2
def QP.kind (q : QP) (x : Nat × Nat) : Option Nat :=
  if x.2 = 1 ∨ x.2 = 2 then (if q.tyOf x.1 = 2 then some 1 else none)
  else if x.2 = 3 then (if q.tyOf x.1 = 3 then some 1 else none) else some (q.tyOf x.1)
def isKindP (t : Nat) (c : UInt8) : Bool := if c = 105 then t == 0 else if c = 111 then t == 3 else if c = 112 then t == 1 else !(t == 0)
def QP.okPlace (q : QP) (x : Nat × Nat) (c : UInt8) : Bool := match q.kind x with | none => false | some t => isKindP t c
def QP.fitsGo (q : QP) (f : B) : List (Nat × Nat) → Nat → Bool
  | [], _ => true
  | x :: r, k => q.okPlace x (f.getD k 0) && QP.fitsGo q f r (k + 1)
/-- the kind of a place as Kind hands it out, whatever ok says -/
def QP.kindV (q : QP) (x : Nat × Nat) : Nat := if x.2 = 1 ∨ x.2 = 2 ∨ x.2 = 3 then 1 else q.tyOf x.1
def QP.fits (q : QP) (l : QLine) : Bool := q.fitsGo (wantsOf l.op) l.places 0 && (!(l.op == 12) || q.kindV (l.places.getD 0 (0, 0)) == q.kindV (l.places.getD 1 (0, 0)))
def QP.misfit (q : QP) : Option Nat := ((q.blocks.flatten).find? fun l => !q.fits l).map (·.num)

theorem findQGo_ge (ls : List (B × Nat)) (n : B) (k : Nat) : -1 ≤ findQGo ls n k ∧ findQGo ls n k < (k + ls.length : Nat) := by
  induction ls generalizing k with
  | nil => simp [findQGo]; omega
  | cons x r ih =>
    rw [findQGo]
    split
    · simp; omega
    · have := ih (k + 1); simp at this ⊢; omega
/-- which part a letter means -/
def pidx (c : UInt8) : Nat := if c = 97 then 1 else if c = 98 then 2 else if c = 115 then 3 else 0
theorem splitPl_place {w : B} (h : isPlace w = true) : splitPl w = some (localOf w, pidx (partOf w)) := by
  have h' := h
  rw [← place_eq] at h'
  rw [splitPl] at h' ⊢
  cases hc : (cutDot w).2 with
  | none =>
    obtain ⟨h1, h2⟩ := cutDot_none hc
    have hd := dotted_no h2
    simp only
    rw [h1, localOf, partOf, hd]; rfl
  | some t =>
    rw [hc] at h'
    obtain ⟨h1, h2⟩ := cutDot_some hc
    simp only at h' ⊢
    generalize (cutDot w).1 = a at h1 h2 h' ⊢
    have key : ∀ x : UInt8, t = [x] → 1 ≤ a.length → localOf w = a ∧ partOf w = x := by
      intro x ht hal
      subst ht
      have hlen : w.length = a.length + 2 := by rw [h1]; simp
      have hx : w[w.length - 2]? = some 46 := by rw [hlen, h1]; simp
      have hd : dotted w = true := by rw [dotted, hx]; simp; omega
      exact ⟨by rw [localOf, if_pos hd, h1]; simp, by rw [partOf, if_pos hd, h1]; simp⟩
    have hlen : isName a = true → 1 ≤ a.length := fun e => by
      simp only [isName, Bool.and_eq_true, decide_eq_true_eq] at e; exact e.1.2
    by_cases h97 : t = [97]
    · rw [if_pos h97] at h' ⊢
      obtain ⟨k1, k2⟩ := key 97 h97 (hlen h')
      rw [k1, k2]; rfl
    · rw [if_neg h97] at h' ⊢
      by_cases h98 : t = [98]
      · rw [if_pos h98] at h' ⊢
        obtain ⟨k1, k2⟩ := key 98 h98 (hlen h')
        rw [k1, k2]; rfl
      · rw [if_neg h98] at h' ⊢
        by_cases h115 : t = [115]
        · rw [if_pos h115] at h' ⊢
          obtain ⟨k1, k2⟩ := key 115 h115 (hlen h')
          rw [k1, k2]; rfl
        · rw [if_neg h115] at h'; cases h'
theorem isName_place {w : B} (h : isName w = true) : isPlace w = true ∧ localOf w = w ∧ partOf w = 0 := by
  have hd : dotted w = false := dotted_no (fun e => by rw [name_nodot e] at h; cases h)
  have hl : localOf w = w := by rw [localOf, hd]; rfl
  exact ⟨by simp [isPlace, hl, h], hl, by rw [partOf, hd]; rfl⟩
theorem part_fit {w : B} (h : isPlace w = true) : partOf w = 0 ∨ partOf w = 97 ∨ partOf w = 98 ∨ partOf w = 115 := by
  by_cases hd : dotted w = true
  · rw [isPlace, Bool.and_eq_true] at h
    have h2 := h.2
    simp only [Bool.or_eq_true, decide_eq_true_eq, beq_iff_eq] at h2
    rcases h2 with ((h2 | h2) | h2) | h2
    · exfalso
      rw [localOf, if_pos hd] at h2
      have := congrArg List.length h2
      simp only [dotted, Bool.and_eq_true, decide_eq_true_eq] at hd
      simp at this; omega
    · exact .inr (.inl h2)
    · exact .inr (.inr (.inl h2))
    · exact .inr (.inr (.inr h2))
  · left; rw [partOf, if_neg hd]
end Go.Proofs.YtmlgajhhnojdjaaGreatDoor.Spec
