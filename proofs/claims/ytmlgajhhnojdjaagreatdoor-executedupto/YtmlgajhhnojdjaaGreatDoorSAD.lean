/- Plain definitions: a program as the project keeps it, made of sentences; and that its names and types are asked for as the document's own reader does. -/
import Derived.Test.YtmlgajhhnojdjaaGreatDoorSAC
namespace Go.Proofs.YtmlgajhhnojdjaaGreatDoor.Spec
open Go

structure QLine where
  num : Nat
  op : Nat
  places : List (Nat × Nat)
  number : Int
  flag : Int
  next : List Nat
structure QP where
  locals : List (B × Nat)
  blocks : List (List QLine)
def QP.empty : QP := ⟨[], []⟩
def findQGo : List (B × Nat) → B → Nat → Int
  | [], _, _ => -1
  | x :: r, n, k => if x.1 = n then k else findQGo r n (k + 1)
def findQ (ls : List (B × Nat)) (n : B) : Int := findQGo ls n 0
/-- the words of a line looked up: none, if one names what there is not -/
def lineGo (ls : List (B × Nat)) (nb : Nat) : B → List B → QLine → Option QLine
  | [], _, l => some l
  | c :: f, ws, l =>
    if c = 35 ∨ c = 118 then lineGo ls nb f (ws.drop 1) { l with number := (numberP (word ws 0)).getD 0 }
    else if c = 102 then lineGo ls nb f (ws.drop 1) { l with flag := (digitsP (word ws 0)).getD 0 }
    else if c = 98 then
      (if ((digitsP (word ws 0)).getD 0) ≥ nb then none else lineGo ls nb f (ws.drop 1) { l with next := l.next ++ [((digitsP (word ws 0)).getD 0).toNat] })
    else
      (if findQ ls ((splitPl (word ws 0)).getD ([], 0)).1 < 0 then none
       else lineGo ls nb f (ws.drop 1) { l with places := l.places ++ [((findQ ls ((splitPl (word ws 0)).getD ([], 0)).1).toNat, ((splitPl (word ws 0)).getD ([], 0)).2)] })
def lineP (ls : List (B × Nat)) (nb : Nat) (x : Nat × List B) : Option QLine := lineGo ls nb (wantsOf x.1) x.2 ⟨0, x.1, [], 0, 0, []⟩
def QP.addLocal (q : QP) (x : B × Nat) : QP := { q with locals := q.locals ++ [x] }
def QP.addBlock (q : QP) : QP := { q with blocks := q.blocks ++ [[]] }
def QP.addLine (q : QP) (l : QLine) : QP := { q with blocks := q.blocks.dropLast ++ [q.blocks.getLastD [] ++ [l]] }
/-- a program made of sentences: the first one with a name twice, or of nothing -/
def lookGo (nb : Nat) : List (Nat × List B) → Nat → QP → QP × Option Nat
  | [], _, q => (q, none)
  | x :: r, i, q =>
    if x.1 = 0 then
      (if findQ q.locals (word x.2 0) ≥ 0 then (q, some i) else lookGo nb r (i + 1) (q.addLocal (word x.2 0, (tyIdx (word x.2 1)).getD 0)))
    else if x.1 = 1 then lookGo nb r (i + 1) q.addBlock
    else match lineP q.locals nb x with
      | none => (q, some i)
      | some l => lookGo nb r (i + 1) (q.addLine { l with num := i })
def countB (l : List (Nat × List B)) : Nat := (l.filter fun x => x.1 == 1).length
/-- the kind of a place: none, if its local has no such part -/
def QP.tyOf (q : QP) (n : Nat) : Nat := (q.locals.getD n ([], 0)).2
def QP.kind (q : QP) (x : Nat × Nat) : Option Nat :=
  if x.2 = 1 ∨ x.2 = 2 then (if q.tyOf x.1 = 2 then some 1 else none)
  else if x.2 = 3 then (if q.tyOf x.1 = 3 then some 1 else none) else some (q.tyOf x.1)
def isKindP (t : Nat) (c : UInt8) : Bool := if c = 105 then t == 0 else if c = 111 then t == 3 else if c = 112 then t == 1 else !(t == 0)
def QP.okPlace (q : QP) (x : Nat × Nat) (c : UInt8) : Bool := match q.kind x with | none => false | some t => isKindP t c
def QP.fitsGo (q : QP) (f : B) : List (Nat × Nat) → Nat → Bool
  | [], _ => true
  | x :: r, k => q.okPlace x (f.getD k 0) && QP.fitsGo q f r (k + 1)
/-- the kind of a place as Kind hands it out, whatever ok says -/
def QP.kindV (q : QP) (x : Nat × Nat) : Nat := if x.2 = 1 ∨ x.2 = 2 ∨ x.2 = 3 then 1 else q.tyOf x.1
def QP.fits (q : QP) (l : QLine) : Bool := q.fitsGo (wantsOf l.op) l.places 0 && (!(l.op == 12) || q.kindV (l.places.getD 0 (0, 0)) == q.kindV (l.places.getD 1 (0, 0)))
def QP.misfit (q : QP) : Option Nat := ((q.blocks.flatten).find? fun l => !q.fits l).map (·.num)

theorem findQGo_ge (ls : List (B × Nat)) (n : B) (k : Nat) : -1 ≤ findQGo ls n k ∧ findQGo ls n k < (k + ls.length : Nat) := by
  induction ls generalizing k with
  | nil => simp [findQGo]; omega
  | cons x r ih =>
    rw [findQGo]
    split
    · simp; omega
    · have := ih (k + 1); simp at this ⊢; omega
/-- which part a letter means -/
def pidx (c : UInt8) : Nat := if c = 97 then 1 else if c = 98 then 2 else if c = 115 then 3 else 0
theorem splitPl_place {w : B} (h : isPlace w = true) : splitPl w = some (localOf w, pidx (partOf w)) := by
  have h' := h
  rw [← place_eq] at h'
  rw [splitPl] at h' ⊢
  cases hc : (cutDot w).2 with
  | none =>
    obtain ⟨h1, h2⟩ := cutDot_none hc
    have hd := dotted_no h2
    simp only
    rw [h1, localOf, partOf, hd]; rfl
  | some t =>
    rw [hc] at h'
    obtain ⟨h1, h2⟩ := cutDot_some hc
    simp only at h' ⊢
    generalize (cutDot w).1 = a at h1 h2 h' ⊢
    have key : ∀ x : UInt8, t = [x] → 1 ≤ a.length → localOf w = a ∧ partOf w = x := by
      intro x ht hal
      subst ht
      have hlen : w.length = a.length + 2 := by rw [h1]; simp
      have hx : w[w.length - 2]? = some 46 := by rw [hlen, h1]; simp
      have hd : dotted w = true := by rw [dotted, hx]; simp; omega
      exact ⟨by rw [localOf, if_pos hd, h1]; simp, by rw [partOf, if_pos hd, h1]; simp⟩
    have hlen : isName a = true → 1 ≤ a.length := fun e => by
      simp only [isName, Bool.and_eq_true, decide_eq_true_eq] at e; exact e.1.2
    by_cases h97 : t = [97]
    · rw [if_pos h97] at h' ⊢
      obtain ⟨k1, k2⟩ := key 97 h97 (hlen h')
      rw [k1, k2]; rfl
    · rw [if_neg h97] at h' ⊢
      by_cases h98 : t = [98]
      · rw [if_pos h98] at h' ⊢
        obtain ⟨k1, k2⟩ := key 98 h98 (hlen h')
        rw [k1, k2]; rfl
      · rw [if_neg h98] at h' ⊢
        by_cases h115 : t = [115]
        · rw [if_pos h115] at h' ⊢
          obtain ⟨k1, k2⟩ := key 115 h115 (hlen h')
          rw [k1, k2]; rfl
        · rw [if_neg h115] at h'; cases h'
theorem isName_place {w : B} (h : isName w = true) : isPlace w = true ∧ localOf w = w ∧ partOf w = 0 := by
  have hd : dotted w = false := dotted_no (fun e => by rw [name_nodot e] at h; cases h)
  have hl : localOf w = w := by rw [localOf, hd]; rfl
  exact ⟨by simp [isPlace, hl, h], hl, by rw [partOf, hd]; rfl⟩
theorem part_fit {w : B} (h : isPlace w = true) : partOf w = 0 ∨ partOf w = 97 ∨ partOf w = 98 ∨ partOf w = 115 := by
  by_cases hd : dotted w = true
  · rw [isPlace, Bool.and_eq_true] at h
    have h2 := h.2
    simp only [Bool.or_eq_true, decide_eq_true_eq, beq_iff_eq] at h2
    rcases h2 with ((h2 | h2) | h2) | h2
    · exfalso
      rw [localOf, if_pos hd] at h2
      have := congrArg List.length h2
      simp only [dotted, Bool.and_eq_true, decide_eq_true_eq] at hd
      simp at this; omega
    · exact .inr (.inl h2)
    · exact .inr (.inr (.inl h2))
    · exact .inr (.inr (.inr h2))
  · left; rw [partOf, if_neg hd]
end Go.Proofs.YtmlgajhhnojdjaaGreatDoor.Spec
/- Plain facts: the project's reader, form by form and name by name, answers as the document's own. -/
namespace Go.Proofs.YtmlgajhhnojdjaaGreatDoor.Spec
open Go

/-- sentences made of lines; the first line that is none, or may not stand there -/
def splitGo (raw : Bool) : List (List B) → OrdP → Nat → List (Nat × List B) × OrdP × Option Nat
  | [], o, _ => ([], o, none)
  | ws :: r, o, i => match sentP ws with
    | none => ([], o, some i)
    | some x => if (admitsP raw o x.1).2 = true then (x :: (splitGo raw r (admitsP raw o x.1).1 (i + 1)).1, (splitGo raw r (admitsP raw o x.1).1 (i + 1)).2) else ([], o, some i)
def RP.sent (p : RP) (i : Nat) : Nat × List B := ((opIdx (word (p.line i) 0)).getD 0, (p.line i).drop 1)
theorem sentP_sent {ws : List B} {x : Nat × List B} (h : sentP ws = some x) : x = ((opIdx (word ws 0)).getD 0, ws.drop 1) ∧ opIdx (word ws 0) = some x.1 := by
  rw [sentP] at h
  cases ho : opIdx (word ws 0) with
  | none => rw [ho] at h; cases h
  | some op =>
    rw [ho] at h
    simp only at h
    split at h
    · cases h; exact ⟨rfl, rfl⟩
    · cases h
theorem admitsP_sec (raw : Bool) (o : OrdP) (op : Nat) (h : o.sec ≤ 2) : (admitsP raw o op).1.sec ≤ 2 := by
  unfold admitsP
  repeat (first | (split; (first | exact h | (simp; done) | skip)) | exact h | simp)
/-- the form of all lines, both ways -/
theorem split_read (raw : Bool) : ∀ (ls : List (List B)) (p : RP) (o : OrdP), p.raw = raw → OrdRel p o → o.sec ≤ 2 → (∀ ws ∈ ls, 1 ≤ ws.length) →
    (∀ k, (splitGo raw ls o p.lines.length).2.2 = some k → ∃ q, readForm ls p p.lines.length = (q, some k)) ∧
    ((splitGo raw ls o p.lines.length).2.2 = none → ∃ q, readForm ls p p.lines.length = (q, none) ∧ OrdRel q (splitGo raw ls o p.lines.length).2.1 ∧ (splitGo raw ls o p.lines.length).2.1.sec ≤ 2 ∧
      (splitGo raw ls o p.lines.length).1 = ls.map fun ws => ((opIdx (word ws 0)).getD 0, ws.drop 1))
  | [], p, o, _, R, hs, _ => ⟨fun k h => by simp [splitGo] at h, fun _ => ⟨p, rfl, R, hs, rfl⟩⟩
  | ws :: r, p, o, hr, R, hs, hw => by
    have hf := form_eq R (hw ws (List.mem_cons_self ..))
    rw [splitGo, readForm]
    cases hx : sentP ws with
    | none =>
      rw [hx] at hf
      simp only at hf ⊢
      rw [hf]
      exact ⟨fun k h => ⟨p.addLine ws, by cases h; rfl⟩, fun h => by cases h⟩
    | some x =>
      rw [hx] at hf
      simp only at hf ⊢
      rw [hr] at hf
      rw [hf]
      by_cases ha : (admitsP raw o x.1).2 = true
      · rw [if_pos ha, if_pos ha]
        have R' := R.next hx (by rw [hr]; exact ha)
        rw [hr] at R'
        have hl : ((p.addLine ws).mark p.lines.length).lines.length = p.lines.length + 1 := by rw [RP.mark_lines]; simp [RP.addLine]
        have ih := split_read raw r _ _ (by rw [RP.mark_raw]; exact hr) R' (admitsP_sec raw o x.1 hs) (fun y hy => hw y (List.mem_cons_of_mem _ hy))
        rw [hl] at ih
        refine ⟨ih.1, fun h => ?_⟩
        obtain ⟨q, h1, h2, h3, h4⟩ := ih.2 h
        refine ⟨q, h1, h2, h3, ?_⟩
        simp only [List.map_cons]
        rw [h4, (sentP_sent hx).1]
      · rw [if_neg ha, if_neg ha]
        exact ⟨fun k h => ⟨p.addLine ws, by cases h; rfl⟩, fun h => by cases h⟩

def RP.locAt (p : RP) (j : Nat) : B × Nat := (word (p.line j) 1, (tyIdx (word (p.line j) 2)).getD 0)
def RP.locQ (p : RP) : List (B × Nat) := p.lets.map p.locAt
def RP.qline (p : RP) (i : Nat) : QLine := { (lineP p.locQ p.blocks.length (p.sent i)).getD ⟨0, 0, [], 0, 0, []⟩ with num := i }
def RP.plain (p : RP) (i : Nat) : Bool := !isLet (p.line i) && !isBlock (p.line i)
theorem find_locQ (p : RP) (n : B) : ∀ (l : List Nat) (k : Nat), findQGo (l.map p.locAt) n k = p.findGo n l k
  | [], k => rfl
  | t :: r, k => by
    rw [List.map_cons, findQGo, RP.findGo, find_locQ p n r (k + 1)]; rfl
theorem find_eq (p : RP) (n : B) : findQ p.locQ n = p.find n := find_locQ p n p.lets 0

/-- a line's words that were looked up are there -/
theorem lineGo_names {p : RP} : ∀ (f : B) (_ : ∀ c ∈ f, c ∈ ([105, 111, 112, 109, 35, 98, 102, 118] : List UInt8)) (ws : List B) (_ : formedGo f ws = true) (l : QLine),
    (lineGo p.locQ p.blocks.length f ws l).isSome = p.namesGo (f.map letter) ws
  | [], _, _, _, _ => rfl
  | c :: f, hc, ws, hf, l => by
    rw [formedGo, Bool.and_eq_true] at hf
    have hc0 := hc c (List.mem_cons_self ..)
    have hcr : ∀ x ∈ f, x ∈ ([105, 111, 112, 109, 35, 98, 102, 118] : List UInt8) := fun x hx => hc x (List.mem_cons_of_mem _ hx)
    have ih := fun l => lineGo_names (p := p) f hcr (ws.drop 1) hf.2 l
    have hw := hf.1
    rw [lineGo, List.map_cons, RP.namesGo]
    have place : isPlace (word ws 0) = true → (if findQ p.locQ ((splitPl (word ws 0)).getD ([], 0)).1 < 0 then none
       else lineGo p.locQ p.blocks.length f (ws.drop 1) { l with places := l.places ++ [((findQ p.locQ ((splitPl (word ws 0)).getD ([], 0)).1).toNat, ((splitPl (word ws 0)).getD ([], 0)).2)] }).isSome = (decide (0 ≤ p.find (localOf (word ws 0))) && p.namesGo (f.map letter) (ws.drop 1)) := by
      intro hp
      rw [splitPl_place hp]
      simp only [Option.getD_some]
      rw [find_eq]
      by_cases h0 : p.find (localOf (word ws 0)) < 0
      · rw [if_pos h0]; simp [show ¬ 0 ≤ p.find (localOf (word ws 0)) by omega]
      · rw [if_neg h0, ih]; simp [show 0 ≤ p.find (localOf (word ws 0)) by omega]
    simp only [List.mem_cons, List.not_mem_nil, or_false] at hc0
    rcases hc0 with rfl | rfl | rfl | rfl | rfl | rfl | rfl | rfl
    · exact place (isName_place hw).1
    · exact place (isName_place hw).1
    · exact place (by rw [← place_eq]; exact hw)
    · exact place (by rw [← place_eq]; exact hw)
    · exact ih _
    · show (if ((digitsP (word ws 0)).getD 0) ≥ (p.blocks.length : Int) then none else _).isSome = (decide ((number (word ws 0)).getD 0 < p.blocks.length) && _)
      have hd : (digitsP (word ws 0)).getD 0 = (number (word ws 0)).getD 0 := by
        have h1 : (digitsP (word ws 0)).isSome = true := hw
        have h2 := digitsP_eq (word ws 0)
        cases hn : number (word ws 0) with
        | none => rw [hn] at h2; rw [h2] at h1; cases h1
        | some n =>
          rw [hn] at h2
          simp only at h2
          split at h2
          · rw [h2]
          · rw [h2] at h1; cases h1
      rw [hd]
      by_cases h0 : (number (word ws 0)).getD 0 ≥ (p.blocks.length : Int)
      · rw [if_pos h0]; simp [show ¬ (number (word ws 0)).getD 0 < (p.blocks.length : Int) by omega]
      · rw [if_neg h0, ih]; simp [show (number (word ws 0)).getD 0 < (p.blocks.length : Int) by omega]
    · exact ih _
    · exact ih _
theorem wants_kinds {op : Nat} (h : op < 23) (h2 : 2 ≤ op) : ∀ c ∈ wantsOf op, c ∈ ([105, 111, 112, 109, 35, 98, 102, 118] : List UInt8) := by
  have : ∀ op : Fin 23, 2 ≤ op.val → ∀ c ∈ wantsOf op.val, c ∈ ([105, 111, 112, 109, 35, 98, 102, 118] : List UInt8) := by decide
  exact this ⟨op, h⟩ h2
/-- what the form of a line gives: its number, its words -/
theorem line_op {p : RP} (H : Pre p) {j : Nat} (hj : j < p.lines.length) : ∃ op, opIdx (word (p.line j) 0) = some op ∧ op < 23 ∧ (p.plain j = true → 2 ≤ op ∧ formedGo (wantsOf op) ((p.line j).drop 1) = true ∧ (behind (word (p.line j) 0) p.raw).1 = behindOf op ∧ (p.line j).length = (wantsOf op).length + 1) := by
  have hf := H.form j hj
  cases ho : opIdx (word (p.line j) 0) with
  | none =>
    obtain ⟨n1, n2, n3⟩ := behind_none ho p.raw
    rw [lineForm, if_neg n1, if_neg n2, n3] at hf
    cases hf
  | some op =>
    refine ⟨op, rfl, opIdx_lt ho, fun hp => ?_⟩
    simp only [RP.plain, isLet, isBlock, Bool.and_eq_true, Bool.not_eq_true', beq_eq_false_iff_ne, ne_eq] at hp
    have e0 : ¬ op = 0 := fun e => hp.1 ((let_op ho).mpr e)
    have e1 : ¬ op = 1 := fun e => hp.2 ((block_op ho).mpr e)
    have h2 : 2 ≤ op := by omega
    rw [lineForm, if_neg hp.1, if_neg hp.2, behind_op ho h2] at hf
    simp only [Bool.and_eq_true, decide_eq_true_eq] at hf
    obtain ⟨hfb, hfl⟩ := formed_behind (opIdx_lt ho) h2 ((p.line j).drop 1)
    exact ⟨h2, by rw [hfb]; exact hf.2, by rw [behind_op ho h2], by omega⟩
theorem line_names {p : RP} (H : Pre p) {j : Nat} (hj : j < p.lines.length) (hp : p.plain j = true) : (lineP p.locQ p.blocks.length (p.sent j)).isSome = p.names j := by
  obtain ⟨op, ho, hl, h⟩ := line_op H hj
  obtain ⟨h2, hf, hb, -⟩ := h hp
  have hs : p.sent j = (op, (p.line j).drop 1) := by rw [RP.sent, ho]; rfl
  have hlet : ¬ word (p.line j) 0 = wLet := by
    simp only [RP.plain, isLet, Bool.and_eq_true, Bool.not_eq_true', beq_eq_false_iff_ne, ne_eq] at hp; exact hp.1
  rw [RP.names, if_neg hlet, hb, hs, lineP, lineGo_names _ (wants_kinds hl h2) _ hf, behindOf]
  by_cases h15 : op = 15
  · rw [if_pos h15, h15]; rfl
  · rw [if_neg h15]

/-- what the looking up has come to at line k -/
structure LR (p : RP) (q : QP) (k : Nat) : Prop where
  locals : q.locals = (p.lets.filter fun t => decide (t < k)).map p.locAt
  blocks : q.blocks.length = (p.blocks.filter fun b => decide (b < k)).length
  flat : q.blocks.flatten = ((List.range k).filter p.plain).map p.qline
theorem LR.start (p : RP) : LR p QP.empty 0 := ⟨by simp [QP.empty], by rw [List.filter_eq_nil_iff.mpr (by simp)]; rfl, by simp [QP.empty]⟩
theorem filter_range_lt (n k : Nat) (f : Nat → Bool) : ((List.range n).filter f).filter (fun t => decide (t < k)) = (List.range (min k n)).filter f := by
  induction n with
  | zero => simp
  | succ n ih =>
    rw [List.range_succ, List.filter_append, List.filter_append, ih]
    by_cases h : n < k
    · rw [show min k (n + 1) = n + 1 by omega, show min k n = n by omega, List.range_succ, List.filter_append]
      congr 1
      cases hf : f n <;> simp [hf, h]
    · rw [show min k (n + 1) = min k n by omega]
      cases hf : f n <;> simp [hf, h]
theorem lets_lt {p : RP} (H : Pre p) (k : Nat) (hk : k ≤ p.lines.length) : (p.lets.filter fun t => decide (t < k)) = (List.range k).filter fun j => isLet (p.line j) := by
  rw [H.lets, RP.whichAre, filter_range_lt, show min k p.lines.length = k by omega]
theorem blocks_lt {p : RP} (H : Pre p) (k : Nat) (hk : k ≤ p.lines.length) : (p.blocks.filter fun t => decide (t < k)) = (List.range k).filter fun j => isBlock (p.line j) := by
  rw [H.blocks, RP.whichAre, filter_range_lt, show min k p.lines.length = k by omega]
theorem filter_succ (k : Nat) (f : Nat → Bool) : (List.range (k + 1)).filter f = (List.range k).filter f ++ if f k then [k] else [] := by
  rw [List.range_succ, List.filter_append]
  congr 1
  cases h : f k <;> simp [h]
/-- behind the lets all locals are known; a plain line stands in a block -/
theorem plain_all {p : RP} (H : Pre p) {k : Nat} (hk : k < p.lines.length) (hp : p.plain k = true) : (p.lets.filter fun t => decide (t < k)) = p.lets ∧ 1 ≤ (p.blocks.filter fun b => decide (b < k)).length := by
  have hp' := hp
  simp only [RP.plain, Bool.and_eq_true, Bool.not_eq_true'] at hp'
  have hin : p.inside k = true := by
    rcases H.inb k hk with h | h
    · rw [hp'.1] at h; cases h
    · rw [h, hp'.2]; rfl
  have hb : ∃ b, b < k ∧ b ∈ p.blocks := by
    have : ∀ (ls : List (List B)), insideR ls = true → ∃ ws ∈ ls, word ws 0 = wBlock := by
      intro ls
      induction ls with
      | nil => intro h; cases h
      | cons a r ih =>
        intro h
        rw [insideR] at h
        by_cases h1 : word a 0 = wBlock
        · exact ⟨a, List.mem_cons_self .., h1⟩
        · rw [if_neg h1] at h
          by_cases h2 : ends (word a 0) = true
          · rw [if_pos h2] at h; cases h
          · rw [if_neg h2] at h
            obtain ⟨ws, hm, hw⟩ := ih h
            exact ⟨ws, List.mem_cons_of_mem _ hm, hw⟩
    obtain ⟨ws, hm, hw⟩ := this _ hin
    rw [List.mem_reverse] at hm
    obtain ⟨b, hbl, hbe⟩ := List.mem_take_iff_getElem.mp hm
    refine ⟨b, by omega, ?_⟩
    rw [H.blocks, RP.whichAre, List.mem_filter]
    refine ⟨by simp; omega, ?_⟩
    have : p.line b = ws := by rw [RP.line, List.getD_eq_getElem?_getD, List.getElem?_eq_getElem (by omega), hbe]; rfl
    rw [isBlock, this, hw]; rfl
  obtain ⟨b, hbk, hbm⟩ := hb
  constructor
  · rw [List.filter_eq_self]
    intro t ht
    have htm := ht
    rw [H.lets] at htm
    have := mem_whichAre htm
    have := H.first t this.1 this.2 b hbm
    simp; omega
  · have : b ∈ p.blocks.filter fun b => decide (b < k) := by rw [List.mem_filter]; exact ⟨hbm, by simp [hbk]⟩
    exact List.length_pos_of_mem this
theorem flatten_addLine (q : QP) (l : QLine) (h : 1 ≤ q.blocks.length) : (q.addLine l).blocks.flatten = q.blocks.flatten ++ [l] ∧ (q.addLine l).blocks.length = q.blocks.length := by
  have hne : q.blocks ≠ [] := by intro e; rw [e] at h; simp at h
  have hsp : q.blocks = q.blocks.dropLast ++ [q.blocks.getLast hne] := (List.dropLast_concat_getLast hne).symm
  have hg : q.blocks.getLastD [] = q.blocks.getLast hne := by rw [List.getLastD_eq_getLast?, List.getLast?_eq_some_getLast hne]; rfl
  constructor
  · unfold QP.addLine
    simp only
    rw [hg]
    conv => rhs; rw [hsp]
    simp
  · unfold QP.addLine
    simp; omega
theorem findQGo_app (A C : List (B × Nat)) (n : B) (k : Nat) : findQGo (A ++ C) n k = if 0 ≤ findQGo A n k then findQGo A n k else findQGo C n (k + A.length) := by
  induction A generalizing k with
  | nil => simp [findQGo]
  | cons y r ih =>
    by_cases h : y.1 = n
    · have e1 : findQGo (y :: r) n k = k := by rw [findQGo, if_pos h]
      have e2 : findQGo (y :: r ++ C) n k = k := by rw [List.cons_append, findQGo, if_pos h]
      rw [e1, e2, if_pos (by omega)]
    · have e1 : findQGo (y :: r) n k = findQGo r n (k + 1) := by rw [findQGo, if_neg h]
      have e2 : findQGo (y :: r ++ C) n k = findQGo (r ++ C) n (k + 1) := by rw [List.cons_append, findQGo, if_neg h]
      rw [e1, e2, ih, List.length_cons, show k + 1 + r.length = k + (r.length + 1) by omega]
/-- the names of all lines, both ways -/
theorem look_names {p : RP} (H : Pre p) : ∀ (m k : Nat) (q : QP), k + m = p.lines.length → LR p q k →
    (lookGo p.blocks.length (((List.range p.lines.length).map p.sent).drop k) k q).2 = firstNot p.names m k ∧
    (firstNot p.names m k = none → LR p (lookGo p.blocks.length (((List.range p.lines.length).map p.sent).drop k) k q).1 p.lines.length)
  | 0, k, q, hk, R => by
    rw [List.drop_eq_nil_of_le (by simp; omega), lookGo]
    refine ⟨rfl, fun _ => ?_⟩
    rw [show p.lines.length = k by omega]; exact R
  | m + 1, k, q, hk, R => by
    have hkl : k < p.lines.length := by omega
    have hd : ((List.range p.lines.length).map p.sent).drop k = p.sent k :: ((List.range p.lines.length).map p.sent).drop (k + 1) := by
      rw [List.drop_eq_getElem_cons (by simpa using hkl)]; simp
    rw [hd, lookGo, firstNot]
    obtain ⟨op, ho, hl, hpl⟩ := line_op H hkl
    have hs : p.sent k = (op, (p.line k).drop 1) := by rw [RP.sent, ho]; rfl
    have e0 := let_op ho
    have e1 := block_op ho
    have hll := lets_lt H k (by omega)
    have hll1 := lets_lt H (k + 1) (by omega)
    have hbl := blocks_lt H k (by omega)
    have hbl1 := blocks_lt H (k + 1) (by omega)
    rw [filter_succ, ← hll] at hll1
    rw [filter_succ, ← hbl] at hbl1
    have w1 : word ((p.line k).drop 1) 0 = word (p.line k) 1 := by simp [word]
    have w2 : word ((p.line k).drop 1) 1 = word (p.line k) 2 := by simp [word]
    by_cases h0 : op = 0
    · have hw := e0.mpr h0
      have hL : isLet (p.line k) = true := by rw [isLet, hw]; rfl
      have hB : isBlock (p.line k) = false := by rw [isBlock, hw]; rfl
      rw [if_pos (by rw [hs]; exact h0), hs]
      simp only [w1, w2]
      rw [hL, if_pos rfl] at hll1
      rw [hB] at hbl1
      have hsplit : ∃ L2, p.lets = (p.lets.filter fun t => decide (t < k)) ++ k :: L2 := by
        rw [hll]
        have : p.lets = (List.range p.lines.length).filter fun j => isLet (p.line j) := H.lets
        have hr : List.range p.lines.length = List.range k ++ k :: (List.range p.lines.length).drop (k + 1) := by
          have h1 := List.take_append_drop k (List.range p.lines.length)
          rw [List.drop_eq_getElem_cons (by simpa using hkl), List.take_range, show min k p.lines.length = k by omega] at h1
          simpa using h1.symm
        rw [this, hr, List.filter_append, List.filter_cons, hL, if_pos rfl]
        exact ⟨_, rfl⟩
      obtain ⟨L2, hL2⟩ := hsplit
      have hfe := find_eq p (word (p.line k) 1)
      have hlk : (p.locAt k).1 = word (p.line k) 1 := rfl
      rw [findQ, RP.locQ, hL2, List.map_append, ← R.locals, List.map_cons, findQGo_app, findQGo, if_pos hlk] at hfe
      have hlen : q.locals.length = (p.lets.filter fun t => decide (t < k)).length := by rw [R.locals]; simp
      have hna : p.names k = decide (p.lets.getD (p.find (word (p.line k) 1)).toNat 0 = k) := by rw [RP.names, if_pos hw]
      have hge := findQGo_ge q.locals (word (p.line k) 1) 0
      by_cases hf : findQ q.locals (word (p.line k) 1) ≥ 0
      · have hf' : 0 ≤ findQGo q.locals (word (p.line k) 1) 0 := hf
        rw [if_pos hf]
        rw [if_pos hf'] at hfe
        have hfalse : p.names k = false := by
          rw [hna, ← hfe]
          simp only [decide_eq_false_iff_not]
          obtain ⟨j, hj⟩ : ∃ j : Nat, findQGo q.locals (word (p.line k) 1) 0 = j := ⟨_, (Int.toNat_of_nonneg hf').symm⟩
          rw [hj] at hge ⊢
          have hjl : j < (p.lets.filter fun t => decide (t < k)).length := by rw [← hlen]; have := hge.2; simp at this; exact this
          rw [hL2, Int.toNat_natCast, List.getD_eq_getElem?_getD, List.getElem?_append_left hjl, List.getElem?_eq_getElem hjl, Option.getD_some]
          intro e
          have hm := List.getElem_mem hjl
          rw [List.mem_filter] at hm
          have := hm.2
          simp only [decide_eq_true_eq] at this
          omega
        rw [hfalse]
        simp
      · have hf' : ¬ 0 ≤ findQGo q.locals (word (p.line k) 1) 0 := hf
        rw [if_neg hf]
        rw [if_neg hf'] at hfe
        have htrue : p.names k = true := by
          rw [hna, ← hfe, hlen]
          generalize (p.lets.filter fun t => decide (t < k)) = G at hL2 ⊢
          rw [hL2]
          simp
        rw [htrue, if_pos rfl]
        refine look_names H m (k + 1) _ (by omega) ⟨?_, ?_, ?_⟩
        · rw [hll1, List.map_append, ← R.locals]; rfl
        · rw [hbl1]; simp [QP.addLocal, R.blocks]
        · rw [filter_succ]
          have : p.plain k = false := by rw [RP.plain, hL]; rfl
          rw [this]
          simp [QP.addLocal, R.flat]
    · rw [if_neg (by rw [hs]; exact h0)]
      have hw0 : ¬ word (p.line k) 0 = wLet := fun e => h0 (e0.mp e)
      have hL : isLet (p.line k) = false := by rw [isLet]; simp [hw0]
      rw [hL, if_neg (by simp), List.append_nil] at hll1
      by_cases h1 : op = 1
      · have hw := e1.mpr h1
        have hB : isBlock (p.line k) = true := by rw [isBlock, hw]; rfl
        rw [if_pos (by rw [hs]; exact h1)]
        rw [hB, if_pos rfl] at hbl1
        have hn : p.names k = true := by
          rw [RP.names, if_neg hw0, hw]
          have : (behind wBlock p.raw).1 = [] := by cases p.raw <;> rfl
          rw [this]; rfl
        rw [if_pos hn]
        refine look_names H m (k + 1) q.addBlock (by omega) ⟨?_, ?_, ?_⟩
        · rw [hll1]; exact R.locals
        · rw [hbl1]; simp [QP.addBlock, R.blocks]
        · rw [filter_succ]
          have : p.plain k = false := by rw [RP.plain, hB]; simp
          rw [this]
          simp [QP.addBlock, R.flat]
      · rw [if_neg (by rw [hs]; exact h1)]
        have hw1 : ¬ word (p.line k) 0 = wBlock := fun e => h1 (e1.mp e)
        have hB : isBlock (p.line k) = false := by rw [isBlock]; simp [hw1]
        rw [hB, if_neg (by simp), List.append_nil] at hbl1
        have hp : p.plain k = true := by rw [RP.plain, hL, hB]; rfl
        obtain ⟨ha, hb1⟩ := plain_all H hkl hp
        have hloc : q.locals = p.locQ := by rw [R.locals, ha]; rfl
        have hn := line_names H hkl hp
        rw [hloc]
        cases hlp : lineP p.locQ p.blocks.length (p.sent k) with
        | none =>
          rw [hlp] at hn
          rw [← hn]
          simp
        | some l =>
          rw [hlp] at hn
          rw [← hn, Option.isSome_some, if_pos rfl]
          simp only
          have hq : p.qline k = { l with num := k } := by rw [RP.qline, hlp]; rfl
          obtain ⟨f1, f2⟩ := flatten_addLine q { l with num := k } (by rw [R.blocks]; exact hb1)
          refine look_names H m (k + 1) _ (by omega) ⟨?_, ?_, ?_⟩
          · rw [hll1]; exact R.locals
          · rw [hbl1, f2]; exact R.blocks
          · rw [filter_succ, hp, if_pos rfl, f1, R.flat, List.map_append, List.map_cons, List.map_nil, hq]

/-- a kind's word -/
def kindWord (t : Nat) : B := typeTab.getD t []
theorem tyIdx_word {w : B} (h : isType w = true) : ∃ t, tyIdx w = some t ∧ t < 4 ∧ w = kindWord t := by
  simp only [isType, Bool.or_eq_true, beq_iff_eq] at h
  rcases h with ((h | h) | h) | h <;> subst h
  · exact ⟨0, rfl, by omega, rfl⟩
  · exact ⟨1, rfl, by omega, rfl⟩
  · exact ⟨2, rfl, by omega, rfl⟩
  · exact ⟨3, rfl, by omega, rfl⟩
/-- the type of a place's local, both ways -/
theorem ty_eq {p : RP} (H : Pre p) {q : QP} (hq : q.locals = p.locQ) {w : B} (h : 0 ≤ p.find (localOf w)) : q.tyOf (p.find (localOf w)).toNat < 4 ∧ p.typeW w = kindWord (q.tyOf (p.find (localOf w)).toNat) := by
  obtain ⟨j, hj, hjl, -⟩ := RP.find_lt h
  have hm : p.lets.getD j 0 ∈ p.lets := by rw [List.getD_eq_getElem?_getD, List.getElem?_eq_getElem hjl]; exact List.getElem_mem hjl
  have hm' : p.lets.getD j 0 ∈ p.whichAre isLet := by rw [← H.lets]; exact hm
  have hx := mem_whichAre hm'
  have hf := H.form _ hx.1
  have hlet : word (p.line (p.lets.getD j 0)) 0 = wLet := by simpa [isLet] using hx.2
  rw [lineForm, if_pos hlet] at hf
  simp only [Bool.and_eq_true, decide_eq_true_eq] at hf
  obtain ⟨t, ht, ht4, htw⟩ := tyIdx_word hf.2
  have hty : q.tyOf j = t := by
    rw [QP.tyOf, hq, RP.locQ, List.getD_eq_getElem?_getD, List.getElem?_map, List.getElem?_eq_getElem hjl]
    simp only [Option.map_some, Option.getD_some, RP.locAt]
    rw [List.getD_eq_getElem?_getD, List.getElem?_eq_getElem hjl, Option.getD_some] at ht
    rw [ht]; rfl
  rw [RP.typeW, hj, Int.toNat_natCast, hty]
  exact ⟨ht4, htw⟩
theorem kind_eq {p : RP} (H : Pre p) {q : QP} (hq : q.locals = p.locQ) {w : B} (h : 0 ≤ p.find (localOf w)) (hp : isPlace w = true) :
    (q.kind ((p.find (localOf w)).toNat, pidx (partOf w)) = none ∧ p.typeOf w = []) ∨
    (∃ t, t < 4 ∧ q.kind ((p.find (localOf w)).toNat, pidx (partOf w)) = some t ∧ p.typeOf w = kindWord t ∧ q.kindV ((p.find (localOf w)).toNat, pidx (partOf w)) = t) := by
  obtain ⟨h4, ht⟩ := ty_eq H hq h
  generalize hT : q.tyOf (p.find (localOf w)).toNat = T at h4 ht
  have h2 : p.typeW w = wPair ↔ T = 2 := by
    rw [ht]
    have : ∀ T : Fin 4, kindWord T.val = wPair ↔ T.val = 2 := by decide
    exact this ⟨T, h4⟩
  have h3 : p.typeW w = wOpt ↔ T = 3 := by
    rw [ht]
    have : ∀ T : Fin 4, kindWord T.val = wOpt ↔ T.val = 3 := by decide
    exact this ⟨T, h4⟩
  rcases part_fit hp with e | e | e | e
  · right
    refine ⟨T, h4, ?_, ?_, ?_⟩
    · rw [QP.kind, e]; simp [pidx, hT]
    · rw [RP.typeOf, e, if_neg (by decide), if_neg (by decide), ht]
    · rw [QP.kindV, e]; simp [pidx, hT]
  · by_cases hx : T = 2
    · right
      refine ⟨1, by omega, ?_, ?_, ?_⟩
      · rw [QP.kind, e]; simp [pidx, hT, hx]
      · rw [RP.typeOf, e, if_pos (.inl rfl), if_pos (h2.mpr hx)]; rfl
      · rw [QP.kindV, e]; simp [pidx]
    · left
      exact ⟨by rw [QP.kind, e]; simp [pidx, hT, hx], by rw [RP.typeOf, e, if_pos (.inl rfl), if_neg (fun e => hx (h2.mp e))]⟩
  · by_cases hx : T = 2
    · right
      refine ⟨1, by omega, ?_, ?_, ?_⟩
      · rw [QP.kind, e]; simp [pidx, hT, hx]
      · rw [RP.typeOf, e, if_pos (.inr rfl), if_pos (h2.mpr hx)]; rfl
      · rw [QP.kindV, e]; simp [pidx]
    · left
      exact ⟨by rw [QP.kind, e]; simp [pidx, hT, hx], by rw [RP.typeOf, e, if_pos (.inr rfl), if_neg (fun e => hx (h2.mp e))]⟩
  · by_cases hx : T = 3
    · right
      refine ⟨1, by omega, ?_, ?_, ?_⟩
      · rw [QP.kind, e]; simp [pidx, hT, hx]
      · rw [RP.typeOf, e, if_neg (by decide), if_pos rfl, if_pos (h3.mpr hx)]; rfl
      · rw [QP.kindV, e]; simp [pidx]
    · left
      exact ⟨by rw [QP.kind, e]; simp [pidx, hT, hx], by rw [RP.typeOf, e, if_neg (by decide), if_pos rfl, if_neg (fun e => hx (h3.mp e))]⟩
theorem kindWord_ne {t : Nat} (h : t < 4) : ¬ kindWord t = [] ∧ (kindWord t = wInt ↔ t = 0) ∧ (kindWord t = wBox ↔ t = 1) ∧ (kindWord t = wOpt ↔ t = 3) := by
  have : ∀ t : Fin 4, ¬ kindWord t.val = [] ∧ (kindWord t.val = wInt ↔ t.val = 0) ∧ (kindWord t.val = wBox ↔ t.val = 1) ∧ (kindWord t.val = wOpt ↔ t.val = 3) := by decide
  exact this ⟨t, h⟩
theorem kindWord_inj {t u : Nat} (h : t < 4) (h' : u < 4) : kindWord t = kindWord u ↔ t = u := by
  have : ∀ t u : Fin 4, kindWord t.val = kindWord u.val ↔ t.val = u.val := by decide
  exact this ⟨t, h⟩ ⟨u, h'⟩
/-- a place of the right kind, both ways (but for moves, which ask for one kind besides) -/
theorem typeOk_eq {p : RP} (H : Pre p) {q : QP} (hq : q.locals = p.locQ) {w : B} (h : 0 ≤ p.find (localOf w)) (hp : isPlace w = true) {c : UInt8} (hc : c ∈ ([105, 111, 112] : List UInt8)) (w1 : B) :
    p.typeOk c w w1 = q.okPlace ((p.find (localOf w)).toNat, pidx (partOf w)) c := by
  rcases kind_eq H hq h hp with ⟨h1, h2⟩ | ⟨t, ht, h1, h2, -⟩
  · rw [QP.okPlace, h1, RP.typeOk, h2]
    simp only [List.mem_cons, List.not_mem_nil, or_false] at hc
    rcases hc with rfl | rfl | rfl <;> rfl
  · rw [QP.okPlace, h1, RP.typeOk, h2]
    obtain ⟨k1, k2, k3, k4⟩ := kindWord_ne ht
    simp only [List.mem_cons, List.not_mem_nil, or_false] at hc
    rcases hc with rfl | rfl | rfl
    · rw [if_neg (by decide), if_neg k1]
      have hk : isKindP t 105 = (t == 0) := rfl
      simp only
      rw [hk]
      by_cases ht0 : t = 0
      · rw [if_neg (by simp [k2.mpr ht0]), if_neg (by simp), if_neg (by simp)]; simp [ht0]
      · rw [if_pos (.inl ⟨by simp, fun e => ht0 (k2.mp e)⟩)]; simp [ht0]
    · rw [if_neg (by decide), if_neg k1]
      have hk : isKindP t 111 = (t == 3) := rfl
      simp only
      rw [hk]
      by_cases ht0 : t = 3
      · rw [if_neg (by simp [k4.mpr ht0]), if_neg (by simp), if_neg (by simp)]; simp [ht0]
      · rw [if_pos (.inr (.inr ⟨by simp, fun e => ht0 (k4.mp e)⟩))]; simp [ht0]
    · rw [if_neg (by decide), if_neg k1]
      have hk : isKindP t 112 = (t == 1) := rfl
      simp only
      rw [hk]
      by_cases ht0 : t = 1
      · rw [if_neg (by simp [k3.mpr ht0]), if_neg (by simp), if_neg (by simp)]; simp [ht0]
      · rw [if_pos (.inr (.inl ⟨by simp, fun e => ht0 (k3.mp e)⟩))]; simp [ht0]
theorem typeOk_drop {p : RP} (H : Pre p) {q : QP} (hq : q.locals = p.locQ) {w : B} (h : 0 ≤ p.find (localOf w)) (hp : isPlace w = true) (w1 : B) :
    p.typeOk 100 w w1 = q.okPlace ((p.find (localOf w)).toNat, pidx (partOf w)) 109 := by
  rcases kind_eq H hq h hp with ⟨h1, h2⟩ | ⟨t, ht, h1, h2, -⟩
  · rw [QP.okPlace, h1, RP.typeOk, h2]; rfl
  · rw [QP.okPlace, h1, RP.typeOk, h2]
    obtain ⟨k1, k2, k3, k4⟩ := kindWord_ne ht
    have hk : isKindP t 109 = !(t == 0) := rfl
    simp only
    rw [hk, if_neg (by decide), if_neg k1, if_neg (by simp)]
    by_cases ht0 : t = 0
    · rw [if_pos ⟨by simp, k2.mpr ht0⟩]; simp [ht0]
    · rw [if_neg (fun e => ht0 (k2.mp e.2)), if_neg (by simp)]; simp [ht0]
theorem typeOk_move {p : RP} (H : Pre p) {q : QP} (hq : q.locals = p.locQ) {w w1 : B} (h : 0 ≤ p.find (localOf w)) (hp : isPlace w = true) (h' : 0 ≤ p.find (localOf w1)) (hp' : isPlace w1 = true) (hf : q.okPlace ((p.find (localOf w1)).toNat, pidx (partOf w1)) 109 = true) :
    p.typeOk 109 w w1 = (q.okPlace ((p.find (localOf w)).toNat, pidx (partOf w)) 109 && (q.kindV ((p.find (localOf w1)).toNat, pidx (partOf w1)) == q.kindV ((p.find (localOf w)).toNat, pidx (partOf w)))) := by
  rcases kind_eq H hq h' hp' with ⟨g1, g2⟩ | ⟨u, hu, g1, g2, g3⟩
  · rw [QP.okPlace, g1] at hf; cases hf
  · rcases kind_eq H hq h hp with ⟨h1, h2⟩ | ⟨t, ht, h1, h2, h3⟩
    · rw [QP.okPlace, h1, RP.typeOk, h2]; rfl
    · rw [QP.okPlace, h1, RP.typeOk, h2, g2, h3, g3]
      obtain ⟨k1, k2, k3, k4⟩ := kindWord_ne ht
      have hk : isKindP t 109 = !(t == 0) := rfl
      simp only
      rw [hk, if_neg (by decide), if_neg k1, if_neg (by simp)]
      have hi := kindWord_inj ht hu
      by_cases ht0 : t = 0
      · rw [if_pos ⟨by simp, k2.mpr ht0⟩]; simp [ht0]
      · rw [if_neg (fun e => ht0 (k2.mp e.2))]
        by_cases hut : t = u
        · rw [if_neg (fun e => e.2 (hi.mpr hut))]; simp [hut]; omega
        · rw [if_pos ⟨by simp, fun e => hut (hi.mp e)⟩]; simp [ht0]; omega
end Go.Proofs.YtmlgajhhnojdjaaGreatDoor.Spec
