/- Plain definitions: how the project's reader takes words, lines and a text; and that of words and lines it says what the document's own reader says. -/
import Derived.Test.YtmlgajhhnojdjaaGreatDoorKAA
namespace Go.Proofs.YtmlgajhhnojdjaaGreatDoor.Spec
open Go

/-- the lines' words in the order of their numbers, and what each wants behind it -/
def shapeTab : List (B × B) :=
  [(wLet, [100, 116]), (wBlock, []), ([115, 101, 116], [105, 35]), ([97, 100, 100], [105, 105, 105]), ([115, 117, 98], [105, 105, 105]), ([109, 117, 108], [105, 105, 105]), ([100, 105, 118], [105, 105, 105]),
   ([105, 110], [105]), ([111, 117, 116], [105]), ([110, 101, 119], [112, 105]), ([108, 111, 97, 100], [105, 112]), ([115, 116, 111, 114, 101], [112, 105]), ([109, 111, 118, 101], [109, 109]), ([110, 111, 110, 101], [111]),
   ([115, 111, 109, 101], [111, 112]), ([100, 114, 111, 112], [109]), ([102, 114, 101, 101], [112]), ([102, 108, 97, 103], [102, 118]), ([103, 111, 116, 111], [98]), ([105, 102], [105, 98, 98]),
   ([109, 97, 116, 99, 104], [111, 98, 98]), ([116, 101, 115, 116], [102, 98, 98]), ([101, 110, 100], [105])]
def idxGo (l : List B) (w : B) (k : Nat) : Option Nat :=
  match l with
  | [] => none
  | s :: r => if s = w then some k else idxGo r w (k + 1)
def opIdx (w : B) : Option Nat := idxGo (shapeTab.map (·.1)) w 0
def wantsOf (op : Nat) : B := (shapeTab.getD op ([], [])).2
def typeTab : List B := [wInt, wBox, wPair, wOpt]
def tyIdx (w : B) : Option Nat := idxGo typeTab w 0

/-- a text ahead of its first dot, and what is behind it -/
def cutDot : B → B × Option B
  | [] => ([], none)
  | c :: r => if c = 46 then ([], some r) else (c :: (cutDot r).1, (cutDot r).2)
/-- a place's local, and which part of it: 0 itself, 1 a, 2 b, 3 s -/
def splitPl (w : B) : Option (B × Nat) :=
  match (cutDot w).2 with
  | none => some ((cutDot w).1, 0)
  | some t => if t = [97] then some ((cutDot w).1, 1) else if t = [98] then some ((cutDot w).1, 2) else if t = [115] then some ((cutDot w).1, 3) else none
/-- digits without a sign -/
def digitsP (w : B) : Option Int :=
  match w with
  | [] => none
  | c :: _ => if digit c = true ∧ ¬ (c = 48 ∧ w ≠ [48]) then numGo 0 w else none
def numberP (w : B) : Option Int :=
  match w with
  | [] => digitsP w
  | c :: r => if c = 45 then (match digitsP r with | none => none | some n => if n = 0 then none else some (-n)) else digitsP w
/-- has a word the form that is wanted? -/
def formedP (w : B) (c : UInt8) : Bool :=
  if c = 100 ∨ c = 105 ∨ c = 111 then isName w
  else if c = 116 then (tyIdx w).isSome
  else if c = 112 ∨ c = 109 then (match splitPl w with | some x => isName x.1 | none => false)
  else if c = 35 then (numberP w).isSome
  else if c = 98 then (digitsP w).isSome
  else if c = 102 then (match digitsP w with | some n => decide (n < 50) | none => false)
  else if c = 118 then w == [48] || w == [49]
  else false
def formedGo : B → List B → Bool
  | [], _ => true
  | c :: f, ws => formedP (word ws 0) c && formedGo f (ws.drop 1)
/-- a line's words as a sentence: its number, and the words behind -/
def sentP (ws : List B) : Option (Nat × List B) :=
  match opIdx (word ws 0) with
  | none => none
  | some op => if ws.length - 1 = (wantsOf op).length ∧ formedGo (wantsOf op) (ws.drop 1) = true then some (op, ws.drop 1) else none
def hasP (raw : Bool) (op : Nat) : Bool := if op = 15 then !raw else if op = 16 ∨ op = 17 ∨ op = 21 then raw else true
/-- where a line stands: 0 among the locals, 1 in a block, 2 behind one; how many locals and blocks there were -/
structure OrdP where
  sec : Nat
  locals : Nat
  blocks : Nat
def admitsP (raw : Bool) (o : OrdP) (op : Nat) : OrdP × Bool :=
  if hasP raw op = false then (o, false)
  else if op = 0 then (⟨o.sec, o.locals + 1, o.blocks⟩, o.sec == 0 && decide (o.locals + 1 ≤ 12))
  else if op = 1 then (⟨1, o.locals, o.blocks + 1⟩, decide (0 < o.locals) && !(o.sec == 1) && decide (o.blocks + 1 ≤ if raw then 2000 else 20))
  else if ¬ o.sec = 1 then (o, false)
  else if 18 ≤ op then (⟨2, o.locals, o.blocks⟩, true)
  else (o, true)

theorem idxGo_ge (l : List B) (w : B) (k n : Nat) (h : idxGo l w k = some n) : k ≤ n ∧ n - k < l.length ∧ l.getD (n - k) [] = w := by
  induction l generalizing k with
  | nil => simp [idxGo] at h
  | cons s r ih =>
    rw [idxGo] at h
    split at h
    · rename_i hs
      obtain rfl : k = n := by simpa using h
      simp [hs]
    · obtain ⟨h1, h2, h3⟩ := ih (k + 1) h
      refine ⟨by omega, by simp; omega, ?_⟩
      rw [show n - k = (n - (k + 1)) + 1 by omega]
      simpa using h3
theorem opIdx_lt {w : B} {n : Nat} (h : opIdx w = some n) : n < 23 := by
  have := (idxGo_ge _ _ _ _ h).2.1
  simpa [shapeTab] using this

/-- the document's letters for what stands behind a word: what the project's mean -/
def letter (c : UInt8) : UInt8 := if c = 35 then 110 else if c = 98 then 78 else c
theorem numGo_ge : ∀ (l : B) (n m : Int), 0 ≤ n → numGo n l = some m → n ≤ m
  | [], n, m, _, h => by simp [numGo] at h; omega
  | c :: r, n, m, h0, h => by
    rw [numGo] at h
    split at h
    · rename_i hd
      simp only [digit, Bool.and_eq_true, decide_eq_true_eq] at hd
      split at h
      · cases h
      · have := numGo_ge r _ m (by omega) h
        omega
    · cases h
theorem numGo_pos {c : UInt8} {r : B} {m : Int} (hc : ¬ c = 48) (h : numGo 0 (c :: r) = some m) : 1 ≤ m := by
  rw [numGo] at h
  split at h
  · rename_i hd
    simp only [digit, Bool.and_eq_true, decide_eq_true_eq] at hd
    have h48 : ¬ c.toNat = 48 := fun e => hc ((u8_eq c 48 (by omega)).mpr e)
    split at h
    · cases h
    · have := numGo_ge r _ m (by omega) h
      omega
  · cases h
theorem numGo_nodigit {c : UInt8} {r : B} (n : Int) (h : ¬ digit c = true) : numGo n (c :: r) = none := by rw [numGo, if_neg h]
theorem number_digits {c : UInt8} {r : B} (hc : ¬ c = 45) : number (c :: r) = digitsP (c :: r) := by
  have hu : unsigned (c :: r) = c :: r := by simp [unsigned, hc]
  have hs : signed (c :: r) = false := by simp [signed, hc]
  rw [number, hu, hs, digitsP]
  by_cases h0 : c = 48 ∧ (c :: r) ≠ [48]
  · rw [if_pos (.inr ⟨by rw [h0.1]; rfl, h0.2⟩), if_neg (fun e => e.2 h0)]
  · rw [if_neg (by simp only [List.length_cons, List.head?_cons, Option.some.injEq]; rintro (h | h); omega; exact h0 h)]
    by_cases hd : digit c = true
    · rw [if_pos ⟨hd, h0⟩]
      cases numGo 0 (c :: r) <;> simp
    · rw [if_neg (fun e => hd e.1), numGo_nodigit _ hd]
theorem number_eq (w : B) : numberP w = number w := by
  cases w with
  | nil => rfl
  | cons c r =>
    rw [numberP]
    by_cases hc : c = 45
    · subst hc
      have hu : unsigned (45 :: r) = r := rfl
      have hs : signed (45 :: r) = true := rfl
      rw [if_pos rfl, number, hu, hs]
      cases r with
      | nil => rfl
      | cons d t =>
        by_cases hd : d = 48
        · subst hd
          rw [if_pos (.inr ⟨rfl, by simp⟩), digitsP]
          by_cases ht : t = []
          · subst ht; rfl
          · rw [if_neg (fun e => e.2 ⟨rfl, by simp [ht]⟩)]
        · rw [if_neg (by simp [hd]), digitsP]
          by_cases hdg : digit d = true
          · rw [if_pos ⟨hdg, fun e => hd e.1⟩]
            cases hn : numGo 0 (d :: t) with
            | none => rfl
            | some n =>
              have := numGo_pos hd hn
              simp only
              rw [if_neg (by omega)]; rfl
          · rw [if_neg (fun e => hdg e.1), numGo_nodigit _ hdg]
    · rw [if_neg hc, number_digits hc]
theorem number_neg {r : B} {n : Int} (h : number (45 :: r) = some n) : n ≤ -1 := by
  rw [← number_eq, numberP, if_pos rfl] at h
  cases hd : digitsP r with
  | none => rw [hd] at h; cases h
  | some m =>
    rw [hd] at h
    simp only at h
    split at h
    · cases h
    · simp only [Option.some.injEq] at h
      have : 0 ≤ m := by
        cases r with
        | nil => cases hd
        | cons c t =>
          rw [digitsP] at hd
          split at hd
          · exact numGo_ge _ _ _ (by omega) hd
          · cases hd
      omega
theorem digitsP_ge {w : B} {m : Int} (hd : digitsP w = some m) : 0 ≤ m := by
  cases w with
  | nil => cases hd
  | cons c t =>
    rw [digitsP] at hd
    split at hd
    · exact numGo_ge _ _ _ (by omega) hd
    · cases hd
/-- digits are a number that is not below 0 -/
theorem digitsP_eq (w : B) : digitsP w = match number w with | some n => if 0 ≤ n then some n else none | none => none := by
  cases w with
  | nil => rfl
  | cons c r =>
    by_cases hc : c = 45
    · subst hc
      have h1 : digitsP (45 :: r) = none := by rw [digitsP, if_neg (fun e => absurd e.1 (by decide))]
      rw [h1]
      cases hn : number (45 :: r) with
      | none => rfl
      | some n => have := number_neg hn; simp only; rw [if_neg (by omega)]
    · rw [number_digits hc]
      cases hd : digitsP (c :: r) with
      | none => rfl
      | some n => have := digitsP_ge hd; simp only; rw [if_pos this]
theorem numGo_small (d : UInt8) : numGo 0 [d] = if digit d then some ((d.toNat : Int) - 48) else none := by
  rw [numGo]
  split
  · rename_i hd
    simp only [digit, Bool.and_eq_true, decide_eq_true_eq] at hd
    rw [if_neg (by omega)]
    simp [numGo]
  · rfl
/-- 0 and 1 have one word each -/
theorem number_bit (w : B) : (match number w with | some n => decide (n = 0) || decide (n = 1) | none => false) = (w == [48] || w == [49]) := by
  cases w with
  | nil => rfl
  | cons c r =>
    by_cases hc : c = 45
    · subst hc
      have : ((45 :: r : B) == [48] || (45 :: r : B) == [49]) = false := by simp
      rw [this]
      cases hn : number (45 :: r) with
      | none => rfl
      | some n => have := number_neg hn; simp; omega
    · rw [number_digits hc, digitsP]
      by_cases h48 : c = 48
      · subst h48
        by_cases hr : r = []
        · subst hr; rfl
        · rw [if_neg (fun e => e.2 ⟨rfl, by simp [hr]⟩)]; simp [hr]
      · by_cases hd : digit c = true
        · rw [if_pos ⟨hd, fun e => h48 e.1⟩]
          have hd' := hd
          simp only [digit, Bool.and_eq_true, decide_eq_true_eq] at hd'
          have h48' : ¬ c.toNat = 48 := fun e => h48 ((u8_eq c 48 (by omega)).mpr e)
          rw [numGo, if_pos hd, if_neg (by omega)]
          cases r with
          | nil =>
            rw [numGo]
            simp only
            have h49 : (c == 49) = decide (c.toNat = 49) := by
              rw [Bool.eq_iff_iff]; simp only [beq_iff_eq, decide_eq_true_eq]; exact u8_eq c 49 (by omega)
            have e1 : (([c] : B) == [48]) = false := by simp [h48]
            have e2 : (([c] : B) == [49]) = (c == 49) := by simp
            rw [e1, e2, h49, Bool.eq_iff_iff]; simp; omega
          | cons d t =>
            have : ((c :: d :: t : B) == [48] || (c :: d :: t : B) == [49]) = false := by simp
            rw [this, numGo]
            by_cases hdd : digit d = true
            · rw [if_pos hdd]
              simp only [digit, Bool.and_eq_true, decide_eq_true_eq] at hdd
              by_cases hgt : 10 * (10 * 0 + ((c.toNat : Int) - 48)) + ((d.toNat : Int) - 48) > 1000000000
              · rw [if_pos hgt]
              · rw [if_neg hgt]
                cases hn : numGo (10 * (10 * 0 + ((c.toNat : Int) - 48)) + ((d.toNat : Int) - 48)) t with
                | none => rfl
                | some n => have := numGo_ge _ _ _ (by omega) hn; simp; omega
            · rw [if_neg hdd]
        · rw [if_neg (fun e => hd e.1)]
          have e1 : ¬ c = 49 := fun e => hd (by rw [e]; decide)
          simp [h48, e1]

theorem cutDot_none : ∀ {w : B}, (cutDot w).2 = none → (cutDot w).1 = w ∧ ¬ (46 : UInt8) ∈ w
  | [], _ => by simp [cutDot]
  | c :: r, h => by
    rw [cutDot] at h ⊢
    split at h
    · cases h
    · rename_i hc
      obtain ⟨h1, h2⟩ := cutDot_none (w := r) h
      rw [if_neg hc]
      exact ⟨by simp [h1], by simp only [List.mem_cons, not_or]; exact ⟨fun e => hc e.symm, h2⟩⟩
theorem cutDot_some : ∀ {w t : B}, (cutDot w).2 = some t → w = (cutDot w).1 ++ 46 :: t ∧ ¬ (46 : UInt8) ∈ (cutDot w).1
  | [], t, h => by simp [cutDot] at h
  | c :: r, t, h => by
    rw [cutDot] at h ⊢
    split at h
    · rename_i hc
      simp only [Option.some.injEq] at h
      rw [if_pos hc, hc, h]; simp
    · rename_i hc
      obtain ⟨h1, h2⟩ := cutDot_some (w := r) h
      rw [if_neg hc]
      exact ⟨by simp only [List.cons_append, List.cons.injEq, true_and]; exact h1, by simp only [List.mem_cons, not_or]; exact ⟨fun e => hc e.symm, h2⟩⟩
theorem name_nodot {l : B} (h : (46 : UInt8) ∈ l) : isName l = false := by
  rw [isName]
  have : l.all lower = false := by
    rw [Bool.eq_false_iff]
    intro hh
    have := List.all_eq_true.mp hh 46 h
    simp [lower] at this
  simp [this]
theorem dotted_no {w : B} (h : ¬ (46 : UInt8) ∈ w) : dotted w = false := by
  rw [dotted]
  rw [Bool.eq_false_iff]
  intro hh
  simp only [Bool.and_eq_true, decide_eq_true_eq, beq_iff_eq] at hh
  exact h (List.mem_of_getElem? hh.2)
/-- a place, both ways -/
theorem place_eq (w : B) : (match splitPl w with | some x => isName x.1 | none => false) = isPlace w := by
  rw [splitPl]
  cases h : (cutDot w).2 with
  | none =>
    obtain ⟨h1, h2⟩ := cutDot_none h
    have hd := dotted_no h2
    simp [isPlace, localOf, hd, h1]
  | some t =>
    obtain ⟨h1, h2⟩ := cutDot_some h
    generalize (cutDot w).1 = a at h1 h2
    have hdot : (46 : UInt8) ∈ w := by rw [h1]; simp
    have hlen : w.length = a.length + 1 + t.length := by rw [h1]; simp; omega
    simp only
    have side : ∀ b : Bool, (¬ t.length = 1) → b = false → b = isPlace w := by
      intro b ht hb
      rw [hb, isPlace]
      have : isName (localOf w) = false := by
        rw [localOf]
        split
        · rename_i hd
          rw [dotted] at hd
          simp only [Bool.and_eq_true, decide_eq_true_eq, beq_iff_eq] at hd
          apply name_nodot
          by_cases ht0 : t.length = 0
          · exfalso
            have : t = [] := List.eq_nil_of_length_eq_zero ht0
            subst this
            have hx := hd.2
            rw [h1, List.getElem?_append_left (by simp; simp at hlen; omega)] at hx
            exact h2 (List.mem_of_getElem? hx)
          · rw [h1, List.take_append]
            have : 1 ≤ (a ++ 46 :: t).length - 2 - a.length := by simp; omega
            obtain ⟨m, hm⟩ : ∃ m, (a ++ 46 :: t).length - 2 - a.length = m + 1 := ⟨_, (Nat.sub_add_cancel this).symm⟩
            rw [hm]; simp
        · exact name_nodot hdot
      rw [this]; rfl
    by_cases ht : t.length = 1
    · obtain ⟨x, rfl⟩ := List.length_eq_one_iff.mp ht
      by_cases ha : a = []
      · subst ha
        have hd : dotted w = false := by rw [dotted, hlen]; rfl
        have hn : isName w = false := name_nodot hdot
        have hp : isPlace w = false := by simp [isPlace, localOf, hd, hn]
        rw [hp]
        have hnn : isName [] = false := rfl
        split
        · rename_i y hy
          have : y.1 = [] := by
            revert hy
            repeat (first | (split; (intro e; cases e; rfl)) | (intro e; cases e))
          rw [this]; rfl
        · rfl
      · have hal : 1 ≤ a.length := by cases a; exact absurd rfl ha; simp
        have hx : w[w.length - 2]? = some 46 := by
          rw [hlen, h1]
          simp
        have hd : dotted w = true := by rw [dotted, hx]; simp; simp at hlen; omega
        have hl : localOf w = a := by rw [localOf, if_pos hd, h1]; simp
        have hpt : partOf w = x := by rw [partOf, if_pos hd, h1]; simp
        have hne : ¬ a = w := by intro e; have := congrArg List.length e; simp at hlen; omega
        rw [isPlace, hl, hpt]
        simp only [List.cons.injEq, and_true]
        by_cases h97 : x = 97
        · subst h97; simp
        · by_cases h98 : x = 98
          · subst h98; simp
          · by_cases h115 : x = 115
            · subst h115; simp
            · simp [h97, h98, h115, hne]
    · refine side _ ht ?_
      have n97 : ¬ t = [97] := fun e => ht (by rw [e]; rfl)
      have n98 : ¬ t = [98] := fun e => ht (by rw [e]; rfl)
      have n115 : ¬ t = [115] := fun e => ht (by rw [e]; rfl)
      rw [if_neg n97, if_neg n98, if_neg n115]
end Go.Proofs.YtmlgajhhnojdjaaGreatDoor.Spec
/- Plain facts on how the document's own reader reads a text, line by line. -/
namespace Go.Proofs.YtmlgajhhnojdjaaGreatDoor.Spec
open Go

theorem wordsOf_length (text : B) : (wordsOf text).length = (split 10 text).length := by simp [wordsOf]
theorem one_le_split (c : UInt8) (l : B) : 1 ≤ (split c l).length := by
  have := split_ne c l
  cases hs : split c l with
  | nil => exact absurd hs this
  | cons a b => simp
theorem word_split_le (c : UInt8) (l : B) (j : Nat) : (word (split c l) j).length ≤ l.length := by
  by_cases hj : j < (split c l).length
  · exact mem_split_length c l _ (by simp [word, hj])
  · simp [word, List.getD_eq_getElem?_getD, List.getElem?_eq_none (Nat.le_of_not_lt hj)]
end Go.Proofs.YtmlgajhhnojdjaaGreatDoor.Spec
/- Plain facts: line by line the project's reader and the document's own take and refuse the same. -/
namespace Go.Proofs.YtmlgajhhnojdjaaGreatDoor.Spec
open Go

theorem formed_word (w : B) {c : UInt8} (hc : c ∈ ([105, 111, 112, 109, 35, 98, 102, 118] : List UInt8)) : formedP w c = wordOf (letter c) w := by
  have hd := digitsP_eq w
  simp only [List.mem_cons, List.not_mem_nil, or_false] at hc
  rcases hc with rfl | rfl | rfl | rfl | rfl | rfl | rfl | rfl
  · rfl
  · rfl
  · exact place_eq w
  · exact place_eq w
  · show (numberP w).isSome = (number w).isSome
    rw [number_eq]
  · show (digitsP w).isSome = (match number w with | some n => decide (0 ≤ n) | none => false)
    rw [hd]; cases number w with
    | none => rfl
    | some n => show (if 0 ≤ n then some n else none).isSome = decide (0 ≤ n); split <;> simp [*]
  · show (match digitsP w with | some n => decide (n < 50) | none => false) = (match number w with | some n => decide (0 ≤ n) && decide (n < 50) | none => false)
    rw [hd]; cases number w with
    | none => rfl
    | some n =>
      simp only
      by_cases h0 : 0 ≤ n
      · rw [if_pos h0]; simp [h0]
      · rw [if_neg h0]; simp [h0]
  · exact (number_bit w).symm

/-- the words of the shapes, by number -/
def opWord (op : Nat) : B := (shapeTab.getD op ([], [])).1
theorem opIdx_word {w : B} {op : Nat} (h : opIdx w = some op) : op < 23 ∧ w = opWord op := by
  have hl := opIdx_lt h
  refine ⟨hl, ?_⟩
  have := (idxGo_ge _ _ _ _ h).2.2
  rw [← this, opWord]
  have hl' : op < shapeTab.length := hl
  simp [List.getD_eq_getElem?_getD, hl']
def behindOf (op : Nat) : B := if op = 15 then [100] else (wantsOf op).map letter
theorem behind_op {w : B} {op : Nat} (h : opIdx w = some op) (h2 : 2 ≤ op) (raw : Bool) : behind w raw = (behindOf op, hasP raw op) := by
  obtain ⟨hl, rfl⟩ := opIdx_word h
  have : ∀ (op : Fin 23) (raw : Bool), 2 ≤ op.val → behind (opWord op.val) raw = (behindOf op.val, hasP raw op.val) := by decide
  exact this ⟨op, hl⟩ raw h2
theorem ends_op {w : B} {op : Nat} (h : opIdx w = some op) : ends w = decide (18 ≤ op) := by
  obtain ⟨hl, rfl⟩ := opIdx_word h
  have : ∀ op : Fin 23, ends (opWord op.val) = decide (18 ≤ op.val) := by decide
  exact this ⟨op, hl⟩
theorem let_op {w : B} {op : Nat} (h : opIdx w = some op) : w = wLet ↔ op = 0 := by
  obtain ⟨hl, rfl⟩ := opIdx_word h
  have : ∀ op : Fin 23, opWord op.val = wLet ↔ op.val = 0 := by decide
  exact this ⟨op, hl⟩
theorem block_op {w : B} {op : Nat} (h : opIdx w = some op) : w = wBlock ↔ op = 1 := by
  obtain ⟨hl, rfl⟩ := opIdx_word h
  have : ∀ op : Fin 23, opWord op.val = wBlock ↔ op.val = 1 := by decide
  exact this ⟨op, hl⟩
theorem idxGo_none {l : List B} {w : B} {k : Nat} (h : idxGo l w k = none) : ∀ x ∈ l, ¬ w = x := by
  induction l generalizing k with
  | nil => intro x hx; cases hx
  | cons s r ih =>
    rw [idxGo] at h
    split at h
    · cases h
    · rename_i hs
      intro x hx
      rcases List.mem_cons.mp hx with rfl | hx
      · exact fun e => hs e.symm
      · exact ih h x hx
theorem behind_none {w : B} (h : opIdx w = none) (raw : Bool) : ¬ w = wLet ∧ ¬ w = wBlock ∧ (behind w raw).2 = false := by
  have hx := idxGo_none h
  have hn : ∀ op : Fin 23, ¬ w = opWord op.val := by
    intro op
    apply hx
    have : ∀ op : Fin 23, opWord op.val ∈ shapeTab.map (·.1) := by decide
    exact this op
  refine ⟨hn 0, hn 1, ?_⟩
  unfold behind
  have h2 : ¬ w = [115, 101, 116] := hn 2
  have h3 : ¬ w = [97, 100, 100] := hn 3
  have h4 : ¬ w = [115, 117, 98] := hn 4
  have h5 : ¬ w = [109, 117, 108] := hn 5
  have h6 : ¬ w = [100, 105, 118] := hn 6
  have h7 : ¬ w = [105, 110] := hn 7
  have h8 : ¬ w = [111, 117, 116] := hn 8
  have h9 : ¬ w = [110, 101, 119] := hn 9
  have h10 : ¬ w = [108, 111, 97, 100] := hn 10
  have h11 : ¬ w = [115, 116, 111, 114, 101] := hn 11
  have h12 : ¬ w = [109, 111, 118, 101] := hn 12
  have h13 : ¬ w = [110, 111, 110, 101] := hn 13
  have h14 : ¬ w = [115, 111, 109, 101] := hn 14
  have h15 : ¬ w = [100, 114, 111, 112] := hn 15
  have h16 : ¬ w = [102, 114, 101, 101] := hn 16
  have h17 : ¬ w = [102, 108, 97, 103] := hn 17
  have h18 : ¬ w = [103, 111, 116, 111] := hn 18
  have h19 : ¬ w = [105, 102] := hn 19
  have h20 : ¬ w = [109, 97, 116, 99, 104] := hn 20
  have h21 : ¬ w = [116, 101, 115, 116] := hn 21
  have h22 : ¬ w = [101, 110, 100] := hn 22
  simp only [h2, h3, h4, h5, h6, h7, h8, h9, h10, h11, h12, h13, h14, h15, h16, h17, h18, h19, h20, h21, h22, or_self, if_false]
theorem formed_go : ∀ (f : B) (_ : ∀ c ∈ f, c ∈ ([105, 111, 112, 109, 35, 98, 102, 118] : List UInt8)) (ws : List B), formedGo f ws = formGo (f.map letter) ws
  | [], _, _ => rfl
  | c :: f, hc, ws => by
    rw [formedGo, List.map_cons, formGo, formed_word _ (hc c (List.mem_cons_self ..)), formed_go f (fun x hx => hc x (List.mem_cons_of_mem _ hx))]
theorem formed_behind {op : Nat} (h : op < 23) (h2 : 2 ≤ op) (ws : List B) : formedGo (wantsOf op) ws = formGo (behindOf op) ws ∧ (behindOf op).length = (wantsOf op).length := by
  have hk : ∀ op : Fin 23, 2 ≤ op.val → ∀ c ∈ wantsOf op.val, c ∈ ([105, 111, 112, 109, 35, 98, 102, 118] : List UInt8) := by decide
  by_cases h15 : op = 15
  · subst h15
    refine ⟨?_, rfl⟩
    rw [formed_go _ (hk ⟨15, by decide⟩ (show 2 ≤ 15 by decide))]
    rfl
  · rw [behindOf, if_neg h15]
    exact ⟨formed_go _ (hk ⟨op, h⟩ h2) ws, by simp⟩
theorem tyIdx_some (w : B) : (tyIdx w).isSome = (w == wInt || w == wBox || w == wPair || w == wOpt) := by
  unfold tyIdx typeTab
  simp only [idxGo]
  by_cases h1 : wInt = w
  · subst h1; rfl
  · rw [if_neg h1]
    by_cases h2 : wBox = w
    · subst h2; rfl
    · rw [if_neg h2]
      by_cases h3 : wPair = w
      · subst h3; rfl
      · rw [if_neg h3]
        by_cases h4 : wOpt = w
        · subst h4; rfl
        · rw [if_neg h4]
          have e1 : ¬ w = wInt := fun e => h1 e.symm
          have e2 : ¬ w = wBox := fun e => h2 e.symm
          have e3 : ¬ w = wPair := fun e => h3 e.symm
          have e4 : ¬ w = wOpt := fun e => h4 e.symm
          simp [e1, e2, e3, e4]

/-- what the project's order knows of a program that is being read -/
structure OrdRel (p : RP) (o : OrdP) : Prop where
  locals : o.locals = p.lets.length
  blocks : o.blocks = p.blocks.length
  inb : o.sec = 1 ↔ p.inside p.lines.length = true
  outb : o.sec = 0 ↔ p.blocks.length = 0
theorem OrdRel.start (raw : Bool) : OrdRel (Spec.start raw) ⟨0, 0, 0⟩ := ⟨rfl, rfl, by simp [Spec.start, RP.inside, insideR], by simp [Spec.start]⟩

theorem addLine_inside (p : RP) (ws : List B) : (p.addLine ws).inside p.lines.length = p.inside p.lines.length := by
  simp [RP.inside, RP.addLine]
theorem mark_inside (p : RP) (ws : List B) : ((p.addLine ws).mark p.lines.length).inside (p.lines.length + 1) = if word ws 0 = wBlock then true else if ends (word ws 0) then false else p.inside p.lines.length := by
  rw [RP.inside, RP.mark_lines, RP.addLine]
  have : ((p.lines ++ [ws]).take (p.lines.length + 1)).reverse = ws :: p.lines.reverse := by
    rw [List.take_of_length_le (by simp)]; simp
  simp only [this, insideR]
  rw [RP.inside, List.take_length]
theorem new_line (p : RP) (ws : List B) : (p.addLine ws).line p.lines.length = ws := by rw [RP.addLine_line]; simp
/-- a line's form and place, both ways -/
theorem form_eq {p : RP} {o : OrdP} (R : OrdRel p o) {ws : List B} (h1 : 1 ≤ ws.length) :
    (p.addLine ws).form p.lines.length = (match sentP ws with | none => false | some x => (admitsP p.raw o x.1).2) := by
  rw [RP.form, new_line, addLine_inside]
  have hraw : (p.addLine ws).raw = p.raw := rfl
  have hlets : (p.addLine ws).lets = p.lets := rfl
  have hblocks : (p.addLine ws).blocks = p.blocks := rfl
  rw [hraw, hlets, hblocks, sentP]
  cases ho : opIdx (word ws 0) with
  | none =>
    obtain ⟨n1, n2, n3⟩ := behind_none ho p.raw
    rw [if_neg n1, if_neg n2, if_pos (.inl n3)]
  | some op =>
    obtain ⟨hl, hw⟩ := opIdx_word ho
    simp only
    have e0 := let_op ho
    have e1 := block_op ho
    by_cases h0 : op = 0
    · subst h0
      rw [if_pos (e0.mpr rfl)]
      have hwa : wantsOf 0 = [100, 116] := rfl
      rw [hwa]
      have hf : formedGo [100, 116] (ws.drop 1) = (isName (word ws 1) && (word ws 2 == wInt || word ws 2 == wBox || word ws 2 == wPair || word ws 2 == wOpt)) := by
        simp only [formedGo, Bool.and_true]
        have a1 : word (List.drop 1 ws) 0 = word ws 1 := by simp [word]
        have a2 : word (List.drop 1 (List.drop 1 ws)) 0 = word ws 2 := by simp [word]
        rw [a1, a2, ← tyIdx_some]; rfl
      rw [hf]
      have ha : (admitsP p.raw o 0).2 = (o.sec == 0 && decide (o.locals + 1 ≤ 12)) := rfl
      have hsec : (o.sec == 0) = decide (p.blocks.length = 0) := by rw [Bool.eq_iff_iff]; simp only [beq_iff_eq, decide_eq_true_eq]; exact R.outb
      by_cases h3 : ws.length = 3
      · by_cases hb : 0 < p.blocks.length ∨ 12 ≤ p.lets.length
        · rw [if_pos (.inr hb)]
          split
          · rfl
          · rename_i x hx
            split at hx
            · cases hx
              rw [ha, hsec, R.locals]
              symm
              rw [Bool.and_eq_false_iff]
              rcases hb with hb | hb
              · left; simp only [decide_eq_false_iff_not]; omega
              · right; simp only [decide_eq_false_iff_not]; omega
            · cases hx
        · rw [if_neg (by rw [not_or]; exact ⟨by simp [h3], hb⟩)]
          cases hc : (isName (word ws 1) && (word ws 2 == wInt || word ws 2 == wBox || word ws 2 == wPair || word ws 2 == wOpt))
          · rw [if_neg (by simp)]
          · rw [if_pos ⟨by simp [h3], rfl⟩]
            simp only
            rw [ha, hsec, R.locals]
            symm
            simp only [Bool.and_eq_true, decide_eq_true_eq]
            omega
      · rw [if_pos (.inl h3), if_neg (by simp; omega)]
    · rw [if_neg (fun e => h0 (e0.mp e))]
      by_cases h1' : op = 1
      · subst h1'
        rw [if_pos (e1.mpr rfl)]
        have hwa : wantsOf 1 = [] := rfl
        rw [hwa]
        have ha : (admitsP p.raw o 1).2 = (decide (0 < o.locals) && !(o.sec == 1) && decide (o.blocks + 1 ≤ if p.raw then 2000 else 20)) := rfl
        have hsec : (o.sec == 1) = p.inside p.lines.length := by rw [Bool.eq_iff_iff]; simp only [beq_iff_eq]; exact R.inb
        by_cases hl1 : ws.length = 1
        · have hcond : ws.length - 1 = ([] : B).length ∧ formedGo [] (ws.drop 1) = true := ⟨by simp [hl1], rfl⟩
          rw [if_pos hcond]
          show _ = (admitsP p.raw o 1).2
          rw [ha, hsec, R.locals, R.blocks]
          have : decide (p.blocks.length + 1 ≤ if p.raw = true then 2000 else 20) = decide (p.blocks.length < if p.raw = true then 2000 else 20) := rfl
          rw [this]; simp [hl1]
          cases p.inside p.lines.length <;> simp
        · have hcond : ¬ (ws.length - 1 = ([] : B).length ∧ formedGo [] (ws.drop 1) = true) := fun e => hl1 (by have := e.1; simp at this; omega)
          rw [if_neg hcond]
          simp [hl1]
      · rw [if_neg (fun e => h1' (e1.mp e)), behind_op ho (by omega)]
        obtain ⟨hf, hfl⟩ := formed_behind hl (by omega) (ws.drop 1)
        simp only
        have ha : (admitsP p.raw o op).2 = (hasP p.raw op && p.inside p.lines.length) := by
          rw [admitsP]
          cases hh : hasP p.raw op
          · rw [if_pos rfl]; rfl
          · rw [if_neg (by simp), if_neg h0, if_neg h1']
            cases hin : p.inside p.lines.length
            · have : ¬ o.sec = 1 := fun e => by rw [R.inb.mp e] at hin; cases hin
              rw [if_pos this]; rfl
            · have : o.sec = 1 := R.inb.mpr hin
              rw [if_neg (by simp [this])]
              split <;> rfl
        by_cases hx : hasP p.raw op = false ∨ p.inside p.lines.length = false ∨ ws.length ≠ (behindOf op).length + 1
        · rw [if_pos hx]
          split
          · rfl
          · rename_i x hxx
            split at hxx
            · rename_i hy
              cases hxx
              rw [ha]
              rcases hx with hx | hx | hx
              · rw [hx]; rfl
              · rw [hx, Bool.and_false]
              · exact absurd (by rw [hfl]; omega) hx
            · cases hxx
        · rw [if_neg hx]
          simp only [not_or, Bool.not_eq_false, Decidable.not_not, ne_eq] at hx
          rw [← hf]
          cases hc : formedGo (wantsOf op) (ws.drop 1)
          · rw [if_neg (by simp)]
          · rw [if_pos ⟨by rw [← hfl]; omega, rfl⟩]
            simp only
            rw [ha, hx.1, hx.2.1]; rfl
/-- .. and behind a line that was taken both stand alike -/
theorem OrdRel.next {p : RP} {o : OrdP} (R : OrdRel p o) {ws : List B} {x : Nat × List B} (hs : sentP ws = some x) (ha : (admitsP p.raw o x.1).2 = true) :
    OrdRel ((p.addLine ws).mark p.lines.length) (admitsP p.raw o x.1).1 := by
  rw [sentP] at hs
  cases ho : opIdx (word ws 0) with
  | none => rw [ho] at hs; cases hs
  | some op =>
    rw [ho] at hs
    simp only at hs
    split at hs
    · cases hs
      simp only at ha ⊢
      have e0 := let_op ho
      have e1 := block_op ho
      have hi := mark_inside p ws
      have hlen : ((p.addLine ws).mark p.lines.length).lines.length = p.lines.length + 1 := by rw [RP.mark_lines]; simp [RP.addLine]
      have hnl := new_line p ws
      rw [admitsP] at ha ⊢
      cases hh : hasP p.raw op
      · rw [hh, if_pos rfl] at ha; cases ha
      · rw [hh, if_neg (by simp)] at ha
        rw [if_neg (by simp)]
        by_cases h0 : op = 0
        · have hw := e0.mpr h0
          rw [if_pos h0] at ha ⊢
          simp only [Bool.and_eq_true, beq_iff_eq, decide_eq_true_eq] at ha
          have hm : (p.addLine ws).mark p.lines.length = (p.addLine ws).addLet p.lines.length := by rw [RP.mark, hnl, if_pos hw]
          refine ⟨?_, ?_, ?_, ?_⟩
          · rw [hm]; simp [RP.addLet, RP.addLine, R.locals]
          · rw [hm]; exact R.blocks
          · rw [hlen, hi, if_neg (by rw [hw]; decide), if_neg (by rw [hw]; decide)]; exact R.inb
          · rw [hm]; exact R.outb
        · rw [if_neg h0] at ha ⊢
          have hw0 : ¬ word ws 0 = wLet := fun e => h0 (e0.mp e)
          by_cases h1 : op = 1
          · have hw := e1.mpr h1
            rw [if_pos h1] at ha ⊢
            have hm : (p.addLine ws).mark p.lines.length = (p.addLine ws).addBlock p.lines.length := by rw [RP.mark, hnl, if_neg hw0, if_pos hw]
            refine ⟨?_, ?_, ?_, ?_⟩
            · rw [hm]; exact R.locals
            · rw [hm]; simp [RP.addBlock, RP.addLine, R.blocks]
            · rw [hlen, hi, if_pos hw]; simp
            · rw [hm]; simp [RP.addBlock, RP.addLine]
          · rw [if_neg h1] at ha ⊢
            have hw1 : ¬ word ws 0 = wBlock := fun e => h1 (e1.mp e)
            have hm : (p.addLine ws).mark p.lines.length = p.addLine ws := by rw [RP.mark, hnl, if_neg hw0, if_neg hw1]
            have hend := ends_op ho
            have hb0 : ¬ p.blocks.length = 0 := by
              by_cases hsec : o.sec = 1
              · intro e; have := R.outb.mpr e; omega
              · rw [if_pos hsec] at ha; cases ha
            by_cases hsec : o.sec = 1
            · rw [if_neg (by simp [hsec])]
              by_cases h18 : 18 ≤ op
              · rw [if_pos h18]
                refine ⟨by rw [hm]; exact R.locals, by rw [hm]; exact R.blocks, ?_, ?_⟩
                · rw [hlen, hi, if_neg hw1, hend, if_pos (by simp [h18])]; simp
                · rw [hm]; simp only; constructor
                  · intro e; cases e
                  · intro e; exact absurd e hb0
              · rw [if_neg h18]
                refine ⟨by rw [hm]; exact R.locals, by rw [hm]; exact R.blocks, ?_, by rw [hm]; exact R.outb⟩
                rw [hlen, hi, if_neg hw1, hend, if_neg (by simp [h18])]; exact R.inb
            · rw [if_pos hsec] at ha; cases ha
    · cases hs
end Go.Proofs.YtmlgajhhnojdjaaGreatDoor.Spec
/- Plain facts: what a line whose form is right gives to the asks for names and types. -/
namespace Go.Proofs.YtmlgajhhnojdjaaGreatDoor.Spec
open Go

theorem RP.nameOk_find {p : RP} {c : UInt8} {w : B} (h : p.nameOk c w = true) (hc : c ∈ [(105 : UInt8), 112, 109, 111, 100]) : 0 ≤ p.find (localOf w) := by
  rw [RP.nameOk, if_pos] at h
  · simpa using h
  · simp only [List.mem_cons, List.not_mem_nil, or_false] at hc
    rcases hc with h | h | h | h | h <;> simp [h]
theorem RP.names_go {p : RP} {i : Nat} (h : p.names i = true) (hl : ¬ word (p.line i) 0 = wLet) : p.namesGo (behind (word (p.line i) 0) p.raw).1 ((p.line i).drop 1) = true := by
  rwa [RP.names, if_neg hl] at h
theorem firstNot_all (f : Nat → Bool) : ∀ (m k : Nat), firstNot f m k = none → ∀ j, k ≤ j → j < k + m → f j = true := by
  intro m
  induction m with
  | zero => intro k _ j h1 h2; omega
  | succ m ih =>
    intro k h j h1 h2
    rw [firstNot] at h
    by_cases hf : f k = true
    · rw [if_pos hf] at h
      by_cases hj : j = k
      · rw [hj]; exact hf
      · exact ih (k + 1) h j (by omega) (by omega)
    · rw [if_neg hf] at h; cases h
end Go.Proofs.YtmlgajhhnojdjaaGreatDoor.Spec
