/- Plain definitions: how the project's reader takes words, lines and a text; and that of words and lines it says what the document's own reader says. -/
import Derived.Test.YtmlgajhhnojdjaaGreatDoorSAA
namespace Go.Proofs.YtmlgajhhnojdjaaGreatDoor.Spec
open Go

/-- the lines' words in the order of their numbers, and what each wants behind it -/
def shapeTab : List (B × B) :=
  [(wLet, [100, 116]), (wBlock, []), ([115, 101, 116], [105, 35]), ([97, 100, 100], [105, 105, 105]), ([115, 117, 98], [105, 105, 105]), ([109, 117, 108], [105, 105, 105]), ([100, 105, 118], [105, 105, 105]),
   ([105, 110], [105]), ([111, 117, 116], [105]), ([110, 101, 119], [112, 105]), ([108, 111, 97, 100], [105, 112]), ([115, 116, 111, 114, 101], [112, 105]), ([109, 111, 118, 101], [109, 109]), ([110, 111, 110, 101], [111]),
   ([115, 111, 109, 101], [111, 112]), ([100, 114, 111, 112], [109]), ([102, 114, 101, 101], [112]), ([102, 108, 97, 103], [102, 118]), ([103, 111, 116, 111], [98]), ([105, 102], [105, 98, 98]),
   ([109, 97, 116, 99, 104], [111, 98, 98]), ([116, 101, 115, 116], [102, 98, 98]), ([101, 110, 100], [105])]
def idxGo (l : List B) (w : B) (k : Nat) : Option Nat :=
  match l with
  | [] => none
  | s :: r => if s = w then some k else idxGo r w (k + 1)
def opIdx (w : B) : Option Nat := idxGo (shapeTab.map (·.1)) w 0
def wantsOf (op : Nat) : B := (shapeTab.getD op ([], [])).2
def typeTab : List B := [wInt, wBox, wPair, wOpt]
def tyIdx (w : B) : Option Nat := idxGo typeTab w 0

/-- a text ahead of its first dot, and what is behind it -/
def cutDot : B → B × Option B
  | [] => ([], none)
  | c :: r => if c = 46 then ([], some r) else (c :: (cutDot r).1, (cutDot r).2)
/-- a place's local, and which part of it: 0 itself, 1 a, 2 b, 3 s -/
def splitPl (w : B) : Option (B × Nat) :=
  match (cutDot w).2 with
  | none => some ((cutDot w).1, 0)
  | some t => if t = [97] then some ((cutDot w).1, 1) else if t = [98] then some ((cutDot w).1, 2) else if t = [115] then some ((cutDot w).1, 3) else none
/-- digits without a sign -/
def digitsP (w : B) : Option Int :=
  match w with
  | [] => none
  | c :: _ => if digit c = true ∧ ¬ (c = 48 ∧ w ≠ [48]) then numGo 0 w else none
def numberP (w : B) : Option Int :=
  match w with
  | [] => digitsP w
  | c :: r => if c = 45 then (match digitsP r with | none => none | some n => if n = 0 then none else some (-n)) else digitsP w
/-- has a word the form that is wanted? -/
def formedP (w : B) (c : UInt8) : Bool :=
  if c = 100 ∨ c = 105 ∨ c = 111 then isName w
  else if c = 116 then (tyIdx w).isSome
  else if c = 112 ∨ c = 109 then (match splitPl w with | some x => isName x.1 | none => false)
  else if c = 35 then (numberP w).isSome
  else if c = 98 then (digitsP w).isSome
  else if c = 102 then (match digitsP w with | some n => decide (n < 50) | none => false)
  else if c = 118 then w == [48] || w == [49]
  else false
def formedGo : B → List B → Bool
  | [], _ => true
  | c :: f, ws => formedP (word ws 0) c && formedGo f (ws.drop 1)
/-- a line's words as a sentence: its number, and the words behind -/
def sentP (ws : List B) : Option (Nat × List B) :=
  match opIdx (word ws 0) with
  | none => none
  | some op => if ws.length - 1 = (wantsOf op).length ∧ formedGo (wantsOf op) (ws.drop 1) = true then some (op, ws.drop 1) else none
def hasP (raw : Bool) (op : Nat) : Bool := if op = 15 then !raw else if op = 16 ∨ op = 17 ∨ op = 21 then raw else true
/-- where a line stands: 0 among the locals, 1 in a block, 2 behind one; how many locals and blocks there were -/
structure OrdP where
  sec : Nat
  locals : Nat
  blocks : Nat
def admitsP (raw : Bool) (o : OrdP) (op : Nat) : OrdP × Bool :=
  if hasP raw op = false then (o, false)
  else if op = 0 then (⟨o.sec, o.locals + 1, o.blocks⟩, o.sec == 0 && decide (o.locals + 1 ≤ 12))
  else if op = 1 then (⟨1, o.locals, o.blocks + 1⟩, decide (0 < o.locals) && !(o.sec == 1) && decide (o.blocks + 1 ≤ if raw then 2000 else 20))
  else if ¬ o.sec = 1 then (o, false)
  else if 18 ≤ op then (⟨2, o.locals, o.blocks⟩, true)
  else (o, true)

theorem idxGo_ge (l : List B) (w : B) (k n : Nat) (h : idxGo l w k = some n) : k ≤ n ∧ n - k < l.length ∧ l.getD (n - k) [] = w := by
  induction l generalizing k with
  | nil => simp [idxGo] at h
  | cons s r ih =>
    rw [idxGo] at h
    split at h
    · rename_i hs
      obtain rfl : k = n := by simpa using h
      simp [hs]
    · obtain ⟨h1, h2, h3⟩ := ih (k + 1) h
      refine ⟨by omega, by simp; omega, ?_⟩
      rw [show n - k = (n - (k + 1)) + 1 by omega]
      simpa using h3
theorem opIdx_lt {w : B} {n : Nat} (h : opIdx w = some n) : n < 23 := by
  have := (idxGo_ge _ _ _ _ h).2.1
  simpa [shapeTab] using this

/-- the document's letters for what stands behind a word: what the project's mean -/
def letter (c : UInt8) : UInt8 := if c = 35 then 110 else if c = 98 then 78 else c
theorem numGo_ge : ∀ (l : B) (n m : Int), 0 ≤ n → numGo n l = some m → n ≤ m
  | [], n, m, _, h => by simp [numGo] at h; omega
  | c :: r, n, m, h0, h => by
    rw [numGo] at h
    split at h
    · rename_i hd
      simp only [digit, Bool.and_eq_true, decide_eq_true_eq] at hd
      split at h
      · cases h
      · have := numGo_ge r _ m (by omega) h
        omega
    · cases h
theorem numGo_pos {c : UInt8} {r : B} {m : Int} (hc : ¬ c = 48) (h : numGo 0 (c :: r) = some m) : 1 ≤ m := by
  rw [numGo] at h
  split at h
  · rename_i hd
    simp only [digit, Bool.and_eq_true, decide_eq_true_eq] at hd
    have h48 : ¬ c.toNat = 48 := fun e => hc ((u8_eq c 48 (by omega)).mpr e)
    split at h
    · cases h
    · have := numGo_ge r _ m (by omega) h
      omega
  · cases h
theorem numGo_nodigit {c : UInt8} {r : B} (n : Int) (h : ¬ digit c = true) : numGo n (c :: r) = none := by rw [numGo, if_neg h]
theorem number_digits {c : UInt8} {r : B} (hc : ¬ c = 45) : number (c :: r) = digitsP (c :: r) := by
  have hu : unsigned (c :: r) = c :: r := by simp [unsigned, hc]
  have hs : signed (c :: r) = false := by simp [signed, hc]
  rw [number, hu, hs, digitsP]
  by_cases h0 : c = 48 ∧ (c :: r) ≠ [48]
  · rw [if_pos (.inr ⟨by rw [h0.1]; rfl, h0.2⟩), if_neg (fun e => e.2 h0)]
  · rw [if_neg (by simp only [List.length_cons, List.head?_cons, Option.some.injEq]; rintro (h | h); omega; exact h0 h)]
    by_cases hd : digit c = true
    · rw [if_pos ⟨hd, h0⟩]
      cases numGo 0 (c :: r) <;> simp
    · rw [if_neg (fun e => hd e.1), numGo_nodigit _ hd]
theorem number_eq (w : B) : numberP w = number w := by
  cases w with
  | nil => rfl
  | cons c r =>
    rw [numberP]
    by_cases hc : c = 45
    · subst hc
      have hu : unsigned (45 :: r) = r := rfl
      have hs : signed (45 :: r) = true := rfl
      rw [if_pos rfl, number, hu, hs]
      cases r with
      | nil => rfl
      | cons d t =>
        by_cases hd : d = 48
        · subst hd
          rw [if_pos (.inr ⟨rfl, by simp⟩), digitsP]
          by_cases ht : t = []
          · subst ht; rfl
          · rw [if_neg (fun e => e.2 ⟨rfl, by simp [ht]⟩)]
        · rw [if_neg (by simp [hd]), digitsP]
          by_cases hdg : digit d = true
          · rw [if_pos ⟨hdg, fun e => hd e.1⟩]
            cases hn : numGo 0 (d :: t) with
            | none => rfl
            | some n =>
              have := numGo_pos hd hn
              simp only
              rw [if_neg (by omega)]; rfl
          · rw [if_neg (fun e => hdg e.1), numGo_nodigit _ hdg]
    · rw [if_neg hc, number_digits hc]
theorem number_neg {r : B} {n : Int} (h : number (45 :: r) = some n) : n ≤ -1 := by
  rw [← number_eq, numberP, if_pos rfl] at h
  cases hd : digitsP r with
  | none => rw [hd] at h; cases h
  | some m =>
    rw [hd] at h
    simp only at h
    split at h
    · cases h
    · simp only [Option.some.injEq] at h
      have : 0 ≤ m := by
        cases r with
        | nil => cases hd
        | cons c t =>
          rw [digitsP] at hd
          split at hd
          · exact numGo_ge _ _ _ (by omega) hd
          · cases hd
      omega
theorem digitsP_ge {w : B} {m : Int} (hd : digitsP w = some m) : 0 ≤ m := by
  cases w with
  | nil => cases hd
  | cons c t =>
    rw [digitsP] at hd
    split at hd
    · exact numGo_ge _ _ _ (by omega) hd
    · cases hd
/-- digits are a number that is not below 0 -/
theorem digitsP_eq (w : B) : digitsP w = match number w with | some n => if 0 ≤ n then some n else none | none => none := by
  cases w with
  | nil => rfl
  | cons c r =>
    by_cases hc : c = 45
    · subst hc
      have h1 : digitsP (45 :: r) = none := by rw [digitsP, if_neg (fun e => absurd e.1 (by decide))]
      rw [h1]
      cases hn : number (45 :: r) with
      | none => rfl
      | some n => have := number_neg hn; simp only; rw [if_neg (by omega)]
    · rw [number_digits hc]
      cases hd : digitsP (c :: r) with
      | none => rfl
      | some n => have := digitsP_ge hd; simp only; rw [if_pos this]
theorem numGo_small (d : UInt8) : numGo 0 [d] = if digit d then some ((d.toNat : Int) - 48) else none := by
  rw [numGo]
  split
  · rename_i hd
    simp only [digit, Bool.and_eq_true, decide_eq_true_eq] at hd
    rw [if_neg (by omega)]
    simp [numGo]
  · rfl
/-- 0 and 1 have one word each -/
theorem number_bit (w : B) : (match number w with | some n => decide (n = 0) || decide (n = 1) | none => false) = (w == [48] || w == [49]) := by
  cases w with
  | nil => rfl
  | cons c r =>
    by_cases hc : c = 45
    · subst hc
      have : ((45 :: r : B) == [48] || (45 :: r : B) == [49]) = false := by simp
      rw [this]
      cases hn : number (45 :: r) with
      | none => rfl
      | some n => have := number_neg hn; simp; omega
    · rw [number_digits hc, digitsP]
      by_cases h48 : c = 48
      · subst h48
        by_cases hr : r = []
        · subst hr; rfl
        · rw [if_neg (fun e => e.2 ⟨rfl, by simp [hr]⟩)]; simp [hr]
      · by_cases hd : digit c = true
        · rw [if_pos ⟨hd, fun e => h48 e.1⟩]
          have hd' := hd
          simp only [digit, Bool.and_eq_true, decide_eq_true_eq] at hd'
          have h48' : ¬ c.toNat = 48 := fun e => h48 ((u8_eq c 48 (by omega)).mpr e)
          rw [numGo, if_pos hd, if_neg (by omega)]
          cases r with
          | nil =>
            rw [numGo]
            simp only
            have h49 : (c == 49) = decide (c.toNat = 49) := by
              rw [Bool.eq_iff_iff]; simp only [beq_iff_eq, decide_eq_true_eq]; exact u8_eq c 49 (by omega)
            have e1 : (([c] : B) == [48]) = false := by simp [h48]
            have e2 : (([c] : B) == [49]) = (c == 49) := by simp
            rw [e1, e2, h49, Bool.eq_iff_iff]; simp; omega
          | cons d t =>
            have : ((c :: d :: t : B) == [48] || (c :: d :: t : B) == [49]) = false := by simp
            rw [this, numGo]
            by_cases hdd : digit d = true
            · rw [if_pos hdd]
              simp only [digit, Bool.and_eq_true, decide_eq_true_eq] at hdd
              by_cases hgt : 10 * (10 * 0 + ((c.toNat : Int) - 48)) + ((d.toNat : Int) - 48) > 1000000000
              · rw [if_pos hgt]
              · rw [if_neg hgt]
                cases hn : numGo (10 * (10 * 0 + ((c.toNat : Int) - 48)) + ((d.toNat : Int) - 48)) t with
                | none => rfl
                | some n => have := numGo_ge _ _ _ (by omega) hn; simp; omega
            · rw [if_neg hdd]
        · rw [if_neg (fun e => hd e.1)]
          have e1 : ¬ c = 49 := fun e => hd (by rw [e]; decide)
          simp [h48, e1]

theorem cutDot_none : ∀ {w : B}, (cutDot w).2 = none → (cutDot w).1 = w ∧ ¬ (46 : UInt8) ∈ w
  | [], _ => by simp [cutDot]
  | c :: r, h => by
    rw [cutDot] at h ⊢
    split at h
    · cases h
    · rename_i hc
      obtain ⟨h1, h2⟩ := cutDot_none (w := r) h
      rw [if_neg hc]
      exact ⟨by simp [h1], by simp only [List.mem_cons, not_or]; exact ⟨fun e => hc e.symm, h2⟩⟩
theorem cutDot_some : ∀ {w t : B}, (cutDot w).2 = some t → w = (cutDot w).1 ++ 46 :: t ∧ ¬ (46 : UInt8) ∈ (cutDot w).1
  | [], t, h => by simp [cutDot] at h
  | c :: r, t, h => by
    rw [cutDot] at h ⊢
    split at h
    · rename_i hc
      simp only [Option.some.injEq] at h
      rw [if_pos hc, hc, h]; simp
    · rename_i hc
      obtain ⟨h1, h2⟩ := cutDot_some (w := r) h
      rw [if_neg hc]
      exact ⟨by simp only [List.cons_append, List.cons.injEq, true_and]; exact h1, by simp only [List.mem_cons, not_or]; exact ⟨fun e => hc e.symm, h2⟩⟩
theorem name_nodot {l : B} (h : (46 : UInt8) ∈ l) : isName l = false := by
  rw [isName]
  have : l.all lower = false := by
    rw [Bool.eq_false_iff]
    intro hh
    have := List.all_eq_true.mp hh 46 h
    simp [lower] at this
  simp [this]
theorem dotted_no {w : B} (h : ¬ (46 : UInt8) ∈ w) : dotted w = false := by
  rw [dotted]
  rw [Bool.eq_false_iff]
  intro hh
  simp only [Bool.and_eq_true, decide_eq_true_eq, beq_iff_eq] at hh
  exact h (List.mem_of_getElem? hh.2)
/-- a place, both ways -/
theorem place_eq (w : B) : (match splitPl w with | some x => isName x.1 | none => false) = isPlace w := by
  rw [splitPl]
  cases h : (cutDot w).2 with
  | none =>
    obtain ⟨h1, h2⟩ := cutDot_none h
    have hd := dotted_no h2
    simp [isPlace, localOf, hd, h1]
  | some t =>
    obtain ⟨h1, h2⟩ := cutDot_some h
    generalize (cutDot w).1 = a at h1 h2
    have hdot : (46 : UInt8) ∈ w := by rw [h1]; simp
    have hlen : w.length = a.length + 1 + t.length := by rw [h1]; simp; omega
    simp only
    have side : ∀ b : Bool, (¬ t.length = 1) → b = false → b = isPlace w := by
      intro b ht hb
      rw [hb, isPlace]
      have : isName (localOf w) = false := by
        rw [localOf]
        split
        · rename_i hd
          rw [dotted] at hd
          simp only [Bool.and_eq_true, decide_eq_true_eq, beq_iff_eq] at hd
          apply name_nodot
          by_cases ht0 : t.length = 0
          · exfalso
            have : t = [] := List.eq_nil_of_length_eq_zero ht0
            subst this
            have hx := hd.2
            rw [h1, List.getElem?_append_left (by simp; simp at hlen; omega)] at hx
            exact h2 (List.mem_of_getElem? hx)
          · rw [h1, List.take_append]
            have : 1 ≤ (a ++ 46 :: t).length - 2 - a.length := by simp; omega
            obtain ⟨m, hm⟩ : ∃ m, (a ++ 46 :: t).length - 2 - a.length = m + 1 := ⟨_, (Nat.sub_add_cancel this).symm⟩
            rw [hm]; simp
        · exact name_nodot hdot
      rw [this]; rfl
    by_cases ht : t.length = 1
    · obtain ⟨x, rfl⟩ := List.length_eq_one_iff.mp ht
      by_cases ha : a = []
      · subst ha
        have hd : dotted w = false := by rw [dotted, hlen]; rfl
        have hn : isName w = false := name_nodot hdot
        have hp : isPlace w = false := by simp [isPlace, localOf, hd, hn]
        rw [hp]
        have hnn : isName [] = false := rfl
        split
        · rename_i y hy
          have : y.1 = [] := by
            revert hy
            repeat (first | (split; (intro e; cases e; rfl)) | (intro e; cases e))
          rw [this]; rfl
        · rfl
      · have hal : 1 ≤ a.length := by cases a; exact absurd rfl ha; simp
        have hx : w[w.length - 2]? = some 46 := by
          rw [hlen, h1]
          simp
        have hd : dotted w = true := by rw [dotted, hx]; simp; simp at hlen; omega
        have hl : localOf w = a := by rw [localOf, if_pos hd, h1]; simp
        have hpt : partOf w = x := by rw [partOf, if_pos hd, h1]; simp
        have hne : ¬ a = w := by intro e; have := congrArg List.length e; simp at hlen; omega
        rw [isPlace, hl, hpt]
        simp only [List.cons.injEq, and_true]
        by_cases h97 : x = 97
        · subst h97; simp
        · by_cases h98 : x = 98
          · subst h98; simp
          · by_cases h115 : x = 115
            · subst h115; simp
            · simp [h97, h98, h115, hne]
    · refine side _ ht ?_
      have n97 : ¬ t = [97] := fun e => ht (by rw [e]; rfl)
      have n98 : ¬ t = [98] := fun e => ht (by rw [e]; rfl)
      have n115 : ¬ t = [115] := fun e => ht (by rw [e]; rfl)
      rw [if_neg n97, if_neg n98, if_neg n115]
end Go.Proofs.YtmlgajhhnojdjaaGreatDoor.Spec
/- Plain facts on how the document's own reader reads a text, line by line. -/
namespace Go.Proofs.YtmlgajhhnojdjaaGreatDoor.Spec
open Go

/-- what the loop that reads the lines has come to at line k -/
structure PureR (text : B) (raw : Bool) (k : Nat) (p : RP) : Prop where
  ok : p.Ok
  rawEq : p.raw = raw
  lines : p.lines = (wordsOf text).take k
  form : readForm (wordsOf text) (Spec.start raw) 0 = readForm ((wordsOf text).drop k) p k
  lineOk : ∀ j, j < k → p.LineOk j
  few : p.lets.length ≤ k ∧ p.blocks.length ≤ k

theorem wordsOf_length (text : B) : (wordsOf text).length = (split 10 text).length := by simp [wordsOf]
theorem wordsOf_at (text : B) (k : Nat) (hk : k < (split 10 text).length) : (wordsOf text)[k]'(by rw [wordsOf_length]; exact hk) = split 32 (word (split 10 text) k) := by
  simp [wordsOf, word, hk]
theorem PureR.start (text : B) (raw : Bool) : PureR text raw 0 (Spec.start raw) :=
  ⟨RP.Ok.start raw, rfl, rfl, rfl, fun j hj => by omega, by simp [Spec.start]⟩
theorem PureR.length {text : B} {raw : Bool} {k : Nat} {p : RP} (h : PureR text raw k p) (hk : k ≤ (split 10 text).length) : p.lines.length = k := by
  rw [h.lines, List.length_take, wordsOf_length]; omega
theorem one_le_split (c : UInt8) (l : B) : 1 ≤ (split c l).length := by
  have := split_ne c l
  cases hs : split c l with
  | nil => exact absurd hs this
  | cons a b => simp
theorem word_split_le (c : UInt8) (l : B) (j : Nat) : (word (split c l) j).length ≤ l.length := by
  by_cases hj : j < (split c l).length
  · exact mem_split_length c l _ (by simp [word, hj])
  · simp [word, List.getD_eq_getElem?_getD, List.getElem?_eq_none (Nat.le_of_not_lt hj)]
theorem PureR.okLine {text : B} {raw : Bool} {k : Nat} {p : RP} (h : PureR text raw k p) (ht : text.length ≤ 1099511627776) (hk : k < (split 10 text).length) (hn : (split 10 text).length ≤ 4000) : (p.addLine (split 32 (word (split 10 text) k))).Ok := by
  have hl := h.length (by omega)
  have h1 := word_split_le 10 text k
  refine h.ok.addLine (one_le_split _ _) (by omega) (fun j => ?_) ?_
  · have := word_split_le 32 (word (split 10 text) k) j; omega
  · have := split_length 32 (word (split 10 text) k); omega
theorem drop_at (text : B) (k : Nat) (hk : k < (split 10 text).length) : (wordsOf text).drop k = split 32 (word (split 10 text) k) :: (wordsOf text).drop (k + 1) := by
  rw [List.drop_eq_getElem_cons (by rw [wordsOf_length]; exact hk), wordsOf_at text k hk]
theorem PureR.bad {text : B} {raw : Bool} {k : Nat} {p : RP} (h : PureR text raw k p) (hk : k < (split 10 text).length) (hf : (p.addLine (split 32 (word (split 10 text) k))).form k = false) :
    ∃ q, readForm (wordsOf text) (Spec.start raw) 0 = (q, some k) := by
  refine ⟨p.addLine (split 32 (word (split 10 text) k)), ?_⟩
  rw [h.form, drop_at text k hk, readForm, hf]; rfl
theorem RP.mark_few (p : RP) (i k : Nat) (h : p.lets.length ≤ k ∧ p.blocks.length ≤ k) : (p.mark i).lets.length ≤ k + 1 ∧ (p.mark i).blocks.length ≤ k + 1 := by
  unfold RP.mark RP.addLet RP.addBlock
  split
  · simp; omega
  · split
    · simp; omega
    · omega
theorem PureR.step {text : B} {raw : Bool} {k : Nat} {p : RP} (h : PureR text raw k p) (ht : text.length ≤ 1099511627776) (hk : k < (split 10 text).length) (hn : (split 10 text).length ≤ 4000)
    (hf : (p.addLine (split 32 (word (split 10 text) k))).form k = true) : PureR text raw (k + 1) ((p.addLine (split 32 (word (split 10 text) k))).mark k) := by
  have hl := h.length (by omega)
  have hok := h.okLine ht hk hn
  have hl1 : (p.addLine (split 32 (word (split 10 text) k))).lines.length = k + 1 := by simp [RP.addLine, hl]
  refine ⟨?_, ?_, ?_, ?_, fun j hj => ?_, ?_⟩
  · unfold RP.mark
    split
    · rename_i hx; exact hok.addLet (by omega) (RP.form_let3 hf hx) (by have := h.few; simp [RP.addLine]; omega)
    · split
      · exact hok.addBlock (by omega) (by have := h.few; simp [RP.addLine]; omega)
      · exact hok
  · rw [RP.mark_raw]; exact h.rawEq
  · rw [RP.mark_lines, RP.addLine, h.lines, List.take_add_one, List.getElem?_eq_getElem (by rw [wordsOf_length]; exact hk), wordsOf_at text k hk]
    simp
  · rw [h.form, drop_at text k hk, readForm, hf]; rfl
  · by_cases hx : j = k
    · subst hx; exact RP.lineOk_new hf (hok.words j (by omega))
    · exact ((h.lineOk j (by omega)).addLine (by omega) _).mark k
  · exact RP.mark_few _ _ _ (by have := h.few; simpa [RP.addLine] using this)
/-- the program behind the first of the two marks -/
def RP.mark1 (p : RP) (i : Nat) : RP := if word (p.line i) 0 = wLet then p.addLet i else p
theorem RP.mark_block {p : RP} {i : Nat} (h : word (p.line i) 0 = wBlock) : p.mark i = (p.mark1 i).addBlock i := by
  have hl : ¬ word (p.line i) 0 = wLet := by rw [h]; decide
  rw [RP.mark, RP.mark1, if_neg hl, if_neg hl, if_pos h]
theorem RP.mark_none {p : RP} {i : Nat} (h : ¬ word (p.line i) 0 = wBlock) : p.mark i = p.mark1 i := by
  rw [RP.mark, RP.mark1, if_neg h]
theorem RP.mark1_line (p : RP) (i j : Nat) : (p.mark1 i).line j = p.line j := by
  unfold RP.mark1 RP.addLet; split <;> rfl
theorem RP.mark1_lines (p : RP) (i : Nat) : (p.mark1 i).lines = p.lines := by
  unfold RP.mark1 RP.addLet; split <;> rfl
theorem RP.Ok.mark1 {p : RP} (h : p.Ok) {i : Nat} (hi : i < p.lines.length) (hf : p.form i = true) (hn : p.lets.length < 4000) : (p.mark1 i).Ok := by
  unfold RP.mark1
  split
  · rename_i hx; exact h.addLet hi (RP.form_let3 hf hx) hn
  · exact h
end Go.Proofs.YtmlgajhhnojdjaaGreatDoor.Spec
