/- Plain definitions: words, numbers, places and lines of a text as lists of bytes, as the document's own reader tells them; and small facts on byte arrays. -/
import Derived.WalkKit
namespace Go.Proofs.YtmlgajhhnojdjaaGreatDoor.Spec
open Go

abbrev B := List UInt8
def bs (l : B) : ByteArray := ⟨l.toArray⟩
@[simp] theorem toList_bs (l : B) : (bs l).toList = l := ByteArray.toList_mk l
theorem bs_toList (s : ByteArray) : bs s.toList = s := by
  rw [ByteArray.toList_eq]; cases s; simp [bs]
@[simp] theorem size_bs (l : B) : (bs l).size = l.length := by simp [bs, ByteArray.size]
theorem length_toList (s : ByteArray) : s.toList.length = s.size := by
  rw [ByteArray.toList_eq]; cases s; simp [ByteArray.size]
theorem eq_bs {s : ByteArray} {l : B} (h : s.toList = l) : s = bs l := by rw [← h, bs_toList]
theorem getElem_toList (s : ByteArray) (k : Nat) (h : k < s.size) : s[k] = s.toList[k]'(by rw [length_toList]; exact h) := by
  have e : s.toList = s.data.toList := ByteArray.toList_eq s
  simp only [e]
  cases s; rfl
theorem getElem?_toList (s : ByteArray) (k : Nat) (h : k < s.size) : s.toList[k]? = some s[k] := by
  rw [getElem_toList s k h]; exact List.getElem?_eq_getElem _
theorem extract_toList (s : ByteArray) (a b : Nat) : (s.extract a b).toList = (s.toList.drop a).take (b - a) := by
  rw [ByteArray.toList_eq, ByteArray.toList_eq]
  have : (s.extract a b).data = s.data.extract a b := by simp
  rw [this]
  simp [List.extract_eq_take_drop]
theorem extract_eq (s : ByteArray) (a b : Nat) : s.extract a b = bs ((s.toList.drop a).take (b - a)) := eq_bs (extract_toList s a b)

@[simp] theorem bs_getElem (l : B) (k : Nat) (h : k < (bs l).size) : (bs l)[k] = l[k]'(by simpa using h) := by
  rw [getElem_toList (bs l) k h]; simp
def lower (c : UInt8) : Bool := decide (97 ≤ c.toNat) && decide (c.toNat ≤ 122)
def digit (c : UInt8) : Bool := decide (48 ≤ c.toNat) && decide (c.toNat ≤ 57)

/-- a name: 1 to 4 letters -/
def isName (l : B) : Bool := l.all lower && decide (1 ≤ l.length) && decide (l.length ≤ 4)

/-- the value of digits behind a number so far; none: no digit, or too great -/
def numGo : Int → B → Option Int
  | n, [] => some n
  | n, c :: r => if digit c then (if 10 * n + (c.toNat - 48) > 1000000000 then none else numGo (10 * n + (c.toNat - 48)) r) else none
def unsigned (s : B) : B := match s with | c :: r => if c = 45 then r else s | [] => s
def signed (s : B) : Bool := match s with | c :: _ => decide (c = 45) | [] => false
def number (s : B) : Option Int :=
  if (unsigned s).length < 1 ∨ ((unsigned s).head? = some 48 ∧ s ≠ [48]) then none
  else match numGo 0 (unsigned s) with
    | none => none
    | some n => some (if signed s then -n else n)

/-- of a place: is there a dot ahead of the last byte? its local's name, its part (0: none) -/
def dotted (w : B) : Bool := decide (2 < w.length) && (w[w.length - 2]? == some 46)
def localOf (w : B) : B := if dotted w then w.take (w.length - 2) else w
def partOf (w : B) : UInt8 := if dotted w then w.getLastD 0 else 0
def isPlace (w : B) : Bool := isName (localOf w) && (decide (localOf w = w) || partOf w == 97 || partOf w == 98 || partOf w == 115)

/-- is it a terminator's word: goto, if, match, end, test -/
def ends (w : B) : Bool := w == [103, 111, 116, 111] || w == [105, 102] || w == [109, 97, 116, 99, 104] || w == [101, 110, 100] || w == [116, 101, 115, 116]

/-- what stands behind a word -/
def behind (w : B) (raw : Bool) : B × Bool :=
  if w = [115, 101, 116] then ([105, 110], true)
  else if w = [97, 100, 100] ∨ w = [115, 117, 98] ∨ w = [109, 117, 108] ∨ w = [100, 105, 118] then ([105, 105, 105], true)
  else if w = [105, 110] ∨ w = [111, 117, 116] ∨ w = [101, 110, 100] then ([105], true)
  else if w = [110, 101, 119] ∨ w = [115, 116, 111, 114, 101] then ([112, 105], true)
  else if w = [108, 111, 97, 100] then ([105, 112], true)
  else if w = [109, 111, 118, 101] then ([109, 109], true)
  else if w = [110, 111, 110, 101] then ([111], true)
  else if w = [115, 111, 109, 101] then ([111, 112], true)
  else if w = [103, 111, 116, 111] then ([78], true)
  else if w = [105, 102] then ([105, 78, 78], true)
  else if w = [109, 97, 116, 99, 104] then ([111, 78, 78], true)
  else if w = [100, 114, 111, 112] then ([100], !raw)
  else if w = [102, 114, 101, 101] then ([112], raw)
  else if w = [102, 108, 97, 103] then ([102, 118], raw)
  else if w = [116, 101, 115, 116] then ([102, 78, 78], raw)
  else ([], false)

/-- may a word stand for this kind? -/
def wordOf (kind : UInt8) (w : B) : Bool :=
  if kind = 105 ∨ kind = 111 then isName w
  else if kind = 112 ∨ kind = 109 ∨ kind = 100 then isPlace w
  else if kind = 110 then (number w).isSome
  else if kind = 78 then match number w with | some n => decide (0 ≤ n) | none => false
  else if kind = 102 then match number w with | some n => decide (0 ≤ n) && decide (n < 50) | none => false
  else match number w with | some n => decide (n = 0) || decide (n = 1) | none => false

theorem u8_eq (a : UInt8) (n : Nat) (hn : n < 256) : a = UInt8.ofNat n ↔ a.toNat = n := by
  rw [← UInt8.toNat_inj, UInt8.toNat_ofNat_of_lt' (by simpa using hn)]
theorem isPlace_nat (w : B) : isPlace w = (isName (localOf w) && (decide (localOf w = w) || decide ((partOf w).toNat = 97) || decide ((partOf w).toNat = 98) || decide ((partOf w).toNat = 115))) := by
  have e1 := u8_eq (partOf w) 97 (by omega)
  have e2 := u8_eq (partOf w) 98 (by omega)
  have e3 := u8_eq (partOf w) 115 (by omega)
  rw [Bool.eq_iff_iff]
  simp only [isPlace, Bool.and_eq_true, Bool.or_eq_true, decide_eq_true_eq, beq_iff_eq]
  rw [← e1, ← e2, ← e3]
  rfl

end Go.Proofs.YtmlgajhhnojdjaaGreatDoor.Spec
/- Plain definitions: a text parted at a byte. -/
namespace Go.Proofs.YtmlgajhhnojdjaaGreatDoor.Spec
open Go

def addHead (p : B) : List B → List B
  | [] => [p]
  | h :: t => (p ++ h) :: t
/-- a text, at each byte c: one piece more than there are such bytes -/
def split (c : UInt8) : B → List B
  | [] => [[]]
  | x :: r => if x = c then [] :: split c r else addHead [x] (split c r)
theorem split_ne (c : UInt8) (l : B) : split c l ≠ [] := by
  cases l with
  | nil => simp [split]
  | cons x r => rw [split]; split; simp; cases h : split c r <;> simp [addHead]
theorem split_length (c : UInt8) (l : B) : (split c l).length ≤ l.length + 1 := by
  induction l with
  | nil => simp [split]
  | cons x r ih =>
    rw [split]
    split
    · simp; omega
    · cases h : split c r with
      | nil => simp [addHead]
      | cons a b => rw [h] at ih; simp [addHead] at ih ⊢; omega
theorem addHead_nil {L : List B} (h : L ≠ []) : addHead [] L = L := by
  cases L with
  | nil => exact absurd rfl h
  | cons a b => rfl
theorem addHead_add (p q : B) (L : List B) (h : L ≠ []) : addHead p (addHead q L) = addHead (p ++ q) L := by
  cases L with
  | nil => exact absurd rfl h
  | cons a b => simp [addHead]
theorem mem_split_length (c : UInt8) (l : B) : ∀ x ∈ split c l, x.length ≤ l.length := by
  induction l with
  | nil => simp [split]
  | cons a r ih =>
    intro x hx
    rw [split] at hx
    split at hx
    · rcases List.mem_cons.mp hx with rfl | hx
      · simp
      · have := ih x hx; simp; omega
    · cases h : split c r with
      | nil => exact absurd h (split_ne c r)
      | cons p q =>
        rw [h] at hx ih
        simp only [addHead, List.mem_cons] at hx
        rcases hx with rfl | hx
        · have := ih p (by simp); simp; omega
        · have := ih x (by simp [hx]); simp; omega

/-- how far a loop over the text has come: 'done' pieces, the rest begins at f, byte k is next -/
def Parted (c : UInt8) (l : B) (done : List B) (f k : Nat) : Prop := split c l = done ++ addHead ((l.drop f).take (k - f)) (split c (l.drop k))
theorem parted_start (c : UInt8) (l : B) : Parted c l [] 0 0 := by
  simp [Parted, addHead_nil (split_ne c l)]
theorem take_snoc (l : B) (f k : Nat) (hf : f ≤ k) (hk : k < l.length) : (l.drop f).take (k + 1 - f) = (l.drop f).take (k - f) ++ [l[k]] := by
  have e : k + 1 - f = k - f + 1 := by omega
  rw [e, List.take_add_one, List.getElem?_drop, show f + (k - f) = k by omega, List.getElem?_eq_getElem hk]
  rfl
theorem parted_on {c : UInt8} {l : B} {done : List B} {f k : Nat} (h : Parted c l done f k) (hf : f ≤ k) (hk : k < l.length) (hc : ¬ l[k] = c) : Parted c l done f (k + 1) := by
  unfold Parted at h ⊢
  rw [h, List.drop_eq_getElem_cons hk, split, if_neg hc, addHead_add _ _ _ (split_ne _ _), take_snoc l f k hf hk]
theorem parted_at {c : UInt8} {l : B} {done : List B} {f k : Nat} (h : Parted c l done f k) (hk : k < l.length) (hc : l[k] = c) : Parted c l (done ++ [(l.drop f).take (k - f)]) (k + 1) (k + 1) := by
  unfold Parted at h ⊢
  rw [h, List.drop_eq_getElem_cons hk, split, if_pos hc, Nat.sub_self, List.take_zero, addHead_nil (split_ne _ _)]
  simp [addHead]
theorem parted_end {c : UInt8} {l : B} {done : List B} {f k : Nat} (h : Parted c l done f k) (hk : k = l.length) : split c l = done ++ [(l.drop f).take (k - f)] := by
  unfold Parted at h
  rw [h, hk, List.drop_length, split]
  simp [addHead]
theorem parted_length {c : UInt8} {l : B} {done : List B} {f k : Nat} (h : Parted c l done f k) : done.length ≤ l.length := by
  have h1 := split_length c l
  unfold Parted at h
  rw [h, List.length_append] at h1
  have : 1 ≤ (addHead ((l.drop f).take (k - f)) (split c (l.drop k))).length := by
    cases hs : split c (l.drop k) <;> simp [addHead]
  omega
/-- a list of words as a row's cells -/
def cellsOf (L : List B) : List Value := L.map fun b => .string (bs b)
end Go.Proofs.YtmlgajhhnojdjaaGreatDoor.Spec
/- Plain definitions: a program as the document's own reader keeps it, and what it tells of lines, names and types. -/
namespace Go.Proofs.YtmlgajhhnojdjaaGreatDoor.Spec
open Go

structure RP where
  lines : List (List B)
  lets : List Nat
  blocks : List Nat
  raw : Bool

def wLet : B := [108, 101, 116]
def wBlock : B := [98, 108, 111, 99, 107]
def wInt : B := [105, 110, 116]
def wBox : B := [98, 111, 120]
def wPair : B := [112, 97, 105, 114]
def wOpt : B := [111, 112, 116]

def word (ws : List B) (k : Nat) : B := ws.getD k []
def RP.line (p : RP) (i : Nat) : List B := p.lines.getD i []

/-- does what stands behind these lines (the last one first) stand in a block, behind no terminator? -/
def insideR : List (List B) → Bool
  | [] => false
  | ws :: r => if word ws 0 = wBlock then true else if ends (word ws 0) then false else insideR r
def RP.inside (p : RP) (i : Nat) : Bool := insideR (p.lines.take i).reverse

/-- which local has a name; -1: none -/
def RP.findGo (p : RP) (name : B) : List Nat → Nat → Int
  | [], _ => -1
  | t :: r, k => if word (p.line t) 1 = name then k else RP.findGo p name r (k + 1)
def RP.find (p : RP) (name : B) : Int := p.findGo name p.lets 0

theorem RP.findGo_lt (p : RP) (name : B) : ∀ (l : List Nat) (k : Nat), 0 ≤ p.findGo name l k → ∃ j, p.findGo name l k = ((k + j : Nat) : Int) ∧ j < l.length ∧ word (p.line (l.getD j 0)) 1 = name := by
  intro l
  induction l with
  | nil => intro k h; simp [RP.findGo] at h
  | cons t r ih =>
    intro k h
    rw [RP.findGo] at h ⊢
    by_cases hc : word (p.line t) 1 = name
    · rw [if_pos hc]; exact ⟨0, by simp, by simp, by simpa using hc⟩
    · rw [if_neg hc] at h ⊢
      obtain ⟨j, h1, h2, h3⟩ := ih (k + 1) h
      exact ⟨j + 1, by rw [h1]; congr 1; omega, by simpa using h2, by simpa using h3⟩
theorem RP.find_lt {p : RP} {name : B} (h : 0 ≤ p.find name) : ∃ j : Nat, p.find name = j ∧ j < p.lets.length ∧ word (p.line (p.lets.getD j 0)) 1 = name := by
  obtain ⟨j, h1, h2, h3⟩ := p.findGo_lt name p.lets 0 h
  exact ⟨j, by unfold RP.find; rw [h1]; simp, h2, h3⟩
/-- a local's type, and a place's; empty: it has no such part -/
def RP.typeW (p : RP) (w : B) : B := word (p.line (p.lets.getD (p.find (localOf w)).toNat 0)) 2
def RP.typeOf (p : RP) (w : B) : B :=
  if partOf w = 97 ∨ partOf w = 98 then (if p.typeW w = wPair then wBox else [])
  else if partOf w = 115 then (if p.typeW w = wOpt then wBox else []) else p.typeW w

/-- what a word of a line names is there -/
def RP.nameOk (p : RP) (c : UInt8) (w : B) : Bool :=
  if c = 105 ∨ c = 111 ∨ c = 112 ∨ c = 109 ∨ c = 100 then decide (0 ≤ p.find (localOf w))
  else if c = 78 then decide ((number w).getD 0 < p.blocks.length) else true
def RP.namesGo (p : RP) : B → List B → Bool
  | [], _ => true
  | c :: f, ws => p.nameOk c (word ws 0) && RP.namesGo p f (ws.drop 1)
def RP.names (p : RP) (i : Nat) : Bool :=
  if word (p.line i) 0 = wLet then decide (p.lets.getD (p.find (word (p.line i) 1)).toNat 0 = i)
  else p.namesGo (behind (word (p.line i) 0) p.raw).1 ((p.line i).drop 1)
theorem RP.namesGo_step (p : RP) (f : B) (ws : List B) (k : Nat) (hk : k < f.length) : p.namesGo (f.drop k) (ws.drop (k + 1)) = (p.nameOk f[k] (word ws (k + 1)) && p.namesGo (f.drop (k + 1)) (ws.drop (k + 2))) := by
  rw [List.drop_eq_getElem_cons hk, RP.namesGo, List.drop_drop]
  simp [word]
/-- are the places of a line of the right types? (t0: the type of its first place) -/
def RP.typeOk (p : RP) (c : UInt8) (w w1 : B) : Bool :=
  if c = 110 ∨ c = 78 ∨ c = 102 ∨ c = 118 then true
  else if p.typeOf w = [] then false
  else if (c = 105 ∧ p.typeOf w ≠ wInt) ∨ (c = 112 ∧ p.typeOf w ≠ wBox) ∨ (c = 111 ∧ p.typeOf w ≠ wOpt) then false
  else if (c = 109 ∨ c = 100) ∧ p.typeOf w = wInt then false
  else if c = 109 ∧ p.typeOf w ≠ p.typeOf w1 then false else true
def RP.typesGo (p : RP) (w1 : B) : B → List B → Bool
  | [], _ => true
  | c :: f, ws => p.typeOk c (word ws 0) w1 && RP.typesGo p w1 f (ws.drop 1)
def RP.types (p : RP) (i : Nat) : Bool := p.typesGo (word (p.line i) 1) (behind (word (p.line i) 0) p.raw).1 ((p.line i).drop 1)
theorem RP.typesGo_step (p : RP) (w1 : B) (f : B) (ws : List B) (k : Nat) (hk : k < f.length) : p.typesGo w1 (f.drop k) (ws.drop (k + 1)) = (p.typeOk f[k] (word ws (k + 1)) w1 && p.typesGo w1 (f.drop (k + 1)) (ws.drop (k + 2))) := by
  rw [List.drop_eq_getElem_cons hk, RP.typesGo, List.drop_drop]
  simp [word]
theorem ite_len {c : Prop} [Decidable c] (a b : B × Bool) (ha : a.1.length ≤ 3) (hb : b.1.length ≤ 3) : (if c then a else b).1.length ≤ 3 := by split <;> assumption
theorem behind_len (w : B) (r : Bool) : (behind w r).1.length ≤ 3 := by
  unfold behind
  repeat (first | (refine ite_len _ _ (by simp) ?_) | simp)

/-- may a line stand there? -/
def formGo : B → List B → Bool
  | [], _ => true
  | c :: f, ws => wordOf c (word ws 0) && formGo f (ws.drop 1)
theorem formGo_step (f : B) (ws : List B) (k : Nat) (hk : k < f.length) : formGo (f.drop k) (ws.drop (k + 1)) = (wordOf f[k] (word ws (k + 1)) && formGo (f.drop (k + 1)) (ws.drop (k + 2))) := by
  rw [List.drop_eq_getElem_cons hk, formGo, List.drop_drop]
  simp [word]
def RP.form (p : RP) (i : Nat) : Bool :=
  if word (p.line i) 0 = wLet then
    if (p.line i).length ≠ 3 ∨ 0 < p.blocks.length ∨ 12 ≤ p.lets.length then false
    else isName (word (p.line i) 1) && (word (p.line i) 2 == wInt || word (p.line i) 2 == wBox || word (p.line i) 2 == wPair || word (p.line i) 2 == wOpt)
  else if word (p.line i) 0 = wBlock then
    decide ((p.line i).length = 1) && !p.inside i && decide (0 < p.lets.length) && decide (p.blocks.length < if p.raw then 2000 else 20)
  else if (behind (word (p.line i) 0) p.raw).2 = false ∨ p.inside i = false ∨ (p.line i).length ≠ (behind (word (p.line i) 0) p.raw).1.length + 1 then false
  else formGo (behind (word (p.line i) 0) p.raw).1 ((p.line i).drop 1)

def kinds : List UInt8 := [105, 110, 112, 109, 111, 78, 100, 102, 118]
theorem ite_kinds {c : Prop} [Decidable c] (a b : B × Bool) (ha : ∀ x ∈ a.1, x ∈ kinds) (hb : ∀ x ∈ b.1, x ∈ kinds) : ∀ x ∈ (if c then a else b).1, x ∈ kinds := by split <;> assumption
theorem behind_kinds (w : B) (r : Bool) : ∀ x ∈ (behind w r).1, x ∈ kinds := by
  unfold behind
  repeat (first | (refine ite_kinds _ _ (by simp [kinds]) ?_) | simp)

/-- what holds of every program that is kept -/
structure RP.Ok (p : RP) : Prop where
  words : ∀ i, i < p.lines.length → 1 ≤ (p.line i).length
  lets : ∀ t ∈ p.lets, t < p.lines.length ∧ (p.line t).length = 3
  blocks : ∀ b ∈ p.blocks, b < p.lines.length
  size : p.lines.length ≤ 4000
  letn : p.lets.length ≤ 4000
  blockn : p.blocks.length ≤ 4000
  long : ∀ i j, (word (p.line i) j).length ≤ 1099511627776
  wide : ∀ i, (p.line i).length ≤ 1099511627777
end Go.Proofs.YtmlgajhhnojdjaaGreatDoor.Spec
/- Plain definitions: how the document's own reader reads a whole text. -/
namespace Go.Proofs.YtmlgajhhnojdjaaGreatDoor.Spec
open Go

def RP.addLine (p : RP) (ws : List B) : RP := { p with lines := p.lines ++ [ws] }
def RP.addLet (p : RP) (i : Nat) : RP := { p with lets := p.lets ++ [i] }
def RP.addBlock (p : RP) (i : Nat) : RP := { p with blocks := p.blocks ++ [i] }
/-- the marks of line i: a let, a block -/
def RP.mark (p : RP) (i : Nat) : RP := if word (p.line i) 0 = wLet then p.addLet i else if word (p.line i) 0 = wBlock then p.addBlock i else p
/-- lines that are still to be read, what has been read, the number of the next line; the first line whose form is wrong -/
def readForm : List (List B) → RP → Nat → RP × Option Nat
  | [], p, _ => (p, none)
  | ws :: r, p, i => if (p.addLine ws).form i then readForm r ((p.addLine ws).mark i) (i + 1) else (p.addLine ws, some i)
/-- the first of the next m numbers from i on of which f is false -/
def firstNot (f : Nat → Bool) : Nat → Nat → Option Nat
  | 0, _ => none
  | m + 1, i => if f i then firstNot f m (i + 1) else some i
def RP.typesOk (p : RP) (i : Nat) : Bool := word (p.line i) 0 == wLet || word (p.line i) 0 == wBlock || p.types i
def start (raw : Bool) : RP := ⟨[], [], [], raw⟩
def wordsOf (text : B) : List (List B) := (split 10 text).map (split 32)
/-- Read: the program (none: refused), the error, the line -/
def refRead (text : B) (raw : Bool) : Option RP × Nat × Nat :=
  if 4000 < (split 10 text).length ∨ (raw = false ∧ 120 < (split 10 text).length) then (none, 1, 0)
  else match readForm (wordsOf text) (start raw) 0 with
    | (_, some i) => (none, 2, i)
    | (p, none) =>
      if p.inside (split 10 text).length = true ∨ p.blocks.length = 0 then (none, 2, (split 10 text).length)
      else match firstNot p.names (split 10 text).length 0 with
        | some i => (none, 3, i)
        | none => match firstNot p.typesOk (split 10 text).length 0 with
          | some i => (none, 4, i)
          | none => (some p, 0, 0)

/-- what a line whose form is right has -/
def RP.LineOk (p : RP) (j : Nat) : Prop := if word (p.line j) 0 = wLet then (p.line j).length = 3 ∧ j ∈ p.lets else (behind (word (p.line j) 0) p.raw).1.length + 1 ≤ (p.line j).length

theorem RP.addLine_line (p : RP) (ws : List B) (j : Nat) : (p.addLine ws).line j = if j < p.lines.length then p.line j else if j = p.lines.length then ws else [] := by
  simp only [RP.addLine, RP.line, List.getD_eq_getElem?_getD, List.getElem?_append]
  split
  · rfl
  · split
    · rename_i h1 h2; subst h2; simp
    · rw [List.getElem?_eq_none (by simp; omega)]; rfl
theorem RP.mark_line (p : RP) (i j : Nat) : (p.mark i).line j = p.line j := by
  unfold RP.mark RP.addLet RP.addBlock; split; rfl; split <;> rfl
theorem RP.mark_lines (p : RP) (i : Nat) : (p.mark i).lines = p.lines := by
  unfold RP.mark RP.addLet RP.addBlock; split; rfl; split <;> rfl
theorem RP.mark_raw (p : RP) (i : Nat) : (p.mark i).raw = p.raw := by
  unfold RP.mark RP.addLet RP.addBlock; split; rfl; split <;> rfl
theorem word_nil (k : Nat) : word [] k = [] := by simp [word]

/-- a line more keeps a program fit -/
theorem RP.Ok.addLine {p : RP} (h : p.Ok) {ws : List B} (h1 : 1 ≤ ws.length) (hs : p.lines.length < 4000) (hl : ∀ j, (word ws j).length ≤ 1099511627776) (hw : ws.length ≤ 1099511627777) : (p.addLine ws).Ok := by
  have hline := p.addLine_line ws
  have hlen : (p.addLine ws).lines.length = p.lines.length + 1 := by simp [RP.addLine]
  refine ⟨fun i hi => ?_, fun t ht => ?_, fun b hb => ?_, by rw [hlen]; omega, h.letn, h.blockn, fun i j => ?_, fun i => ?_⟩
  · rw [hline]
    rw [hlen] at hi
    split
    · exact h.words i ‹_›
    · rw [if_pos (by omega)]; exact h1
  · obtain ⟨a, b⟩ := h.lets t ht
    rw [hlen, hline, if_pos a]; exact ⟨by omega, b⟩
  · have := h.blocks b hb; rw [hlen]; omega
  · rw [hline]; split
    · exact h.long i j
    · split
      · exact hl j
      · simp [word_nil]
  · rw [hline]; split
    · exact h.wide i
    · split
      · exact hw
      · simp
theorem RP.Ok.addLet {p : RP} (h : p.Ok) {i : Nat} (hi : i < p.lines.length) (h3 : (p.line i).length = 3) (hn : p.lets.length < 4000) : (p.addLet i).Ok := by
  refine ⟨h.words, fun t ht => ?_, h.blocks, h.size, by simp [RP.addLet]; omega, h.blockn, h.long, h.wide⟩
  simp only [RP.addLet, List.mem_append, List.mem_singleton] at ht
  rcases ht with ht | rfl
  · exact h.lets t ht
  · exact ⟨hi, h3⟩
theorem RP.Ok.addBlock {p : RP} (h : p.Ok) {i : Nat} (hi : i < p.lines.length) (hn : p.blocks.length < 4000) : (p.addBlock i).Ok := by
  refine ⟨h.words, h.lets, fun b hb => ?_, h.size, h.letn, by simp [RP.addBlock]; omega, h.long, h.wide⟩
  simp only [RP.addBlock, List.mem_append, List.mem_singleton] at hb
  rcases hb with hb | rfl
  · exact h.blocks b hb
  · exact hi
theorem RP.Ok.start (raw : Bool) : (Spec.start raw).Ok :=
  ⟨fun i hi => by simp [Spec.start] at hi, fun t ht => by simp [Spec.start] at ht, fun b hb => by simp [Spec.start] at hb, by simp [Spec.start], by simp [Spec.start], by simp [Spec.start],
    fun i j => by simp [Spec.start, RP.line, word_nil], fun i => by simp [Spec.start, RP.line]⟩

/-- what the form says -/
theorem RP.form_let3 {p : RP} {i : Nat} (h : p.form i = true) (hl : word (p.line i) 0 = wLet) : (p.line i).length = 3 := by
  rw [RP.form, if_pos hl] at h
  by_cases h3 : (p.line i).length = 3
  · exact h3
  · rw [if_pos (.inl h3)] at h; cases h
theorem RP.form_behind {p : RP} {i : Nat} (h : p.form i = true) (hl : ¬ word (p.line i) 0 = wLet) (h1 : 1 ≤ (p.line i).length) : (behind (word (p.line i) 0) p.raw).1.length + 1 ≤ (p.line i).length := by
  by_cases hb : word (p.line i) 0 = wBlock
  · rw [hb]
    have : (behind wBlock p.raw).1 = [] := by cases p.raw <;> rfl
    rw [this]; simpa using h1
  · rw [RP.form, if_neg hl, if_neg hb] at h
    by_cases hx : (behind (word (p.line i) 0) p.raw).2 = false ∨ p.inside i = false ∨ (p.line i).length ≠ (behind (word (p.line i) 0) p.raw).1.length + 1
    · rw [if_pos hx] at h; cases h
    · simp only [not_or, ne_eq, Decidable.not_not] at hx
      omega
theorem RP.LineOk.addLine {p : RP} {j : Nat} (h : p.LineOk j) (hj : j < p.lines.length) (ws : List B) : (p.addLine ws).LineOk j := by
  unfold RP.LineOk at h ⊢
  rw [p.addLine_line ws j, if_pos hj]
  exact h
theorem RP.LineOk.mark {p : RP} {j : Nat} (h : p.LineOk j) (i : Nat) : (p.mark i).LineOk j := by
  unfold RP.LineOk at h ⊢
  rw [p.mark_line i j, p.mark_raw]
  split
  · rename_i hl
    rw [if_pos hl] at h
    refine ⟨h.1, ?_⟩
    unfold RP.mark
    split
    · exact List.mem_append_left _ h.2
    · split
      · exact h.2
      · exact h.2
  · rename_i hl
    rw [if_neg hl] at h
    exact h
theorem RP.lineOk_new {p : RP} {i : Nat} (h : p.form i = true) (h1 : 1 ≤ (p.line i).length) : (p.mark i).LineOk i := by
  unfold RP.LineOk
  rw [p.mark_line i i, p.mark_raw]
  split
  · rename_i hl
    refine ⟨p.form_let3 h hl, ?_⟩
    simp [RP.mark, hl, RP.addLet]
  · rename_i hl
    exact p.form_behind h hl h1
end Go.Proofs.YtmlgajhhnojdjaaGreatDoor.Spec
