/- Contracts of the library's functions at this program, laid by the kit's own commands (lay-shelf, lay-plain). -/
import Derived.Shelf.Small.Wraps
import Derived.Shelf.LaysM
import Derived.Shelf.Strconv.Itoa4
import Derived.Shelf.Strings.OnBuilder
import Derived.Test.YtmlgajhhnojdjaaGreatDoorProg
import Derived.WalkKit
namespace Go.Proofs
open Go.Shelf
def Tryz.lays156_ren : Go.Shelf.Ren := ⟨fun | 156 => 83 | 165 => 135 | 166 => 136 | 169 => 137 | 240 => 184 | 241 => 185 | 276 => 216 | 277 => 217 | n => n, fun | 31 => 34 | 9 => 9 | 3 => 3 | 4 => 4 | 0 => 0 | 20 => 20 | 72 => 219 | 76 => 222 | 70 => 217 | 37 => 93 | 75 => 221 | 127 => 257 | 164 => 286 | 5 => 5 | 80 => 82 | n => n, fun | n => n⟩
theorem Tryz.lays156 : Go.Proofs.Lays.n156 Tryz.prog Tryz.lays156_ren := {
  mixed := by kernel_rfl
  f156 := Tryz.func83.trans (congrArg some (by kernel_rfl))
  f165 := Tryz.func135.trans (congrArg some (by kernel_rfl))
  f166 := Tryz.func136.trans (congrArg some (by kernel_rfl))
  f169 := Tryz.func137.trans (congrArg some (by kernel_rfl))
  f240 := Tryz.func184.trans (congrArg some (by kernel_rfl))
  f241 := Tryz.func185.trans (congrArg some (by kernel_rfl))
  f276 := Tryz.func216.trans (congrArg some (by kernel_rfl))
  f277 := Tryz.func217.trans (congrArg some (by kernel_rfl))
  t0 := Tryz.underlying0
  a0 := Tryz.isAgg0
  z0 := Tryz.sizeOf0
  v0 := Tryz.zeroValue0
  t3 := Tryz.underlying3
  a3 := Tryz.isAgg3
  z3 := Tryz.sizeOf3
  v3 := Tryz.zeroValue3
  t4 := Tryz.underlying4
  a4 := Tryz.isAgg4
  z4 := Tryz.sizeOf4
  v4 := Tryz.zeroValue4
  t9 := Tryz.underlying9
  a9 := Tryz.isAgg9
  z9 := Tryz.sizeOf9
  v9 := Tryz.zeroValue9
  t20 := Tryz.underlying20
  a20 := Tryz.isAgg20
  z20 := Tryz.sizeOf20
  v20 := Tryz.zeroValue20
  t31 := Tryz.underlying34
  a31 := Tryz.isAgg34
  z31 := Tryz.sizeOf34
  v31 := Tryz.zeroValue34
  t37 := Tryz.underlying93
  a37 := Tryz.isAgg93
  z37 := Tryz.sizeOf93
  v37 := Tryz.zeroValue93
  t70 := Tryz.underlying217
  a70 := Tryz.isAgg217
  z70 := Tryz.sizeOf217
  v70 := Tryz.zeroValue217
  t72 := Tryz.underlying219
  a72 := Tryz.isAgg219
  z72 := Tryz.sizeOf219
  v72 := Tryz.zeroValue219
  t75 := Tryz.underlying221
  a75 := Tryz.isAgg221
  z75 := Tryz.sizeOf221
  v75 := Tryz.zeroValue221
  t76 := Tryz.underlying222
  a76 := Tryz.isAgg222
  z76 := Tryz.sizeOf222
  v76 := Tryz.zeroValue222
  t127 := Tryz.underlying257
  a127 := Tryz.isAgg257
  z127 := Tryz.sizeOf257
  v127 := Tryz.zeroValue257
  t164 := Tryz.underlying286
  a164 := Tryz.isAgg286
  z164 := Tryz.sizeOf286
  v164 := Tryz.zeroValue286 }
theorem Tryz.Builder_Extra_156 : Builder.Extra Tryz.prog Tryz.lays156_ren := {
  sizeBuilder := by kernel_rfl
  liesBuilder := by kernel_rfl
  t5 := Tryz.underlying5
  a5 := Tryz.isAgg5
  z5 := Tryz.sizeOf5
  v5 := Tryz.zeroValue5
  infoByte := by kernel_rfl
  cellsByte := by kernel_rfl
  sizeByte := by kernel_rfl
  neB5 := by decide }
open Go.RowKit in
theorem Tryz.strings_Join_none (a : Option Addr) (c : Nat) (sep : ByteArray) (w : World) :
    Calls Tryz.prog 83 #[.slice a 0 c, .string sep] w fun e w' => e = .returned (.string ⟨#[]⟩) ∧ w' = w := Any.strings_Join_none Tryz.lays156 Tryz.Builder_Extra_156 a c sep w
open Go.RowKit in
theorem Tryz.strings_Join (bk o c : Nat) (xs : List ByteArray) (sep : ByteArray) (w : World) (hcells : ∀ (j : Nat) x, xs[j]? = some x → w.cell? ⟨bk, o + j, none⟩ = some (.string x)) (hbk : bk < w.heap.size) (hN : xs.length ≤ 140737488355328) (hcap : xs.length ≤ c) (hlen : (Lib.join (xs.map (·.data.toList)) sep.data.toList).length ≤ 140737488355328) :
    Calls Tryz.prog 83 #[.slice (some ⟨bk, o, none⟩) xs.length c, .string sep] w fun e w' => e = .returned (.string ⟨(Lib.join (xs.map (·.data.toList)) sep.data.toList).toArray⟩) ∧ Below w.heap.size w w' := Any.strings_Join Tryz.lays156 Tryz.Builder_Extra_156 bk o c xs sep w hcells hbk hN hcap hlen
def Tryz.laysM173_ren : Go.Shelf.Ren := ⟨fun | 173 => 133 | 246 => 182 | 283 => 212 | 284 => 213 | 285 => 214 | 286 => 215 | 129 => 232 | 317 => 231 | 318 => 233 | 319 => 234 | 320 => 235 | 337 => 242 | 338 => 243 | n => n, fun | 2 => 2 | 3 => 3 | 9 => 9 | 4 => 4 | 171 => 90 | 0 => 0 | 53 => 281 | 37 => 93 | 5 => 5 | 173 => 284 | 212 => 299 | 51 => 300 | 20 => 20 | 213 => 301 | 46 => 292 | 232 => 313 | 233 => 314 | n => n, fun | 17 => 4 | 18 => 7 | 19 => 8 | n => n⟩
theorem Tryz.laysM173 : Go.Proofs.LaysM.n173 Tryz.prog Tryz.laysM173_ren := {
  mixed := by kernel_rfl
  f129 := Tryz.func232.trans (congrArg some (by kernel_rfl))
  f173 := Tryz.func133.trans (congrArg some (by kernel_rfl))
  f246 := Tryz.func182.trans (congrArg some (by kernel_rfl))
  f283 := Tryz.func212.trans (congrArg some (by kernel_rfl))
  f284 := Tryz.func213.trans (congrArg some (by kernel_rfl))
  f285 := Tryz.func214.trans (congrArg some (by kernel_rfl))
  f286 := Tryz.func215.trans (congrArg some (by kernel_rfl))
  f317 := Tryz.func231.trans (congrArg some (by kernel_rfl))
  f318 := Tryz.func233.trans (congrArg some (by kernel_rfl))
  f319 := Tryz.func234.trans (congrArg some (by kernel_rfl))
  f320 := Tryz.func235.trans (congrArg some (by kernel_rfl))
  f337 := Tryz.func242.trans (congrArg some (by kernel_rfl))
  f338 := Tryz.func243.trans (congrArg some (by kernel_rfl))
  t0 := Tryz.underlying0
  a0 := Tryz.isAgg0
  z0 := Tryz.sizeOf0
  v0 := Tryz.zeroValue0
  t2 := Tryz.underlying2
  a2 := Tryz.isAgg2
  z2 := Tryz.sizeOf2
  v2 := Tryz.zeroValue2
  t3 := Tryz.underlying3
  a3 := Tryz.isAgg3
  z3 := Tryz.sizeOf3
  v3 := Tryz.zeroValue3
  t4 := Tryz.underlying4
  a4 := Tryz.isAgg4
  z4 := Tryz.sizeOf4
  v4 := Tryz.zeroValue4
  t5 := Tryz.underlying5
  a5 := Tryz.isAgg5
  z5 := Tryz.sizeOf5
  v5 := Tryz.zeroValue5
  t9 := Tryz.underlying9
  a9 := Tryz.isAgg9
  z9 := Tryz.sizeOf9
  v9 := Tryz.zeroValue9
  t20 := Tryz.underlying20
  a20 := Tryz.isAgg20
  z20 := Tryz.sizeOf20
  v20 := Tryz.zeroValue20
  t37 := Tryz.underlying93
  a37 := Tryz.isAgg93
  z37 := Tryz.sizeOf93
  v37 := Tryz.zeroValue93
  t46 := Tryz.underlying292
  a46 := Tryz.isAgg292
  z46 := Tryz.sizeOf292
  v46 := Tryz.zeroValue292
  t51 := Tryz.underlying300
  a51 := Tryz.isAgg300
  z51 := Tryz.sizeOf300
  v51 := Tryz.zeroValue300
  t53 := Tryz.underlying281
  a53 := Tryz.isAgg281
  z53 := Tryz.sizeOf281
  v53 := Tryz.zeroValue281
  t171 := Tryz.underlying90
  a171 := Tryz.isAgg90
  z171 := Tryz.sizeOf90
  v171 := Tryz.zeroValue90
  t173 := Tryz.underlying284
  a173 := Tryz.isAgg284
  z173 := Tryz.sizeOf284
  v173 := Tryz.zeroValue284
  t212 := Tryz.underlying299
  a212 := Tryz.isAgg299
  z212 := Tryz.sizeOf299
  v212 := Tryz.zeroValue299
  t213 := Tryz.underlying301
  a213 := Tryz.isAgg301
  z213 := Tryz.sizeOf301
  t232 := Tryz.underlying313
  a232 := Tryz.isAgg313
  z232 := Tryz.sizeOf313
  v232 := Tryz.zeroValue313
  t233 := Tryz.underlying314
  a233 := Tryz.isAgg314
  z233 := Tryz.sizeOf314
  v233 := Tryz.zeroValue314
  g17 := by kernel_rfl
  g18 := by kernel_rfl
  g19 := by kernel_rfl
  i0 := by kernel_rfl
  i2 := by kernel_rfl
  i3 := by kernel_rfl
  i4 := by kernel_rfl
  i5 := by kernel_rfl
  i9 := by kernel_rfl
  i20 := by kernel_rfl
  i37 := by kernel_rfl
  i46 := by kernel_rfl
  i51 := by kernel_rfl
  i53 := by kernel_rfl
  i171 := by kernel_rfl
  i173 := by kernel_rfl
  i212 := by kernel_rfl
  i232 := by kernel_rfl
  i233 := by kernel_rfl
  m17 := by kernel_rfl
  m18 := by kernel_rfl
  m19 := by kernel_rfl }
open Go.RowKit Go.Sort Go.Lib in
theorem Tryz.strconv_FormatInt_10 (n : Int) (h0 : -9223372036854775808 ≤ n) (h1 : n ≤ 9223372036854775807) (w : World) (htab : Lib.TabIs Tryz.prog w "internal/strconv.uint64pow10" .u64 Lib.pow10Tab) :
    Calls Tryz.prog 133 #[.int .i64 n, .int .i64 10] w fun e w' => e = .returned (.string ⟨(Lib.itoa n).toArray⟩) ∧ ∃ k os, w' = grow (w.drewN k) os := Any.strconv_FormatInt_10 Tryz.laysM173 n h0 h1 w htab
end Go.Proofs
/- Plain definitions: words, numbers, places and lines of a text as lists of bytes, as the document's own reader tells them; and small facts on byte arrays. -/
namespace Go.Proofs.YtmlgajhhnojdjaaGreatDoor.Spec
open Go

abbrev B := List UInt8
def bs (l : B) : ByteArray := ⟨l.toArray⟩
@[simp] theorem toList_bs (l : B) : (bs l).toList = l := ByteArray.toList_mk l
theorem bs_toList (s : ByteArray) : bs s.toList = s := by
  rw [ByteArray.toList_eq]; cases s; simp [bs]
@[simp] theorem size_bs (l : B) : (bs l).size = l.length := by simp [bs, ByteArray.size]
theorem length_toList (s : ByteArray) : s.toList.length = s.size := by
  rw [ByteArray.toList_eq]; cases s; simp [ByteArray.size]
theorem eq_bs {s : ByteArray} {l : B} (h : s.toList = l) : s = bs l := by rw [← h, bs_toList]
theorem getElem_toList (s : ByteArray) (k : Nat) (h : k < s.size) : s[k] = s.toList[k]'(by rw [length_toList]; exact h) := by
  have e : s.toList = s.data.toList := ByteArray.toList_eq s
  simp only [e]
  cases s; rfl
theorem getElem?_toList (s : ByteArray) (k : Nat) (h : k < s.size) : s.toList[k]? = some s[k] := by
  rw [getElem_toList s k h]; exact List.getElem?_eq_getElem _
theorem extract_toList (s : ByteArray) (a b : Nat) : (s.extract a b).toList = (s.toList.drop a).take (b - a) := by
  rw [ByteArray.toList_eq, ByteArray.toList_eq]
  have : (s.extract a b).data = s.data.extract a b := by simp
  rw [this]
  simp [List.extract_eq_take_drop]
theorem extract_eq (s : ByteArray) (a b : Nat) : s.extract a b = bs ((s.toList.drop a).take (b - a)) := eq_bs (extract_toList s a b)

@[simp] theorem bs_getElem (l : B) (k : Nat) (h : k < (bs l).size) : (bs l)[k] = l[k]'(by simpa using h) := by
  rw [getElem_toList (bs l) k h]; simp
def lower (c : UInt8) : Bool := decide (97 ≤ c.toNat) && decide (c.toNat ≤ 122)
def digit (c : UInt8) : Bool := decide (48 ≤ c.toNat) && decide (c.toNat ≤ 57)

/-- a name: 1 to 4 letters -/
def isName (l : B) : Bool := l.all lower && decide (1 ≤ l.length) && decide (l.length ≤ 4)

/-- the value of digits behind a number so far; none: no digit, or too great -/
def numGo : Int → B → Option Int
  | n, [] => some n
  | n, c :: r => if digit c then (if 10 * n + (c.toNat - 48) > 1000000000 then none else numGo (10 * n + (c.toNat - 48)) r) else none
def unsigned (s : B) : B := match s with | c :: r => if c = 45 then r else s | [] => s
def signed (s : B) : Bool := match s with | c :: _ => decide (c = 45) | [] => false
def number (s : B) : Option Int :=
  if (unsigned s).length < 1 ∨ ((unsigned s).head? = some 48 ∧ s ≠ [48]) then none
  else match numGo 0 (unsigned s) with
    | none => none
    | some n => some (if signed s then -n else n)

/-- of a place: is there a dot ahead of the last byte? its local's name, its part (0: none) -/
def dotted (w : B) : Bool := decide (2 < w.length) && (w[w.length - 2]? == some 46)
def localOf (w : B) : B := if dotted w then w.take (w.length - 2) else w
def partOf (w : B) : UInt8 := if dotted w then w.getLastD 0 else 0
def isPlace (w : B) : Bool := isName (localOf w) && (decide (localOf w = w) || partOf w == 97 || partOf w == 98 || partOf w == 115)

/-- is it a terminator's word: goto, if, match, end, test -/
def ends (w : B) : Bool := w == [103, 111, 116, 111] || w == [105, 102] || w == [109, 97, 116, 99, 104] || w == [101, 110, 100] || w == [116, 101, 115, 116]

/-- what stands behind a word -/
def behind (w : B) (raw : Bool) : B × Bool :=
  if w = [115, 101, 116] then ([105, 110], true)
  else if w = [97, 100, 100] ∨ w = [115, 117, 98] ∨ w = [109, 117, 108] ∨ w = [100, 105, 118] then ([105, 105, 105], true)
  else if w = [105, 110] ∨ w = [111, 117, 116] ∨ w = [101, 110, 100] then ([105], true)
  else if w = [110, 101, 119] ∨ w = [115, 116, 111, 114, 101] then ([112, 105], true)
  else if w = [108, 111, 97, 100] then ([105, 112], true)
  else if w = [109, 111, 118, 101] then ([109, 109], true)
  else if w = [110, 111, 110, 101] then ([111], true)
  else if w = [115, 111, 109, 101] then ([111, 112], true)
  else if w = [103, 111, 116, 111] then ([78], true)
  else if w = [105, 102] then ([105, 78, 78], true)
  else if w = [109, 97, 116, 99, 104] then ([111, 78, 78], true)
  else if w = [100, 114, 111, 112] then ([100], !raw)
  else if w = [102, 114, 101, 101] then ([112], raw)
  else if w = [102, 108, 97, 103] then ([102, 118], raw)
  else if w = [116, 101, 115, 116] then ([102, 78, 78], raw)
  else ([], false)

/-- may a word stand for this kind? -/
def wordOf (kind : UInt8) (w : B) : Bool :=
  if kind = 105 ∨ kind = 111 then isName w
  else if kind = 112 ∨ kind = 109 ∨ kind = 100 then isPlace w
  else if kind = 110 then (number w).isSome
  else if kind = 78 then match number w with | some n => decide (0 ≤ n) | none => false
  else if kind = 102 then match number w with | some n => decide (0 ≤ n) && decide (n < 50) | none => false
  else match number w with | some n => decide (n = 0) || decide (n = 1) | none => false

theorem u8_eq (a : UInt8) (n : Nat) (hn : n < 256) : a = UInt8.ofNat n ↔ a.toNat = n := by
  rw [← UInt8.toNat_inj, UInt8.toNat_ofNat_of_lt' (by simpa using hn)]
end Go.Proofs.YtmlgajhhnojdjaaGreatDoor.Spec
/- Plain definitions: a text parted at a byte. -/
namespace Go.Proofs.YtmlgajhhnojdjaaGreatDoor.Spec
open Go

def addHead (p : B) : List B → List B
  | [] => [p]
  | h :: t => (p ++ h) :: t
/-- a text, at each byte c: one piece more than there are such bytes -/
def split (c : UInt8) : B → List B
  | [] => [[]]
  | x :: r => if x = c then [] :: split c r else addHead [x] (split c r)
theorem split_ne (c : UInt8) (l : B) : split c l ≠ [] := by
  cases l with
  | nil => simp [split]
  | cons x r => rw [split]; split; simp; cases h : split c r <;> simp [addHead]
theorem split_length (c : UInt8) (l : B) : (split c l).length ≤ l.length + 1 := by
  induction l with
  | nil => simp [split]
  | cons x r ih =>
    rw [split]
    split
    · simp; omega
    · cases h : split c r with
      | nil => simp [addHead]
      | cons a b => rw [h] at ih; simp [addHead] at ih ⊢; omega
theorem mem_split_length (c : UInt8) (l : B) : ∀ x ∈ split c l, x.length ≤ l.length := by
  induction l with
  | nil => simp [split]
  | cons a r ih =>
    intro x hx
    rw [split] at hx
    split at hx
    · rcases List.mem_cons.mp hx with rfl | hx
      · simp
      · have := ih x hx; simp; omega
    · cases h : split c r with
      | nil => exact absurd h (split_ne c r)
      | cons p q =>
        rw [h] at hx ih
        simp only [addHead, List.mem_cons] at hx
        rcases hx with rfl | hx
        · have := ih p (by simp); simp; omega
        · have := ih x (by simp [hx]); simp; omega

end Go.Proofs.YtmlgajhhnojdjaaGreatDoor.Spec
/- Plain definitions: a program as the document's own reader keeps it, and what it tells of lines, names and types. -/
namespace Go.Proofs.YtmlgajhhnojdjaaGreatDoor.Spec
open Go

structure RP where
  lines : List (List B)
  lets : List Nat
  blocks : List Nat
  raw : Bool

def wLet : B := [108, 101, 116]
def wBlock : B := [98, 108, 111, 99, 107]
def wInt : B := [105, 110, 116]
def wBox : B := [98, 111, 120]
def wPair : B := [112, 97, 105, 114]
def wOpt : B := [111, 112, 116]

def word (ws : List B) (k : Nat) : B := ws.getD k []
def RP.line (p : RP) (i : Nat) : List B := p.lines.getD i []

/-- does what stands behind these lines (the last one first) stand in a block, behind no terminator? -/
def insideR : List (List B) → Bool
  | [] => false
  | ws :: r => if word ws 0 = wBlock then true else if ends (word ws 0) then false else insideR r
def RP.inside (p : RP) (i : Nat) : Bool := insideR (p.lines.take i).reverse

/-- which local has a name; -1: none -/
def RP.findGo (p : RP) (name : B) : List Nat → Nat → Int
  | [], _ => -1
  | t :: r, k => if word (p.line t) 1 = name then k else RP.findGo p name r (k + 1)
def RP.find (p : RP) (name : B) : Int := p.findGo name p.lets 0

theorem RP.findGo_lt (p : RP) (name : B) : ∀ (l : List Nat) (k : Nat), 0 ≤ p.findGo name l k → ∃ j, p.findGo name l k = ((k + j : Nat) : Int) ∧ j < l.length ∧ word (p.line (l.getD j 0)) 1 = name := by
  intro l
  induction l with
  | nil => intro k h; simp [RP.findGo] at h
  | cons t r ih =>
    intro k h
    rw [RP.findGo] at h ⊢
    by_cases hc : word (p.line t) 1 = name
    · rw [if_pos hc]; exact ⟨0, by simp, by simp, by simpa using hc⟩
    · rw [if_neg hc] at h ⊢
      obtain ⟨j, h1, h2, h3⟩ := ih (k + 1) h
      exact ⟨j + 1, by rw [h1]; congr 1; omega, by simpa using h2, by simpa using h3⟩
theorem RP.find_lt {p : RP} {name : B} (h : 0 ≤ p.find name) : ∃ j : Nat, p.find name = j ∧ j < p.lets.length ∧ word (p.line (p.lets.getD j 0)) 1 = name := by
  obtain ⟨j, h1, h2, h3⟩ := p.findGo_lt name p.lets 0 h
  exact ⟨j, by unfold RP.find; rw [h1]; simp, h2, h3⟩
/-- a local's type, and a place's; empty: it has no such part -/
def RP.typeW (p : RP) (w : B) : B := word (p.line (p.lets.getD (p.find (localOf w)).toNat 0)) 2
def RP.typeOf (p : RP) (w : B) : B :=
  if partOf w = 97 ∨ partOf w = 98 then (if p.typeW w = wPair then wBox else [])
  else if partOf w = 115 then (if p.typeW w = wOpt then wBox else []) else p.typeW w

/-- what a word of a line names is there -/
def RP.nameOk (p : RP) (c : UInt8) (w : B) : Bool :=
  if c = 105 ∨ c = 111 ∨ c = 112 ∨ c = 109 ∨ c = 100 then decide (0 ≤ p.find (localOf w))
  else if c = 78 then decide ((number w).getD 0 < p.blocks.length) else true
def RP.namesGo (p : RP) : B → List B → Bool
  | [], _ => true
  | c :: f, ws => p.nameOk c (word ws 0) && RP.namesGo p f (ws.drop 1)
def RP.names (p : RP) (i : Nat) : Bool :=
  if word (p.line i) 0 = wLet then decide (p.lets.getD (p.find (word (p.line i) 1)).toNat 0 = i)
  else p.namesGo (behind (word (p.line i) 0) p.raw).1 ((p.line i).drop 1)
/-- are the places of a line of the right types? (t0: the type of its first place) -/
def RP.typeOk (p : RP) (c : UInt8) (w w1 : B) : Bool :=
  if c = 110 ∨ c = 78 ∨ c = 102 ∨ c = 118 then true
  else if p.typeOf w = [] then false
  else if (c = 105 ∧ p.typeOf w ≠ wInt) ∨ (c = 112 ∧ p.typeOf w ≠ wBox) ∨ (c = 111 ∧ p.typeOf w ≠ wOpt) then false
  else if (c = 109 ∨ c = 100) ∧ p.typeOf w = wInt then false
  else if c = 109 ∧ p.typeOf w ≠ p.typeOf w1 then false else true
def RP.typesGo (p : RP) (w1 : B) : B → List B → Bool
  | [], _ => true
  | c :: f, ws => p.typeOk c (word ws 0) w1 && RP.typesGo p w1 f (ws.drop 1)
def RP.types (p : RP) (i : Nat) : Bool := p.typesGo (word (p.line i) 1) (behind (word (p.line i) 0) p.raw).1 ((p.line i).drop 1)
/-- may a line stand there? -/
def formGo : B → List B → Bool
  | [], _ => true
  | c :: f, ws => wordOf c (word ws 0) && formGo f (ws.drop 1)
def RP.form (p : RP) (i : Nat) : Bool :=
  if word (p.line i) 0 = wLet then
    if (p.line i).length ≠ 3 ∨ 0 < p.blocks.length ∨ 12 ≤ p.lets.length then false
    else isName (word (p.line i) 1) && (word (p.line i) 2 == wInt || word (p.line i) 2 == wBox || word (p.line i) 2 == wPair || word (p.line i) 2 == wOpt)
  else if word (p.line i) 0 = wBlock then
    decide ((p.line i).length = 1) && !p.inside i && decide (0 < p.lets.length) && decide (p.blocks.length < if p.raw then 2000 else 20)
  else if (behind (word (p.line i) 0) p.raw).2 = false ∨ p.inside i = false ∨ (p.line i).length ≠ (behind (word (p.line i) 0) p.raw).1.length + 1 then false
  else formGo (behind (word (p.line i) 0) p.raw).1 ((p.line i).drop 1)

end Go.Proofs.YtmlgajhhnojdjaaGreatDoor.Spec
/- Plain definitions: how the document's own reader reads a whole text. -/
namespace Go.Proofs.YtmlgajhhnojdjaaGreatDoor.Spec
open Go

def RP.addLine (p : RP) (ws : List B) : RP := { p with lines := p.lines ++ [ws] }
def RP.addLet (p : RP) (i : Nat) : RP := { p with lets := p.lets ++ [i] }
def RP.addBlock (p : RP) (i : Nat) : RP := { p with blocks := p.blocks ++ [i] }
/-- the marks of line i: a let, a block -/
def RP.mark (p : RP) (i : Nat) : RP := if word (p.line i) 0 = wLet then p.addLet i else if word (p.line i) 0 = wBlock then p.addBlock i else p
/-- lines that are still to be read, what has been read, the number of the next line; the first line whose form is wrong -/
def readForm : List (List B) → RP → Nat → RP × Option Nat
  | [], p, _ => (p, none)
  | ws :: r, p, i => if (p.addLine ws).form i then readForm r ((p.addLine ws).mark i) (i + 1) else (p.addLine ws, some i)
/-- the first of the next m numbers from i on of which f is false -/
def firstNot (f : Nat → Bool) : Nat → Nat → Option Nat
  | 0, _ => none
  | m + 1, i => if f i then firstNot f m (i + 1) else some i
def RP.typesOk (p : RP) (i : Nat) : Bool := word (p.line i) 0 == wLet || word (p.line i) 0 == wBlock || p.types i
def start (raw : Bool) : RP := ⟨[], [], [], raw⟩
def wordsOf (text : B) : List (List B) := (split 10 text).map (split 32)
/-- Read: the program (none: refused), the error, the line -/
def refRead (text : B) (raw : Bool) : Option RP × Nat × Nat :=
  if 4000 < (split 10 text).length ∨ (raw = false ∧ 120 < (split 10 text).length) then (none, 1, 0)
  else match readForm (wordsOf text) (start raw) 0 with
    | (_, some i) => (none, 2, i)
    | (p, none) =>
      if p.inside (split 10 text).length = true ∨ p.blocks.length = 0 then (none, 2, (split 10 text).length)
      else match firstNot p.names (split 10 text).length 0 with
        | some i => (none, 3, i)
        | none => match firstNot p.typesOk (split 10 text).length 0 with
          | some i => (none, 4, i)
          | none => (some p, 0, 0)

theorem RP.addLine_line (p : RP) (ws : List B) (j : Nat) : (p.addLine ws).line j = if j < p.lines.length then p.line j else if j = p.lines.length then ws else [] := by
  simp only [RP.addLine, RP.line, List.getD_eq_getElem?_getD, List.getElem?_append]
  split
  · rfl
  · split
    · rename_i h1 h2; subst h2; simp
    · rw [List.getElem?_eq_none (by simp; omega)]; rfl
theorem RP.mark_line (p : RP) (i j : Nat) : (p.mark i).line j = p.line j := by
  unfold RP.mark RP.addLet RP.addBlock; split; rfl; split <;> rfl
theorem RP.mark_lines (p : RP) (i : Nat) : (p.mark i).lines = p.lines := by
  unfold RP.mark RP.addLet RP.addBlock; split; rfl; split <;> rfl
theorem RP.mark_raw (p : RP) (i : Nat) : (p.mark i).raw = p.raw := by
  unfold RP.mark RP.addLet RP.addBlock; split; rfl; split <;> rfl
end Go.Proofs.YtmlgajhhnojdjaaGreatDoor.Spec
