/- Plain facts: where the lines of a good program lead are lines. -/
import Derived.Test.YtmlgajhhnojdjaaGreatDoorQAO
namespace Go.Proofs.YtmlgajhhnojdjaaGreatDoor.Spec
open Go Go.Proofs.YtmlgajhhnojdjaaGreatDoor.Aux Go.Proofs.YtmlgajhhnojdjaaGreatDoor.RefS Go.Proofs.YtmlgajhhnojdjaaGreatDoor.RefT

theorem insideR_last (p : RP) (i : Nat) (hi : i < p.lines.length) : p.inside (i + 1) = if word (p.line i) 0 = wBlock then true else if ends (word (p.line i) 0) then false else p.inside i := by
  unfold RP.inside
  rw [List.take_add_one, List.getElem?_eq_getElem hi]
  have : p.line i = p.lines[i] := by simp [RP.line, hi]
  simp only [Option.toList_some, List.reverse_append, List.reverse_cons, List.reverse_nil, List.nil_append, List.cons_append, insideR, this]
theorem ReadOk.pos {text : B} {raw : Bool} {p : RP} (h : ReadOk text raw p) : 0 < p.lines.length := by
  have := one_le_split 10 text
  rw [h.lines, wordsOf_length]; omega
theorem ReadOk.block_mem {text : B} {raw : Bool} {p : RP} (h : ReadOk text raw p) : ∃ b ∈ p.blocks, b < p.lines.length ∧ isBlock (p.line b) = true := by
  cases hb : p.blocks with
  | nil => exact absurd hb h.nonempty
  | cons b r =>
    have : b ∈ p.blocks := by rw [hb]; simp
    refine ⟨b, by simp, ?_⟩
    rw [h.pre.blocks] at this
    exact mem_whichAre this
theorem ReadOk.next {text : B} {raw : Bool} {p : RP} (h : ReadOk text raw p) (i : Nat) (hi : i < p.lines.length) (he : ends (word (p.line i) 0) = false) : i + 1 < p.lines.length := by
  by_cases hlast : i + 1 < p.lines.length
  · exact hlast
  · exfalso
    have hn : p.lines.length = i + 1 := by omega
    have hs := h.shut
    rw [hn, insideR_last p i hi] at hs
    by_cases hb : word (p.line i) 0 = wBlock
    · rw [if_pos hb] at hs; cases hs
    · rw [if_neg hb, he] at hs
      rcases h.pre.inb i hi with hl | hl
      · obtain ⟨b, h1, h2, h3⟩ := h.block_mem
        have := h.pre.first i hi hl b h1
        omega
      · rw [show isBlock (p.line i) = false by simp [isBlock, hb]] at hl
        simp [hl] at hs
theorem behind_N (w : B) (r : Bool) (k : Nat) (h : (behind w r).1.getD k 0 = 78) : k < (behind w r).1.length := by
  by_cases hk : k < (behind w r).1.length
  · exact hk
  · rw [List.getD_eq_getElem?_getD, List.getElem?_eq_none (by omega)] at h
    cases h
theorem RP.names_block {p : RP} {i : Nat} (h : p.names i = true) (hl : ¬ word (p.line i) 0 = wLet) (k : Nat) (hc : (behind (word (p.line i) 0) p.raw).1.getD k 0 = 78) : (number (word (p.line i) (k + 1))).getD 0 < p.blocks.length := by
  have hk := behind_N _ _ _ hc
  have := p.namesGo_at _ _ k hk (RP.names_go h hl)
  rw [word_drop] at this
  have e : (behind (word (p.line i) 0) p.raw).1[k] = 78 := by
    rw [List.getD_eq_getElem?_getD, List.getElem?_eq_getElem hk] at hc; simpa using hc
  rw [e, RP.nameOk, if_neg (by decide), if_pos rfl] at this
  simpa using this
theorem formGo_at : ∀ (f : B) (ws : List B) (k : Nat) (hk : k < f.length), formGo f ws = true → wordOf f[k] (word ws k) = true := by
  intro f
  induction f with
  | nil => intro ws k hk; simp at hk
  | cons c f ih =>
    intro ws k hk h
    rw [formGo, Bool.and_eq_true] at h
    cases k with
    | zero => exact h.1
    | succ k =>
      have := ih (ws.drop 1) k (by simpa using hk) h.2
      rw [word_drop] at this
      simpa using this
theorem lineForm_word {raw : Bool} {ws : List B} (h : lineForm raw ws = true) (hl : ¬ word ws 0 = wLet) (k : Nat) (hk : k < (behind (word ws 0) raw).1.length) : wordOf (behind (word ws 0) raw).1[k] (word ws (k + 1)) = true := by
  unfold lineForm at h
  rw [if_neg hl] at h
  by_cases hb : word ws 0 = wBlock
  · exfalso
    have : (behind (word ws 0) raw).1 = [] := by rw [hb]; cases raw <;> rfl
    rw [this] at hk; simp at hk
  · rw [if_neg hb] at h
    simp only [Bool.and_eq_true] at h
    have := formGo_at _ _ k hk h.2
    rwa [word_drop] at this
theorem lineForm_block {raw : Bool} {ws : List B} (h : lineForm raw ws = true) (hl : ¬ word ws 0 = wLet) (k : Nat) (hc : (behind (word ws 0) raw).1.getD k 0 = 78) : ∃ n : Nat, number (word ws (k + 1)) = some (n : Int) := by
  have hk := behind_N _ _ _ hc
  have := lineForm_word h hl k hk
  have e : (behind (word ws 0) raw).1[k] = 78 := by
    rw [List.getD_eq_getElem?_getD, List.getElem?_eq_getElem hk] at hc; simpa using hc
  rw [e, wordOf, if_neg (by decide), if_neg (by decide), if_neg (by decide), if_pos rfl] at this
  cases hn : number (word ws (k + 1)) with
  | none => rw [hn] at this; cases this
  | some n =>
    rw [hn] at this
    exact ⟨n.toNat, by simp only [decide_eq_true_eq] at this; rw [Int.toNat_of_nonneg this]⟩
theorem behind_let (r : Bool) : (behind wLet r).1 = [] := by cases r <;> rfl
theorem ReadOk.into {text : B} {raw : Bool} {p : RP} (h : ReadOk text raw p) (i : Nat) (hi : i < p.lines.length) (k : Nat) (hc : (behind (word (p.line i) 0) p.raw).1.getD k 0 = 78) : ∃ n : Nat, number (word (p.line i) (k + 1)) = some (n : Int) ∧ n < p.blocks.length ∧ p.blockOf (word (p.line i) (k + 1)) = p.blocks.getD n 0 ∧ p.blocks.getD n 0 < p.lines.length := by
  have hl : ¬ word (p.line i) 0 = wLet := by
    intro e
    rw [e, behind_let] at hc; cases hc
  obtain ⟨n, hn⟩ := lineForm_block (h.pre.form i hi) hl k hc
  have hb := RP.names_block (h.names i hi) hl k hc
  rw [hn] at hb
  have hb' : n < p.blocks.length := by simpa using hb
  refine ⟨n, hn, hb', by unfold RP.blockOf; rw [hn]; simp, ?_⟩
  have hm : p.blocks.getD n 0 ∈ p.blocks := by simp [hb']
  have hw := h.pre.blocks
  rw [hw] at hm ⊢
  exact (mem_whichAre hm).1
theorem ReadOk.leads {text : B} {raw : Bool} {p : RP} (h : ReadOk text raw p) : Leads p :=
  ⟨h.next, fun i hi k hc => by obtain ⟨n, -, -, h1, h2⟩ := h.into i hi k hc; rw [h1]; exact h2⟩
theorem ReadOk.first {text : B} {raw : Bool} {p : RP} (h : ReadOk text raw p) : 0 < p.blocks.length ∧ p.blocks.getD 0 0 < p.lines.length := by
  have h0 : 0 < p.blocks.length := List.length_pos_iff.mpr h.nonempty
  refine ⟨h0, ?_⟩
  have hm : p.blocks.getD 0 0 ∈ p.blocks := by simp [h0]
  have hw := h.pre.blocks
  rw [hw] at hm ⊢
  exact (mem_whichAre hm).1
end Go.Proofs.YtmlgajhhnojdjaaGreatDoor.Spec
/- Plain facts: what a line makes of the ways, spot by spot; ways that are settled are the least that are closed. -/
namespace Go.Proofs.YtmlgajhhnojdjaaGreatDoor.Spec
open Go Go.Proofs.YtmlgajhhnojdjaaGreatDoor.Aux Go.Proofs.YtmlgajhhnojdjaaGreatDoor.RefS Go.Proofs.YtmlgajhhnojdjaaGreatDoor.RefT

/-- letters, or those of a spot ahead of the line -/
inductive Src where
  | const (c : B)
  | copy (k : Nat)
def Src.of (x : Src) (f : Nat → B) : B := match x with | .const c => c | .copy k => f k
/-- is spot k one of a place's? -/
def RP.isSpot (p : RP) (l : B) (k : Nat) : Bool := decide ((p.spots l).1 ≤ k) && decide (k < (p.spots l).1 + (p.spots l).2)
def RP.nowSrc (p : RP) (l : B) (c : Src) (g : Nat → Src) (k : Nat) : Src := if p.isSpot l k then c else g k
def RP.takesSrc (p : RP) (ws : List B) : Nat → Src :=
  let g := p.nowSrc (word ws 1) (.const [119]) (p.nowSrc (word ws 2) (.const (left (word ws 2))) .copy)
  if word ws 0 = [109, 111, 118, 101] ∧ p.typeOf (word ws 1) = wOpt then p.nowSrc (word ws 1) (.copy (p.spots (word ws 2)).1) g else g
def RP.src (p : RP) (ws : List B) : Nat → Src :=
  if word ws 0 = [115, 101, 116] ∨ word ws 0 = [105, 110] then p.nowSrc (word ws 1) (.const [119]) .copy
  else if word ws 0 = [97, 100, 100] ∨ word ws 0 = [115, 117, 98] ∨ word ws 0 = [109, 117, 108] ∨ word ws 0 = [100, 105, 118] then p.nowSrc (word ws 1) (.const [119]) .copy
  else if word ws 0 = [111, 117, 116] ∨ word ws 0 = [105, 102] ∨ word ws 0 = [101, 110, 100] ∨ word ws 0 = [109, 97, 116, 99, 104] then .copy
  else if word ws 0 = [110, 101, 119] then p.nowSrc (word ws 1) (.const [119]) .copy
  else if word ws 0 = [108, 111, 97, 100] then p.nowSrc (word ws 1) (.const [119]) .copy
  else if word ws 0 = [115, 116, 111, 114, 101] then .copy
  else if word ws 0 = [110, 111, 110, 101] then p.nowSrc (word ws 1) (.const [110]) .copy
  else if word ws 0 = [100, 114, 111, 112] then p.nowSrc (word ws 1) (.const (left (word ws 1))) .copy
  else if word ws 0 = [109, 111, 118, 101] ∨ word ws 0 = [115, 111, 109, 101] then p.takesSrc ws
  else .copy

theorem at_out {s : WS} (hs : s.spots.length = 24) {k : Nat} (hk : 24 ≤ k) : s.at k = [] := by
  unfold WS.at; rw [List.getD_eq_getElem?_getD, List.getElem?_eq_none (by omega)]; rfl
theorem nowGo_len (c : B) : ∀ (m k : Nat) (s : WS), (nowGo c m k s).spots.length = s.spots.length
  | 0, _, _ => rfl
  | m + 1, k, s => by rw [nowGo, nowGo_len c m]; simp [WS.set]
theorem nowGo_at (c : B) : ∀ (m j : Nat) (s : WS), j + m ≤ s.spots.length → ∀ k, (nowGo c m j s).at k = if j ≤ k ∧ k < j + m then c else s.at k
  | 0, j, s, _, k => by rw [nowGo, if_neg (by omega)]
  | m + 1, j, s, h, k => by
    rw [nowGo, nowGo_at c m (j + 1) _ (by simp [WS.set]; omega) k, WS.at_set s j k c (by omega)]
    by_cases h1 : j + 1 ≤ k ∧ k < j + 1 + m
    · rw [if_pos h1, if_pos (by omega)]
    · rw [if_neg h1]
      by_cases h2 : k = j
      · rw [if_pos h2, if_pos (by omega)]
      · rw [if_neg h2, if_neg (by omega)]
/-- a place whose local is there has its spots among the twenty-four -/
def RP.fits (p : RP) (l : B) : Prop := (p.spots l).1 + (p.spots l).2 ≤ 24
theorem RP.fits_of {p : RP} {l : B} (h : 0 ≤ p.find (localOf l)) (h12 : p.lets.length ≤ 12) : p.fits l := by
  obtain ⟨j, hj, hjl, _⟩ := RP.find_lt h
  have := (RP.spots_bound hj).1
  unfold RP.fits; omega
theorem RP.now_at (p : RP) {s : WS} (hs : s.spots.length = 24) {l : B} (hl : p.fits l) (c : B) (k : Nat) : (p.now s l c).at k = if p.isSpot l k then c else s.at k := by
  unfold RP.now RP.isSpot
  rw [nowGo_at c _ _ s (by rw [hs]; exact hl) k]
  simp only [Bool.and_eq_true, decide_eq_true_eq]
theorem RP.now_len (p : RP) (s : WS) (l c : B) : (p.now s l c).spots.length = s.spots.length := nowGo_len c _ _ s
/-- the places that a line's step writes or takes from fit -/
def RP.lineFits (p : RP) (ws : List B) : Prop := (word ws 0 ∈ ([[115, 101, 116], [105, 110], [97, 100, 100], [115, 117, 98], [109, 117, 108], [100, 105, 118], [110, 101, 119], [108, 111, 97, 100], [110, 111, 110, 101], [100, 114, 111, 112], [109, 111, 118, 101], [115, 111, 109, 101], [109, 97, 116, 99, 104]] : List B) → p.fits (word ws 1)) ∧
  (word ws 0 = [109, 111, 118, 101] ∨ word ws 0 = [115, 111, 109, 101] → p.fits (word ws 2))
theorem takes_at (p : RP) {s : WS} (hs : s.spots.length = 24) (ws : List B) (h1 : p.fits (word ws 1)) (h2 : p.fits (word ws 2)) (k : Nat) : (RP.takes p ws s).1.at k = (p.takesSrc ws k).of s.at := by
  unfold RP.takes RP.taken RP.takesSrc
  have e1 : ∀ k, (p.now (p.now s (word ws 2) (left (word ws 2))) (word ws 1) [119]).at k = (p.nowSrc (word ws 1) (.const [119]) (p.nowSrc (word ws 2) (.const (left (word ws 2))) .copy) k).of s.at := fun k => by
    rw [p.now_at (by rw [p.now_len, hs]) h1, p.now_at hs h2]
    unfold RP.nowSrc
    split
    · rfl
    · split <;> rfl
  by_cases hc : word ws 0 = [109, 111, 118, 101] ∧ p.typeOf (word ws 1) = wOpt
  · rw [if_pos hc]
    have hc' : word ws 0 = [109, 111, 118, 101] ∧ p.typeOf (word ws 1) = [111, 112, 116] := hc
    simp only [hc', and_self, if_true]
    rw [p.now_at (by rw [p.now_len, p.now_len, hs]) h1, e1]
    show _ = (if p.isSpot (word ws 1) k then _ else _ : Src).of s.at
    split <;> rfl
  · rw [if_neg hc]
    have hc' : ¬ (word ws 0 = [109, 111, 118, 101] ∧ p.typeOf (word ws 1) = [111, 112, 116]) := hc
    simp only [hc', if_false]
    exact e1 k
theorem RP.step_at (p : RP) {s : WS} (hs : s.spots.length = 24) {ws : List B} (h : p.lineFits ws) (k : Nat) : (p.step ws s).1.at k = (p.src ws k).of s.at := by
  have hn : ∀ c, p.fits (word ws 1) → (p.now s (word ws 1) c).at k = (p.nowSrc (word ws 1) (.const c) .copy k).of s.at := fun c hf => by
    rw [p.now_at hs hf]; unfold RP.nowSrc; split <;> rfl
  unfold RP.step RP.src
  repeat' split
  all_goals first
    | rfl
    | (refine hn _ (h.1 ?_); rename_i hw; (first | (rcases hw with hw | hw | hw | hw <;> simp [hw]; done) | (rcases hw with hw | hw <;> simp [hw]; done) | (simp [hw]; done)))
    | (rename_i hw; exact takes_at p hs ws (h.1 (by rcases hw with hw | hw <;> simp [hw])) (h.2 hw) k)
end Go.Proofs.YtmlgajhhnojdjaaGreatDoor.Spec
/- Plain facts: ways that are settled are closed, and the least ones that are. -/
namespace Go.Proofs.YtmlgajhhnojdjaaGreatDoor.Spec
open Go Go.Proofs.YtmlgajhhnojdjaaGreatDoor.Aux Go.Proofs.YtmlgajhhnojdjaaGreatDoor.RefS Go.Proofs.YtmlgajhhnojdjaaGreatDoor.RefT

def Sub (s t : WS) : Prop := ∀ k c, c ∈ s.at k → c ∈ t.at k
theorem Sub.refl (s : WS) : Sub s s := fun _ _ h => h
theorem Sub.trans {s t u : WS} (h : Sub s t) (h' : Sub t u) : Sub s u := fun k c hc => h' k c (h k c hc)
theorem withC_mem (s : B) (c x : UInt8) : x ∈ withC s c ↔ x ∈ s ∨ x = c := by
  unfold withC; split
  · exact ⟨.inl, fun h => by rcases h with h | h; exact h; rw [h]; assumption⟩
  · simp
theorem addGo_mem : ∀ (o s : B) (m : Bool) (x : UInt8), x ∈ (addGo s m o).1 ↔ x ∈ s ∨ x ∈ o
  | [], s, m, x => by simp [addGo]
  | c :: r, s, m, x => by rw [addGo, addGo_mem r, withC_mem]; simp [or_assoc]
theorem addGo_quiet : ∀ (o s : B) (m : Bool), (addGo s m o).2 = false → m = false ∧ (addGo s m o).1 = s ∧ ∀ c ∈ o, c ∈ s
  | [], s, m, h => ⟨h, rfl, by simp⟩
  | c :: r, s, m, h => by
    rw [addGo] at h ⊢
    obtain ⟨h1, h2, h3⟩ := addGo_quiet r _ _ h
    simp only [Bool.or_eq_false_iff, Bool.not_eq_false', beq_iff_eq] at h1
    rw [h1.2] at h2 h3 ⊢
    refine ⟨h1.1, h2, fun x hx => ?_⟩
    rcases List.mem_cons.mp hx with rfl | hx
    · have := (withC_mem s x x).mpr (.inr rfl)
      rwa [h1.2] at this
    · exact h3 x hx
theorem addAt_at {s : WS} (hs : s.spots.length = 24) (o : WS) (i : Nat) (hi : i < 24) (m : Bool) (j : Nat) : (addAt o i s m).1.at j = if j = i then (addGo (s.at i) m (o.at i)).1 else s.at j := WS.at_set s i j _ (by omega)
theorem addsGo_mem (o : WS) : ∀ (n i : Nat) (s : WS) (m : Bool), s.spots.length = 24 → i + n ≤ 24 → ∀ j x, x ∈ (addsGo o n i s m).1.at j ↔ x ∈ s.at j ∨ (i ≤ j ∧ j < i + n ∧ x ∈ o.at j)
  | 0, i, s, m, _, _, j, x => by rw [addsGo]; exact ⟨.inl, fun h => by rcases h with h | ⟨h1, h2, -⟩; exact h; omega⟩
  | n + 1, i, s, m, hs, hi, j, x => by
    rw [addsGo, addsGo_mem o n (i + 1) _ _ (by simp [addAt, WS.set, hs]) (by omega) j x, addAt_at hs o i (by omega)]
    by_cases hj : j = i
    · subst hj
      rw [if_pos rfl, addGo_mem]
      constructor
      · rintro ((h | h) | ⟨h, -⟩)
        · exact .inl h
        · exact .inr ⟨Nat.le_refl _, by omega, h⟩
        · omega
      · rintro (h | ⟨-, -, h⟩)
        · exact .inl (.inl h)
        · exact .inl (.inr h)
    · rw [if_neg hj]
      constructor
      · rintro (h | ⟨h1, h2, h3⟩)
        · exact .inl h
        · exact .inr ⟨by omega, by omega, h3⟩
      · rintro (h | ⟨h1, h2, h3⟩)
        · exact .inl h
        · exact .inr ⟨by omega, by omega, h3⟩
theorem addsGo_quiet (o : WS) : ∀ (n i : Nat) (s : WS) (m : Bool), s.spots.length = 24 → i + n ≤ 24 → (addsGo o n i s m).2 = false → m = false ∧ (addsGo o n i s m).1 = s ∧ ∀ j, i ≤ j → j < i + n → ∀ x ∈ o.at j, x ∈ s.at j
  | 0, i, s, m, _, _, h => ⟨h, rfl, fun j h1 h2 => by omega⟩
  | n + 1, i, s, m, hs, hi, h => by
    rw [addsGo] at h ⊢
    obtain ⟨h1, h2, h3⟩ := addsGo_quiet o n (i + 1) _ _ (by simp [addAt, WS.set, hs]) (by omega) h
    obtain ⟨g1, g2, g3⟩ := addGo_quiet (o.at i) (s.at i) m h1
    have e : (addAt o i s m).1 = s := by
      unfold addAt; simp only; rw [g2, WS.set_self s i (by omega)]
    rw [e] at h2 h3 ⊢
    refine ⟨g1, h2, fun j hj1 hj2 x hx => ?_⟩
    by_cases hj : j = i
    · subst hj; exact g3 x hx
    · exact h3 j (by omega) (by omega) x hx
theorem WS.add_mem {s o : WS} (hs : s.Few) (ho : o.Few) (hz : s.known = false → s = zeroWS) (j : Nat) (x : UInt8) : x ∈ (s.add o).1.at j ↔ x ∈ s.at j ∨ x ∈ o.at j := by
  unfold WS.add
  by_cases hk : s.known = true
  · rw [if_pos hk, addsGo_mem o 24 0 s false hs.len (by omega)]
    by_cases hj : j < 24
    · exact ⟨fun h => h.imp id (·.2.2), fun h => h.imp id (⟨by omega, by omega, ·⟩)⟩
    · rw [at_out hs.len (by omega), at_out ho.len (by omega)]; simp
  · rw [if_neg hk]
    have e := hz (by simpa using hk)
    have : s.at j = [] := by
      rw [e]; unfold WS.at zeroWS
      simp only [List.getD_eq_getElem?_getD, List.getElem?_replicate]
      split <;> rfl
    rw [this]
    simp [WS.at]
theorem WS.add_quiet {s o : WS} (hs : s.Few) (ho : o.Few) (h : (s.add o).2 = false) : s.known = true ∧ (s.add o).1 = s ∧ Sub o s := by
  unfold WS.add at h ⊢
  by_cases hk : s.known = true
  · rw [if_pos hk] at h ⊢
    obtain ⟨-, h2, h3⟩ := addsGo_quiet o 24 0 s false hs.len (by omega) h
    refine ⟨hk, h2, fun j x hx => ?_⟩
    by_cases hj : j < 24
    · exact h3 j (by omega) (by omega) x hx
    · rw [at_out ho.len (by omega)] at hx; simp at hx
  · rw [if_neg hk] at h; cases h

/-- where a line leads, and with what -/
def RP.outs (p : RP) (i : Nat) (s : WS) : List (Nat × WS) :=
  if ends (word (p.line i) 0) then ((List.range (behind (word (p.line i) 0) p.raw).1.length).filter fun k => (behind (word (p.line i) 0) p.raw).1.getD k 0 == 78).map fun k => (p.blockOf (word (p.line i) (k + 1)), p.outOf (p.line i) (p.step (p.line i) s).1 k)
  else [(i + 1, (p.step (p.line i) s).1)]
structure Closed (p : RP) (C : Nat → WS) : Prop where
  len : ∀ i, (C i).spots.length = 24
  start : (C (p.blocks.getD 0 0)).known = true ∧ Sub startWS (C (p.blocks.getD 0 0))
  step : ∀ i, i < p.lines.length → (C i).known = true → ∀ x ∈ p.outs i (C i), (C x.1).known = true ∧ Sub x.2 (C x.1)
def Within (L : List WS) (C : Nat → WS) : Prop := ∀ i, ((lw L i).known = true → (C i).known = true) ∧ Sub (lw L i) (C i)

section
variable {p : RP}
theorem addTo_within {x : List WS × Bool} (h : RowsOk x.1) {b : Nat} (hb : b < x.1.length) {o : WS} (ho : o.Few) {C : Nat → WS} (hw : Within x.1 C) (hk : (C b).known = true) (hs : Sub o (C b)) : Within (addTo b o x).1 C := by
  intro i
  unfold addTo
  simp only
  rw [lw_set _ _ _ hb]
  split
  · rename_i e
    subst e
    refine ⟨fun _ => hk, fun k c hc => ?_⟩
    rw [WS.add_mem (h.few i) ho (h.zero i)] at hc
    rcases hc with hc | hc
    · exact (hw i).2 k c hc
    · exact hs k c hc
  · exact hw i
theorem addTo_quiet {x : List WS × Bool} (h : RowsOk x.1) {b : Nat} (hb : b < x.1.length) {o : WS} (ho : o.Few) (hq : (addTo b o x).2 = false) : x.2 = false ∧ (addTo b o x).1 = x.1 ∧ (lw x.1 b).known = true ∧ Sub o (lw x.1 b) := by
  unfold addTo at hq ⊢
  simp only [Bool.or_eq_false_iff] at hq ⊢
  obtain ⟨h1, h2, h3⟩ := WS.add_quiet (h.few b) ho hq.2
  refine ⟨hq.1, ?_, h1, h3⟩
  rw [h2]
  apply List.ext_getElem?
  intro j
  rw [List.getElem?_set]
  split
  · rename_i e; subst e; simp [lw, hb]
  · rfl
theorem leadGo_quiet (ws : List B) {s : WS} (hs : s.Few) (f : B) (hb : ∀ k, f.getD k 0 = 78 → p.blockOf (word ws (k + 1)) < p.lines.length) : ∀ (m k : Nat) (x : List WS × Bool), x.1.length = p.lines.length → RowsOk x.1 → (p.leadGo ws s f m k x).2 = false →
    x.2 = false ∧ (p.leadGo ws s f m k x).1 = x.1 ∧ ∀ j, k ≤ j → j < k + m → f.getD j 0 = 78 → (lw x.1 (p.blockOf (word ws (j + 1)))).known = true ∧ Sub (p.outOf ws s j) (lw x.1 (p.blockOf (word ws (j + 1))))
  | 0, k, x, _, _, h => ⟨h, rfl, fun j h1 h2 => by omega⟩
  | m + 1, k, x, hl, hr, h => by
    rw [RP.leadGo] at h ⊢
    by_cases hc : f.getD k 0 = 78
    · rw [if_pos hc] at h ⊢
      have hg := addTo_grows hr (b := p.blockOf (word ws (k + 1))) (by rw [hl]; exact hb k hc) (p.out_few hs ws k)
      obtain ⟨h1, h2, h3⟩ := leadGo_quiet ws hs f hb m (k + 1) _ (hg.len.trans hl) hg.rows h
      obtain ⟨g1, g2, g3⟩ := addTo_quiet hr (by rw [hl]; exact hb k hc) (p.out_few hs ws k) h1
      rw [g2] at h2 h3
      refine ⟨g1, h2, fun j hj1 hj2 hj => ?_⟩
      by_cases e : j = k
      · subst e; exact g3
      · exact h3 j (by omega) (by omega) hj
    · rw [if_neg hc] at h ⊢
      obtain ⟨h1, h2, h3⟩ := leadGo_quiet ws hs f hb m (k + 1) x hl hr h
      refine ⟨h1, h2, fun j hj1 hj2 hj => ?_⟩
      by_cases e : j = k
      · subst e; exact absurd hj hc
      · exact h3 j (by omega) (by omega) hj
theorem through_quiet (hp : Leads p) {i : Nat} (hi : i < p.lines.length) {x : List WS × Bool} (hl : x.1.length = p.lines.length) (hr : RowsOk x.1) (h : (p.through i x).2 = false) :
    x.2 = false ∧ (p.through i x).1 = x.1 ∧ ((lw x.1 i).known = true → ∀ y ∈ p.outs i (lw x.1 i), (lw x.1 y.1).known = true ∧ Sub y.2 (lw x.1 y.1)) := by
  unfold RP.through at h ⊢
  by_cases hk : (lw x.1 i).known = true
  · rw [if_pos hk] at h ⊢
    have hf := p.step_few (hr.few i) (p.line i)
    unfold RP.outs
    by_cases he : ends (word (p.line i) 0) = true
    · rw [if_pos he] at h ⊢
      obtain ⟨h1, h2, h3⟩ := leadGo_quiet (p := p) (p.line i) hf _ (hp.into i hi) _ 0 x hl hr h
      refine ⟨h1, h2, fun _ y hy => ?_⟩
      simp only [if_pos he, List.mem_map, List.mem_filter, List.mem_range, beq_iff_eq] at hy
      obtain ⟨k, ⟨hk1, hk2⟩, rfl⟩ := hy
      exact h3 k (by omega) (by omega) hk2
    · rw [if_neg he] at h ⊢
      obtain ⟨h1, h2, h3⟩ := addTo_quiet hr (by rw [hl]; exact hp.next i hi (by simpa using he)) hf h
      refine ⟨h1, h2, fun _ y hy => ?_⟩
      rw [if_neg he, List.mem_singleton] at hy
      subst hy
      exact h3
  · rw [if_neg hk] at h ⊢
    exact ⟨h, rfl, fun h' => absurd h' hk⟩
theorem passGo_quiet (hp : Leads p) : ∀ (m i : Nat) (x : List WS × Bool), i + m ≤ p.lines.length → x.1.length = p.lines.length → RowsOk x.1 → (p.passGo m i x).2 = false →
    x.2 = false ∧ (p.passGo m i x).1 = x.1 ∧ ∀ j, i ≤ j → j < i + m → (lw x.1 j).known = true → ∀ y ∈ p.outs j (lw x.1 j), (lw x.1 y.1).known = true ∧ Sub y.2 (lw x.1 y.1)
  | 0, i, x, _, _, _, h => ⟨h, rfl, fun j h1 h2 => by omega⟩
  | m + 1, i, x, hi, hl, hr, h => by
    rw [RP.passGo] at h ⊢
    have hg := RP.through_grows hp i (by omega) x hl hr
    obtain ⟨h1, h2, h3⟩ := passGo_quiet hp m (i + 1) _ (by omega) (hg.len.trans hl) hg.rows h
    obtain ⟨g1, g2, g3⟩ := through_quiet hp (by omega) hl hr h1
    rw [g2] at h2 h3
    refine ⟨g1, h2, fun j hj1 hj2 => ?_⟩
    by_cases e : j = i
    · subst e; exact g3
    · exact h3 j (by omega) (by omega)

theorem RP.step_mono (ws : List B) (h : p.lineFits ws) {s t : WS} (hs : s.spots.length = 24) (ht : t.spots.length = 24) (hst : Sub s t) : Sub (p.step ws s).1 (p.step ws t).1 := by
  intro k c hc
  rw [p.step_at hs h] at hc
  rw [p.step_at ht h]
  cases hx : p.src ws k with
  | const d => rw [hx] at hc; exact hc
  | copy j => rw [hx] at hc; exact hst j c hc
theorem RP.outOf_mono (ws : List B) (h : p.lineFits ws) {s t : WS} (hs : s.spots.length = 24) (ht : t.spots.length = 24) (hst : Sub s t) (k : Nat) : Sub (p.outOf ws s k) (p.outOf ws t k) := by
  intro j c hc
  unfold RP.outOf at hc ⊢
  have hf : word ws 0 = wMatch → p.fits (word ws 1) := fun e => h.1 (by rw [e]; simp [wMatch])
  split at hc
  · rename_i hm
    rw [if_pos hm]
    rw [p.now_at hs (hf hm.1)] at hc
    rw [p.now_at ht (hf hm.1)]
    split at hc
    · rename_i e; rw [if_pos e]; exact hc
    · rename_i e; rw [if_neg e]; exact hst j c hc
  · rename_i hm
    rw [if_neg hm]
    split at hc
    · rename_i hm
      rw [if_pos hm]
      rw [p.now_at hs (hf hm.1)] at hc
      rw [p.now_at ht (hf hm.1)]
      split at hc
      · rename_i e; rw [if_pos e]; exact hc
      · rename_i e; rw [if_neg e]; exact hst j c hc
    · rename_i hm
      rw [if_neg hm]; exact hst j c hc
theorem leadGo_within (ws : List B) {s : WS} (hs : s.Few) (f : B) (hb : ∀ k, f.getD k 0 = 78 → p.blockOf (word ws (k + 1)) < p.lines.length) {C : Nat → WS} (hC : ∀ k, k < f.length → f.getD k 0 = 78 → (C (p.blockOf (word ws (k + 1)))).known = true ∧ Sub (p.outOf ws s k) (C (p.blockOf (word ws (k + 1))))) :
    ∀ (m k : Nat) (x : List WS × Bool), k + m ≤ f.length → x.1.length = p.lines.length → RowsOk x.1 → Within x.1 C → Within (p.leadGo ws s f m k x).1 C
  | 0, k, x, _, _, _, h => h
  | m + 1, k, x, hk, hl, hr, h => by
    rw [RP.leadGo]
    by_cases hc : f.getD k 0 = 78
    · rw [if_pos hc]
      have hg := addTo_grows hr (b := p.blockOf (word ws (k + 1))) (by rw [hl]; exact hb k hc) (p.out_few hs ws k)
      obtain ⟨c1, c2⟩ := hC k (by omega) hc
      exact leadGo_within ws hs f hb hC m (k + 1) _ (by omega) (hg.len.trans hl) hg.rows (addTo_within hr (by rw [hl]; exact hb k hc) (p.out_few hs ws k) h c1 c2)
    · rw [if_neg hc]
      exact leadGo_within ws hs f hb hC m (k + 1) x (by omega) hl hr h
theorem through_within (hp : Leads p) (hfit : ∀ i, i < p.lines.length → p.lineFits (p.line i)) {C : Nat → WS} (hC : Closed p C) {i : Nat} (hi : i < p.lines.length) {x : List WS × Bool} (hl : x.1.length = p.lines.length) (hr : RowsOk x.1) (h : Within x.1 C) : Within (p.through i x).1 C := by
  unfold RP.through
  by_cases hk : (lw x.1 i).known = true
  · rw [if_pos hk]
    have hf := p.step_few (hr.few i) (p.line i)
    have hcs := hC.step i hi ((h i).1 hk)
    have hm := RP.step_mono (p.line i) (hfit i hi) (hr.few i).len (hC.len i) (h i).2
    have hcl : (p.step (p.line i) (C i)).1.spots.length = 24 := by
      have e : ∀ l c, (p.now (C i) l c).spots.length = 24 := fun l c => by rw [p.now_len, hC.len]
      have e2 : (RP.takes p (p.line i) (C i)).1.spots.length = 24 := by
        unfold RP.takes RP.taken
        split <;> simp [p.now_len, hC.len]
      unfold RP.step
      repeat' split
      all_goals first | exact hC.len i | exact e _ _ | exact e2
    unfold RP.outs at hcs
    by_cases he : ends (word (p.line i) 0) = true
    · rw [if_pos he]
      simp only [if_pos he, List.mem_map, List.mem_filter, List.mem_range, beq_iff_eq] at hcs
      refine leadGo_within (p.line i) hf _ (hp.into i hi) (fun k hk1 hk2 => ?_) _ 0 x (by omega) hl hr h
      obtain ⟨c1, c2⟩ := hcs _ ⟨k, ⟨hk1, hk2⟩, rfl⟩
      exact ⟨c1, (RP.outOf_mono (p.line i) (hfit i hi) hf.len hcl hm k).trans c2⟩
    · rw [if_neg he]
      rw [if_neg he] at hcs
      obtain ⟨c1, c2⟩ := hcs _ (List.mem_singleton.mpr rfl)
      exact addTo_within hr (by rw [hl]; exact hp.next i hi (by simpa using he)) hf h c1 (hm.trans c2)
  · rw [if_neg hk]; exact h
theorem passGo_within (hp : Leads p) (hfit : ∀ i, i < p.lines.length → p.lineFits (p.line i)) {C : Nat → WS} (hC : Closed p C) : ∀ (m i : Nat) (x : List WS × Bool), i + m ≤ p.lines.length → x.1.length = p.lines.length → RowsOk x.1 → Within x.1 C → Within (p.passGo m i x).1 C
  | 0, i, x, _, _, _, h => h
  | m + 1, i, x, hi, hl, hr, h => by
    rw [RP.passGo]
    have hg := RP.through_grows hp i (by omega) x hl hr
    exact passGo_within hp hfit hC m (i + 1) _ (by omega) (hg.len.trans hl) hg.rows (through_within hp hfit hC (by omega) hl hr h)
end
end Go.Proofs.YtmlgajhhnojdjaaGreatDoor.Spec
/- Plain facts: of a program that was read whole, ways that are settled are closed, and the least ones that are. -/
namespace Go.Proofs.YtmlgajhhnojdjaaGreatDoor.Spec
open Go Go.Proofs.YtmlgajhhnojdjaaGreatDoor.Aux Go.Proofs.YtmlgajhhnojdjaaGreatDoor.RefS Go.Proofs.YtmlgajhhnojdjaaGreatDoor.RefT

theorem names_at {p : RP} {i : Nat} {f : B} (N : p.names i = true) (hl : ¬ word (p.line i) 0 = wLet) (hb : (behind (word (p.line i) 0) p.raw).1 = f) (k : Nat) (hk : k < f.length) (hc : f[k] ∈ [(105 : UInt8), 112, 109, 111, 100]) : 0 ≤ p.find (localOf (word (p.line i) (k + 1))) := by
  subst hb; exact RP.names_find N hl k hk hc
theorem ReadOk.lineFits {text : B} {raw : Bool} {p : RP} (h : ReadOk text raw p) (i : Nat) (hi : i < p.lines.length) : p.lineFits (p.line i) := by
  have hN := h.names i hi
  have hB : ∀ (f : B) (e : (behind (word (p.line i) 0) p.raw).1 = f) (hl : ¬ word (p.line i) 0 = wLet) (k : Nat) (hk : k < f.length) (hc : f[k] ∈ [(105 : UInt8), 112, 109, 111, 100]), p.fits (word (p.line i) (k + 1)) := fun f e hl k hk hc => RP.fits_of (names_at hN hl e k hk hc) h.pre.twelve
  refine ⟨fun hm => ?_, fun hm => ?_⟩
  · simp only [List.mem_cons, List.not_mem_nil, or_false] at hm
    rcases hm with e | e | e | e | e | e | e | e | e | e | e | e | e
    · exact hB [105, 110] (by rw [e]; rfl) (by rw [e]; decide) 0 (by simp) (by simp)
    · exact hB [105] (by rw [e]; rfl) (by rw [e]; decide) 0 (by simp) (by simp)
    · exact hB [105, 105, 105] (by rw [e]; rfl) (by rw [e]; decide) 0 (by simp) (by simp)
    · exact hB [105, 105, 105] (by rw [e]; rfl) (by rw [e]; decide) 0 (by simp) (by simp)
    · exact hB [105, 105, 105] (by rw [e]; rfl) (by rw [e]; decide) 0 (by simp) (by simp)
    · exact hB [105, 105, 105] (by rw [e]; rfl) (by rw [e]; decide) 0 (by simp) (by simp)
    · exact hB [112, 105] (by rw [e]; rfl) (by rw [e]; decide) 0 (by simp) (by simp)
    · exact hB [105, 112] (by rw [e]; rfl) (by rw [e]; decide) 0 (by simp) (by simp)
    · exact hB [111] (by rw [e]; rfl) (by rw [e]; decide) 0 (by simp) (by simp)
    · exact hB [100] (by rw [e]; rfl) (by rw [e]; decide) 0 (by simp) (by simp)
    · exact hB [109, 109] (by rw [e]; rfl) (by rw [e]; decide) 0 (by simp) (by simp)
    · exact hB [111, 112] (by rw [e]; rfl) (by rw [e]; decide) 0 (by simp) (by simp)
    · exact hB [111, 78, 78] (by rw [e]; rfl) (by rw [e]; decide) 0 (by simp) (by simp)
  · rcases hm with e | e
    · exact hB [109, 109] (by rw [e]; rfl) (by rw [e]; decide) 1 (by simp) (by simp)
    · exact hB [111, 112] (by rw [e]; rfl) (by rw [e]; decide) 1 (by simp) (by simp)
/-- ways only grow -/
def Upon (x y : List WS) : Prop := ∀ i, ((lw x i).known = true → (lw y i).known = true) ∧ Sub (lw x i) (lw y i)
theorem Upon.trans {x y z : List WS} (h : Upon x y) (h' : Upon y z) : Upon x z := fun i => ⟨fun e => (h' i).1 ((h i).1 e), (h i).2.trans (h' i).2⟩
theorem addTo_upon {x : List WS × Bool} (h : RowsOk x.1) {b : Nat} (hb : b < x.1.length) {o : WS} (ho : o.Few) : Upon x.1 (addTo b o x).1 := by
  intro i
  unfold addTo
  simp only
  rw [lw_set _ _ _ hb]
  split
  · rename_i e; subst e
    exact ⟨fun _ => WS.add_known _ _, fun k c hc => (WS.add_mem (h.few i) ho (h.zero i) k c).mpr (.inl hc)⟩
  · exact ⟨id, Sub.refl _⟩
section
variable {p : RP}
theorem leadGo_upon (ws : List B) {s : WS} (hs : s.Few) (f : B) (hb : ∀ k, f.getD k 0 = 78 → p.blockOf (word ws (k + 1)) < p.lines.length) : ∀ (m k : Nat) (x : List WS × Bool), x.1.length = p.lines.length → RowsOk x.1 → Upon x.1 (p.leadGo ws s f m k x).1
  | 0, k, x, _, _ => fun i => ⟨id, Sub.refl _⟩
  | m + 1, k, x, hl, hr => by
    rw [RP.leadGo]
    by_cases hc : f.getD k 0 = 78
    · rw [if_pos hc]
      have hg := addTo_grows hr (b := p.blockOf (word ws (k + 1))) (by rw [hl]; exact hb k hc) (p.out_few hs ws k)
      exact (addTo_upon hr (by rw [hl]; exact hb k hc) (p.out_few hs ws k)).trans (leadGo_upon ws hs f hb m (k + 1) _ (hg.len.trans hl) hg.rows)
    · rw [if_neg hc]
      exact leadGo_upon ws hs f hb m (k + 1) x hl hr
theorem through_upon (hp : Leads p) {i : Nat} (hi : i < p.lines.length) {x : List WS × Bool} (hl : x.1.length = p.lines.length) (hr : RowsOk x.1) : Upon x.1 (p.through i x).1 := by
  unfold RP.through
  split
  · have hf := p.step_few (hr.few i) (p.line i)
    split
    · exact leadGo_upon _ hf _ (hp.into i hi) _ _ x hl hr
    · rename_i he
      exact addTo_upon hr (by rw [hl]; exact hp.next i hi (by simpa using he)) hf
  · exact fun i => ⟨id, Sub.refl _⟩
theorem passGo_upon (hp : Leads p) : ∀ (m i : Nat) (x : List WS × Bool), i + m ≤ p.lines.length → x.1.length = p.lines.length → RowsOk x.1 → Upon x.1 (p.passGo m i x).1
  | 0, i, x, _, _, _ => fun i => ⟨id, Sub.refl _⟩
  | m + 1, i, x, hi, hl, hr => by
    rw [RP.passGo]
    have hg := RP.through_grows hp i (by omega) x hl hr
    exact (through_upon hp (by omega) hl hr).trans (passGo_upon hp m (i + 1) _ (by omega) (hg.len.trans hl) hg.rows)
end
structure Reached (p : RP) (L : List WS) : Prop where
  len : L.length = p.lines.length
  rows : RowsOk L
  start : Upon p.start0 L
  least : ∀ C, Closed p C → Within L C
theorem ReadOk.reached {text : B} {raw : Bool} {p : RP} (h : ReadOk text raw p) {L : List WS} (hL : p.Reach L) : Reached p L := by
  have hf := h.first.2
  induction hL with
  | start =>
    refine ⟨(rows_start hf).2, (rows_start hf).1, fun i => ⟨id, Sub.refl _⟩, fun C hC i => ?_⟩
    unfold RP.start0
    rw [lw_set _ _ _ (by simpa using hf), lw_zero]
    split
    · rename_i e; rw [e]; exact ⟨fun _ => hC.start.1, hC.start.2⟩
    · refine ⟨fun e => (by cases e), fun k c hc => ?_⟩
      have : zeroWS.at k = [] := by
        unfold WS.at zeroWS
        simp only [List.getD_eq_getElem?_getD, List.getElem?_replicate]
        split <;> rfl
      rw [this] at hc; simp at hc
  | pass L _ _ ih =>
    have hg := RP.pass_grows h.leads L ih.len ih.rows
    exact ⟨hg.len.trans ih.len, hg.rows, ih.start.trans (passGo_upon h.leads _ 0 (L, false) (by omega) ih.len ih.rows), fun C hC => passGo_within h.leads h.lineFits hC _ 0 (L, false) (by omega) ih.len ih.rows (ih.least C hC)⟩
/-- settled: closed, and the least -/
theorem ReadOk.settled {text : B} {raw : Bool} {p : RP} (h : ReadOk text raw p) {L : List WS} (hL : p.Settled L) : Reached p L ∧ Closed p (lw L) := by
  obtain ⟨L0, hr, hp⟩ := hL
  have hR := h.reached hr
  obtain ⟨-, h2, h3⟩ := passGo_quiet h.leads p.lines.length 0 (L0, false) (by omega) hR.len hR.rows (by show (p.pass L0).2 = false; rw [hp])
  have e : L0 = L := by
    have : (p.pass L0).1 = L0 := h2
    rw [hp] at this; exact this.symm
  subst e
  refine ⟨hR, ⟨fun i => (hR.rows.few i).len, ?_, fun i hi hk x hx => h3 i (by omega) (by omega) hk x hx⟩⟩
  have hs := hR.start (p.blocks.getD 0 0)
  have e : lw p.start0 (p.blocks.getD 0 0) = startWS := by
    unfold RP.start0
    rw [lw_set _ _ _ (by simpa using h.first.2), if_pos rfl]
  rw [e] at hs
  exact ⟨hs.1 rfl, hs.2⟩
end Go.Proofs.YtmlgajhhnojdjaaGreatDoor.Spec
/- Plain facts: ways from block to block are the ways from line to line. -/
namespace Go.Proofs.YtmlgajhhnojdjaaGreatDoor.Spec
open Go Go.Proofs.YtmlgajhhnojdjaaGreatDoor.Aux Go.Proofs.YtmlgajhhnojdjaaGreatDoor.RefS Go.Proofs.YtmlgajhhnojdjaaGreatDoor.RefT

/-- how many blocks begin ahead of line i -/
def RP.cnt (p : RP) (i : Nat) : Nat := ((List.range i).filter fun j => isBlock (p.line j)).length
theorem RP.cnt_succ (p : RP) (i : Nat) : p.cnt (i + 1) = p.cnt i + if isBlock (p.line i) then 1 else 0 := by
  unfold RP.cnt
  rw [List.range_succ, List.filter_append, List.length_append]
  congr 1
  cases h : isBlock (p.line i) <;> simp [h]
theorem range_split (n b : Nat) (h : b < n) : ∃ r, List.range n = List.range b ++ b :: r := by
  obtain ⟨m, rfl⟩ : ∃ m, n = b + (m + 1) := ⟨n - b - 1, by omega⟩
  rw [List.range_add, List.range_succ_eq_map]
  exact ⟨List.map (fun x => b + x) (List.map Nat.succ (List.range m)), by simp only [List.map_cons, Nat.add_zero]⟩
theorem RP.blocks_at {p : RP} (hb : p.blocks = p.whichAre isBlock) {b : Nat} (h : b < p.lines.length) (hB : isBlock (p.line b) = true) : p.cnt b < p.blocks.length ∧ p.blocks.getD (p.cnt b) 0 = b := by
  obtain ⟨r, hr⟩ := range_split p.lines.length b h
  have e : p.blocks = ((List.range b).filter fun j => isBlock (p.line j)) ++ b :: r.filter fun j => isBlock (p.line j) := by
    rw [hb, RP.whichAre, hr, List.filter_append, List.filter_cons, if_pos hB]
  have hl : ((List.range b).filter fun j => isBlock (p.line j)).length = p.cnt b := rfl
  rw [e]
  constructor
  · simp [hl]
  · rw [List.getD_eq_getElem?_getD, List.getElem?_append_right (by omega), hl, Nat.sub_self]; rfl
theorem RP.blocks_mem {p : RP} (hb : p.blocks = p.whichAre isBlock) {m : Nat} (hm : m < p.blocks.length) : p.blocks.getD m 0 < p.lines.length ∧ isBlock (p.line (p.blocks.getD m 0)) = true ∧ p.cnt (p.blocks.getD m 0) = m := by
  have h1 : p.blocks.getD m 0 = p.blocks[m] := by simp [hm]
  have h2 : p.blocks.getD m 0 ∈ p.whichAre isBlock := by rw [← hb, h1]; exact List.getElem_mem _
  obtain ⟨h3, h4⟩ := mem_whichAre h2
  refine ⟨h3, h4, ?_⟩
  obtain ⟨h5, h6⟩ := RP.blocks_at hb h3 h4
  have hnd : p.blocks.Nodup := by
    rw [hb]; unfold RP.whichAre
    exact List.Pairwise.filter _ List.nodup_range
  have h7 : p.blocks[p.cnt (p.blocks.getD m 0)] = p.blocks[m] := by
    have : p.blocks.getD (p.cnt (p.blocks.getD m 0)) 0 = p.blocks[p.cnt (p.blocks.getD m 0)] := by rw [List.getD_eq_getElem?_getD (i := p.cnt _), List.getElem?_eq_getElem h5]; rfl
    rw [← this, h6, h1]
  exact (List.getElem_inj hnd).mp h7
/-- a line of a block's body -/
def RP.body (p : RP) (i : Nat) : Prop := i < p.lines.length ∧ isLet (p.line i) = false ∧ isBlock (p.line i) = false
theorem inside_cnt (p : RP) : ∀ i, i ≤ p.lines.length → p.inside i = true → 1 ≤ p.cnt i
  | 0, _, h => by simp [RP.inside, insideR] at h
  | i + 1, hi, h => by
    rw [insideR_last p i (by omega)] at h
    rw [p.cnt_succ]
    by_cases hb : word (p.line i) 0 = wBlock
    · have : isBlock (p.line i) = true := by simp [isBlock, hb]
      rw [this]; simp
    · rw [if_neg hb] at h
      split at h
      · cases h
      · have := inside_cnt p i (by omega) h; omega
section
variable {text : B} {raw : Bool} {p : RP}
theorem ReadOk.not_let (h : ReadOk text raw p) {i : Nat} (hi : i < p.lines.length) (hc : 1 ≤ p.cnt i) : isLet (p.line i) = false := by
  cases hl : isLet (p.line i)
  · rfl
  · exfalso
    unfold RP.cnt at hc
    obtain ⟨b, hb⟩ := List.exists_mem_of_length_pos (Nat.lt_of_lt_of_le Nat.zero_lt_one hc)
    simp only [List.mem_filter, List.mem_range] at hb
    have : b ∈ p.blocks := by rw [h.pre.blocks, RP.whichAre]; simp [hb.2]; omega
    have := h.pre.first i hi hl b this
    omega
theorem ReadOk.body_inside (h : ReadOk text raw p) {i : Nat} (hb : p.body i) : p.inside i = true ∧ 1 ≤ p.cnt i := by
  have : p.inside i = true := by
    rcases h.pre.inb i hb.1 with hl | hl
    · rw [hb.2.1] at hl; cases hl
    · rw [hl, hb.2.2]; rfl
  exact ⟨this, inside_cnt p i (Nat.le_of_lt hb.1) this⟩
/-- behind a block's line, or a statement, there is a line of a body -/
theorem ReadOk.next_body (h : ReadOk text raw p) {i : Nat} (hin : p.inside (i + 1) = true) (hn : i + 1 < p.lines.length) : p.body (i + 1) := by
  have hc := inside_cnt p (i + 1) (by omega) hin
  have hl := h.not_let hn hc
  refine ⟨hn, hl, ?_⟩
  rcases h.pre.inb (i + 1) hn with h1 | h1
  · rw [hl] at h1; cases h1
  · rw [hin] at h1; cases hb : isBlock (p.line (i + 1))
    · rfl
    · rw [hb] at h1; cases h1
theorem ends_block : ends wBlock = false := by decide
theorem ReadOk.behind_block (h : ReadOk text raw p) {i : Nat} (hi : i < p.lines.length) (hb : isBlock (p.line i) = true) : p.body (i + 1) := by
  have hw : word (p.line i) 0 = wBlock := by simpa [isBlock] using hb
  exact h.next_body (by rw [insideR_last p i hi, if_pos hw]) (h.next i hi (by rw [hw]; exact ends_block))
theorem ReadOk.behind_body (h : ReadOk text raw p) {i : Nat} (hb : p.body i) (he : ends (word (p.line i) 0) = false) : p.body (i + 1) := by
  have hw : ¬ word (p.line i) 0 = wBlock := by have := hb.2.2; simpa [isBlock] using this
  exact h.next_body (by rw [insideR_last p i hb.1, if_neg hw, he]; exact (h.body_inside hb).1) (h.next i hb.1 he)
end
theorem ite_N {c : Prop} [Decidable c] (a b : B × Bool) (ha : c → 78 ∉ a.1) (hb : 78 ∉ b.1) : 78 ∉ (if c then a else b).1 := by
  split
  · exact ha ‹_›
  · exact hb
theorem not_N {w : B} {r : Bool} (h : ends w = false) : 78 ∉ (behind w r).1 := by
  simp only [ends, Bool.or_eq_false_iff, beq_eq_false_iff_ne] at h
  obtain ⟨⟨⟨⟨h1, h2⟩, h3⟩, h4⟩, h5⟩ := h
  unfold behind
  repeat (refine ite_N _ _ (fun hc => by first | (simp; done) | exact absurd hc h1 | exact absurd hc h2 | exact absurd hc h3 | exact absurd hc h5) ?_)
  simp
theorem not_N_of_not_ends {w : B} {r : Bool} (h : ends w = false) (k : Nat) : ¬ (behind w r).1.getD k 0 = 78 := fun he => by
  have hk := behind_N w r k he
  have : (behind w r).1.getD k 0 = (behind w r).1[k] := by simp [hk]
  rw [this] at he
  exact not_N (r := r) h (he ▸ List.getElem_mem hk)
/-- the ways ahead of line i, from those ahead of the blocks -/
def RP.along (p : RP) (E : Nat → WS) : Nat → WS
  | 0 => zeroWS
  | i + 1 => if isBlock (p.line i) then E (p.cnt i) else (p.step (p.line i) (RP.along p E i)).1
/-- the block in which a line of a body stands -/
def RP.blk (p : RP) (i : Nat) : Nat := p.cnt i - 1
structure BClosed (p : RP) (E : Nat → WS) : Prop where
  len : ∀ b, (E b).spots.length = 24
  start : (E 0).known = true ∧ Sub startWS (E 0)
  step : ∀ i, p.body i → (E (p.blk i)).known = true → ∀ k, (behind (word (p.line i) 0) p.raw).1.getD k 0 = 78 → (E ((number (word (p.line i) (k + 1))).getD 0).toNat).known = true ∧
    Sub (p.outOf (p.line i) (p.step (p.line i) (p.along E i)).1 k) (E ((number (word (p.line i) (k + 1))).getD 0).toNat)
def BLeast (p : RP) (E : Nat → WS) : Prop := ∀ E', BClosed p E' → ∀ b, b < p.blocks.length → (E b).known = true → (E' b).known = true ∧ Sub (E b) (E' b)
theorem RP.step_len (p : RP) {s : WS} (hs : s.spots.length = 24) (ws : List B) : (p.step ws s).1.spots.length = 24 := by
  have e : ∀ l c, (p.now s l c).spots.length = 24 := fun l c => by rw [p.now_len, hs]
  have e2 : (RP.takes p ws s).1.spots.length = 24 := by
    unfold RP.takes RP.taken
    split <;> simp [p.now_len, hs]
  unfold RP.step
  repeat' split
  all_goals first | exact hs | exact e _ _ | exact e2
theorem along_len {p : RP} {E : Nat → WS} (hE : ∀ b, (E b).spots.length = 24) : ∀ i, (p.along E i).spots.length = 24
  | 0 => rfl
  | i + 1 => by
    rw [RP.along]; split
    · exact hE _
    · exact p.step_len (along_len hE i) _
theorem step_block (p : RP) {ws : List B} (h : word ws 0 = wBlock) (s : WS) : (p.step ws s) = (s, true) := by
  unfold RP.step; simp [h, wBlock]
/-- the ways of all lines, from those of the blocks -/
def RP.spread (p : RP) (E : Nat → WS) (i : Nat) : WS := if p.cnt (i + 1) = 0 then zeroWS else if isBlock (p.line i) then E (p.cnt i) else ⟨(E (p.blk i)).known, (p.along E i).spots⟩
section
variable {text : B} {raw : Bool} {p : RP}
theorem spread_body (h : ReadOk text raw p) (E : Nat → WS) {i : Nat} (hb : p.body i) : p.spread E i = ⟨(E (p.blk i)).known, (p.along E i).spots⟩ := by
  have := (h.body_inside hb).2
  unfold RP.spread
  rw [if_neg (by rw [p.cnt_succ]; omega), hb.2.2]; rfl
theorem spread_block (E : Nat → WS) {i : Nat} (hb : isBlock (p.line i) = true) : p.spread E i = E (p.cnt i) := by
  unfold RP.spread
  rw [if_neg (by rw [p.cnt_succ, hb]; simp), hb]; rfl
theorem blk_block {i : Nat} (hb : isBlock (p.line i) = true) : p.blk (i + 1) = p.cnt i := by
  unfold RP.blk; rw [p.cnt_succ, hb]; simp
theorem blk_body {i : Nat} (hb : isBlock (p.line i) = false) : p.blk (i + 1) = p.blk i := by
  unfold RP.blk; rw [p.cnt_succ, hb]; simp
theorem sub_at {s t : WS} (h : ∀ k, s.at k = t.at k) : Sub s t := fun k c hc => by rw [← h k]; exact hc
theorem ReadOk.spread_closed (h : ReadOk text raw p) {E : Nat → WS} (hE : BClosed p E) : Closed p (p.spread E) := by
  have hal := along_len (p := p) hE.len
  refine ⟨fun i => ?_, ?_, fun i hi hk x hx => ?_⟩
  · unfold RP.spread
    split
    · rfl
    · split
      · exact hE.len _
      · exact hal i
  · have hm := RP.blocks_mem h.pre.blocks h.first.1
    rw [spread_block E hm.2.1, hm.2.2]
    exact hE.start
  · by_cases hb : isBlock (p.line i) = true
    · have hw : word (p.line i) 0 = wBlock := by simpa [isBlock] using hb
      have hbd := h.behind_block hi hb
      unfold RP.outs at hx
      rw [hw, if_neg (by rw [ends_block]; decide), List.mem_singleton, step_block p hw, spread_block E hb] at hx
      rw [spread_block E hb] at hk
      subst hx
      simp only
      rw [spread_body h E hbd, blk_block hb]
      refine ⟨hk, sub_at fun k => ?_⟩
      have : p.along E (i + 1) = E (p.cnt i) := by rw [RP.along, if_pos hb]
      show _ = (p.along E (i + 1)).at k
      rw [this]
    · have hb' : isBlock (p.line i) = false := by simpa using hb
      by_cases hc : p.cnt (i + 1) = 0
      · exfalso; unfold RP.spread at hk; rw [if_pos hc] at hk; cases hk
      · have hbd : p.body i := ⟨hi, h.not_let hi (by rw [p.cnt_succ, hb'] at hc; simp at hc; omega), hb'⟩
        rw [spread_body h E hbd] at hk hx
        simp only at hk
        have hm : Sub (p.step (p.line i) ⟨(E (p.blk i)).known, (p.along E i).spots⟩).1 (p.step (p.line i) (p.along E i)).1 := RP.step_mono (p.line i) (h.lineFits i hi) (s := ⟨(E (p.blk i)).known, (p.along E i).spots⟩) (hal i) (hal i) (fun _ _ hc => hc)
        unfold RP.outs at hx
        by_cases he : ends (word (p.line i) 0) = true
        · rw [if_pos he] at hx
          simp only [List.mem_map, List.mem_filter, List.mem_range, beq_iff_eq] at hx
          obtain ⟨k, ⟨hk1, hk2⟩, rfl⟩ := hx
          obtain ⟨n, hn, hnb, hbo, hbl⟩ := h.into i hi k hk2
          obtain ⟨c1, c2⟩ := hE.step i hbd hk k hk2
          rw [hn] at c1 c2
          simp only [Option.getD_some, Int.toNat_natCast] at c1 c2
          have hmm := RP.blocks_mem h.pre.blocks hnb
          simp only
          rw [hbo, spread_block E hmm.2.1, hmm.2.2]
          have hl1 : (p.step (p.line i) ⟨(E (p.blk i)).known, (p.along E i).spots⟩).1.spots.length = 24 := p.step_len (s := ⟨(E (p.blk i)).known, (p.along E i).spots⟩) (hal i) (p.line i)
          have hl2 : (p.step (p.line i) (p.along E i)).1.spots.length = 24 := p.step_len (hal i) (p.line i)
          exact ⟨c1, (RP.outOf_mono (p.line i) (h.lineFits i hi) hl1 hl2 hm k).trans c2⟩
        · have he' : ends (word (p.line i) 0) = false := by simpa using he
          rw [if_neg he, List.mem_singleton] at hx
          subst hx
          simp only
          rw [spread_body h E (h.behind_body hbd he'), blk_body hb']
          refine ⟨hk, hm.trans (sub_at fun k => ?_)⟩
          have : p.along E (i + 1) = (p.step (p.line i) (p.along E i)).1 := by rw [RP.along, if_neg hb]
          show _ = (p.along E (i + 1)).at k
          rw [this]
/-- the ways of the blocks, from those of all lines -/
def RP.heads (p : RP) (C : Nat → WS) (b : Nat) : WS := C (p.blocks.getD b 0)
theorem heads_along (h : ReadOk text raw p) {C : Nat → WS} (hC : Closed p C) : ∀ i, p.body i → (p.heads C (p.blk i)).known = true → (C i).known = true ∧ Sub (p.along (p.heads C) i) (C i)
  | 0, hb, _ => by have := (h.body_inside hb).2; simp [RP.cnt] at this
  | i + 1, hb, hk => by
    have hi : i < p.lines.length := by have := hb.1; omega
    rw [RP.along]
    by_cases hbi : isBlock (p.line i) = true
    · rw [if_pos hbi]
      rw [blk_block hbi] at hk
      have e : p.heads C (p.cnt i) = C i := by unfold RP.heads; rw [(RP.blocks_at h.pre.blocks hi hbi).2]
      rw [e] at hk ⊢
      have hw : word (p.line i) 0 = wBlock := by simpa [isBlock] using hbi
      have := hC.step i hi hk (i + 1, C i) (by unfold RP.outs; rw [hw, if_neg (by rw [ends_block]; decide), step_block p hw]; simp)
      exact this
    · have hbi' : isBlock (p.line i) = false := by simpa using hbi
      rw [if_neg hbi]
      rw [blk_body hbi'] at hk
      have hcc : 1 ≤ p.cnt i := by have := (h.body_inside hb).2; rw [p.cnt_succ, hbi'] at this; simpa using this
      have hbd : p.body i := ⟨hi, h.not_let hi hcc, hbi'⟩
      have he : ends (word (p.line i) 0) = false := by
        cases he : ends (word (p.line i) 0)
        · rfl
        · exfalso
          have h1 := (h.body_inside hb).1
          have hw : ¬ word (p.line i) 0 = wBlock := by simpa [isBlock] using hbi'
          rw [insideR_last p i hi, if_neg hw, he] at h1; cases h1
      obtain ⟨h1, h2⟩ := heads_along h hC i hbd hk
      have := hC.step i hi h1 (i + 1, (p.step (p.line i) (C i)).1) (by unfold RP.outs; rw [he]; simp)
      exact ⟨this.1, (RP.step_mono _ (h.lineFits i hi) (along_len (fun b => hC.len _) i) (hC.len i) h2).trans this.2⟩
theorem ReadOk.heads_closed (h : ReadOk text raw p) {C : Nat → WS} (hC : Closed p C) : BClosed p (p.heads C) := by
  refine ⟨fun b => hC.len _, hC.start, fun i hb hk k hk2 => ?_⟩
  obtain ⟨h1, h2⟩ := heads_along h hC i hb hk
  obtain ⟨n, hn, hnb, hbo, hbl⟩ := h.into i hb.1 k hk2
  have he : ends (word (p.line i) 0) = true := by
    cases he : ends (word (p.line i) 0)
    · exfalso
      exact absurd hk2 (not_N_of_not_ends he k)
    · rfl
  have := hC.step i hb.1 h1 (p.blockOf (word (p.line i) (k + 1)), p.outOf (p.line i) (p.step (p.line i) (C i)).1 k) (by
    unfold RP.outs; rw [if_pos he]
    simp only [List.mem_map, List.mem_filter, List.mem_range, beq_iff_eq]
    exact ⟨k, ⟨behind_N _ _ _ hk2, hk2⟩, rfl⟩)
  rw [hn]
  simp only [Option.getD_some, Int.toNat_natCast]
  unfold RP.heads
  rw [hbo] at this
  have hal : (p.along (p.heads C) i).spots.length = 24 := along_len (fun b => hC.len _) i
  have hm := RP.step_mono (p.line i) (h.lineFits i hb.1) hal (hC.len i) h2
  exact ⟨this.1, (RP.outOf_mono (p.line i) (h.lineFits i hb.1) (p.step_len hal (p.line i)) (p.step_len (hC.len i) (p.line i)) hm k).trans this.2⟩
/-- the ways of a program from block to block, the least ones, are its settled ways -/
theorem ReadOk.same (h : ReadOk text raw p) {L : List WS} (hL : p.Settled L) {E : Nat → WS} (hE : BClosed p E) (hl : BLeast p E) {i : Nat} (hb : p.body i) :
    ((lw L i).known = true ↔ (E (p.blk i)).known = true) ∧ ((lw L i).known = true → ∀ k c, c ∈ (lw L i).at k ↔ c ∈ (p.along E i).at k) := by
  obtain ⟨hR, hC⟩ := h.settled hL
  have h1 := hR.least _ (h.spread_closed hE) i
  rw [spread_body h E hb] at h1
  have hH := h.heads_closed hC
  have hbn : p.blk i < p.blocks.length := by
    have hc := (h.body_inside hb).2
    have : p.cnt i ≤ p.blocks.length := by
      obtain ⟨r, hr⟩ := range_split p.lines.length i hb.1
      rw [h.pre.blocks, RP.whichAre, hr, List.filter_append, List.length_append]
      unfold RP.cnt; omega
    unfold RP.blk; omega
  have hx : (E (p.blk i)).known = true → (lw L i).known = true := fun hk => (heads_along h hC i hb (hl _ hH _ hbn hk).1).1
  refine ⟨⟨h1.1, hx⟩, fun hk k c => ⟨fun hc => h1.2 k c hc, fun hc => ?_⟩⟩
  have hk' := h1.1 hk
  have hal : ∀ j, p.body j → p.blk j = p.blk i → Sub (p.along E j) (p.along (p.heads (lw L)) j) := by
    intro j
    induction j with
    | zero => intro hj; have := (h.body_inside hj).2; simp [RP.cnt] at this
    | succ j ih =>
      intro hj hji
      have hjn : j < p.lines.length := by have := hj.1; omega
      rw [RP.along, RP.along]
      by_cases hbj : isBlock (p.line j) = true
      · rw [if_pos hbj, if_pos hbj]
        rw [blk_block hbj] at hji
        rw [hji]
        exact (hl _ hH _ hbn hk').2
      · have hbj' : isBlock (p.line j) = false := by simpa using hbj
        rw [if_neg hbj, if_neg hbj]
        rw [blk_body hbj'] at hji
        have hcc : 1 ≤ p.cnt j := by have := (h.body_inside hj).2; rw [p.cnt_succ, hbj'] at this; simpa using this
        exact RP.step_mono (p.line j) (h.lineFits j hjn) (along_len hE.len j) (along_len (fun b => hC.len _) j) (ih ⟨hjn, h.not_let hjn hcc, hbj'⟩ hji)
  exact (heads_along h hC i hb (hl _ hH _ hbn hk').1).2 k c (hal i hb rfl k c hc)
end
end Go.Proofs.YtmlgajhhnojdjaaGreatDoor.Spec
