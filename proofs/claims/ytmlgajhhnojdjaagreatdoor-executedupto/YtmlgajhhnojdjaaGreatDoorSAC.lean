/- Plain facts: line by line the project's reader and the document's own take and refuse the same. -/
import Derived.Test.YtmlgajhhnojdjaaGreatDoorSAB
namespace Go.Proofs.YtmlgajhhnojdjaaGreatDoor.Spec
open Go

theorem formed_word (w : B) {c : UInt8} (hc : c ∈ ([105, 111, 112, 109, 35, 98, 102, 118] : List UInt8)) : formedP w c = wordOf (letter c) w := by
  have hd := digitsP_eq w
  simp only [List.mem_cons, List.not_mem_nil, or_false] at hc
  rcases hc with rfl | rfl | rfl | rfl | rfl | rfl | rfl | rfl
  · rfl
  · rfl
  · exact place_eq w
  · exact place_eq w
  · show (numberP w).isSome = (number w).isSome
    rw [number_eq]
  · show (digitsP w).isSome = (match number w with | some n => decide (0 ≤ n) | none => false)
    rw [hd]; cases number w with
    | none => rfl
    | some n => show (if 0 ≤ n then some n else none).isSome = decide (0 ≤ n); split <;> simp [*]
  · show (match digitsP w with | some n => decide (n < 50) | none => false) = (match number w with | some n => decide (0 ≤ n) && decide (n < 50) | none => false)
    rw [hd]; cases number w with
    | none => rfl
    | some n =>
      simp only
      by_cases h0 : 0 ≤ n
      · rw [if_pos h0]; simp [h0]
      · rw [if_neg h0]; simp [h0]
  · exact (number_bit w).symm

/-- the words of the shapes, by number -/
def opWord (op : Nat) : B := (shapeTab.getD op ([], [])).1
theorem opIdx_word {w : B} {op : Nat} (h : opIdx w = some op) : op < 23 ∧ w = opWord op := by
  have hl := opIdx_lt h
  refine ⟨hl, ?_⟩
  have := (idxGo_ge _ _ _ _ h).2.2
  rw [← this, opWord]
  have hl' : op < shapeTab.length := hl
  simp [List.getD_eq_getElem?_getD, hl']
def behindOf (op : Nat) : B := if op = 15 then [100] else (wantsOf op).map letter
theorem behind_op {w : B} {op : Nat} (h : opIdx w = some op) (h2 : 2 ≤ op) (raw : Bool) : behind w raw = (behindOf op, hasP raw op) := by
  obtain ⟨hl, rfl⟩ := opIdx_word h
  have : ∀ (op : Fin 23) (raw : Bool), 2 ≤ op.val → behind (opWord op.val) raw = (behindOf op.val, hasP raw op.val) := by decide
  exact this ⟨op, hl⟩ raw h2
theorem ends_op {w : B} {op : Nat} (h : opIdx w = some op) : ends w = decide (18 ≤ op) := by
  obtain ⟨hl, rfl⟩ := opIdx_word h
  have : ∀ op : Fin 23, ends (opWord op.val) = decide (18 ≤ op.val) := by decide
  exact this ⟨op, hl⟩
theorem let_op {w : B} {op : Nat} (h : opIdx w = some op) : w = wLet ↔ op = 0 := by
  obtain ⟨hl, rfl⟩ := opIdx_word h
  have : ∀ op : Fin 23, opWord op.val = wLet ↔ op.val = 0 := by decide
  exact this ⟨op, hl⟩
theorem block_op {w : B} {op : Nat} (h : opIdx w = some op) : w = wBlock ↔ op = 1 := by
  obtain ⟨hl, rfl⟩ := opIdx_word h
  have : ∀ op : Fin 23, opWord op.val = wBlock ↔ op.val = 1 := by decide
  exact this ⟨op, hl⟩
theorem idxGo_none {l : List B} {w : B} {k : Nat} (h : idxGo l w k = none) : ∀ x ∈ l, ¬ w = x := by
  induction l generalizing k with
  | nil => intro x hx; cases hx
  | cons s r ih =>
    rw [idxGo] at h
    split at h
    · cases h
    · rename_i hs
      intro x hx
      rcases List.mem_cons.mp hx with rfl | hx
      · exact fun e => hs e.symm
      · exact ih h x hx
theorem behind_none {w : B} (h : opIdx w = none) (raw : Bool) : ¬ w = wLet ∧ ¬ w = wBlock ∧ (behind w raw).2 = false := by
  have hx := idxGo_none h
  have hn : ∀ op : Fin 23, ¬ w = opWord op.val := by
    intro op
    apply hx
    have : ∀ op : Fin 23, opWord op.val ∈ shapeTab.map (·.1) := by decide
    exact this op
  refine ⟨hn 0, hn 1, ?_⟩
  unfold behind
  have h2 : ¬ w = [115, 101, 116] := hn 2
  have h3 : ¬ w = [97, 100, 100] := hn 3
  have h4 : ¬ w = [115, 117, 98] := hn 4
  have h5 : ¬ w = [109, 117, 108] := hn 5
  have h6 : ¬ w = [100, 105, 118] := hn 6
  have h7 : ¬ w = [105, 110] := hn 7
  have h8 : ¬ w = [111, 117, 116] := hn 8
  have h9 : ¬ w = [110, 101, 119] := hn 9
  have h10 : ¬ w = [108, 111, 97, 100] := hn 10
  have h11 : ¬ w = [115, 116, 111, 114, 101] := hn 11
  have h12 : ¬ w = [109, 111, 118, 101] := hn 12
  have h13 : ¬ w = [110, 111, 110, 101] := hn 13
  have h14 : ¬ w = [115, 111, 109, 101] := hn 14
  have h15 : ¬ w = [100, 114, 111, 112] := hn 15
  have h16 : ¬ w = [102, 114, 101, 101] := hn 16
  have h17 : ¬ w = [102, 108, 97, 103] := hn 17
  have h18 : ¬ w = [103, 111, 116, 111] := hn 18
  have h19 : ¬ w = [105, 102] := hn 19
  have h20 : ¬ w = [109, 97, 116, 99, 104] := hn 20
  have h21 : ¬ w = [116, 101, 115, 116] := hn 21
  have h22 : ¬ w = [101, 110, 100] := hn 22
  simp only [h2, h3, h4, h5, h6, h7, h8, h9, h10, h11, h12, h13, h14, h15, h16, h17, h18, h19, h20, h21, h22, or_self, if_false]
theorem formed_go : ∀ (f : B) (_ : ∀ c ∈ f, c ∈ ([105, 111, 112, 109, 35, 98, 102, 118] : List UInt8)) (ws : List B), formedGo f ws = formGo (f.map letter) ws
  | [], _, _ => rfl
  | c :: f, hc, ws => by
    rw [formedGo, List.map_cons, formGo, formed_word _ (hc c (List.mem_cons_self ..)), formed_go f (fun x hx => hc x (List.mem_cons_of_mem _ hx))]
theorem formed_behind {op : Nat} (h : op < 23) (h2 : 2 ≤ op) (ws : List B) : formedGo (wantsOf op) ws = formGo (behindOf op) ws ∧ (behindOf op).length = (wantsOf op).length := by
  have hk : ∀ op : Fin 23, 2 ≤ op.val → ∀ c ∈ wantsOf op.val, c ∈ ([105, 111, 112, 109, 35, 98, 102, 118] : List UInt8) := by decide
  by_cases h15 : op = 15
  · subst h15
    refine ⟨?_, rfl⟩
    rw [formed_go _ (hk ⟨15, by decide⟩ (show 2 ≤ 15 by decide))]
    rfl
  · rw [behindOf, if_neg h15]
    exact ⟨formed_go _ (hk ⟨op, h⟩ h2) ws, by simp⟩
theorem tyIdx_some (w : B) : (tyIdx w).isSome = (w == wInt || w == wBox || w == wPair || w == wOpt) := by
  unfold tyIdx typeTab
  simp only [idxGo]
  by_cases h1 : wInt = w
  · subst h1; rfl
  · rw [if_neg h1]
    by_cases h2 : wBox = w
    · subst h2; rfl
    · rw [if_neg h2]
      by_cases h3 : wPair = w
      · subst h3; rfl
      · rw [if_neg h3]
        by_cases h4 : wOpt = w
        · subst h4; rfl
        · rw [if_neg h4]
          have e1 : ¬ w = wInt := fun e => h1 e.symm
          have e2 : ¬ w = wBox := fun e => h2 e.symm
          have e3 : ¬ w = wPair := fun e => h3 e.symm
          have e4 : ¬ w = wOpt := fun e => h4 e.symm
          simp [e1, e2, e3, e4]

/-- what the project's order knows of a program that is being read -/
structure OrdRel (p : RP) (o : OrdP) : Prop where
  locals : o.locals = p.lets.length
  blocks : o.blocks = p.blocks.length
  inb : o.sec = 1 ↔ p.inside p.lines.length = true
  outb : o.sec = 0 ↔ p.blocks.length = 0
theorem OrdRel.start (raw : Bool) : OrdRel (Spec.start raw) ⟨0, 0, 0⟩ := ⟨rfl, rfl, by simp [Spec.start, RP.inside, insideR], by simp [Spec.start]⟩

theorem addLine_inside (p : RP) (ws : List B) : (p.addLine ws).inside p.lines.length = p.inside p.lines.length := by
  simp [RP.inside, RP.addLine]
theorem mark_inside (p : RP) (ws : List B) : ((p.addLine ws).mark p.lines.length).inside (p.lines.length + 1) = if word ws 0 = wBlock then true else if ends (word ws 0) then false else p.inside p.lines.length := by
  rw [RP.inside, RP.mark_lines, RP.addLine]
  have : ((p.lines ++ [ws]).take (p.lines.length + 1)).reverse = ws :: p.lines.reverse := by
    rw [List.take_of_length_le (by simp)]; simp
  simp only [this, insideR]
  rw [RP.inside, List.take_length]
theorem new_line (p : RP) (ws : List B) : (p.addLine ws).line p.lines.length = ws := by rw [RP.addLine_line]; simp
/-- a line's form and place, both ways -/
theorem form_eq {p : RP} {o : OrdP} (R : OrdRel p o) {ws : List B} (h1 : 1 ≤ ws.length) :
    (p.addLine ws).form p.lines.length = (match sentP ws with | none => false | some x => (admitsP p.raw o x.1).2) := by
  rw [RP.form, new_line, addLine_inside]
  have hraw : (p.addLine ws).raw = p.raw := rfl
  have hlets : (p.addLine ws).lets = p.lets := rfl
  have hblocks : (p.addLine ws).blocks = p.blocks := rfl
  rw [hraw, hlets, hblocks, sentP]
  cases ho : opIdx (word ws 0) with
  | none =>
    obtain ⟨n1, n2, n3⟩ := behind_none ho p.raw
    rw [if_neg n1, if_neg n2, if_pos (.inl n3)]
  | some op =>
    obtain ⟨hl, hw⟩ := opIdx_word ho
    simp only
    have e0 := let_op ho
    have e1 := block_op ho
    by_cases h0 : op = 0
    · subst h0
      rw [if_pos (e0.mpr rfl)]
      have hwa : wantsOf 0 = [100, 116] := rfl
      rw [hwa]
      have hf : formedGo [100, 116] (ws.drop 1) = (isName (word ws 1) && (word ws 2 == wInt || word ws 2 == wBox || word ws 2 == wPair || word ws 2 == wOpt)) := by
        simp only [formedGo, Bool.and_true]
        have a1 : word (List.drop 1 ws) 0 = word ws 1 := by simp [word]
        have a2 : word (List.drop 1 (List.drop 1 ws)) 0 = word ws 2 := by simp [word]
        rw [a1, a2, ← tyIdx_some]; rfl
      rw [hf]
      have ha : (admitsP p.raw o 0).2 = (o.sec == 0 && decide (o.locals + 1 ≤ 12)) := rfl
      have hsec : (o.sec == 0) = decide (p.blocks.length = 0) := by rw [Bool.eq_iff_iff]; simp only [beq_iff_eq, decide_eq_true_eq]; exact R.outb
      by_cases h3 : ws.length = 3
      · by_cases hb : 0 < p.blocks.length ∨ 12 ≤ p.lets.length
        · rw [if_pos (.inr hb)]
          split
          · rfl
          · rename_i x hx
            split at hx
            · cases hx
              rw [ha, hsec, R.locals]
              symm
              rw [Bool.and_eq_false_iff]
              rcases hb with hb | hb
              · left; simp only [decide_eq_false_iff_not]; omega
              · right; simp only [decide_eq_false_iff_not]; omega
            · cases hx
        · rw [if_neg (by rw [not_or]; exact ⟨by simp [h3], hb⟩)]
          cases hc : (isName (word ws 1) && (word ws 2 == wInt || word ws 2 == wBox || word ws 2 == wPair || word ws 2 == wOpt))
          · rw [if_neg (by simp)]
          · rw [if_pos ⟨by simp [h3], rfl⟩]
            simp only
            rw [ha, hsec, R.locals]
            symm
            simp only [Bool.and_eq_true, decide_eq_true_eq]
            omega
      · rw [if_pos (.inl h3), if_neg (by simp; omega)]
    · rw [if_neg (fun e => h0 (e0.mp e))]
      by_cases h1' : op = 1
      · subst h1'
        rw [if_pos (e1.mpr rfl)]
        have hwa : wantsOf 1 = [] := rfl
        rw [hwa]
        have ha : (admitsP p.raw o 1).2 = (decide (0 < o.locals) && !(o.sec == 1) && decide (o.blocks + 1 ≤ if p.raw then 2000 else 20)) := rfl
        have hsec : (o.sec == 1) = p.inside p.lines.length := by rw [Bool.eq_iff_iff]; simp only [beq_iff_eq]; exact R.inb
        by_cases hl1 : ws.length = 1
        · have hcond : ws.length - 1 = ([] : B).length ∧ formedGo [] (ws.drop 1) = true := ⟨by simp [hl1], rfl⟩
          rw [if_pos hcond]
          show _ = (admitsP p.raw o 1).2
          rw [ha, hsec, R.locals, R.blocks]
          have : decide (p.blocks.length + 1 ≤ if p.raw = true then 2000 else 20) = decide (p.blocks.length < if p.raw = true then 2000 else 20) := rfl
          rw [this]; simp [hl1]
          cases p.inside p.lines.length <;> simp
        · have hcond : ¬ (ws.length - 1 = ([] : B).length ∧ formedGo [] (ws.drop 1) = true) := fun e => hl1 (by have := e.1; simp at this; omega)
          rw [if_neg hcond]
          simp [hl1]
      · rw [if_neg (fun e => h1' (e1.mp e)), behind_op ho (by omega)]
        obtain ⟨hf, hfl⟩ := formed_behind hl (by omega) (ws.drop 1)
        simp only
        have ha : (admitsP p.raw o op).2 = (hasP p.raw op && p.inside p.lines.length) := by
          rw [admitsP]
          cases hh : hasP p.raw op
          · rw [if_pos rfl]; rfl
          · rw [if_neg (by simp), if_neg h0, if_neg h1']
            cases hin : p.inside p.lines.length
            · have : ¬ o.sec = 1 := fun e => by rw [R.inb.mp e] at hin; cases hin
              rw [if_pos this]; rfl
            · have : o.sec = 1 := R.inb.mpr hin
              rw [if_neg (by simp [this])]
              split <;> rfl
        by_cases hx : hasP p.raw op = false ∨ p.inside p.lines.length = false ∨ ws.length ≠ (behindOf op).length + 1
        · rw [if_pos hx]
          split
          · rfl
          · rename_i x hxx
            split at hxx
            · rename_i hy
              cases hxx
              rw [ha]
              rcases hx with hx | hx | hx
              · rw [hx]; rfl
              · rw [hx, Bool.and_false]
              · exact absurd (by rw [hfl]; omega) hx
            · cases hxx
        · rw [if_neg hx]
          simp only [not_or, Bool.not_eq_false, Decidable.not_not, ne_eq] at hx
          rw [← hf]
          cases hc : formedGo (wantsOf op) (ws.drop 1)
          · rw [if_neg (by simp)]
          · rw [if_pos ⟨by rw [← hfl]; omega, rfl⟩]
            simp only
            rw [ha, hx.1, hx.2.1]; rfl
/-- .. and behind a line that was taken both stand alike -/
theorem OrdRel.next {p : RP} {o : OrdP} (R : OrdRel p o) {ws : List B} {x : Nat × List B} (hs : sentP ws = some x) (ha : (admitsP p.raw o x.1).2 = true) :
    OrdRel ((p.addLine ws).mark p.lines.length) (admitsP p.raw o x.1).1 := by
  rw [sentP] at hs
  cases ho : opIdx (word ws 0) with
  | none => rw [ho] at hs; cases hs
  | some op =>
    rw [ho] at hs
    simp only at hs
    split at hs
    · cases hs
      simp only at ha ⊢
      have e0 := let_op ho
      have e1 := block_op ho
      have hi := mark_inside p ws
      have hlen : ((p.addLine ws).mark p.lines.length).lines.length = p.lines.length + 1 := by rw [RP.mark_lines]; simp [RP.addLine]
      have hnl := new_line p ws
      rw [admitsP] at ha ⊢
      cases hh : hasP p.raw op
      · rw [hh, if_pos rfl] at ha; cases ha
      · rw [hh, if_neg (by simp)] at ha
        rw [if_neg (by simp)]
        by_cases h0 : op = 0
        · have hw := e0.mpr h0
          rw [if_pos h0] at ha ⊢
          simp only [Bool.and_eq_true, beq_iff_eq, decide_eq_true_eq] at ha
          have hm : (p.addLine ws).mark p.lines.length = (p.addLine ws).addLet p.lines.length := by rw [RP.mark, hnl, if_pos hw]
          refine ⟨?_, ?_, ?_, ?_⟩
          · rw [hm]; simp [RP.addLet, RP.addLine, R.locals]
          · rw [hm]; exact R.blocks
          · rw [hlen, hi, if_neg (by rw [hw]; decide), if_neg (by rw [hw]; decide)]; exact R.inb
          · rw [hm]; exact R.outb
        · rw [if_neg h0] at ha ⊢
          have hw0 : ¬ word ws 0 = wLet := fun e => h0 (e0.mp e)
          by_cases h1 : op = 1
          · have hw := e1.mpr h1
            rw [if_pos h1] at ha ⊢
            have hm : (p.addLine ws).mark p.lines.length = (p.addLine ws).addBlock p.lines.length := by rw [RP.mark, hnl, if_neg hw0, if_pos hw]
            refine ⟨?_, ?_, ?_, ?_⟩
            · rw [hm]; exact R.locals
            · rw [hm]; simp [RP.addBlock, RP.addLine, R.blocks]
            · rw [hlen, hi, if_pos hw]; simp
            · rw [hm]; simp [RP.addBlock, RP.addLine]
          · rw [if_neg h1] at ha ⊢
            have hw1 : ¬ word ws 0 = wBlock := fun e => h1 (e1.mp e)
            have hm : (p.addLine ws).mark p.lines.length = p.addLine ws := by rw [RP.mark, hnl, if_neg hw0, if_neg hw1]
            have hend := ends_op ho
            have hb0 : ¬ p.blocks.length = 0 := by
              by_cases hsec : o.sec = 1
              · intro e; have := R.outb.mpr e; omega
              · rw [if_pos hsec] at ha; cases ha
            by_cases hsec : o.sec = 1
            · rw [if_neg (by simp [hsec])]
              by_cases h18 : 18 ≤ op
              · rw [if_pos h18]
                refine ⟨by rw [hm]; exact R.locals, by rw [hm]; exact R.blocks, ?_, ?_⟩
                · rw [hlen, hi, if_neg hw1, hend, if_pos (by simp [h18])]; simp
                · rw [hm]; simp only; constructor
                  · intro e; cases e
                  · intro e; exact absurd e hb0
              · rw [if_neg h18]
                refine ⟨by rw [hm]; exact R.locals, by rw [hm]; exact R.blocks, ?_, by rw [hm]; exact R.outb⟩
                rw [hlen, hi, if_neg hw1, hend, if_neg (by simp [h18])]; exact R.inb
            · rw [if_pos hsec] at ha; cases ha
    · cases hs
end Go.Proofs.YtmlgajhhnojdjaaGreatDoor.Spec
/- Plain facts: what a line whose form is right gives to the asks for names and types. -/
namespace Go.Proofs.YtmlgajhhnojdjaaGreatDoor.Spec
open Go

theorem RP.findGo_mem (p : RP) (name : B) : ∀ (l : List Nat) (k t : Nat), t ∈ l → word (p.line t) 1 = name → 0 ≤ p.findGo name l k := by
  intro l
  induction l with
  | nil => intro k t ht; simp at ht
  | cons x r ih =>
    intro k t ht hn
    rw [RP.findGo]
    split
    · omega
    · rcases List.mem_cons.mp ht with rfl | ht
      · exact absurd hn ‹_›
      · exact ih (k + 1) t ht hn
theorem RP.find_mem {p : RP} {t : Nat} (ht : t ∈ p.lets) : 0 ≤ p.find (word (p.line t) 1) := p.findGo_mem _ _ _ t ht rfl
theorem word_drop (ws : List B) (k : Nat) : word (ws.drop 1) k = word ws (k + 1) := by simp [word, List.getD_eq_getElem?_getD]
theorem RP.namesGo_at (p : RP) : ∀ (f : B) (ws : List B) (k : Nat) (hk : k < f.length), p.namesGo f ws = true → p.nameOk f[k] (word ws k) = true := by
  intro f
  induction f with
  | nil => intro ws k hk; simp at hk
  | cons c f ih =>
    intro ws k hk h
    rw [RP.namesGo, Bool.and_eq_true] at h
    cases k with
    | zero => exact h.1
    | succ k =>
      have := ih (ws.drop 1) k (by simpa using hk) h.2
      rw [word_drop] at this
      simpa using this
theorem RP.nameOk_find {p : RP} {c : UInt8} {w : B} (h : p.nameOk c w = true) (hc : c ∈ [(105 : UInt8), 112, 109, 111, 100]) : 0 ≤ p.find (localOf w) := by
  rw [RP.nameOk, if_pos] at h
  · simpa using h
  · simp only [List.mem_cons, List.not_mem_nil, or_false] at hc
    rcases hc with h | h | h | h | h <;> simp [h]
theorem ite_m {c : Prop} [Decidable c] (a b : B × Bool) (ha : 109 ∈ a.1 → a.1.head? = some 109) (hb : 109 ∈ b.1 → b.1.head? = some 109) : 109 ∈ (if c then a else b).1 → (if c then a else b).1.head? = some 109 := by split <;> assumption
theorem behind_m (w : B) (r : Bool) : 109 ∈ (behind w r).1 → (behind w r).1.head? = some 109 := by
  unfold behind
  repeat (first | (refine ite_m _ _ (by simp) ?_) | simp)
theorem RP.names_go {p : RP} {i : Nat} (h : p.names i = true) (hl : ¬ word (p.line i) 0 = wLet) : p.namesGo (behind (word (p.line i) 0) p.raw).1 ((p.line i).drop 1) = true := by
  rwa [RP.names, if_neg hl] at h
theorem RP.names_find {p : RP} {i : Nat} (h : p.names i = true) (hl : ¬ word (p.line i) 0 = wLet) (k : Nat) (hk : k < (behind (word (p.line i) 0) p.raw).1.length) (hc : (behind (word (p.line i) 0) p.raw).1[k] ∈ [(105 : UInt8), 112, 109, 111, 100]) : 0 ≤ p.find (localOf (word (p.line i) (k + 1))) := by
  have := p.namesGo_at _ _ k hk (RP.names_go h hl)
  rw [word_drop] at this
  exact RP.nameOk_find this hc
theorem RP.names_m {p : RP} {i : Nat} (h : p.names i = true) (hl : ¬ word (p.line i) 0 = wLet) (hm : 109 ∈ (behind (word (p.line i) 0) p.raw).1) : 0 ≤ p.find (localOf (word (p.line i) 1)) := by
  have h0 := behind_m _ _ hm
  rw [List.head?_eq_getElem?, List.getElem?_eq_some_iff] at h0
  obtain ⟨hk, h0⟩ := h0
  exact RP.names_find h hl 0 hk (by rw [h0]; simp)
theorem firstNot_step (f : Nat → Bool) (n k : Nat) (hk : k < n) : firstNot f (n - k) k = if f k then firstNot f (n - (k + 1)) (k + 1) else some k := by
  rw [show n - k = (n - (k + 1)) + 1 by omega, firstNot]
theorem firstNot_all (f : Nat → Bool) : ∀ (m k : Nat), firstNot f m k = none → ∀ j, k ≤ j → j < k + m → f j = true := by
  intro m
  induction m with
  | zero => intro k _ j h1 h2; omega
  | succ m ih =>
    intro k h j h1 h2
    rw [firstNot] at h
    by_cases hf : f k = true
    · rw [if_pos hf] at h
      by_cases hj : j = k
      · rw [hj]; exact hf
      · exact ih (k + 1) h j (by omega) (by omega)
    · rw [if_neg hf] at h; cases h
theorem refRead_fit {text : B} {raw : Bool} {p : RP} (h1 : (split 10 text).length ≤ 4000) (h2 : raw = false → (split 10 text).length ≤ 120) (h : readForm (wordsOf text) (Spec.start raw) 0 = (p, none)) : refRead text raw =
    if p.inside (split 10 text).length = true ∨ p.blocks.length = 0 then (none, 2, (split 10 text).length)
      else match firstNot p.names (split 10 text).length 0 with
        | some i => (none, 3, i)
        | none => match firstNot p.typesOk (split 10 text).length 0 with
          | some i => (none, 4, i)
          | none => (some p, 0, 0) := by
  have hx : ¬ (4000 < (split 10 text).length ∨ (raw = false ∧ 120 < (split 10 text).length)) := by
    rintro (h' | ⟨h', h''⟩)
    · omega
    · have := h2 h'; omega
  rw [refRead, if_neg hx, h] <;> rfl
theorem PureR.read {text : B} {raw : Bool} {p : RP} (h : PureR text raw (split 10 text).length p) : readForm (wordsOf text) (Spec.start raw) 0 = (p, none) := by
  rw [h.form, List.drop_eq_nil_of_le (by rw [wordsOf_length]; omega), readForm]
end Go.Proofs.YtmlgajhhnojdjaaGreatDoor.Spec
/- Plain facts: what a program has whose form, names and types are right. -/
namespace Go.Proofs.YtmlgajhhnojdjaaGreatDoor.Spec
open Go

def isType (t : B) : Bool := t == wInt || t == wBox || t == wPair || t == wOpt
/-- the words of one line by themselves -/
def lineForm (raw : Bool) (ws : List B) : Bool :=
  if word ws 0 = wLet then decide (ws.length = 3) && isName (word ws 1) && isType (word ws 2)
  else if word ws 0 = wBlock then decide (ws.length = 1)
  else (behind (word ws 0) raw).2 && decide (ws.length = (behind (word ws 0) raw).1.length + 1) && formGo (behind (word ws 0) raw).1 (ws.drop 1)
def isLet (ws : List B) : Bool := word ws 0 == wLet
def isBlock (ws : List B) : Bool := word ws 0 == wBlock
def RP.whichAre (p : RP) (f : List B → Bool) : List Nat := (List.range p.lines.length).filter fun j => f (p.line j)
/-- what the reading of the form gives -/
structure Pre (p : RP) : Prop where
  form : ∀ j, j < p.lines.length → lineForm p.raw (p.line j) = true
  inb : ∀ j, j < p.lines.length → isLet (p.line j) = true ∨ p.inside j = !isBlock (p.line j)
  lets : p.lets = p.whichAre isLet
  blocks : p.blocks = p.whichAre isBlock
  first : ∀ j, j < p.lines.length → isLet (p.line j) = true → ∀ b ∈ p.blocks, j < b
  twelve : p.lets.length ≤ 12
  most : p.blocks.length ≤ if p.raw then 2000 else 20
theorem RP.inside_addLine (p : RP) (ws : List B) (j : Nat) (h : j ≤ p.lines.length) : (p.addLine ws).inside j = p.inside j := by
  unfold RP.inside RP.addLine
  simp only
  rw [List.take_append_of_le_length h]
theorem RP.mark_inside (p : RP) (i j : Nat) : (p.mark i).inside j = p.inside j := by
  unfold RP.inside; rw [p.mark_lines]
theorem RP.lineForm_of {p : RP} {i : Nat} (h : p.form i = true) : lineForm p.raw (p.line i) = true := by
  unfold RP.form at h
  unfold lineForm
  by_cases hl : word (p.line i) 0 = wLet
  · rw [if_pos hl] at h ⊢
    by_cases hx : (p.line i).length ≠ 3 ∨ 0 < p.blocks.length ∨ 12 ≤ p.lets.length
    · rw [if_pos hx] at h; cases h
    · rw [if_neg hx] at h
      simp only [not_or, ne_eq, Decidable.not_not] at hx
      simp only [hx.1, decide_true, Bool.true_and, isType]
      exact h
  · rw [if_neg hl] at h ⊢
    by_cases hb : word (p.line i) 0 = wBlock
    · rw [if_pos hb] at h ⊢
      simp only [Bool.and_eq_true] at h
      exact h.1.1.1
    · rw [if_neg hb] at h ⊢
      by_cases hx : (behind (word (p.line i) 0) p.raw).2 = false ∨ p.inside i = false ∨ (p.line i).length ≠ (behind (word (p.line i) 0) p.raw).1.length + 1
      · rw [if_pos hx] at h; cases h
      · rw [if_neg hx] at h
        simp only [not_or, ne_eq, Decidable.not_not, Bool.not_eq_false] at hx
        rw [hx.1, h]
        simp [hx.2.2]
theorem whichAre_addLine (p : RP) (ws : List B) (f : List B → Bool) : (p.addLine ws).whichAre f = p.whichAre f ++ if f ws then [p.lines.length] else [] := by
  have hl : (p.addLine ws).lines.length = p.lines.length + 1 := by simp [RP.addLine]
  unfold RP.whichAre
  rw [hl, List.range_succ, List.filter_append]
  congr 1
  · refine List.filter_congr fun j hj => ?_
    rw [p.addLine_line, if_pos (by simpa using hj)]
  · have : (p.addLine ws).line p.lines.length = ws := by rw [p.addLine_line, if_neg (by omega), if_pos rfl]
    cases hf : f ws <;> simp [this, hf]
theorem whichAre_mark (p : RP) (i : Nat) (f : List B → Bool) : (p.mark i).whichAre f = p.whichAre f := by
  unfold RP.whichAre
  rw [p.mark_lines]
  refine List.filter_congr fun j _ => ?_
  rw [p.mark_line]
theorem Pre.start (raw : Bool) : Pre (Spec.start raw) :=
  ⟨fun j hj => by simp [Spec.start] at hj, fun j hj => by simp [Spec.start] at hj, rfl, rfl, fun j hj => by simp [Spec.start] at hj, by simp [Spec.start], by simp [Spec.start]⟩
theorem mem_whichAre {p : RP} {f : List B → Bool} {b : Nat} (h : b ∈ p.whichAre f) : b < p.lines.length ∧ f (p.line b) = true := by
  unfold RP.whichAre at h; simpa using h
theorem Pre.add {p : RP} (h : Pre p) (ws : List B) (hf : (p.addLine ws).form p.lines.length = true) : Pre ((p.addLine ws).mark p.lines.length) := by
  have hl : (p.addLine ws).lines.length = p.lines.length + 1 := by simp [RP.addLine]
  have hn : (p.addLine ws).line p.lines.length = ws := by rw [p.addLine_line, if_neg (by omega), if_pos rfl]
  have ho : ∀ j, j < p.lines.length → (p.addLine ws).line j = p.line j := fun j hj => by rw [p.addLine_line, if_pos hj]
  have hraw : (p.addLine ws).raw = p.raw := rfl
  have hF := RP.lineForm_of hf
  have hf' := hf
  unfold RP.form at hf
  rw [hn] at hf hF
  rw [p.inside_addLine ws _ (Nat.le_refl _)] at hf
  have eLets : ((p.addLine ws).mark p.lines.length).lets = p.lets ++ if isLet ws then [p.lines.length] else [] := by
    unfold RP.mark RP.addLet RP.addBlock isLet
    rw [hn]
    by_cases h1 : word ws 0 = wLet
    · simp [h1, RP.addLine]
    · rw [if_neg h1]; by_cases h2 : word ws 0 = wBlock <;> simp [h1, h2, RP.addLine]; decide
  have eBlocks : ((p.addLine ws).mark p.lines.length).blocks = p.blocks ++ if isBlock ws then [p.lines.length] else [] := by
    unfold RP.mark RP.addLet RP.addBlock isBlock
    rw [hn]
    by_cases h1 : word ws 0 = wLet
    · simp [h1, RP.addLine]; decide
    · rw [if_neg h1]; by_cases h2 : word ws 0 = wBlock <;> simp [h2, RP.addLine]
  refine ⟨fun j hj => ?_, fun j hj => ?_, ?_, ?_, fun j hj hj' b hb => ?_, ?_, ?_⟩
  · rw [RP.mark_lines, hl] at hj
    rw [RP.mark_line, RP.mark_raw, hraw]
    by_cases hx : j < p.lines.length
    · rw [ho j hx]; exact h.form j hx
    · obtain rfl : j = p.lines.length := by omega
      rw [hn]; exact hF
  · rw [RP.mark_lines, hl] at hj
    rw [RP.mark_line, RP.mark_inside]
    by_cases hx : j < p.lines.length
    · rw [ho j hx, p.inside_addLine ws j (by omega)]; exact h.inb j hx
    · obtain rfl : j = p.lines.length := by omega
      rw [hn, p.inside_addLine ws _ (Nat.le_refl _)]
      by_cases h1 : word ws 0 = wLet
      · exact .inl (by simp [isLet, h1])
      · refine .inr ?_
        rw [if_neg h1] at hf
        by_cases h2 : word ws 0 = wBlock
        · rw [if_pos h2] at hf
          simp only [Bool.and_eq_true, Bool.not_eq_true'] at hf
          rw [hf.1.1.2]; simp [isBlock, h2]
        · rw [if_neg h2] at hf
          cases hi : p.inside p.lines.length
          · rw [if_pos (.inr (.inl hi))] at hf; cases hf
          · simp [isBlock, h2]
  · rw [eLets, whichAre_mark, whichAre_addLine, ← h.lets]
  · rw [eBlocks, whichAre_mark, whichAre_addLine, ← h.blocks]
  · rw [RP.mark_lines, hl] at hj
    rw [RP.mark_line] at hj'
    rw [eBlocks, List.mem_append] at hb
    by_cases hx : j < p.lines.length
    · rw [ho j hx] at hj'
      rcases hb with hb | hb
      · exact h.first j hx hj' b hb
      · split at hb
        · rw [List.mem_singleton] at hb; omega
        · simp at hb
    · obtain rfl : j = p.lines.length := by omega
      rw [hn] at hj'
      have h1 : word ws 0 = wLet := by simpa [isLet] using hj'
      rw [if_pos h1] at hf
      have hx : ¬ (0 < p.blocks.length) := by
        intro hc
        rw [if_pos (.inr (.inl hc))] at hf
        cases hf
      rcases hb with hb | hb
      · have := List.length_pos_of_mem hb; omega
      · have : isBlock ws = false := by simp [isBlock, h1]; decide
        simp [this] at hb
  · rw [eLets]
    cases hw : isLet ws
    · simpa using h.twelve
    · have h1 : word ws 0 = wLet := by simpa [isLet] using hw
      rw [if_pos h1] at hf
      have hx : ¬ (12 ≤ p.lets.length) := by
        intro hc
        rw [if_pos (.inr (.inr hc))] at hf
        cases hf
      simp; omega
  · rw [eBlocks, RP.mark_raw, hraw]
    cases hw : isBlock ws
    · simpa using h.most
    · have h2 : word ws 0 = wBlock := by simpa [isBlock] using hw
      have h1 : ¬ word ws 0 = wLet := by rw [h2]; decide
      rw [if_neg h1, if_pos h2] at hf
      simp only [Bool.and_eq_true, decide_eq_true_eq] at hf
      have := hf.2
      simp only [hraw] at this
      have e : (p.addLine ws).blocks = p.blocks := rfl
      rw [e] at this
      simp; omega
theorem Pre.read : ∀ (ls : List (List B)) (p q : RP), Pre p → readForm ls p p.lines.length = (q, none) → Pre q ∧ q.raw = p.raw ∧ q.lines = p.lines ++ ls
  | [], p, q, h, hr => by
    rw [readForm] at hr
    obtain rfl : p = q := (Prod.mk.inj hr).1
    exact ⟨h, rfl, by simp⟩
  | ws :: r, p, q, h, hr => by
    rw [readForm] at hr
    by_cases hf : (p.addLine ws).form p.lines.length = true
    · rw [if_pos hf] at hr
      have hl : ((p.addLine ws).mark p.lines.length).lines.length = p.lines.length + 1 := by rw [RP.mark_lines]; simp [RP.addLine]
      rw [← hl] at hr
      obtain ⟨h1, h2, h3⟩ := Pre.read r _ q (h.add ws hf) hr
      refine ⟨h1, ?_, ?_⟩
      · rw [h2, RP.mark_raw]; rfl
      · rw [h3, RP.mark_lines]; simp [RP.addLine]
    · rw [if_neg hf] at hr; cases hr
/-- a program that was read whole -/
structure ReadOk (text : B) (raw : Bool) (p : RP) : Prop where
  pre : Pre p
  raw : p.raw = raw
  lines : p.lines = wordsOf text
  shut : p.inside p.lines.length = false
  nonempty : p.blocks ≠ []
  names : ∀ j, j < p.lines.length → p.names j = true
  types : ∀ j, j < p.lines.length → p.typesOk j = true
theorem firstNot_none (f : Nat → Bool) (m k : Nat) (h : firstNot f m k = none) : ∀ j, k ≤ j → j < k + m → f j = true := firstNot_all f m k h
theorem refRead_good {text : B} {raw : Bool} {p : RP} {c k : Nat} (h : refRead text raw = (some p, c, k)) : ReadOk text raw p ∧ c = 0 ∧ k = 0 ∧ (split 10 text).length ≤ 4000 ∧ (raw = false → (split 10 text).length ≤ 120) := by
  unfold refRead at h
  split at h
  · cases h
  · rename_i hlen
    split at h
    · cases h
    · rename_i q hq
      have hp := Pre.read (wordsOf text) (Spec.start raw) q (Pre.start raw) hq
      have hn : q.lines.length = (split 10 text).length := by rw [hp.2.2, ← wordsOf_length]; simp [Spec.start]
      split at h
      · cases h
      · rename_i hs
        split at h
        · cases h
        · rename_i hnm
          split at h
          · cases h
          · rename_i hty
            simp only [Prod.mk.injEq, Option.some.injEq] at h
            obtain ⟨rfl, rfl, rfl⟩ := h
            simp only [not_or, Bool.not_eq_true] at hs
            refine ⟨⟨hp.1, hp.2.1, by rw [hp.2.2]; rfl, by rw [hn]; exact hs.1, fun e => hs.2 (by rw [e]; rfl), fun j hj => ?_, fun j hj => ?_⟩, rfl, rfl, by omega, fun hr => ?_⟩
            · exact firstNot_all _ _ _ hnm j (by omega) (by omega)
            · exact firstNot_all _ _ _ hty j (by omega) (by omega)
            · simp only [not_or, not_and] at hlen
              have := hlen.2 hr; omega
end Go.Proofs.YtmlgajhhnojdjaaGreatDoor.Spec
