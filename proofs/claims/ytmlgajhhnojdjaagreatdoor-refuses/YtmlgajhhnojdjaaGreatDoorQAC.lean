/- Plain facts: the project's reader, form by form and name by name, answers as the document's own. -/
import Derived.Test.YtmlgajhhnojdjaaGreatDoorQAB
namespace Go.Proofs.YtmlgajhhnojdjaaGreatDoor.Spec
open Go

/-- sentences made of lines; the first line that is none, or may not stand there -/
def splitGo (raw : Bool) : List (List B) → OrdP → Nat → List (Nat × List B) × OrdP × Option Nat
  | [], o, _ => ([], o, none)
  | ws :: r, o, i => match sentP ws with
    | none => ([], o, some i)
    | some x => if (admitsP raw o x.1).2 = true then (x :: (splitGo raw r (admitsP raw o x.1).1 (i + 1)).1, (splitGo raw r (admitsP raw o x.1).1 (i + 1)).2) else ([], o, some i)
def RP.sent (p : RP) (i : Nat) : Nat × List B := ((opIdx (word (p.line i) 0)).getD 0, (p.line i).drop 1)
theorem sentP_sent {ws : List B} {x : Nat × List B} (h : sentP ws = some x) : x = ((opIdx (word ws 0)).getD 0, ws.drop 1) ∧ opIdx (word ws 0) = some x.1 := by
  rw [sentP] at h
  cases ho : opIdx (word ws 0) with
  | none => rw [ho] at h; cases h
  | some op =>
    rw [ho] at h
    simp only at h
    split at h
    · cases h; exact ⟨rfl, rfl⟩
    · cases h
theorem admitsP_sec (raw : Bool) (o : OrdP) (op : Nat) (h : o.sec ≤ 2) : (admitsP raw o op).1.sec ≤ 2 := by
  unfold admitsP
  repeat (first | (split; (first | exact h | (simp; done) | skip)) | exact h | simp)
/-- the form of all lines, both ways -/
theorem split_read (raw : Bool) : ∀ (ls : List (List B)) (p : RP) (o : OrdP), p.raw = raw → OrdRel p o → o.sec ≤ 2 → (∀ ws ∈ ls, 1 ≤ ws.length) →
    (∀ k, (splitGo raw ls o p.lines.length).2.2 = some k → ∃ q, readForm ls p p.lines.length = (q, some k)) ∧
    ((splitGo raw ls o p.lines.length).2.2 = none → ∃ q, readForm ls p p.lines.length = (q, none) ∧ OrdRel q (splitGo raw ls o p.lines.length).2.1 ∧ (splitGo raw ls o p.lines.length).2.1.sec ≤ 2 ∧
      (splitGo raw ls o p.lines.length).1 = ls.map fun ws => ((opIdx (word ws 0)).getD 0, ws.drop 1))
  | [], p, o, _, R, hs, _ => ⟨fun k h => by simp [splitGo] at h, fun _ => ⟨p, rfl, R, hs, rfl⟩⟩
  | ws :: r, p, o, hr, R, hs, hw => by
    have hf := form_eq R (hw ws (List.mem_cons_self ..))
    rw [splitGo, readForm]
    cases hx : sentP ws with
    | none =>
      rw [hx] at hf
      simp only at hf ⊢
      rw [hf]
      exact ⟨fun k h => ⟨p.addLine ws, by cases h; rfl⟩, fun h => by cases h⟩
    | some x =>
      rw [hx] at hf
      simp only at hf ⊢
      rw [hr] at hf
      rw [hf]
      by_cases ha : (admitsP raw o x.1).2 = true
      · rw [if_pos ha, if_pos ha]
        have R' := R.next hx (by rw [hr]; exact ha)
        rw [hr] at R'
        have hl : ((p.addLine ws).mark p.lines.length).lines.length = p.lines.length + 1 := by rw [RP.mark_lines]; simp [RP.addLine]
        have ih := split_read raw r _ _ (by rw [RP.mark_raw]; exact hr) R' (admitsP_sec raw o x.1 hs) (fun y hy => hw y (List.mem_cons_of_mem _ hy))
        rw [hl] at ih
        refine ⟨ih.1, fun h => ?_⟩
        obtain ⟨q, h1, h2, h3, h4⟩ := ih.2 h
        refine ⟨q, h1, h2, h3, ?_⟩
        simp only [List.map_cons]
        rw [h4, (sentP_sent hx).1]
      · rw [if_neg ha, if_neg ha]
        exact ⟨fun k h => ⟨p.addLine ws, by cases h; rfl⟩, fun h => by cases h⟩

def RP.locAt (p : RP) (j : Nat) : B × Nat := (word (p.line j) 1, (tyIdx (word (p.line j) 2)).getD 0)
def RP.locQ (p : RP) : List (B × Nat) := p.lets.map p.locAt
def RP.qline (p : RP) (i : Nat) : QLine := { (lineP p.locQ p.blocks.length (p.sent i)).getD ⟨0, 0, [], 0, 0, []⟩ with num := i }
def RP.plain (p : RP) (i : Nat) : Bool := !isLet (p.line i) && !isBlock (p.line i)
theorem find_locQ (p : RP) (n : B) : ∀ (l : List Nat) (k : Nat), findQGo (l.map p.locAt) n k = p.findGo n l k
  | [], k => rfl
  | t :: r, k => by
    rw [List.map_cons, findQGo, RP.findGo, find_locQ p n r (k + 1)]; rfl
theorem find_eq (p : RP) (n : B) : findQ p.locQ n = p.find n := find_locQ p n p.lets 0

/-- a line's words that were looked up are there -/
theorem lineGo_names {p : RP} : ∀ (f : B) (_ : ∀ c ∈ f, c ∈ ([105, 111, 112, 109, 35, 98, 102, 118] : List UInt8)) (ws : List B) (_ : formedGo f ws = true) (l : QLine),
    (lineGo p.locQ p.blocks.length f ws l).isSome = p.namesGo (f.map letter) ws
  | [], _, _, _, _ => rfl
  | c :: f, hc, ws, hf, l => by
    rw [formedGo, Bool.and_eq_true] at hf
    have hc0 := hc c (List.mem_cons_self ..)
    have hcr : ∀ x ∈ f, x ∈ ([105, 111, 112, 109, 35, 98, 102, 118] : List UInt8) := fun x hx => hc x (List.mem_cons_of_mem _ hx)
    have ih := fun l => lineGo_names (p := p) f hcr (ws.drop 1) hf.2 l
    have hw := hf.1
    rw [lineGo, List.map_cons, RP.namesGo]
    have place : isPlace (word ws 0) = true → (if findQ p.locQ ((splitPl (word ws 0)).getD ([], 0)).1 < 0 then none
       else lineGo p.locQ p.blocks.length f (ws.drop 1) { l with places := l.places ++ [((findQ p.locQ ((splitPl (word ws 0)).getD ([], 0)).1).toNat, ((splitPl (word ws 0)).getD ([], 0)).2)] }).isSome = (decide (0 ≤ p.find (localOf (word ws 0))) && p.namesGo (f.map letter) (ws.drop 1)) := by
      intro hp
      rw [splitPl_place hp]
      simp only [Option.getD_some]
      rw [find_eq]
      by_cases h0 : p.find (localOf (word ws 0)) < 0
      · rw [if_pos h0]; simp [show ¬ 0 ≤ p.find (localOf (word ws 0)) by omega]
      · rw [if_neg h0, ih]; simp [show 0 ≤ p.find (localOf (word ws 0)) by omega]
    simp only [List.mem_cons, List.not_mem_nil, or_false] at hc0
    rcases hc0 with rfl | rfl | rfl | rfl | rfl | rfl | rfl | rfl
    · exact place (isName_place hw).1
    · exact place (isName_place hw).1
    · exact place (by rw [← place_eq]; exact hw)
    · exact place (by rw [← place_eq]; exact hw)
    · exact ih _
    · show (if ((digitsP (word ws 0)).getD 0) ≥ (p.blocks.length : Int) then none else _).isSome = (decide ((number (word ws 0)).getD 0 < p.blocks.length) && _)
      have hd : (digitsP (word ws 0)).getD 0 = (number (word ws 0)).getD 0 := by
        have h1 : (digitsP (word ws 0)).isSome = true := hw
        have h2 := digitsP_eq (word ws 0)
        cases hn : number (word ws 0) with
        | none => rw [hn] at h2; rw [h2] at h1; cases h1
        | some n =>
          rw [hn] at h2
          simp only at h2
          split at h2
          · rw [h2]
          · rw [h2] at h1; cases h1
      rw [hd]
      by_cases h0 : (number (word ws 0)).getD 0 ≥ (p.blocks.length : Int)
      · rw [if_pos h0]; simp [show ¬ (number (word ws 0)).getD 0 < (p.blocks.length : Int) by omega]
      · rw [if_neg h0, ih]; simp [show (number (word ws 0)).getD 0 < (p.blocks.length : Int) by omega]
    · exact ih _
    · exact ih _
theorem wants_kinds {op : Nat} (h : op < 23) (h2 : 2 ≤ op) : ∀ c ∈ wantsOf op, c ∈ ([105, 111, 112, 109, 35, 98, 102, 118] : List UInt8) := by
  have : ∀ op : Fin 23, 2 ≤ op.val → ∀ c ∈ wantsOf op.val, c ∈ ([105, 111, 112, 109, 35, 98, 102, 118] : List UInt8) := by decide
  exact this ⟨op, h⟩ h2
/-- what the form of a line gives: its number, its words -/
theorem line_op {p : RP} (H : Pre p) {j : Nat} (hj : j < p.lines.length) : ∃ op, opIdx (word (p.line j) 0) = some op ∧ op < 23 ∧ (p.plain j = true → 2 ≤ op ∧ formedGo (wantsOf op) ((p.line j).drop 1) = true ∧ (behind (word (p.line j) 0) p.raw).1 = behindOf op ∧ (p.line j).length = (wantsOf op).length + 1) := by
  have hf := H.form j hj
  cases ho : opIdx (word (p.line j) 0) with
  | none =>
    obtain ⟨n1, n2, n3⟩ := behind_none ho p.raw
    rw [lineForm, if_neg n1, if_neg n2, n3] at hf
    cases hf
  | some op =>
    refine ⟨op, rfl, opIdx_lt ho, fun hp => ?_⟩
    simp only [RP.plain, isLet, isBlock, Bool.and_eq_true, Bool.not_eq_true', beq_eq_false_iff_ne, ne_eq] at hp
    have e0 : ¬ op = 0 := fun e => hp.1 ((let_op ho).mpr e)
    have e1 : ¬ op = 1 := fun e => hp.2 ((block_op ho).mpr e)
    have h2 : 2 ≤ op := by omega
    rw [lineForm, if_neg hp.1, if_neg hp.2, behind_op ho h2] at hf
    simp only [Bool.and_eq_true, decide_eq_true_eq] at hf
    obtain ⟨hfb, hfl⟩ := formed_behind (opIdx_lt ho) h2 ((p.line j).drop 1)
    exact ⟨h2, by rw [hfb]; exact hf.2, by rw [behind_op ho h2], by omega⟩
theorem line_names {p : RP} (H : Pre p) {j : Nat} (hj : j < p.lines.length) (hp : p.plain j = true) : (lineP p.locQ p.blocks.length (p.sent j)).isSome = p.names j := by
  obtain ⟨op, ho, hl, h⟩ := line_op H hj
  obtain ⟨h2, hf, hb, -⟩ := h hp
  have hs : p.sent j = (op, (p.line j).drop 1) := by rw [RP.sent, ho]; rfl
  have hlet : ¬ word (p.line j) 0 = wLet := by
    simp only [RP.plain, isLet, Bool.and_eq_true, Bool.not_eq_true', beq_eq_false_iff_ne, ne_eq] at hp; exact hp.1
  rw [RP.names, if_neg hlet, hb, hs, lineP, lineGo_names _ (wants_kinds hl h2) _ hf, behindOf]
  by_cases h15 : op = 15
  · rw [if_pos h15, h15]; rfl
  · rw [if_neg h15]

/-- what the looking up has come to at line k -/
structure LR (p : RP) (q : QP) (k : Nat) : Prop where
  locals : q.locals = (p.lets.filter fun t => decide (t < k)).map p.locAt
  blocks : q.blocks.length = (p.blocks.filter fun b => decide (b < k)).length
  flat : q.blocks.flatten = ((List.range k).filter p.plain).map p.qline
theorem LR.start (p : RP) : LR p QP.empty 0 := ⟨by simp [QP.empty], by rw [List.filter_eq_nil_iff.mpr (by simp)]; rfl, by simp [QP.empty]⟩
theorem filter_range_lt (n k : Nat) (f : Nat → Bool) : ((List.range n).filter f).filter (fun t => decide (t < k)) = (List.range (min k n)).filter f := by
  induction n with
  | zero => simp
  | succ n ih =>
    rw [List.range_succ, List.filter_append, List.filter_append, ih]
    by_cases h : n < k
    · rw [show min k (n + 1) = n + 1 by omega, show min k n = n by omega, List.range_succ, List.filter_append]
      congr 1
      cases hf : f n <;> simp [hf, h]
    · rw [show min k (n + 1) = min k n by omega]
      cases hf : f n <;> simp [hf, h]
theorem lets_lt {p : RP} (H : Pre p) (k : Nat) (hk : k ≤ p.lines.length) : (p.lets.filter fun t => decide (t < k)) = (List.range k).filter fun j => isLet (p.line j) := by
  rw [H.lets, RP.whichAre, filter_range_lt, show min k p.lines.length = k by omega]
theorem blocks_lt {p : RP} (H : Pre p) (k : Nat) (hk : k ≤ p.lines.length) : (p.blocks.filter fun t => decide (t < k)) = (List.range k).filter fun j => isBlock (p.line j) := by
  rw [H.blocks, RP.whichAre, filter_range_lt, show min k p.lines.length = k by omega]
theorem filter_succ (k : Nat) (f : Nat → Bool) : (List.range (k + 1)).filter f = (List.range k).filter f ++ if f k then [k] else [] := by
  rw [List.range_succ, List.filter_append]
  congr 1
  cases h : f k <;> simp [h]
/-- behind the lets all locals are known; a plain line stands in a block -/
theorem plain_all {p : RP} (H : Pre p) {k : Nat} (hk : k < p.lines.length) (hp : p.plain k = true) : (p.lets.filter fun t => decide (t < k)) = p.lets ∧ 1 ≤ (p.blocks.filter fun b => decide (b < k)).length := by
  have hp' := hp
  simp only [RP.plain, Bool.and_eq_true, Bool.not_eq_true'] at hp'
  have hin : p.inside k = true := by
    rcases H.inb k hk with h | h
    · rw [hp'.1] at h; cases h
    · rw [h, hp'.2]; rfl
  have hb : ∃ b, b < k ∧ b ∈ p.blocks := by
    have : ∀ (ls : List (List B)), insideR ls = true → ∃ ws ∈ ls, word ws 0 = wBlock := by
      intro ls
      induction ls with
      | nil => intro h; cases h
      | cons a r ih =>
        intro h
        rw [insideR] at h
        by_cases h1 : word a 0 = wBlock
        · exact ⟨a, List.mem_cons_self .., h1⟩
        · rw [if_neg h1] at h
          by_cases h2 : ends (word a 0) = true
          · rw [if_pos h2] at h; cases h
          · rw [if_neg h2] at h
            obtain ⟨ws, hm, hw⟩ := ih h
            exact ⟨ws, List.mem_cons_of_mem _ hm, hw⟩
    obtain ⟨ws, hm, hw⟩ := this _ hin
    rw [List.mem_reverse] at hm
    obtain ⟨b, hbl, hbe⟩ := List.mem_take_iff_getElem.mp hm
    refine ⟨b, by omega, ?_⟩
    rw [H.blocks, RP.whichAre, List.mem_filter]
    refine ⟨by simp; omega, ?_⟩
    have : p.line b = ws := by rw [RP.line, List.getD_eq_getElem?_getD, List.getElem?_eq_getElem (by omega), hbe]; rfl
    rw [isBlock, this, hw]; rfl
  obtain ⟨b, hbk, hbm⟩ := hb
  constructor
  · rw [List.filter_eq_self]
    intro t ht
    have htm := ht
    rw [H.lets] at htm
    have := mem_whichAre htm
    have := H.first t this.1 this.2 b hbm
    simp; omega
  · have : b ∈ p.blocks.filter fun b => decide (b < k) := by rw [List.mem_filter]; exact ⟨hbm, by simp [hbk]⟩
    exact List.length_pos_of_mem this
theorem flatten_addLine (q : QP) (l : QLine) (h : 1 ≤ q.blocks.length) : (q.addLine l).blocks.flatten = q.blocks.flatten ++ [l] ∧ (q.addLine l).blocks.length = q.blocks.length := by
  have hne : q.blocks ≠ [] := by intro e; rw [e] at h; simp at h
  have hsp : q.blocks = q.blocks.dropLast ++ [q.blocks.getLast hne] := (List.dropLast_concat_getLast hne).symm
  have hg : q.blocks.getLastD [] = q.blocks.getLast hne := by rw [List.getLastD_eq_getLast?, List.getLast?_eq_some_getLast hne]; rfl
  constructor
  · unfold QP.addLine
    simp only
    rw [hg]
    conv => rhs; rw [hsp]
    simp
  · unfold QP.addLine
    simp; omega
theorem findQGo_app (A C : List (B × Nat)) (n : B) (k : Nat) : findQGo (A ++ C) n k = if 0 ≤ findQGo A n k then findQGo A n k else findQGo C n (k + A.length) := by
  induction A generalizing k with
  | nil => simp [findQGo]
  | cons y r ih =>
    by_cases h : y.1 = n
    · have e1 : findQGo (y :: r) n k = k := by rw [findQGo, if_pos h]
      have e2 : findQGo (y :: r ++ C) n k = k := by rw [List.cons_append, findQGo, if_pos h]
      rw [e1, e2, if_pos (by omega)]
    · have e1 : findQGo (y :: r) n k = findQGo r n (k + 1) := by rw [findQGo, if_neg h]
      have e2 : findQGo (y :: r ++ C) n k = findQGo (r ++ C) n (k + 1) := by rw [List.cons_append, findQGo, if_neg h]
      rw [e1, e2, ih, List.length_cons, show k + 1 + r.length = k + (r.length + 1) by omega]
/-- the names of all lines, both ways -/
theorem look_names {p : RP} (H : Pre p) : ∀ (m k : Nat) (q : QP), k + m = p.lines.length → LR p q k →
    (lookGo p.blocks.length (((List.range p.lines.length).map p.sent).drop k) k q).2 = firstNot p.names m k ∧
    (firstNot p.names m k = none → LR p (lookGo p.blocks.length (((List.range p.lines.length).map p.sent).drop k) k q).1 p.lines.length)
  | 0, k, q, hk, R => by
    rw [List.drop_eq_nil_of_le (by simp; omega), lookGo]
    refine ⟨rfl, fun _ => ?_⟩
    rw [show p.lines.length = k by omega]; exact R
  | m + 1, k, q, hk, R => by
    have hkl : k < p.lines.length := by omega
    have hd : ((List.range p.lines.length).map p.sent).drop k = p.sent k :: ((List.range p.lines.length).map p.sent).drop (k + 1) := by
      rw [List.drop_eq_getElem_cons (by simpa using hkl)]; simp
    rw [hd, lookGo, firstNot]
    obtain ⟨op, ho, hl, hpl⟩ := line_op H hkl
    have hs : p.sent k = (op, (p.line k).drop 1) := by rw [RP.sent, ho]; rfl
    have e0 := let_op ho
    have e1 := block_op ho
    have hll := lets_lt H k (by omega)
    have hll1 := lets_lt H (k + 1) (by omega)
    have hbl := blocks_lt H k (by omega)
    have hbl1 := blocks_lt H (k + 1) (by omega)
    rw [filter_succ, ← hll] at hll1
    rw [filter_succ, ← hbl] at hbl1
    have w1 : word ((p.line k).drop 1) 0 = word (p.line k) 1 := by simp [word]
    have w2 : word ((p.line k).drop 1) 1 = word (p.line k) 2 := by simp [word]
    by_cases h0 : op = 0
    · have hw := e0.mpr h0
      have hL : isLet (p.line k) = true := by rw [isLet, hw]; rfl
      have hB : isBlock (p.line k) = false := by rw [isBlock, hw]; rfl
      rw [if_pos (by rw [hs]; exact h0), hs]
      simp only [w1, w2]
      rw [hL, if_pos rfl] at hll1
      rw [hB] at hbl1
      have hsplit : ∃ L2, p.lets = (p.lets.filter fun t => decide (t < k)) ++ k :: L2 := by
        rw [hll]
        have : p.lets = (List.range p.lines.length).filter fun j => isLet (p.line j) := H.lets
        have hr : List.range p.lines.length = List.range k ++ k :: (List.range p.lines.length).drop (k + 1) := by
          have h1 := List.take_append_drop k (List.range p.lines.length)
          rw [List.drop_eq_getElem_cons (by simpa using hkl), List.take_range, show min k p.lines.length = k by omega] at h1
          simpa using h1.symm
        rw [this, hr, List.filter_append, List.filter_cons, hL, if_pos rfl]
        exact ⟨_, rfl⟩
      obtain ⟨L2, hL2⟩ := hsplit
      have hfe := find_eq p (word (p.line k) 1)
      have hlk : (p.locAt k).1 = word (p.line k) 1 := rfl
      rw [findQ, RP.locQ, hL2, List.map_append, ← R.locals, List.map_cons, findQGo_app, findQGo, if_pos hlk] at hfe
      have hlen : q.locals.length = (p.lets.filter fun t => decide (t < k)).length := by rw [R.locals]; simp
      have hna : p.names k = decide (p.lets.getD (p.find (word (p.line k) 1)).toNat 0 = k) := by rw [RP.names, if_pos hw]
      have hge := findQGo_ge q.locals (word (p.line k) 1) 0
      by_cases hf : findQ q.locals (word (p.line k) 1) ≥ 0
      · have hf' : 0 ≤ findQGo q.locals (word (p.line k) 1) 0 := hf
        rw [if_pos hf]
        rw [if_pos hf'] at hfe
        have hfalse : p.names k = false := by
          rw [hna, ← hfe]
          simp only [decide_eq_false_iff_not]
          obtain ⟨j, hj⟩ : ∃ j : Nat, findQGo q.locals (word (p.line k) 1) 0 = j := ⟨_, (Int.toNat_of_nonneg hf').symm⟩
          rw [hj] at hge ⊢
          have hjl : j < (p.lets.filter fun t => decide (t < k)).length := by rw [← hlen]; have := hge.2; simp at this; exact this
          rw [hL2, Int.toNat_natCast, List.getD_eq_getElem?_getD, List.getElem?_append_left hjl, List.getElem?_eq_getElem hjl, Option.getD_some]
          intro e
          have hm := List.getElem_mem hjl
          rw [List.mem_filter] at hm
          have := hm.2
          simp only [decide_eq_true_eq] at this
          omega
        rw [hfalse]
        simp
      · have hf' : ¬ 0 ≤ findQGo q.locals (word (p.line k) 1) 0 := hf
        rw [if_neg hf]
        rw [if_neg hf'] at hfe
        have htrue : p.names k = true := by
          rw [hna, ← hfe, hlen]
          generalize (p.lets.filter fun t => decide (t < k)) = G at hL2 ⊢
          rw [hL2]
          simp
        rw [htrue, if_pos rfl]
        refine look_names H m (k + 1) _ (by omega) ⟨?_, ?_, ?_⟩
        · rw [hll1, List.map_append, ← R.locals]; rfl
        · rw [hbl1]; simp [QP.addLocal, R.blocks]
        · rw [filter_succ]
          have : p.plain k = false := by rw [RP.plain, hL]; rfl
          rw [this]
          simp [QP.addLocal, R.flat]
    · rw [if_neg (by rw [hs]; exact h0)]
      have hw0 : ¬ word (p.line k) 0 = wLet := fun e => h0 (e0.mp e)
      have hL : isLet (p.line k) = false := by rw [isLet]; simp [hw0]
      rw [hL, if_neg (by simp), List.append_nil] at hll1
      by_cases h1 : op = 1
      · have hw := e1.mpr h1
        have hB : isBlock (p.line k) = true := by rw [isBlock, hw]; rfl
        rw [if_pos (by rw [hs]; exact h1)]
        rw [hB, if_pos rfl] at hbl1
        have hn : p.names k = true := by
          rw [RP.names, if_neg hw0, hw]
          have : (behind wBlock p.raw).1 = [] := by cases p.raw <;> rfl
          rw [this]; rfl
        rw [if_pos hn]
        refine look_names H m (k + 1) q.addBlock (by omega) ⟨?_, ?_, ?_⟩
        · rw [hll1]; exact R.locals
        · rw [hbl1]; simp [QP.addBlock, R.blocks]
        · rw [filter_succ]
          have : p.plain k = false := by rw [RP.plain, hB]; simp
          rw [this]
          simp [QP.addBlock, R.flat]
      · rw [if_neg (by rw [hs]; exact h1)]
        have hw1 : ¬ word (p.line k) 0 = wBlock := fun e => h1 (e1.mp e)
        have hB : isBlock (p.line k) = false := by rw [isBlock]; simp [hw1]
        rw [hB, if_neg (by simp), List.append_nil] at hbl1
        have hp : p.plain k = true := by rw [RP.plain, hL, hB]; rfl
        obtain ⟨ha, hb1⟩ := plain_all H hkl hp
        have hloc : q.locals = p.locQ := by rw [R.locals, ha]; rfl
        have hn := line_names H hkl hp
        rw [hloc]
        cases hlp : lineP p.locQ p.blocks.length (p.sent k) with
        | none =>
          rw [hlp] at hn
          rw [← hn]
          simp
        | some l =>
          rw [hlp] at hn
          rw [← hn, Option.isSome_some, if_pos rfl]
          simp only
          have hq : p.qline k = { l with num := k } := by rw [RP.qline, hlp]; rfl
          obtain ⟨f1, f2⟩ := flatten_addLine q { l with num := k } (by rw [R.blocks]; exact hb1)
          refine look_names H m (k + 1) _ (by omega) ⟨?_, ?_, ?_⟩
          · rw [hll1]; exact R.locals
          · rw [hbl1, f2]; exact R.blocks
          · rw [filter_succ, hp, if_pos rfl, f1, R.flat, List.map_append, List.map_cons, List.map_nil, hq]

/-- a kind's word -/
def kindWord (t : Nat) : B := typeTab.getD t []
theorem tyIdx_word {w : B} (h : isType w = true) : ∃ t, tyIdx w = some t ∧ t < 4 ∧ w = kindWord t := by
  simp only [isType, Bool.or_eq_true, beq_iff_eq] at h
  rcases h with ((h | h) | h) | h <;> subst h
  · exact ⟨0, rfl, by omega, rfl⟩
  · exact ⟨1, rfl, by omega, rfl⟩
  · exact ⟨2, rfl, by omega, rfl⟩
  · exact ⟨3, rfl, by omega, rfl⟩
/-- the type of a place's local, both ways -/
theorem ty_eq {p : RP} (H : Pre p) {q : QP} (hq : q.locals = p.locQ) {w : B} (h : 0 ≤ p.find (localOf w)) : q.tyOf (p.find (localOf w)).toNat < 4 ∧ p.typeW w = kindWord (q.tyOf (p.find (localOf w)).toNat) := by
  obtain ⟨j, hj, hjl, -⟩ := RP.find_lt h
  have hm : p.lets.getD j 0 ∈ p.lets := by rw [List.getD_eq_getElem?_getD, List.getElem?_eq_getElem hjl]; exact List.getElem_mem hjl
  have hm' : p.lets.getD j 0 ∈ p.whichAre isLet := by rw [← H.lets]; exact hm
  have hx := mem_whichAre hm'
  have hf := H.form _ hx.1
  have hlet : word (p.line (p.lets.getD j 0)) 0 = wLet := by simpa [isLet] using hx.2
  rw [lineForm, if_pos hlet] at hf
  simp only [Bool.and_eq_true, decide_eq_true_eq] at hf
  obtain ⟨t, ht, ht4, htw⟩ := tyIdx_word hf.2
  have hty : q.tyOf j = t := by
    rw [QP.tyOf, hq, RP.locQ, List.getD_eq_getElem?_getD, List.getElem?_map, List.getElem?_eq_getElem hjl]
    simp only [Option.map_some, Option.getD_some, RP.locAt]
    rw [List.getD_eq_getElem?_getD, List.getElem?_eq_getElem hjl, Option.getD_some] at ht
    rw [ht]; rfl
  rw [RP.typeW, hj, Int.toNat_natCast, hty]
  exact ⟨ht4, htw⟩
theorem kind_eq {p : RP} (H : Pre p) {q : QP} (hq : q.locals = p.locQ) {w : B} (h : 0 ≤ p.find (localOf w)) (hp : isPlace w = true) :
    (q.kind ((p.find (localOf w)).toNat, pidx (partOf w)) = none ∧ p.typeOf w = []) ∨
    (∃ t, t < 4 ∧ q.kind ((p.find (localOf w)).toNat, pidx (partOf w)) = some t ∧ p.typeOf w = kindWord t ∧ q.kindV ((p.find (localOf w)).toNat, pidx (partOf w)) = t) := by
  obtain ⟨h4, ht⟩ := ty_eq H hq h
  generalize hT : q.tyOf (p.find (localOf w)).toNat = T at h4 ht
  have h2 : p.typeW w = wPair ↔ T = 2 := by
    rw [ht]
    have : ∀ T : Fin 4, kindWord T.val = wPair ↔ T.val = 2 := by decide
    exact this ⟨T, h4⟩
  have h3 : p.typeW w = wOpt ↔ T = 3 := by
    rw [ht]
    have : ∀ T : Fin 4, kindWord T.val = wOpt ↔ T.val = 3 := by decide
    exact this ⟨T, h4⟩
  rcases part_fit hp with e | e | e | e
  · right
    refine ⟨T, h4, ?_, ?_, ?_⟩
    · rw [QP.kind, e]; simp [pidx, hT]
    · rw [RP.typeOf, e, if_neg (by decide), if_neg (by decide), ht]
    · rw [QP.kindV, e]; simp [pidx, hT]
  · by_cases hx : T = 2
    · right
      refine ⟨1, by omega, ?_, ?_, ?_⟩
      · rw [QP.kind, e]; simp [pidx, hT, hx]
      · rw [RP.typeOf, e, if_pos (.inl rfl), if_pos (h2.mpr hx)]; rfl
      · rw [QP.kindV, e]; simp [pidx]
    · left
      exact ⟨by rw [QP.kind, e]; simp [pidx, hT, hx], by rw [RP.typeOf, e, if_pos (.inl rfl), if_neg (fun e => hx (h2.mp e))]⟩
  · by_cases hx : T = 2
    · right
      refine ⟨1, by omega, ?_, ?_, ?_⟩
      · rw [QP.kind, e]; simp [pidx, hT, hx]
      · rw [RP.typeOf, e, if_pos (.inr rfl), if_pos (h2.mpr hx)]; rfl
      · rw [QP.kindV, e]; simp [pidx]
    · left
      exact ⟨by rw [QP.kind, e]; simp [pidx, hT, hx], by rw [RP.typeOf, e, if_pos (.inr rfl), if_neg (fun e => hx (h2.mp e))]⟩
  · by_cases hx : T = 3
    · right
      refine ⟨1, by omega, ?_, ?_, ?_⟩
      · rw [QP.kind, e]; simp [pidx, hT, hx]
      · rw [RP.typeOf, e, if_neg (by decide), if_pos rfl, if_pos (h3.mpr hx)]; rfl
      · rw [QP.kindV, e]; simp [pidx]
    · left
      exact ⟨by rw [QP.kind, e]; simp [pidx, hT, hx], by rw [RP.typeOf, e, if_neg (by decide), if_pos rfl, if_neg (fun e => hx (h3.mp e))]⟩
theorem kindWord_ne {t : Nat} (h : t < 4) : ¬ kindWord t = [] ∧ (kindWord t = wInt ↔ t = 0) ∧ (kindWord t = wBox ↔ t = 1) ∧ (kindWord t = wOpt ↔ t = 3) := by
  have : ∀ t : Fin 4, ¬ kindWord t.val = [] ∧ (kindWord t.val = wInt ↔ t.val = 0) ∧ (kindWord t.val = wBox ↔ t.val = 1) ∧ (kindWord t.val = wOpt ↔ t.val = 3) := by decide
  exact this ⟨t, h⟩
theorem kindWord_inj {t u : Nat} (h : t < 4) (h' : u < 4) : kindWord t = kindWord u ↔ t = u := by
  have : ∀ t u : Fin 4, kindWord t.val = kindWord u.val ↔ t.val = u.val := by decide
  exact this ⟨t, h⟩ ⟨u, h'⟩
/-- a place of the right kind, both ways (but for moves, which ask for one kind besides) -/
theorem typeOk_eq {p : RP} (H : Pre p) {q : QP} (hq : q.locals = p.locQ) {w : B} (h : 0 ≤ p.find (localOf w)) (hp : isPlace w = true) {c : UInt8} (hc : c ∈ ([105, 111, 112] : List UInt8)) (w1 : B) :
    p.typeOk c w w1 = q.okPlace ((p.find (localOf w)).toNat, pidx (partOf w)) c := by
  rcases kind_eq H hq h hp with ⟨h1, h2⟩ | ⟨t, ht, h1, h2, -⟩
  · rw [QP.okPlace, h1, RP.typeOk, h2]
    simp only [List.mem_cons, List.not_mem_nil, or_false] at hc
    rcases hc with rfl | rfl | rfl <;> rfl
  · rw [QP.okPlace, h1, RP.typeOk, h2]
    obtain ⟨k1, k2, k3, k4⟩ := kindWord_ne ht
    simp only [List.mem_cons, List.not_mem_nil, or_false] at hc
    rcases hc with rfl | rfl | rfl
    · rw [if_neg (by decide), if_neg k1]
      have hk : isKindP t 105 = (t == 0) := rfl
      simp only
      rw [hk]
      by_cases ht0 : t = 0
      · rw [if_neg (by simp [k2.mpr ht0]), if_neg (by simp), if_neg (by simp)]; simp [ht0]
      · rw [if_pos (.inl ⟨by simp, fun e => ht0 (k2.mp e)⟩)]; simp [ht0]
    · rw [if_neg (by decide), if_neg k1]
      have hk : isKindP t 111 = (t == 3) := rfl
      simp only
      rw [hk]
      by_cases ht0 : t = 3
      · rw [if_neg (by simp [k4.mpr ht0]), if_neg (by simp), if_neg (by simp)]; simp [ht0]
      · rw [if_pos (.inr (.inr ⟨by simp, fun e => ht0 (k4.mp e)⟩))]; simp [ht0]
    · rw [if_neg (by decide), if_neg k1]
      have hk : isKindP t 112 = (t == 1) := rfl
      simp only
      rw [hk]
      by_cases ht0 : t = 1
      · rw [if_neg (by simp [k3.mpr ht0]), if_neg (by simp), if_neg (by simp)]; simp [ht0]
      · rw [if_pos (.inr (.inl ⟨by simp, fun e => ht0 (k3.mp e)⟩))]; simp [ht0]
theorem typeOk_drop {p : RP} (H : Pre p) {q : QP} (hq : q.locals = p.locQ) {w : B} (h : 0 ≤ p.find (localOf w)) (hp : isPlace w = true) (w1 : B) :
    p.typeOk 100 w w1 = q.okPlace ((p.find (localOf w)).toNat, pidx (partOf w)) 109 := by
  rcases kind_eq H hq h hp with ⟨h1, h2⟩ | ⟨t, ht, h1, h2, -⟩
  · rw [QP.okPlace, h1, RP.typeOk, h2]; rfl
  · rw [QP.okPlace, h1, RP.typeOk, h2]
    obtain ⟨k1, k2, k3, k4⟩ := kindWord_ne ht
    have hk : isKindP t 109 = !(t == 0) := rfl
    simp only
    rw [hk, if_neg (by decide), if_neg k1, if_neg (by simp)]
    by_cases ht0 : t = 0
    · rw [if_pos ⟨by simp, k2.mpr ht0⟩]; simp [ht0]
    · rw [if_neg (fun e => ht0 (k2.mp e.2)), if_neg (by simp)]; simp [ht0]
theorem typeOk_move {p : RP} (H : Pre p) {q : QP} (hq : q.locals = p.locQ) {w w1 : B} (h : 0 ≤ p.find (localOf w)) (hp : isPlace w = true) (h' : 0 ≤ p.find (localOf w1)) (hp' : isPlace w1 = true) (hf : q.okPlace ((p.find (localOf w1)).toNat, pidx (partOf w1)) 109 = true) :
    p.typeOk 109 w w1 = (q.okPlace ((p.find (localOf w)).toNat, pidx (partOf w)) 109 && (q.kindV ((p.find (localOf w1)).toNat, pidx (partOf w1)) == q.kindV ((p.find (localOf w)).toNat, pidx (partOf w)))) := by
  rcases kind_eq H hq h' hp' with ⟨g1, g2⟩ | ⟨u, hu, g1, g2, g3⟩
  · rw [QP.okPlace, g1] at hf; cases hf
  · rcases kind_eq H hq h hp with ⟨h1, h2⟩ | ⟨t, ht, h1, h2, h3⟩
    · rw [QP.okPlace, h1, RP.typeOk, h2]; rfl
    · rw [QP.okPlace, h1, RP.typeOk, h2, g2, h3, g3]
      obtain ⟨k1, k2, k3, k4⟩ := kindWord_ne ht
      have hk : isKindP t 109 = !(t == 0) := rfl
      simp only
      rw [hk, if_neg (by decide), if_neg k1, if_neg (by simp)]
      have hi := kindWord_inj ht hu
      by_cases ht0 : t = 0
      · rw [if_pos ⟨by simp, k2.mpr ht0⟩]; simp [ht0]
      · rw [if_neg (fun e => ht0 (k2.mp e.2))]
        by_cases hut : t = u
        · rw [if_neg (fun e => e.2 (hi.mpr hut))]; simp [hut]; omega
        · rw [if_pos ⟨by simp, fun e => hut (hi.mp e)⟩]; simp [ht0]; omega
end Go.Proofs.YtmlgajhhnojdjaaGreatDoor.Spec
/- Plain facts: the types of all lines, both ways; and the whole of both readers. -/
namespace Go.Proofs.YtmlgajhhnojdjaaGreatDoor.Spec
open Go

def isPl (c : UInt8) : Bool := c == 105 || c == 111 || c == 112 || c == 109
def RP.plQ (p : RP) (w : B) : Nat × Nat := ((p.find (localOf w)).toNat, pidx (partOf w))
def RP.placesQ (p : RP) : B → List B → List (Nat × Nat)
  | [], _ => []
  | c :: f, ws => if isPl c then p.plQ (word ws 0) :: RP.placesQ p f (ws.drop 1) else RP.placesQ p f (ws.drop 1)
def nextQ : B → List B → List Nat
  | [], _ => []
  | c :: f, ws => if c = 98 then ((digitsP (word ws 0)).getD 0).toNat :: nextQ f (ws.drop 1) else nextQ f (ws.drop 1)
theorem formed_place {w : B} {c : UInt8} (hc : isPl c = true) (h : formedP w c = true) : isPlace w = true := by
  simp only [isPl, Bool.or_eq_true, beq_iff_eq] at hc
  rcases hc with ((rfl | rfl) | rfl) | rfl
  · exact (isName_place h).1
  · exact (isName_place h).1
  · rw [← place_eq]; exact h
  · rw [← place_eq]; exact h
/-- a line that was looked up: its op, places and blocks -/
theorem lineGo_some {p : RP} {nb : Nat} : ∀ (f : B) (_ : ∀ c ∈ f, c ∈ ([105, 111, 112, 109, 35, 98, 102, 118] : List UInt8)) (ws : List B) (_ : formedGo f ws = true) (l l' : QLine), lineGo p.locQ nb f ws l = some l' →
    l'.op = l.op ∧ l'.places = l.places ++ p.placesQ f ws ∧ l'.next = l.next ++ nextQ f ws ∧ l'.num = l.num
  | [], _, ws, _, l, l', h => by simp only [lineGo, Option.some.injEq] at h; subst h; simp [RP.placesQ, nextQ]
  | c :: f, hc, ws, hf, l, l', h => by
    rw [formedGo, Bool.and_eq_true] at hf
    have hc0 := hc c (List.mem_cons_self ..)
    have ih := lineGo_some (p := p) (nb := nb) f (fun x hx => hc x (List.mem_cons_of_mem _ hx)) (ws.drop 1) hf.2
    have hw := hf.1
    rw [lineGo] at h
    rw [RP.placesQ, nextQ]
    have place : isPl c = true → (¬ c = 98) → (if findQ p.locQ ((splitPl (word ws 0)).getD ([], 0)).1 < 0 then none
       else lineGo p.locQ nb f (ws.drop 1) { l with places := l.places ++ [((findQ p.locQ ((splitPl (word ws 0)).getD ([], 0)).1).toNat, ((splitPl (word ws 0)).getD ([], 0)).2)] }) = some l' →
       l'.op = l.op ∧ l'.places = l.places ++ (if isPl c then p.plQ (word ws 0) :: RP.placesQ p f (ws.drop 1) else RP.placesQ p f (ws.drop 1)) ∧ l'.next = l.next ++ (if c = 98 then ((digitsP (word ws 0)).getD 0).toNat :: nextQ f (ws.drop 1) else nextQ f (ws.drop 1)) ∧ l'.num = l.num := by
      intro hp h98 h
      have hpl := splitPl_place (formed_place hp hw)
      rw [hpl] at h
      simp only [Option.getD_some] at h
      rw [find_eq] at h
      split at h
      · cases h
      · obtain ⟨a, b, d, e⟩ := ih _ _ h
        rw [if_pos hp, if_neg h98]
        exact ⟨a, by rw [b]; simp [RP.plQ], d, e⟩
    simp only [List.mem_cons, List.not_mem_nil, or_false] at hc0
    rcases hc0 with rfl | rfl | rfl | rfl | rfl | rfl | rfl | rfl
    · exact place rfl (by decide) h
    · exact place rfl (by decide) h
    · exact place rfl (by decide) h
    · exact place rfl (by decide) h
    · rw [if_pos (.inl rfl)] at h; have hh := ih _ _ h; exact hh
    · rw [if_neg (by decide), if_neg (by decide), if_pos rfl] at h
      rw [if_pos rfl]
      split at h
      · cases h
      · obtain ⟨a, b, d, e⟩ := ih _ _ h
        exact ⟨a, b, by rw [d]; simp, e⟩
    · rw [if_neg (by decide), if_pos rfl] at h; have hh := ih _ _ h; exact hh
    · rw [if_pos (.inr rfl)] at h; have hh := ih _ _ h; exact hh
theorem noPl : ∀ (f : B) (_ : ∀ c ∈ f, isPl c = false ∧ c ∈ ([35, 98, 102, 118] : List UInt8)) (p : RP) (w1 : B) (ws : List B), p.placesQ f ws = [] ∧ p.typesGo w1 (f.map letter) ws = true
  | [], _, _, _, _ => ⟨rfl, rfl⟩
  | c :: f, hc, p, w1, ws => by
    obtain ⟨h1, h2⟩ := noPl f (fun x hx => hc x (List.mem_cons_of_mem _ hx)) p w1 (ws.drop 1)
    obtain ⟨hp, hk⟩ := hc c (List.mem_cons_self ..)
    rw [RP.placesQ, List.map_cons, RP.typesGo, hp, h1, h2]
    refine ⟨rfl, ?_⟩
    simp only [List.mem_cons, List.not_mem_nil, or_false] at hk
    rcases hk with rfl | rfl | rfl | rfl <;> rfl
theorem types_go {p : RP} (H : Pre p) {q : QP} (hq : q.locals = p.locQ) (w1 : B) (C : B) (hC : ∀ c ∈ C, isPl c = false ∧ c ∈ ([35, 98, 102, 118] : List UInt8)) (F : B) :
    ∀ (A : B) (_ : ∀ c ∈ A, c ∈ ([105, 111, 112] : List UInt8)) (ws : List B) (k : Nat) (_ : F.drop k = A ++ C) (_ : formedGo (A ++ C) ws = true) (_ : p.namesGo ((A ++ C).map letter) ws = true),
      p.typesGo w1 ((A ++ C).map letter) ws = q.fitsGo F (p.placesQ (A ++ C) ws) k
  | [], _, ws, k, _, _, _ => by
    obtain ⟨h1, h2⟩ := noPl C hC p w1 ws
    rw [List.nil_append, h1, h2]; rfl
  | c :: A, hA, ws, k, hF, hf, hn => by
    have hc := hA c (List.mem_cons_self ..)
    have hpl : isPl c = true := by
      simp only [List.mem_cons, List.not_mem_nil, or_false] at hc
      rcases hc with rfl | rfl | rfl <;> rfl
    have hlet : letter c = c := by
      simp only [List.mem_cons, List.not_mem_nil, or_false] at hc
      rcases hc with rfl | rfl | rfl <;> rfl
    rw [List.cons_append, formedGo, Bool.and_eq_true] at hf
    rw [List.cons_append, List.map_cons, RP.namesGo, Bool.and_eq_true, hlet] at hn
    have hfind : 0 ≤ p.find (localOf (word ws 0)) := RP.nameOk_find hn.1 (by
      simp only [List.mem_cons, List.not_mem_nil, or_false] at hc ⊢
      rcases hc with h | h | h <;> simp [h])
    have hFk : F.getD k 0 = c := by
      have : F[k]? = (F.drop k)[0]? := by simp
      rw [List.getD_eq_getElem?_getD, this, hF]; rfl
    have ih := types_go H hq w1 C hC F A (fun x hx => hA x (List.mem_cons_of_mem _ hx)) (ws.drop 1) (k + 1) (by rw [← List.drop_drop, hF]; rfl) hf.2 hn.2
    rw [List.cons_append, List.map_cons, RP.typesGo, RP.placesQ, hpl, if_pos rfl, QP.fitsGo, hFk, ih, hlet, typeOk_eq H hq hfind (formed_place hpl hf.1) hc]
    rfl
theorem wants_parts {op : Nat} (h : op < 23) (h2 : 2 ≤ op) (h12 : ¬ op = 12) (h15 : ¬ op = 15) :
    (∀ c ∈ (wantsOf op).takeWhile isPl, c ∈ ([105, 111, 112] : List UInt8)) ∧ (∀ c ∈ (wantsOf op).dropWhile isPl, isPl c = false ∧ c ∈ ([35, 98, 102, 118] : List UInt8)) := by
  have : ∀ op : Fin 23, 2 ≤ op.val → ¬ op.val = 12 → ¬ op.val = 15 →
    (∀ c ∈ (wantsOf op.val).takeWhile isPl, c ∈ ([105, 111, 112] : List UInt8)) ∧ (∀ c ∈ (wantsOf op.val).dropWhile isPl, isPl c = false ∧ c ∈ ([35, 98, 102, 118] : List UInt8)) := by decide
  exact this ⟨op, h⟩ h2 h12 h15
theorem qline_parts {p : RP} (H : Pre p) {j : Nat} (hj : j < p.lines.length) (hp : p.plain j = true) (hn : p.names j = true) : ∃ op, opIdx (word (p.line j) 0) = some op ∧ op < 23 ∧ 2 ≤ op ∧ (p.qline j).op = op ∧ (p.qline j).num = j ∧
    (p.qline j).places = p.placesQ (wantsOf op) ((p.line j).drop 1) ∧ (p.qline j).next = nextQ (wantsOf op) ((p.line j).drop 1) ∧ formedGo (wantsOf op) ((p.line j).drop 1) = true ∧ (behind (word (p.line j) 0) p.raw).1 = behindOf op ∧
    p.namesGo (behindOf op) ((p.line j).drop 1) = true := by
  obtain ⟨op, ho, hl, h⟩ := line_op H hj
  obtain ⟨h2, hf, hb, -⟩ := h hp
  have hs : p.sent j = (op, (p.line j).drop 1) := by rw [RP.sent, ho]; rfl
  have hsome := line_names H hj hp
  rw [hn] at hsome
  obtain ⟨l, hlp⟩ := Option.isSome_iff_exists.mp hsome
  have hq : p.qline j = { l with num := j } := by rw [RP.qline, hlp]; rfl
  rw [hs, lineP] at hlp
  obtain ⟨a, b, c, -⟩ := lineGo_some _ (wants_kinds hl h2) _ hf _ _ hlp
  have hlet : ¬ word (p.line j) 0 = wLet := by
    simp only [RP.plain, isLet, Bool.and_eq_true, Bool.not_eq_true', beq_eq_false_iff_ne, ne_eq] at hp; exact hp.1
  have hng := RP.names_go hn hlet
  rw [hb] at hng
  refine ⟨op, ho, hl, h2, by rw [hq]; exact a, by rw [hq], ?_, ?_, hf, hb, hng⟩
  · rw [hq]; simpa using b
  · rw [hq]; simpa using c
theorem line_types {p : RP} (H : Pre p) {q : QP} (hq : q.locals = p.locQ) {j : Nat} (hj : j < p.lines.length) (hp : p.plain j = true) (hn : p.names j = true) : q.fits (p.qline j) = p.types j := by
  obtain ⟨op, ho, hl, h2, hop, -, hpl, -, hf, hb, hng⟩ := qline_parts H hj hp hn
  rw [QP.fits, hop, hpl, RP.types, hb]
  generalize hW : (p.line j).drop 1 = ws at hf hng ⊢
  by_cases h12 : op = 12
  · subst h12
    have hwa : wantsOf 12 = [109, 109] := rfl
    have hbe : behindOf 12 = [109, 109] := rfl
    rw [hbe] at hng ⊢
    rw [hwa] at hf ⊢
    simp only [formedGo, Bool.and_eq_true, Bool.and_true] at hf
    simp only [RP.namesGo, Bool.and_eq_true, Bool.and_true] at hng
    have f1 := RP.nameOk_find hng.1 (by simp)
    have f2 := RP.nameOk_find hng.2 (by simp)
    have p1 := formed_place (c := 109) rfl hf.1
    have p2 := formed_place (c := 109) rfl hf.2
    have w1 : word (p.line j) 1 = word ws 0 := by rw [← hW]; simp [word]
    simp only [RP.typesGo, RP.placesQ, Bool.and_true, w1]
    have e1 : isPl 109 = true := rfl
    simp only [e1, if_true, QP.fitsGo, Bool.and_true, List.getD_cons_zero, List.getD_cons_succ]
    by_cases hk : q.okPlace (p.plQ (word ws 0)) 109 = true
    · rw [typeOk_move H hq f1 p1 f1 p1 hk, typeOk_move H hq f2 p2 f1 p1 hk]
      have hk' : q.okPlace ((p.find (localOf (word ws 0))).toNat, pidx (partOf (word ws 0))) 109 = true := hk
      rw [hk, hk']
      simp [RP.plQ]
    · rw [Bool.not_eq_true] at hk
      have : p.typeOk 109 (word ws 0) (word ws 0) = false := by
        rcases kind_eq H hq f1 p1 with ⟨g1, g2⟩ | ⟨t, ht, g1, g2, g3⟩
        · rw [RP.typeOk, g2]; rfl
        · rw [RP.plQ, QP.okPlace, g1] at hk
          have ht0 : t = 0 := by
            have hk' : (!(t == 0)) = false := hk
            simpa using hk'
          rw [RP.typeOk, g2, ht0]; rfl
      rw [hk, this]; simp
  · by_cases h15 : op = 15
    · subst h15
      have hwa : wantsOf 15 = [109] := rfl
      have hbe : behindOf 15 = [100] := rfl
      rw [hbe] at hng ⊢
      rw [hwa] at hf ⊢
      simp only [formedGo, Bool.and_true] at hf
      simp only [RP.namesGo, Bool.and_true] at hng
      have f1 := RP.nameOk_find hng (by simp)
      have p1 := formed_place (c := 109) rfl hf
      simp only [RP.typesGo, Bool.and_true, RP.placesQ]
      rw [typeOk_drop H hq f1 p1]
      have e1 : isPl 109 = true := rfl
      simp [e1, QP.fitsGo, RP.plQ]
    · have hbe : behindOf op = (wantsOf op).map letter := by rw [behindOf, if_neg h15]
      rw [hbe] at hng ⊢
      obtain ⟨hA, hC⟩ := wants_parts hl h2 h12 h15
      have hsp : (wantsOf op).takeWhile isPl ++ (wantsOf op).dropWhile isPl = wantsOf op := List.takeWhile_append_dropWhile
      have := types_go H hq (word (p.line j) 1) _ hC (wantsOf op) _ hA ws 0 (by rw [List.drop_zero, hsp]) (by rw [hsp]; exact hf) (by rw [hsp]; exact hng)
      rw [hsp] at this
      rw [this]
      have : (op == 12) = false := by simp [h12]
      rw [this]; simp
/-- the types of all lines, both ways -/
theorem types_all {p : RP} (H : Pre p) {q : QP} (R : LR p q p.lines.length) (hn : ∀ j, j < p.lines.length → p.names j = true) : q.misfit = firstNot p.typesOk p.lines.length 0 := by
  have hlocal : q.locals = p.locQ := by
    rw [R.locals, RP.locQ, List.filter_eq_self.mpr]
    intro t ht
    rw [H.lets] at ht
    simp [(mem_whichAre ht).1]
  have key : ∀ (m k : Nat), k + m = p.lines.length → (((((List.range p.lines.length).drop k).filter p.plain).map p.qline).find? fun l => !q.fits l).map (·.num) = firstNot p.typesOk m k := by
    intro m
    induction m with
    | zero => intro k hk; rw [List.drop_eq_nil_of_le (by simp; omega)]; rfl
    | succ m ih =>
      intro k hk
      have hkl : k < p.lines.length := by omega
      rw [List.drop_eq_getElem_cons (by simpa using hkl), List.getElem_range, List.filter_cons, firstNot]
      cases hp : p.plain k
      · have hto : p.typesOk k = true := by
          simp only [RP.plain, isLet, isBlock, Bool.and_eq_false_iff, Bool.not_eq_false'] at hp
          rw [RP.typesOk]
          rcases hp with h | h <;> simp [h]
        rw [if_neg (by simp), hto, if_pos rfl]
        exact ih (k + 1) (by omega)
      · have hto : p.typesOk k = p.types k := by
          simp only [RP.plain, isLet, isBlock, Bool.and_eq_true, Bool.not_eq_true'] at hp
          rw [RP.typesOk, hp.1, hp.2]; rfl
        have hf := line_types H hlocal hkl hp (hn k hkl)
        rw [if_pos rfl, List.map_cons, List.find?_cons, hto, hf]
        cases ht : p.types k
        · simp [RP.qline]
        · simpa using ih (k + 1) (by omega)
  rw [QP.misfit, R.flat]
  have := key p.lines.length 0 (by omega)
  rw [List.drop_zero] at this
  exact this

/-- the whole of the project's reader -/
def prjRead (text : B) (raw : Bool) : Option QP × Nat × Nat :=
  if (split 10 text).length > (if raw then 4000 else 120) then (none, 1, 0)
  else match (splitGo raw (wordsOf text) ⟨0, 0, 0⟩ 0).2.2 with
    | some k => (none, 2, k)
    | none =>
      if ¬ (splitGo raw (wordsOf text) ⟨0, 0, 0⟩ 0).2.1.sec = 2 then (none, 2, (split 10 text).length)
      else match (lookGo (countB (splitGo raw (wordsOf text) ⟨0, 0, 0⟩ 0).1) (splitGo raw (wordsOf text) ⟨0, 0, 0⟩ 0).1 0 QP.empty).2 with
        | some k => (none, 3, k)
        | none => match (lookGo (countB (splitGo raw (wordsOf text) ⟨0, 0, 0⟩ 0).1) (splitGo raw (wordsOf text) ⟨0, 0, 0⟩ 0).1 0 QP.empty).1.misfit with
          | some k => (none, 4, k)
          | none => (some (lookGo (countB (splitGo raw (wordsOf text) ⟨0, 0, 0⟩ 0).1) (splitGo raw (wordsOf text) ⟨0, 0, 0⟩ 0).1 0 QP.empty).1, 0, 0)
/-- both readers are one: the same error, the same line; and where there is none the one's program is made of the other's -/
theorem read_same (text : B) (raw : Bool) : (prjRead text raw).2 = (refRead text raw).2 ∧ ∀ q, (prjRead text raw).1 = some q → ∃ p, (refRead text raw).1 = some p ∧ LR p q p.lines.length := by
  by_cases hlong : (split 10 text).length > (if raw then 4000 else 120)
  · have h' : 4000 < (split 10 text).length ∨ (raw = false ∧ 120 < (split 10 text).length) := by
      cases raw
      · exact .inr ⟨rfl, by simpa using hlong⟩
      · exact .inl (by simpa using hlong)
    rw [prjRead, if_pos hlong, refRead, if_pos h']
    exact ⟨rfl, fun q h => by cases h⟩
  · have h' : ¬ (4000 < (split 10 text).length ∨ (raw = false ∧ 120 < (split 10 text).length)) := by
      cases raw
      · simp at hlong ⊢; omega
      · simp at hlong ⊢; omega
    obtain ⟨hs, hn⟩ := split_read raw (wordsOf text) (Spec.start raw) ⟨0, 0, 0⟩ rfl (OrdRel.start raw) (by simp) (fun ws hw => by
      simp only [wordsOf, List.mem_map] at hw
      obtain ⟨a, -, rfl⟩ := hw
      exact one_le_split _ _)
    have hl0 : (Spec.start raw).lines.length = 0 := rfl
    rw [hl0] at hs hn
    rw [prjRead, if_neg hlong, refRead, if_neg h']
    cases hsp : (splitGo raw (wordsOf text) ⟨0, 0, 0⟩ 0).2.2 with
    | some k =>
      obtain ⟨q, hq⟩ := hs k hsp
      rw [hq]
      exact ⟨rfl, fun q h => by cases h⟩
    | none =>
      obtain ⟨p, hp, R, hsec, hsents⟩ := hn hsp
      rw [hp]
      obtain ⟨H, hraw, hlines⟩ := Pre.read (wordsOf text) (Spec.start raw) p (Pre.start raw) hp
      have hlines' : p.lines = wordsOf text := by rw [hlines]; rfl
      have hlen : p.lines.length = (split 10 text).length := by rw [hlines', wordsOf_length]
      have hR1 := R.inb
      have hR2 := R.outb
      simp only
      rw [hlen] at hR1
      by_cases hd : (splitGo raw (wordsOf text) ⟨0, 0, 0⟩ 0).2.1.sec = 2
      · have hx : ¬ (p.inside (split 10 text).length = true ∨ p.blocks.length = 0) := by
          rintro (h | h)
          · have := hR1.mpr h; omega
          · have := hR2.mpr h; omega
        rw [if_neg (by simp [hd]), if_neg hx]
        have hS : (splitGo raw (wordsOf text) ⟨0, 0, 0⟩ 0).1 = (List.range p.lines.length).map p.sent := by
          rw [hsents]
          apply List.ext_getElem
          · simp [hlines']
          · intro i h1 h2
            simp only [List.length_map] at h1
            rw [List.getElem_map, List.getElem_map, List.getElem_range, RP.sent]
            have : p.line i = (wordsOf text)[i] := by rw [RP.line, hlines', List.getD_eq_getElem?_getD, List.getElem?_eq_getElem h1]; rfl
            rw [this]
        have hcount : countB (splitGo raw (wordsOf text) ⟨0, 0, 0⟩ 0).1 = p.blocks.length := by
          rw [hS, countB, H.blocks, RP.whichAre, List.filter_map, List.length_map]
          congr 1
          apply List.filter_congr
          intro j hj
          have hj' : j < p.lines.length := by simpa using hj
          obtain ⟨op, ho, -, -⟩ := line_op H hj'
          have hb := block_op ho
          simp only [Function.comp, RP.sent, ho, Option.getD_some]
          rw [Bool.eq_iff_iff]
          simp only [beq_iff_eq, isBlock]
          exact hb.symm
        have hlook := look_names H p.lines.length 0 QP.empty (by omega) (LR.start p)
        rw [List.drop_zero] at hlook
        rw [hcount, hS, hlook.1, hlen]
        cases hfn : firstNot p.names (split 10 text).length 0 with
        | some k => exact ⟨rfl, fun q h => by cases h⟩
        | none =>
          have hR := hlook.2 (by rw [hlen]; exact hfn)
          have hnames : ∀ j, j < p.lines.length → p.names j = true := fun j hj => firstNot_none p.names _ 0 hfn j (by omega) (by omega)
          have hty := types_all H hR hnames
          simp only
          rw [hlen] at hty
          rw [← hlen] at hty ⊢
          rw [hty]
          cases firstNot p.typesOk p.lines.length 0 with
          | some k => exact ⟨rfl, fun q h => by cases h⟩
          | none => exact ⟨rfl, fun q h => by cases h; exact ⟨p, rfl, hR⟩⟩
      · have hx : p.inside (split 10 text).length = true ∨ p.blocks.length = 0 := by
          rcases Nat.lt_or_ge (splitGo raw (wordsOf text) ⟨0, 0, 0⟩ 0).2.1.sec 1 with h | h
          · exact .inr (hR2.mp (by omega))
          · exact .inl (hR1.mp (by omega))
        rw [if_pos hd, if_pos hx]
        exact ⟨rfl, fun q h => by cases h⟩
end Go.Proofs.YtmlgajhhnojdjaaGreatDoor.Spec
/- Plain facts: programs of one block that are made line by line, and what the project's reader makes of them. -/
namespace Go.Proofs.YtmlgajhhnojdjaaGreatDoor.MadA
open Go Go.Proofs.YtmlgajhhnojdjaaGreatDoor.Spec

theorem split_no (c : UInt8) : ∀ (a : B), ¬ c ∈ a → split c a = [a]
  | [], _ => rfl
  | x :: a, h => by
    simp only [List.mem_cons, not_or] at h
    rw [split, if_neg (fun e => h.1 e.symm), split_no c a h.2]; rfl
theorem split_app (c : UInt8) : ∀ (a t : B), ¬ c ∈ a → split c (a ++ c :: t) = a :: split c t
  | [], t, _ => by simp [split]
  | x :: a, t, h => by
    simp only [List.mem_cons, not_or] at h
    rw [List.cons_append, split, if_neg (fun e => h.1 e.symm), split_app c a t h.2]; rfl
/-- the five places: p, q, x.a, x.b, o.s -/
def plc (i : Fin 5) : B := match i with
  | 0 => [112] | 1 => [113] | 2 => [120, 46, 97] | 3 => [120, 46, 98] | 4 => [111, 46, 115]
def plq (i : Fin 5) : Nat × Nat := match i with
  | 0 => (1, 0) | 1 => (2, 0) | 2 => (3, 1) | 3 => (3, 2) | 4 => (4, 3)
inductive ML where
  | new (i : Fin 5)
  | load (i : Fin 5)
  | store (i : Fin 5)
  | move (i k : Fin 5)
  | drop (i : Fin 5)
  | some (k : Fin 5)
def ML.text : ML → B
  | new i => [110, 101, 119, 32] ++ plc i ++ [32, 110]
  | load i => [108, 111, 97, 100, 32, 110, 32] ++ plc i
  | store i => [115, 116, 111, 114, 101, 32] ++ plc i ++ [32, 110]
  | move i k => [109, 111, 118, 101, 32] ++ plc i ++ ([32] ++ plc k)
  | drop i => [100, 114, 111, 112, 32] ++ plc i
  | some k => [115, 111, 109, 101, 32, 111, 32] ++ plc k
def ML.sent : ML → Nat × List B
  | new i => (9, [plc i, [110]])
  | load i => (10, [[110], plc i])
  | store i => (11, [plc i, [110]])
  | move i k => (12, [plc i, plc k])
  | drop i => (15, [plc i])
  | some k => (14, [[111], plc k])
def ML.q (n : Nat) : ML → QLine
  | new i => ⟨n, 9, [plq i, (0, 0)], 0, 0, []⟩
  | load i => ⟨n, 10, [(0, 0), plq i], 0, 0, []⟩
  | store i => ⟨n, 11, [plq i, (0, 0)], 0, 0, []⟩
  | move i k => ⟨n, 12, [plq i, plq k], 0, 0, []⟩
  | drop i => ⟨n, 15, [plq i], 0, 0, []⟩
  | some k => ⟨n, 14, [(4, 0), plq k], 0, 0, []⟩
def locs : List (B × Nat) := [([110], 0), ([112], 1), ([113], 1), ([120], 2), ([111], 3)]
def headL : List B := [[108, 101, 116, 32, 110, 32, 105, 110, 116], [108, 101, 116, 32, 112, 32, 98, 111, 120], [108, 101, 116, 32, 113, 32, 98, 111, 120], [108, 101, 116, 32, 120, 32, 112, 97, 105, 114], [108, 101, 116, 32, 111, 32, 111, 112, 116], [98, 108, 111, 99, 107], [115, 101, 116, 32, 110, 32, 53], [110, 111, 110, 101, 32, 111]]
def headS : List (Nat × List B) := [(0, [[110], [105, 110, 116]]), (0, [[112], [98, 111, 120]]), (0, [[113], [98, 111, 120]]), (0, [[120], [112, 97, 105, 114]]), (0, [[111], [111, 112, 116]]), (1, []), (2, [[110], [53]]), (13, [[111]])]
def headQ : List QLine := [⟨6, 2, [(0, 0)], 5, 0, []⟩, ⟨7, 13, [(4, 0)], 0, 0, []⟩]
def endT : B := [101, 110, 100, 32, 110]
def endQ (n : Nat) : QLine := ⟨n, 22, [(0, 0)], 0, 0, []⟩
/-- lines, each behind the sign that ends one -/
def tails (L : List B) : B := L.flatMap fun l => 10 :: l
theorem split_tails : ∀ (L : List B) (a : B), ¬ 10 ∈ a → (∀ l ∈ L, ¬ 10 ∈ l) → split 10 (a ++ tails L) = a :: L
  | [], a, ha, _ => by rw [tails, List.flatMap_nil, List.append_nil]; exact split_no 10 a ha
  | l :: L, a, ha, hL => by
    have e : tails (l :: L) = 10 :: (l ++ tails L) := by simp [tails]
    rw [e, split_app 10 a _ ha, split_tails L l (hL l (List.mem_cons_self ..)) (fun x hx => hL x (List.mem_cons_of_mem _ hx))]
theorem text_no : ∀ m : ML, ¬ 10 ∈ m.text
  | .new i => by revert i; decide
  | .load i => by revert i; decide
  | .store i => by revert i; decide
  | .move i k => by revert i k; decide
  | .drop i => by revert i; decide
  | .some k => by revert k; decide
theorem text_sent : ∀ m : ML, sentP (split 32 m.text) = some m.sent
  | .new i => by revert i; decide
  | .load i => by revert i; decide
  | .store i => by revert i; decide
  | .move i k => by revert i k; decide
  | .drop i => by revert i; decide
  | .some k => by revert k; decide
theorem sent_op : ∀ m : ML, 2 ≤ m.sent.1 ∧ m.sent.1 < 18 ∧ hasP false m.sent.1 = true
  | .new i => by decide +revert
  | .load i => by decide +revert
  | .store i => by decide +revert
  | .move i k => ⟨by show 2 ≤ 12; decide, by show 12 < 18; decide, rfl⟩
  | .drop i => by decide +revert
  | .some k => by decide +revert
instance : DecidableEq QLine := fun x y => decidable_of_iff (x.num = y.num ∧ x.op = y.op ∧ x.places = y.places ∧ x.number = y.number ∧ x.flag = y.flag ∧ x.next = y.next)
  ⟨fun ⟨h1, h2, h3, h4, h5, h6⟩ => by cases x; cases y; simp only at h1 h2 h3 h4 h5 h6; subst h1 h2 h3 h4 h5 h6; rfl, fun h => by subst h; exact ⟨rfl, rfl, rfl, rfl, rfl, rfl⟩⟩
theorem sent_line : ∀ m : ML, lineP locs 1 m.sent = some (m.q 0)
  | .new i => by revert i; decide
  | .load i => by revert i; decide
  | .store i => by revert i; decide
  | .move i k => by revert i k; decide
  | .drop i => by revert i; decide
  | .some k => by revert k; decide
theorem q_num (m : ML) (n : Nat) : { m.q 0 with num := n } = m.q n := by cases m <;> rfl
theorem q_fits (bl : List (List QLine)) (n : Nat) : ∀ m : ML, (⟨locs, bl⟩ : QP).fits (m.q n) = true
  | .new i => by
    have : ∀ i, (⟨locs, []⟩ : QP).fits ((ML.new i).q 0) = true := by decide
    exact this i
  | .load i => by
    have : ∀ i, (⟨locs, []⟩ : QP).fits ((ML.load i).q 0) = true := by decide
    exact this i
  | .store i => by
    have : ∀ i, (⟨locs, []⟩ : QP).fits ((ML.store i).q 0) = true := by decide
    exact this i
  | .move i k => by
    have : ∀ i k, (⟨locs, []⟩ : QP).fits ((ML.move i k).q 0) = true := by decide
    exact this i k
  | .drop i => by
    have : ∀ i, (⟨locs, []⟩ : QP).fits ((ML.drop i).q 0) = true := by decide
    exact this i
  | .some k => by
    have : ∀ k, (⟨locs, []⟩ : QP).fits ((ML.some k).q 0) = true := by decide
    exact this k
/-- the whole text -/
def madeT (L : List ML) : B := [108, 101, 116, 32, 110, 32, 105, 110, 116] ++ tails (headL.drop 1 ++ L.map ML.text ++ [endT])
def qlines : List ML → Nat → List QLine
  | [], _ => []
  | m :: L, n => m.q n :: qlines L (n + 1)
def madeQ (L : List ML) : QP := ⟨locs, [headQ ++ qlines L 8 ++ [endQ (8 + L.length)]]⟩
theorem made_split (L : List ML) : split 10 (madeT L) = headL ++ L.map ML.text ++ [endT] := by
  rw [madeT, split_tails _ _ (by decide)]
  · rfl
  · intro l hl
    simp only [List.mem_append, List.mem_map, List.mem_singleton] at hl
    rcases hl with (hl | ⟨m, -, rfl⟩) | rfl
    · revert l; decide
    · exact text_no m
    · decide
theorem made_body : ∀ (L : List ML) (i : Nat), splitGo false ((L.map ML.text ++ [endT]).map (split 32)) ⟨1, 5, 1⟩ i = (L.map ML.sent ++ [(22, [[110]])], ⟨2, 5, 1⟩, none)
  | [], i => by
    have h : sentP (split 32 endT) = some (22, [[110]]) := by decide
    show splitGo false [split 32 endT] ⟨1, 5, 1⟩ i = _
    rw [splitGo, h]; rfl
  | m :: L, i => by
    obtain ⟨h1, h2, h3⟩ := sent_op m
    have ha : admitsP false ⟨1, 5, 1⟩ m.sent.1 = (⟨1, 5, 1⟩, true) := by
      unfold admitsP
      rw [h3, if_neg (by decide), if_neg (by omega), if_neg (by omega), if_neg (by decide), if_neg (by omega)]
    show splitGo false (split 32 m.text :: (L.map ML.text ++ [endT]).map (split 32)) ⟨1, 5, 1⟩ i = _
    rw [splitGo, text_sent m]
    simp only [ha, if_true]
    rw [made_body L (i + 1)]; rfl
theorem head_sents : ∀ (r : List (List B)), splitGo false (headL.map (split 32) ++ r) ⟨0, 0, 0⟩ 0 = (headS ++ (splitGo false r ⟨1, 5, 1⟩ 8).1, (splitGo false r ⟨1, 5, 1⟩ 8).2) := by
  intro r
  rfl
theorem made_sents (L : List ML) : splitGo false (wordsOf (madeT L)) ⟨0, 0, 0⟩ 0 = (headS ++ (L.map ML.sent ++ [(22, [[110]])]), ⟨2, 5, 1⟩, none) := by
  rw [wordsOf, made_split, List.append_assoc, List.map_append, head_sents, made_body]
theorem made_count (L : List ML) : countB (headS ++ (L.map ML.sent ++ [(22, [[110]])])) = 1 := by
  unfold countB
  rw [List.filter_append, List.filter_append, List.length_append, List.length_append]
  have h1 : (headS.filter fun x => x.1 == 1).length = 1 := by decide
  have h2 : ((L.map ML.sent).filter fun x => x.1 == 1) = [] := by
    rw [List.filter_eq_nil_iff]
    intro x hx
    obtain ⟨m, -, rfl⟩ := List.mem_map.mp hx
    have := (sent_op m).1
    simp; omega
  rw [h1, h2]; rfl
theorem look_head (r : List (Nat × List B)) : lookGo 1 (headS ++ r) 0 QP.empty = lookGo 1 r 8 ⟨locs, [headQ]⟩ := by
  rfl
theorem look_body : ∀ (L : List ML) (i : Nat) (A : List QLine), lookGo 1 (L.map ML.sent ++ [(22, [[110]])]) i ⟨locs, [A]⟩ = (⟨locs, [A ++ qlines L i ++ [endQ (i + L.length)]]⟩, none)
  | [], i, A => by
    have h : lineP locs 1 (22, [[110]]) = some (endQ 0) := by decide
    show lookGo 1 [(22, [[110]])] i ⟨locs, [A]⟩ = _
    rw [lookGo, if_neg (by decide), if_neg (by decide)]
    simp only [h]
    simp [lookGo, QP.addLine, qlines, endQ]
  | m :: L, i, A => by
    obtain ⟨h1, h2, h3⟩ := sent_op m
    show lookGo 1 (m.sent :: (L.map ML.sent ++ [(22, [[110]])])) i ⟨locs, [A]⟩ = _
    rw [lookGo, if_neg (by omega), if_neg (by omega)]
    simp only [sent_line m, q_num]
    have e : (⟨locs, [A]⟩ : QP).addLine (m.q i) = ⟨locs, [A ++ [m.q i]]⟩ := by simp [QP.addLine]
    rw [e, look_body L (i + 1) (A ++ [m.q i]), qlines, List.length_cons]
    simp only [List.append_assoc, List.cons_append, List.nil_append, Prod.mk.injEq, and_true]
    rw [show i + 1 + L.length = i + (L.length + 1) by omega]
theorem qlines_mem : ∀ (L : List ML) (i : Nat) (l : QLine), l ∈ qlines L i → ∃ m n, l = ML.q n m
  | [], _, _, h => by cases h
  | m :: L, i, l, h => by
    rcases List.mem_cons.mp h with rfl | h
    · exact ⟨m, i, rfl⟩
    · exact qlines_mem L (i + 1) l h
theorem made_fits (L : List ML) : (madeQ L).misfit = none := by
  unfold QP.misfit
  rw [Option.map_eq_none_iff, List.find?_eq_none]
  intro l hl
  have hf : (madeQ L).fits l = true := by
    unfold madeQ at hl ⊢
    simp only [List.flatten_cons, List.flatten_nil, List.append_nil, List.mem_append, List.mem_singleton] at hl
    rcases hl with (hl | hl) | rfl
    · simp only [headQ, List.mem_cons, List.not_mem_nil, or_false] at hl
      rcases hl with rfl | rfl <;> rfl
    · obtain ⟨m, n, rfl⟩ := qlines_mem _ _ _ hl
      exact q_fits _ n m
    · rfl
  rw [hf]; decide
theorem made_read (L : List ML) (hL : L.length ≤ 111) : prjRead (madeT L) false = (some (madeQ L), 0, 0) := by
  have hl : ¬ (split 10 (madeT L)).length > (if false = true then 4000 else 120) := by
    rw [made_split]
    have : headL.length = 8 := rfl
    simp [this]; omega
  have hk : lookGo 1 (headS ++ (L.map ML.sent ++ [(22, [[110]])])) 0 QP.empty = (madeQ L, none) := by
    rw [look_head, look_body]; rfl
  unfold prjRead
  rw [if_neg hl, made_sents]
  simp only [made_count, hk, made_fits]
  rfl
theorem plc_len : ∀ i, (plc i).length ≤ 3 := by decide
theorem text_len (m : ML) : m.text.length ≤ 12 := by
  cases m <;> rename_i i <;> simp only [ML.text, List.length_append, List.length_cons, List.length_nil] <;> have := plc_len i <;> first | omega | skip
  rename_i k
  have := plc_len k
  omega
end Go.Proofs.YtmlgajhhnojdjaaGreatDoor.MadA
