/- Ways read and written whole, as rules for a walk: what is asked of the world stands behind a name. -/
import Derived.Test.YtmlgajhhnojdjaaGreatDoorKBE
import Derived.Deep.RegionLaw
import Derived.Deep.RegionHeld3
import Derived.BigRegion
import Derived.Test.YtmlgajhhnojdjaaGreatDoorKAC
import Derived.Test.YtmlgajhhnojdjaaGreatDoorKAE
import Derived.Test.YtmlgajhhnojdjaaGreatDoorKAM
namespace Go.Proofs.YtmlgajhhnojdjaaGreatDoor.Aux
theorem hereAuxG : True := trivial
end Go.Proofs.YtmlgajhhnojdjaaGreatDoor.Aux
/- What the document's own ways make of a move or a some. Conditions: the program lies in memory as it is kept; the locals are twelve at most; both places' locals are there. -/
namespace Go.Proofs.YtmlgajhhnojdjaaGreatDoor.RefT
theorem hereRefT : True := trivial
end Go.Proofs.YtmlgajhhnojdjaaGreatDoor.RefT
/- Plain definitions: what is there behind a line, and whether it needs what may not be there. -/
namespace Go.Proofs.YtmlgajhhnojdjaaGreatDoor.Spec
theorem hereSpecJ : True := trivial
end Go.Proofs.YtmlgajhhnojdjaaGreatDoor.Spec
/- Plain definitions: ways, with others besides; letters that ways may have. -/
namespace Go.Proofs.YtmlgajhhnojdjaaGreatDoor.Spec
open Go Go.Proofs.YtmlgajhhnojdjaaGreatDoor.Aux Go.Proofs.YtmlgajhhnojdjaaGreatDoor.RefS Go.Proofs.YtmlgajhhnojdjaaGreatDoor.RefT

/-- how many letters there are -/
def WS.count (s : WS) : Nat := (s.spots.map List.length).sum + if s.known then 1 else 0
end Go.Proofs.YtmlgajhhnojdjaaGreatDoor.Spec
/- Plain definitions: all ways at every line, gone through until nothing is added. -/
namespace Go.Proofs.YtmlgajhhnojdjaaGreatDoor.Spec
theorem hereSpecM : True := trivial
end Go.Proofs.YtmlgajhhnojdjaaGreatDoor.Spec
/- Plain facts: where the lines of a good program lead are lines. -/
namespace Go.Proofs.YtmlgajhhnojdjaaGreatDoor.Spec
open Go Go.Proofs.YtmlgajhhnojdjaaGreatDoor.Aux Go.Proofs.YtmlgajhhnojdjaaGreatDoor.RefS Go.Proofs.YtmlgajhhnojdjaaGreatDoor.RefT

theorem insideR_last (p : RP) (i : Nat) (hi : i < p.lines.length) : p.inside (i + 1) = if word (p.line i) 0 = wBlock then true else if ends (word (p.line i) 0) then false else p.inside i := by
  unfold RP.inside
  rw [List.take_add_one, List.getElem?_eq_getElem hi]
  have : p.line i = p.lines[i] := by simp [RP.line, hi]
  simp only [Option.toList_some, List.reverse_append, List.reverse_cons, List.reverse_nil, List.nil_append, List.cons_append, insideR, this]
theorem ReadOk.first {text : B} {raw : Bool} {p : RP} (h : ReadOk text raw p) : 0 < p.blocks.length ∧ p.blocks.getD 0 0 < p.lines.length := by
  have h0 : 0 < p.blocks.length := List.length_pos_iff.mpr h.nonempty
  refine ⟨h0, ?_⟩
  have hm : p.blocks.getD 0 0 ∈ p.blocks := by simp [h0]
  have hw := h.pre.blocks
  rw [hw] at hm ⊢
  exact (mem_whichAre hm).1
end Go.Proofs.YtmlgajhhnojdjaaGreatDoor.Spec
/- Plain facts: what a line makes of the ways, spot by spot; ways that are settled are the least that are closed. -/
namespace Go.Proofs.YtmlgajhhnojdjaaGreatDoor.Spec
theorem hereSpecO : True := trivial
end Go.Proofs.YtmlgajhhnojdjaaGreatDoor.Spec
/- Plain facts: ways that are settled are closed, and the least ones that are. -/
namespace Go.Proofs.YtmlgajhhnojdjaaGreatDoor.Spec
theorem hereSpecP : True := trivial
end Go.Proofs.YtmlgajhhnojdjaaGreatDoor.Spec
/- Plain facts: of a program that was read whole, ways that are settled are closed, and the least ones that are. -/
namespace Go.Proofs.YtmlgajhhnojdjaaGreatDoor.Spec
theorem hereSpecQ : True := trivial
end Go.Proofs.YtmlgajhhnojdjaaGreatDoor.Spec
/- Plain facts: ways from block to block are the ways from line to line. -/
namespace Go.Proofs.YtmlgajhhnojdjaaGreatDoor.Spec
open Go Go.Proofs.YtmlgajhhnojdjaaGreatDoor.Aux Go.Proofs.YtmlgajhhnojdjaaGreatDoor.RefS Go.Proofs.YtmlgajhhnojdjaaGreatDoor.RefT

/-- how many blocks begin ahead of line i -/
def RP.cnt (p : RP) (i : Nat) : Nat := ((List.range i).filter fun j => isBlock (p.line j)).length
theorem RP.cnt_succ (p : RP) (i : Nat) : p.cnt (i + 1) = p.cnt i + if isBlock (p.line i) then 1 else 0 := by
  unfold RP.cnt
  rw [List.range_succ, List.filter_append, List.length_append]
  congr 1
  cases h : isBlock (p.line i) <;> simp [h]
/-- a line of a block's body -/
def RP.body (p : RP) (i : Nat) : Prop := i < p.lines.length ∧ isLet (p.line i) = false ∧ isBlock (p.line i) = false
theorem inside_cnt (p : RP) : ∀ i, i ≤ p.lines.length → p.inside i = true → 1 ≤ p.cnt i
  | 0, _, h => by simp [RP.inside, insideR] at h
  | i + 1, hi, h => by
    rw [insideR_last p i (by omega)] at h
    rw [p.cnt_succ]
    by_cases hb : word (p.line i) 0 = wBlock
    · have : isBlock (p.line i) = true := by simp [isBlock, hb]
      rw [this]; simp
    · rw [if_neg hb] at h
      split at h
      · cases h
      · have := inside_cnt p i (by omega) h; omega
section
variable {text : B} {raw : Bool} {p : RP}
theorem ReadOk.body_inside (h : ReadOk text raw p) {i : Nat} (hb : p.body i) : p.inside i = true ∧ 1 ≤ p.cnt i := by
  have : p.inside i = true := by
    rcases h.pre.inb i hb.1 with hl | hl
    · rw [hb.2.1] at hl; cases hl
    · rw [hl, hb.2.2]; rfl
  exact ⟨this, inside_cnt p i (Nat.le_of_lt hb.1) this⟩
end
section
variable {text : B} {raw : Bool} {p : RP}
end
end Go.Proofs.YtmlgajhhnojdjaaGreatDoor.Spec
/- Plain definitions: a program as the project's packages keep it; what its flow makes of a state, as bits; and that both are one. -/
namespace Go.Proofs.YtmlgajhhnojdjaaGreatDoor.Spec
open Go Go.Proofs.YtmlgajhhnojdjaaGreatDoor.Aux Go.Proofs.YtmlgajhhnojdjaaGreatDoor.RefS Go.Proofs.YtmlgajhhnojdjaaGreatDoor.RefT

structure PPlace where
  loc : Nat
  part : UInt8
instance : Inhabited PPlace := ⟨⟨0, 0⟩⟩
structure PLine where
  num : Nat
  op : B
  places : List PPlace
  number : Int
  next : List Nat
def PLine.w (l : PLine) (j : Nat) : PPlace := l.places.getD j default
structure PProg where
  locals : List (B × B)
  blocks : List (List PLine)
def PProg.tyOf (q : PProg) (n : Nat) : B := (q.locals.getD n ([], [])).2
section
variable {p : RP}
end
end Go.Proofs.YtmlgajhhnojdjaaGreatDoor.Spec
/- Plain facts: what the flow makes of a line, as bits, is what the document's own ways make of it. -/
namespace Go.Proofs.YtmlgajhhnojdjaaGreatDoor.Spec
theorem hereSpecT : True := trivial
end Go.Proofs.YtmlgajhhnojdjaaGreatDoor.Spec
/- Plain facts: what the flow makes of a line, as bits, is what the document's own ways make of it; and what it finds wrong. -/
namespace Go.Proofs.YtmlgajhhnojdjaaGreatDoor.Spec
theorem hereSpecU : True := trivial
end Go.Proofs.YtmlgajhhnojdjaaGreatDoor.Spec
/- Plain facts: what the flow makes of any line, as bits, and what it finds wrong, is as in the document's own ways. -/
namespace Go.Proofs.YtmlgajhhnojdjaaGreatDoor.Spec
theorem hereSpecV : True := trivial
end Go.Proofs.YtmlgajhhnojdjaaGreatDoor.Spec
/- Plain facts: what the flow finds wrong is what the document's own ways find wrong; both find the same line first. -/
namespace Go.Proofs.YtmlgajhhnojdjaaGreatDoor.Spec
theorem hereSpecW : True := trivial
end Go.Proofs.YtmlgajhhnojdjaaGreatDoor.Spec
/- Plain facts: which line is wrong hangs on which letters there are alone; the document's own answer from the ways of the blocks. -/
namespace Go.Proofs.YtmlgajhhnojdjaaGreatDoor.Spec
theorem hereSpecX : True := trivial
end Go.Proofs.YtmlgajhhnojdjaaGreatDoor.Spec
/- Plain facts: what the flow leads on with, as bits; where it begins; ways that meet. -/
namespace Go.Proofs.YtmlgajhhnojdjaaGreatDoor.Spec
theorem hereSpecY : True := trivial
end Go.Proofs.YtmlgajhhnojdjaaGreatDoor.Spec
/- Plain facts: a line as the project keeps it, and as the document's own reader has it: both make the same of a state. -/
namespace Go.Proofs.YtmlgajhhnojdjaaGreatDoor.FlwT
theorem hereFlwT : True := trivial
end Go.Proofs.YtmlgajhhnojdjaaGreatDoor.FlwT
/- Plain facts: in which block of the project's program a line stands. -/
namespace Go.Proofs.YtmlgajhhnojdjaaGreatDoor.FlwU
open Go Go.Proofs.YtmlgajhhnojdjaaGreatDoor.Spec

/-- every line stands in the block that was begun last ahead of it: c counts them -/
def InBlk (c : Nat → Nat) (q : QP) : Prop := ∀ j, ∀ l ∈ q.blocks.getD j [], c l.num = j + 1
theorem inBlk_empty (c : Nat → Nat) : InBlk c QP.empty := fun j l hl => by simp [QP.empty] at hl
theorem addBlock_in {c : Nat → Nat} {q : QP} (h : InBlk c q) : InBlk c q.addBlock := fun j l hl => by
  by_cases hj : j < q.blocks.length
  · have : q.addBlock.blocks.getD j [] = q.blocks.getD j [] := by simp [QP.addBlock, List.getD_eq_getElem?_getD, List.getElem?_append, hj]
    rw [this] at hl; exact h j l hl
  · have : q.addBlock.blocks.getD j [] = [] := by
      simp only [QP.addBlock, List.getD_eq_getElem?_getD, List.getElem?_append, if_neg hj]
      cases h2 : j - q.blocks.length with
      | zero => rfl
      | succ n => rfl
    rw [this] at hl; cases hl
theorem addLine_in {c : Nat → Nat} {q : QP} (h : InBlk c q) {l : QLine} {n : Nat} (hn : q.blocks.length = n + 1) (hc : c l.num = n + 1) : InBlk c (q.addLine l) ∧ (q.addLine l).blocks.length = n + 1 := by
  have hne : q.blocks ≠ [] := by intro e; rw [e] at hn; simp at hn
  have hD : q.blocks.dropLast.length = n := by simp [hn]
  have hg : q.blocks.getLastD [] = q.blocks.getD n [] := by
    rw [List.getLastD_eq_getLast?, List.getLast?_eq_getElem?, hn, List.getD_eq_getElem?_getD]; rfl
  refine ⟨fun j x hx => ?_, by simp [QP.addLine, hD]⟩
  by_cases hj : j < n
  · have : (q.addLine l).blocks.getD j [] = q.blocks.getD j [] := by
      simp only [QP.addLine, List.getD_eq_getElem?_getD]
      rw [List.getElem?_append_left (by omega), List.getElem?_dropLast, if_pos (by omega)]
    rw [this] at hx; exact h j x hx
  · by_cases e : j = n
    · subst e
      have : (q.addLine l).blocks.getD j [] = q.blocks.getD j [] ++ [l] := by
        simp only [QP.addLine, List.getD_eq_getElem?_getD]
        rw [List.getElem?_append_right (by omega), hD, Nat.sub_self]
        simp only [List.getElem?_cons_zero, Option.getD_some]
        rw [hg, List.getD_eq_getElem?_getD]
      rw [this] at hx
      rcases List.mem_append.mp hx with hx | hx
      · exact h j x hx
      · rw [List.mem_singleton.mp hx]; exact hc
    · have : (q.addLine l).blocks.getD j [] = [] := by
        rw [List.getD_eq_getElem?_getD, List.getElem?_eq_none (by simp [QP.addLine, hD]; omega)]; rfl
      rw [this] at hx; cases hx
theorem look_in (c : Nat → Nat) (nb : Nat) : ∀ (S : List (Nat × List B)) (i : Nat) (q0 q : QP), lookGo nb S i q0 = (q, none) →
    (∀ k x, S[k]? = some x → c (i + k + 1) = c (i + k) + (if x.1 = 1 then 1 else 0)) → (∀ k x, S[k]? = some x → ¬ x.1 = 0 → ¬ x.1 = 1 → 1 ≤ c (i + k)) → q0.blocks.length = c i → InBlk c q0 → InBlk c q
  | [], i, q0, q, h, _, _, _, hI => by simp only [lookGo, Prod.mk.injEq, and_true] at h; rw [← h]; exact hI
  | x :: S, i, q0, q, h, hc, hp, hl, hI => by
    have h0 := hc 0 x rfl
    have hc' : ∀ k y, S[k]? = some y → c (i + 1 + k + 1) = c (i + 1 + k) + (if y.1 = 1 then 1 else 0) := fun k y hy => by
      have := hc (k + 1) y (by simpa using hy)
      rw [show i + 1 + k = i + (k + 1) by omega]; exact this
    have hp' : ∀ k y, S[k]? = some y → ¬ y.1 = 0 → ¬ y.1 = 1 → 1 ≤ c (i + 1 + k) := fun k y hy => by
      have := hp (k + 1) y (by simpa using hy)
      rw [show i + 1 + k = i + (k + 1) by omega]; exact this
    rw [lookGo] at h
    simp only [Nat.add_zero] at h0
    by_cases e0 : x.1 = 0
    · rw [if_pos e0] at h
      rw [if_neg (by omega)] at h0
      split at h
      · simp at h
      · exact look_in c nb S (i + 1) _ q h hc' hp' (by simpa [QP.addLocal] using hl.trans (by omega)) hI
    · rw [if_neg e0] at h
      by_cases e1 : x.1 = 1
      · rw [if_pos e1] at h
        rw [if_pos e1] at h0
        exact look_in c nb S (i + 1) _ q h hc' hp' (by simp [QP.addBlock]; omega) (addBlock_in hI)
      · rw [if_neg e1] at h
        rw [if_neg e1] at h0
        have h1 := hp 0 x rfl e0 e1
        simp only [Nat.add_zero] at h1
        split at h
        · simp at h
        · rename_i l _
          obtain ⟨a1, a2⟩ := addLine_in (l := { l with num := i }) hI (n := c i - 1) (by omega) (by show c i = _; omega)
          exact look_in c nb S (i + 1) _ q h hc' hp' (by rw [a2]; omega) a1
end Go.Proofs.YtmlgajhhnojdjaaGreatDoor.FlwU
/- Plain facts: all that is known of a program that both readers took. -/
namespace Go.Proofs.YtmlgajhhnojdjaaGreatDoor.FlwV
open Go Go.Proofs.YtmlgajhhnojdjaaGreatDoor.Spec Go.Proofs.YtmlgajhhnojdjaaGreatDoor.FlwU Go.Proofs.YtmlgajhhnojdjaaGreatDoor.PrjS

theorem look_len (nb : Nat) : ∀ (S : List (Nat × List B)) (i : Nat) (q0 q : QP) (c : Nat → Nat), lookGo nb S i q0 = (q, none) →
    (∀ k x, S[k]? = some x → c (i + k + 1) = c (i + k) + (if x.1 = 1 then 1 else 0)) → (∀ k x, S[k]? = some x → ¬ x.1 = 0 → ¬ x.1 = 1 → 1 ≤ c (i + k)) → q0.blocks.length = c i → q.blocks.length = c (i + S.length)
  | [], i, q0, q, c, h, _, _, hl => by simp only [lookGo, Prod.mk.injEq, and_true] at h; rw [← h]; exact hl
  | x :: S, i, q0, q, c, h, hc, hp, hl => by
    have h0 := hc 0 x rfl
    have hc' : ∀ k y, S[k]? = some y → c (i + 1 + k + 1) = c (i + 1 + k) + (if y.1 = 1 then 1 else 0) := fun k y hy => by
      have := hc (k + 1) y (by simpa using hy)
      rw [show i + 1 + k = i + (k + 1) by omega]; exact this
    have hp' : ∀ k y, S[k]? = some y → ¬ y.1 = 0 → ¬ y.1 = 1 → 1 ≤ c (i + 1 + k) := fun k y hy => by
      have := hp (k + 1) y (by simpa using hy)
      rw [show i + 1 + k = i + (k + 1) by omega]; exact this
    have key : ∀ q1 : QP, lookGo nb S (i + 1) q1 = (q, none) → q1.blocks.length = c (i + 1) → q.blocks.length = c (i + (x :: S).length) := fun q1 h1 h2 => by
      have := look_len nb S (i + 1) q1 q c h1 hc' hp' h2
      rw [this, List.length_cons]; congr 1; omega
    rw [lookGo] at h
    simp only [Nat.add_zero] at h0
    by_cases e0 : x.1 = 0
    · rw [if_pos e0] at h
      rw [if_neg (by omega)] at h0
      split at h
      · simp at h
      · exact key _ h (by simpa [QP.addLocal] using hl.trans (by omega))
    · rw [if_neg e0] at h
      by_cases e1 : x.1 = 1
      · rw [if_pos e1] at h
        rw [if_pos e1] at h0
        exact key _ h (by simp [QP.addBlock]; omega)
      · rw [if_neg e1] at h
        rw [if_neg e1] at h0
        have h1 := hp 0 x rfl e0 e1
        simp only [Nat.add_zero] at h1
        split at h
        · simp at h
        · rename_i l _
          exact key _ h (by simp [QP.addLine]; omega)
structure Both (text : B) (raw : Bool) (p : RP) (q : QP) : Prop where
  ref : (refRead text raw).1 = some p
  ok : ReadOk text raw p
  lr : LR p q p.lines.length
  inb : InBlk p.cnt q
  qok : QOk q.blocks.length q
  len : q.blocks.length = p.blocks.length
theorem read_more {text : B} {raw : Bool} {q : QP} (h : (prjRead text raw).1 = some q) : ∃ p, Both text raw p q := by
  obtain ⟨p, hp, R⟩ := (read_same text raw).2 q h
  have hgood : ReadOk text raw p := by
    have e : refRead text raw = (some p, (refRead text raw).2.1, (refRead text raw).2.2) := by rw [← hp]
    exact (refRead_good e).1
  have H := hgood.pre
  by_cases hlong : (split 10 text).length > (if raw then 4000 else 120)
  · rw [prjRead, if_pos hlong] at h; cases h
  · rw [prjRead, if_neg hlong] at h
    split at h
    · cases h
    · rename_i hsp
      split at h
      · cases h
      · split at h
        · cases h
        · rename_i hlook
          split at h
          · cases h
          · simp only [Option.some.injEq] at h
            obtain ⟨-, hn⟩ := split_read raw (wordsOf text) (Spec.start raw) ⟨0, 0, 0⟩ rfl (OrdRel.start raw) (by simp) (fun ws hw => by
              simp only [wordsOf, List.mem_map] at hw
              obtain ⟨a, -, rfl⟩ := hw
              exact one_le_split _ _)
            have hl0 : (Spec.start raw).lines.length = 0 := rfl
            rw [hl0] at hn
            obtain ⟨-, -, -, -, hsents⟩ := hn hsp
            have hS : (splitGo raw (wordsOf text) ⟨0, 0, 0⟩ 0).1 = (List.range p.lines.length).map p.sent := by
              rw [hsents, ← hgood.lines]
              apply List.ext_getElem
              · simp
              · intro i h1 h2
                simp only [List.length_map] at h1
                rw [List.getElem_map, List.getElem_map, List.getElem_range, RP.sent]
                have : p.line i = p.lines[i] := by rw [RP.line, List.getD_eq_getElem?_getD, List.getElem?_eq_getElem h1]; rfl
                rw [this]
            rw [hS] at hlook h
            have hlk : lookGo (countB ((List.range p.lines.length).map p.sent)) ((List.range p.lines.length).map p.sent) 0 QP.empty = (q, none) := Prod.ext h hlook
            have hat : ∀ k x, ((List.range p.lines.length).map p.sent)[k]? = some x → k < p.lines.length ∧ x = p.sent k := fun k x hx => by
              rw [List.getElem?_map] at hx
              by_cases hk : k < p.lines.length
              · rw [List.getElem?_range hk] at hx
                simp only [Option.map_some, Option.some.injEq] at hx
                exact ⟨hk, hx.symm⟩
              · rw [List.getElem?_eq_none (by simp; omega)] at hx; cases hx
            have hop : ∀ k, k < p.lines.length → (p.sent k).1 < 23 ∧ ((p.sent k).1 = 1 ↔ isBlock (p.line k) = true) ∧ ((p.sent k).1 = 0 ↔ isLet (p.line k) = true) := fun k hk => by
              obtain ⟨op, ho, hl, -⟩ := line_op H hk
              have e : (p.sent k).1 = op := by rw [RP.sent, ho]; rfl
              rw [e]
              refine ⟨hl, ?_, ?_⟩
              · rw [isBlock, beq_iff_eq]; exact (block_op ho).symm
              · rw [isLet, beq_iff_eq]; exact (let_op ho).symm
            have hc : ∀ k x, ((List.range p.lines.length).map p.sent)[k]? = some x → p.cnt (0 + k + 1) = p.cnt (0 + k) + (if x.1 = 1 then 1 else 0) := fun k x hx => by
              obtain ⟨hk, rfl⟩ := hat k x hx
              rw [Nat.zero_add, p.cnt_succ]
              congr 1
              by_cases hb : isBlock (p.line k) = true
              · rw [if_pos hb, if_pos ((hop k hk).2.1.mpr hb)]
              · rw [if_neg hb, if_neg (fun e => hb ((hop k hk).2.1.mp e))]
            have hpl : ∀ k x, ((List.range p.lines.length).map p.sent)[k]? = some x → ¬ x.1 = 0 → ¬ x.1 = 1 → 1 ≤ p.cnt (0 + k) := fun k x hx h0 h1 => by
              obtain ⟨hk, rfl⟩ := hat k x hx
              rw [Nat.zero_add]
              have hL : isLet (p.line k) = false := by
                cases hL : isLet (p.line k)
                · rfl
                · exact absurd ((hop k hk).2.2.mpr hL) h0
              have hB : isBlock (p.line k) = false := by
                cases hB : isBlock (p.line k)
                · rfl
                · exact absurd ((hop k hk).2.1.mpr hB) h1
              exact (hgood.body_inside ⟨hk, hL, hB⟩).2
            have hcz : QP.empty.blocks.length = p.cnt 0 := rfl
            have hlen : q.blocks.length = p.blocks.length := by
              rw [R.blocks]
              congr 1
              rw [List.filter_eq_self]
              intro b hb
              rw [H.blocks] at hb
              have := (mem_whichAre hb).1
              simp [this]
            have hqlen := look_len _ _ 0 _ _ p.cnt hlk hc hpl hcz
            have hcount : countB ((List.range p.lines.length).map p.sent) = p.blocks.length := by
              rw [countB, H.blocks, RP.whichAre, List.filter_map, List.length_map]
              congr 1
              apply List.filter_congr
              intro j hj
              have hj' : j < p.lines.length := by simpa using hj
              rw [Bool.eq_iff_iff]
              simp only [Function.comp, beq_iff_eq]
              exact (hop j hj').2.1
            refine ⟨p, hp, hgood, R, look_in p.cnt _ _ 0 _ _ hlk hc hpl hcz (inBlk_empty _), ?_, hlen⟩
            have := lookGo_ok _ _ 0 _ _ hlk (fun x hx => by
              obtain ⟨k, hk, rfl⟩ := List.mem_map.mp hx
              exact (hop k (by simpa using hk)).1) ⟨fun x hx => by simp [QP.empty] at hx, fun b hb => by simp [QP.empty] at hb⟩
            rw [hcount, ← hlen] at this
            exact this
section
variable {text : B} {raw : Bool} {p : RP} {q : QP}
theorem Both.locals (h : Both text raw p q) : q.locals = p.locQ := by
  rw [h.lr.locals, RP.locQ, List.filter_eq_self.mpr]
  intro t ht
  rw [h.ok.pre.lets] at ht
  have := (mem_whichAre ht).1
  simp [this]
theorem Both.twelve (h : Both text raw p q) : q.locals.length ≤ 12 := by
  rw [h.locals, RP.locQ, List.length_map]; exact h.ok.pre.twelve
end
end Go.Proofs.YtmlgajhhnojdjaaGreatDoor.FlwV
/- Plain facts: every line of a program, both ways; the ways ahead of a line, both ways. -/
namespace Go.Proofs.YtmlgajhhnojdjaaGreatDoor.FlwW
theorem hereFlwW : True := trivial
end Go.Proofs.YtmlgajhhnojdjaaGreatDoor.FlwW
/- Plain facts: where the lines of a block lead, and which of them is wrong first: from line to line. -/
namespace Go.Proofs.YtmlgajhhnojdjaaGreatDoor.FlwX
theorem hereFlwX : True := trivial
end Go.Proofs.YtmlgajhhnojdjaaGreatDoor.FlwX
/- Plain facts: the ways that were gone to the end, as the document's own ways of the blocks: closed, and the least; so both find the same line first. -/
namespace Go.Proofs.YtmlgajhhnojdjaaGreatDoor.FlwY
open Go Go.Proofs.YtmlgajhhnojdjaaGreatDoor.Spec Go.Proofs.YtmlgajhhnojdjaaGreatDoor.Aux Go.Proofs.YtmlgajhhnojdjaaGreatDoor.PrjS Go.Proofs.YtmlgajhhnojdjaaGreatDoor.FlwA Go.Proofs.YtmlgajhhnojdjaaGreatDoor.FlwB Go.Proofs.YtmlgajhhnojdjaaGreatDoor.FlwC Go.Proofs.YtmlgajhhnojdjaaGreatDoor.FlwD Go.Proofs.YtmlgajhhnojdjaaGreatDoor.FlwE Go.Proofs.YtmlgajhhnojdjaaGreatDoor.FlwF Go.Proofs.YtmlgajhhnojdjaaGreatDoor.FlwG Go.Proofs.YtmlgajhhnojdjaaGreatDoor.FlwH Go.Proofs.YtmlgajhhnojdjaaGreatDoor.FlwI Go.Proofs.YtmlgajhhnojdjaaGreatDoor.FlwJ Go.Proofs.YtmlgajhhnojdjaaGreatDoor.FlwK Go.Proofs.YtmlgajhhnojdjaaGreatDoor.FlwM Go.Proofs.YtmlgajhhnojdjaaGreatDoor.FlwO Go.Proofs.YtmlgajhhnojdjaaGreatDoor.FlwP Go.Proofs.YtmlgajhhnojdjaaGreatDoor.FlwQ Go.Proofs.YtmlgajhhnojdjaaGreatDoor.FlwS Go.Proofs.YtmlgajhhnojdjaaGreatDoor.FlwT Go.Proofs.YtmlgajhhnojdjaaGreatDoor.FlwU Go.Proofs.YtmlgajhhnojdjaaGreatDoor.FlwV Go.Proofs.YtmlgajhhnojdjaaGreatDoor.FlwW Go.Proofs.YtmlgajhhnojdjaaGreatDoor.FlwX

/-! every spot of a state that is come to has something -/
def Full (s : List Nat) : Prop := ∀ k, k < 24 → ¬ s.getD k 0 = 0
theorem full_set {s : List Nat} (h : Full s) (i : Nat) {v : Nat} (hv : ¬ v = 0) : Full (s.set i v) := fun k hk => by
  rw [getD_set1]
  split
  · exact hv
  · exact h k hk
theorem full_put {v : Nat} (hv : ¬ v = 0) : ∀ (ps : List (Nat × Nat)) {s : List Nat}, Full s → Full (putL v ps s)
  | [], _, h => h
  | x :: ps, _, h => full_put hv ps (full_set h (slotQ x) hv)
theorem full_take : ∀ (ps : List (Nat × Nat)) {s : List Nat}, Full s → Full (takeL ps s)
  | [], _, h => h
  | x :: ps, s, h => full_take ps (s := s.set (slotQ x) (if x.2 = 3 then 8 else 1)) (full_set h (slotQ x) (by split <;> decide))
theorem full_takeQ (q : QP) (l : QLine) {s : List Nat} (h : Full s) : Full (takeQ q l s) := by
  unfold takeQ; split
  · exact full_take _ h
  · split
    · exact full_take _ h
    · exact h
def PlOk (l : QLine) : Prop := ∀ x ∈ l.places, x.1 < 12
theorem full_pass (q : QP) {l : QLine} (hl : PlOk l) {s : List Nat} (h : Full s) : Full (passQ q l s) := by
  have h1 := full_takeQ q l h
  unfold passQ
  split
  · exact full_put (by decide) _ h1
  · split
    · refine full_put ?_ _ h1
      unfold movedL
      split
      · apply h
        have : (l.places.getD 1 (0, 0)).1 < 12 := by
          by_cases hp : 1 < l.places.length
          · exact hl _ (getD_mem hp)
          · rw [List.getD_eq_getElem?_getD, List.getElem?_eq_none (by omega)]; decide
        unfold slotQ; split <;> omega
      · decide
    · split
      · exact full_put (by decide) _ h1
      · split
        · exact full_take _ h1
        · exact h1
theorem full_step (l : QLine) (i : Nat) {s : List Nat} (h : Full s) : Full (stepS l i s) := by
  unfold stepS; split
  · exact full_put (by split <;> decide) _ h
  · exact h
theorem full_stN (l : QLine) : ∀ (ns : List Nat) (i : Nat) {s : List Nat}, Full s → Full (stN l ns i s)
  | [], _, _, h => h
  | _ :: ns, i, _, h => full_stN l ns (i + 1) (full_step l i h)
theorem full_outsN (l : QLine) : ∀ (ns : List Nat) (i : Nat) {s : List Nat}, Full s → ∀ x ∈ outsN l ns i s, Full x.2
  | [], _, _, _, x, hx => by cases hx
  | n :: ns, i, s, h, x, hx => by
    rcases List.mem_cons.mp hx with rfl | hx
    · exact full_step l i h
    · exact full_outsN l ns (i + 1) (full_step l i h) x hx
theorem full_outsL (q : QP) : ∀ (ls : List QLine) {s : List Nat}, (∀ l ∈ ls, PlOk l) → Full s → ∀ x ∈ outsL q ls s, Full x.2
  | [], _, _, _, x, hx => by cases hx
  | l :: ls, s, hl, h, x, hx => by
    have hp := full_pass q (hl l (List.mem_cons_self ..)) h
    rcases List.mem_append.mp hx with hx | hx
    · exact full_outsN l l.next 0 hp x hx
    · exact full_outsL q ls (fun m hm => hl m (List.mem_cons_of_mem _ hm)) (full_stN l _ _ hp) x hx
def FullE (N : Nat) (E : List (List Nat)) : Prop := ∀ b, b < N → E.getD b [] = zeroSt ∨ Full (E.getD b [])
theorem full_join {s t : List Nat} (hs : SOk s) (ht : Full t) : Full (joinS s t) := fun k hk => by
  rw [joinS_getD hs.len, if_pos hk]
  intro e
  exact ht k hk (Nat.or_eq_zero_iff.mp e).2
theorem full_leads (N : Nat) : ∀ (M : List (Nat × List Nat)) (E : List (List Nat)) (O : Nat → Bool), EOk E → E.length = N → (∀ x ∈ M, x.1 < N ∧ SOk x.2) → (∀ x ∈ M, Full x.2) → FullE N E → FullE N (leads M (E, O)).1
  | [], _, _, _, _, _, _, h => h
  | x :: M, E, O, hE, hl, hM, hF, h => by
    obtain ⟨hx1, hx2⟩ := hM x (List.mem_cons_self ..)
    have hxE : x.1 < E.length := by omega
    have e : leads (x :: M) (E, O) = leads M (leadE E x.1 x.2, leadO E O x.1 x.2) := rfl
    rw [e]
    refine full_leads N M _ _ (leadE_ok hE hxE hx2) (by rw [leadE_len]; exact hl) (fun y hy => hM y (List.mem_cons_of_mem _ hy)) (fun y hy => hF y (List.mem_cons_of_mem _ hy)) fun b hb => ?_
    rw [leadE_at E x.1 x.2 hxE]
    split
    · exact .inr (full_join (hE.at hxE) (hF x (List.mem_cons_self ..)))
    · exact h b hb
theorem full_startSt : Full startSt := fun k hk => by
  unfold startSt; rw [List.getD_eq_getElem?_getD, List.getElem?_replicate, if_pos hk]; decide
theorem zeroSt_at {k : Nat} : zeroSt.getD k 0 = 0 := by
  unfold zeroSt; rw [List.getD_eq_getElem?_getD, List.getElem?_replicate]; split <;> rfl
theorem full_ne {s : List Nat} (h : Full s) : ¬ s = zeroSt := fun e => h 0 (by decide) (by rw [e]; exact zeroSt_at)
/-- what holds from step to step, whole -/
structure InvF (q : QP) (E : List (List Nat)) (O : Nat → Bool) : Prop where
  inv : Inv q E O
  full : FullE q.blocks.length E
theorem invF_start (q : QP) (h0 : 0 < q.blocks.length) : InvF q (leadE (List.replicate q.blocks.length zeroSt) 0 startSt) (leadO (List.replicate q.blocks.length zeroSt) (fun _ => false) 0 startSt) := by
  refine ⟨inv_start q h0, ?_⟩
  have hok : EOk (List.replicate q.blocks.length zeroSt) := fun s hs => by rw [List.eq_of_mem_replicate hs]; exact ⟨by decide, zeroSt_lt⟩
  exact full_leads q.blocks.length [(0, startSt)] _ (fun _ => false) hok (by simp) (fun x hx => by rw [List.mem_singleton.mp hx]; exact ⟨h0, startSt_ok⟩) (fun x hx => by rw [List.mem_singleton.mp hx]; exact full_startSt)
    fun b hb => .inl (by simp [List.getD_eq_getElem?_getD, hb])
theorem invF_step (q : QP) (hq : QOk q.blocks.length q) (hls : q.locals.length ≤ 12) (E : List (List Nat)) (O : Nat → Bool) (b : Nat) (hb : b < q.blocks.length) (hO : O b = true) (h : InvF q E O) :
    InvF q (goBlk q E (setO O b false) b).2.1 (goBlk q E (setO O b false) b).2.2 := by
  have hnx := fun b (hb : b < q.blocks.length) => blk_next hq hb
  refine ⟨inv_step q hnx E O b hb hO h.inv, ?_⟩
  have hs := h.inv.ok.at (i := b) (by rw [h.inv.len]; exact hb)
  have e : (goBlk q E (setO O b false) b).2 = leads (outsL q (q.blocks.getD b []) (E.getD b [])) (E, setO O b false) := goLines_eq q _ _
  have hf : Full (E.getD b []) := by
    rcases h.full b hb with h1 | h1
    · exact absurd h1 (h.inv.live b hb hO)
    · exact h1
  have hpl : ∀ l ∈ q.blocks.getD b [], PlOk l := fun l hl x hx => by
    have hm : q.blocks.getD b [] ∈ q.blocks := by rw [List.getD_eq_getElem?_getD, List.getElem?_eq_getElem hb]; exact List.getElem_mem hb
    have := ((hq.lines _ hm l hl).places x hx).1
    omega
  have := full_leads q.blocks.length (outsL q (q.blocks.getD b []) (E.getD b [])) E (setO O b false) h.inv.ok h.inv.len (outsL_ok q q.blocks.length _ (hnx b hb) hs) (full_outsL q _ hpl hf) h.full
  rw [← e] at this
  exact this
/-! bits and letters -/
section
variable {text : B} {p : RP} {q : QP}
structure Done (text : B) (p : RP) (q : QP) (E : List (List Nat)) : Prop where
  both : Both text false p q
  inv : InvF q E (fun _ => false)
  pos : 0 < q.blocks.length
theorem Done.ok {E : List (List Nat)} (h : Done text p q E) {b : Nat} (hb : b < q.blocks.length) : SOk (E.getD b []) := h.inv.inv.ok.at (by rw [h.inv.inv.len]; exact hb)
end
end Go.Proofs.YtmlgajhhnojdjaaGreatDoor.FlwY
