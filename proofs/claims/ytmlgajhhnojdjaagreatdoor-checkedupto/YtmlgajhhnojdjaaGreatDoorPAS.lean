/- Plain facts: all that is known of a program that both readers took. -/
import Derived.Test.YtmlgajhhnojdjaaGreatDoorPAR
import Derived.Test.YtmlgajhhnojdjaaGreatDoorPAQ
import Derived.Test.YtmlgajhhnojdjaaGreatDoorPAH
namespace Go.Proofs.YtmlgajhhnojdjaaGreatDoor.FlwV
open Go Go.Proofs.YtmlgajhhnojdjaaGreatDoor.Spec Go.Proofs.YtmlgajhhnojdjaaGreatDoor.FlwU Go.Proofs.YtmlgajhhnojdjaaGreatDoor.PrjS

theorem look_len (nb : Nat) : ∀ (S : List (Nat × List B)) (i : Nat) (q0 q : QP) (c : Nat → Nat), lookGo nb S i q0 = (q, none) →
    (∀ k x, S[k]? = some x → c (i + k + 1) = c (i + k) + (if x.1 = 1 then 1 else 0)) → (∀ k x, S[k]? = some x → ¬ x.1 = 0 → ¬ x.1 = 1 → 1 ≤ c (i + k)) → q0.blocks.length = c i → q.blocks.length = c (i + S.length)
  | [], i, q0, q, c, h, _, _, hl => by simp only [lookGo, Prod.mk.injEq, and_true] at h; rw [← h]; exact hl
  | x :: S, i, q0, q, c, h, hc, hp, hl => by
    have h0 := hc 0 x rfl
    have hc' : ∀ k y, S[k]? = some y → c (i + 1 + k + 1) = c (i + 1 + k) + (if y.1 = 1 then 1 else 0) := fun k y hy => by
      have := hc (k + 1) y (by simpa using hy)
      rw [show i + 1 + k = i + (k + 1) by omega]; exact this
    have hp' : ∀ k y, S[k]? = some y → ¬ y.1 = 0 → ¬ y.1 = 1 → 1 ≤ c (i + 1 + k) := fun k y hy => by
      have := hp (k + 1) y (by simpa using hy)
      rw [show i + 1 + k = i + (k + 1) by omega]; exact this
    have key : ∀ q1 : QP, lookGo nb S (i + 1) q1 = (q, none) → q1.blocks.length = c (i + 1) → q.blocks.length = c (i + (x :: S).length) := fun q1 h1 h2 => by
      have := look_len nb S (i + 1) q1 q c h1 hc' hp' h2
      rw [this, List.length_cons]; congr 1; omega
    rw [lookGo] at h
    simp only [Nat.add_zero] at h0
    by_cases e0 : x.1 = 0
    · rw [if_pos e0] at h
      rw [if_neg (by omega)] at h0
      split at h
      · simp at h
      · exact key _ h (by simpa [QP.addLocal] using hl.trans (by omega))
    · rw [if_neg e0] at h
      by_cases e1 : x.1 = 1
      · rw [if_pos e1] at h
        rw [if_pos e1] at h0
        exact key _ h (by simp [QP.addBlock]; omega)
      · rw [if_neg e1] at h
        rw [if_neg e1] at h0
        have h1 := hp 0 x rfl e0 e1
        simp only [Nat.add_zero] at h1
        split at h
        · simp at h
        · rename_i l _
          exact key _ h (by simp [QP.addLine]; omega)
structure Both (text : B) (raw : Bool) (p : RP) (q : QP) : Prop where
  ref : (refRead text raw).1 = some p
  ok : ReadOk text raw p
  lr : LR p q p.lines.length
  inb : InBlk p.cnt q
  qok : QOk q.blocks.length q
  len : q.blocks.length = p.blocks.length
theorem read_more {text : B} {raw : Bool} {q : QP} (h : (prjRead text raw).1 = some q) : ∃ p, Both text raw p q := by
  obtain ⟨p, hp, R⟩ := (read_same text raw).2 q h
  have hgood : ReadOk text raw p := by
    have e : refRead text raw = (some p, (refRead text raw).2.1, (refRead text raw).2.2) := by rw [← hp]
    exact (refRead_good e).1
  have H := hgood.pre
  by_cases hlong : (split 10 text).length > (if raw then 4000 else 120)
  · rw [prjRead, if_pos hlong] at h; cases h
  · rw [prjRead, if_neg hlong] at h
    split at h
    · cases h
    · rename_i hsp
      split at h
      · cases h
      · split at h
        · cases h
        · rename_i hlook
          split at h
          · cases h
          · simp only [Option.some.injEq] at h
            obtain ⟨-, hn⟩ := split_read raw (wordsOf text) (Spec.start raw) ⟨0, 0, 0⟩ rfl (OrdRel.start raw) (by simp) (fun ws hw => by
              simp only [wordsOf, List.mem_map] at hw
              obtain ⟨a, -, rfl⟩ := hw
              exact one_le_split _ _)
            have hl0 : (Spec.start raw).lines.length = 0 := rfl
            rw [hl0] at hn
            obtain ⟨-, -, -, -, hsents⟩ := hn hsp
            have hS : (splitGo raw (wordsOf text) ⟨0, 0, 0⟩ 0).1 = (List.range p.lines.length).map p.sent := by
              rw [hsents, ← hgood.lines]
              apply List.ext_getElem
              · simp
              · intro i h1 h2
                simp only [List.length_map] at h1
                rw [List.getElem_map, List.getElem_map, List.getElem_range, RP.sent]
                have : p.line i = p.lines[i] := by rw [RP.line, List.getD_eq_getElem?_getD, List.getElem?_eq_getElem h1]; rfl
                rw [this]
            rw [hS] at hlook h
            have hlk : lookGo (countB ((List.range p.lines.length).map p.sent)) ((List.range p.lines.length).map p.sent) 0 QP.empty = (q, none) := Prod.ext h hlook
            have hat : ∀ k x, ((List.range p.lines.length).map p.sent)[k]? = some x → k < p.lines.length ∧ x = p.sent k := fun k x hx => by
              rw [List.getElem?_map] at hx
              by_cases hk : k < p.lines.length
              · rw [List.getElem?_range hk] at hx
                simp only [Option.map_some, Option.some.injEq] at hx
                exact ⟨hk, hx.symm⟩
              · rw [List.getElem?_eq_none (by simp; omega)] at hx; cases hx
            have hop : ∀ k, k < p.lines.length → (p.sent k).1 < 23 ∧ ((p.sent k).1 = 1 ↔ isBlock (p.line k) = true) ∧ ((p.sent k).1 = 0 ↔ isLet (p.line k) = true) := fun k hk => by
              obtain ⟨op, ho, hl, -⟩ := line_op H hk
              have e : (p.sent k).1 = op := by rw [RP.sent, ho]; rfl
              rw [e]
              refine ⟨hl, ?_, ?_⟩
              · rw [isBlock, beq_iff_eq]; exact (block_op ho).symm
              · rw [isLet, beq_iff_eq]; exact (let_op ho).symm
            have hc : ∀ k x, ((List.range p.lines.length).map p.sent)[k]? = some x → p.cnt (0 + k + 1) = p.cnt (0 + k) + (if x.1 = 1 then 1 else 0) := fun k x hx => by
              obtain ⟨hk, rfl⟩ := hat k x hx
              rw [Nat.zero_add, p.cnt_succ]
              congr 1
              by_cases hb : isBlock (p.line k) = true
              · rw [if_pos hb, if_pos ((hop k hk).2.1.mpr hb)]
              · rw [if_neg hb, if_neg (fun e => hb ((hop k hk).2.1.mp e))]
            have hpl : ∀ k x, ((List.range p.lines.length).map p.sent)[k]? = some x → ¬ x.1 = 0 → ¬ x.1 = 1 → 1 ≤ p.cnt (0 + k) := fun k x hx h0 h1 => by
              obtain ⟨hk, rfl⟩ := hat k x hx
              rw [Nat.zero_add]
              have hL : isLet (p.line k) = false := by
                cases hL : isLet (p.line k)
                · rfl
                · exact absurd ((hop k hk).2.2.mpr hL) h0
              have hB : isBlock (p.line k) = false := by
                cases hB : isBlock (p.line k)
                · rfl
                · exact absurd ((hop k hk).2.1.mpr hB) h1
              exact (hgood.body_inside ⟨hk, hL, hB⟩).2
            have hcz : QP.empty.blocks.length = p.cnt 0 := rfl
            have hlen : q.blocks.length = p.blocks.length := by
              rw [R.blocks]
              congr 1
              rw [List.filter_eq_self]
              intro b hb
              rw [H.blocks] at hb
              have := (mem_whichAre hb).1
              simp [this]
            have hqlen := look_len _ _ 0 _ _ p.cnt hlk hc hpl hcz
            have hcount : countB ((List.range p.lines.length).map p.sent) = p.blocks.length := by
              rw [countB, H.blocks, RP.whichAre, List.filter_map, List.length_map]
              congr 1
              apply List.filter_congr
              intro j hj
              have hj' : j < p.lines.length := by simpa using hj
              rw [Bool.eq_iff_iff]
              simp only [Function.comp, beq_iff_eq]
              exact (hop j hj').2.1
            refine ⟨p, hp, hgood, R, look_in p.cnt _ _ 0 _ _ hlk hc hpl hcz (inBlk_empty _), ?_, hlen⟩
            have := lookGo_ok _ _ 0 _ _ hlk (fun x hx => by
              obtain ⟨k, hk, rfl⟩ := List.mem_map.mp hx
              exact (hop k (by simpa using hk)).1) ⟨fun x hx => by simp [QP.empty] at hx, fun b hb => by simp [QP.empty] at hb⟩
            rw [hcount, ← hlen] at this
            exact this
section
variable {text : B} {raw : Bool} {p : RP} {q : QP}
theorem Both.locals (h : Both text raw p q) : q.locals = p.locQ := by
  rw [h.lr.locals, RP.locQ, List.filter_eq_self.mpr]
  intro t ht
  rw [h.ok.pre.lets] at ht
  have := (mem_whichAre ht).1
  simp [this]
theorem Both.twelve (h : Both text raw p q) : q.locals.length ≤ 12 := by
  rw [h.locals, RP.locQ, List.length_map]; exact h.ok.pre.twelve
theorem qline_num (p : RP) (i : Nat) : (p.qline i).num = i := rfl
/-- the lines of block j, up to line m -/
def idxP (p : RP) (j m : Nat) : List Nat := ((List.range m).filter p.plain).filter fun i => p.cnt i == j + 1
theorem Both.block (h : Both text raw p q) (j : Nat) : q.blocks.getD j [] = (idxP p j p.lines.length).map p.qline := by
  have h1 := flat_filter (fun l : QLine => p.cnt l.num) q.blocks 1 j (fun j l hl => by rw [h.inb j l hl]; omega)
  rw [h1, h.lr.flat, List.filter_map, idxP]
  congr 1
  apply List.filter_congr
  intro i _
  simp only [Function.comp, qline_num]
  rw [show 1 + j = j + 1 by omega]
theorem idx_succ (p : RP) (j m : Nat) : idxP p j (m + 1) = idxP p j m ++ if p.plain m && p.cnt m == j + 1 then [m] else [] := by
  unfold idxP
  rw [filter_succ, List.filter_append]
  congr 1
  cases p.plain m
  · rfl
  · rw [if_pos rfl, Bool.true_and]
    cases h : (p.cnt m == j + 1)
    · rw [List.filter_cons, h]; rfl
    · rw [List.filter_cons, h]; rfl
theorem plain_iff {i : Nat} : p.plain i = true ↔ (isLet (p.line i) = false ∧ isBlock (p.line i) = false) := by
  simp [RP.plain]
end
end Go.Proofs.YtmlgajhhnojdjaaGreatDoor.FlwV
/- Plain facts: every line of a program, both ways; the ways ahead of a line, both ways. -/
namespace Go.Proofs.YtmlgajhhnojdjaaGreatDoor.FlwW
open Go Go.Proofs.YtmlgajhhnojdjaaGreatDoor.Spec Go.Proofs.YtmlgajhhnojdjaaGreatDoor.Aux Go.Proofs.YtmlgajhhnojdjaaGreatDoor.FlwA Go.Proofs.YtmlgajhhnojdjaaGreatDoor.FlwB Go.Proofs.YtmlgajhhnojdjaaGreatDoor.FlwC Go.Proofs.YtmlgajhhnojdjaaGreatDoor.FlwD Go.Proofs.YtmlgajhhnojdjaaGreatDoor.FlwE Go.Proofs.YtmlgajhhnojdjaaGreatDoor.FlwF Go.Proofs.YtmlgajhhnojdjaaGreatDoor.FlwG Go.Proofs.YtmlgajhhnojdjaaGreatDoor.FlwH Go.Proofs.YtmlgajhhnojdjaaGreatDoor.FlwI Go.Proofs.YtmlgajhhnojdjaaGreatDoor.FlwJ Go.Proofs.YtmlgajhhnojdjaaGreatDoor.FlwK Go.Proofs.YtmlgajhhnojdjaaGreatDoor.FlwM Go.Proofs.YtmlgajhhnojdjaaGreatDoor.FlwO Go.Proofs.YtmlgajhhnojdjaaGreatDoor.FlwP Go.Proofs.YtmlgajhhnojdjaaGreatDoor.FlwQ Go.Proofs.YtmlgajhhnojdjaaGreatDoor.FlwS Go.Proofs.YtmlgajhhnojdjaaGreatDoor.FlwT Go.Proofs.YtmlgajhhnojdjaaGreatDoor.FlwU Go.Proofs.YtmlgajhhnojdjaaGreatDoor.FlwV

theorem placesOf_map (p : RP) : ∀ (f : B) (_ : ∀ c ∈ f, c ∈ ([105, 111, 112, 109, 35, 98, 102, 118] : List UInt8)) (ws : List B), (p.placesOf (f.map letter) ws).map toQ = p.placesQ f ws
  | [], _, _ => rfl
  | c :: f, hc, ws => by
    have ih := placesOf_map p f (fun x hx => hc x (List.mem_cons_of_mem _ hx)) (ws.drop 1)
    have hk : isPlaceKind (letter c) = isPl c := by
      have := hc c (List.mem_cons_self ..)
      simp only [List.mem_cons, List.not_mem_nil, or_false] at this
      rcases this with rfl | rfl | rfl | rfl | rfl | rfl | rfl | rfl <;> rfl
    rw [List.map_cons, RP.placesOf, RP.placesQ, hk]
    cases isPl c
    · exact ih
    · rw [if_pos rfl, if_pos rfl, List.map_cons, ih]; rfl
theorem placesOf_mem (p : RP) : ∀ (f : B) (ws : List B) (x : PPlace), x ∈ p.placesOf f ws → ∃ k, ∃ hk : k < f.length, isPlaceKind f[k] = true ∧ x = p.placeOf (word ws k)
  | [], _, x, h => by cases h
  | c :: f, ws, x, h => by
    rw [RP.placesOf] at h
    have hrec : x ∈ p.placesOf f (ws.drop 1) → ∃ k, ∃ hk : k < (c :: f).length, isPlaceKind (c :: f)[k] = true ∧ x = p.placeOf (word ws k) := fun h => by
      obtain ⟨k, hk, h1, h2⟩ := placesOf_mem p f (ws.drop 1) x h
      refine ⟨k + 1, by simpa using hk, by simpa using h1, ?_⟩
      rw [h2, word_drop]
    split at h
    · rename_i hc
      rcases List.mem_cons.mp h with h | h
      · exact ⟨0, by simp, hc, h⟩
      · exact hrec h
    · exact hrec h
section
variable {text : B} {p : RP} {q : QP}
theorem both_ln (h : Both text false p q) {i : Nat} (hb : p.body i) : LnLink (p.qline i) (p.pline i) := by
  have hp : p.plain i = true := plain_iff.mpr hb.2
  obtain ⟨op, ho, hl, h2, hop, -, hpl, -, hf, hbe, -⟩ := qline_parts h.ok.pre hb.1 hp (h.ok.names i hb.1)
  refine ⟨by rw [hop]; exact hl, ?_, ?_, fun j => ?_⟩
  · rw [hop]; exact (opIdx_word ho).2
  · rw [hpl]
    show _ = (p.placesOf (behind (word (p.line i) 0) p.raw).1 ((p.line i).drop 1)).map toQ
    rw [hbe, behindOf]
    by_cases h15 : op = 15
    · subst h15; rfl
    · rw [if_neg h15, placesOf_map p _ (wants_kinds hl h2)]
  · unfold PLine.w
    rw [List.getD_eq_getElem?_getD]
    cases hx : (p.pline i).places[j]? with
    | none => exact .inl rfl
    | some x =>
      have hm : x ∈ p.placesOf (behind (word (p.line i) 0) p.raw).1 ((p.line i).drop 1) := List.mem_of_getElem? hx
      obtain ⟨k, hk, h1, h2⟩ := placesOf_mem p _ _ x hm
      have := (h.ok.place hb rfl k hk h1).1.part
      rw [word_drop] at h2
      rw [Option.getD_some, h2]
      exact this
theorem both_ty (h : Both text false p q) : TyLink q p.toPP := by
  have key : ∀ n, (∃ t, t < 4 ∧ q.tyOf n = t ∧ p.toPP.tyOf n = kindWord t) ∨ (q.tyOf n = 0 ∧ p.toPP.tyOf n = []) := fun n => by
    by_cases hn : n < p.lets.length
    · left
      have hm : p.lets[n] ∈ p.whichAre isLet := by rw [← h.ok.pre.lets]; exact List.getElem_mem hn
      have hx := mem_whichAre hm
      have hf := h.ok.pre.form _ hx.1
      have hlet : word (p.line p.lets[n]) 0 = wLet := by simpa [isLet] using hx.2
      rw [lineForm, if_pos hlet] at hf
      simp only [Bool.and_eq_true, decide_eq_true_eq] at hf
      obtain ⟨t, ht, ht4, htw⟩ := tyIdx_word hf.2
      refine ⟨t, ht4, ?_, ?_⟩
      · rw [QP.tyOf, h.locals, RP.locQ, List.getD_eq_getElem?_getD, List.getElem?_map, List.getElem?_eq_getElem hn]
        simp only [Option.map_some, Option.getD_some, RP.locAt]
        rw [ht]; rfl
      · rw [PProg.tyOf, RP.toPP, RP.localsOf, List.getD_eq_getElem?_getD, List.getElem?_map, List.getElem?_eq_getElem hn]
        simp only [Option.map_some, Option.getD_some]
        exact htw
    · right
      constructor
      · rw [QP.tyOf, h.locals, RP.locQ, List.getD_eq_getElem?_getD, List.getElem?_eq_none (by simp; omega)]; rfl
      · rw [PProg.tyOf, RP.toPP, RP.localsOf, List.getD_eq_getElem?_getD, List.getElem?_eq_none (by simp; omega)]; rfl
  have k4 : ∀ t, t < 4 → (t = 2 ↔ kindWord t = wPair) ∧ (t = 3 ↔ kindWord t = wOpt) := by decide
  constructor
  · intro n
    rcases key n with ⟨t, h4, h1, h2⟩ | ⟨h1, h2⟩
    · rw [h1, h2]; exact (k4 t h4).1
    · rw [h1, h2]; exact ⟨fun x => absurd x (by decide), fun x => absurd x (by decide)⟩
  · intro n
    rcases key n with ⟨t, h4, h1, h2⟩ | ⟨h1, h2⟩
    · rw [h1, h2]; exact (k4 t h4).2
    · rw [h1, h2]; exact ⟨fun x => absurd x (by decide), fun x => absurd x (by decide)⟩
/-- the ways ahead of line i, from those ahead of the blocks, as bits -/
def alongB (p : RP) (q : QP) (U : Nat → List Nat) : Nat → List Nat
  | 0 => zeroSt
  | i + 1 => if isBlock (p.line i) = true then U (p.cnt i) else passQ q (p.qline i) (alongB p q U i)
/-- a body's line that is not the first of its block -/
theorem body_prev (h : ReadOk text false p) {m : Nat} (hb : p.body (m + 1)) (hB : isBlock (p.line m) = false) : p.body m ∧ ends (word (p.line m) 0) = false ∧ p.cnt (m + 1) = p.cnt m := by
  have hi : m < p.lines.length := by have := hb.1; omega
  have hc : p.cnt (m + 1) = p.cnt m := by rw [p.cnt_succ, hB]; rfl
  have hcc : 1 ≤ p.cnt m := by have := (h.body_inside hb).2; rw [hc] at this; exact this
  refine ⟨⟨hi, h.not_let hi hcc, hB⟩, ?_, hc⟩
  cases he : ends (word (p.line m) 0)
  · rfl
  · exfalso
    have h1 := (h.body_inside hb).1
    have hw : ¬ word (p.line m) 0 = wBlock := by simpa [isBlock] using hB
    rw [insideR_last p m hi, if_neg hw, he] at h1; cases h1
theorem along_ok (h : Both text false p q) {U : Nat → List Nat} : ∀ i, p.body i → SOk (U (p.blk i)) → SOk (alongB p q U i)
  | 0, hb, _ => by have := (h.ok.body_inside hb).2; simp [RP.cnt] at this
  | m + 1, hb, hU => by
    rw [alongB]
    by_cases hB : isBlock (p.line m) = true
    · rw [if_pos hB]
      rw [blk_block hB] at hU; exact hU
    · have hB' : isBlock (p.line m) = false := by simpa using hB
      rw [if_neg hB]
      rw [blk_body hB'] at hU
      exact passQ_ok _ _ (along_ok h m (body_prev h.ok hb hB').1 hU)
def RelL (s : List Nat) (t : WS) : Prop := Rel (fun k => s.getD k 0) t
theorem rel_of {s : List Nat} {f : Nat → Nat} {t : WS} (h : Ag s f) (hr : Rel f t) : RelL s t := fun k hk => (h.eq k hk).trans (hr k hk)
theorem along_rel (h : Both text false p q) {U : Nat → List Nat} {EW : Nat → WS} (hE : ∀ b, (EW b).spots.length = 24) : ∀ i, p.body i → SOk (U (p.blk i)) → RelL (U (p.blk i)) (EW (p.blk i)) → RelL (alongB p q U i) (p.along EW i)
  | 0, hb, _, _ => by have := (h.ok.body_inside hb).2; simp [RP.cnt] at this
  | m + 1, hb, hU, hr => by
    rw [alongB, RP.along]
    by_cases hB : isBlock (p.line m) = true
    · rw [if_pos hB, if_pos hB]
      rw [blk_block hB] at hr; exact hr
    · have hB' : isBlock (p.line m) = false := by simpa using hB
      rw [if_neg hB, if_neg hB]
      rw [blk_body hB'] at hU hr
      have hb' := (body_prev h.ok hb hB').1
      have ih := along_rel h hE m hb' hU hr
      have hs := along_ok h m hb' hU
      exact rel_of (ag_pass (both_ty h) (both_ln h hb') hs.len) (h.ok.pass_ok hb' (along_len hE m) ih)
end
end Go.Proofs.YtmlgajhhnojdjaaGreatDoor.FlwW
/- Plain facts: where the lines of a block lead, and which of them is wrong first: from line to line. -/
namespace Go.Proofs.YtmlgajhhnojdjaaGreatDoor.FlwX
open Go Go.Proofs.YtmlgajhhnojdjaaGreatDoor.Spec Go.Proofs.YtmlgajhhnojdjaaGreatDoor.Aux Go.Proofs.YtmlgajhhnojdjaaGreatDoor.FlwA Go.Proofs.YtmlgajhhnojdjaaGreatDoor.FlwB Go.Proofs.YtmlgajhhnojdjaaGreatDoor.FlwC Go.Proofs.YtmlgajhhnojdjaaGreatDoor.FlwD Go.Proofs.YtmlgajhhnojdjaaGreatDoor.FlwE Go.Proofs.YtmlgajhhnojdjaaGreatDoor.FlwF Go.Proofs.YtmlgajhhnojdjaaGreatDoor.FlwG Go.Proofs.YtmlgajhhnojdjaaGreatDoor.FlwH Go.Proofs.YtmlgajhhnojdjaaGreatDoor.FlwI Go.Proofs.YtmlgajhhnojdjaaGreatDoor.FlwJ Go.Proofs.YtmlgajhhnojdjaaGreatDoor.FlwK Go.Proofs.YtmlgajhhnojdjaaGreatDoor.FlwM Go.Proofs.YtmlgajhhnojdjaaGreatDoor.FlwO Go.Proofs.YtmlgajhhnojdjaaGreatDoor.FlwP Go.Proofs.YtmlgajhhnojdjaaGreatDoor.FlwQ Go.Proofs.YtmlgajhhnojdjaaGreatDoor.FlwS Go.Proofs.YtmlgajhhnojdjaaGreatDoor.FlwT Go.Proofs.YtmlgajhhnojdjaaGreatDoor.FlwU Go.Proofs.YtmlgajhhnojdjaaGreatDoor.FlwV Go.Proofs.YtmlgajhhnojdjaaGreatDoor.FlwW

theorem digits_number {w : B} (h : formedP w 98 = true) : (digitsP w).getD 0 = (number w).getD 0 := by
  have h1 : (digitsP w).isSome = true := h
  have h2 := digitsP_eq w
  cases hn : number w with
  | none => rw [hn] at h2; rw [h2] at h1; cases h1
  | some n =>
    rw [hn] at h2
    simp only at h2
    split at h2
    · rw [h2]
    · rw [h2] at h1; cases h1
theorem nextQ_nil : ∀ (f : B) (_ : ∀ c ∈ f, ¬ c = 98) (ws : List B), nextQ f ws = []
  | [], _, _ => rfl
  | c :: f, h, ws => by
    rw [nextQ, if_neg (h c (List.mem_cons_self ..))]
    exact nextQ_nil f (fun x hx => h x (List.mem_cons_of_mem _ hx)) _
theorem wants_low : ∀ op : Fin 23, op.val < 18 ∨ op.val = 22 → ∀ c ∈ wantsOf op.val, ¬ c = 98 := by decide
theorem match_op : ∀ op : Fin 23, opWord op.val = wMatch ↔ op.val = 20 := by decide
theorem getD_one (k : Nat) : ([78] : B).getD k 0 = 78 ↔ k = 0 := by
  match k with
  | 0 => simp
  | k + 1 => simp
theorem getD_three {c : UInt8} (hc : ¬ c = 78) (k : Nat) : ([c, 78, 78] : B).getD k 0 = 78 ↔ (k = 1 ∨ k = 2) := by
  match k with
  | 0 => simp [hc]
  | 1 => simp
  | 2 => simp
  | k + 3 => simp
section
variable {text : B} {p : RP} {q : QP}
/-- what the k-th block behind a line is led on with -/
def outB (p : RP) (i k : Nat) (s : List Nat) : List Nat := if word (p.line i) 0 = wMatch then putL (if k = 1 then 4 else 2) [(p.qline i).places.getD 0 (0, 0)] s else s
def tgt (p : RP) (i k : Nat) : Nat := ((number (word (p.line i) (k + 1))).getD 0).toNat
theorem put_put (x : Nat × Nat) (s : List Nat) : putL 2 [x] (putL 4 [x] s) = putL 2 [x] s := by
  show (s.set (slotQ x) 4).set (slotQ x) 2 = s.set (slotQ x) 2
  rw [List.set_set]
theorem next_quiet (h : Both text false p q) {i : Nat} (hb : p.body i) (he : ends (word (p.line i) 0) = false) : (p.qline i).next = [] := by
  have hp : p.plain i = true := plain_iff.mpr hb.2
  obtain ⟨op, ho, hl, h2, hop, -, hpl, hnx, hf, hbe, -⟩ := qline_parts h.ok.pre hb.1 hp (h.ok.names i hb.1)
  have he' := ends_op ho
  rw [he] at he'
  rw [hnx]
  exact nextQ_nil _ (wants_low ⟨op, hl⟩ (.inl (by simpa using he'.symm))) _
theorem outs_link (h : Both text false p q) {i : Nat} (hb : p.body i) (s : List Nat) (x : Nat × List Nat) :
    x ∈ outsN (p.qline i) (p.qline i).next 0 s ↔ ∃ k, (behind (word (p.line i) 0) p.raw).1.getD k 0 = 78 ∧ x = (tgt p i k, outB p i k s) := by
  have hp : p.plain i = true := plain_iff.mpr hb.2
  obtain ⟨op, ho, hl, h2, hop, -, hpl, hnx, hf, hbe, -⟩ := qline_parts h.ok.pre hb.1 hp (h.ok.names i hb.1)
  have hw := (opIdx_word ho).2
  have hm := match_op ⟨op, hl⟩
  simp only at hm
  rw [← hw] at hm
  have w1 : word ((p.line i).drop 1) 0 = word (p.line i) 1 := by rw [word_drop]
  have w2 : word (((p.line i).drop 1).drop 1) 0 = word (p.line i) 2 := by rw [word_drop, word_drop]
  have w3 : word ((((p.line i).drop 1).drop 1).drop 1) 0 = word (p.line i) 3 := by rw [word_drop, word_drop, word_drop]
  rw [hbe]
  by_cases hlow : op < 18 ∨ op = 22
  · rw [hnx, nextQ_nil _ (wants_low ⟨op, hl⟩ hlow)]
    refine ⟨fun hx => (by cases hx), fun ⟨k, hk, _⟩ => ?_⟩
    exfalso
    have key : ∀ op : Fin 23, op.val < 18 ∨ op.val = 22 → ∀ c ∈ behindOf op.val, ¬ c = 78 := by decide
    rw [List.getD_eq_getElem?_getD] at hk
    cases hg : (behindOf op)[k]? with
    | none => rw [hg] at hk; exact absurd hk (by decide)
    | some c =>
      rw [hg] at hk
      exact key ⟨op, hl⟩ hlow c (List.mem_of_getElem? hg) hk
  · by_cases e18 : op = 18
    · subst e18
      have hn : ¬ word (p.line i) 0 = wMatch := fun e => absurd (hm.mp e) (by decide)
      have hwa : wantsOf 18 = [98] := rfl
      have hbh : behindOf 18 = [78] := rfl
      rw [hwa] at hf hnx
      simp only [formedGo, Bool.and_true, w1] at hf
      simp only [nextQ, if_true, w1, digits_number hf] at hnx
      rw [hbh, hnx]
      simp only [outsN, stepS, hop, getD_one, List.mem_singleton]
      rw [if_neg (by decide)]
      constructor
      · intro hx; exact ⟨0, rfl, by rw [hx, outB, if_neg hn]; rfl⟩
      · rintro ⟨k, rfl, hx⟩; rw [hx, outB, if_neg hn]; rfl
    · have h3 : op = 19 ∨ op = 20 ∨ op = 21 := by omega
      obtain ⟨c, hc1, hc2, hwa, hbh⟩ : ∃ c : UInt8, ¬ c = 98 ∧ ¬ letter c = 78 ∧ wantsOf op = [c, 98, 98] ∧ behindOf op = [letter c, 78, 78] := by
        rcases h3 with rfl | rfl | rfl
        · exact ⟨105, by decide, by decide, rfl, rfl⟩
        · exact ⟨111, by decide, by decide, rfl, rfl⟩
        · exact ⟨102, by decide, by decide, rfl, rfl⟩
      rw [hwa] at hf hnx
      simp only [formedGo, Bool.and_eq_true, Bool.and_true, w1, w2, w3] at hf
      rw [nextQ, if_neg hc1] at hnx
      simp only [nextQ, if_true, w2, w3, digits_number hf.2.1, digits_number hf.2.2] at hnx
      rw [hbh, hnx]
      simp only [outsN, getD_three hc2, List.mem_cons, List.not_mem_nil, or_false]
      by_cases e20 : op = 20
      · have hn : word (p.line i) 0 = wMatch := hm.mpr e20
        have s1 : stepS (p.qline i) 0 s = outB p i 1 s := by rw [stepS, outB, hop, if_pos e20, if_pos hn]; rfl
        have s2 : stepS (p.qline i) (0 + 1) (outB p i 1 s) = outB p i 2 s := by
          rw [stepS, outB, outB, hop, if_pos e20, if_pos hn, if_pos hn, if_neg (by decide), if_pos rfl, if_neg (by decide), put_put]
        rw [s1, s2]
        constructor
        · rintro (hx | hx)
          · exact ⟨1, .inl rfl, hx⟩
          · exact ⟨2, .inr rfl, hx⟩
        · rintro ⟨k, rfl | rfl, hx⟩
          · exact .inl hx
          · exact .inr hx
      · have hn : ¬ word (p.line i) 0 = wMatch := fun e => e20 (hm.mp e)
        have s1 : ∀ j s, stepS (p.qline i) j s = s := fun j s => by rw [stepS, hop, if_neg e20]
        have s2 : ∀ k s, outB p i k s = s := fun k s => by rw [outB, if_neg hn]
        simp only [s1, s2]
        constructor
        · rintro (hx | hx)
          · exact ⟨1, .inl rfl, hx⟩
          · exact ⟨2, .inr rfl, hx⟩
        · rintro ⟨k, rfl | rfl, hx⟩
          · exact .inl hx
          · exact .inr hx
theorem cnt_mono (p : RP) (i : Nat) : ∀ d, p.cnt i ≤ p.cnt (i + d)
  | 0 => Nat.le_refl _
  | d + 1 => by rw [← Nat.add_assoc, p.cnt_succ]; have := cnt_mono p i d; omega
theorem cnt_le (p : RP) {i j : Nat} (h : i ≤ j) : p.cnt i ≤ p.cnt j := by
  have := cnt_mono p i (j - i)
  rwa [show i + (j - i) = j by omega] at this
theorem cnt_all (h : Both text false p q) : p.cnt p.lines.length = p.blocks.length := by
  rw [h.ok.pre.blocks]; rfl
theorem blk_lt (h : Both text false p q) {i : Nat} (hb : p.body i) : p.cnt i = p.blk i + 1 ∧ p.blk i < q.blocks.length := by
  have h1 := (h.ok.body_inside hb).2
  have h2 := cnt_le p (Nat.le_of_lt hb.1)
  rw [cnt_all h, ← h.len] at h2
  unfold RP.blk; omega
theorem idx_nil (p : RP) {j m : Nat} (h : p.cnt m ≤ j) : idxP p j m = [] := by
  unfold idxP
  rw [List.filter_eq_nil_iff]
  intro i hi
  have hlt : i < m := by simp at hi; exact hi.1
  have := cnt_le p (Nat.le_of_lt hlt)
  simp; omega
/-- a state, passed through lines one by one -/
def endG (g : QLine → List Nat → List Nat) (ls : List QLine) (s : List Nat) : List Nat := ls.foldl (fun s l => g l s) s
theorem end_along (h : Both text false p q) (U : Nat → List Nat) {g : QLine → List Nat → List Nat} (hg : ∀ m, p.body m → ends (word (p.line m) 0) = false → ∀ s, g (p.qline m) s = passQ q (p.qline m) s) (j : Nat) :
    ∀ m, p.body m → p.cnt m = j + 1 → endG g ((idxP p j m).map p.qline) (U j) = alongB p q U m
  | 0, hb, _ => by have := (h.ok.body_inside hb).2; simp [RP.cnt] at this
  | m + 1, hb, hc => by
    rw [alongB]
    by_cases hB : isBlock (p.line m) = true
    · rw [if_pos hB]
      rw [p.cnt_succ, hB, if_pos rfl] at hc
      have hpm : p.plain m = false := by simp [RP.plain, hB]
      rw [idx_succ, hpm, idx_nil p (by omega), Bool.false_and, if_neg (by decide), show p.cnt m = j by omega]
      rfl
    · have hB' : isBlock (p.line m) = false := by simpa using hB
      obtain ⟨hb', he, hcc⟩ := body_prev h.ok hb hB'
      rw [hcc] at hc
      rw [if_neg hB, idx_succ, plain_iff.mpr hb'.2, hc, Bool.true_and, if_pos (by simp), List.map_append, endG, List.foldl_append]
      show g (p.qline m) (endG g ((idxP p j m).map p.qline) (U j)) = _
      rw [end_along h U hg j m hb' hc, hg m hb' he]
theorem outsL_app (q : QP) : ∀ (a b : List QLine) (s : List Nat), outsL q (a ++ b) s = outsL q a s ++ outsL q b (endG (fun l s => stN l l.next 0 (passQ q l s)) a s)
  | [], _, _ => rfl
  | l :: a, b, s => by
    rw [List.cons_append, outsL, outsL, outsL_app q a b, List.append_assoc]; rfl
theorem faultL_app (q : QP) : ∀ (a b : List QLine) (s : List Nat), faultL q (a ++ b) s = (faultL q a s).or (faultL q b (endG (passQ q) a s))
  | [], _, _ => rfl
  | l :: a, b, s => by
    rw [List.cons_append, faultL, faultL, faultL_app q a b]
    cases faultyQ q l s
    · rfl
    · rfl
theorem outs_block (h : Both text false p q) (U : Nat → List Nat) (j : Nat) (x : Nat × List Nat) : ∀ m, m ≤ p.lines.length → (x ∈ outsL q ((idxP p j m).map p.qline) (U j) ↔
    ∃ i, i < m ∧ p.body i ∧ p.cnt i = j + 1 ∧ x ∈ outsN (p.qline i) (p.qline i).next 0 (passQ q (p.qline i) (alongB p q U i)))
  | 0, _ => by simp [idxP, outsL]
  | m + 1, hm => by
    have ih := outs_block h U j x m (by omega)
    rw [idx_succ, List.map_append, outsL_app, List.mem_append, ih]
    by_cases hc : p.plain m = true ∧ p.cnt m = j + 1
    · have hb : p.body m := ⟨by omega, plain_iff.mp hc.1⟩
      have hif : (p.plain m && p.cnt m == j + 1) = true := by simp [hc.1, hc.2]
      rw [if_pos hif, end_along h U (fun m hb he s => by rw [next_quiet h hb he]; rfl) j m hb hc.2]
      simp only [List.map_cons, List.map_nil, outsL, List.append_nil]
      constructor
      · rintro (⟨i, h1, h2⟩ | h1)
        · exact ⟨i, by omega, h2⟩
        · exact ⟨m, by omega, hb, hc.2, h1⟩
      · rintro ⟨i, h1, h2⟩
        by_cases e : i = m
        · subst e; exact .inr h2.2.2
        · exact .inl ⟨i, by omega, h2⟩
    · have hif : ¬ (p.plain m && p.cnt m == j + 1) = true := by simpa using hc
      rw [if_neg hif]
      simp only [List.map_nil, outsL, List.not_mem_nil, or_false]
      constructor
      · rintro ⟨i, h1, h2⟩; exact ⟨i, by omega, h2⟩
      · rintro ⟨i, h1, h2⟩
        by_cases e : i = m
        · subst e; exact absurd ⟨plain_iff.mpr h2.1.2, h2.2.1⟩ hc
        · exact ⟨i, by omega, h2⟩
/-- where block j leads, and with what -/
theorem outs_all (h : Both text false p q) (U : Nat → List Nat) (j : Nat) (x : Nat × List Nat) : x ∈ outsL q (q.blocks.getD j []) (U j) ↔
    ∃ i k, p.body i ∧ p.cnt i = j + 1 ∧ (behind (word (p.line i) 0) p.raw).1.getD k 0 = 78 ∧ x = (tgt p i k, outB p i k (passQ q (p.qline i) (alongB p q U i))) := by
  rw [h.block j, outs_block h U j x _ (Nat.le_refl _)]
  constructor
  · rintro ⟨i, h1, h2, h3, h4⟩
    obtain ⟨k, h5⟩ := (outs_link h h2 _ x).mp h4
    exact ⟨i, k, h2, h3, h5⟩
  · rintro ⟨i, k, h2, h3, h5⟩
    exact ⟨i, h2.1, h2, h3, (outs_link h h2 _ x).mpr ⟨k, h5⟩⟩
/-! the first wrong one -/
theorem firstSome_last (f : Nat → Option Nat) : ∀ m k, firstSome f (m + 1) k = (firstSome f m k).or (f (k + m))
  | 0, k => by simp [firstSome]
  | m + 1, k => by
    rw [firstSome, firstSome_last f m (k + 1), firstSome, Option.or_assoc, show k + 1 + m = k + (m + 1) by omega]
theorem firstSome_none (f : Nat → Option Nat) : ∀ m, firstSome f m 0 = none ↔ ∀ i, i < m → f i = none
  | 0 => by simp [firstSome]
  | m + 1 => by
    rw [firstSome_last, Option.or_eq_none_iff, firstSome_none f m, Nat.zero_add]
    constructor
    · rintro ⟨h1, h2⟩ i hi
      by_cases e : i = m
      · rw [e]; exact h2
      · exact h1 i (by omega)
    · intro h; exact ⟨fun i hi => h i (by omega), h m (by omega)⟩
theorem firstSome_some (f : Nat → Option Nat) (r : Nat) : ∀ m, firstSome f m 0 = some r ↔ ∃ i, i < m ∧ f i = some r ∧ ∀ j, j < i → f j = none
  | 0 => by simp [firstSome]
  | m + 1 => by
    rw [firstSome_last, Option.or_eq_some_iff, firstSome_some f r m, firstSome_none, Nat.zero_add]
    constructor
    · rintro (⟨i, h1, h2⟩ | ⟨h1, h2⟩)
      · exact ⟨i, by omega, h2⟩
      · exact ⟨m, by omega, h2, h1⟩
    · rintro ⟨i, h1, h2, h3⟩
      by_cases e : i = m
      · subst e; exact .inr ⟨h3, h2⟩
      · exact .inl ⟨i, by omega, h2, h3⟩
def pick (P : Nat → Bool) (i : Nat) : Option Nat := if P i = true then some i else none
theorem pick_none {P : Nat → Bool} {i : Nat} : pick P i = none ↔ P i = false := by
  unfold pick; cases P i <;> simp
theorem pick_some {P : Nat → Bool} {i r : Nat} : pick P i = some r ↔ P i = true ∧ i = r := by
  unfold pick; cases P i <;> simp
def wrongB (p : RP) (q : QP) (U : Nat → List Nat) (j i : Nat) : Bool := (p.plain i && p.cnt i == j + 1) && faultyQ q (p.qline i) (alongB p q U i)
theorem fault_block (h : Both text false p q) (U : Nat → List Nat) (j : Nat) : ∀ m, m ≤ p.lines.length → faultL q ((idxP p j m).map p.qline) (U j) = firstSome (pick (wrongB p q U j)) m 0
  | 0, _ => rfl
  | m + 1, hm => by
    rw [firstSome_last, ← fault_block h U j m (by omega), idx_succ, List.map_append, faultL_app, Nat.zero_add]
    congr 1
    unfold pick wrongB
    by_cases hc : p.plain m = true ∧ p.cnt m = j + 1
    · have hb : p.body m := ⟨by omega, plain_iff.mp hc.1⟩
      have hif : (p.plain m && p.cnt m == j + 1) = true := by simp [hc.1, hc.2]
      rw [if_pos hif, hif, Bool.true_and, end_along h U (fun _ _ _ _ => rfl) j m hb hc.2]
      simp only [List.map_cons, List.map_nil, faultL, qline_num]
    · have hif : (p.plain m && p.cnt m == j + 1) = false := by
        cases hx : (p.plain m && p.cnt m == j + 1)
        · rfl
        · exfalso; apply hc; simpa using hx
      rw [hif, Bool.false_and, if_neg (by decide), if_neg (by decide)]; rfl
/-- which line of a body is wrong -/
def wrongP (p : RP) (q : QP) (E : List (List Nat)) (i : Nat) : Bool := !(E.getD (p.blk i) [] == zeroSt) && faultyQ q (p.qline i) (alongB p q (fun b => E.getD b []) i)
theorem fault_all (h : Both text false p q) (E : List (List Nat)) : firstSome (faultB q E) q.blocks.length 0 = firstSome (pick fun i => p.plain i && wrongP p q E i) p.lines.length 0 := by
  have hF : ∀ b, faultB q E b = if E.getD b [] = zeroSt then none else firstSome (pick (wrongB p q (fun b => E.getD b []) b)) p.lines.length 0 := fun b => by
    unfold faultB
    split
    · rfl
    · rw [h.block b]
      exact fault_block h (fun b => E.getD b []) b _ (Nat.le_refl _)
  have one : ∀ i, i < p.lines.length → (p.plain i && wrongP p q E i) = true → p.blk i < q.blocks.length ∧ ¬ E.getD (p.blk i) [] = zeroSt ∧ wrongB p q (fun b => E.getD b []) (p.blk i) i = true := fun i hi hw => by
    simp only [wrongP, Bool.and_eq_true, Bool.not_eq_true', beq_eq_false_iff_ne] at hw
    have hb : p.body i := ⟨hi, plain_iff.mp hw.1⟩
    obtain ⟨h1, h2⟩ := blk_lt h hb
    refine ⟨h2, hw.2.1, ?_⟩
    unfold wrongB
    rw [hw.1, h1, hw.2.2]; simp
  have two : ∀ b i, i < p.lines.length → wrongB p q (fun b => E.getD b []) b i = true → ¬ E.getD b [] = zeroSt → (p.plain i && wrongP p q E i) = true ∧ p.blk i = b := fun b i hi hw hz => by
    simp only [wrongB, Bool.and_eq_true, beq_iff_eq] at hw
    have hbk : p.blk i = b := by unfold RP.blk; omega
    refine ⟨?_, hbk⟩
    simp only [wrongP, hbk, hw.1.1, hw.2, Bool.true_and, Bool.and_true, Bool.not_eq_true', beq_eq_false_iff_ne]
    exact hz
  cases hr : firstSome (faultB q E) q.blocks.length 0 with
  | none =>
    rw [firstSome_none] at hr
    symm
    rw [firstSome_none]
    intro i hi
    rw [pick_none]
    cases hw : (p.plain i && wrongP p q E i)
    · rfl
    · exfalso
      obtain ⟨h1, h2, h3⟩ := one i hi hw
      have := hr _ h1
      rw [hF, if_neg h2, firstSome_none] at this
      have := pick_none.mp (this i hi)
      rw [h3] at this; cases this
  | some r =>
    rw [firstSome_some] at hr
    obtain ⟨b, hb, hbr, hlow⟩ := hr
    rw [hF] at hbr
    split at hbr
    · cases hbr
    · rename_i hz
      rw [firstSome_some] at hbr
      obtain ⟨i, hi, hir, hil⟩ := hbr
      obtain ⟨hw, rfl⟩ := pick_some.mp hir
      obtain ⟨hP, hbk⟩ := two b i hi hw hz
      symm
      rw [firstSome_some]
      refine ⟨i, hi, pick_some.mpr ⟨hP, rfl⟩, fun c hc => ?_⟩
      rw [pick_none]
      cases hwc : (p.plain c && wrongP p q E c)
      · rfl
      · exfalso
        obtain ⟨h1, h2, h3⟩ := one c (by omega) hwc
        have hle : p.blk c ≤ b := by
          have := cnt_le p (Nat.le_of_lt hc)
          rw [← hbk]; unfold RP.blk; omega
        by_cases e : p.blk c = b
        · rw [e] at h3
          have := pick_none.mp (hil c hc)
          rw [h3] at this; cases this
        · have := hlow (p.blk c) (by omega)
          rw [hF, if_neg h2, firstSome_none] at this
          have := pick_none.mp (this c (by omega))
          rw [h3] at this; cases this
def asInt : Option Nat → Int
  | none => -1
  | some i => i
theorem firstWrong_eq (p : RP) (wrong : Nat → Bool) : ∀ m i, p.firstWrong wrong m i = asInt (firstSome (pick fun i => p.plain i && wrong i) m i)
  | 0, _ => rfl
  | m + 1, i => by
    rw [RP.firstWrong, firstSome, firstWrong_eq p wrong m (i + 1)]
    by_cases hc : (!isLet (p.line i) && !isBlock (p.line i) && wrong i) = true
    · have e : pick (fun i => p.plain i && wrong i) i = some i := if_pos hc
      rw [if_pos hc, e]; rfl
    · have e : pick (fun i => p.plain i && wrong i) i = none := if_neg hc
      rw [if_neg hc, e]; rfl
end
end Go.Proofs.YtmlgajhhnojdjaaGreatDoor.FlwX
/- Plain facts: the ways that were gone to the end, as the document's own ways of the blocks: closed, and the least; so both find the same line first. -/
namespace Go.Proofs.YtmlgajhhnojdjaaGreatDoor.FlwY
open Go Go.Proofs.YtmlgajhhnojdjaaGreatDoor.Spec Go.Proofs.YtmlgajhhnojdjaaGreatDoor.Aux Go.Proofs.YtmlgajhhnojdjaaGreatDoor.PrjS Go.Proofs.YtmlgajhhnojdjaaGreatDoor.FlwA Go.Proofs.YtmlgajhhnojdjaaGreatDoor.FlwB Go.Proofs.YtmlgajhhnojdjaaGreatDoor.FlwC Go.Proofs.YtmlgajhhnojdjaaGreatDoor.FlwD Go.Proofs.YtmlgajhhnojdjaaGreatDoor.FlwE Go.Proofs.YtmlgajhhnojdjaaGreatDoor.FlwF Go.Proofs.YtmlgajhhnojdjaaGreatDoor.FlwG Go.Proofs.YtmlgajhhnojdjaaGreatDoor.FlwH Go.Proofs.YtmlgajhhnojdjaaGreatDoor.FlwI Go.Proofs.YtmlgajhhnojdjaaGreatDoor.FlwJ Go.Proofs.YtmlgajhhnojdjaaGreatDoor.FlwK Go.Proofs.YtmlgajhhnojdjaaGreatDoor.FlwM Go.Proofs.YtmlgajhhnojdjaaGreatDoor.FlwO Go.Proofs.YtmlgajhhnojdjaaGreatDoor.FlwP Go.Proofs.YtmlgajhhnojdjaaGreatDoor.FlwQ Go.Proofs.YtmlgajhhnojdjaaGreatDoor.FlwS Go.Proofs.YtmlgajhhnojdjaaGreatDoor.FlwT Go.Proofs.YtmlgajhhnojdjaaGreatDoor.FlwU Go.Proofs.YtmlgajhhnojdjaaGreatDoor.FlwV Go.Proofs.YtmlgajhhnojdjaaGreatDoor.FlwW Go.Proofs.YtmlgajhhnojdjaaGreatDoor.FlwX

/-! every spot of a state that is come to has something -/
def Full (s : List Nat) : Prop := ∀ k, k < 24 → ¬ s.getD k 0 = 0
theorem full_set {s : List Nat} (h : Full s) (i : Nat) {v : Nat} (hv : ¬ v = 0) : Full (s.set i v) := fun k hk => by
  rw [getD_set1]
  split
  · exact hv
  · exact h k hk
theorem full_put {v : Nat} (hv : ¬ v = 0) : ∀ (ps : List (Nat × Nat)) {s : List Nat}, Full s → Full (putL v ps s)
  | [], _, h => h
  | x :: ps, _, h => full_put hv ps (full_set h (slotQ x) hv)
theorem full_take : ∀ (ps : List (Nat × Nat)) {s : List Nat}, Full s → Full (takeL ps s)
  | [], _, h => h
  | x :: ps, s, h => full_take ps (s := s.set (slotQ x) (if x.2 = 3 then 8 else 1)) (full_set h (slotQ x) (by split <;> decide))
theorem full_takeQ (q : QP) (l : QLine) {s : List Nat} (h : Full s) : Full (takeQ q l s) := by
  unfold takeQ; split
  · exact full_take _ h
  · split
    · exact full_take _ h
    · exact h
def PlOk (l : QLine) : Prop := ∀ x ∈ l.places, x.1 < 12
theorem full_pass (q : QP) {l : QLine} (hl : PlOk l) {s : List Nat} (h : Full s) : Full (passQ q l s) := by
  have h1 := full_takeQ q l h
  unfold passQ
  split
  · exact full_put (by decide) _ h1
  · split
    · refine full_put ?_ _ h1
      unfold movedL
      split
      · apply h
        have : (l.places.getD 1 (0, 0)).1 < 12 := by
          by_cases hp : 1 < l.places.length
          · exact hl _ (getD_mem hp)
          · rw [List.getD_eq_getElem?_getD, List.getElem?_eq_none (by omega)]; decide
        unfold slotQ; split <;> omega
      · decide
    · split
      · exact full_put (by decide) _ h1
      · split
        · exact full_take _ h1
        · exact h1
theorem full_step (l : QLine) (i : Nat) {s : List Nat} (h : Full s) : Full (stepS l i s) := by
  unfold stepS; split
  · exact full_put (by split <;> decide) _ h
  · exact h
theorem full_stN (l : QLine) : ∀ (ns : List Nat) (i : Nat) {s : List Nat}, Full s → Full (stN l ns i s)
  | [], _, _, h => h
  | _ :: ns, i, _, h => full_stN l ns (i + 1) (full_step l i h)
theorem full_outsN (l : QLine) : ∀ (ns : List Nat) (i : Nat) {s : List Nat}, Full s → ∀ x ∈ outsN l ns i s, Full x.2
  | [], _, _, _, x, hx => by cases hx
  | n :: ns, i, s, h, x, hx => by
    rcases List.mem_cons.mp hx with rfl | hx
    · exact full_step l i h
    · exact full_outsN l ns (i + 1) (full_step l i h) x hx
theorem full_outsL (q : QP) : ∀ (ls : List QLine) {s : List Nat}, (∀ l ∈ ls, PlOk l) → Full s → ∀ x ∈ outsL q ls s, Full x.2
  | [], _, _, _, x, hx => by cases hx
  | l :: ls, s, hl, h, x, hx => by
    have hp := full_pass q (hl l (List.mem_cons_self ..)) h
    rcases List.mem_append.mp hx with hx | hx
    · exact full_outsN l l.next 0 hp x hx
    · exact full_outsL q ls (fun m hm => hl m (List.mem_cons_of_mem _ hm)) (full_stN l _ _ hp) x hx
def FullE (N : Nat) (E : List (List Nat)) : Prop := ∀ b, b < N → E.getD b [] = zeroSt ∨ Full (E.getD b [])
theorem full_join {s t : List Nat} (hs : SOk s) (ht : Full t) : Full (joinS s t) := fun k hk => by
  rw [joinS_getD hs.len, if_pos hk]
  intro e
  exact ht k hk (Nat.or_eq_zero_iff.mp e).2
theorem full_leads (N : Nat) : ∀ (M : List (Nat × List Nat)) (E : List (List Nat)) (O : Nat → Bool), EOk E → E.length = N → (∀ x ∈ M, x.1 < N ∧ SOk x.2) → (∀ x ∈ M, Full x.2) → FullE N E → FullE N (leads M (E, O)).1
  | [], _, _, _, _, _, _, h => h
  | x :: M, E, O, hE, hl, hM, hF, h => by
    obtain ⟨hx1, hx2⟩ := hM x (List.mem_cons_self ..)
    have hxE : x.1 < E.length := by omega
    have e : leads (x :: M) (E, O) = leads M (leadE E x.1 x.2, leadO E O x.1 x.2) := rfl
    rw [e]
    refine full_leads N M _ _ (leadE_ok hE hxE hx2) (by rw [leadE_len]; exact hl) (fun y hy => hM y (List.mem_cons_of_mem _ hy)) (fun y hy => hF y (List.mem_cons_of_mem _ hy)) fun b hb => ?_
    rw [leadE_at E x.1 x.2 hxE]
    split
    · exact .inr (full_join (hE.at hxE) (hF x (List.mem_cons_self ..)))
    · exact h b hb
theorem full_startSt : Full startSt := fun k hk => by
  unfold startSt; rw [List.getD_eq_getElem?_getD, List.getElem?_replicate, if_pos hk]; decide
theorem zeroSt_at {k : Nat} : zeroSt.getD k 0 = 0 := by
  unfold zeroSt; rw [List.getD_eq_getElem?_getD, List.getElem?_replicate]; split <;> rfl
theorem full_ne {s : List Nat} (h : Full s) : ¬ s = zeroSt := fun e => h 0 (by decide) (by rw [e]; exact zeroSt_at)
/-- what holds from step to step, whole -/
structure InvF (q : QP) (E : List (List Nat)) (O : Nat → Bool) : Prop where
  inv : Inv q E O
  full : FullE q.blocks.length E
theorem invF_start (q : QP) (h0 : 0 < q.blocks.length) : InvF q (leadE (List.replicate q.blocks.length zeroSt) 0 startSt) (leadO (List.replicate q.blocks.length zeroSt) (fun _ => false) 0 startSt) := by
  refine ⟨inv_start q h0, ?_⟩
  have hok : EOk (List.replicate q.blocks.length zeroSt) := fun s hs => by rw [List.eq_of_mem_replicate hs]; exact ⟨by decide, zeroSt_lt⟩
  exact full_leads q.blocks.length [(0, startSt)] _ (fun _ => false) hok (by simp) (fun x hx => by rw [List.mem_singleton.mp hx]; exact ⟨h0, startSt_ok⟩) (fun x hx => by rw [List.mem_singleton.mp hx]; exact full_startSt)
    fun b hb => .inl (by simp [List.getD_eq_getElem?_getD, hb])
theorem invF_step (q : QP) (hq : QOk q.blocks.length q) (hls : q.locals.length ≤ 12) (E : List (List Nat)) (O : Nat → Bool) (b : Nat) (hb : b < q.blocks.length) (hO : O b = true) (h : InvF q E O) :
    InvF q (goBlk q E (setO O b false) b).2.1 (goBlk q E (setO O b false) b).2.2 := by
  have hnx := fun b (hb : b < q.blocks.length) => blk_next hq hb
  refine ⟨inv_step q hnx E O b hb hO h.inv, ?_⟩
  have hs := h.inv.ok.at (i := b) (by rw [h.inv.len]; exact hb)
  have e : (goBlk q E (setO O b false) b).2 = leads (outsL q (q.blocks.getD b []) (E.getD b [])) (E, setO O b false) := goLines_eq q _ _
  have hf : Full (E.getD b []) := by
    rcases h.full b hb with h1 | h1
    · exact absurd h1 (h.inv.live b hb hO)
    · exact h1
  have hpl : ∀ l ∈ q.blocks.getD b [], PlOk l := fun l hl x hx => by
    have hm : q.blocks.getD b [] ∈ q.blocks := by rw [List.getD_eq_getElem?_getD, List.getElem?_eq_getElem hb]; exact List.getElem_mem hb
    have := ((hq.lines _ hm l hl).places x hx).1
    omega
  have := full_leads q.blocks.length (outsL q (q.blocks.getD b []) (E.getD b [])) E (setO O b false) h.inv.ok h.inv.len (outsL_ok q q.blocks.length _ (hnx b hb) hs) (full_outsL q _ hpl hf) h.full
  rw [← e] at this
  exact this
/-! bits and letters -/
theorem bit_mem (x : B) : (45 ∈ x ↔ (bitsOf x).testBit 0 = true) ∧ (119 ∈ x ↔ (bitsOf x).testBit 1 = true) ∧ (110 ∈ x ↔ (bitsOf x).testBit 2 = true) ∧ (104 ∈ x ↔ (bitsOf x).testBit 3 = true) := by
  unfold bitsOf
  by_cases h1 : (45 : UInt8) ∈ x <;> by_cases h2 : (119 : UInt8) ∈ x <;> by_cases h3 : (110 : UInt8) ∈ x <;> by_cases h4 : (104 : UInt8) ∈ x <;> simp only [h1, h2, h3, h4, if_true, if_false] <;> decide
theorem le1_bit {a b : Nat} (h : le1 a b) (i : Nat) (ha : a.testBit i = true) : b.testBit i = true := by
  have : (b ||| a).testBit i = true := by rw [Nat.testBit_or, ha, Bool.or_true]
  unfold le1 at h; rwa [h] at this
theorem mem_of_le {x y : B} (hx : Few x) (h : le1 (bitsOf x) (bitsOf y)) {c : UInt8} (hc : c ∈ x) : c ∈ y := by
  have := hx.among c hc
  simp only [letters, List.mem_cons, List.not_mem_nil, or_false] at this
  rcases this with rfl | rfl | rfl | rfl
  · exact (bit_mem y).1.mpr (le1_bit h 0 ((bit_mem x).1.mp hc))
  · exact (bit_mem y).2.2.1.mpr (le1_bit h 2 ((bit_mem x).2.2.1.mp hc))
  · exact (bit_mem y).2.1.mpr (le1_bit h 1 ((bit_mem x).2.1.mp hc))
  · exact (bit_mem y).2.2.2.mpr (le1_bit h 3 ((bit_mem x).2.2.2.mp hc))
theorem le_of_sub {x y : B} (h : ∀ c, c ∈ x → c ∈ y) : le1 (bitsOf x) (bitsOf y) := by
  have := bits_or (a := y) (b := x) (c := y) fun c => ⟨.inl, fun e => e.elim id (h c)⟩
  exact this.symm
theorem sub_of_le {u v : List Nat} {s t : WS} (hs : s.Few) (hu : RelL u s) (hv : RelL v t) (h : leS u v) : Sub s t := fun k c hc => by
  by_cases hk : k < 24
  · have := h k hk
    have e1 : u.getD k 0 = bitsOf (s.at k) := hu k hk
    have e2 : v.getD k 0 = bitsOf (t.at k) := hv k hk
    rw [e1, e2] at this
    exact mem_of_le (hs.few k) this hc
  · exfalso
    unfold WS.at at hc
    rw [List.getD_eq_getElem?_getD, List.getElem?_eq_none (by rw [hs.len]; omega)] at hc
    cases hc
theorem le_of_subS {u v : List Nat} {s t : WS} (hu : RelL u s) (hv : RelL v t) (h : Sub s t) : leS u v := fun k hk => by
  have e1 : u.getD k 0 = bitsOf (s.at k) := hu k hk
  have e2 : v.getD k 0 = bitsOf (t.at k) := hv k hk
  rw [e1, e2]; exact le_of_sub (h k)
section
variable {text : B} {p : RP} {q : QP}
theorem outB_rel (h : Both text false p q) {i : Nat} (hb : p.body i) {k : Nat} (hk : (behind (word (p.line i) 0) p.raw).1.getD k 0 = 78) {s : List Nat} {t : WS} (hs : s.length = 24) (ht : t.spots.length = 24) (hr : RelL s t) : RelL (outB p i k s) (p.outOf (p.line i) t k) := by
  unfold outB
  by_cases hm : word (p.line i) 0 = wMatch
  · rw [if_pos hm]
    obtain ⟨h1, h2⟩ := h.ok.out_match hb hm ht hr
    have hf : (behind (word (p.line i) 0) p.raw).1 = [111, 78, 78] := by rw [hm]; rfl
    rw [hf, getD_three (by decide)] at hk
    have hw := (both_ln h hb).w 0
    rw [hw]
    rcases hk with rfl | rfl
    · rw [if_pos rfl]; exact rel_of (ag_put 4 [_] (Ag.self hs)) h1
    · rw [if_neg (by decide)]; exact rel_of (ag_put 2 [_] (Ag.self hs)) h2
  · rw [if_neg hm, out_other hm]; exact hr
/-- the ways of the blocks, as letters -/
def wsOf (N : Nat) (E : List (List Nat)) (b : Nat) : WS := if b < N then ⟨!(E.getD b [] == zeroSt), (E.getD b []).map lettersOf⟩ else zeroWS
theorem wsOf_at {N : Nat} {E : List (List Nat)} {b : Nat} (hb : b < N) : wsOf N E b = ⟨!(E.getD b [] == zeroSt), (E.getD b []).map lettersOf⟩ := by rw [wsOf, if_pos hb]
theorem letters_at {s : List Nat} (hs : SOk s) (v : Bool) {k : Nat} (hk : k < 24) : (⟨v, s.map lettersOf⟩ : WS).at k = lettersOf (s.getD k 0) := by
  unfold WS.at
  rw [List.getD_eq_getElem?_getD, List.getElem?_map, List.getD_eq_getElem?_getD, List.getElem?_eq_getElem (by rw [hs.len]; exact hk)]; rfl
theorem letters_rel {s : List Nat} (hs : SOk s) (v : Bool) : RelL s ⟨v, s.map lettersOf⟩ := fun k hk => by
  rw [letters_at hs v hk, bits_letters _ (hs.lt k)]
theorem letters_few {s : List Nat} (hs : SOk s) (v : Bool) : (⟨v, s.map lettersOf⟩ : WS).Few := by
  refine ⟨by simpa using hs.len, fun k => ?_⟩
  by_cases hk : k < 24
  · rw [letters_at hs v hk]; exact few_letters _ (hs.lt k)
  · unfold WS.at
    rw [List.getD_eq_getElem?_getD, List.getElem?_eq_none (by simp [hs.len]; omega)]
    exact few_nil
theorem along_few {E : Nat → WS} (hE : ∀ b, (E b).Few) : ∀ i, (p.along E i).Few
  | 0 => zeroWS_few
  | i + 1 => by
    rw [RP.along]; split
    · exact hE _
    · exact p.step_few (along_few hE i) _
theorem rel_startL : RelL startSt startWS := fun k hk => by
  have h1 : startSt.getD k 0 = 1 := by unfold startSt; rw [List.getD_eq_getElem?_getD, List.getElem?_replicate, if_pos hk]; rfl
  show startSt.getD k 0 = _
  rw [h1]
  exact rel_start k hk
structure Done (text : B) (p : RP) (q : QP) (E : List (List Nat)) : Prop where
  both : Both text false p q
  inv : InvF q E (fun _ => false)
  pos : 0 < q.blocks.length
theorem Done.ok {E : List (List Nat)} (h : Done text p q E) {b : Nat} (hb : b < q.blocks.length) : SOk (E.getD b []) := h.inv.inv.ok.at (by rw [h.inv.inv.len]; exact hb)
theorem Done.few {E : List (List Nat)} (h : Done text p q E) (b : Nat) : (wsOf q.blocks.length E b).Few := by
  unfold wsOf; split
  · rename_i hb; exact letters_few (h.ok hb) _
  · exact zeroWS_few
theorem Done.rel {E : List (List Nat)} (h : Done text p q E) {b : Nat} (hb : b < q.blocks.length) : RelL (E.getD b []) (wsOf q.blocks.length E b) := by
  rw [wsOf_at hb]; exact letters_rel (h.ok hb) _
theorem Done.known {E : List (List Nat)} {b : Nat} (hb : b < q.blocks.length) : (wsOf q.blocks.length E b).known = true ↔ ¬ E.getD b [] = zeroSt := by
  rw [wsOf_at hb]; simp
theorem Done.along {E : List (List Nat)} (h : Done text p q E) {i : Nat} (hb : p.body i) : RelL (alongB p q (fun b => E.getD b []) i) (p.along (wsOf q.blocks.length E) i) ∧ SOk (alongB p q (fun b => E.getD b []) i) := by
  have hl := (blk_lt h.both hb).2
  exact ⟨along_rel h.both (U := fun b => E.getD b []) (EW := wsOf q.blocks.length E) (fun b => (h.few b).len) i hb (h.ok hl) (h.rel hl), along_ok h.both (U := fun b => E.getD b []) i hb (h.ok hl)⟩
theorem pass_rel (h : Both text false p q) {i : Nat} (hb : p.body i) {s : List Nat} {t : WS} (hs : SOk s) (ht : t.spots.length = 24) (hr : RelL s t) : RelL (passQ q (p.qline i) s) (p.step (p.line i) t).1 :=
  rel_of (ag_pass (both_ty h) (both_ln h hb) hs.len) (h.ok.pass_ok hb ht hr)
theorem Done.closed {E : List (List Nat)} (h : Done text p q E) : BClosed p (wsOf q.blocks.length E) := by
  have H := h.both
  refine ⟨fun b => (h.few b).len, ?_, fun i hb hkn k hk => ?_⟩
  · constructor
    · rw [Done.known h.pos]
      exact nonzero_of_le startSt_ok h.inv.inv.start startSt_ne
    · exact sub_of_le startWS_few rel_startL (h.rel h.pos) h.inv.inv.start
  · obtain ⟨hc, hl⟩ := blk_lt H hb
    rw [Done.known hl] at hkn
    obtain ⟨hr, hs⟩ := h.along hb
    have hm := (outs_all H (fun b => E.getD b []) (p.blk i) (tgt p i k, outB p i k (passQ q (p.qline i) (alongB p q (fun b => E.getD b []) i)))).mpr ⟨i, k, hb, hc, hk, rfl⟩
    have hle := h.inv.inv.step (p.blk i) hl rfl hkn _ hm
    have hok := outsL_ok q q.blocks.length _ (blk_next H.qok hl) (h.ok hl) _ hm
    have hfull : Full (E.getD (p.blk i) []) := by
      rcases h.inv.full _ hl with e | e
      · exact absurd e hkn
      · exact e
    have hpl : ∀ l ∈ q.blocks.getD (p.blk i) [], PlOk l := fun l hx x hx' => by
      have hmm : q.blocks.getD (p.blk i) [] ∈ q.blocks := by rw [List.getD_eq_getElem?_getD, List.getElem?_eq_getElem hl]; exact List.getElem_mem hl
      have := ((H.qok.lines _ hmm l hx).places x hx').1
      have := H.twelve
      omega
    have hF := full_outsL q _ hpl hfull _ hm
    have ht24 : (p.along (wsOf q.blocks.length E) i).spots.length = 24 := along_len (fun b => (h.few b).len) i
    have hst := pass_rel H hb hs ht24 hr
    have hst24 := p.step_len ht24 (p.line i)
    have hout := outB_rel H hb hk (passQ_ok q (p.qline i) hs).len hst24 hst
    constructor
    · exact (Done.known hok.1).mpr (nonzero_of_le hok.2 hle (full_ne hF))
    · exact sub_of_le (p.out_few (p.step_few (along_few (h.few) i) (p.line i)) (p.line i) k) hout (h.rel hok.1) hle
/-- the document's ways, as bits -/
def bitsU (E' : Nat → WS) (b : Nat) : List Nat := if (E' b).known = true then (E' b).spots.map bitsOf else zeroSt
theorem bitsU_ok {E' : Nat → WS} (hl : ∀ b, (E' b).spots.length = 24) (b : Nat) : SOk (bitsU E' b) := by
  unfold bitsU; split
  · refine ⟨by simpa using hl b, fun k => ?_⟩
    rw [List.getD_eq_getElem?_getD, List.getElem?_map]
    cases (E' b).spots[k]? with
    | none => decide
    | some x => exact bits_lt x
  · exact ⟨by decide, zeroSt_lt⟩
theorem bitsU_rel {E' : Nat → WS} (hl : ∀ b, (E' b).spots.length = 24) {b : Nat} (hk : (E' b).known = true) : RelL (bitsU E' b) (E' b) := fun k hk2 => by
  show (bitsU E' b).getD k 0 = _
  unfold bitsU
  rw [if_pos hk]
  unfold WS.at
  rw [List.getD_eq_getElem?_getD, List.getElem?_map, List.getD_eq_getElem?_getD, List.getElem?_eq_getElem (by rw [hl b]; exact hk2)]; rfl
theorem closed_bits (H : Both text false p q) {E' : Nat → WS} (hE : BClosed p E') : QClosed q (bitsU E') := by
  refine ⟨fun b _ => bitsU_ok hE.len b, le_of_subS rel_startL (bitsU_rel hE.len hE.start.1) hE.start.2, fun b hb hne x hx => ?_⟩
  have hkn : (E' b).known = true := by
    cases hk : (E' b).known
    · exact absurd (by unfold bitsU; rw [hk]; rfl) hne
    · rfl
  obtain ⟨i, k, hbd, hc, hk, rfl⟩ := (outs_all H (bitsU E') b x).mp hx
  have hbk : p.blk i = b := by unfold RP.blk; omega
  have hkn' : (E' (p.blk i)).known = true := by rw [hbk]; exact hkn
  have hr := along_rel H (U := bitsU E') (EW := E') hE.len i hbd (bitsU_ok hE.len _) (bitsU_rel hE.len hkn')
  have hs := along_ok H (U := bitsU E') i hbd (bitsU_ok hE.len _)
  have ht24 : (p.along E' i).spots.length = 24 := along_len hE.len i
  have hst := pass_rel H hbd hs ht24 hr
  have hout := outB_rel H hbd hk (passQ_ok q (p.qline i) hs).len (p.step_len ht24 (p.line i)) hst
  obtain ⟨h1, h2⟩ := hE.step i hbd hkn' k hk
  exact le_of_subS hout (bitsU_rel hE.len h1) h2
theorem Done.least {E : List (List Nat)} (h : Done text p q E) : BLeast p (wsOf q.blocks.length E) := fun E' hE b hb hk => by
  rw [← h.both.len] at hb
  rw [Done.known hb] at hk
  have hle := h.inv.inv.least _ (closed_bits h.both hE) b hb
  have hkn : (E' b).known = true := by
    cases hkn : (E' b).known
    · exfalso
      refine nonzero_of_le (h.ok hb) hle hk ?_
      unfold bitsU; rw [hkn]; rfl
    · rfl
  exact ⟨hkn, sub_of_le (h.few b) (h.rel hb) (bitsU_rel hE.len hkn) hle⟩
/-- both find the same line first -/
theorem Done.same {E : List (List Nat)} (h : Done text p q E) {L : List WS} (hL : p.Settled L) : p.faultGo L p.lines.length 0 = FlwX.asInt (firstSome (faultB q E) q.blocks.length 0) := by
  rw [h.both.ok.fault_same hL h.closed h.least (wrong := wrongP p q E) (fun i hb => ?_), firstWrong_eq, fault_all h.both]
  obtain ⟨hc, hl⟩ := blk_lt h.both hb
  obtain ⟨hr, hs⟩ := h.along hb
  unfold wrongP
  rw [eq_faulty (both_ty h.both) (both_ln h.both hb), h.both.ok.fault_ok hb (along_few h.few i) hr, wsOf_at hl]
end
end Go.Proofs.YtmlgajhhnojdjaaGreatDoor.FlwY
