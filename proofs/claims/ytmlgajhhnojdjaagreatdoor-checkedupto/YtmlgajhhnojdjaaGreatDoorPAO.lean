/- Plain facts: where the lines of a block lead, and which of them is wrong first: from line to line. -/
import Derived.Test.YtmlgajhhnojdjaaGreatDoorPAN
import Derived.Test.YtmlgajhhnojdjaaGreatDoorPAI
import Derived.Deep.DeepCutAuto
namespace Go.Proofs.YtmlgajhhnojdjaaGreatDoor.FlwX
open Go Go.Proofs.YtmlgajhhnojdjaaGreatDoor.Spec Go.Proofs.YtmlgajhhnojdjaaGreatDoor.Aux Go.Proofs.YtmlgajhhnojdjaaGreatDoor.FlwA Go.Proofs.YtmlgajhhnojdjaaGreatDoor.FlwB Go.Proofs.YtmlgajhhnojdjaaGreatDoor.FlwC Go.Proofs.YtmlgajhhnojdjaaGreatDoor.FlwD Go.Proofs.YtmlgajhhnojdjaaGreatDoor.FlwE Go.Proofs.YtmlgajhhnojdjaaGreatDoor.FlwF Go.Proofs.YtmlgajhhnojdjaaGreatDoor.FlwG Go.Proofs.YtmlgajhhnojdjaaGreatDoor.FlwH Go.Proofs.YtmlgajhhnojdjaaGreatDoor.FlwI Go.Proofs.YtmlgajhhnojdjaaGreatDoor.FlwJ Go.Proofs.YtmlgajhhnojdjaaGreatDoor.FlwK Go.Proofs.YtmlgajhhnojdjaaGreatDoor.FlwM Go.Proofs.YtmlgajhhnojdjaaGreatDoor.FlwO Go.Proofs.YtmlgajhhnojdjaaGreatDoor.FlwP Go.Proofs.YtmlgajhhnojdjaaGreatDoor.FlwQ Go.Proofs.YtmlgajhhnojdjaaGreatDoor.FlwS Go.Proofs.YtmlgajhhnojdjaaGreatDoor.FlwT Go.Proofs.YtmlgajhhnojdjaaGreatDoor.FlwU Go.Proofs.YtmlgajhhnojdjaaGreatDoor.FlwV Go.Proofs.YtmlgajhhnojdjaaGreatDoor.FlwW

theorem digits_number {w : B} (h : formedP w 98 = true) : (digitsP w).getD 0 = (number w).getD 0 := by
  have h1 : (digitsP w).isSome = true := h
  have h2 := digitsP_eq w
  cases hn : number w with
  | none => rw [hn] at h2; rw [h2] at h1; cases h1
  | some n =>
    rw [hn] at h2
    simp only at h2
    split at h2
    · rw [h2]
    · rw [h2] at h1; cases h1
theorem nextQ_nil : ∀ (f : B) (_ : ∀ c ∈ f, ¬ c = 98) (ws : List B), nextQ f ws = []
  | [], _, _ => rfl
  | c :: f, h, ws => by
    rw [nextQ, if_neg (h c (List.mem_cons_self ..))]
    exact nextQ_nil f (fun x hx => h x (List.mem_cons_of_mem _ hx)) _
theorem wants_low : ∀ op : Fin 23, op.val < 18 ∨ op.val = 22 → ∀ c ∈ wantsOf op.val, ¬ c = 98 := by decide
theorem match_op : ∀ op : Fin 23, opWord op.val = wMatch ↔ op.val = 20 := by decide
theorem getD_one (k : Nat) : ([78] : B).getD k 0 = 78 ↔ k = 0 := by
  match k with
  | 0 => simp
  | k + 1 => simp
theorem getD_three {c : UInt8} (hc : ¬ c = 78) (k : Nat) : ([c, 78, 78] : B).getD k 0 = 78 ↔ (k = 1 ∨ k = 2) := by
  match k with
  | 0 => simp [hc]
  | 1 => simp
  | 2 => simp
  | k + 3 => simp
section
variable {text : B} {p : RP} {q : QP}
/-- what the k-th block behind a line is led on with -/
def outB (p : RP) (i k : Nat) (s : List Nat) : List Nat := if word (p.line i) 0 = wMatch then putL (if k = 1 then 4 else 2) [(p.qline i).places.getD 0 (0, 0)] s else s
def tgt (p : RP) (i k : Nat) : Nat := ((number (word (p.line i) (k + 1))).getD 0).toNat
theorem put_put (x : Nat × Nat) (s : List Nat) : putL 2 [x] (putL 4 [x] s) = putL 2 [x] s := by
  show (s.set (slotQ x) 4).set (slotQ x) 2 = s.set (slotQ x) 2
  rw [List.set_set]
theorem next_quiet (h : Both text false p q) {i : Nat} (hb : p.body i) (he : ends (word (p.line i) 0) = false) : (p.qline i).next = [] := by
  have hp : p.plain i = true := plain_iff.mpr hb.2
  obtain ⟨op, ho, hl, h2, hop, -, hpl, hnx, hf, hbe, -⟩ := qline_parts h.ok.pre hb.1 hp (h.ok.names i hb.1)
  have he' := ends_op ho
  rw [he] at he'
  rw [hnx]
  exact nextQ_nil _ (wants_low ⟨op, hl⟩ (.inl (by simpa using he'.symm))) _
theorem outs_link (h : Both text false p q) {i : Nat} (hb : p.body i) (s : List Nat) (x : Nat × List Nat) :
    x ∈ outsN (p.qline i) (p.qline i).next 0 s ↔ ∃ k, (behind (word (p.line i) 0) p.raw).1.getD k 0 = 78 ∧ x = (tgt p i k, outB p i k s) := by
  have hp : p.plain i = true := plain_iff.mpr hb.2
  obtain ⟨op, ho, hl, h2, hop, -, hpl, hnx, hf, hbe, -⟩ := qline_parts h.ok.pre hb.1 hp (h.ok.names i hb.1)
  have hw := (opIdx_word ho).2
  have hm := match_op ⟨op, hl⟩
  simp only at hm
  rw [← hw] at hm
  have w1 : word ((p.line i).drop 1) 0 = word (p.line i) 1 := by rw [word_drop]
  have w2 : word (((p.line i).drop 1).drop 1) 0 = word (p.line i) 2 := by rw [word_drop, word_drop]
  have w3 : word ((((p.line i).drop 1).drop 1).drop 1) 0 = word (p.line i) 3 := by rw [word_drop, word_drop, word_drop]
  rw [hbe]
  by_cases hlow : op < 18 ∨ op = 22
  · rw [hnx, nextQ_nil _ (wants_low ⟨op, hl⟩ hlow)]
    refine ⟨fun hx => (by cases hx), fun ⟨k, hk, _⟩ => ?_⟩
    exfalso
    have key : ∀ op : Fin 23, op.val < 18 ∨ op.val = 22 → ∀ c ∈ behindOf op.val, ¬ c = 78 := by decide
    rw [List.getD_eq_getElem?_getD] at hk
    cases hg : (behindOf op)[k]? with
    | none => rw [hg] at hk; exact absurd hk (by decide)
    | some c =>
      rw [hg] at hk
      exact key ⟨op, hl⟩ hlow c (List.mem_of_getElem? hg) hk
  · by_cases e18 : op = 18
    · subst e18
      have hn : ¬ word (p.line i) 0 = wMatch := fun e => absurd (hm.mp e) (by decide)
      have hwa : wantsOf 18 = [98] := rfl
      have hbh : behindOf 18 = [78] := rfl
      rw [hwa] at hf hnx
      simp only [formedGo, Bool.and_true, w1] at hf
      simp only [nextQ, if_true, w1, digits_number hf] at hnx
      rw [hbh, hnx]
      simp only [outsN, stepS, hop, getD_one, List.mem_singleton]
      rw [if_neg (by decide)]
      constructor
      · intro hx; exact ⟨0, rfl, by rw [hx, outB, if_neg hn]; rfl⟩
      · rintro ⟨k, rfl, hx⟩; rw [hx, outB, if_neg hn]; rfl
    · have h3 : op = 19 ∨ op = 20 ∨ op = 21 := by omega
      obtain ⟨c, hc1, hc2, hwa, hbh⟩ : ∃ c : UInt8, ¬ c = 98 ∧ ¬ letter c = 78 ∧ wantsOf op = [c, 98, 98] ∧ behindOf op = [letter c, 78, 78] := by
        rcases h3 with rfl | rfl | rfl
        · exact ⟨105, by decide, by decide, rfl, rfl⟩
        · exact ⟨111, by decide, by decide, rfl, rfl⟩
        · exact ⟨102, by decide, by decide, rfl, rfl⟩
      rw [hwa] at hf hnx
      simp only [formedGo, Bool.and_eq_true, Bool.and_true, w1, w2, w3] at hf
      rw [nextQ, if_neg hc1] at hnx
      simp only [nextQ, if_true, w2, w3, digits_number hf.2.1, digits_number hf.2.2] at hnx
      rw [hbh, hnx]
      simp only [outsN, getD_three hc2, List.mem_cons, List.not_mem_nil, or_false]
      by_cases e20 : op = 20
      · have hn : word (p.line i) 0 = wMatch := hm.mpr e20
        have s1 : stepS (p.qline i) 0 s = outB p i 1 s := by rw [stepS, outB, hop, if_pos e20, if_pos hn]; rfl
        have s2 : stepS (p.qline i) (0 + 1) (outB p i 1 s) = outB p i 2 s := by
          rw [stepS, outB, outB, hop, if_pos e20, if_pos hn, if_pos hn, if_neg (by decide), if_pos rfl, if_neg (by decide), put_put]
        rw [s1, s2]
        constructor
        · rintro (hx | hx)
          · exact ⟨1, .inl rfl, hx⟩
          · exact ⟨2, .inr rfl, hx⟩
        · rintro ⟨k, rfl | rfl, hx⟩
          · exact .inl hx
          · exact .inr hx
      · have hn : ¬ word (p.line i) 0 = wMatch := fun e => e20 (hm.mp e)
        have s1 : ∀ j s, stepS (p.qline i) j s = s := fun j s => by rw [stepS, hop, if_neg e20]
        have s2 : ∀ k s, outB p i k s = s := fun k s => by rw [outB, if_neg hn]
        simp only [s1, s2]
        constructor
        · rintro (hx | hx)
          · exact ⟨1, .inl rfl, hx⟩
          · exact ⟨2, .inr rfl, hx⟩
        · rintro ⟨k, rfl | rfl, hx⟩
          · exact .inl hx
          · exact .inr hx
theorem cnt_mono (p : RP) (i : Nat) : ∀ d, p.cnt i ≤ p.cnt (i + d)
  | 0 => Nat.le_refl _
  | d + 1 => by rw [← Nat.add_assoc, p.cnt_succ]; have := cnt_mono p i d; omega
theorem cnt_le (p : RP) {i j : Nat} (h : i ≤ j) : p.cnt i ≤ p.cnt j := by
  have := cnt_mono p i (j - i)
  rwa [show i + (j - i) = j by omega] at this
theorem cnt_all (h : Both text false p q) : p.cnt p.lines.length = p.blocks.length := by
  rw [h.ok.pre.blocks]; rfl
theorem blk_lt (h : Both text false p q) {i : Nat} (hb : p.body i) : p.cnt i = p.blk i + 1 ∧ p.blk i < q.blocks.length := by
  have h1 := (h.ok.body_inside hb).2
  have h2 := cnt_le p (Nat.le_of_lt hb.1)
  rw [cnt_all h, ← h.len] at h2
  unfold RP.blk; omega
theorem idx_nil (p : RP) {j m : Nat} (h : p.cnt m ≤ j) : idxP p j m = [] := by
  unfold idxP
  rw [List.filter_eq_nil_iff]
  intro i hi
  have hlt : i < m := by simp at hi; exact hi.1
  have := cnt_le p (Nat.le_of_lt hlt)
  simp; omega
/-- a state, passed through lines one by one -/
def endG (g : QLine → List Nat → List Nat) (ls : List QLine) (s : List Nat) : List Nat := ls.foldl (fun s l => g l s) s
theorem end_along (h : Both text false p q) (U : Nat → List Nat) {g : QLine → List Nat → List Nat} (hg : ∀ m, p.body m → ends (word (p.line m) 0) = false → ∀ s, g (p.qline m) s = passQ q (p.qline m) s) (j : Nat) :
    ∀ m, p.body m → p.cnt m = j + 1 → endG g ((idxP p j m).map p.qline) (U j) = alongB p q U m
  | 0, hb, _ => by have := (h.ok.body_inside hb).2; simp [RP.cnt] at this
  | m + 1, hb, hc => by
    rw [alongB]
    by_cases hB : isBlock (p.line m) = true
    · rw [if_pos hB]
      rw [p.cnt_succ, hB, if_pos rfl] at hc
      have hpm : p.plain m = false := by simp [RP.plain, hB]
      rw [idx_succ, hpm, idx_nil p (by omega), Bool.false_and, if_neg (by decide), show p.cnt m = j by omega]
      rfl
    · have hB' : isBlock (p.line m) = false := by simpa using hB
      obtain ⟨hb', he, hcc⟩ := body_prev h.ok hb hB'
      rw [hcc] at hc
      rw [if_neg hB, idx_succ, plain_iff.mpr hb'.2, hc, Bool.true_and, if_pos (by simp), List.map_append, endG, List.foldl_append]
      show g (p.qline m) (endG g ((idxP p j m).map p.qline) (U j)) = _
      rw [end_along h U hg j m hb' hc, hg m hb' he]
theorem outsL_app (q : QP) : ∀ (a b : List QLine) (s : List Nat), outsL q (a ++ b) s = outsL q a s ++ outsL q b (endG (fun l s => stN l l.next 0 (passQ q l s)) a s)
  | [], _, _ => rfl
  | l :: a, b, s => by
    rw [List.cons_append, outsL, outsL, outsL_app q a b, List.append_assoc]; rfl
theorem faultL_app (q : QP) : ∀ (a b : List QLine) (s : List Nat), faultL q (a ++ b) s = (faultL q a s).or (faultL q b (endG (passQ q) a s))
  | [], _, _ => rfl
  | l :: a, b, s => by
    rw [List.cons_append, faultL, faultL, faultL_app q a b]
    cases faultyQ q l s
    · rfl
    · rfl
theorem outs_block (h : Both text false p q) (U : Nat → List Nat) (j : Nat) (x : Nat × List Nat) : ∀ m, m ≤ p.lines.length → (x ∈ outsL q ((idxP p j m).map p.qline) (U j) ↔
    ∃ i, i < m ∧ p.body i ∧ p.cnt i = j + 1 ∧ x ∈ outsN (p.qline i) (p.qline i).next 0 (passQ q (p.qline i) (alongB p q U i)))
  | 0, _ => by simp [idxP, outsL]
  | m + 1, hm => by
    have ih := outs_block h U j x m (by omega)
    rw [idx_succ, List.map_append, outsL_app, List.mem_append, ih]
    by_cases hc : p.plain m = true ∧ p.cnt m = j + 1
    · have hb : p.body m := ⟨by omega, plain_iff.mp hc.1⟩
      have hif : (p.plain m && p.cnt m == j + 1) = true := by simp [hc.1, hc.2]
      rw [if_pos hif, end_along h U (fun m hb he s => by rw [next_quiet h hb he]; rfl) j m hb hc.2]
      simp only [List.map_cons, List.map_nil, outsL, List.append_nil]
      constructor
      · rintro (⟨i, h1, h2⟩ | h1)
        · exact ⟨i, by omega, h2⟩
        · exact ⟨m, by omega, hb, hc.2, h1⟩
      · rintro ⟨i, h1, h2⟩
        by_cases e : i = m
        · subst e; exact .inr h2.2.2
        · exact .inl ⟨i, by omega, h2⟩
    · have hif : ¬ (p.plain m && p.cnt m == j + 1) = true := by simpa using hc
      rw [if_neg hif]
      simp only [List.map_nil, outsL, List.not_mem_nil, or_false]
      constructor
      · rintro ⟨i, h1, h2⟩; exact ⟨i, by omega, h2⟩
      · rintro ⟨i, h1, h2⟩
        by_cases e : i = m
        · subst e; exact absurd ⟨plain_iff.mpr h2.1.2, h2.2.1⟩ hc
        · exact ⟨i, by omega, h2⟩
/-- where block j leads, and with what -/
theorem outs_all (h : Both text false p q) (U : Nat → List Nat) (j : Nat) (x : Nat × List Nat) : x ∈ outsL q (q.blocks.getD j []) (U j) ↔
    ∃ i k, p.body i ∧ p.cnt i = j + 1 ∧ (behind (word (p.line i) 0) p.raw).1.getD k 0 = 78 ∧ x = (tgt p i k, outB p i k (passQ q (p.qline i) (alongB p q U i))) := by
  rw [h.block j, outs_block h U j x _ (Nat.le_refl _)]
  constructor
  · rintro ⟨i, h1, h2, h3, h4⟩
    obtain ⟨k, h5⟩ := (outs_link h h2 _ x).mp h4
    exact ⟨i, k, h2, h3, h5⟩
  · rintro ⟨i, k, h2, h3, h5⟩
    exact ⟨i, h2.1, h2, h3, (outs_link h h2 _ x).mpr ⟨k, h5⟩⟩
/-! the first wrong one -/
theorem firstSome_last (f : Nat → Option Nat) : ∀ m k, firstSome f (m + 1) k = (firstSome f m k).or (f (k + m))
  | 0, k => by simp [firstSome]
  | m + 1, k => by
    rw [firstSome, firstSome_last f m (k + 1), firstSome, Option.or_assoc, show k + 1 + m = k + (m + 1) by omega]
theorem firstSome_none (f : Nat → Option Nat) : ∀ m, firstSome f m 0 = none ↔ ∀ i, i < m → f i = none
  | 0 => by simp [firstSome]
  | m + 1 => by
    rw [firstSome_last, Option.or_eq_none_iff, firstSome_none f m, Nat.zero_add]
    constructor
    · rintro ⟨h1, h2⟩ i hi
      by_cases e : i = m
      · rw [e]; exact h2
      · exact h1 i (by omega)
    · intro h; exact ⟨fun i hi => h i (by omega), h m (by omega)⟩
theorem firstSome_some (f : Nat → Option Nat) (r : Nat) : ∀ m, firstSome f m 0 = some r ↔ ∃ i, i < m ∧ f i = some r ∧ ∀ j, j < i → f j = none
  | 0 => by simp [firstSome]
  | m + 1 => by
    rw [firstSome_last, Option.or_eq_some_iff, firstSome_some f r m, firstSome_none, Nat.zero_add]
    constructor
    · rintro (⟨i, h1, h2⟩ | ⟨h1, h2⟩)
      · exact ⟨i, by omega, h2⟩
      · exact ⟨m, by omega, h2, h1⟩
    · rintro ⟨i, h1, h2, h3⟩
      by_cases e : i = m
      · subst e; exact .inr ⟨h3, h2⟩
      · exact .inl ⟨i, by omega, h2, h3⟩
def pick (P : Nat → Bool) (i : Nat) : Option Nat := if P i = true then some i else none
theorem pick_none {P : Nat → Bool} {i : Nat} : pick P i = none ↔ P i = false := by
  unfold pick; cases P i <;> simp
theorem pick_some {P : Nat → Bool} {i r : Nat} : pick P i = some r ↔ P i = true ∧ i = r := by
  unfold pick; cases P i <;> simp
def wrongB (p : RP) (q : QP) (U : Nat → List Nat) (j i : Nat) : Bool := (p.plain i && p.cnt i == j + 1) && faultyQ q (p.qline i) (alongB p q U i)
theorem fault_block (h : Both text false p q) (U : Nat → List Nat) (j : Nat) : ∀ m, m ≤ p.lines.length → faultL q ((idxP p j m).map p.qline) (U j) = firstSome (pick (wrongB p q U j)) m 0
  | 0, _ => rfl
  | m + 1, hm => by
    rw [firstSome_last, ← fault_block h U j m (by omega), idx_succ, List.map_append, faultL_app, Nat.zero_add]
    congr 1
    unfold pick wrongB
    by_cases hc : p.plain m = true ∧ p.cnt m = j + 1
    · have hb : p.body m := ⟨by omega, plain_iff.mp hc.1⟩
      have hif : (p.plain m && p.cnt m == j + 1) = true := by simp [hc.1, hc.2]
      rw [if_pos hif, hif, Bool.true_and, end_along h U (fun _ _ _ _ => rfl) j m hb hc.2]
      simp only [List.map_cons, List.map_nil, faultL, qline_num]
    · have hif : (p.plain m && p.cnt m == j + 1) = false := by
        cases hx : (p.plain m && p.cnt m == j + 1)
        · rfl
        · exfalso; apply hc; simpa using hx
      rw [hif, Bool.false_and, if_neg (by decide), if_neg (by decide)]; rfl
/-- which line of a body is wrong -/
def wrongP (p : RP) (q : QP) (E : List (List Nat)) (i : Nat) : Bool := !(E.getD (p.blk i) [] == zeroSt) && faultyQ q (p.qline i) (alongB p q (fun b => E.getD b []) i)
theorem fault_all (h : Both text false p q) (E : List (List Nat)) : firstSome (faultB q E) q.blocks.length 0 = firstSome (pick fun i => p.plain i && wrongP p q E i) p.lines.length 0 := by
  have hF : ∀ b, faultB q E b = if E.getD b [] = zeroSt then none else firstSome (pick (wrongB p q (fun b => E.getD b []) b)) p.lines.length 0 := fun b => by
    unfold faultB
    split
    · rfl
    · rw [h.block b]
      exact fault_block h (fun b => E.getD b []) b _ (Nat.le_refl _)
  have one : ∀ i, i < p.lines.length → (p.plain i && wrongP p q E i) = true → p.blk i < q.blocks.length ∧ ¬ E.getD (p.blk i) [] = zeroSt ∧ wrongB p q (fun b => E.getD b []) (p.blk i) i = true := fun i hi hw => by
    simp only [wrongP, Bool.and_eq_true, Bool.not_eq_true', beq_eq_false_iff_ne] at hw
    have hb : p.body i := ⟨hi, plain_iff.mp hw.1⟩
    obtain ⟨h1, h2⟩ := blk_lt h hb
    refine ⟨h2, hw.2.1, ?_⟩
    unfold wrongB
    rw [hw.1, h1, hw.2.2]; simp
  have two : ∀ b i, i < p.lines.length → wrongB p q (fun b => E.getD b []) b i = true → ¬ E.getD b [] = zeroSt → (p.plain i && wrongP p q E i) = true ∧ p.blk i = b := fun b i hi hw hz => by
    simp only [wrongB, Bool.and_eq_true, beq_iff_eq] at hw
    have hbk : p.blk i = b := by unfold RP.blk; omega
    refine ⟨?_, hbk⟩
    simp only [wrongP, hbk, hw.1.1, hw.2, Bool.true_and, Bool.and_true, Bool.not_eq_true', beq_eq_false_iff_ne]
    exact hz
  cases hr : firstSome (faultB q E) q.blocks.length 0 with
  | none =>
    rw [firstSome_none] at hr
    symm
    rw [firstSome_none]
    intro i hi
    rw [pick_none]
    cases hw : (p.plain i && wrongP p q E i)
    · rfl
    · exfalso
      obtain ⟨h1, h2, h3⟩ := one i hi hw
      have := hr _ h1
      rw [hF, if_neg h2, firstSome_none] at this
      have := pick_none.mp (this i hi)
      rw [h3] at this; cases this
  | some r =>
    rw [firstSome_some] at hr
    obtain ⟨b, hb, hbr, hlow⟩ := hr
    rw [hF] at hbr
    split at hbr
    · cases hbr
    · rename_i hz
      rw [firstSome_some] at hbr
      obtain ⟨i, hi, hir, hil⟩ := hbr
      obtain ⟨hw, rfl⟩ := pick_some.mp hir
      obtain ⟨hP, hbk⟩ := two b i hi hw hz
      symm
      rw [firstSome_some]
      refine ⟨i, hi, pick_some.mpr ⟨hP, rfl⟩, fun c hc => ?_⟩
      rw [pick_none]
      cases hwc : (p.plain c && wrongP p q E c)
      · rfl
      · exfalso
        obtain ⟨h1, h2, h3⟩ := one c (by omega) hwc
        have hle : p.blk c ≤ b := by
          have := cnt_le p (Nat.le_of_lt hc)
          rw [← hbk]; unfold RP.blk; omega
        by_cases e : p.blk c = b
        · rw [e] at h3
          have := pick_none.mp (hil c hc)
          rw [h3] at this; cases this
        · have := hlow (p.blk c) (by omega)
          rw [hF, if_neg h2, firstSome_none] at this
          have := pick_none.mp (this c (by omega))
          rw [h3] at this; cases this
def asInt : Option Nat → Int
  | none => -1
  | some i => i
theorem firstWrong_eq (p : RP) (wrong : Nat → Bool) : ∀ m i, p.firstWrong wrong m i = asInt (firstSome (pick fun i => p.plain i && wrong i) m i)
  | 0, _ => rfl
  | m + 1, i => by
    rw [RP.firstWrong, firstSome, firstWrong_eq p wrong m (i + 1)]
    by_cases hc : (!isLet (p.line i) && !isBlock (p.line i) && wrong i) = true
    · have e : pick (fun i => p.plain i && wrong i) i = some i := if_pos hc
      rw [if_pos hc, e]; rfl
    · have e : pick (fun i => p.plain i && wrong i) i = none := if_neg hc
      rw [if_neg hc, e]; rfl
end
end Go.Proofs.YtmlgajhhnojdjaaGreatDoor.FlwX
/- Plain facts: the ways that were gone to the end, as the document's own ways of the blocks: closed, and the least; so both find the same line first. -/
namespace Go.Proofs.YtmlgajhhnojdjaaGreatDoor.FlwY
open Go Go.Proofs.YtmlgajhhnojdjaaGreatDoor.Spec Go.Proofs.YtmlgajhhnojdjaaGreatDoor.Aux Go.Proofs.YtmlgajhhnojdjaaGreatDoor.PrjS Go.Proofs.YtmlgajhhnojdjaaGreatDoor.FlwA Go.Proofs.YtmlgajhhnojdjaaGreatDoor.FlwB Go.Proofs.YtmlgajhhnojdjaaGreatDoor.FlwC Go.Proofs.YtmlgajhhnojdjaaGreatDoor.FlwD Go.Proofs.YtmlgajhhnojdjaaGreatDoor.FlwE Go.Proofs.YtmlgajhhnojdjaaGreatDoor.FlwF Go.Proofs.YtmlgajhhnojdjaaGreatDoor.FlwG Go.Proofs.YtmlgajhhnojdjaaGreatDoor.FlwH Go.Proofs.YtmlgajhhnojdjaaGreatDoor.FlwI Go.Proofs.YtmlgajhhnojdjaaGreatDoor.FlwJ Go.Proofs.YtmlgajhhnojdjaaGreatDoor.FlwK Go.Proofs.YtmlgajhhnojdjaaGreatDoor.FlwM Go.Proofs.YtmlgajhhnojdjaaGreatDoor.FlwO Go.Proofs.YtmlgajhhnojdjaaGreatDoor.FlwP Go.Proofs.YtmlgajhhnojdjaaGreatDoor.FlwQ Go.Proofs.YtmlgajhhnojdjaaGreatDoor.FlwS Go.Proofs.YtmlgajhhnojdjaaGreatDoor.FlwT Go.Proofs.YtmlgajhhnojdjaaGreatDoor.FlwU Go.Proofs.YtmlgajhhnojdjaaGreatDoor.FlwV Go.Proofs.YtmlgajhhnojdjaaGreatDoor.FlwW Go.Proofs.YtmlgajhhnojdjaaGreatDoor.FlwX

/-! every spot of a state that is come to has something -/
def Full (s : List Nat) : Prop := ∀ k, k < 24 → ¬ s.getD k 0 = 0
theorem full_set {s : List Nat} (h : Full s) (i : Nat) {v : Nat} (hv : ¬ v = 0) : Full (s.set i v) := fun k hk => by
  rw [getD_set1]
  split
  · exact hv
  · exact h k hk
theorem full_put {v : Nat} (hv : ¬ v = 0) : ∀ (ps : List (Nat × Nat)) {s : List Nat}, Full s → Full (putL v ps s)
  | [], _, h => h
  | x :: ps, _, h => full_put hv ps (full_set h (slotQ x) hv)
theorem full_take : ∀ (ps : List (Nat × Nat)) {s : List Nat}, Full s → Full (takeL ps s)
  | [], _, h => h
  | x :: ps, s, h => full_take ps (s := s.set (slotQ x) (if x.2 = 3 then 8 else 1)) (full_set h (slotQ x) (by split <;> decide))
theorem full_takeQ (q : QP) (l : QLine) {s : List Nat} (h : Full s) : Full (takeQ q l s) := by
  unfold takeQ; split
  · exact full_take _ h
  · split
    · exact full_take _ h
    · exact h
def PlOk (l : QLine) : Prop := ∀ x ∈ l.places, x.1 < 12
theorem full_pass (q : QP) {l : QLine} (hl : PlOk l) {s : List Nat} (h : Full s) : Full (passQ q l s) := by
  have h1 := full_takeQ q l h
  unfold passQ
  split
  · exact full_put (by decide) _ h1
  · split
    · refine full_put ?_ _ h1
      unfold movedL
      split
      · apply h
        have : (l.places.getD 1 (0, 0)).1 < 12 := by
          by_cases hp : 1 < l.places.length
          · exact hl _ (getD_mem hp)
          · rw [List.getD_eq_getElem?_getD, List.getElem?_eq_none (by omega)]; decide
        unfold slotQ; split <;> omega
      · decide
    · split
      · exact full_put (by decide) _ h1
      · split
        · exact full_take _ h1
        · exact h1
theorem full_step (l : QLine) (i : Nat) {s : List Nat} (h : Full s) : Full (stepS l i s) := by
  unfold stepS; split
  · exact full_put (by split <;> decide) _ h
  · exact h
theorem full_stN (l : QLine) : ∀ (ns : List Nat) (i : Nat) {s : List Nat}, Full s → Full (stN l ns i s)
  | [], _, _, h => h
  | _ :: ns, i, _, h => full_stN l ns (i + 1) (full_step l i h)
theorem full_outsN (l : QLine) : ∀ (ns : List Nat) (i : Nat) {s : List Nat}, Full s → ∀ x ∈ outsN l ns i s, Full x.2
  | [], _, _, _, x, hx => by cases hx
  | n :: ns, i, s, h, x, hx => by
    rcases List.mem_cons.mp hx with rfl | hx
    · exact full_step l i h
    · exact full_outsN l ns (i + 1) (full_step l i h) x hx
theorem full_outsL (q : QP) : ∀ (ls : List QLine) {s : List Nat}, (∀ l ∈ ls, PlOk l) → Full s → ∀ x ∈ outsL q ls s, Full x.2
  | [], _, _, _, x, hx => by cases hx
  | l :: ls, s, hl, h, x, hx => by
    have hp := full_pass q (hl l (List.mem_cons_self ..)) h
    rcases List.mem_append.mp hx with hx | hx
    · exact full_outsN l l.next 0 hp x hx
    · exact full_outsL q ls (fun m hm => hl m (List.mem_cons_of_mem _ hm)) (full_stN l _ _ hp) x hx
def FullE (N : Nat) (E : List (List Nat)) : Prop := ∀ b, b < N → E.getD b [] = zeroSt ∨ Full (E.getD b [])
theorem full_join {s t : List Nat} (hs : SOk s) (ht : Full t) : Full (joinS s t) := fun k hk => by
  rw [joinS_getD hs.len, if_pos hk]
  intro e
  exact ht k hk (Nat.or_eq_zero_iff.mp e).2
theorem full_leads (N : Nat) : ∀ (M : List (Nat × List Nat)) (E : List (List Nat)) (O : Nat → Bool), EOk E → E.length = N → (∀ x ∈ M, x.1 < N ∧ SOk x.2) → (∀ x ∈ M, Full x.2) → FullE N E → FullE N (leads M (E, O)).1
  | [], _, _, _, _, _, _, h => h
  | x :: M, E, O, hE, hl, hM, hF, h => by
    obtain ⟨hx1, hx2⟩ := hM x (List.mem_cons_self ..)
    have hxE : x.1 < E.length := by omega
    have e : leads (x :: M) (E, O) = leads M (leadE E x.1 x.2, leadO E O x.1 x.2) := rfl
    rw [e]
    refine full_leads N M _ _ (leadE_ok hE hxE hx2) (by rw [leadE_len]; exact hl) (fun y hy => hM y (List.mem_cons_of_mem _ hy)) (fun y hy => hF y (List.mem_cons_of_mem _ hy)) fun b hb => ?_
    rw [leadE_at E x.1 x.2 hxE]
    split
    · exact .inr (full_join (hE.at hxE) (hF x (List.mem_cons_self ..)))
    · exact h b hb
theorem full_startSt : Full startSt := fun k hk => by
  unfold startSt; rw [List.getD_eq_getElem?_getD, List.getElem?_replicate, if_pos hk]; decide
theorem zeroSt_at {k : Nat} : zeroSt.getD k 0 = 0 := by
  unfold zeroSt; rw [List.getD_eq_getElem?_getD, List.getElem?_replicate]; split <;> rfl
theorem full_ne {s : List Nat} (h : Full s) : ¬ s = zeroSt := fun e => h 0 (by decide) (by rw [e]; exact zeroSt_at)
/-- what holds from step to step, whole -/
structure InvF (q : QP) (E : List (List Nat)) (O : Nat → Bool) : Prop where
  inv : Inv q E O
  full : FullE q.blocks.length E
theorem invF_start (q : QP) (h0 : 0 < q.blocks.length) : InvF q (leadE (List.replicate q.blocks.length zeroSt) 0 startSt) (leadO (List.replicate q.blocks.length zeroSt) (fun _ => false) 0 startSt) := by
  refine ⟨inv_start q h0, ?_⟩
  have hok : EOk (List.replicate q.blocks.length zeroSt) := fun s hs => by rw [List.eq_of_mem_replicate hs]; exact ⟨by decide, zeroSt_lt⟩
  exact full_leads q.blocks.length [(0, startSt)] _ (fun _ => false) hok (by simp) (fun x hx => by rw [List.mem_singleton.mp hx]; exact ⟨h0, startSt_ok⟩) (fun x hx => by rw [List.mem_singleton.mp hx]; exact full_startSt)
    fun b hb => .inl (by simp [List.getD_eq_getElem?_getD, hb])
theorem invF_step (q : QP) (hq : QOk q.blocks.length q) (hls : q.locals.length ≤ 12) (E : List (List Nat)) (O : Nat → Bool) (b : Nat) (hb : b < q.blocks.length) (hO : O b = true) (h : InvF q E O) :
    InvF q (goBlk q E (setO O b false) b).2.1 (goBlk q E (setO O b false) b).2.2 := by
  have hnx := fun b (hb : b < q.blocks.length) => blk_next hq hb
  refine ⟨inv_step q hnx E O b hb hO h.inv, ?_⟩
  have hs := h.inv.ok.at (i := b) (by rw [h.inv.len]; exact hb)
  have e : (goBlk q E (setO O b false) b).2 = leads (outsL q (q.blocks.getD b []) (E.getD b [])) (E, setO O b false) := goLines_eq q _ _
  have hf : Full (E.getD b []) := by
    rcases h.full b hb with h1 | h1
    · exact absurd h1 (h.inv.live b hb hO)
    · exact h1
  have hpl : ∀ l ∈ q.blocks.getD b [], PlOk l := fun l hl x hx => by
    have hm : q.blocks.getD b [] ∈ q.blocks := by rw [List.getD_eq_getElem?_getD, List.getElem?_eq_getElem hb]; exact List.getElem_mem hb
    have := ((hq.lines _ hm l hl).places x hx).1
    omega
  have := full_leads q.blocks.length (outsL q (q.blocks.getD b []) (E.getD b [])) E (setO O b false) h.inv.ok h.inv.len (outsL_ok q q.blocks.length _ (hnx b hb) hs) (full_outsL q _ hpl hf) h.full
  rw [← e] at this
  exact this
/-! bits and letters -/
theorem bit_mem (x : B) : (45 ∈ x ↔ (bitsOf x).testBit 0 = true) ∧ (119 ∈ x ↔ (bitsOf x).testBit 1 = true) ∧ (110 ∈ x ↔ (bitsOf x).testBit 2 = true) ∧ (104 ∈ x ↔ (bitsOf x).testBit 3 = true) := by
  unfold bitsOf
  by_cases h1 : (45 : UInt8) ∈ x <;> by_cases h2 : (119 : UInt8) ∈ x <;> by_cases h3 : (110 : UInt8) ∈ x <;> by_cases h4 : (104 : UInt8) ∈ x <;> simp only [h1, h2, h3, h4, if_true, if_false] <;> decide
theorem le1_bit {a b : Nat} (h : le1 a b) (i : Nat) (ha : a.testBit i = true) : b.testBit i = true := by
  have : (b ||| a).testBit i = true := by rw [Nat.testBit_or, ha, Bool.or_true]
  unfold le1 at h; rwa [h] at this
theorem mem_of_le {x y : B} (hx : Few x) (h : le1 (bitsOf x) (bitsOf y)) {c : UInt8} (hc : c ∈ x) : c ∈ y := by
  have := hx.among c hc
  simp only [letters, List.mem_cons, List.not_mem_nil, or_false] at this
  rcases this with rfl | rfl | rfl | rfl
  · exact (bit_mem y).1.mpr (le1_bit h 0 ((bit_mem x).1.mp hc))
  · exact (bit_mem y).2.2.1.mpr (le1_bit h 2 ((bit_mem x).2.2.1.mp hc))
  · exact (bit_mem y).2.1.mpr (le1_bit h 1 ((bit_mem x).2.1.mp hc))
  · exact (bit_mem y).2.2.2.mpr (le1_bit h 3 ((bit_mem x).2.2.2.mp hc))
theorem le_of_sub {x y : B} (h : ∀ c, c ∈ x → c ∈ y) : le1 (bitsOf x) (bitsOf y) := by
  have := bits_or (a := y) (b := x) (c := y) fun c => ⟨.inl, fun e => e.elim id (h c)⟩
  exact this.symm
theorem sub_of_le {u v : List Nat} {s t : WS} (hs : s.Few) (hu : RelL u s) (hv : RelL v t) (h : leS u v) : Sub s t := fun k c hc => by
  by_cases hk : k < 24
  · have := h k hk
    have e1 : u.getD k 0 = bitsOf (s.at k) := hu k hk
    have e2 : v.getD k 0 = bitsOf (t.at k) := hv k hk
    rw [e1, e2] at this
    exact mem_of_le (hs.few k) this hc
  · exfalso
    unfold WS.at at hc
    rw [List.getD_eq_getElem?_getD, List.getElem?_eq_none (by rw [hs.len]; omega)] at hc
    cases hc
theorem le_of_subS {u v : List Nat} {s t : WS} (hu : RelL u s) (hv : RelL v t) (h : Sub s t) : leS u v := fun k hk => by
  have e1 : u.getD k 0 = bitsOf (s.at k) := hu k hk
  have e2 : v.getD k 0 = bitsOf (t.at k) := hv k hk
  rw [e1, e2]; exact le_of_sub (h k)
section
variable {text : B} {p : RP} {q : QP}
theorem outB_rel (h : Both text false p q) {i : Nat} (hb : p.body i) {k : Nat} (hk : (behind (word (p.line i) 0) p.raw).1.getD k 0 = 78) {s : List Nat} {t : WS} (hs : s.length = 24) (ht : t.spots.length = 24) (hr : RelL s t) : RelL (outB p i k s) (p.outOf (p.line i) t k) := by
  unfold outB
  by_cases hm : word (p.line i) 0 = wMatch
  · rw [if_pos hm]
    obtain ⟨h1, h2⟩ := h.ok.out_match hb hm ht hr
    have hf : (behind (word (p.line i) 0) p.raw).1 = [111, 78, 78] := by rw [hm]; rfl
    rw [hf, getD_three (by decide)] at hk
    have hw := (both_ln h hb).w 0
    rw [hw]
    rcases hk with rfl | rfl
    · rw [if_pos rfl]; exact rel_of (ag_put 4 [_] (Ag.self hs)) h1
    · rw [if_neg (by decide)]; exact rel_of (ag_put 2 [_] (Ag.self hs)) h2
  · rw [if_neg hm, out_other hm]; exact hr
/-- the ways of the blocks, as letters -/
def wsOf (N : Nat) (E : List (List Nat)) (b : Nat) : WS := if b < N then ⟨!(E.getD b [] == zeroSt), (E.getD b []).map lettersOf⟩ else zeroWS
theorem wsOf_at {N : Nat} {E : List (List Nat)} {b : Nat} (hb : b < N) : wsOf N E b = ⟨!(E.getD b [] == zeroSt), (E.getD b []).map lettersOf⟩ := by rw [wsOf, if_pos hb]
theorem letters_at {s : List Nat} (hs : SOk s) (v : Bool) {k : Nat} (hk : k < 24) : (⟨v, s.map lettersOf⟩ : WS).at k = lettersOf (s.getD k 0) := by
  unfold WS.at
  rw [List.getD_eq_getElem?_getD, List.getElem?_map, List.getD_eq_getElem?_getD, List.getElem?_eq_getElem (by rw [hs.len]; exact hk)]; rfl
theorem letters_rel {s : List Nat} (hs : SOk s) (v : Bool) : RelL s ⟨v, s.map lettersOf⟩ := fun k hk => by
  rw [letters_at hs v hk, bits_letters _ (hs.lt k)]
theorem letters_few {s : List Nat} (hs : SOk s) (v : Bool) : (⟨v, s.map lettersOf⟩ : WS).Few := by
  refine ⟨by simpa using hs.len, fun k => ?_⟩
  by_cases hk : k < 24
  · rw [letters_at hs v hk]; exact few_letters _ (hs.lt k)
  · unfold WS.at
    rw [List.getD_eq_getElem?_getD, List.getElem?_eq_none (by simp [hs.len]; omega)]
    exact few_nil
theorem along_few {E : Nat → WS} (hE : ∀ b, (E b).Few) : ∀ i, (p.along E i).Few
  | 0 => zeroWS_few
  | i + 1 => by
    rw [RP.along]; split
    · exact hE _
    · exact p.step_few (along_few hE i) _
theorem rel_startL : RelL startSt startWS := fun k hk => by
  have h1 : startSt.getD k 0 = 1 := by unfold startSt; rw [List.getD_eq_getElem?_getD, List.getElem?_replicate, if_pos hk]; rfl
  show startSt.getD k 0 = _
  rw [h1]
  exact rel_start k hk
structure Done (text : B) (p : RP) (q : QP) (E : List (List Nat)) : Prop where
  both : Both text false p q
  inv : InvF q E (fun _ => false)
  pos : 0 < q.blocks.length
theorem Done.ok {E : List (List Nat)} (h : Done text p q E) {b : Nat} (hb : b < q.blocks.length) : SOk (E.getD b []) := h.inv.inv.ok.at (by rw [h.inv.inv.len]; exact hb)
theorem Done.few {E : List (List Nat)} (h : Done text p q E) (b : Nat) : (wsOf q.blocks.length E b).Few := by
  unfold wsOf; split
  · rename_i hb; exact letters_few (h.ok hb) _
  · exact zeroWS_few
theorem Done.rel {E : List (List Nat)} (h : Done text p q E) {b : Nat} (hb : b < q.blocks.length) : RelL (E.getD b []) (wsOf q.blocks.length E b) := by
  rw [wsOf_at hb]; exact letters_rel (h.ok hb) _
theorem Done.known {E : List (List Nat)} {b : Nat} (hb : b < q.blocks.length) : (wsOf q.blocks.length E b).known = true ↔ ¬ E.getD b [] = zeroSt := by
  rw [wsOf_at hb]; simp
theorem Done.along {E : List (List Nat)} (h : Done text p q E) {i : Nat} (hb : p.body i) : RelL (alongB p q (fun b => E.getD b []) i) (p.along (wsOf q.blocks.length E) i) ∧ SOk (alongB p q (fun b => E.getD b []) i) := by
  have hl := (blk_lt h.both hb).2
  exact ⟨along_rel h.both (U := fun b => E.getD b []) (EW := wsOf q.blocks.length E) (fun b => (h.few b).len) i hb (h.ok hl) (h.rel hl), along_ok h.both (U := fun b => E.getD b []) i hb (h.ok hl)⟩
theorem pass_rel (h : Both text false p q) {i : Nat} (hb : p.body i) {s : List Nat} {t : WS} (hs : SOk s) (ht : t.spots.length = 24) (hr : RelL s t) : RelL (passQ q (p.qline i) s) (p.step (p.line i) t).1 :=
  rel_of (ag_pass (both_ty h) (both_ln h hb) hs.len) (h.ok.pass_ok hb ht hr)
theorem Done.closed {E : List (List Nat)} (h : Done text p q E) : BClosed p (wsOf q.blocks.length E) := by
  have H := h.both
  refine ⟨fun b => (h.few b).len, ?_, fun i hb hkn k hk => ?_⟩
  · constructor
    · rw [Done.known h.pos]
      exact nonzero_of_le startSt_ok h.inv.inv.start startSt_ne
    · exact sub_of_le startWS_few rel_startL (h.rel h.pos) h.inv.inv.start
  · obtain ⟨hc, hl⟩ := blk_lt H hb
    rw [Done.known hl] at hkn
    obtain ⟨hr, hs⟩ := h.along hb
    have hm := (outs_all H (fun b => E.getD b []) (p.blk i) (tgt p i k, outB p i k (passQ q (p.qline i) (alongB p q (fun b => E.getD b []) i)))).mpr ⟨i, k, hb, hc, hk, rfl⟩
    have hle := h.inv.inv.step (p.blk i) hl rfl hkn _ hm
    have hok := outsL_ok q q.blocks.length _ (blk_next H.qok hl) (h.ok hl) _ hm
    have hfull : Full (E.getD (p.blk i) []) := by
      rcases h.inv.full _ hl with e | e
      · exact absurd e hkn
      · exact e
    have hpl : ∀ l ∈ q.blocks.getD (p.blk i) [], PlOk l := fun l hx x hx' => by
      have hmm : q.blocks.getD (p.blk i) [] ∈ q.blocks := by rw [List.getD_eq_getElem?_getD, List.getElem?_eq_getElem hl]; exact List.getElem_mem hl
      have := ((H.qok.lines _ hmm l hx).places x hx').1
      have := H.twelve
      omega
    have hF := full_outsL q _ hpl hfull _ hm
    have ht24 : (p.along (wsOf q.blocks.length E) i).spots.length = 24 := along_len (fun b => (h.few b).len) i
    have hst := pass_rel H hb hs ht24 hr
    have hst24 := p.step_len ht24 (p.line i)
    have hout := outB_rel H hb hk (passQ_ok q (p.qline i) hs).len hst24 hst
    constructor
    · exact (Done.known hok.1).mpr (nonzero_of_le hok.2 hle (full_ne hF))
    · exact sub_of_le (p.out_few (p.step_few (along_few (h.few) i) (p.line i)) (p.line i) k) hout (h.rel hok.1) hle
/-- the document's ways, as bits -/
def bitsU (E' : Nat → WS) (b : Nat) : List Nat := if (E' b).known = true then (E' b).spots.map bitsOf else zeroSt
theorem bitsU_ok {E' : Nat → WS} (hl : ∀ b, (E' b).spots.length = 24) (b : Nat) : SOk (bitsU E' b) := by
  unfold bitsU; split
  · refine ⟨by simpa using hl b, fun k => ?_⟩
    rw [List.getD_eq_getElem?_getD, List.getElem?_map]
    cases (E' b).spots[k]? with
    | none => decide
    | some x => exact bits_lt x
  · exact ⟨by decide, zeroSt_lt⟩
theorem bitsU_rel {E' : Nat → WS} (hl : ∀ b, (E' b).spots.length = 24) {b : Nat} (hk : (E' b).known = true) : RelL (bitsU E' b) (E' b) := fun k hk2 => by
  show (bitsU E' b).getD k 0 = _
  unfold bitsU
  rw [if_pos hk]
  unfold WS.at
  rw [List.getD_eq_getElem?_getD, List.getElem?_map, List.getD_eq_getElem?_getD, List.getElem?_eq_getElem (by rw [hl b]; exact hk2)]; rfl
theorem closed_bits (H : Both text false p q) {E' : Nat → WS} (hE : BClosed p E') : QClosed q (bitsU E') := by
  refine ⟨fun b _ => bitsU_ok hE.len b, le_of_subS rel_startL (bitsU_rel hE.len hE.start.1) hE.start.2, fun b hb hne x hx => ?_⟩
  have hkn : (E' b).known = true := by
    cases hk : (E' b).known
    · exact absurd (by unfold bitsU; rw [hk]; rfl) hne
    · rfl
  obtain ⟨i, k, hbd, hc, hk, rfl⟩ := (outs_all H (bitsU E') b x).mp hx
  have hbk : p.blk i = b := by unfold RP.blk; omega
  have hkn' : (E' (p.blk i)).known = true := by rw [hbk]; exact hkn
  have hr := along_rel H (U := bitsU E') (EW := E') hE.len i hbd (bitsU_ok hE.len _) (bitsU_rel hE.len hkn')
  have hs := along_ok H (U := bitsU E') i hbd (bitsU_ok hE.len _)
  have ht24 : (p.along E' i).spots.length = 24 := along_len hE.len i
  have hst := pass_rel H hbd hs ht24 hr
  have hout := outB_rel H hbd hk (passQ_ok q (p.qline i) hs).len (p.step_len ht24 (p.line i)) hst
  obtain ⟨h1, h2⟩ := hE.step i hbd hkn' k hk
  exact le_of_subS hout (bitsU_rel hE.len h1) h2
theorem Done.least {E : List (List Nat)} (h : Done text p q E) : BLeast p (wsOf q.blocks.length E) := fun E' hE b hb hk => by
  rw [← h.both.len] at hb
  rw [Done.known hb] at hk
  have hle := h.inv.inv.least _ (closed_bits h.both hE) b hb
  have hkn : (E' b).known = true := by
    cases hkn : (E' b).known
    · exfalso
      refine nonzero_of_le (h.ok hb) hle hk ?_
      unfold bitsU; rw [hkn]; rfl
    · rfl
  exact ⟨hkn, sub_of_le (h.few b) (h.rel hb) (bitsU_rel hE.len hkn) hle⟩
/-- both find the same line first -/
theorem Done.same {E : List (List Nat)} (h : Done text p q E) {L : List WS} (hL : p.Settled L) : p.faultGo L p.lines.length 0 = FlwX.asInt (firstSome (faultB q E) q.blocks.length 0) := by
  rw [h.both.ok.fault_same hL h.closed h.least (wrong := wrongP p q E) (fun i hb => ?_), firstWrong_eq, fault_all h.both]
  obtain ⟨hc, hl⟩ := blk_lt h.both hb
  obtain ⟨hr, hs⟩ := h.along hb
  unfold wrongP
  rw [eq_faulty (both_ty h.both) (both_ln h.both hb), h.both.ok.fault_ok hb (along_few h.few i) hr, wsOf_at hl]
end
end Go.Proofs.YtmlgajhhnojdjaaGreatDoor.FlwY
/- What the project's reader leaves, as plain functions say it: facts that its own parts ask of one another. -/
namespace Go.Proofs.YtmlgajhhnojdjaaGreatDoor.PrjV
open Go Go.RowKit Go.Proofs.YtmlgajhhnojdjaaGreatDoor.Spec Go.Proofs.YtmlgajhhnojdjaaGreatDoor.Aux Go.Proofs.YtmlgajhhnojdjaaGreatDoor.PrjF Go.Proofs.YtmlgajhhnojdjaaGreatDoor.PrjG Go.Proofs.YtmlgajhhnojdjaaGreatDoor.PrjH Go.Proofs.YtmlgajhhnojdjaaGreatDoor.PrjI Go.Proofs.YtmlgajhhnojdjaaGreatDoor.PrjJ Go.Proofs.YtmlgajhhnojdjaaGreatDoor.PrjK Go.Proofs.YtmlgajhhnojdjaaGreatDoor.PrjL Go.Proofs.YtmlgajhhnojdjaaGreatDoor.PrjM Go.Proofs.YtmlgajhhnojdjaaGreatDoor.PrjN Go.Proofs.YtmlgajhhnojdjaaGreatDoor.PrjO Go.Proofs.YtmlgajhhnojdjaaGreatDoor.PrjP Go.Proofs.YtmlgajhhnojdjaaGreatDoor.PrjQ Go.Proofs.YtmlgajhhnojdjaaGreatDoor.PrjR Go.Proofs.YtmlgajhhnojdjaaGreatDoor.PrjS Go.Proofs.YtmlgajhhnojdjaaGreatDoor.PrjT Go.Proofs.YtmlgajhhnojdjaaGreatDoor.PrjU

theorem sentP_words {ws : List B} {x : Nat × List B} (h : sentP ws = some x) : x.1 < 23 ∧ x.2.length = (wantsOf x.1).length ∧ x.2 = ws.drop 1 := by
  obtain ⟨h1, h2⟩ := sentP_sent h
  rw [sentP, h2] at h
  simp only at h
  split at h
  · rename_i hc
    refine ⟨opIdx_lt h2, ?_, by rw [h1]⟩
    rw [h1]
    simp only [List.length_drop]
    rw [h2]
    exact hc.1
  · cases h
theorem splitGo_len (raw : Bool) : ∀ (LS : List (List B)) (o : OrdP) (i : Nat) (S : List (Nat × List B)) (o' : OrdP), splitGo raw LS o i = (S, o', none) → S.length = LS.length ∧ ∀ j, j < LS.length → ∃ ws x, LS[j]? = some ws ∧ S[j]? = some x ∧ sentP ws = some x
  | [], o, i, S, o', h => by
    simp only [splitGo, Prod.mk.injEq] at h
    obtain ⟨rfl, -⟩ := h
    exact ⟨rfl, fun j hj => by simp at hj⟩
  | ws :: r, o, i, S, o', h => by
    rw [splitGo] at h
    cases hs : sentP ws with
    | none => rw [hs] at h; simp at h
    | some x =>
      rw [hs] at h
      simp only at h
      by_cases ha : (admitsP raw o x.1).2 = true
      · rw [if_pos ha] at h
        simp only [Prod.mk.injEq] at h
        obtain ⟨rfl, h2⟩ := h
        obtain ⟨i1, i2⟩ := splitGo_len raw r _ (i + 1) _ o' (Prod.ext rfl h2)
        refine ⟨by simp [i1], fun j hj => ?_⟩
        cases j with
        | zero => exact ⟨ws, x, rfl, rfl, hs⟩
        | succ j => simpa using i2 j (by simpa using hj)
      · rw [if_neg ha] at h; simp at h
theorem splitGo_order (raw : Bool) : ∀ (LS : List (List B)) (o : OrdP) (i : Nat) (S : List (Nat × List B)) (o' : OrdP), splitGo raw LS o i = (S, o', none) → ∀ j, j < S.length → 2 ≤ (S.getD j (0, [])).1 → o.sec = 1 ∨ 1 ≤ countB (S.take j)
  | [], o, i, S, o', h, j, hj, _ => by
    simp only [splitGo, Prod.mk.injEq] at h
    obtain ⟨rfl, -⟩ := h
    simp at hj
  | ws :: r, o, i, S, o', h, j, hj, h2 => by
    rw [splitGo] at h
    cases hs : sentP ws with
    | none => rw [hs] at h; simp at h
    | some x =>
      rw [hs] at h
      simp only at h
      by_cases ha : (admitsP raw o x.1).2 = true
      · rw [if_pos ha] at h
        simp only [Prod.mk.injEq] at h
        obtain ⟨rfl, hr⟩ := h
        have hop : ∀ (h2 : 2 ≤ x.1), o.sec = 1 := fun h2 => by
          rw [admitsP] at ha
          split at ha
          · simp at ha
          · rw [if_neg (by omega), if_neg (by omega)] at ha
            split at ha
            · simp at ha
            · rename_i h1; simpa using h1
        cases j with
        | zero => exact .inl (hop (by simpa using h2))
        | succ j =>
          have ih := splitGo_order raw r _ (i + 1) _ o' (Prod.ext rfl hr) j (by simpa using hj) (by simpa using h2)
          by_cases h1 : x.1 = 1
          · right
            unfold countB
            rw [List.take_succ_cons, List.filter_cons, if_pos (by simp [h1])]
            simp
          · rcases ih with ih | ih
            · left
              by_cases h0 : x.1 = 0
              · rw [admitsP] at ih
                split at ih
                · exact ih
                · exact ih
              · exact hop (by omega)
            · right
              unfold countB at ih ⊢
              rw [List.take_succ_cons, List.filter_cons]
              split
              · simp
              · exact ih
      · rw [if_neg ha] at h; simp at h
theorem sents_ok {raw : Bool} {L : List B} {S : List (Nat × List B)} {o : OrdP} (h : splitGo raw (L.map (split 32)) ⟨0, 0, 0⟩ 0 = (S, o, none)) (hL : L.length ≤ 4000) (hlen : ∀ j, (word L j).length ≤ 1048576) : SentsOk S ∧ S.length = L.length := by
  obtain ⟨h1, h2⟩ := splitGo_len raw _ _ _ _ _ h
  rw [List.length_map] at h1
  have key : ∀ j, j < S.length → ∃ ws, ws = split 32 (word L j) ∧ sentP ws = some (S.getD j (0, [])) := fun j hj => by
    obtain ⟨ws, x, e1, e2, e3⟩ := h2 j (by simp; omega)
    refine ⟨ws, ?_, by rw [List.getD_eq_getElem?_getD, e2]; exact e3⟩
    have hjl : j < L.length := by omega
    rw [List.getElem?_map, List.getElem?_eq_getElem hjl] at e1
    simp only [Option.map_some, Option.some.injEq] at e1
    rw [← e1]; simp [word, hjl]
  refine ⟨⟨by omega, fun j hj => ?_, fun j hj => ?_, fun j i => ?_, fun j hj h2 => ?_⟩, h1⟩
  · obtain ⟨ws, -, hs⟩ := key j hj; exact (sentP_words hs).1
  · obtain ⟨ws, -, hs⟩ := key j hj; exact (sentP_words hs).2.1
  · by_cases hj : j < S.length
    · obtain ⟨ws, e, hs⟩ := key j hj
      rw [(sentP_words hs).2.2, e]
      have : word ((split 32 (word L j)).drop 1) i = word (split 32 (word L j)) (i + 1) := by simp [word]
      rw [this]
      exact Nat.le_trans (word_split_le 32 _ _) (hlen j)
    · rw [List.getD_eq_getElem?_getD, List.getElem?_eq_none (by omega)]; simp [word]
  · have := splitGo_order raw _ _ _ _ _ h j hj h2
    rcases this with h | h
    · simp at h
    · exact h
theorem lookGo_size (nb : Nat) : ∀ (S : List (Nat × List B)) (i m : Nat) (q0 q : QP), lookGo nb S i q0 = (q, none) → (∀ b ∈ q0.blocks, b.length ≤ m) → q.locals.length ≤ q0.locals.length + S.length ∧ q.blocks.length ≤ q0.blocks.length + S.length ∧ ∀ b ∈ q.blocks, b.length ≤ m + S.length
  | [], i, m, q0, q, h, hm => by
    simp only [lookGo, Prod.mk.injEq, and_true] at h
    subst h; exact ⟨Nat.le_refl _, Nat.le_refl _, hm⟩
  | x :: r, i, m, q0, q, h, hm => by
    rw [lookGo] at h
    by_cases e0 : x.1 = 0
    · rw [if_pos e0] at h
      split at h
      · cases h
      · obtain ⟨i1, i2, i3⟩ := lookGo_size nb r (i + 1) m _ q h hm
        simp only [QP.addLocal, List.length_append, List.length_singleton] at i1 i2
        exact ⟨by simp; omega, by simp; omega, fun b hb => by have := i3 b hb; simp; omega⟩
    · rw [if_neg e0] at h
      by_cases e1 : x.1 = 1
      · rw [if_pos e1] at h
        obtain ⟨i1, i2, i3⟩ := lookGo_size nb r (i + 1) m _ q h (fun b hb => by
          simp only [QP.addBlock, List.mem_append, List.mem_singleton] at hb
          rcases hb with hb | rfl
          · exact hm b hb
          · simp)
        simp only [QP.addBlock, List.length_append, List.length_singleton] at i1 i2
        exact ⟨by simp; omega, by simp; omega, fun b hb => by have := i3 b hb; simp; omega⟩
      · rw [if_neg e1] at h
        cases hl : lineP q0.locals nb x with
        | none => rw [hl] at h; cases h
        | some l =>
          rw [hl] at h
          obtain ⟨i1, i2, i3⟩ := lookGo_size nb r (i + 1) (m + 1) _ q h (fun b hb => by
            simp only [QP.addLine, List.mem_append, List.mem_singleton] at hb
            rcases hb with hb | rfl
            · exact Nat.le_succ_of_le (hm b (List.dropLast_subset _ hb))
            · rw [List.length_append, List.length_singleton, List.getLastD_eq_getLast?]
              cases hq : q0.blocks.getLast? with
              | none => simp
              | some b' => have := hm b' (List.mem_of_getLast? hq); simp; omega)
          simp only [QP.addLine, List.length_append, List.length_singleton, List.length_dropLast] at i1 i2
          exact ⟨by simp; omega, by simp; omega, fun b hb => by have := i3 b hb; simp; omega⟩
/-- the lines of a text, as the library parts them -/
theorem lines_row (l : B) (w : World) (h : l.length ≤ 1048576) (E : Env w) :
    Calls Tryz.prog 116 #[.string (bs l), .string ⟨#[10]⟩] w fun e w' => e = .returned (.slice (some ⟨w.heap.size, 0, none⟩) (split 10 l).length (split 10 l).length) ∧ Below w.heap.size w w' ∧ w.heap.size < w'.heap.size ∧ ∀ j, j < (split 10 l).length → w'.cell? ⟨w.heap.size, j, none⟩ = some (.string (bs (word (split 10 l) j))) := by
  obtain ⟨m, hm⟩ := E.most
  have hc := countB_split 10 l.length l (Nat.le_refl _)
  refine (Tryz.strings_Split (bs l) ⟨#[10]⟩ m w (by rw [size_bs]; omega) hm (by decide)).mono ?_
  rintro e w' ⟨rfl, rfl⟩
  rw [hc]
  refine ⟨rfl, (Below.refl _ _).alloc (Nat.le_refl _) _, by simp, fun j hj => ?_⟩
  rw [((splitB_words 10 (Lib.countB (bs l) ⟨#[10]⟩) l).2.2 (by omega))]
  have : (w.alloc (.cells (((split 10 l).map bs).map Value.string).toArray 9)).heap[w.heap.size]? = some (.cells (((split 10 l).map bs).map Value.string).toArray 9 (0, 0)) := Array.getElem?_push_size
  rw [cell_of_heap this]
  simp [word, hj]
theorem count_lines (l : B) (w : World) : Calls Tryz.prog 114 #[.string (bs l), .string ⟨#[10]⟩] w fun e w' => e = .returned (.int .i64 (((split 10 l).length - 1 : Nat) : Int)) ∧ w' = w := by
  have := Tryz.strings_Count_one (bs l) 10 w
  have e : (Lib.countByte (bs l).data.toList 10 : Nat) = (split 10 l).length - 1 := by
    rw [split_count]; simp [Lib.countByte, bs]
  rw [e] at this
  exact this
end Go.Proofs.YtmlgajhhnojdjaaGreatDoor.PrjV
/- What the project's reader answers, whole: as the plain functions say. -/
namespace Go.Proofs.YtmlgajhhnojdjaaGreatDoor.PrjW
open Go Go.RowKit Go.Proofs.YtmlgajhhnojdjaaGreatDoor.Spec Go.Proofs.YtmlgajhhnojdjaaGreatDoor.Aux Go.Proofs.YtmlgajhhnojdjaaGreatDoor.PrjF Go.Proofs.YtmlgajhhnojdjaaGreatDoor.PrjG Go.Proofs.YtmlgajhhnojdjaaGreatDoor.PrjH Go.Proofs.YtmlgajhhnojdjaaGreatDoor.PrjI Go.Proofs.YtmlgajhhnojdjaaGreatDoor.PrjJ Go.Proofs.YtmlgajhhnojdjaaGreatDoor.PrjK Go.Proofs.YtmlgajhhnojdjaaGreatDoor.PrjL Go.Proofs.YtmlgajhhnojdjaaGreatDoor.PrjM Go.Proofs.YtmlgajhhnojdjaaGreatDoor.PrjN Go.Proofs.YtmlgajhhnojdjaaGreatDoor.PrjO Go.Proofs.YtmlgajhhnojdjaaGreatDoor.PrjP Go.Proofs.YtmlgajhhnojdjaaGreatDoor.PrjQ Go.Proofs.YtmlgajhhnojdjaaGreatDoor.PrjR Go.Proofs.YtmlgajhhnojdjaaGreatDoor.PrjS Go.Proofs.YtmlgajhhnojdjaaGreatDoor.PrjT Go.Proofs.YtmlgajhhnojdjaaGreatDoor.PrjU Go.Proofs.YtmlgajhhnojdjaaGreatDoor.PrjV

/-- what a program that was read has -/
structure Got (z a : Nat) (w : World) (q : QP) : Prop where
  at_ : ∃ vl vb us vss, PAt z a w q vl vb us vss
  ok : ∃ nb, nb ≤ 4000 ∧ QOk nb q
  locals : q.locals.length ≤ 4000
  blocks : q.blocks.length ≤ 4000
  lines : ∀ j, (q.blocks.getD j []).length ≤ 4000
def PReadPost (text : B) (raw : Bool) (w : World) (e : Ending) (w' : World) : Prop :=
  Below w.heap.size w w' ∧ ∃ v, e = .returned (.tuple #[v, .int .i64 ((prjRead text raw).2.1 : Nat), .int .i64 ((prjRead text raw).2.2 : Nat)]) ∧
    (((prjRead text raw).1 = none ∧ v = .pointer none) ∨ ∃ q a z, (prjRead text raw).1 = some q ∧ v = .pointer (some ⟨a, 0, none⟩) ∧ w.heap.size ≤ z ∧ Got z a w' q)
theorem PReadPost.bad {text : B} {raw : Bool} {w w' : World} {c k : Nat} (hb : Below w.heap.size w w') (h : prjRead text raw = (none, c, k)) : PReadPost text raw w (.returned (.tuple #[.pointer none, .int .i64 (c : Nat), .int .i64 (k : Nat)])) w' :=
  ⟨hb, .pointer none, by rw [h], .inl ⟨by rw [h], rfl⟩⟩
theorem PReadPost.good {text : B} {raw : Bool} {w w' : World} {q : QP} {a z : Nat} (hb : Below w.heap.size w w') (h : prjRead text raw = (some q, 0, 0)) (hz : w.heap.size ≤ z) (hg : Got z a w' q) : PReadPost text raw w (.returned (.tuple #[.pointer (some ⟨a, 0, none⟩), .int .i64 0, .int .i64 0])) w' :=
  ⟨hb, .pointer (some ⟨a, 0, none⟩), by rw [h]; rfl, .inr ⟨q, a, z, by rw [h], rfl, hz, hg⟩⟩
section
variable {text : B} {raw : Bool}
theorem read_long (h : (split 10 text).length > (if raw then 4000 else 120)) : prjRead text raw = (none, 1, 0) := by rw [prjRead, if_pos h]
theorem read_form (h : ¬ (split 10 text).length > (if raw then 4000 else 120)) {k : Nat} (hs : (splitGo raw (wordsOf text) ⟨0, 0, 0⟩ 0).2.2 = some k) : prjRead text raw = (none, 2, k) := by
  rw [prjRead, if_neg h, hs]
theorem read_short (h : ¬ (split 10 text).length > (if raw then 4000 else 120)) {S : List (Nat × List B)} {o : OrdP} (hs : splitGo raw (wordsOf text) ⟨0, 0, 0⟩ 0 = (S, o, none)) (ho : ¬ o.sec = 2) : prjRead text raw = (none, 2, (split 10 text).length) := by
  rw [prjRead, if_neg h, hs]
  simp only
  rw [if_pos ho]
theorem read_name (h : ¬ (split 10 text).length > (if raw then 4000 else 120)) {S : List (Nat × List B)} {o : OrdP} (hs : splitGo raw (wordsOf text) ⟨0, 0, 0⟩ 0 = (S, o, none)) (ho : o.sec = 2) {k : Nat} (hl : (lookGo (countB S) S 0 QP.empty).2 = some k) : prjRead text raw = (none, 3, k) := by
  rw [prjRead, if_neg h, hs]
  simp only
  rw [if_neg (by simp [ho]), hl]
theorem read_type (h : ¬ (split 10 text).length > (if raw then 4000 else 120)) {S : List (Nat × List B)} {o : OrdP} (hs : splitGo raw (wordsOf text) ⟨0, 0, 0⟩ 0 = (S, o, none)) (ho : o.sec = 2) {q : QP} (hl : lookGo (countB S) S 0 QP.empty = (q, none)) {k : Nat} (hm : q.misfit = some k) : prjRead text raw = (none, 4, k) := by
  rw [prjRead, if_neg h, hs]
  simp only
  rw [if_neg (by simp [ho]), hl]
  simp only
  rw [hm]
theorem read_good (h : ¬ (split 10 text).length > (if raw then 4000 else 120)) {S : List (Nat × List B)} {o : OrdP} (hs : splitGo raw (wordsOf text) ⟨0, 0, 0⟩ 0 = (S, o, none)) (ho : o.sec = 2) {q : QP} (hl : lookGo (countB S) S 0 QP.empty = (q, none)) (hm : q.misfit = none) : prjRead text raw = (some q, 0, 0) := by
  rw [prjRead, if_neg h, hs]
  simp only
  rw [if_neg (by simp [ho]), hl]
  simp only
  rw [hm]
end
theorem Got.make {z a nb : Nat} {w : World} {S : List (Nat × List B)} {q : QP} (hn : nb = countB S) (hS : SentsOk S) (hl : lookGo nb S 0 QP.empty = (q, none)) {vl vb : Value} {us : List Value} {vss : List (List (Value × Value))} (hp : PAt z a w q vl vb us vss) : Got z a w q := by
  have h1 := lookGo_size nb S 0 0 QP.empty q hl (fun b hb => by simp [QP.empty] at hb)
  have h2 := lookGo_ok nb S 0 QP.empty q hl (fun x hx => by
    obtain ⟨j, hj, rfl⟩ := List.getElem_of_mem hx
    have := hS.op j hj
    simpa [List.getD_eq_getElem?_getD, hj] using this) ⟨fun x hx => by simp [QP.empty] at hx, fun b hb => by simp [QP.empty] at hb⟩
  have hfew := hS.few
  simp only [QP.empty, List.length_nil, Nat.zero_add] at h1
  refine ⟨⟨vl, vb, us, vss, hp⟩, ⟨nb, by have := countB_le S; omega, h2⟩, by omega, by omega, fun j => ?_⟩
  by_cases hj : j < q.blocks.length
  · have := h1.2.2 (q.blocks.getD j []) (by simp [hj])
    omega
  · rw [List.getD_eq_getElem?_getD, List.getElem?_eq_none (by omega)]; simp
theorem split_form {raw : Bool} {L : List B} {w w' : World} {e : Ending} (h : SplitPost raw L w e w') : ∃ v7 v8 v9, e = .returned (.tuple #[v7, v8, v9]) ∧ SplitPost raw L w (.returned (.tuple #[v7, v8, v9])) w' := by
  have h' := h
  unfold SplitPost at h
  obtain ⟨-, h⟩ := h
  split at h
  · subst h; exact ⟨_, _, _, rfl, h'⟩
  · obtain ⟨v, vs, rfl, -⟩ := h; exact ⟨_, _, _, rfl, h'⟩
theorem split_cases {raw : Bool} {L : List B} {w w' : World} {v7 v8 v9 : Value} (h : SplitPost raw L w (.returned (.tuple #[v7, v8, v9])) w') : Below w.heap.size w w' ∧ ((∃ k : Nat, (splitGo raw (L.map (split 32)) ⟨0, 0, 0⟩ 0).2.2 = some k ∧ v7 = .slice none 0 0 ∧ v8 = .int .i64 (k : Nat) ∧ v9 = .bool false) ∨
    ∃ S o vs, splitGo raw (L.map (split 32)) ⟨0, 0, 0⟩ 0 = (S, o, none) ∧ v8 = .int .i64 (L.length : Nat) ∧ v9 = .bool (decide (o.sec = 2)) ∧ SentsAt w.heap.size w' v7 S vs) := by
  obtain ⟨hb, h⟩ := h
  refine ⟨hb, ?_⟩
  generalize splitGo raw (L.map (split 32)) ⟨0, 0, 0⟩ 0 = R at h ⊢
  obtain ⟨S, o, x⟩ := R
  cases x with
  | some k =>
    simp only [Ending.returned.injEq, Value.tuple.injEq, Array.mk.injEq, List.cons.injEq, and_true] at h
    exact .inl ⟨k, rfl, h.1, h.2.1, h.2.2⟩
  | none =>
    obtain ⟨v, vs, e, hs⟩ := h
    simp only [Ending.returned.injEq, Value.tuple.injEq, Array.mk.injEq, List.cons.injEq, and_true] at e
    obtain ⟨rfl, h2, h3⟩ := e
    exact .inr ⟨S, o, vs, rfl, h2, h3, hs⟩
theorem look_form {nb : Nat} {S : List (Nat × List B)} {w w' : World} {e : Ending} (h : LookPost nb S w e w') : Below w.heap.size w w' ∧ ((∃ k : Nat, (lookGo nb S 0 QP.empty).2 = some k ∧ e = .returned (.tuple #[.pointer none, .int .i64 (k : Nat), .bool false])) ∨ ∃ q a vl vb us vss, lookGo nb S 0 QP.empty = (q, none) ∧ e = .returned (.tuple #[.pointer (some ⟨a, 0, none⟩), .int .i64 0, .bool true]) ∧ PAt w.heap.size a w' q vl vb us vss) := by
  obtain ⟨hb, h⟩ := h
  refine ⟨hb, ?_⟩
  generalize lookGo nb S 0 QP.empty = R at h ⊢
  obtain ⟨q, x⟩ := R
  cases x with
  | some k => exact .inl ⟨k, rfl, h⟩
  | none =>
    obtain ⟨a, vl, vb, us, vss, h1, h2⟩ := h
    exact .inr ⟨q, a, vl, vb, us, vss, rfl, h1, h2⟩
theorem miss_form {q : QP} {w w' : World} {e : Ending} (h : MissPost q w e w') : Below w.heap.size w w' ∧ ((∃ k : Nat, q.misfit = some k ∧ e = .returned (.tuple #[.int .i64 (k : Nat), .bool true])) ∨ (q.misfit = none ∧ e = .returned (.tuple #[.int .i64 0, .bool false]))) := by
  obtain ⟨hb, h⟩ := h
  refine ⟨hb, ?_⟩
  cases hm : q.misfit with
  | some k => rw [hm] at h; exact .inl ⟨k, rfl, h⟩
  | none => rw [hm] at h; exact .inr ⟨rfl, h⟩
theorem lookUp_form {z g cap : Nat} {S : List (Nat × List B)} {vs : List Value} (w : World) (h : SentsAt z w (.slice (some ⟨g, 0, none⟩) S.length cap) S vs) (hS : SentsOk S) (hg : g < w.heap.size) (hcap : S.length ≤ cap) (E : Env w) :
    Calls Tryz.prog 117 #[.slice (some ⟨g, 0, none⟩) S.length cap] w fun e w' => Below w.heap.size w w' ∧ ((∃ k : Nat, (lookGo (countB S) S 0 QP.empty).2 = some k ∧ e = .returned (.tuple #[.pointer none, .int .i64 (k : Nat), .bool false])) ∨ ∃ q a, lookGo (countB S) S 0 QP.empty = (q, none) ∧ e = .returned (.tuple #[.pointer (some ⟨a, 0, none⟩), .int .i64 0, .bool true]) ∧ Got w.heap.size a w' q) :=
  (lookUp_any w h hS hg hcap E).mono fun e w' hl => by
    obtain ⟨h1, h2 | ⟨q, a, vl, vb, us, vss, h3, h4, h5⟩⟩ := look_form hl
    · exact ⟨h1, .inl h2⟩
    · exact ⟨h1, .inr ⟨q, a, h3, h4, Got.make rfl hS h3 h5⟩⟩
theorem misfit_form {z a : Nat} {q : QP} (w : World) (h : Got z a w q) (E : Env w) :
    Calls Tryz.prog 118 #[.pointer (some ⟨a, 0, none⟩)] w fun e w' => Below w.heap.size w w' ∧ ((∃ k : Nat, q.misfit = some k ∧ e = .returned (.tuple #[.int .i64 (k : Nat), .bool true])) ∨ (q.misfit = none ∧ e = .returned (.tuple #[.int .i64 0, .bool false]))) := by
  obtain ⟨⟨vl, vb, us, vss, hP⟩, ⟨nb, -, hq⟩, h1, h2, h3⟩ := h
  exact (misfit_any q nb z a vl vb us vss w hP h1 hq h2 h3 E).mono fun e w' hm => miss_form hm
theorem Got.below {z a : Nat} {w w' : World} {q : QP} (h : Got z a w q) (hb : Below w.heap.size w w') : Got z a w' q := by
  obtain ⟨⟨vl, vb, us, vss, hP⟩, h0, h1, h2, h3⟩ := h
  exact ⟨⟨vl, vb, us, vss, hP.below hb⟩, h0, h1, h2, h3⟩
set_option maxRecDepth 20000 in
set_option maxHeartbeats 2000000 in
theorem pread_any (text : B) (raw : Bool) (w : World) (h : text.length ≤ 1048576) (E : Env w) :
    Calls Tryz.prog 72 #[.agg #[.bool raw, .int .i64 (if raw then 4000 else 120 : Nat), .int .i64 (if raw then 2000 else 20 : Nat)], .string (bs text)] w (PReadPost text raw w) := by
  have KSp := fun w' (hL : (split 10 text).length ≤ 4000) (g cap : Nat) (hc : (split 10 text).length ≤ cap) (hg : g < w'.heap.size) (hcell : ∀ j, j < (split 10 text).length → w'.cell? ⟨g, j, none⟩ = some (.string (bs (word (split 10 text) j)))) (E' : Env w') =>
    split_any raw (if raw then 4000 else 120) g cap (split 10 text) w' hL hc hg hcell (fun j => Nat.le_trans (word_split_le 10 text j) h) E'
  have hone := one_le_split 10 text
  have KC := fun w' => count_lines text w'
  by_cases hlong : (split 10 text).length > (if raw then 4000 else 120)
  · have hx := read_long hlong
    generalize (if raw then 4000 else 120 : Nat) = ln at *
    generalize (if raw then 2000 else 20 : Nat) = mb at *
    have hcmp : (ln : Int) ≤ (((split 10 text).length - 1 : Nat) : Int) := by omega
    generalize (split 10 text).length - 1 = cnt at *
    have hbA : Below w.heap.size w (w.alloc (.cells #[.bool raw, .int .i64 (ln : Nat), .int .i64 (mb : Nat)] 130)) := (Below.refl _ _).alloc (Nat.le_refl _) _
    go_enter Tryz.func72, Tryz.ntmps72
    go_wp2
    go_quiet ((go_at_call 114; exact Calls.quiet_of_same (KC _)))
    go_wp2
    go_ret3
    exact PReadPost.bad (below_drewN hbA _) hx
  · have hL : (split 10 text).length ≤ 4000 := by cases raw <;> simp at hlong <;> omega
    have R1 := fun k => read_form (raw := raw) (text := text) hlong (k := k)
    have R2 := fun S o hs ho => read_short (raw := raw) (text := text) hlong (S := S) (o := o) hs ho
    have R3 := fun S o hs ho k hl => read_name (raw := raw) (text := text) hlong (S := S) (o := o) hs ho (k := k) hl
    have R4 := fun S o hs ho q hl k hm => read_type (raw := raw) (text := text) hlong (S := S) (o := o) hs ho (q := q) hl (k := k) hm
    have R5 := fun S o hs ho q hl hm => read_good (raw := raw) (text := text) hlong (S := S) (o := o) hs ho (q := q) hl hm
    have HR : Hid (_ ∧ _ ∧ _ ∧ _ ∧ _) := ⟨R1, R2, R3, R4, R5⟩
    clear R1 R2 R3 R4 R5
    generalize (if raw then 4000 else 120 : Nat) = ln at *
    generalize (if raw then 2000 else 20 : Nat) = mb at *
    have hcmp : ¬ (ln : Int) ≤ (((split 10 text).length - 1 : Nat) : Int) := by omega
    have hbA : Below w.heap.size w (w.alloc (.cells #[.bool raw, .int .i64 (ln : Nat), .int .i64 (mb : Nat)] 130)) := (Below.refl _ _).alloc (Nat.le_refl _) _
    have HL1 : Hid (_) := hone
    obtain ⟨cnt, hcnt⟩ : ∃ cnt, cnt = (split 10 text).length - 1 := ⟨_, rfl⟩
    rw [← hcnt] at KC hcmp
    clear hcnt hlong
    go_enter Tryz.func72, Tryz.ntmps72
    go_wp2
    go_quiet ((go_at_call 114; exact Calls.quiet_of_same (KC _)))
    go_wp2
    have hbW := below_drewN hbA nq
    have d0 : ((w.alloc (.cells #[.bool raw, .int .i64 (ln : Nat), .int .i64 (mb : Nat)] 130)).drewN nq).heap[w.heap.size]? = some (.cells #[.bool raw, .int .i64 (ln : Nat), .int .i64 (mb : Nat)] 130 (0, 0)) := Array.getElem?_push_size
    generalize ((w.alloc (.cells #[.bool raw, .int .i64 (ln : Nat), .int .i64 (mb : Nat)] 130)).drewN nq) = W at *
    have hbWd : Below w.heap.size w W.drew := ⟨hbW.os, hbW.tape, hbW.output, hbW.size, hbW.block⟩
    have KL := lines_row text W.drew h (E.on hbWd)
    have e0 : W.cell? ⟨w.heap.size, 0, none⟩ = some (.bool raw) := by rw [cell_of_heap d0]; rfl
    have e1 : W.cell? ⟨w.heap.size, 1, none⟩ = some (.int .i64 (ln : Nat)) := by rw [cell_of_heap d0]; rfl
    have e2 : W.cell? ⟨w.heap.size, 2, none⟩ = some (.int .i64 (mb : Nat)) := by rw [cell_of_heap d0]; rfl
    have hltW := lt_of_heap d0
    go_cut [7, 8, 9] (fun v7 v8 v9 wc => ∃ w1, Below w.heap.size w w1 ∧ SplitPost raw (split 10 text) w1 (.returned (.tuple #[v7, v8, v9])) wc)
    case first =>
      go_region_with (first
        | (go_at_call 115; refine K1.mono ?_; rintro e w2 hsp; obtain ⟨v7, v8, v9, rfl, hsp⟩ := split_form hsp)
        | (go_at_call 116; refine KL.mono ?_; rintro e w1 ⟨rfl, hb1, hg1, hc1⟩; have hd1 : w1.heap[w.heap.size]? = _ := (hb1.block w.heap.size hltW).trans d0; have c0 := (cell_of_heap hd1 0).trans (by rfl : _ = some (Value.bool raw)); have c1 := (cell_of_heap hd1 1).trans (by rfl : _ = some (Value.int .i64 (ln : Nat))); have c2 := (cell_of_heap hd1 2).trans (by rfl : _ = some (Value.int .i64 (mb : Nat))); have hB1 : Below w.heap.size w w1 := hbWd.trans (hb1.mono hbWd.size); have K1 := KSp w1 hL W.heap.size (split 10 text).length (Nat.le_refl _) hg1 hc1 (E.on hB1)))
      all_goals go_wp2_with fail
      all_goals
        go_meet
        case rel => exact ⟨w1, hB1, hsp⟩
    case rest =>
      obtain ⟨w1, hB1, hsp⟩ := hcut
      obtain ⟨hb2, hcase⟩ := split_cases hsp
      have hB2 := hB1.trans (hb2.mono hB1.size)
      obtain ⟨R1, R2, R3, R4, R5⟩ := HR.out
      clear HR KSp KC KL hsp
      rcases hcase with ⟨k, hk, rfl, rfl, rfl⟩ | ⟨SS, o, vs, hs, rfl, rfl, hSents⟩
      · have hx := R1 k hk
        clear R1 R2 R3 R4 R5 hk
        go_wp2
        go_ret3
        exact PReadPost.bad hB2 hx
      · obtain ⟨hok, hlen⟩ := sents_ok hs hL (fun j => Nat.le_trans (word_split_le 10 text j) h)
        by_cases ho : o.sec = 2
        · have hod : decide (o.sec = 2) = true := by simp [ho]
          rw [hod]
          obtain ⟨g, cap, rfl, hcap, hg⟩ := sents_form hSents (by have := HL1.out; omega)
          have KU := lookUp_form wc hSents hok hg hcap (E.on hB2)
          have Q3 := fun k hl => R3 SS o hs ho k hl
          have Q4 := fun q hl k hm => R4 SS o hs ho q hl k hm
          have Q5 := fun q hl hm => R5 SS o hs ho q hl hm
          have HQ : Hid (_ ∧ _ ∧ _) := ⟨Q3, Q4, Q5⟩
          clear R1 R2 R3 R4 R5 Q3 Q4 Q5 hs
          have KM := fun (q : QP) (a : Nat) (w3 : World) (hb3 : Below wc.heap.size wc w3) (hG : Got wc.heap.size a w3 q) => misfit_form w3 hG ((E.on hB2).on hb3)
          generalize (lookGo (countB SS) SS 0 QP.empty) = LK at *
          clear hSents hok hone hL hlen ho hod e0 e1 e2 d0 hcmp
          go_wp2_with (first
            | (go_at_call 117; refine KU.mono ?_; rintro e w3 ⟨hb3, ⟨k, hk, rfl⟩ | ⟨q, a, hq, rfl, hG⟩⟩)
            | (go_at_call 118; refine (KM q a w3 hb3 hG).mono ?_; rintro e w4 ⟨hb4, ⟨k, hk, rfl⟩ | ⟨hm, rfl⟩⟩))
          · go_ret3
            exact PReadPost.bad (hB2.trans (hb3.mono hB2.size)) (HQ.out.1 k hk)
          · go_ret3
            have hB3 := hB2.trans (hb3.mono hB2.size)
            exact PReadPost.bad (hB3.trans (hb4.mono hB3.size)) (HQ.out.2.1 q hq k hk)
          · go_ret3
            have hB3 := hB2.trans (hb3.mono hB2.size)
            exact PReadPost.good (hB3.trans (hb4.mono hB3.size)) (HQ.out.2.2 q hq hm) hB2.size (hG.below hb4)
        · have hx := R2 SS o hs ho
          have hod : decide (o.sec = 2) = false := by simp [ho]
          rw [hod]
          clear R1 R2 R3 R4 R5 hs ho hod
          go_wp2
          go_ret3
          exact PReadPost.bad hB2 hx
end Go.Proofs.YtmlgajhhnojdjaaGreatDoor.PrjW
