/- Plain facts: the ways that were gone to the end, as the document's own ways of the blocks: closed, and the least; so both find the same line first. -/
import Derived.Test.YtmlgajhhnojdjaaGreatDoorQAR
import Derived.Test.YtmlgajhhnojdjaaGreatDoorQAD
import Derived.Test.YtmlgajhhnojdjaaGreatDoorQAF
import Derived.Deep.DeepCutAuto
namespace Go.Proofs.YtmlgajhhnojdjaaGreatDoor.FlwY
open Go Go.Proofs.YtmlgajhhnojdjaaGreatDoor.Spec Go.Proofs.YtmlgajhhnojdjaaGreatDoor.Aux Go.Proofs.YtmlgajhhnojdjaaGreatDoor.PrjS Go.Proofs.YtmlgajhhnojdjaaGreatDoor.FlwA Go.Proofs.YtmlgajhhnojdjaaGreatDoor.FlwB Go.Proofs.YtmlgajhhnojdjaaGreatDoor.FlwC Go.Proofs.YtmlgajhhnojdjaaGreatDoor.FlwD Go.Proofs.YtmlgajhhnojdjaaGreatDoor.FlwE Go.Proofs.YtmlgajhhnojdjaaGreatDoor.FlwF Go.Proofs.YtmlgajhhnojdjaaGreatDoor.FlwG Go.Proofs.YtmlgajhhnojdjaaGreatDoor.FlwH Go.Proofs.YtmlgajhhnojdjaaGreatDoor.FlwI Go.Proofs.YtmlgajhhnojdjaaGreatDoor.FlwJ Go.Proofs.YtmlgajhhnojdjaaGreatDoor.FlwK Go.Proofs.YtmlgajhhnojdjaaGreatDoor.FlwM Go.Proofs.YtmlgajhhnojdjaaGreatDoor.FlwO Go.Proofs.YtmlgajhhnojdjaaGreatDoor.FlwP Go.Proofs.YtmlgajhhnojdjaaGreatDoor.FlwQ Go.Proofs.YtmlgajhhnojdjaaGreatDoor.FlwS Go.Proofs.YtmlgajhhnojdjaaGreatDoor.FlwT Go.Proofs.YtmlgajhhnojdjaaGreatDoor.FlwU Go.Proofs.YtmlgajhhnojdjaaGreatDoor.FlwV Go.Proofs.YtmlgajhhnojdjaaGreatDoor.FlwW Go.Proofs.YtmlgajhhnojdjaaGreatDoor.FlwX

/-! every spot of a state that is come to has something -/
def Full (s : List Nat) : Prop := ∀ k, k < 24 → ¬ s.getD k 0 = 0
theorem full_set {s : List Nat} (h : Full s) (i : Nat) {v : Nat} (hv : ¬ v = 0) : Full (s.set i v) := fun k hk => by
  rw [getD_set1]
  split
  · exact hv
  · exact h k hk
theorem full_put {v : Nat} (hv : ¬ v = 0) : ∀ (ps : List (Nat × Nat)) {s : List Nat}, Full s → Full (putL v ps s)
  | [], _, h => h
  | x :: ps, _, h => full_put hv ps (full_set h (slotQ x) hv)
theorem full_take : ∀ (ps : List (Nat × Nat)) {s : List Nat}, Full s → Full (takeL ps s)
  | [], _, h => h
  | x :: ps, s, h => full_take ps (s := s.set (slotQ x) (if x.2 = 3 then 8 else 1)) (full_set h (slotQ x) (by split <;> decide))
theorem full_takeQ (q : QP) (l : QLine) {s : List Nat} (h : Full s) : Full (takeQ q l s) := by
  unfold takeQ; split
  · exact full_take _ h
  · split
    · exact full_take _ h
    · exact h
def PlOk (l : QLine) : Prop := ∀ x ∈ l.places, x.1 < 12
theorem full_pass (q : QP) {l : QLine} (hl : PlOk l) {s : List Nat} (h : Full s) : Full (passQ q l s) := by
  have h1 := full_takeQ q l h
  unfold passQ
  split
  · exact full_put (by decide) _ h1
  · split
    · refine full_put ?_ _ h1
      unfold movedL
      split
      · apply h
        have : (l.places.getD 1 (0, 0)).1 < 12 := by
          by_cases hp : 1 < l.places.length
          · exact hl _ (getD_mem hp)
          · rw [List.getD_eq_getElem?_getD, List.getElem?_eq_none (by omega)]; decide
        unfold slotQ; split <;> omega
      · decide
    · split
      · exact full_put (by decide) _ h1
      · split
        · exact full_take _ h1
        · exact h1
theorem full_step (l : QLine) (i : Nat) {s : List Nat} (h : Full s) : Full (stepS l i s) := by
  unfold stepS; split
  · exact full_put (by split <;> decide) _ h
  · exact h
theorem full_stN (l : QLine) : ∀ (ns : List Nat) (i : Nat) {s : List Nat}, Full s → Full (stN l ns i s)
  | [], _, _, h => h
  | _ :: ns, i, _, h => full_stN l ns (i + 1) (full_step l i h)
theorem full_outsN (l : QLine) : ∀ (ns : List Nat) (i : Nat) {s : List Nat}, Full s → ∀ x ∈ outsN l ns i s, Full x.2
  | [], _, _, _, x, hx => by cases hx
  | n :: ns, i, s, h, x, hx => by
    rcases List.mem_cons.mp hx with rfl | hx
    · exact full_step l i h
    · exact full_outsN l ns (i + 1) (full_step l i h) x hx
theorem full_outsL (q : QP) : ∀ (ls : List QLine) {s : List Nat}, (∀ l ∈ ls, PlOk l) → Full s → ∀ x ∈ outsL q ls s, Full x.2
  | [], _, _, _, x, hx => by cases hx
  | l :: ls, s, hl, h, x, hx => by
    have hp := full_pass q (hl l (List.mem_cons_self ..)) h
    rcases List.mem_append.mp hx with hx | hx
    · exact full_outsN l l.next 0 hp x hx
    · exact full_outsL q ls (fun m hm => hl m (List.mem_cons_of_mem _ hm)) (full_stN l _ _ hp) x hx
def FullE (N : Nat) (E : List (List Nat)) : Prop := ∀ b, b < N → E.getD b [] = zeroSt ∨ Full (E.getD b [])
theorem full_join {s t : List Nat} (hs : SOk s) (ht : Full t) : Full (joinS s t) := fun k hk => by
  rw [joinS_getD hs.len, if_pos hk]
  intro e
  exact ht k hk (Nat.or_eq_zero_iff.mp e).2
theorem full_leads (N : Nat) : ∀ (M : List (Nat × List Nat)) (E : List (List Nat)) (O : Nat → Bool), EOk E → E.length = N → (∀ x ∈ M, x.1 < N ∧ SOk x.2) → (∀ x ∈ M, Full x.2) → FullE N E → FullE N (leads M (E, O)).1
  | [], _, _, _, _, _, _, h => h
  | x :: M, E, O, hE, hl, hM, hF, h => by
    obtain ⟨hx1, hx2⟩ := hM x (List.mem_cons_self ..)
    have hxE : x.1 < E.length := by omega
    have e : leads (x :: M) (E, O) = leads M (leadE E x.1 x.2, leadO E O x.1 x.2) := rfl
    rw [e]
    refine full_leads N M _ _ (leadE_ok hE hxE hx2) (by rw [leadE_len]; exact hl) (fun y hy => hM y (List.mem_cons_of_mem _ hy)) (fun y hy => hF y (List.mem_cons_of_mem _ hy)) fun b hb => ?_
    rw [leadE_at E x.1 x.2 hxE]
    split
    · exact .inr (full_join (hE.at hxE) (hF x (List.mem_cons_self ..)))
    · exact h b hb
theorem full_startSt : Full startSt := fun k hk => by
  unfold startSt; rw [List.getD_eq_getElem?_getD, List.getElem?_replicate, if_pos hk]; decide
theorem zeroSt_at {k : Nat} : zeroSt.getD k 0 = 0 := by
  unfold zeroSt; rw [List.getD_eq_getElem?_getD, List.getElem?_replicate]; split <;> rfl
theorem full_ne {s : List Nat} (h : Full s) : ¬ s = zeroSt := fun e => h 0 (by decide) (by rw [e]; exact zeroSt_at)
/-- what holds from step to step, whole -/
structure InvF (q : QP) (E : List (List Nat)) (O : Nat → Bool) : Prop where
  inv : Inv q E O
  full : FullE q.blocks.length E
theorem invF_start (q : QP) (h0 : 0 < q.blocks.length) : InvF q (leadE (List.replicate q.blocks.length zeroSt) 0 startSt) (leadO (List.replicate q.blocks.length zeroSt) (fun _ => false) 0 startSt) := by
  refine ⟨inv_start q h0, ?_⟩
  have hok : EOk (List.replicate q.blocks.length zeroSt) := fun s hs => by rw [List.eq_of_mem_replicate hs]; exact ⟨by decide, zeroSt_lt⟩
  exact full_leads q.blocks.length [(0, startSt)] _ (fun _ => false) hok (by simp) (fun x hx => by rw [List.mem_singleton.mp hx]; exact ⟨h0, startSt_ok⟩) (fun x hx => by rw [List.mem_singleton.mp hx]; exact full_startSt)
    fun b hb => .inl (by simp [List.getD_eq_getElem?_getD, hb])
theorem invF_step (q : QP) (hq : QOk q.blocks.length q) (hls : q.locals.length ≤ 12) (E : List (List Nat)) (O : Nat → Bool) (b : Nat) (hb : b < q.blocks.length) (hO : O b = true) (h : InvF q E O) :
    InvF q (goBlk q E (setO O b false) b).2.1 (goBlk q E (setO O b false) b).2.2 := by
  have hnx := fun b (hb : b < q.blocks.length) => blk_next hq hb
  refine ⟨inv_step q hnx E O b hb hO h.inv, ?_⟩
  have hs := h.inv.ok.at (i := b) (by rw [h.inv.len]; exact hb)
  have e : (goBlk q E (setO O b false) b).2 = leads (outsL q (q.blocks.getD b []) (E.getD b [])) (E, setO O b false) := goLines_eq q _ _
  have hf : Full (E.getD b []) := by
    rcases h.full b hb with h1 | h1
    · exact absurd h1 (h.inv.live b hb hO)
    · exact h1
  have hpl : ∀ l ∈ q.blocks.getD b [], PlOk l := fun l hl x hx => by
    have hm : q.blocks.getD b [] ∈ q.blocks := by rw [List.getD_eq_getElem?_getD, List.getElem?_eq_getElem hb]; exact List.getElem_mem hb
    have := ((hq.lines _ hm l hl).places x hx).1
    omega
  have := full_leads q.blocks.length (outsL q (q.blocks.getD b []) (E.getD b [])) E (setO O b false) h.inv.ok h.inv.len (outsL_ok q q.blocks.length _ (hnx b hb) hs) (full_outsL q _ hpl hf) h.full
  rw [← e] at this
  exact this
/-! bits and letters -/
theorem bit_mem (x : B) : (45 ∈ x ↔ (bitsOf x).testBit 0 = true) ∧ (119 ∈ x ↔ (bitsOf x).testBit 1 = true) ∧ (110 ∈ x ↔ (bitsOf x).testBit 2 = true) ∧ (104 ∈ x ↔ (bitsOf x).testBit 3 = true) := by
  unfold bitsOf
  by_cases h1 : (45 : UInt8) ∈ x <;> by_cases h2 : (119 : UInt8) ∈ x <;> by_cases h3 : (110 : UInt8) ∈ x <;> by_cases h4 : (104 : UInt8) ∈ x <;> simp only [h1, h2, h3, h4, if_true, if_false] <;> decide
theorem le1_bit {a b : Nat} (h : le1 a b) (i : Nat) (ha : a.testBit i = true) : b.testBit i = true := by
  have : (b ||| a).testBit i = true := by rw [Nat.testBit_or, ha, Bool.or_true]
  unfold le1 at h; rwa [h] at this
theorem mem_of_le {x y : B} (hx : Few x) (h : le1 (bitsOf x) (bitsOf y)) {c : UInt8} (hc : c ∈ x) : c ∈ y := by
  have := hx.among c hc
  simp only [letters, List.mem_cons, List.not_mem_nil, or_false] at this
  rcases this with rfl | rfl | rfl | rfl
  · exact (bit_mem y).1.mpr (le1_bit h 0 ((bit_mem x).1.mp hc))
  · exact (bit_mem y).2.2.1.mpr (le1_bit h 2 ((bit_mem x).2.2.1.mp hc))
  · exact (bit_mem y).2.1.mpr (le1_bit h 1 ((bit_mem x).2.1.mp hc))
  · exact (bit_mem y).2.2.2.mpr (le1_bit h 3 ((bit_mem x).2.2.2.mp hc))
theorem le_of_sub {x y : B} (h : ∀ c, c ∈ x → c ∈ y) : le1 (bitsOf x) (bitsOf y) := by
  have := bits_or (a := y) (b := x) (c := y) fun c => ⟨.inl, fun e => e.elim id (h c)⟩
  exact this.symm
theorem sub_of_le {u v : List Nat} {s t : WS} (hs : s.Few) (hu : RelL u s) (hv : RelL v t) (h : leS u v) : Sub s t := fun k c hc => by
  by_cases hk : k < 24
  · have := h k hk
    have e1 : u.getD k 0 = bitsOf (s.at k) := hu k hk
    have e2 : v.getD k 0 = bitsOf (t.at k) := hv k hk
    rw [e1, e2] at this
    exact mem_of_le (hs.few k) this hc
  · exfalso
    unfold WS.at at hc
    rw [List.getD_eq_getElem?_getD, List.getElem?_eq_none (by rw [hs.len]; omega)] at hc
    cases hc
theorem le_of_subS {u v : List Nat} {s t : WS} (hu : RelL u s) (hv : RelL v t) (h : Sub s t) : leS u v := fun k hk => by
  have e1 : u.getD k 0 = bitsOf (s.at k) := hu k hk
  have e2 : v.getD k 0 = bitsOf (t.at k) := hv k hk
  rw [e1, e2]; exact le_of_sub (h k)
section
variable {text : B} {p : RP} {q : QP}
theorem outB_rel (h : Both text false p q) {i : Nat} (hb : p.body i) {k : Nat} (hk : (behind (word (p.line i) 0) p.raw).1.getD k 0 = 78) {s : List Nat} {t : WS} (hs : s.length = 24) (ht : t.spots.length = 24) (hr : RelL s t) : RelL (outB p i k s) (p.outOf (p.line i) t k) := by
  unfold outB
  by_cases hm : word (p.line i) 0 = wMatch
  · rw [if_pos hm]
    obtain ⟨h1, h2⟩ := h.ok.out_match hb hm ht hr
    have hf : (behind (word (p.line i) 0) p.raw).1 = [111, 78, 78] := by rw [hm]; rfl
    rw [hf, getD_three (by decide)] at hk
    have hw := (both_ln h hb).w 0
    rw [hw]
    rcases hk with rfl | rfl
    · rw [if_pos rfl]; exact rel_of (ag_put 4 [_] (Ag.self hs)) h1
    · rw [if_neg (by decide)]; exact rel_of (ag_put 2 [_] (Ag.self hs)) h2
  · rw [if_neg hm, out_other hm]; exact hr
/-- the ways of the blocks, as letters -/
def wsOf (N : Nat) (E : List (List Nat)) (b : Nat) : WS := if b < N then ⟨!(E.getD b [] == zeroSt), (E.getD b []).map lettersOf⟩ else zeroWS
theorem wsOf_at {N : Nat} {E : List (List Nat)} {b : Nat} (hb : b < N) : wsOf N E b = ⟨!(E.getD b [] == zeroSt), (E.getD b []).map lettersOf⟩ := by rw [wsOf, if_pos hb]
theorem letters_at {s : List Nat} (hs : SOk s) (v : Bool) {k : Nat} (hk : k < 24) : (⟨v, s.map lettersOf⟩ : WS).at k = lettersOf (s.getD k 0) := by
  unfold WS.at
  rw [List.getD_eq_getElem?_getD, List.getElem?_map, List.getD_eq_getElem?_getD, List.getElem?_eq_getElem (by rw [hs.len]; exact hk)]; rfl
theorem letters_rel {s : List Nat} (hs : SOk s) (v : Bool) : RelL s ⟨v, s.map lettersOf⟩ := fun k hk => by
  rw [letters_at hs v hk, bits_letters _ (hs.lt k)]
theorem letters_few {s : List Nat} (hs : SOk s) (v : Bool) : (⟨v, s.map lettersOf⟩ : WS).Few := by
  refine ⟨by simpa using hs.len, fun k => ?_⟩
  by_cases hk : k < 24
  · rw [letters_at hs v hk]; exact few_letters _ (hs.lt k)
  · unfold WS.at
    rw [List.getD_eq_getElem?_getD, List.getElem?_eq_none (by simp [hs.len]; omega)]
    exact few_nil
theorem along_few {E : Nat → WS} (hE : ∀ b, (E b).Few) : ∀ i, (p.along E i).Few
  | 0 => zeroWS_few
  | i + 1 => by
    rw [RP.along]; split
    · exact hE _
    · exact p.step_few (along_few hE i) _
theorem rel_startL : RelL startSt startWS := fun k hk => by
  have h1 : startSt.getD k 0 = 1 := by unfold startSt; rw [List.getD_eq_getElem?_getD, List.getElem?_replicate, if_pos hk]; rfl
  show startSt.getD k 0 = _
  rw [h1]
  exact rel_start k hk
structure Done (text : B) (p : RP) (q : QP) (E : List (List Nat)) : Prop where
  both : Both text false p q
  inv : InvF q E (fun _ => false)
  pos : 0 < q.blocks.length
theorem Done.ok {E : List (List Nat)} (h : Done text p q E) {b : Nat} (hb : b < q.blocks.length) : SOk (E.getD b []) := h.inv.inv.ok.at (by rw [h.inv.inv.len]; exact hb)
theorem Done.few {E : List (List Nat)} (h : Done text p q E) (b : Nat) : (wsOf q.blocks.length E b).Few := by
  unfold wsOf; split
  · rename_i hb; exact letters_few (h.ok hb) _
  · exact zeroWS_few
theorem Done.rel {E : List (List Nat)} (h : Done text p q E) {b : Nat} (hb : b < q.blocks.length) : RelL (E.getD b []) (wsOf q.blocks.length E b) := by
  rw [wsOf_at hb]; exact letters_rel (h.ok hb) _
theorem Done.known {E : List (List Nat)} {b : Nat} (hb : b < q.blocks.length) : (wsOf q.blocks.length E b).known = true ↔ ¬ E.getD b [] = zeroSt := by
  rw [wsOf_at hb]; simp
theorem Done.along {E : List (List Nat)} (h : Done text p q E) {i : Nat} (hb : p.body i) : RelL (alongB p q (fun b => E.getD b []) i) (p.along (wsOf q.blocks.length E) i) ∧ SOk (alongB p q (fun b => E.getD b []) i) := by
  have hl := (blk_lt h.both hb).2
  exact ⟨along_rel h.both (U := fun b => E.getD b []) (EW := wsOf q.blocks.length E) (fun b => (h.few b).len) i hb (h.ok hl) (h.rel hl), along_ok h.both (U := fun b => E.getD b []) i hb (h.ok hl)⟩
theorem pass_rel (h : Both text false p q) {i : Nat} (hb : p.body i) {s : List Nat} {t : WS} (hs : SOk s) (ht : t.spots.length = 24) (hr : RelL s t) : RelL (passQ q (p.qline i) s) (p.step (p.line i) t).1 :=
  rel_of (ag_pass (both_ty h) (both_ln h hb) hs.len) (h.ok.pass_ok hb ht hr)
theorem Done.closed {E : List (List Nat)} (h : Done text p q E) : BClosed p (wsOf q.blocks.length E) := by
  have H := h.both
  refine ⟨fun b => (h.few b).len, ?_, fun i hb hkn k hk => ?_⟩
  · constructor
    · rw [Done.known h.pos]
      exact nonzero_of_le startSt_ok h.inv.inv.start startSt_ne
    · exact sub_of_le startWS_few rel_startL (h.rel h.pos) h.inv.inv.start
  · obtain ⟨hc, hl⟩ := blk_lt H hb
    rw [Done.known hl] at hkn
    obtain ⟨hr, hs⟩ := h.along hb
    have hm := (outs_all H (fun b => E.getD b []) (p.blk i) (tgt p i k, outB p i k (passQ q (p.qline i) (alongB p q (fun b => E.getD b []) i)))).mpr ⟨i, k, hb, hc, hk, rfl⟩
    have hle := h.inv.inv.step (p.blk i) hl rfl hkn _ hm
    have hok := outsL_ok q q.blocks.length _ (blk_next H.qok hl) (h.ok hl) _ hm
    have hfull : Full (E.getD (p.blk i) []) := by
      rcases h.inv.full _ hl with e | e
      · exact absurd e hkn
      · exact e
    have hpl : ∀ l ∈ q.blocks.getD (p.blk i) [], PlOk l := fun l hx x hx' => by
      have hmm : q.blocks.getD (p.blk i) [] ∈ q.blocks := by rw [List.getD_eq_getElem?_getD, List.getElem?_eq_getElem hl]; exact List.getElem_mem hl
      have := ((H.qok.lines _ hmm l hx).places x hx').1
      have := H.twelve
      omega
    have hF := full_outsL q _ hpl hfull _ hm
    have ht24 : (p.along (wsOf q.blocks.length E) i).spots.length = 24 := along_len (fun b => (h.few b).len) i
    have hst := pass_rel H hb hs ht24 hr
    have hst24 := p.step_len ht24 (p.line i)
    have hout := outB_rel H hb hk (passQ_ok q (p.qline i) hs).len hst24 hst
    constructor
    · exact (Done.known hok.1).mpr (nonzero_of_le hok.2 hle (full_ne hF))
    · exact sub_of_le (p.out_few (p.step_few (along_few (h.few) i) (p.line i)) (p.line i) k) hout (h.rel hok.1) hle
/-- the document's ways, as bits -/
def bitsU (E' : Nat → WS) (b : Nat) : List Nat := if (E' b).known = true then (E' b).spots.map bitsOf else zeroSt
theorem bitsU_ok {E' : Nat → WS} (hl : ∀ b, (E' b).spots.length = 24) (b : Nat) : SOk (bitsU E' b) := by
  unfold bitsU; split
  · refine ⟨by simpa using hl b, fun k => ?_⟩
    rw [List.getD_eq_getElem?_getD, List.getElem?_map]
    cases (E' b).spots[k]? with
    | none => decide
    | some x => exact bits_lt x
  · exact ⟨by decide, zeroSt_lt⟩
theorem bitsU_rel {E' : Nat → WS} (hl : ∀ b, (E' b).spots.length = 24) {b : Nat} (hk : (E' b).known = true) : RelL (bitsU E' b) (E' b) := fun k hk2 => by
  show (bitsU E' b).getD k 0 = _
  unfold bitsU
  rw [if_pos hk]
  unfold WS.at
  rw [List.getD_eq_getElem?_getD, List.getElem?_map, List.getD_eq_getElem?_getD, List.getElem?_eq_getElem (by rw [hl b]; exact hk2)]; rfl
theorem closed_bits (H : Both text false p q) {E' : Nat → WS} (hE : BClosed p E') : QClosed q (bitsU E') := by
  refine ⟨fun b _ => bitsU_ok hE.len b, le_of_subS rel_startL (bitsU_rel hE.len hE.start.1) hE.start.2, fun b hb hne x hx => ?_⟩
  have hkn : (E' b).known = true := by
    cases hk : (E' b).known
    · exact absurd (by unfold bitsU; rw [hk]; rfl) hne
    · rfl
  obtain ⟨i, k, hbd, hc, hk, rfl⟩ := (outs_all H (bitsU E') b x).mp hx
  have hbk : p.blk i = b := by unfold RP.blk; omega
  have hkn' : (E' (p.blk i)).known = true := by rw [hbk]; exact hkn
  have hr := along_rel H (U := bitsU E') (EW := E') hE.len i hbd (bitsU_ok hE.len _) (bitsU_rel hE.len hkn')
  have hs := along_ok H (U := bitsU E') i hbd (bitsU_ok hE.len _)
  have ht24 : (p.along E' i).spots.length = 24 := along_len hE.len i
  have hst := pass_rel H hbd hs ht24 hr
  have hout := outB_rel H hbd hk (passQ_ok q (p.qline i) hs).len (p.step_len ht24 (p.line i)) hst
  obtain ⟨h1, h2⟩ := hE.step i hbd hkn' k hk
  exact le_of_subS hout (bitsU_rel hE.len h1) h2
theorem Done.least {E : List (List Nat)} (h : Done text p q E) : BLeast p (wsOf q.blocks.length E) := fun E' hE b hb hk => by
  rw [← h.both.len] at hb
  rw [Done.known hb] at hk
  have hle := h.inv.inv.least _ (closed_bits h.both hE) b hb
  have hkn : (E' b).known = true := by
    cases hkn : (E' b).known
    · exfalso
      refine nonzero_of_le (h.ok hb) hle hk ?_
      unfold bitsU; rw [hkn]; rfl
    · rfl
  exact ⟨hkn, sub_of_le (h.few b) (h.rel hb) (bitsU_rel hE.len hkn) hle⟩
/-- both find the same line first -/
theorem Done.same {E : List (List Nat)} (h : Done text p q E) {L : List WS} (hL : p.Settled L) : p.faultGo L p.lines.length 0 = FlwX.asInt (firstSome (faultB q E) q.blocks.length 0) := by
  rw [h.both.ok.fault_same hL h.closed h.least (wrong := wrongP p q E) (fun i hb => ?_), firstWrong_eq, fault_all h.both]
  obtain ⟨hc, hl⟩ := blk_lt h.both hb
  obtain ⟨hr, hs⟩ := h.along hb
  unfold wrongP
  rw [eq_faulty (both_ty h.both) (both_ln h.both hb), h.both.ok.fault_ok hb (along_few h.few i) hr, wsOf_at hl]
end
end Go.Proofs.YtmlgajhhnojdjaaGreatDoor.FlwY
/- Plain facts: which places of a program that is made line by line have a box, and where its first fault is. -/
namespace Go.Proofs.YtmlgajhhnojdjaaGreatDoor.MadB
open Go Go.Proofs.YtmlgajhhnojdjaaGreatDoor.Spec Go.Proofs.YtmlgajhhnojdjaaGreatDoor.Aux Go.Proofs.YtmlgajhhnojdjaaGreatDoor.FlwF Go.Proofs.YtmlgajhhnojdjaaGreatDoor.FlwG Go.Proofs.YtmlgajhhnojdjaaGreatDoor.FlwH Go.Proofs.YtmlgajhhnojdjaaGreatDoor.FlwI Go.Proofs.YtmlgajhhnojdjaaGreatDoor.FlwJ Go.Proofs.YtmlgajhhnojdjaaGreatDoor.FlwM Go.Proofs.YtmlgajhhnojdjaaGreatDoor.FlwO Go.Proofs.YtmlgajhhnojdjaaGreatDoor.FlwP Go.Proofs.YtmlgajhhnojdjaaGreatDoor.FlwQ Go.Proofs.YtmlgajhhnojdjaaGreatDoor.FlwS Go.Proofs.YtmlgajhhnojdjaaGreatDoor.FlwX Go.Proofs.YtmlgajhhnojdjaaGreatDoor.FlwY Go.Proofs.YtmlgajhhnojdjaaGreatDoor.MadA Go.Proofs.YtmlgajhhnojdjaaGreatDoor.MadM

def Q0 : QP := ⟨locs, []⟩
def Right (l : ML) (m m' : MM) : Prop := faultyQ Q0 (l.q 0) m.st = false ∧ passQ Q0 (l.q 0) m.st = m'.st
instance (l : ML) (m m' : MM) : Decidable (Right l m m') := inferInstanceAs (Decidable (_ ∧ _))
set_option maxRecDepth 20000 in
theorem new_right : ∀ (p q a b : Bool) (o : Fin 3) (i : Fin 5), (⟨p, q, a, b, o⟩ : MM).can i = true → Right (.new i) ⟨p, q, a, b, o⟩ ((⟨p, q, a, b, o⟩ : MM).now i true) := by decide
set_option maxRecDepth 20000 in
theorem load_right : ∀ (p q a b : Bool) (o : Fin 3) (i : Fin 5), (⟨p, q, a, b, o⟩ : MM).has i = true → Right (.load i) ⟨p, q, a, b, o⟩ ⟨p, q, a, b, o⟩ := by decide
set_option maxRecDepth 20000 in
theorem store_right : ∀ (p q a b : Bool) (o : Fin 3) (i : Fin 5), (⟨p, q, a, b, o⟩ : MM).has i = true → Right (.store i) ⟨p, q, a, b, o⟩ ⟨p, q, a, b, o⟩ := by decide
set_option maxRecDepth 40000 in
theorem move_right : ∀ (p q a b : Bool) (o : Fin 3) (i k : Fin 5), ((⟨p, q, a, b, o⟩ : MM).has k && ((⟨p, q, a, b, o⟩ : MM).can i || i == k)) = true → Right (.move i k) ⟨p, q, a, b, o⟩ (((⟨p, q, a, b, o⟩ : MM).now k false).now i true) := by decide
set_option maxRecDepth 20000 in
theorem drop_right : ∀ (p q a b : Bool) (o : Fin 3) (i : Fin 5), (⟨p, q, a, b, o⟩ : MM).can i = true → Right (.drop i) ⟨p, q, a, b, o⟩ ((⟨p, q, a, b, o⟩ : MM).now i false) := by decide
set_option maxRecDepth 20000 in
theorem some_right : ∀ (p q a b : Bool) (o : Fin 3) (k : Fin 5), (⟨p, q, a, b, o⟩ : MM).has k = true → Right (.some k) ⟨p, q, a, b, o⟩ (((⟨p, q, a, b, o⟩ : MM).now k false).now 4 true) := by decide
theorem step_right {m m' : MM} {kind : Nat} {i k : Fin 5} {l : ML} (h : m.step kind i k = some (l, m')) : Right l m m' := by
  obtain ⟨p, q, a, b, o⟩ := m
  unfold MM.step at h
  split at h
  · split at h
    · rename_i hc; cases h; exact new_right p q a b o i hc
    · cases h
  · split at h
    · split at h
      · rename_i hc; cases h; exact load_right p q a b o i hc
      · cases h
    · split at h
      · split at h
        · rename_i hc; cases h; exact store_right p q a b o i hc
        · cases h
      · split at h
        · split at h
          · rename_i hc; cases h; exact move_right p q a b o i k hc
          · cases h
        · split at h
          · split at h
            · rename_i hc; cases h; exact drop_right p q a b o i hc
            · cases h
          · split at h
            · rename_i hc; cases h; exact some_right p q a b o k hc
            · cases h
/-- the next of the first four -/
def nx (k : Fin 5) : Fin 5 := match k with | 0 => 1 | 1 => 2 | 2 => 3 | 3 => 0 | 4 => 1
set_option maxRecDepth 20000 in
theorem bad_wrong : ∀ (p q a b : Bool) (o : Fin 3) (k : Fin 5), (⟨p, q, a, b, o⟩ : MM).has k = false →
    faultyQ Q0 ((ML.load k).q 0) (stM p q a b o) = true ∧ faultyQ Q0 ((ML.store k).q 0) (stM p q a b o) = true ∧ faultyQ Q0 ((ML.move (nx k) k).q 0) (stM p q a b o) = true := by decide
theorem now_has (m : MM) (k : Fin 5) : (m.now k false).has k = false := by
  match k with | 0 => rfl | 1 => rfl | 2 => rfl | 3 => rfl | 4 => rfl
theorem has_can (m : MM) (k : Fin 5) (h : m.has k = true) : m.can k = true := by
  obtain ⟨p, q, a, b, o⟩ := m
  revert h; revert k; revert o; revert p q a b; decide
/-- lines that were made: none is wrong, and this comes of them -/
inductive Made : List ML → MM → Prop
  | start : Made [] ⟨false, false, false, false, 0⟩
  | line {L : List ML} {m m' : MM} {l : ML} : Made L m → Right l m m' → Made (L ++ [l]) m'
theorem fault_num (bl : List (List QLine)) (l : ML) (n : Nat) (s : List Nat) : faultyQ ⟨locs, bl⟩ (l.q n) s = faultyQ Q0 (l.q 0) s ∧ passQ ⟨locs, bl⟩ (l.q n) s = passQ Q0 (l.q 0) s := by
  cases l <;> exact ⟨rfl, rfl⟩
theorem qlines_app : ∀ (L M : List ML) (n : Nat), qlines (L ++ M) n = qlines L n ++ qlines M (n + L.length)
  | [], _, _ => by simp [qlines]
  | l :: L, M, n => by
    rw [List.cons_append, qlines, qlines, qlines_app L M (n + 1), List.length_cons, show n + 1 + L.length = n + (L.length + 1) by omega]; rfl
theorem made_quiet {L : List ML} {m : MM} (h : Made L m) (bl : List (List QLine)) : faultL ⟨locs, bl⟩ (headQ ++ qlines L 8) startSt = none ∧ endG (passQ ⟨locs, bl⟩) (headQ ++ qlines L 8) startSt = m.st := by
  induction h with
  | start =>
    have h : faultL Q0 headQ startSt = none ∧ endG (passQ Q0) headQ startSt = stM false false false false 0 := by decide
    exact h
  | @line L m m' l hM hr ih =>
    obtain ⟨i1, i2⟩ := ih
    obtain ⟨f1, f2⟩ := fault_num bl l (8 + L.length) m.st
    have e : headQ ++ qlines (L ++ [l]) 8 = (headQ ++ qlines L 8) ++ [l.q (8 + L.length)] := by rw [qlines_app, List.append_assoc]; rfl
    constructor
    · rw [e, faultL_app, i1, i2, faultL, f1, hr.1]; rfl
    · rw [e, endG, List.foldl_append]
      show passQ ⟨locs, bl⟩ (l.q (8 + L.length)) (endG (passQ ⟨locs, bl⟩) (headQ ++ qlines L 8) startSt) = _
      rw [i2, f2, hr.2]
/-- a wrong line, whatever comes behind it -/
theorem made_wrong {L : List ML} {m : MM} (h : Made L m) {l : ML} (hw : faultyQ Q0 (l.q 0) m.st = true) (M : List ML) (bl : List (List QLine)) (c : QLine) : faultL ⟨locs, bl⟩ (headQ ++ qlines (L ++ l :: M) 8 ++ [c]) startSt = some (8 + L.length) := by
  obtain ⟨i1, i2⟩ := made_quiet h bl
  obtain ⟨f1, f2⟩ := fault_num bl l (8 + L.length) m.st
  have e : headQ ++ qlines (L ++ l :: M) 8 ++ [c] = (headQ ++ qlines L 8) ++ (l.q (8 + L.length) :: (qlines M (8 + L.length + 1) ++ [c])) := by rw [qlines_app, qlines]; simp
  have hn : (l.q (8 + L.length)).num = 8 + L.length := by cases l <;> rfl
  rw [e, faultL_app, i1, i2, faultL, f1, hw, if_pos rfl, hn]; rfl
/-- none wrong, to the end -/
theorem made_right {L : List ML} {m : MM} (h : Made L m) (bl : List (List QLine)) : faultL ⟨locs, bl⟩ (headQ ++ qlines L 8 ++ [endQ (8 + L.length)]) startSt = none := by
  obtain ⟨i1, i2⟩ := made_quiet h bl
  have he : ∀ (p q a b : Bool) (o : Fin 3), faultyQ Q0 (endQ 0) (stM p q a b o) = false := by decide
  have he' : faultyQ ⟨locs, bl⟩ (endQ (8 + L.length)) m.st = false := he m.p m.q m.a m.b m.o
  rw [faultL_app, i1, i2, faultL, he']; rfl
theorem made_next (L : List ML) : ∀ l ∈ headQ ++ qlines L 8 ++ [endQ (8 + L.length)], l.next = [] := by
  intro l hl
  simp only [List.mem_append, List.mem_singleton] at hl
  rcases hl with (hl | hl) | rfl
  · revert l; decide
  · obtain ⟨m, n, rfl⟩ := qlines_mem _ _ _ hl; cases m <;> rfl
  · rfl
theorem outsL_none (q : QP) : ∀ (ls : List QLine) (s : List Nat), (∀ l ∈ ls, l.next = []) → outsL q ls s = []
  | [], _, _ => rfl
  | l :: ls, s, h => by
    rw [outsL, h l (List.mem_cons_self ..)]
    exact outsL_none q ls _ fun x hx => h x (List.mem_cons_of_mem _ hx)
/-- of one block that leads nowhere the ways are those it starts with -/
theorem one_block {q : QP} {E : List (List Nat)} {O : Nat → Bool} {ls : List QLine} (hq : q.blocks = [ls]) (hn : ∀ l ∈ ls, l.next = []) (h : InvF q E O) : firstSome (faultB q E) q.blocks.length 0 = faultL q ls startSt := by
  have hl : q.blocks.length = 1 := by rw [hq]; rfl
  have hb : q.blocks.getD 0 [] = ls := by rw [hq]; rfl
  have hU : QClosed q (fun _ => startSt) := ⟨fun _ _ => startSt_ok, leS_refl _, fun b hb' _ x hx => by
    have : b = 0 := by omega
    subst this
    rw [hb, outsL_none q ls _ hn] at hx; cases hx⟩
  have h1 := h.inv.least _ hU 0 (by omega)
  have h2 := h.inv.start
  have hs := h.inv.ok.at (i := 0) (by rw [h.inv.len]; omega)
  have he : E.getD 0 [] = startSt := by
    refine ext24 hs.len (by decide) fun k hk => ?_
    have a1 := h1 k hk
    have a2 := h2 k hk
    unfold le1 at a1 a2
    rw [Nat.or_comm, a2] at a1
    exact a1
  rw [hl]
  show (faultB q E 0).or none = _
  unfold faultB
  rw [he, if_neg startSt_ne, hb, Option.or_none]
end Go.Proofs.YtmlgajhhnojdjaaGreatDoor.MadB
/- Programs that are made line by line: the maker's steps, walked. -/
namespace Go.Proofs.YtmlgajhhnojdjaaGreatDoor.MadC
open Go Go.RowKit Go.Proofs.YtmlgajhhnojdjaaGreatDoor.Spec Go.Proofs.YtmlgajhhnojdjaaGreatDoor.Aux Go.Proofs.YtmlgajhhnojdjaaGreatDoor.PrjJ Go.Proofs.YtmlgajhhnojdjaaGreatDoor.PrjK Go.Proofs.YtmlgajhhnojdjaaGreatDoor.MadA Go.Proofs.YtmlgajhhnojdjaaGreatDoor.MadM

def obyte (o : Fin 3) : Nat := match o with | 0 => 110 | 1 => 119 | 2 => 104
/-- the maker in memory -/
def MakAt (w : World) (a : Nat) (T : ByteArray) (n : Nat) (m : MM) : Prop :=
  w.heap[a]? = some (.cells #[.string T, .int .i64 n, .bool m.p, .bool m.q, .bool m.a, .bool m.b, .bool (m.o == 1), .int .u8 (obyte m.o : Nat)] 30 (0, 0))
section
variable {w w' : World} {a : Nat} {T : ByteArray} {n : Nat} {m : MM}
theorem MakAt.facts (h : MakAt w a T n m) : w.cell? ⟨a, 0, none⟩ = some (.string T) ∧ w.cell? ⟨a, 1, none⟩ = some (.int .i64 n) ∧ w.cell? ⟨a, 7, none⟩ = some (.int .u8 (obyte m.o : Nat)) ∧ w.frozen? ⟨a, 0, none⟩ = false ∧ w.frozen? ⟨a, 1, none⟩ = false ∧ w.frozen? ⟨a, 7, none⟩ = false := by
  unfold MakAt at h
  exact ⟨by rw [cell_of_heap h]; rfl, by rw [cell_of_heap h]; rfl, by rw [cell_of_heap h]; rfl, frozen_of_heap h 0, frozen_of_heap h 1, frozen_of_heap h 7⟩
theorem MakAt.has (h : MakAt w a T n m) (k : Fin 5) : w.cell? ⟨a, 2 + k.val, none⟩ = some (.bool (m.has k)) := by
  unfold MakAt at h
  rw [cell_of_heap h]
  match k with | 0 => rfl | 1 => rfl | 2 => rfl | 3 => rfl | 4 => rfl
theorem MakAt.lt (h : MakAt w a T n m) : a < w.heap.size := lt_of_heap h
theorem MakAt.below (h : MakAt w a T n m) (hb : Below w.heap.size w w') : MakAt w' a T n m := by
  unfold MakAt; rw [hb.block a h.lt]; exact h
theorem MakAt.line (h : MakAt w a T n m) (T' : ByteArray) (n' : Nat) : MakAt ((w.setCell ⟨a, 0, none⟩ (.string T')).setCell ⟨a, 1, none⟩ (.int .i64 n')) a T' n' m := by
  unfold MakAt at h ⊢
  have h1 := Aux.heap_setCell_same h 0 (.string T')
  rw [Aux.heap_setCell_same h1 1]; rfl
def pickN (c : Int) (n : Nat) : Nat := ((if c < 0 then -(c + 1) else c) % n).toNat
theorem pickN_lt (c : Int) {n : Nat} (hn : 0 < n) : pickN c n < n := by
  unfold pickN
  have h1 := Int.emod_nonneg (if c < 0 then -(c + 1) else c) (b := (n : Int)) (by omega)
  have h2 := Int.emod_lt_of_pos (if c < 0 then -(c + 1) else c) (b := (n : Int)) (by omega)
  omega
end
theorem pick_any (c : Int) (n : Nat) (w : World) (hc : -9223372036854775808 ≤ c ∧ c ≤ 9223372036854775807) (hn : 0 < n ∧ n ≤ 10000000) : Calls Tryz.prog 16 #[.int .i64 c, .int .i64 n] w fun e w' => e = .returned (.int .i64 (pickN c n : Nat)) ∧ w' = w := by
  have hz : ((n : Int) == 0) = false := by rw [beq_eq_false_iff_ne]; omega
  by_cases h : c < 0
  · go_enter Tryz.func16, Tryz.ntmps16
    go_wp2
    go_ret
    refine ⟨?_, rfl⟩
    have e : -((c + 1).tmod (n : Int)) = ((pickN c n : Nat) : Int) := by
      unfold pickN
      rw [if_pos h, ← Int.neg_tmod, Int.tmod_eq_emod_of_nonneg (by omega), Int.toNat_of_nonneg (Int.emod_nonneg _ (by omega))]
    show Ending.returned (Value.int .i64 (-((c + 1).tmod (n : Int)))) = _
    rw [e]
  · go_enter Tryz.func16, Tryz.ntmps16
    go_wp2
    go_ret
    refine ⟨?_, rfl⟩
    have e : c % (n : Int) = ((pickN c n : Nat) : Int) := by
      unfold pickN
      rw [if_neg (by omega), Int.toNat_of_nonneg (Int.emod_nonneg _ (by omega))]
    show Ending.returned (Value.int .i64 (c % (n : Int))) = _
    rw [e]
set_option maxRecDepth 20000 in
theorem place_any (k : Fin 5) (w : World) : Calls Tryz.prog 18 #[.int .i64 (k.val : Nat)] w fun e w' => e = .returned (.string (bs (plc k))) ∧ Below w.heap.size w w' := by
  have hb : ∀ b, Below w.heap.size w (w.alloc b) := fun b => (Below.refl _ _).alloc (Nat.le_refl _) _
  match k with
  | 0 => go_enter Tryz.func18, Tryz.ntmps18; go_wp2; go_ret; exact ⟨rfl, hb _⟩
  | 1 => go_enter Tryz.func18, Tryz.ntmps18; go_wp2; go_ret; exact ⟨rfl, hb _⟩
  | 2 => go_enter Tryz.func18, Tryz.ntmps18; go_wp2; go_ret; exact ⟨rfl, hb _⟩
  | 3 => go_enter Tryz.func18, Tryz.ntmps18; go_wp2; go_ret; exact ⟨rfl, hb _⟩
  | 4 => go_enter Tryz.func18, Tryz.ntmps18; go_wp2; go_ret; exact ⟨rfl, hb _⟩
section
variable {w : World} {a : Nat} {T : ByteArray} {n : Nat} {m : MM}
set_option maxRecDepth 20000 in
theorem line_any (h : MakAt w a T n m) (s : ByteArray) (hT : T.size ≤ 1000000) (hs : s.size ≤ 1000) (hn : n ≤ 1000) : Calls Tryz.prog 17 #[.pointer (some ⟨a, 0, none⟩), .string s] w fun e w' => e = .returned (.tuple #[]) ∧ MakAt w' a (T ++ ⟨#[10]⟩ ++ s) (n + 1) m ∧ Turn a w w' := by
  obtain ⟨c0, c1, -, f0, f1, -⟩ := h.facts
  go_enter Tryz.func17, Tryz.ntmps17
  go_wp2
  go_end0
  exact ⟨rfl, h.line _ _, ((Turn.refl _ _).setCell 0 _).setCell 1 _⟩
theorem can_any (h : MakAt w a T n m) (k : Fin 5) : Calls Tryz.prog 37 #[.pointer (some ⟨a, 0, none⟩), .int .i64 (k.val : Nat)] w fun e w' => e = .returned (.bool (m.can k)) ∧ w' = w := by
  obtain ⟨-, -, c7, -⟩ := h.facts
  by_cases hk : k.val < 4
  · have hm : m.can k = true := by simp [MM.can, hk]
    rw [hm]
    go_enter Tryz.func37, Tryz.ntmps37
    go_wp2
    go_ret
    exact ⟨rfl, rfl⟩
  · have hm : m.can k = !(m.o == 0) := by simp [MM.can, hk]
    have hki : decide ((k.val : Int) < 4) = false := by rw [decide_eq_false_iff_not]; omega
    rw [hm]
    obtain ⟨p, q, a', b, o⟩ := m
    match o with
    | 0 =>
      go_enter Tryz.func37, Tryz.ntmps37
      go_wp2
      go_ret
      exact ⟨by simp only [obyte]; rfl, rfl⟩
    | 1 =>
      go_enter Tryz.func37, Tryz.ntmps37
      go_wp2
      go_ret
      exact ⟨rfl, rfl⟩
    | 2 =>
      go_enter Tryz.func37, Tryz.ntmps37
      go_wp2
      go_ret
      exact ⟨by simp only [obyte]; rfl, rfl⟩
set_option maxRecDepth 20000 in
theorem now_any (h : MakAt w a T n m) (k : Fin 5) (v : Bool) : Calls Tryz.prog 19 #[.pointer (some ⟨a, 0, none⟩), .int .i64 (k.val : Nat), .bool v] w fun e w' => e = .returned (.tuple #[]) ∧ MakAt w' a T n (m.now k v) ∧ Turn a w w' := by
  obtain ⟨-, -, c7, -, -, f7⟩ := h.facts
  have ck := h.has k
  have fk : w.frozen? ⟨a, 2 + k.val, none⟩ = false := by unfold MakAt at h; exact frozen_of_heap h _
  have hh := h
  unfold MakAt at hh
  match k with
  | 0 =>
    have h1 : MakAt (w.setCell ⟨a, 2, none⟩ (.bool v)) a T n (m.now 0 v) := by unfold MakAt; rw [Aux.heap_setCell_same hh 2]; rfl
    have ck' : w.cell? ⟨a, 2, none⟩ = some (.bool (m.has 0)) := ck
    have fk' : w.frozen? ⟨a, 2, none⟩ = false := fk
    have K : Calls Tryz.prog 19 #[.pointer (some ⟨a, 0, none⟩), .int .i64 0, .bool v] w fun e w' => e = .returned (.tuple #[]) ∧ MakAt w' a T n (m.now 0 v) ∧ Turn a w w' := by
      go_enter Tryz.func19, Tryz.ntmps19
      go_wp2
      go_end0
      exact ⟨rfl, h1, (Turn.refl _ _).setCell _ _⟩
    exact K
  | 1 =>
    have h1 : MakAt (w.setCell ⟨a, 3, none⟩ (.bool v)) a T n (m.now 1 v) := by unfold MakAt; rw [Aux.heap_setCell_same hh 3]; rfl
    have ck' : w.cell? ⟨a, 3, none⟩ = some (.bool (m.has 1)) := ck
    have fk' : w.frozen? ⟨a, 3, none⟩ = false := fk
    have K : Calls Tryz.prog 19 #[.pointer (some ⟨a, 0, none⟩), .int .i64 1, .bool v] w fun e w' => e = .returned (.tuple #[]) ∧ MakAt w' a T n (m.now 1 v) ∧ Turn a w w' := by
      go_enter Tryz.func19, Tryz.ntmps19
      go_wp2
      go_end0
      exact ⟨rfl, h1, (Turn.refl _ _).setCell _ _⟩
    exact K
  | 2 =>
    have h1 : MakAt (w.setCell ⟨a, 4, none⟩ (.bool v)) a T n (m.now 2 v) := by unfold MakAt; rw [Aux.heap_setCell_same hh 4]; rfl
    have ck' : w.cell? ⟨a, 4, none⟩ = some (.bool (m.has 2)) := ck
    have fk' : w.frozen? ⟨a, 4, none⟩ = false := fk
    have K : Calls Tryz.prog 19 #[.pointer (some ⟨a, 0, none⟩), .int .i64 2, .bool v] w fun e w' => e = .returned (.tuple #[]) ∧ MakAt w' a T n (m.now 2 v) ∧ Turn a w w' := by
      go_enter Tryz.func19, Tryz.ntmps19
      go_wp2
      go_end0
      exact ⟨rfl, h1, (Turn.refl _ _).setCell _ _⟩
    exact K
  | 3 =>
    have h1 : MakAt (w.setCell ⟨a, 5, none⟩ (.bool v)) a T n (m.now 3 v) := by unfold MakAt; rw [Aux.heap_setCell_same hh 5]; rfl
    have ck' : w.cell? ⟨a, 5, none⟩ = some (.bool (m.has 3)) := ck
    have fk' : w.frozen? ⟨a, 5, none⟩ = false := fk
    have K : Calls Tryz.prog 19 #[.pointer (some ⟨a, 0, none⟩), .int .i64 3, .bool v] w fun e w' => e = .returned (.tuple #[]) ∧ MakAt w' a T n (m.now 3 v) ∧ Turn a w w' := by
      go_enter Tryz.func19, Tryz.ntmps19
      go_wp2
      go_end0
      exact ⟨rfl, h1, (Turn.refl _ _).setCell _ _⟩
    exact K
  | 4 =>
    have h1 := Aux.heap_setCell_same hh 6 (.bool v)
    cases v
    · have h2 : MakAt ((w.setCell ⟨a, 6, none⟩ (.bool false)).setCell ⟨a, 7, none⟩ (.int .u8 104)) a T n (m.now 4 false) := by unfold MakAt; rw [Aux.heap_setCell_same h1 7]; rfl
      go_enter Tryz.func19, Tryz.ntmps19
      go_wp2
      go_end0
      exact ⟨rfl, h2, ((Turn.refl _ _).setCell _ _).setCell _ _⟩
    · have h2 : MakAt ((w.setCell ⟨a, 6, none⟩ (.bool true)).setCell ⟨a, 7, none⟩ (.int .u8 119)) a T n (m.now 4 true) := by unfold MakAt; rw [Aux.heap_setCell_same h1 7]; rfl
      go_enter Tryz.func19, Tryz.ntmps19
      go_wp2
      go_end0
      exact ⟨rfl, h2, ((Turn.refl _ _).setCell _ _).setCell _ _⟩
end
end Go.Proofs.YtmlgajhhnojdjaaGreatDoor.MadC
