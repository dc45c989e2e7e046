/- Plain facts: a run of a checked program always comes to an answer, whatever is held from line to line. -/
import Derived.Test.YtmlgajhhnojdjaaGreatDoorKBG
import Derived.Test.YtmlgajhhnojdjaaGreatDoorKBI
import Derived.Test.YtmlgajhhnojdjaaGreatDoorKBH
namespace Go.Proofs.YtmlgajhhnojdjaaGreatDoor.RunB
open Go Go.Proofs.YtmlgajhhnojdjaaGreatDoor.Spec Go.Proofs.YtmlgajhhnojdjaaGreatDoor.Aux Go.Proofs.YtmlgajhhnojdjaaGreatDoor.Own Go.Proofs.YtmlgajhhnojdjaaGreatDoor.RunA Go.Proofs.YtmlgajhhnojdjaaGreatDoor.PrjS Go.Proofs.YtmlgajhhnojdjaaGreatDoor.FlwA Go.Proofs.YtmlgajhhnojdjaaGreatDoor.FlwB Go.Proofs.YtmlgajhhnojdjaaGreatDoor.FlwC Go.Proofs.YtmlgajhhnojdjaaGreatDoor.FlwD Go.Proofs.YtmlgajhhnojdjaaGreatDoor.FlwE Go.Proofs.YtmlgajhhnojdjaaGreatDoor.FlwF Go.Proofs.YtmlgajhhnojdjaaGreatDoor.FlwG Go.Proofs.YtmlgajhhnojdjaaGreatDoor.FlwH Go.Proofs.YtmlgajhhnojdjaaGreatDoor.FlwI Go.Proofs.YtmlgajhhnojdjaaGreatDoor.FlwJ Go.Proofs.YtmlgajhhnojdjaaGreatDoor.FlwK Go.Proofs.YtmlgajhhnojdjaaGreatDoor.FlwM Go.Proofs.YtmlgajhhnojdjaaGreatDoor.FlwO Go.Proofs.YtmlgajhhnojdjaaGreatDoor.FlwP Go.Proofs.YtmlgajhhnojdjaaGreatDoor.FlwQ Go.Proofs.YtmlgajhhnojdjaaGreatDoor.FlwS Go.Proofs.YtmlgajhhnojdjaaGreatDoor.FlwV Go.Proofs.YtmlgajhhnojdjaaGreatDoor.FlwY Go.Proofs.YtmlgajhhnojdjaaGreatDoor.FlwZ

/-- what is held from line to line -/
structure Steps (q : QP) (J : List Nat → Own.Own → Prop) : Prop where
  do1 : ∀ l s o, LnOk q l → goesOn l.op → SOk s → faultyQ q l s = false → J s o → o.need l = true ∧ J (passQ q l s) (o.do1 q l)
  clc : ∀ l s o, LnOk q l → l.op = 6 → SOk s → faultyQ q l s = false → J s o → J (passQ q l s) (o.calc l)
  new : ∀ l s o, LnOk q l → l.op = 9 → SOk s → faultyQ q l s = false → J s o → J (passQ q l s) ((o.drop [plOf l 0]).new (plOf l 0) (o.num (plOf l 1)))
  term : ∀ l s o, LnOk q l → l.op = 18 ∨ l.op = 19 ∨ l.op = 20 → SOk s → faultyQ q l s = false → J s o → J (stepS l (if o.other l then 1 else 0) s) o
  mono : ∀ s t o, SOk s → SOk t → leS s t → J s o → J t o
/-- how a run stands at its end -/
def Fin' (q : QP) (J : List Nat → Own.Own → Prop) (room : Int) (ans : Nat × Int × Own.Own) : Prop :=
  ∃ s o, J s o ∧ ((ans = (2, 0, o)) ∨ (ans = (4, 0, o)) ∨ (∃ l, LnOk q l ∧ l.op = 9 ∧ (o.drop [plOf l 0]).yd.live ≥ room ∧ ans = (3, 0, o.drop [plOf l 0])) ∨ ∃ l, LnOk q l ∧ l.op = 22 ∧ ans = (1, o.num (plOf l 0), o.dropAll q q.locals.length))
theorem fit_steps {q : QP} (hls : q.locals.length ≤ 12) : Steps q (FitL q) where
  do1 := fun _ _ _ hl hgo _ hf h => line_fit hl hls hf h hgo
  clc := fun _ _ _ hl hop _ _ h => calc_fit hl h hop
  new := fun _ _ _ _ hop _ _ h => new_fit h hop _
  term := fun _ _ _ _ _ _ _ h => term_fit hls h
  mono := fun _ _ _ _ ht hl h => FitX.mono h ht.len hl
theorem whole_cons {l : QLine} {ls : List QLine} (h : Whole (l :: ls)) : (18 ≤ l.op ∧ ls = []) ∨ (l.op < 18 ∧ Whole ls) := by
  obtain ⟨us, t, e, h1, h2⟩ := h
  cases us with
  | nil => simp only [List.nil_append, List.cons.injEq] at e; exact .inl ⟨by rw [e.1]; exact h1, e.2⟩
  | cons a us =>
    simp only [List.cons_append, List.cons.injEq] at e
    exact .inr ⟨by rw [e.1]; exact h2 a (List.mem_cons_self ..), us, t, e.2, h1, fun m hm => h2 m (List.mem_cons_of_mem _ hm)⟩
theorem next_none {q : QP} {l : QLine} (hl : LnOk q l) (h : l.op < 18) : l.next = [] := by
  have key : ∀ op : Fin 18, ((wantsOf op.val).filter (· == 98)).length = 0 := by decide
  have := hl.ok.nlen
  rw [show ((wantsOf l.op).filter (· == 98)).length = 0 from key ⟨l.op, h⟩] at this
  exact List.length_eq_zero_iff.mp this
theorem op_cases {q : QP} {l : QLine} (hl : LnOk q l) : goesOn l.op ∨ l.op = 6 ∨ l.op = 9 ∨ l.op = 18 ∨ l.op = 19 ∨ l.op = 20 ∨ l.op = 22 := by
  have h1 := hl.ok.op
  have h2 := hl.ok.op2
  have h3 := hl.has
  unfold hasP at h3
  unfold goesOn
  by_cases e : l.op = 16 ∨ l.op = 17 ∨ l.op = 21
  · rw [if_neg (by omega), if_pos e] at h3; cases h3
  · omega
theorem outs_at (l : QLine) (s : List Nat) {i : Nat} (hi : i < l.next.length) (h2 : l.next.length ≤ 2) : (l.next.getD i 0, stepS l i s) ∈ outsN l l.next 0 s := by
  match hn : l.next, h2 with
  | [], _ => rw [hn] at hi; simp at hi
  | [n], _ =>
    rw [hn] at hi
    have : i = 0 := by simp at hi; omega
    subst this
    simp [outsN]
  | [n, m], _ =>
    rw [hn] at hi
    have : i = 0 ∨ i = 1 := by simp at hi; omega
    rcases this with rfl | rfl
    · simp [outsN]
    · have e : stepS l 1 (stepS l 0 s) = stepS l 1 s := by
        unfold stepS
        split
        · simp only [putL, List.foldl_cons, List.foldl_nil, List.set_set]
        · rfl
      simp [outsN, e]
  | _ :: _ :: _ :: _, h => simp at h
theorem ok_pl {q : QP} {l : QLine} (hls : q.locals.length ≤ 12) (hl : LnOk q l) : PlOk l := fun x hx => by have := (hl.ok.places x hx).1; omega
theorem run_ok {q : QP} {J : List Nat → Own.Own → Prop} (hls : q.locals.length ≤ 12) (hS : Shape q) (hq : QOk q.blocks.length q) (U : Nat → List Nat) (hU : QClosed q U) (hfull : ∀ b, b < q.blocks.length → U b = zeroSt ∨ Full (U b))
    (hgood : ∀ b, b < q.blocks.length → ¬ U b = zeroSt → faultL q (q.blocks.getD b []) (U b) = none) (H : Steps q J) (room : Int) :
    ∀ (f : Nat) (ls : List QLine) (s : List Nat) (o : Own.Own), Whole ls → (∀ l ∈ ls, LnOk q l) → SOk s → Full s → faultL q ls s = none → (∀ x ∈ outsL q ls s, leS x.2 (U x.1)) → J s o → ∃ ans, runO q room f ls o = some ans ∧ Fin' q J room ans
  | f, [], s, o, hw, _, _, _, _, _, _ => by
    obtain ⟨us, t, e, -⟩ := hw
    simp at e
  | 0, l :: ls, s, o, _, _, _, _, _, _, h => ⟨(2, 0, o), rfl, s, o, h, .inl rfl⟩
  | f + 1, l :: ls, s, o, hw, hln, hs, hf, hfa, hout, h => by
    have hl := hln l (List.mem_cons_self ..)
    rw [faultL] at hfa
    have hfq : faultyQ q l s = false := by
      cases hv : faultyQ q l s with
      | false => rfl
      | true => rw [hv, if_pos rfl] at hfa; cases hfa
    rw [hfq, if_neg (by decide)] at hfa
    rcases whole_cons hw with ⟨h18, rfl⟩ | ⟨h18, hw2⟩
    · have ho := op_cases hl
      unfold goesOn at ho
      by_cases h22 : l.op = 22
      · refine ⟨_, ?_, s, o, h, .inr (.inr (.inr ⟨l, hl, h22, rfl⟩))⟩
        rw [runO, if_neg (by omega), if_neg (by omega), if_neg (by omega), if_pos h22]
      · have hop : l.op = 18 ∨ l.op = 19 ∨ l.op = 20 := by omega
        have hnl : l.next.length = if l.op = 18 then 1 else 2 := by
          rw [hl.ok.nlen]
          rcases hop with e | e | e <;> rw [e] <;> rfl
        have hi : (if o.other l then 1 else 0) < l.next.length := by
          rw [hnl]
          by_cases e : l.op = 18
          · have : o.other l = false := by rw [Own.other, if_neg (by omega), if_neg (by omega)]
            rw [this, if_pos e]; decide
          · rw [if_neg e]; split <;> omega
        have hp : passQ q l s = s := pass_not (by rcases hop with e | e | e <;> rw [e] <;> rfl) (by omega) (by omega) (by omega)
        have hmem := outs_at l s hi (by rw [hnl]; split <;> omega)
        have hle := hout (l.next.getD (if o.other l then 1 else 0) 0, stepS l (if o.other l then 1 else 0) s) (by rw [outsL, hp]; exact List.mem_append_left _ hmem)
        have hb : l.next.getD (if o.other l then 1 else 0) 0 < q.blocks.length := hl.ok.next _ (by rw [List.getD_eq_getElem?_getD, List.getElem?_eq_getElem hi]; exact List.getElem_mem _)
        have hst := stepS_ok l (if o.other l then 1 else 0) hs
        have hne := nonzero_of_le hst hle (full_ne (full_step l _ hf))
        have hJ := H.mono _ _ _ hst (hU.ok _ hb) hle (H.term l s o hl hop hs hfq h)
        obtain ⟨ans, h1, h2⟩ := run_ok hls hS hq U hU hfull hgood H room f (q.blocks.getD (l.next.getD (if o.other l then 1 else 0) 0) []) _ o (hS.whole _ hb) (fun m hm => ⟨hq.lines _ (getD_memB hm) m hm, hS.has _ m hm, hS.fits _ m hm⟩) (hU.ok _ hb) ((hfull _ hb).resolve_left hne) (hgood _ hb hne) (fun x hx => hU.step _ hb hne x hx) hJ
        refine ⟨ans, ?_, h2⟩
        rw [runO, if_neg (by omega), if_neg (by omega), if_pos hop, if_pos rfl]
        exact h1
    · have hnx := next_none hl h18
      have hs2 := passQ_ok q l hs
      have hf2 := full_pass q (ok_pl hls hl) hf
      have hout2 : ∀ x ∈ outsL q ls (passQ q l s), leS x.2 (U x.1) := fun x hx => hout x (by rw [outsL, hnx]; simpa [outsN, stN] using hx)
      have ih := fun o' (hJ : J (passQ q l s) o') => run_ok hls hS hq U hU hfull hgood H room f ls (passQ q l s) o' hw2 (fun m hm => hln m (List.mem_cons_of_mem _ hm)) hs2 hf2 hfa hout2 hJ
      rcases op_cases hl with hgo | hop | hop | hop | hop | hop | hop
      · obtain ⟨hn, hJ⟩ := H.do1 l s o hl hgo hs hfq h
        obtain ⟨ans, h1, h2⟩ := ih _ hJ
        refine ⟨ans, ?_, h2⟩
        have hgo' := hgo
        unfold goesOn at hgo'
        rw [runO, if_neg (by omega), if_neg (by omega), if_neg (by omega), if_neg (by omega), if_pos hn]
        exact h1
      · by_cases hz : o.num (plOf l 2) = 0
        · refine ⟨_, ?_, s, o, h, .inr (.inl rfl)⟩
          rw [runO, if_pos hop, if_pos hz]
        · obtain ⟨ans, h1, h2⟩ := ih _ (H.clc l s o hl hop hs hfq h)
          refine ⟨ans, ?_, h2⟩
          rw [runO, if_pos hop, if_neg hz]
          exact h1
      · by_cases hr : (o.drop [plOf l 0]).yd.live ≥ room
        · refine ⟨_, ?_, s, o, h, .inr (.inr (.inl ⟨l, hl, hop, hr, rfl⟩))⟩
          rw [runO, if_neg (by omega), if_pos hop, if_pos hr]
        · obtain ⟨ans, h1, h2⟩ := ih _ (H.new l s o hl hop hs hfq h)
          refine ⟨ans, ?_, h2⟩
          rw [runO, if_neg (by omega), if_pos hop, if_neg hr]
          exact h1
      · omega
      · omega
      · omega
      · omega
theorem firstSome_none (f : Nat → Option Nat) : ∀ (m k : Nat), firstSome f m k = none → ∀ c, k ≤ c → c < k + m → f c = none
  | 0, _, _, c, h1, h2 => by omega
  | m + 1, k, h, c, h1, h2 => by
    rw [firstSome] at h
    cases hk : f k with
    | some v => rw [hk] at h; cases h
    | none =>
      rw [hk, Option.none_or] at h
      by_cases e : c = k
      · rw [e]; exact hk
      · exact firstSome_none f m (k + 1) h c (by omega) (by omega)
/-- a run of a program that was checked -/
theorem run_checked {text : B} {p : RP} {q : QP} {E : List (List Nat)} (hD : Done text p q E) (hr : prjRead text false = (some q, 0, 0)) (hn : firstSome (faultB q E) q.blocks.length 0 = none) {J : List Nat → Own.Own → Prop} (H : Steps q J) {inp : List Int} (hJ : J startSt (Own.start inp)) (room : Int) (f : Nat) :
    ∃ ans, runO q room f (q.blocks.getD 0 []) (Own.start inp) = some ans ∧ Fin' q J room ans := by
  have hS := read_shape hr
  have hq := hD.both.qok
  have hls := hD.both.twelve
  have hI := hD.inv.inv
  have hU : QClosed q (fun b => E.getD b []) := ⟨fun b hb => hD.ok hb, hI.start, fun b hb hz x hx => hI.step b hb rfl hz x hx⟩
  have h0 : ¬ E.getD 0 [] = zeroSt := nonzero_of_le ⟨by decide, fun k => by
    by_cases hk : k < 24
    · have : startSt.getD k 0 = 1 := by show (List.replicate 24 1).getD k 0 = 1; rw [List.getD_eq_getElem?_getD, List.getElem?_replicate, if_pos hk]; rfl
      rw [this]; decide
    · rw [List.getD_eq_getElem?_getD, List.getElem?_eq_none (by show (List.replicate 24 1).length ≤ k; simp; omega)]; decide⟩ hI.start (full_ne full_startSt)
  have hgood : ∀ b, b < q.blocks.length → ¬ E.getD b [] = zeroSt → faultL q (q.blocks.getD b []) (E.getD b []) = none := fun b hb hz => by
    have := firstSome_none _ _ _ hn b (Nat.zero_le _) (by omega)
    rw [faultB, if_neg hz] at this
    exact this
  have hstok : SOk startSt := ⟨by decide, fun k => by
    by_cases hk : k < 24
    · have : startSt.getD k 0 = 1 := by show (List.replicate 24 1).getD k 0 = 1; rw [List.getD_eq_getElem?_getD, List.getElem?_replicate, if_pos hk]; rfl
      rw [this]; decide
    · rw [List.getD_eq_getElem?_getD, List.getElem?_eq_none (by show (List.replicate 24 1).length ≤ k; simp; omega)]; decide⟩
  exact run_ok hls hS hq (fun b => E.getD b []) hU hD.inv.full hgood H room f (q.blocks.getD 0 []) (E.getD 0 []) (Own.start inp) (hS.whole 0 hD.pos) (fun m hm => ⟨hq.lines _ (getD_memB hm) m hm, hS.has _ m hm, hS.fits _ m hm⟩) (hD.ok hD.pos) ((hD.inv.full 0 hD.pos).resolve_left h0) (hgood 0 hD.pos h0) (fun x hx => hU.step 0 hD.pos h0 x hx) (H.mono _ _ _ hstok (hD.ok hD.pos) hI.start hJ)
end Go.Proofs.YtmlgajhhnojdjaaGreatDoor.RunB
/- Plain facts: a run of the bare machine always comes to an answer; what its trace says is right. -/
namespace Go.Proofs.YtmlgajhhnojdjaaGreatDoor.Ex
open Go Go.Proofs.YtmlgajhhnojdjaaGreatDoor.Spec Go.Proofs.YtmlgajhhnojdjaaGreatDoor.Aux Go.Proofs.YtmlgajhhnojdjaaGreatDoor.Own Go.Proofs.YtmlgajhhnojdjaaGreatDoor.RunA Go.Proofs.YtmlgajhhnojdjaaGreatDoor.RunB Go.Proofs.YtmlgajhhnojdjaaGreatDoor.PrjS Go.Proofs.YtmlgajhhnojdjaaGreatDoor.FlwA Go.Proofs.YtmlgajhhnojdjaaGreatDoor.FlwE Go.Proofs.YtmlgajhhnojdjaaGreatDoor.FlwS Go.Proofs.YtmlgajhhnojdjaaGreatDoor.Bal

structure Held (q : QP) (b : Br) : Prop where
  fit : b.Fit q
  bal : ∃ cs, BalY cs b.yd
section
variable {q : QP} {b : Br} {l : QLine} {p : Nat × Nat}
theorem place_of (hl : RLn q l) {j : Nat} (hj : j < l.places.length) : (plOf l j).1 < q.locals.length ∧ (plOf l j).2 ≤ 3 :=
  hl.ok.places _ (by unfold plOf; rw [List.getD_eq_getElem?_getD, List.getElem?_eq_getElem hj]; exact List.getElem_mem _)
theorem box_tag {x : Nat × Nat} (h : q.okPlace x 112 = true) : isTag q x = false := by
  have := (kind_box h).2.2
  unfold isTag; rw [this]; rfl
theorem opt_tag {x : Nat × Nat} (h : q.okPlace x 111 = true) (h3 : x.2 ≤ 3) : isTag q x = true := by
  obtain ⟨h1, h2⟩ := kind_opt h h3
  unfold isTag QP.kindV; rw [if_neg (by omega), h1]; rfl
theorem not_dead (h : b.dead q p = false) : (b.cell q p).1 = true ∧ (b.yd.at (b.val q p).toNat).2 = true := by
  unfold Br.dead at h
  simpa using h
theorem live_in {cs : List Nat} {y : Yd} (h : BalY cs y) {n : Nat} (hn : 1 ≤ n) (hl : (y.at n).2 = true) : n ∈ cs := by
  have := h.tal n hn
  unfold liveN at this
  rw [if_pos hl] at this
  exact List.count_pos_iff.1 (by omega)
theorem free_bal {y : Yd} (h : ∃ cs, BalY cs y) {n : Nat} (hn : 1 ≤ n) (hl : (y.at n).2 = true) : ∃ cs, BalY cs (y.free n) := by
  obtain ⟨cs, h⟩ := h
  have hm := live_in h hn hl
  refine ⟨cs.erase n, BalY.free (h.congr fun k _ => ?_) hn⟩
  rw [List.count_cons, List.count_erase]
  have : 1 ≤ cs.count n := List.count_pos_iff.2 hm
  by_cases e : n = k
  · subst e; simp; omega
  · have : (n == k) = false := by simp; omega
    rw [this]; simp
theorem Held.yard (h : Held q b) {y : Yd} (hm : y.made.length = b.yd.made.length) (hy : ∃ cs, BalY cs y) : Held q { b with yd := y } :=
  ⟨⟨h.fit.len, fun k hk ht hf => by have := h.fit.bx k hk ht hf; show _ ∧ _ ≤ (y.made.length : Int); rw [hm]; exact this, h.fit.tg⟩, hy⟩
theorem empty_one (h : b.empty q [p] = false) : (b.cell q p).1 = true := by simpa [Br.empty] using h
theorem empty_all {ps : List (Nat × Nat)} (h : b.empty q ps = false) : ∀ y ∈ ps, (b.cell q y).1 = true := fun y hy => by
  unfold Br.empty at h
  have := List.any_eq_false.1 h y hy
  simpa using this
theorem copies_yd (q : QP) (ts fs : List (Nat × Nat)) (b : Br) : ∀ k, (Br.copies q ts fs k b).yd = b.yd
  | 0 => rfl
  | k + 1 => copies_yd q ts fs b k
theorem move_yd (q : QP) (b : Br) (t f : Nat × Nat) : (b.move q t f).yd = b.yd := by
  unfold Br.move; split
  · exact copies_yd _ _ _ _ _
  · exact copies_yd _ _ _ _ _
theorem do1_made (q : QP) (b : Br) (l : QLine) : (b.do1 q l).yd.made.length = b.yd.made.length := by
  unfold Br.do1
  split
  · rfl
  split
  · rfl
  split
  · rfl
  split
  · rfl
  split
  · rfl
  split
  · simp [Yd.store, Yd.note]
  split
  · simp [Yd.free, Yd.note]
  split
  · rw [move_yd]
  split
  · rfl
  split
  · rfl
  split
  · rfl
  · rfl
/-- a statement behind which a run goes on -/
theorem line_held (h12 : q.locals.length ≤ 12) (hl : RLn q l) (hop : l.op = 2 ∨ l.op = 3 ∨ l.op = 4 ∨ l.op = 5 ∨ l.op = 7 ∨ l.op = 8 ∨ l.op = 10 ∨ l.op = 11 ∨ l.op = 16 ∨ l.op = 12 ∨ l.op = 13 ∨ l.op = 14 ∨ l.op = 17) (hb : b.breaks q l = false) (h : Held q b) : DoOk q b l ∧ Held q (b.do1 q l) := by
  have int0 : l.op = 2 ∨ l.op = 3 ∨ l.op = 4 ∨ l.op = 5 ∨ l.op = 7 ∨ l.op = 10 → q.tyOf (plOf l 0).1 = 0 ∧ (plOf l 0).1 < 12 := fun ho => by
    have hlen : 0 < l.places.length := by rcases ho with e | e | e | e | e | e <;> (rw [hl.ok.plen, e]; decide)
    have k0 := fits_at hl.fits (j := 0) hlen
    have hw : (wantsOf l.op).getD 0 0 = 105 := by rcases ho with e | e | e | e | e | e <;> (rw [e]; rfl)
    rw [hw] at k0
    exact ⟨kind_int k0, by have := (place_of hl hlen).1; omega⟩
  have hw : ∀ {b' : Br} (v : Int), Held q b' → (l.op = 2 ∨ l.op = 3 ∨ l.op = 4 ∨ l.op = 5 ∨ l.op = 7 ∨ l.op = 10) → Held q (b'.write q (plOf l 0) v) := fun v h' ho => ⟨h'.fit.write (int0 ho).2 (.inl (int0 ho).1), h'.bal⟩
  have hdo : ∀ (a1 : l.op = 17 → 0 ≤ l.flag ∧ l.flag < 50) (a2 : l.op = 12 → (QP.halvesQ q (plOf l 0)).length = (QP.halvesQ q (plOf l 1)).length) (a3 : l.op = 11 ∨ l.op = 16 → 1 ≤ b.val q (plOf l 0) ∧ b.val q (plOf l 0) ≤ b.yd.made.length) (a4 : l.op = 10 → 1 ≤ b.val q (plOf l 1) ∧ b.val q (plOf l 1) ≤ b.yd.made.length), DoOk q b l := fun a1 a2 a3 a4 => ⟨hop, a1, a2, a3, a4⟩
  unfold Br.do1
  unfold Br.breaks at hb
  rcases hop with e | e | e | e | e | e | e | e | e | e | e | e | e
  · refine ⟨hdo (by omega) (by omega) (by omega) (by omega), ?_⟩
    rw [if_pos e]; exact hw _ h (by omega)
  · refine ⟨hdo (by omega) (by omega) (by omega) (by omega), ?_⟩
    rw [if_neg (by omega), if_pos (by omega)]; exact hw _ h (by omega)
  · refine ⟨hdo (by omega) (by omega) (by omega) (by omega), ?_⟩
    rw [if_neg (by omega), if_pos (by omega)]; exact hw _ h (by omega)
  · refine ⟨hdo (by omega) (by omega) (by omega) (by omega), ?_⟩
    rw [if_neg (by omega), if_pos (by omega)]; exact hw _ h (by omega)
  · refine ⟨hdo (by omega) (by omega) (by omega) (by omega), ?_⟩
    rw [if_neg (by omega), if_neg (by omega), if_pos (by omega)]
    exact hw _ (b' := { b with inp := b.inp.tail }) ⟨⟨h.fit.len, h.fit.bx, h.fit.tg⟩, h.bal⟩ (by omega)
  · refine ⟨hdo (by omega) (by omega) (by omega) (by omega), ?_⟩
    rw [if_neg (by omega), if_neg (by omega), if_neg (by omega), if_pos (by omega)]
    obtain ⟨cs, hc⟩ := h.bal
    exact h.yard rfl ⟨cs, hc.out _⟩
  · have hlen : l.places.length = 2 := by rw [hl.ok.plen, e]; rfl
    have k1 := fits_at hl.fits (j := 1) (by omega)
    rw [e] at k1
    rw [if_neg (by omega), if_neg (by omega), if_neg (by omega), if_neg (by omega), if_pos e] at hb
    obtain ⟨d1, d2⟩ := not_dead hb
    have p1 := (place_of hl (j := 1) (by omega)).1
    have hv := h.fit.val (by omega) (box_tag (x := plOf l 1) k1) (kind_box (x := plOf l 1) k1).1 d1
    refine ⟨hdo (by omega) (by omega) (by omega) (fun _ => hv), ?_⟩
    rw [if_neg (by omega), if_neg (by omega), if_neg (by omega), if_neg (by omega), if_pos (by omega)]
    obtain ⟨cs, hc⟩ := h.bal
    exact hw _ (h.yard (y := b.yd.load (b.val q (plOf l 1)).toNat) rfl ⟨cs, hc.load (by omega) (live_in hc (by omega) d2)⟩) (by omega)
  · have hlen : l.places.length = 2 := by rw [hl.ok.plen, e]; rfl
    have k0 := fits_at hl.fits (j := 0) (by omega)
    rw [e] at k0
    rw [if_neg (by omega), if_neg (by omega), if_neg (by omega), if_neg (by omega), if_neg (by omega), if_pos e, Bool.or_eq_false_iff] at hb
    obtain ⟨d1, d2⟩ := not_dead hb.1
    have p0 := (place_of hl (j := 0) (by omega)).1
    have hv := h.fit.val (by omega) (box_tag (x := plOf l 0) k0) (kind_box (x := plOf l 0) k0).1 d1
    refine ⟨hdo (by omega) (by omega) (fun _ => hv) (by omega), ?_⟩
    rw [if_neg (by omega), if_neg (by omega), if_neg (by omega), if_neg (by omega), if_neg (by omega), if_pos (by omega)]
    obtain ⟨cs, hc⟩ := h.bal
    exact h.yard (by simp [Yd.store, Yd.note]) ⟨cs, hc.store (by omega) (live_in hc (by omega) d2) _⟩
  · have hlen : l.places.length = 1 := by rw [hl.ok.plen, e]; rfl
    have k0 := fits_at hl.fits (j := 0) (by omega)
    rw [e] at k0
    rw [if_neg (by omega), if_neg (by omega), if_neg (by omega), if_neg (by omega), if_neg (by omega), if_neg (by omega), if_pos e] at hb
    obtain ⟨d1, d2⟩ := not_dead hb
    have p0 := (place_of hl (j := 0) (by omega)).1
    have hv := h.fit.val (by omega) (box_tag (x := plOf l 0) k0) (kind_box (x := plOf l 0) k0).1 d1
    refine ⟨hdo (by omega) (by omega) (fun _ => hv) (by omega), ?_⟩
    rw [if_neg (by omega), if_neg (by omega), if_neg (by omega), if_neg (by omega), if_neg (by omega), if_neg (by omega), if_pos (by omega)]
    exact h.yard (by simp [Yd.free, Yd.note]) (free_bal h.bal (by omega) d2)
  · have hlen : l.places.length = 2 := by rw [hl.ok.plen, e]; rfl
    have k0 := fits_at hl.fits (j := 0) (by omega)
    have k1 := fits_at hl.fits (j := 1) (by omega)
    rw [e] at k0 k1
    have hkv := fits_same hl.fits e
    have p0 := place_of hl (j := 0) (by omega)
    have p1 := place_of hl (j := 1) (by omega)
    have hhl : (QP.halvesQ q (plOf l 0)).length = (QP.halvesQ q (plOf l 1)).length := by
      rcases halves_cases q (plOf l 0) with ⟨a1, a2⟩ | ⟨a1, a2, a3⟩ <;> rcases halves_cases q (plOf l 1) with ⟨c1, c2⟩ | ⟨c1, c2, c3⟩ <;> rw [a1, c1]
      · rfl
      · exfalso
        unfold QP.kindV at hkv
        rw [if_neg (show ¬ ((plOf l 1).2 = 1 ∨ (plOf l 1).2 = 2 ∨ (plOf l 1).2 = 3) by omega)] at hkv
        by_cases hp : (plOf l 0).2 = 1 ∨ (plOf l 0).2 = 2 ∨ (plOf l 0).2 = 3
        · rw [if_pos hp] at hkv; omega
        · rw [if_neg hp] at hkv; exact a2 ⟨by omega, by omega⟩
      · exfalso
        unfold QP.kindV at hkv
        rw [if_neg (show ¬ ((plOf l 0).2 = 1 ∨ (plOf l 0).2 = 2 ∨ (plOf l 0).2 = 3) by omega)] at hkv
        by_cases hp : (plOf l 1).2 = 1 ∨ (plOf l 1).2 = 2 ∨ (plOf l 1).2 = 3
        · rw [if_pos hp] at hkv; omega
        · rw [if_neg hp] at hkv; exact c2 ⟨by omega, by omega⟩
      · rfl
    rw [if_neg (by omega), if_neg (by omega), if_neg (by omega), if_pos e] at hb
    refine ⟨hdo (by omega) (fun _ => hhl) (by omega) (by omega), ?_⟩
    rw [if_neg (by omega), if_neg (by omega), if_neg (by omega), if_neg (by omega), if_neg (by omega), if_neg (by omega), if_neg (by omega), if_pos (by omega)]
    refine ⟨h.fit.move (by omega) (by omega) hkv (kind_thing (x := plOf l 1) k1) hhl (empty_all hb), ?_⟩
    rw [move_yd]; exact h.bal
  · have hlen : l.places.length = 1 := by rw [hl.ok.plen, e]; rfl
    have k0 := fits_at hl.fits (j := 0) (by omega)
    rw [e] at k0
    have p0 := place_of hl (j := 0) (by omega)
    refine ⟨hdo (by omega) (by omega) (by omega) (by omega), ?_⟩
    rw [if_neg (by omega), if_neg (by omega), if_neg (by omega), if_neg (by omega), if_neg (by omega), if_neg (by omega), if_neg (by omega), if_neg (by omega), if_pos (by omega)]
    exact ⟨h.fit.write (by omega) (.inr (.inl ⟨opt_tag (x := plOf l 0) k0 p0.2, by decide⟩)), h.bal⟩
  · have hlen : l.places.length = 2 := by rw [hl.ok.plen, e]; rfl
    have k0 := fits_at hl.fits (j := 0) (by omega)
    have k1 := fits_at hl.fits (j := 1) (by omega)
    rw [e] at k0 k1
    have p0 := place_of hl (j := 0) (by omega)
    have p1 := place_of hl (j := 1) (by omega)
    rw [if_neg (by omega), if_neg (by omega), if_pos (by omega)] at hb
    have hf1 := empty_one hb
    have ht0 := opt_tag (x := plOf l 0) k0 p0.2
    have ht1 := box_tag (x := plOf l 1) k1
    have hv := h.fit.val (by omega) ht1 (kind_box (x := plOf l 1) k1).1 hf1
    refine ⟨hdo (by omega) (by omega) (by omega) (by omega), ?_⟩
    rw [if_neg (by omega), if_neg (by omega), if_neg (by omega), if_neg (by omega), if_neg (by omega), if_neg (by omega), if_neg (by omega), if_neg (by omega), if_neg (by omega), if_pos (by omega)]
    have ev : (b.write q (plOf l 0) 1).val q (plOf l 1) = b.val q (plOf l 1) := by
      show ((b.cs.set (cellOf q (plOf l 0)) (true, 1)).getD (cellOf q (plOf l 1)) (false, 0)).2 = _
      have := slot_lt (x := plOf l 1) (by omega)
      rw [getD_put, if_neg (by rw [is_tag ht0, not_tag ht1]; omega)]; rfl
    rw [ev]
    exact ⟨h.fit.both (by omega) ht0 1 hv, h.bal⟩
  · refine ⟨hdo (fun _ => hl.flag (.inl e)) (by omega) (by omega) (by omega), ?_⟩
    rw [if_neg (by omega), if_neg (by omega), if_neg (by omega), if_neg (by omega), if_neg (by omega), if_neg (by omega), if_neg (by omega), if_neg (by omega), if_neg (by omega), if_neg (by omega), if_pos (by omega)]
    exact ⟨⟨h.fit.len, h.fit.bx, h.fit.tg⟩, h.bal⟩
theorem calc_held (h12 : q.locals.length ≤ 12) (hl : RLn q l) (hop : l.op = 6) (h : Held q b) : Held q (b.calc q l) := by
  have hlen : l.places.length = 3 := by rw [hl.ok.plen, hop]; rfl
  have k0 := fits_at hl.fits (j := 0) (by omega)
  rw [hop] at k0
  have p0 := place_of hl (j := 0) (by omega)
  exact ⟨h.fit.write (by have := p0.1; unfold plOf at this; omega) (.inl (kind_int (x := plOf l 0) k0)), h.bal⟩
theorem new_held (h12 : q.locals.length ≤ 12) (hl : RLn q l) (hop : l.op = 9) (v : Int) (h : Held q b) : Held q (b.new q (plOf l 0) v) := by
  have hlen : l.places.length = 2 := by rw [hl.ok.plen, hop]; rfl
  have k0 := fits_at hl.fits (j := 0) (by omega)
  rw [hop] at k0
  have p0 := (place_of hl (j := 0) (by omega)).1
  obtain ⟨cs, hc⟩ := h.bal
  have hmade : (b.yd.build v).made.length = b.yd.made.length + 1 := by simp [Yd.build, Yd.note]
  have h1 : ({ b with yd := b.yd.build v } : Br).Fit q := ⟨h.fit.len, fun k hk ht hf => by
    have hx := h.fit.bx k hk ht hf
    refine ⟨hx.1, Int.le_trans hx.2 ?_⟩
    show (b.yd.made.length : Int) ≤ ((b.yd.build v).made.length : Int)
    rw [hmade]; omega, h.fit.tg⟩
  refine ⟨h1.write (by omega) (.inr (.inr ⟨box_tag (x := plOf l 0) k0, by omega, ?_⟩)), ⟨_, hc.build v⟩⟩
  show _ ≤ ((b.yd.build v).made.length : Int)
  rw [hmade]; omega
/-- a run comes to an answer -/
theorem run_held (h12 : q.locals.length ≤ 12) (room : Int) (hblk : ∀ j, j < q.blocks.length → Whole (q.blocks.getD j [])) (hln : ∀ j, ∀ l ∈ q.blocks.getD j [], RLn q l) :
    ∀ (f : Nat) (ls : List QLine) (b : Br), Whole ls → (∀ l ∈ ls, RLn q l) → Held q b → ∃ ans, runB q room f ls b = some ans ∧ Held q ans.2.2 ∧ (ans.1 = 1 ∨ ans.1 = 2 ∨ ans.1 = 3 ∨ ans.1 = 4 ∨ ans.1 = 5) ∧ ans.2.2.yd.made.length ≤ b.yd.made.length + f
  | f, [], b, hw, _, _ => by obtain ⟨us, t, e, -⟩ := hw; simp at e
  | 0, l :: ls, b, _, _, h => ⟨(2, 0, b), rfl, h, by simp, Nat.le_refl _⟩
  | f + 1, l :: ls, b, hw, hl, h => by
    have hl0 := hl l (List.mem_cons_self ..)
    have o1 := hl0.ok.op
    have o2 := hl0.ok.op2
    have o3 := hl0.has
    rw [runB]
    cases hb : b.breaks q l
    · rw [if_neg (by simp)]
      rcases whole_cons hw with ⟨h18, rfl⟩ | ⟨h18, hw2⟩
      · by_cases h22 : l.op = 22
        · rw [if_neg (by omega), if_neg (by omega), if_neg (by omega), if_pos h22]
          exact ⟨_, rfl, h, by simp, by show b.yd.made.length ≤ _; omega⟩
        · rw [if_neg (by omega), if_neg (by omega), if_pos (by omega), if_pos rfl]
          have hnl : l.next.length = if l.op = 18 then 1 else 2 := by
            rw [hl0.ok.nlen]
            have : l.op = 18 ∨ l.op = 19 ∨ l.op = 20 ∨ l.op = 21 := by omega
            rcases this with e | e | e | e <;> rw [e] <;> rfl
          have hi : (if b.other q l then 1 else 0) < l.next.length := by
            rw [hnl]
            by_cases e : l.op = 18
            · have : b.other q l = false := by rw [Br.other, if_neg (by omega), if_neg (by omega), if_neg (by omega)]
              rw [this, if_pos e]; decide
            · rw [if_neg e]; split <;> omega
          have hbb : l.next.getD (if b.other q l then 1 else 0) 0 < q.blocks.length := hl0.ok.next _ (by rw [List.getD_eq_getElem?_getD, List.getElem?_eq_getElem hi]; exact List.getElem_mem _)
          obtain ⟨ans, h1, h2, h3, h4⟩ := run_held h12 room hblk hln f _ b (hblk _ hbb) (hln _) h
          exact ⟨ans, h1, h2, h3, by omega⟩
      · have hl' : ∀ m ∈ ls, RLn q m := fun m hm => hl m (List.mem_cons_of_mem _ hm)
        by_cases h6 : l.op = 6
        · rw [if_pos h6]
          split
          · exact ⟨_, rfl, h, by simp, by show b.yd.made.length ≤ _; omega⟩
          · obtain ⟨ans, h1, h2, h3, h4⟩ := run_held h12 room hblk hln f ls _ hw2 hl' (calc_held h12 hl0 h6 h)
            exact ⟨ans, h1, h2, h3, by have e : (b.calc q l).yd.made.length = b.yd.made.length := rfl; omega⟩
        · rw [if_neg h6]
          by_cases h9 : l.op = 9
          · rw [if_pos h9]
            split
            · exact ⟨_, rfl, h, by simp, by show b.yd.made.length ≤ _; omega⟩
            · obtain ⟨ans, h1, h2, h3, h4⟩ := run_held h12 room hblk hln f ls _ hw2 hl' (new_held h12 hl0 h9 (b.val q (plOf l 1)) h)
              refine ⟨ans, h1, h2, h3, ?_⟩
              have e : (b.new q (plOf l 0) (b.val q (plOf l 1))).yd.made.length = b.yd.made.length + 1 := by simp [Br.new, Br.write, Yd.build, Yd.note]
              omega
          · rw [if_neg h9, if_neg (by omega), if_neg (by omega)]
            obtain ⟨-, hd⟩ := line_held h12 hl0 (by omega) hb h
            obtain ⟨ans, h1, h2, h3, h4⟩ := run_held h12 room hblk hln f ls _ hw2 hl' hd
            refine ⟨ans, h1, h2, h3, ?_⟩
            have e := do1_made q b l
            omega
    · rw [if_pos rfl]
      exact ⟨_, rfl, h, by simp, by show b.yd.made.length ≤ _; omega⟩
end
end Go.Proofs.YtmlgajhhnojdjaaGreatDoor.Ex
/- Plain facts: what the bare machine has stays within bounds. -/
namespace Go.Proofs.YtmlgajhhnojdjaaGreatDoor.Ex
open Go Go.Proofs.YtmlgajhhnojdjaaGreatDoor.Spec Go.Proofs.YtmlgajhhnojdjaaGreatDoor.Aux Go.Proofs.YtmlgajhhnojdjaaGreatDoor.Own Go.Proofs.YtmlgajhhnojdjaaGreatDoor.RunA Go.Proofs.YtmlgajhhnojdjaaGreatDoor.RunB Go.Proofs.YtmlgajhhnojdjaaGreatDoor.PrjS Go.Proofs.YtmlgajhhnojdjaaGreatDoor.FlwA

/-- within bounds: t words at most -/
structure Br.In (b : Br) (t : Nat) : Prop where
  many : b.yd.made.length ≤ t
  trace : b.yd.trace.length ≤ t
  live : -(t : Int) ≤ b.yd.live ∧ b.yd.live ≤ t
  words : ∀ x ∈ b.yd.trace, x.length ≤ 30
  nums : ∀ c ∈ b.cs, isI64 c.2
  inp : ∀ n ∈ b.inp, isI64 n
  made : ∀ m ∈ b.yd.made, isI64 m.1
section
variable {q : QP} {b : Br} {t u : Nat}
theorem Br.In.mono (h : b.In t) (ht : t ≤ u) : b.In u := ⟨by have := h.many; omega, by have := h.trace; omega, by have := h.live; omega, h.words, h.nums, h.inp, h.made⟩
theorem Br.In.ok (h : b.In t) (ht : t ≤ 1000000) : b.yd.Ok := ⟨by have := h.many; omega, by have := h.trace; omega, by have := h.live; omega, h.words⟩
theorem Br.In.val (h : b.In t) (q : QP) (p : Nat × Nat) : isI64 (b.val q p) := by
  unfold Br.val Br.cell
  rw [List.getD_eq_getElem?_getD]
  cases hx : b.cs[cellOf q p]? with
  | none => exact zero_i64
  | some c => exact h.nums c (List.mem_of_getElem? hx)
theorem Br.In.write (h : b.In t) (q : QP) (p : Nat × Nat) {v : Int} (hv : isI64 v) : (b.write q p v).In t :=
  ⟨h.many, h.trace, h.live, h.words, fun c hc => by
    rcases List.mem_or_eq_of_mem_set hc with hc | rfl
    · exact h.nums c hc
    · exact hv, h.inp, h.made⟩
theorem Br.In.note (h : b.In t) (c : UInt8) {n : Int} (hn : isI64 n) : ({ b with yd := b.yd.note c n } : Br).In (t + 1) :=
  ⟨by have := h.many; show b.yd.made.length ≤ _; omega, by have := h.trace; show (b.yd.trace ++ [_]).length ≤ _; simp; omega, by have := h.live; show -((t + 1 : Nat) : Int) ≤ b.yd.live ∧ b.yd.live ≤ _; omega, note_words hn h.words, h.nums, h.inp, h.made⟩
theorem Br.In.at (h : b.In t) (n : Nat) : isI64 (b.yd.at n).1 := by
  unfold Yd.at
  rw [List.getD_eq_getElem?_getD]
  cases hx : b.yd.made[n - 1]? with
  | none => exact zero_i64
  | some c => exact h.made c (List.mem_of_getElem? hx)
theorem num_i64 {n : Nat} (h : n ≤ 1000000) : isI64 ((n : Nat) : Int) := by unfold isI64; omega
theorem Br.In.made_set (h : b.In t) (n : Nat) {m : Int × Bool} (hm : isI64 m.1) (k : Int) (hk : -(t : Int) ≤ k ∧ k ≤ t) : ({ b with yd := { b.yd with made := b.yd.made.set n m, live := k } } : Br).In t :=
  ⟨by simpa using h.many, h.trace, hk, h.words, h.nums, h.inp, fun c hc => by
    rcases List.mem_or_eq_of_mem_set hc with hc | rfl
    · exact h.made c hc
    · exact hm⟩
theorem Br.In.free (h : b.In t) {n : Nat} (hn : n ≤ 1000000) : ({ b with yd := b.yd.free n } : Br).In (t + 1) := by
  have h1 := (h.mono (Nat.le_succ t)).made_set (n - 1) (m := ((b.yd.at n).1, false)) (h.at n) (b.yd.live - 1) (by have := h.live; omega)
  have h2 := h1.note 45 (num_i64 hn)
  exact ⟨by have := h.many; show (b.yd.made.set _ _).length ≤ _; simp; omega, by have := h.trace; show (b.yd.trace ++ [_]).length ≤ _; simp; omega, by have := h.live; show -((t + 1 : Nat) : Int) ≤ b.yd.live - 1 ∧ b.yd.live - 1 ≤ _; omega, h2.words, h2.nums, h2.inp, h2.made⟩
theorem Br.In.store (h : b.In t) {n : Nat} (hn : n ≤ 1000000) {v : Int} (hv : isI64 v) : ({ b with yd := b.yd.store n v } : Br).In (t + 1) := by
  have h2 := h.note 62 (num_i64 hn)
  exact ⟨by have := h.many; show (b.yd.made.set _ _).length ≤ _; simp; omega, h2.trace, h2.live, h2.words, h2.nums, h2.inp, fun c hc => by
    rcases List.mem_or_eq_of_mem_set hc with hc | rfl
    · exact h.made c hc
    · exact hv⟩
theorem Br.In.new (h : b.In t) (ht : t ≤ 999999) (q : QP) (p : Nat × Nat) {v : Int} (hv : isI64 v) : (b.new q p v).In (t + 1) := by
  have hm := h.many
  have h1 : ({ b with yd := b.yd.build v } : Br).In (t + 1) := by
    refine ⟨by show (b.yd.made ++ [_]).length ≤ _; simp; omega, by have := h.trace; show (b.yd.trace ++ [_]).length ≤ _; simp; omega, by have := h.live; show -((t + 1 : Nat) : Int) ≤ b.yd.live + 1 ∧ b.yd.live + 1 ≤ _; omega, ?_, h.nums, h.inp, fun c hc => ?_⟩
    · exact note_words (y := { b.yd with made := b.yd.made ++ [(v, true)], live := b.yd.live + 1 }) (num_i64 (by omega)) h.words
    · rcases List.mem_append.1 hc with hc | hc
      · exact h.made c hc
      · rw [List.mem_singleton.1 hc]; exact hv
  exact h1.write q p (num_i64 (by omega))
theorem Br.In.calc (h : b.In t) (q : QP) (l : QLine) : (b.calc q l).In t := h.write q _ (calc_i64 _ _ _)
theorem Br.In.copies (h : b.In t) (q : QP) (ts fs : List (Nat × Nat)) : ∀ k, (Br.copies q ts fs k b).In t
  | 0 => h
  | k + 1 => (Br.In.copies h q ts fs k).write q _ ((Br.In.copies h q ts fs k).val q _)
theorem Br.In.move (h : b.In t) (q : QP) (x y : Nat × Nat) : (b.move q x y).In t := by
  have h1 : (b.moved q x y).In t := Br.In.copies h q _ _ _
  unfold Br.move; split
  · exact h1.write q _ (h1.val q _)
  · exact h1
theorem Br.In.do1 (h : b.In t) (ht : t ≤ 999999) (q : QP) {l : QLine} (hd : DoOk q b l) (hnum : isI64 l.number) : (b.do1 q l).In (t + 1) := by
  have hm := h.many
  have h' := h.mono (Nat.le_succ t)
  have one : isI64 1 := by unfold isI64; omega
  obtain ⟨hop, -, -, h0, h1⟩ := hd
  unfold Br.do1
  rcases hop with e | e | e | e | e | e | e | e | e | e | e | e | e
  · rw [if_pos e]; exact h'.write q _ hnum
  · rw [if_neg (by omega), if_pos (by omega)]; exact h'.calc q l
  · rw [if_neg (by omega), if_pos (by omega)]; exact h'.calc q l
  · rw [if_neg (by omega), if_pos (by omega)]; exact h'.calc q l
  · rw [if_neg (by omega), if_neg (by omega), if_pos (by omega)]
    refine Br.In.write (b := { b with inp := b.inp.tail }) ⟨h'.many, h'.trace, h'.live, h'.words, h'.nums, fun n hn => h.inp n (List.mem_of_mem_tail hn), h'.made⟩ q _ ?_
    cases hi : b.inp with
    | nil => exact zero_i64
    | cons v r => exact h.inp v (by rw [hi]; exact List.mem_cons_self ..)
  · rw [if_neg (by omega), if_neg (by omega), if_neg (by omega), if_pos (by omega)]; exact h.note 111 (h.val q _)
  · rw [if_neg (by omega), if_neg (by omega), if_neg (by omega), if_neg (by omega), if_pos (by omega)]
    have hb := h1 e
    exact Br.In.write (h.note 60 (num_i64 (by omega))) q _ (h.at _)
  · rw [if_neg (by omega), if_neg (by omega), if_neg (by omega), if_neg (by omega), if_neg (by omega), if_pos (by omega)]
    have hb := h0 (.inl e)
    exact h.store (by omega) (h.val q _)
  · rw [if_neg (by omega), if_neg (by omega), if_neg (by omega), if_neg (by omega), if_neg (by omega), if_neg (by omega), if_pos (by omega)]
    have hb := h0 (.inr e)
    exact h.free (by omega)
  · rw [if_neg (by omega), if_neg (by omega), if_neg (by omega), if_neg (by omega), if_neg (by omega), if_neg (by omega), if_neg (by omega), if_pos (by omega)]; exact h'.move q _ _
  · rw [if_neg (by omega), if_neg (by omega), if_neg (by omega), if_neg (by omega), if_neg (by omega), if_neg (by omega), if_neg (by omega), if_neg (by omega), if_pos (by omega)]; exact h'.write q _ zero_i64
  · rw [if_neg (by omega), if_neg (by omega), if_neg (by omega), if_neg (by omega), if_neg (by omega), if_neg (by omega), if_neg (by omega), if_neg (by omega), if_neg (by omega), if_pos (by omega)]; exact (h'.write q _ one).write q _ ((h'.write q _ one).val q _)
  · rw [if_neg (by omega), if_neg (by omega), if_neg (by omega), if_neg (by omega), if_neg (by omega), if_neg (by omega), if_neg (by omega), if_neg (by omega), if_neg (by omega), if_neg (by omega), if_pos (by omega)]; exact ⟨h'.many, h'.trace, h'.live, h'.words, h'.nums, h'.inp, h'.made⟩
theorem Br.In.start {inp : List Int} (h : ∀ n ∈ inp, isI64 n) : (Br.start inp).In 0 :=
  ⟨Nat.le_refl _, Nat.le_refl _, (by show -((0 : Nat) : Int) ≤ 0 ∧ (0 : Int) ≤ ((0 : Nat) : Int); omega), (fun x hx => by cases hx), (fun c hc => by rw [List.eq_of_mem_replicate hc]; exact zero_i64), h, (fun m hm => by cases hm)⟩
theorem start_held (q : QP) (inp : List Int) : Held q (Br.start inp) := by
  have hz : ∀ k, (Br.start inp).cs.getD k (false, 0) = (false, 0) := fun k => by
    show (List.replicate 36 (false, (0 : Int))).getD k (false, 0) = _
    rw [List.getD_eq_getElem?_getD, List.getElem?_replicate]; split <;> rfl
  refine ⟨⟨by simp [Br.start], fun k _ _ hf => ?_, fun i _ _ ht => ?_⟩, [], ⟨fun _ => rfl, fun n hn => ?_, rfl, fun x hx => by cases hx⟩⟩
  · rw [hz] at hf; cases hf
  · rw [hz] at ht; cases ht
  · simp [Bal.liveN, Yd.at, Br.start]
end
end Go.Proofs.YtmlgajhhnojdjaaGreatDoor.Ex
