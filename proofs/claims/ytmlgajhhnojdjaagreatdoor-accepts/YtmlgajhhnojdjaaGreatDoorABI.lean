/- What the project's reader and its flow make of a text, told by the document's own words: plain facts, and the flow's contract. -/
import Derived.Test.YtmlgajhhnojdjaaGreatDoorABG
import Derived.Test.YtmlgajhhnojdjaaGreatDoorABF
import Derived.Test.YtmlgajhhnojdjaaGreatDoorABH
namespace Go.Proofs.YtmlgajhhnojdjaaGreatDoor.FlwZ
open Go Go.RowKit Go.Proofs.YtmlgajhhnojdjaaGreatDoor.Spec Go.Proofs.YtmlgajhhnojdjaaGreatDoor.Aux Go.Proofs.YtmlgajhhnojdjaaGreatDoor.PrjF Go.Proofs.YtmlgajhhnojdjaaGreatDoor.PrjG Go.Proofs.YtmlgajhhnojdjaaGreatDoor.PrjJ Go.Proofs.YtmlgajhhnojdjaaGreatDoor.PrjK Go.Proofs.YtmlgajhhnojdjaaGreatDoor.PrjM Go.Proofs.YtmlgajhhnojdjaaGreatDoor.PrjS Go.Proofs.YtmlgajhhnojdjaaGreatDoor.PrjW Go.Proofs.YtmlgajhhnojdjaaGreatDoor.PrjX Go.Proofs.YtmlgajhhnojdjaaGreatDoor.RefM Go.Proofs.YtmlgajhhnojdjaaGreatDoor.FlwF Go.Proofs.YtmlgajhhnojdjaaGreatDoor.FlwI Go.Proofs.YtmlgajhhnojdjaaGreatDoor.FlwK Go.Proofs.YtmlgajhhnojdjaaGreatDoor.FlwM Go.Proofs.YtmlgajhhnojdjaaGreatDoor.FlwO Go.Proofs.YtmlgajhhnojdjaaGreatDoor.FlwP Go.Proofs.YtmlgajhhnojdjaaGreatDoor.FlwQ Go.Proofs.YtmlgajhhnojdjaaGreatDoor.FlwR Go.Proofs.YtmlgajhhnojdjaaGreatDoor.FlwV Go.Proofs.YtmlgajhhnojdjaaGreatDoor.FlwX Go.Proofs.YtmlgajhhnojdjaaGreatDoor.FlwY

theorem prjRead_bad {text : B} {raw : Bool} {c k : Nat} (h : prjRead text raw = (none, c, k)) : 1 ≤ c ∧ refRead text raw = (none, c, k) := by
  have hc : 1 ≤ c := by
    by_cases hlong : (split 10 text).length > (if raw then 4000 else 120)
    · rw [prjRead, if_pos hlong] at h; simp only [Prod.mk.injEq] at h; omega
    · rw [prjRead, if_neg hlong] at h
      split at h
      · simp only [Prod.mk.injEq] at h; omega
      · split at h
        · simp only [Prod.mk.injEq] at h; omega
        · split at h
          · simp only [Prod.mk.injEq] at h; omega
          · split at h
            · simp only [Prod.mk.injEq] at h; omega
            · cases h
  refine ⟨hc, ?_⟩
  have h2 := (read_same text raw).1
  rw [h] at h2
  simp only at h2
  cases hr : refRead text raw with
  | mk op ck =>
    rw [hr] at h2
    simp only at h2
    subst h2
    cases op with
    | none => rfl
    | some p => have := (refRead_good hr).2.1; omega
theorem prjRead_good {text : B} {raw : Bool} {q : QP} {c k : Nat} (h : prjRead text raw = (some q, c, k)) : c = 0 ∧ k = 0 ∧ ∃ p, refRead text raw = (some p, 0, 0) ∧ Both text raw p q := by
  obtain ⟨p, hb⟩ := read_more (text := text) (raw := raw) (q := q) (by rw [h])
  have h2 := (read_same text raw).1
  have e : refRead text raw = (some p, (refRead text raw).2.1, (refRead text raw).2.2) := by rw [← hb.ref]
  obtain ⟨-, e1, e2, -⟩ := refRead_good e
  have e3 : refRead text raw = (some p, 0, 0) := by rw [e, e1, e2]
  rw [h, e3] at h2
  simp only [Prod.mk.injEq] at h2
  exact ⟨h2.1, h2.2, p, e3, hb⟩
theorem got_below {z a : Nat} {w w' : World} {q : QP} (h : Got z a w q) (hb : Below w.heap.size w w') : Got z a w' q := by
  obtain ⟨vl, vb, us, vss, hp⟩ := h.at_
  exact ⟨⟨vl, vb, us, vss, hp.below hb⟩, h.ok, h.locals, h.blocks, h.lines⟩
theorem both_pos {text : B} {p : RP} {q : QP} (h : Both text false p q) : 0 < q.blocks.length := by
  rw [h.len]; exact h.ok.first.1
/-- the ways of a program that was read, gone to the end -/
theorem flow_any {text : B} {p : RP} {q : QP} {z a : Nat} {w : World} (hB : Both text false p q) (hG : Got z a w q) : Calls Tryz.prog 54 #[.pointer (some ⟨a, 0, none⟩)] w fun e w' =>
    (∃ E', Done text p q E' ∧ e = .returned (ansOf (firstSome (faultB q E') q.blocks.length 0))) ∧ Below w.heap.size w w' := by
  obtain ⟨vl, vb, us, vss, hp⟩ := hG.at_
  refine (FirstFault_any hp (both_pos hB) hG.blocks hB.twelve hB.qok hG.lines (InvF q) (invF_start q (both_pos hB)) (fun E O b _ _ hb hO hI => invF_step q hB.qok hB.twelve E O b hb hO hI)).mono ?_
  rintro e w' ⟨⟨E', -, -, hI, rfl⟩, hb⟩
  exact ⟨⟨E', ⟨hB, hI, (both_pos hB)⟩, rfl⟩, hb⟩
/-- what the project's checked leaves -/
def CheckPost (text : B) (w : World) (e : Ending) (w' : World) : Prop :=
  Below w.heap.size w w' ∧ ((∃ c k : Nat, 1 ≤ c ∧ refRead text false = (none, c, k) ∧ e = .returned (.tuple #[.pointer none, .int .i64 (c : Int), .int .i64 (k : Int)])) ∨
    ∃ p q E, refRead text false = (some p, 0, 0) ∧ prjRead text false = (some q, 0, 0) ∧ Done text p q E ∧ ((∃ n : Nat, firstSome (faultB q E) q.blocks.length 0 = some n ∧ e = .returned (.tuple #[.pointer none, .int .i64 5, .int .i64 (n : Int)])) ∨
      (firstSome (faultB q E) q.blocks.length 0 = none ∧ ∃ a z, e = .returned (.tuple #[.pointer (some ⟨a, 0, none⟩), .int .i64 0, .int .i64 0]) ∧ w.heap.size ≤ z ∧ Got z a w' q)))
/-- its error, its line -/
def chkAns (text : B) (c k : Int) : Prop := (∃ c' k' : Nat, 1 ≤ c' ∧ refRead text false = (none, c', k') ∧ c = c' ∧ k = k') ∨
    ∃ p q E, refRead text false = (some p, 0, 0) ∧ prjRead text false = (some q, 0, 0) ∧ Done text p q E ∧ ((∃ n : Nat, firstSome (faultB q E) q.blocks.length 0 = some n ∧ c = 5 ∧ k = n) ∨ (firstSome (faultB q E) q.blocks.length 0 = none ∧ c = 0 ∧ k = 0))
theorem CheckPost.ans {text : B} {w w' : World} {e : Ending} (h : CheckPost text w e w') : Below w.heap.size w w' ∧ ∃ v c k, e = .returned (.tuple #[v, .int .i64 c, .int .i64 k]) ∧ chkAns text c k := by
  obtain ⟨hb, h | ⟨p, q, E, h1, hq, h2, ⟨n, h3, rfl⟩ | ⟨h3, a, z, rfl, -⟩⟩⟩ := h
  · obtain ⟨c, k, h0, h1, rfl⟩ := h
    exact ⟨hb, _, _, _, rfl, .inl ⟨c, k, h0, h1, rfl, rfl⟩⟩
  · exact ⟨hb, _, _, _, rfl, .inr ⟨p, q, E, h1, hq, h2, .inl ⟨n, h3, rfl, rfl⟩⟩⟩
  · exact ⟨hb, _, _, _, rfl, .inr ⟨p, q, E, h1, hq, h2, .inr ⟨h3, rfl, rfl⟩⟩⟩
end Go.Proofs.YtmlgajhhnojdjaaGreatDoor.FlwZ
/- Plain facts: a run of a checked program always comes to an answer, whatever is held from line to line. -/
namespace Go.Proofs.YtmlgajhhnojdjaaGreatDoor.RunB
open Go Go.Proofs.YtmlgajhhnojdjaaGreatDoor.Spec Go.Proofs.YtmlgajhhnojdjaaGreatDoor.Aux Go.Proofs.YtmlgajhhnojdjaaGreatDoor.Own Go.Proofs.YtmlgajhhnojdjaaGreatDoor.RunA Go.Proofs.YtmlgajhhnojdjaaGreatDoor.PrjS Go.Proofs.YtmlgajhhnojdjaaGreatDoor.FlwA Go.Proofs.YtmlgajhhnojdjaaGreatDoor.FlwB Go.Proofs.YtmlgajhhnojdjaaGreatDoor.FlwC Go.Proofs.YtmlgajhhnojdjaaGreatDoor.FlwD Go.Proofs.YtmlgajhhnojdjaaGreatDoor.FlwE Go.Proofs.YtmlgajhhnojdjaaGreatDoor.FlwF Go.Proofs.YtmlgajhhnojdjaaGreatDoor.FlwG Go.Proofs.YtmlgajhhnojdjaaGreatDoor.FlwH Go.Proofs.YtmlgajhhnojdjaaGreatDoor.FlwI Go.Proofs.YtmlgajhhnojdjaaGreatDoor.FlwJ Go.Proofs.YtmlgajhhnojdjaaGreatDoor.FlwK Go.Proofs.YtmlgajhhnojdjaaGreatDoor.FlwM Go.Proofs.YtmlgajhhnojdjaaGreatDoor.FlwO Go.Proofs.YtmlgajhhnojdjaaGreatDoor.FlwP Go.Proofs.YtmlgajhhnojdjaaGreatDoor.FlwQ Go.Proofs.YtmlgajhhnojdjaaGreatDoor.FlwS Go.Proofs.YtmlgajhhnojdjaaGreatDoor.FlwV Go.Proofs.YtmlgajhhnojdjaaGreatDoor.FlwY Go.Proofs.YtmlgajhhnojdjaaGreatDoor.FlwZ

/-- what is held from line to line -/
structure Steps (q : QP) (J : List Nat → Own.Own → Prop) : Prop where
  do1 : ∀ l s o, LnOk q l → goesOn l.op → SOk s → faultyQ q l s = false → J s o → o.need l = true ∧ J (passQ q l s) (o.do1 q l)
  clc : ∀ l s o, LnOk q l → l.op = 6 → SOk s → faultyQ q l s = false → J s o → J (passQ q l s) (o.calc l)
  new : ∀ l s o, LnOk q l → l.op = 9 → SOk s → faultyQ q l s = false → J s o → J (passQ q l s) ((o.drop [plOf l 0]).new (plOf l 0) (o.num (plOf l 1)))
  term : ∀ l s o, LnOk q l → l.op = 18 ∨ l.op = 19 ∨ l.op = 20 → SOk s → faultyQ q l s = false → J s o → J (stepS l (if o.other l then 1 else 0) s) o
  mono : ∀ s t o, SOk s → SOk t → leS s t → J s o → J t o
/-- how a run stands at its end -/
def Fin' (q : QP) (J : List Nat → Own.Own → Prop) (room : Int) (ans : Nat × Int × Own.Own) : Prop :=
  ∃ s o, J s o ∧ ((ans = (2, 0, o)) ∨ (ans = (4, 0, o)) ∨ (∃ l, LnOk q l ∧ l.op = 9 ∧ (o.drop [plOf l 0]).yd.live ≥ room ∧ ans = (3, 0, o.drop [plOf l 0])) ∨ ∃ l, LnOk q l ∧ l.op = 22 ∧ ans = (1, o.num (plOf l 0), o.dropAll q q.locals.length))
theorem fit_steps {q : QP} (hls : q.locals.length ≤ 12) : Steps q (FitL q) where
  do1 := fun _ _ _ hl hgo _ hf h => line_fit hl hls hf h hgo
  clc := fun _ _ _ hl hop _ _ h => calc_fit hl h hop
  new := fun _ _ _ _ hop _ _ h => new_fit h hop _
  term := fun _ _ _ _ _ _ _ h => term_fit hls h
  mono := fun _ _ _ _ ht hl h => FitX.mono h ht.len hl
theorem whole_cons {l : QLine} {ls : List QLine} (h : Whole (l :: ls)) : (18 ≤ l.op ∧ ls = []) ∨ (l.op < 18 ∧ Whole ls) := by
  obtain ⟨us, t, e, h1, h2⟩ := h
  cases us with
  | nil => simp only [List.nil_append, List.cons.injEq] at e; exact .inl ⟨by rw [e.1]; exact h1, e.2⟩
  | cons a us =>
    simp only [List.cons_append, List.cons.injEq] at e
    exact .inr ⟨by rw [e.1]; exact h2 a (List.mem_cons_self ..), us, t, e.2, h1, fun m hm => h2 m (List.mem_cons_of_mem _ hm)⟩
theorem next_none {q : QP} {l : QLine} (hl : LnOk q l) (h : l.op < 18) : l.next = [] := by
  have key : ∀ op : Fin 18, ((wantsOf op.val).filter (· == 98)).length = 0 := by decide
  have := hl.ok.nlen
  rw [show ((wantsOf l.op).filter (· == 98)).length = 0 from key ⟨l.op, h⟩] at this
  exact List.length_eq_zero_iff.mp this
theorem op_cases {q : QP} {l : QLine} (hl : LnOk q l) : goesOn l.op ∨ l.op = 6 ∨ l.op = 9 ∨ l.op = 18 ∨ l.op = 19 ∨ l.op = 20 ∨ l.op = 22 := by
  have h1 := hl.ok.op
  have h2 := hl.ok.op2
  have h3 := hl.has
  unfold hasP at h3
  unfold goesOn
  by_cases e : l.op = 16 ∨ l.op = 17 ∨ l.op = 21
  · rw [if_neg (by omega), if_pos e] at h3; cases h3
  · omega
theorem outs_at (l : QLine) (s : List Nat) {i : Nat} (hi : i < l.next.length) (h2 : l.next.length ≤ 2) : (l.next.getD i 0, stepS l i s) ∈ outsN l l.next 0 s := by
  match hn : l.next, h2 with
  | [], _ => rw [hn] at hi; simp at hi
  | [n], _ =>
    rw [hn] at hi
    have : i = 0 := by simp at hi; omega
    subst this
    simp [outsN]
  | [n, m], _ =>
    rw [hn] at hi
    have : i = 0 ∨ i = 1 := by simp at hi; omega
    rcases this with rfl | rfl
    · simp [outsN]
    · have e : stepS l 1 (stepS l 0 s) = stepS l 1 s := by
        unfold stepS
        split
        · simp only [putL, List.foldl_cons, List.foldl_nil, List.set_set]
        · rfl
      simp [outsN, e]
  | _ :: _ :: _ :: _, h => simp at h
theorem ok_pl {q : QP} {l : QLine} (hls : q.locals.length ≤ 12) (hl : LnOk q l) : PlOk l := fun x hx => by have := (hl.ok.places x hx).1; omega
theorem run_ok {q : QP} {J : List Nat → Own.Own → Prop} (hls : q.locals.length ≤ 12) (hS : Shape q) (hq : QOk q.blocks.length q) (U : Nat → List Nat) (hU : QClosed q U) (hfull : ∀ b, b < q.blocks.length → U b = zeroSt ∨ Full (U b))
    (hgood : ∀ b, b < q.blocks.length → ¬ U b = zeroSt → faultL q (q.blocks.getD b []) (U b) = none) (H : Steps q J) (room : Int) :
    ∀ (f : Nat) (ls : List QLine) (s : List Nat) (o : Own.Own), Whole ls → (∀ l ∈ ls, LnOk q l) → SOk s → Full s → faultL q ls s = none → (∀ x ∈ outsL q ls s, leS x.2 (U x.1)) → J s o → ∃ ans, runO q room f ls o = some ans ∧ Fin' q J room ans
  | f, [], s, o, hw, _, _, _, _, _, _ => by
    obtain ⟨us, t, e, -⟩ := hw
    simp at e
  | 0, l :: ls, s, o, _, _, _, _, _, _, h => ⟨(2, 0, o), rfl, s, o, h, .inl rfl⟩
  | f + 1, l :: ls, s, o, hw, hln, hs, hf, hfa, hout, h => by
    have hl := hln l (List.mem_cons_self ..)
    rw [faultL] at hfa
    have hfq : faultyQ q l s = false := by
      cases hv : faultyQ q l s with
      | false => rfl
      | true => rw [hv, if_pos rfl] at hfa; cases hfa
    rw [hfq, if_neg (by decide)] at hfa
    rcases whole_cons hw with ⟨h18, rfl⟩ | ⟨h18, hw2⟩
    · have ho := op_cases hl
      unfold goesOn at ho
      by_cases h22 : l.op = 22
      · refine ⟨_, ?_, s, o, h, .inr (.inr (.inr ⟨l, hl, h22, rfl⟩))⟩
        rw [runO, if_neg (by omega), if_neg (by omega), if_neg (by omega), if_pos h22]
      · have hop : l.op = 18 ∨ l.op = 19 ∨ l.op = 20 := by omega
        have hnl : l.next.length = if l.op = 18 then 1 else 2 := by
          rw [hl.ok.nlen]
          rcases hop with e | e | e <;> rw [e] <;> rfl
        have hi : (if o.other l then 1 else 0) < l.next.length := by
          rw [hnl]
          by_cases e : l.op = 18
          · have : o.other l = false := by rw [Own.other, if_neg (by omega), if_neg (by omega)]
            rw [this, if_pos e]; decide
          · rw [if_neg e]; split <;> omega
        have hp : passQ q l s = s := pass_not (by rcases hop with e | e | e <;> rw [e] <;> rfl) (by omega) (by omega) (by omega)
        have hmem := outs_at l s hi (by rw [hnl]; split <;> omega)
        have hle := hout (l.next.getD (if o.other l then 1 else 0) 0, stepS l (if o.other l then 1 else 0) s) (by rw [outsL, hp]; exact List.mem_append_left _ hmem)
        have hb : l.next.getD (if o.other l then 1 else 0) 0 < q.blocks.length := hl.ok.next _ (by rw [List.getD_eq_getElem?_getD, List.getElem?_eq_getElem hi]; exact List.getElem_mem _)
        have hst := stepS_ok l (if o.other l then 1 else 0) hs
        have hne := nonzero_of_le hst hle (full_ne (full_step l _ hf))
        have hJ := H.mono _ _ _ hst (hU.ok _ hb) hle (H.term l s o hl hop hs hfq h)
        obtain ⟨ans, h1, h2⟩ := run_ok hls hS hq U hU hfull hgood H room f (q.blocks.getD (l.next.getD (if o.other l then 1 else 0) 0) []) _ o (hS.whole _ hb) (fun m hm => ⟨hq.lines _ (getD_memB hm) m hm, hS.has _ m hm, hS.fits _ m hm⟩) (hU.ok _ hb) ((hfull _ hb).resolve_left hne) (hgood _ hb hne) (fun x hx => hU.step _ hb hne x hx) hJ
        refine ⟨ans, ?_, h2⟩
        rw [runO, if_neg (by omega), if_neg (by omega), if_pos hop, if_pos rfl]
        exact h1
    · have hnx := next_none hl h18
      have hs2 := passQ_ok q l hs
      have hf2 := full_pass q (ok_pl hls hl) hf
      have hout2 : ∀ x ∈ outsL q ls (passQ q l s), leS x.2 (U x.1) := fun x hx => hout x (by rw [outsL, hnx]; simpa [outsN, stN] using hx)
      have ih := fun o' (hJ : J (passQ q l s) o') => run_ok hls hS hq U hU hfull hgood H room f ls (passQ q l s) o' hw2 (fun m hm => hln m (List.mem_cons_of_mem _ hm)) hs2 hf2 hfa hout2 hJ
      rcases op_cases hl with hgo | hop | hop | hop | hop | hop | hop
      · obtain ⟨hn, hJ⟩ := H.do1 l s o hl hgo hs hfq h
        obtain ⟨ans, h1, h2⟩ := ih _ hJ
        refine ⟨ans, ?_, h2⟩
        have hgo' := hgo
        unfold goesOn at hgo'
        rw [runO, if_neg (by omega), if_neg (by omega), if_neg (by omega), if_neg (by omega), if_pos hn]
        exact h1
      · by_cases hz : o.num (plOf l 2) = 0
        · refine ⟨_, ?_, s, o, h, .inr (.inl rfl)⟩
          rw [runO, if_pos hop, if_pos hz]
        · obtain ⟨ans, h1, h2⟩ := ih _ (H.clc l s o hl hop hs hfq h)
          refine ⟨ans, ?_, h2⟩
          rw [runO, if_pos hop, if_neg hz]
          exact h1
      · by_cases hr : (o.drop [plOf l 0]).yd.live ≥ room
        · refine ⟨_, ?_, s, o, h, .inr (.inr (.inl ⟨l, hl, hop, hr, rfl⟩))⟩
          rw [runO, if_neg (by omega), if_pos hop, if_pos hr]
        · obtain ⟨ans, h1, h2⟩ := ih _ (H.new l s o hl hop hs hfq h)
          refine ⟨ans, ?_, h2⟩
          rw [runO, if_neg (by omega), if_pos hop, if_neg hr]
          exact h1
      · omega
      · omega
      · omega
      · omega
theorem firstSome_none (f : Nat → Option Nat) : ∀ (m k : Nat), firstSome f m k = none → ∀ c, k ≤ c → c < k + m → f c = none
  | 0, _, _, c, h1, h2 => by omega
  | m + 1, k, h, c, h1, h2 => by
    rw [firstSome] at h
    cases hk : f k with
    | some v => rw [hk] at h; cases h
    | none =>
      rw [hk, Option.none_or] at h
      by_cases e : c = k
      · rw [e]; exact hk
      · exact firstSome_none f m (k + 1) h c (by omega) (by omega)
/-- a run of a program that was checked -/
theorem run_checked {text : B} {p : RP} {q : QP} {E : List (List Nat)} (hD : Done text p q E) (hr : prjRead text false = (some q, 0, 0)) (hn : firstSome (faultB q E) q.blocks.length 0 = none) {J : List Nat → Own.Own → Prop} (H : Steps q J) {inp : List Int} (hJ : J startSt (Own.start inp)) (room : Int) (f : Nat) :
    ∃ ans, runO q room f (q.blocks.getD 0 []) (Own.start inp) = some ans ∧ Fin' q J room ans := by
  have hS := read_shape hr
  have hq := hD.both.qok
  have hls := hD.both.twelve
  have hI := hD.inv.inv
  have hU : QClosed q (fun b => E.getD b []) := ⟨fun b hb => hD.ok hb, hI.start, fun b hb hz x hx => hI.step b hb rfl hz x hx⟩
  have h0 : ¬ E.getD 0 [] = zeroSt := nonzero_of_le ⟨by decide, fun k => by
    by_cases hk : k < 24
    · have : startSt.getD k 0 = 1 := by show (List.replicate 24 1).getD k 0 = 1; rw [List.getD_eq_getElem?_getD, List.getElem?_replicate, if_pos hk]; rfl
      rw [this]; decide
    · rw [List.getD_eq_getElem?_getD, List.getElem?_eq_none (by show (List.replicate 24 1).length ≤ k; simp; omega)]; decide⟩ hI.start (full_ne full_startSt)
  have hgood : ∀ b, b < q.blocks.length → ¬ E.getD b [] = zeroSt → faultL q (q.blocks.getD b []) (E.getD b []) = none := fun b hb hz => by
    have := firstSome_none _ _ _ hn b (Nat.zero_le _) (by omega)
    rw [faultB, if_neg hz] at this
    exact this
  have hstok : SOk startSt := ⟨by decide, fun k => by
    by_cases hk : k < 24
    · have : startSt.getD k 0 = 1 := by show (List.replicate 24 1).getD k 0 = 1; rw [List.getD_eq_getElem?_getD, List.getElem?_replicate, if_pos hk]; rfl
      rw [this]; decide
    · rw [List.getD_eq_getElem?_getD, List.getElem?_eq_none (by show (List.replicate 24 1).length ≤ k; simp; omega)]; decide⟩
  exact run_ok hls hS hq (fun b => E.getD b []) hU hD.inv.full hgood H room f (q.blocks.getD 0 []) (E.getD 0 []) (Own.start inp) (hS.whole 0 hD.pos) (fun m hm => ⟨hq.lines _ (getD_memB hm) m hm, hS.has _ m hm, hS.fits _ m hm⟩) (hD.ok hD.pos) ((hD.inv.full 0 hD.pos).resolve_left h0) (hgood 0 hD.pos h0) (fun x hx => hU.step 0 hD.pos h0 x hx) (H.mono _ _ _ hstok (hD.ok hD.pos) hI.start hJ)
end Go.Proofs.YtmlgajhhnojdjaaGreatDoor.RunB
/- Plain facts: of one text there is one answer of Check; a run with more fuel goes on where less stopped. -/
namespace Go.Proofs.YtmlgajhhnojdjaaGreatDoor.RunB
open Go Go.Proofs.YtmlgajhhnojdjaaGreatDoor.Spec Go.Proofs.YtmlgajhhnojdjaaGreatDoor.Aux Go.Proofs.YtmlgajhhnojdjaaGreatDoor.Own Go.Proofs.YtmlgajhhnojdjaaGreatDoor.RunA Go.Proofs.YtmlgajhhnojdjaaGreatDoor.RefM Go.Proofs.YtmlgajhhnojdjaaGreatDoor.PrjS Go.Proofs.YtmlgajhhnojdjaaGreatDoor.FlwA Go.Proofs.YtmlgajhhnojdjaaGreatDoor.FlwI Go.Proofs.YtmlgajhhnojdjaaGreatDoor.FlwJ Go.Proofs.YtmlgajhhnojdjaaGreatDoor.FlwK Go.Proofs.YtmlgajhhnojdjaaGreatDoor.FlwM Go.Proofs.YtmlgajhhnojdjaaGreatDoor.FlwO Go.Proofs.YtmlgajhhnojdjaaGreatDoor.FlwP Go.Proofs.YtmlgajhhnojdjaaGreatDoor.FlwQ Go.Proofs.YtmlgajhhnojdjaaGreatDoor.FlwS Go.Proofs.YtmlgajhhnojdjaaGreatDoor.FlwV Go.Proofs.YtmlgajhhnojdjaaGreatDoor.FlwY Go.Proofs.YtmlgajhhnojdjaaGreatDoor.FlwZ

/-! words are only added -/
theorem take_y : ∀ (ps : List (Nat × Nat)) (o : Own.Own), (Own.take ps o).2.yd = o.yd
  | [], _ => rfl
  | p :: ps, o => by rw [Own.take, take_y ps]; rfl
theorem puts_y : ∀ (ps : List (Nat × Nat)) (ns : List Nat) (o : Own.Own), (Own.puts ps ns o).yd = o.yd
  | [], _, _ => rfl
  | p :: ps, ns, o => by rw [Own.puts, puts_y ps]; rfl
/-! what Run answers -/
def zeroRes : Value := .agg #[.int .i64 0, .int .i64 0, .string ⟨#[]⟩, .int .i64 0]
def mayRun (inp : List Int) (fuel room : Int) : Prop := inp.length ≤ 100 ∧ 0 ≤ fuel ∧ fuel ≤ 1000 ∧ 0 ≤ room ∧ room ≤ 50
/-- a program that may run -/
structure Good (text : B) (q : QP) : Prop where
  read : prjRead text false = (some q, 0, 0)
  done : ∃ p E, refRead text false = (some p, 0, 0) ∧ Done text p q E ∧ firstSome (faultB q E) q.blocks.length 0 = none
theorem Good.chk {text : B} {q : QP} (h : Good text q) : chkAns text 0 0 := by
  obtain ⟨p, E, h1, h2, h3⟩ := h.done
  exact .inr ⟨p, q, E, h1, h.read, h2, .inr ⟨h3, rfl, rfl⟩⟩
theorem Good.run {text : B} {q : QP} (h : Good text q) {J : List Nat → Own.Own → Prop} (H : Steps q J) {inp : List Int} (hJ : J startSt (Own.start inp)) (room : Int) (f : Nat) : ∃ ans, runO q room f (q.blocks.getD 0 []) (Own.start inp) = some ans ∧ Fin' q J room ans := by
  obtain ⟨p, E, -, h2, h3⟩ := h.done
  exact run_checked h2 h.read h3 H hJ room f
end Go.Proofs.YtmlgajhhnojdjaaGreatDoor.RunB
