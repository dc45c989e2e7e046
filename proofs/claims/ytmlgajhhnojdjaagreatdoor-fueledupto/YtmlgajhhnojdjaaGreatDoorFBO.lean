/- Plain facts: a run of a checked program always comes to an answer, whatever is held from line to line. -/
import Derived.Test.YtmlgajhhnojdjaaGreatDoorFBL
import Derived.Test.YtmlgajhhnojdjaaGreatDoorFBN
namespace Go.Proofs.YtmlgajhhnojdjaaGreatDoor.RunB
open Go Go.Proofs.YtmlgajhhnojdjaaGreatDoor.Spec Go.Proofs.YtmlgajhhnojdjaaGreatDoor.Aux Go.Proofs.YtmlgajhhnojdjaaGreatDoor.Own Go.Proofs.YtmlgajhhnojdjaaGreatDoor.RunA Go.Proofs.YtmlgajhhnojdjaaGreatDoor.PrjS Go.Proofs.YtmlgajhhnojdjaaGreatDoor.FlwA Go.Proofs.YtmlgajhhnojdjaaGreatDoor.FlwB Go.Proofs.YtmlgajhhnojdjaaGreatDoor.FlwC Go.Proofs.YtmlgajhhnojdjaaGreatDoor.FlwD Go.Proofs.YtmlgajhhnojdjaaGreatDoor.FlwE Go.Proofs.YtmlgajhhnojdjaaGreatDoor.FlwF Go.Proofs.YtmlgajhhnojdjaaGreatDoor.FlwG Go.Proofs.YtmlgajhhnojdjaaGreatDoor.FlwH Go.Proofs.YtmlgajhhnojdjaaGreatDoor.FlwI Go.Proofs.YtmlgajhhnojdjaaGreatDoor.FlwJ Go.Proofs.YtmlgajhhnojdjaaGreatDoor.FlwK Go.Proofs.YtmlgajhhnojdjaaGreatDoor.FlwM Go.Proofs.YtmlgajhhnojdjaaGreatDoor.FlwO Go.Proofs.YtmlgajhhnojdjaaGreatDoor.FlwP Go.Proofs.YtmlgajhhnojdjaaGreatDoor.FlwQ Go.Proofs.YtmlgajhhnojdjaaGreatDoor.FlwS Go.Proofs.YtmlgajhhnojdjaaGreatDoor.FlwV Go.Proofs.YtmlgajhhnojdjaaGreatDoor.FlwY Go.Proofs.YtmlgajhhnojdjaaGreatDoor.FlwZ

/-- what is held from line to line -/
structure Steps (q : QP) (J : List Nat → Own.Own → Prop) : Prop where
  do1 : ∀ l s o, LnOk q l → goesOn l.op → SOk s → faultyQ q l s = false → J s o → o.need l = true ∧ J (passQ q l s) (o.do1 q l)
  clc : ∀ l s o, LnOk q l → l.op = 6 → SOk s → faultyQ q l s = false → J s o → J (passQ q l s) (o.calc l)
  new : ∀ l s o, LnOk q l → l.op = 9 → SOk s → faultyQ q l s = false → J s o → J (passQ q l s) ((o.drop [plOf l 0]).new (plOf l 0) (o.num (plOf l 1)))
  term : ∀ l s o, LnOk q l → l.op = 18 ∨ l.op = 19 ∨ l.op = 20 → SOk s → faultyQ q l s = false → J s o → J (stepS l (if o.other l then 1 else 0) s) o
  mono : ∀ s t o, SOk s → SOk t → leS s t → J s o → J t o
/-- how a run stands at its end -/
def Fin' (q : QP) (J : List Nat → Own.Own → Prop) (room : Int) (ans : Nat × Int × Own.Own) : Prop :=
  ∃ s o, J s o ∧ ((ans = (2, 0, o)) ∨ (ans = (4, 0, o)) ∨ (∃ l, LnOk q l ∧ l.op = 9 ∧ (o.drop [plOf l 0]).yd.live ≥ room ∧ ans = (3, 0, o.drop [plOf l 0])) ∨ ∃ l, LnOk q l ∧ l.op = 22 ∧ ans = (1, o.num (plOf l 0), o.dropAll q q.locals.length))
theorem fit_steps {q : QP} (hls : q.locals.length ≤ 12) : Steps q (FitL q) where
  do1 := fun _ _ _ hl hgo _ hf h => line_fit hl hls hf h hgo
  clc := fun _ _ _ hl hop _ _ h => calc_fit hl h hop
  new := fun _ _ _ _ hop _ _ h => new_fit h hop _
  term := fun _ _ _ _ _ _ _ h => term_fit hls h
  mono := fun _ _ _ _ ht hl h => FitX.mono h ht.len hl
theorem whole_cons {l : QLine} {ls : List QLine} (h : Whole (l :: ls)) : (18 ≤ l.op ∧ ls = []) ∨ (l.op < 18 ∧ Whole ls) := by
  obtain ⟨us, t, e, h1, h2⟩ := h
  cases us with
  | nil => simp only [List.nil_append, List.cons.injEq] at e; exact .inl ⟨by rw [e.1]; exact h1, e.2⟩
  | cons a us =>
    simp only [List.cons_append, List.cons.injEq] at e
    exact .inr ⟨by rw [e.1]; exact h2 a (List.mem_cons_self ..), us, t, e.2, h1, fun m hm => h2 m (List.mem_cons_of_mem _ hm)⟩
theorem next_none {q : QP} {l : QLine} (hl : LnOk q l) (h : l.op < 18) : l.next = [] := by
  have key : ∀ op : Fin 18, ((wantsOf op.val).filter (· == 98)).length = 0 := by decide
  have := hl.ok.nlen
  rw [show ((wantsOf l.op).filter (· == 98)).length = 0 from key ⟨l.op, h⟩] at this
  exact List.length_eq_zero_iff.mp this
theorem op_cases {q : QP} {l : QLine} (hl : LnOk q l) : goesOn l.op ∨ l.op = 6 ∨ l.op = 9 ∨ l.op = 18 ∨ l.op = 19 ∨ l.op = 20 ∨ l.op = 22 := by
  have h1 := hl.ok.op
  have h2 := hl.ok.op2
  have h3 := hl.has
  unfold hasP at h3
  unfold goesOn
  by_cases e : l.op = 16 ∨ l.op = 17 ∨ l.op = 21
  · rw [if_neg (by omega), if_pos e] at h3; cases h3
  · omega
theorem outs_at (l : QLine) (s : List Nat) {i : Nat} (hi : i < l.next.length) (h2 : l.next.length ≤ 2) : (l.next.getD i 0, stepS l i s) ∈ outsN l l.next 0 s := by
  match hn : l.next, h2 with
  | [], _ => rw [hn] at hi; simp at hi
  | [n], _ =>
    rw [hn] at hi
    have : i = 0 := by simp at hi; omega
    subst this
    simp [outsN]
  | [n, m], _ =>
    rw [hn] at hi
    have : i = 0 ∨ i = 1 := by simp at hi; omega
    rcases this with rfl | rfl
    · simp [outsN]
    · have e : stepS l 1 (stepS l 0 s) = stepS l 1 s := by
        unfold stepS
        split
        · simp only [putL, List.foldl_cons, List.foldl_nil, List.set_set]
        · rfl
      simp [outsN, e]
  | _ :: _ :: _ :: _, h => simp at h
theorem ok_pl {q : QP} {l : QLine} (hls : q.locals.length ≤ 12) (hl : LnOk q l) : PlOk l := fun x hx => by have := (hl.ok.places x hx).1; omega
theorem run_ok {q : QP} {J : List Nat → Own.Own → Prop} (hls : q.locals.length ≤ 12) (hS : Shape q) (hq : QOk q.blocks.length q) (U : Nat → List Nat) (hU : QClosed q U) (hfull : ∀ b, b < q.blocks.length → U b = zeroSt ∨ Full (U b))
    (hgood : ∀ b, b < q.blocks.length → ¬ U b = zeroSt → faultL q (q.blocks.getD b []) (U b) = none) (H : Steps q J) (room : Int) :
    ∀ (f : Nat) (ls : List QLine) (s : List Nat) (o : Own.Own), Whole ls → (∀ l ∈ ls, LnOk q l) → SOk s → Full s → faultL q ls s = none → (∀ x ∈ outsL q ls s, leS x.2 (U x.1)) → J s o → ∃ ans, runO q room f ls o = some ans ∧ Fin' q J room ans
  | f, [], s, o, hw, _, _, _, _, _, _ => by
    obtain ⟨us, t, e, -⟩ := hw
    simp at e
  | 0, l :: ls, s, o, _, _, _, _, _, _, h => ⟨(2, 0, o), rfl, s, o, h, .inl rfl⟩
  | f + 1, l :: ls, s, o, hw, hln, hs, hf, hfa, hout, h => by
    have hl := hln l (List.mem_cons_self ..)
    rw [faultL] at hfa
    have hfq : faultyQ q l s = false := by
      cases hv : faultyQ q l s with
      | false => rfl
      | true => rw [hv, if_pos rfl] at hfa; cases hfa
    rw [hfq, if_neg (by decide)] at hfa
    rcases whole_cons hw with ⟨h18, rfl⟩ | ⟨h18, hw2⟩
    · have ho := op_cases hl
      unfold goesOn at ho
      by_cases h22 : l.op = 22
      · refine ⟨_, ?_, s, o, h, .inr (.inr (.inr ⟨l, hl, h22, rfl⟩))⟩
        rw [runO, if_neg (by omega), if_neg (by omega), if_neg (by omega), if_pos h22]
      · have hop : l.op = 18 ∨ l.op = 19 ∨ l.op = 20 := by omega
        have hnl : l.next.length = if l.op = 18 then 1 else 2 := by
          rw [hl.ok.nlen]
          rcases hop with e | e | e <;> rw [e] <;> rfl
        have hi : (if o.other l then 1 else 0) < l.next.length := by
          rw [hnl]
          by_cases e : l.op = 18
          · have : o.other l = false := by rw [Own.other, if_neg (by omega), if_neg (by omega)]
            rw [this, if_pos e]; decide
          · rw [if_neg e]; split <;> omega
        have hp : passQ q l s = s := pass_not (by rcases hop with e | e | e <;> rw [e] <;> rfl) (by omega) (by omega) (by omega)
        have hmem := outs_at l s hi (by rw [hnl]; split <;> omega)
        have hle := hout (l.next.getD (if o.other l then 1 else 0) 0, stepS l (if o.other l then 1 else 0) s) (by rw [outsL, hp]; exact List.mem_append_left _ hmem)
        have hb : l.next.getD (if o.other l then 1 else 0) 0 < q.blocks.length := hl.ok.next _ (by rw [List.getD_eq_getElem?_getD, List.getElem?_eq_getElem hi]; exact List.getElem_mem _)
        have hst := stepS_ok l (if o.other l then 1 else 0) hs
        have hne := nonzero_of_le hst hle (full_ne (full_step l _ hf))
        have hJ := H.mono _ _ _ hst (hU.ok _ hb) hle (H.term l s o hl hop hs hfq h)
        obtain ⟨ans, h1, h2⟩ := run_ok hls hS hq U hU hfull hgood H room f (q.blocks.getD (l.next.getD (if o.other l then 1 else 0) 0) []) _ o (hS.whole _ hb) (fun m hm => ⟨hq.lines _ (getD_memB hm) m hm, hS.has _ m hm, hS.fits _ m hm⟩) (hU.ok _ hb) ((hfull _ hb).resolve_left hne) (hgood _ hb hne) (fun x hx => hU.step _ hb hne x hx) hJ
        refine ⟨ans, ?_, h2⟩
        rw [runO, if_neg (by omega), if_neg (by omega), if_pos hop, if_pos rfl]
        exact h1
    · have hnx := next_none hl h18
      have hs2 := passQ_ok q l hs
      have hf2 := full_pass q (ok_pl hls hl) hf
      have hout2 : ∀ x ∈ outsL q ls (passQ q l s), leS x.2 (U x.1) := fun x hx => hout x (by rw [outsL, hnx]; simpa [outsN, stN] using hx)
      have ih := fun o' (hJ : J (passQ q l s) o') => run_ok hls hS hq U hU hfull hgood H room f ls (passQ q l s) o' hw2 (fun m hm => hln m (List.mem_cons_of_mem _ hm)) hs2 hf2 hfa hout2 hJ
      rcases op_cases hl with hgo | hop | hop | hop | hop | hop | hop
      · obtain ⟨hn, hJ⟩ := H.do1 l s o hl hgo hs hfq h
        obtain ⟨ans, h1, h2⟩ := ih _ hJ
        refine ⟨ans, ?_, h2⟩
        have hgo' := hgo
        unfold goesOn at hgo'
        rw [runO, if_neg (by omega), if_neg (by omega), if_neg (by omega), if_neg (by omega), if_pos hn]
        exact h1
      · by_cases hz : o.num (plOf l 2) = 0
        · refine ⟨_, ?_, s, o, h, .inr (.inl rfl)⟩
          rw [runO, if_pos hop, if_pos hz]
        · obtain ⟨ans, h1, h2⟩ := ih _ (H.clc l s o hl hop hs hfq h)
          refine ⟨ans, ?_, h2⟩
          rw [runO, if_pos hop, if_neg hz]
          exact h1
      · by_cases hr : (o.drop [plOf l 0]).yd.live ≥ room
        · refine ⟨_, ?_, s, o, h, .inr (.inr (.inl ⟨l, hl, hop, hr, rfl⟩))⟩
          rw [runO, if_neg (by omega), if_pos hop, if_pos hr]
        · obtain ⟨ans, h1, h2⟩ := ih _ (H.new l s o hl hop hs hfq h)
          refine ⟨ans, ?_, h2⟩
          rw [runO, if_neg (by omega), if_pos hop, if_neg hr]
          exact h1
      · omega
      · omega
      · omega
      · omega
theorem firstSome_none (f : Nat → Option Nat) : ∀ (m k : Nat), firstSome f m k = none → ∀ c, k ≤ c → c < k + m → f c = none
  | 0, _, _, c, h1, h2 => by omega
  | m + 1, k, h, c, h1, h2 => by
    rw [firstSome] at h
    cases hk : f k with
    | some v => rw [hk] at h; cases h
    | none =>
      rw [hk, Option.none_or] at h
      by_cases e : c = k
      · rw [e]; exact hk
      · exact firstSome_none f m (k + 1) h c (by omega) (by omega)
/-- a run of a program that was checked -/
theorem run_checked {text : B} {p : RP} {q : QP} {E : List (List Nat)} (hD : Done text p q E) (hr : prjRead text false = (some q, 0, 0)) (hn : firstSome (faultB q E) q.blocks.length 0 = none) {J : List Nat → Own.Own → Prop} (H : Steps q J) {inp : List Int} (hJ : J startSt (Own.start inp)) (room : Int) (f : Nat) :
    ∃ ans, runO q room f (q.blocks.getD 0 []) (Own.start inp) = some ans ∧ Fin' q J room ans := by
  have hS := read_shape hr
  have hq := hD.both.qok
  have hls := hD.both.twelve
  have hI := hD.inv.inv
  have hU : QClosed q (fun b => E.getD b []) := ⟨fun b hb => hD.ok hb, hI.start, fun b hb hz x hx => hI.step b hb rfl hz x hx⟩
  have h0 : ¬ E.getD 0 [] = zeroSt := nonzero_of_le ⟨by decide, fun k => by
    by_cases hk : k < 24
    · have : startSt.getD k 0 = 1 := by show (List.replicate 24 1).getD k 0 = 1; rw [List.getD_eq_getElem?_getD, List.getElem?_replicate, if_pos hk]; rfl
      rw [this]; decide
    · rw [List.getD_eq_getElem?_getD, List.getElem?_eq_none (by show (List.replicate 24 1).length ≤ k; simp; omega)]; decide⟩ hI.start (full_ne full_startSt)
  have hgood : ∀ b, b < q.blocks.length → ¬ E.getD b [] = zeroSt → faultL q (q.blocks.getD b []) (E.getD b []) = none := fun b hb hz => by
    have := firstSome_none _ _ _ hn b (Nat.zero_le _) (by omega)
    rw [faultB, if_neg hz] at this
    exact this
  have hstok : SOk startSt := ⟨by decide, fun k => by
    by_cases hk : k < 24
    · have : startSt.getD k 0 = 1 := by show (List.replicate 24 1).getD k 0 = 1; rw [List.getD_eq_getElem?_getD, List.getElem?_replicate, if_pos hk]; rfl
      rw [this]; decide
    · rw [List.getD_eq_getElem?_getD, List.getElem?_eq_none (by show (List.replicate 24 1).length ≤ k; simp; omega)]; decide⟩
  exact run_ok hls hS hq (fun b => E.getD b []) hU hD.inv.full hgood H room f (q.blocks.getD 0 []) (E.getD 0 []) (Own.start inp) (hS.whole 0 hD.pos) (fun m hm => ⟨hq.lines _ (getD_memB hm) m hm, hS.has _ m hm, hS.fits _ m hm⟩) (hD.ok hD.pos) ((hD.inv.full 0 hD.pos).resolve_left h0) (hgood 0 hD.pos h0) (fun x hx => hU.step 0 hD.pos h0 x hx) (H.mono _ _ _ hstok (hD.ok hD.pos) hI.start hJ)
end Go.Proofs.YtmlgajhhnojdjaaGreatDoor.RunB
/- Plain facts: of one text there is one answer of Check; a run with more fuel goes on where less stopped. -/
namespace Go.Proofs.YtmlgajhhnojdjaaGreatDoor.RunB
open Go Go.Proofs.YtmlgajhhnojdjaaGreatDoor.Spec Go.Proofs.YtmlgajhhnojdjaaGreatDoor.Aux Go.Proofs.YtmlgajhhnojdjaaGreatDoor.Own Go.Proofs.YtmlgajhhnojdjaaGreatDoor.RunA Go.Proofs.YtmlgajhhnojdjaaGreatDoor.RefM Go.Proofs.YtmlgajhhnojdjaaGreatDoor.PrjS Go.Proofs.YtmlgajhhnojdjaaGreatDoor.FlwA Go.Proofs.YtmlgajhhnojdjaaGreatDoor.FlwI Go.Proofs.YtmlgajhhnojdjaaGreatDoor.FlwJ Go.Proofs.YtmlgajhhnojdjaaGreatDoor.FlwK Go.Proofs.YtmlgajhhnojdjaaGreatDoor.FlwM Go.Proofs.YtmlgajhhnojdjaaGreatDoor.FlwO Go.Proofs.YtmlgajhhnojdjaaGreatDoor.FlwP Go.Proofs.YtmlgajhhnojdjaaGreatDoor.FlwQ Go.Proofs.YtmlgajhhnojdjaaGreatDoor.FlwS Go.Proofs.YtmlgajhhnojdjaaGreatDoor.FlwV Go.Proofs.YtmlgajhhnojdjaaGreatDoor.FlwY Go.Proofs.YtmlgajhhnojdjaaGreatDoor.FlwZ

theorem le1_anti {a b : Nat} (h : le1 a b) (h' : le1 b a) : a = b := by
  unfold le1 at h h'
  rw [← h', Nat.or_comm, h]
theorem done_same {text : B} {p p' : RP} {q : QP} {E E' : List (List Nat)} (h : Done text p q E) (h' : Done text p' q E') : ∀ b, b < q.blocks.length → E.getD b [] = E'.getD b [] := fun b hb => by
  have c : ∀ {p : RP} {E : List (List Nat)}, Done text p q E → QClosed q (fun b => E.getD b []) := fun hD => ⟨fun b hb => hD.ok hb, hD.inv.inv.start, fun b hb hz x hx => hD.inv.inv.step b hb rfl hz x hx⟩
  have h1 := h.inv.inv.least _ (c h') b hb
  have h2 := h'.inv.inv.least _ (c h) b hb
  exact ext24 (h.ok hb).len (h'.ok hb).len fun k hk => le1_anti (h1 k hk) (h2 k hk)
theorem firstSome_congr (f g : Nat → Option Nat) : ∀ (m k : Nat), (∀ c, k ≤ c → c < k + m → f c = g c) → firstSome f m k = firstSome g m k
  | 0, _, _ => rfl
  | m + 1, k, h => by rw [firstSome, firstSome, h k (Nat.le_refl _) (by omega), firstSome_congr f g m (k + 1) fun c h1 h2 => h c (by omega) (by omega)]
theorem done_fault {text : B} {p p' : RP} {q : QP} {E E' : List (List Nat)} (h : Done text p q E) (h' : Done text p' q E') : firstSome (faultB q E) q.blocks.length 0 = firstSome (faultB q E') q.blocks.length 0 :=
  firstSome_congr _ _ _ _ fun c _ hc => by unfold faultB; rw [done_same h h' c (by omega)]
/-- one answer of Check -/
theorem chk_det {text : B} {c k c' k' : Int} (h : chkAns text c k) (h' : chkAns text c' k') : c = c' ∧ k = k' := by
  rcases h with ⟨a, b, h0, h1, rfl, rfl⟩ | ⟨p, q, E, h1, h2, h3, h4⟩ <;> rcases h' with ⟨a', b', h0', h1', rfl, rfl⟩ | ⟨p', q', E', h1', h2', h3', h4'⟩
  · rw [h1] at h1'; simp only [Prod.mk.injEq, true_and] at h1'; omega
  · rw [h1] at h1'; cases h1'
  · rw [h1] at h1'; cases h1'
  · rw [h2] at h2'
    simp only [Prod.mk.injEq, Option.some.injEq, and_true] at h2'
    subst h2'
    have e := done_fault h3 h3'
    rcases h4 with ⟨n, h5, rfl, rfl⟩ | ⟨h5, rfl, rfl⟩ <;> rcases h4' with ⟨n', h5', rfl, rfl⟩ | ⟨h5', rfl, rfl⟩
    · rw [h5, h5'] at e; cases e; exact ⟨rfl, rfl⟩
    · rw [h5, h5'] at e; cases e
    · rw [h5, h5'] at e; cases e
    · exact ⟨rfl, rfl⟩
/-! words are only added -/
theorem take_y : ∀ (ps : List (Nat × Nat)) (o : Own.Own), (Own.take ps o).2.yd = o.yd
  | [], _ => rfl
  | p :: ps, o => by rw [Own.take, take_y ps]; rfl
theorem puts_y : ∀ (ps : List (Nat × Nat)) (ns : List Nat) (o : Own.Own), (Own.puts ps ns o).yd = o.yd
  | [], _, _ => rfl
  | p :: ps, ns, o => by rw [Own.puts, puts_y ps]; rfl
theorem frees_pre : ∀ (ns : List Nat) (o : Own.Own), o.yd.trace <+: (Own.frees ns o).yd.trace
  | [], _ => List.prefix_refl _
  | n :: ns, o => by
    rw [Own.frees]
    refine List.IsPrefix.trans ?_ (frees_pre ns _)
    unfold Own.free1
    split
    · exact List.prefix_refl _
    · exact List.prefix_append _ _
theorem drop_pre (ps : List (Nat × Nat)) (o : Own.Own) : o.yd.trace <+: (o.drop ps).yd.trace := by
  have := frees_pre (Own.take ps o).1 (Own.take ps o).2
  rw [take_y] at this
  exact this
theorem move_pre (a b : List (Nat × Nat)) (o : Own.Own) : o.yd.trace <+: (Own.move a b o).yd.trace := by
  unfold Own.move
  rw [puts_y]
  have := drop_pre a (Own.take b o).2
  rwa [take_y] at this
theorem dropAll_pre (q : QP) : ∀ (i : Nat) (o : Own.Own), o.yd.trace <+: (Own.dropAll q i o).yd.trace
  | 0, _ => List.prefix_refl _
  | i + 1, o => (drop_pre _ o).trans (dropAll_pre q i _)
theorem do1_pre (q : QP) (o : Own.Own) (l : QLine) : o.yd.trace <+: (o.do1 q l).yd.trace := by
  unfold Own.do1
  repeat' split
  all_goals first
    | exact List.prefix_refl _
    | exact List.prefix_append _ _
    | exact move_pre _ _ _
    | exact drop_pre _ _
theorem new_pre (o : Own.Own) (p : Nat × Nat) (v : Int) : o.yd.trace <+: (o.new p v).yd.trace := List.prefix_append _ _
theorem run_pre (q : QP) (room : Int) : ∀ (f : Nat) (ls : List QLine) (o : Own.Own) (ans : Nat × Int × Own.Own), runO q room f ls o = some ans → o.yd.trace <+: ans.2.2.yd.trace
  | f, [], o, ans, h => by cases f <;> simp [runO] at h
  | 0, l :: ls, o, ans, h => by
    rw [runO] at h; cases h; exact List.prefix_refl _
  | f + 1, l :: ls, o, ans, h => by
    rw [runO] at h
    split at h
    · split at h
      · cases h; exact List.prefix_refl _
      · exact run_pre q room f ls (o.calc l) ans h
    · split at h
      · split at h
        · cases h; exact drop_pre _ _
        · exact ((drop_pre _ _).trans (new_pre _ _ _)).trans (run_pre q room f ls _ ans h)
      · split at h
        · split at h
          · exact run_pre q room f _ o ans h
          · cases h
        · split at h
          · cases h; exact dropAll_pre q _ _
          · split at h
            · exact (do1_pre q o l).trans (run_pre q room f ls _ ans h)
            · cases h
/-- more fuel goes on where less stopped -/
theorem run_more (q : QP) (room : Int) (m : Nat) : ∀ (f : Nat) (ls : List QLine) (o : Own.Own) (a b : Nat × Int × Own.Own), runO q room f ls o = some a → runO q room (f + m) ls o = some b → a.2.2.yd.trace <+: b.2.2.yd.trace ∧ (a.1 = 2 ∨ a = b)
  | f, [], o, a, b, h, _ => by cases f <;> simp [runO] at h
  | 0, l :: ls, o, a, b, h, h' => by
    have := run_pre q room _ _ _ _ h'
    rw [runO] at h; cases h
    exact ⟨this, .inl rfl⟩
  | f + 1, l :: ls, o, a, b, h, h' => by
    rw [show f + 1 + m = (f + m) + 1 by omega] at h'
    rw [runO] at h h'
    split at h
    · rename_i e; rw [if_pos e] at h'
      split at h
      · rename_i e; rw [if_pos e] at h'; cases h; cases h'; exact ⟨List.prefix_refl _, .inr rfl⟩
      · rename_i e; rw [if_neg e] at h'; exact run_more q room m f ls _ a b h h'
    · rename_i e; rw [if_neg e] at h'
      split at h
      · rename_i e; rw [if_pos e] at h'
        split at h
        · rename_i e; rw [if_pos e] at h'; cases h; cases h'; exact ⟨List.prefix_refl _, .inr rfl⟩
        · rename_i e; rw [if_neg e] at h'; exact run_more q room m f ls _ a b h h'
      · rename_i e; rw [if_neg e] at h'
        split at h
        · rename_i e; rw [if_pos e] at h'
          split at h
          · rename_i e; rw [if_pos e] at h'; exact run_more q room m f _ o a b h h'
          · cases h
        · rename_i e; rw [if_neg e] at h'
          split at h
          · rename_i e; rw [if_pos e] at h'; cases h; cases h'; exact ⟨List.prefix_refl _, .inr rfl⟩
          · rename_i e; rw [if_neg e] at h'
            split at h
            · rename_i e; rw [if_pos e] at h'; exact run_more q room m f ls _ a b h h'
            · cases h
theorem join_add : ∀ (l m : List B), Lib.join l [32] <+: Lib.join (l ++ m) [32]
  | [], m => by simp [Lib.join, List.intercalate]
  | [a], [] => by simp
  | [a], b :: m => by
    have : Lib.join ([a] ++ b :: m) [32] = a ++ ([32] ++ Lib.join (b :: m) [32]) := by simp [Lib.join, List.intercalate]
    rw [this, Lib.join_one]; exact List.prefix_append _ _
  | a :: b :: l, m => by
    have e1 : Lib.join (a :: b :: l) [32] = a ++ ([32] ++ Lib.join (b :: l) [32]) := by simp [Lib.join, List.intercalate, List.intersperse]
    have e2 : Lib.join (a :: b :: l ++ m) [32] = a ++ ([32] ++ Lib.join (b :: l ++ m) [32]) := by simp [Lib.join, List.intercalate]
    rw [e1, e2, List.prefix_append_right_inj, List.prefix_append_right_inj]
    exact join_add (b :: l) m
theorem text_pre {a b : Yd} (h : a.trace <+: b.trace) : a.text <+: b.text := by
  obtain ⟨m, hm⟩ := h
  unfold Yd.text
  rw [← hm]
  exact join_add _ _
/-! what Run answers -/
def zeroRes : Value := .agg #[.int .i64 0, .int .i64 0, .string ⟨#[]⟩, .int .i64 0]
def mayRun (inp : List Int) (fuel room : Int) : Prop := inp.length ≤ 100 ∧ 0 ≤ fuel ∧ fuel ≤ 1000 ∧ 0 ≤ room ∧ room ≤ 50
/-- a program that may run -/
structure Good (text : B) (q : QP) : Prop where
  read : prjRead text false = (some q, 0, 0)
  done : ∃ p E, refRead text false = (some p, 0, 0) ∧ Done text p q E ∧ firstSome (faultB q E) q.blocks.length 0 = none
theorem Good.chk {text : B} {q : QP} (h : Good text q) : chkAns text 0 0 := by
  obtain ⟨p, E, h1, h2, h3⟩ := h.done
  exact .inr ⟨p, q, E, h1, h.read, h2, .inr ⟨h3, rfl, rfl⟩⟩
theorem Good.run {text : B} {q : QP} (h : Good text q) {J : List Nat → Own.Own → Prop} (H : Steps q J) {inp : List Int} (hJ : J startSt (Own.start inp)) (room : Int) (f : Nat) : ∃ ans, runO q room f (q.blocks.getD 0 []) (Own.start inp) = some ans ∧ Fin' q J room ans := by
  obtain ⟨p, E, -, h2, h3⟩ := h.done
  exact run_checked h2 h.read h3 H hJ room f
theorem Good.one {text : B} {q q' : QP} (h : Good text q) (h' : Good text q') : q = q' := by
  have := h.read.symm.trans h'.read
  simp only [Prod.mk.injEq, Option.some.injEq, and_true] at this
  exact this
end Go.Proofs.YtmlgajhhnojdjaaGreatDoor.RunB
/- Check, walked: for texts of at most 2^20 letters, in every world that holds the tables. -/
namespace Go.Proofs.YtmlgajhhnojdjaaGreatDoor.FlwZa
open Go Go.RowKit Go.Proofs.YtmlgajhhnojdjaaGreatDoor.Spec Go.Proofs.YtmlgajhhnojdjaaGreatDoor.Aux Go.Proofs.YtmlgajhhnojdjaaGreatDoor.PrjF Go.Proofs.YtmlgajhhnojdjaaGreatDoor.PrjG Go.Proofs.YtmlgajhhnojdjaaGreatDoor.PrjJ Go.Proofs.YtmlgajhhnojdjaaGreatDoor.PrjK Go.Proofs.YtmlgajhhnojdjaaGreatDoor.PrjM Go.Proofs.YtmlgajhhnojdjaaGreatDoor.PrjW Go.Proofs.YtmlgajhhnojdjaaGreatDoor.PrjX Go.Proofs.YtmlgajhhnojdjaaGreatDoor.RefM Go.Proofs.YtmlgajhhnojdjaaGreatDoor.FlwP Go.Proofs.YtmlgajhhnojdjaaGreatDoor.FlwQ Go.Proofs.YtmlgajhhnojdjaaGreatDoor.FlwV Go.Proofs.YtmlgajhhnojdjaaGreatDoor.FlwY Go.Proofs.YtmlgajhhnojdjaaGreatDoor.FlwZ

set_option maxRecDepth 20000 in
set_option maxHeartbeats 1000000 in
theorem pchecked_any (text : B) (w : World) (h : text.length ≤ 1048576) (E : Env w) : Calls Tryz.prog 38 #[.string (bs text)] w (CheckPost text w) := by
  have HRD := read_any' text w h E
  go_enter Tryz.func38, Tryz.ntmps38
  cases hr : prjRead text false with
  | mk op ck =>
    obtain ⟨c, k⟩ := ck
    cases op with
    | none =>
      obtain ⟨hc1, hc2⟩ := prjRead_bad hr
      have hcb : ((c : Int) == 0) = false := by simp; omega
      have HR : Hid (_ = _) := hr
      have HR2 : Hid (_ = _) := hc2
      go_wp2_with (go_at_call 53; refine HRD.mono ?_; rintro e w1 ⟨hb1, v, rfl, hv⟩; rw [HR.out] at hv; obtain ⟨-, rfl⟩ : True ∧ v = .pointer none := (by rcases hv with ⟨-, hv⟩ | ⟨p, a, z, hp, -⟩; exact ⟨trivial, hv⟩; cases hp); have hw1 : Hid (Below w.heap.size w w1) := hb1; simp only [HR.out])
      go_ret3
      exact ⟨hw1.out, .inl ⟨c, k, hc1, HR2.out, rfl⟩⟩
    | some q =>
      obtain ⟨rfl, rfl, p, hp, hB⟩ := prjRead_good hr
      have HR : Hid (_ = _) := hr
      have HP : Hid (_ = _) := hp
      have HB : Hid (_) := hB
      clear hr hp hB
      go_upto_region 4 with (go_at_call 53; refine HRD.mono ?_; rintro e w1 ⟨hb1, v, rfl, hv⟩; rw [HR.out] at hv; obtain ⟨a, z, rfl, hz, hG⟩ : ∃ a z, v = .pointer (some ⟨a, 0, none⟩) ∧ Hid (w.heap.size ≤ z) ∧ Hid (Got z a w1 q) := (by rcases hv with ⟨hv, -⟩ | ⟨q', a, z, hq, hv, hz, hg⟩; (cases hv); (cases hq; exact ⟨a, z, hv, hz, hg⟩)); have hw1 : Hid (Below w.heap.size w w1) := hb1; clear hv hb1; simp only [HR.out])
      have HF := flow_any HB.out hG.out
      go_upto_region 5 with (go_at_call 54; refine HF.mono ?_; rintro e w2 ⟨⟨E', hD, rfl⟩, hb2⟩; have HD : Hid (_) := hD; have HBB : Hid (_) := hb2; clear hD hb2; rw [ansOf_eq]; obtain ⟨r, hr⟩ : ∃ r, Hid (firstSome (faultB q E') q.blocks.length 0 = r) := ⟨_, rfl⟩; rw [hr.out])
      clear HF HRD
      have HW : Hid (Below w.heap.size w w2) := hw1.out.trans (HBB.out.mono hw1.out.size)
      cases r with
      | none =>
        simp only [Option.isSome_none]
        go_wp2
        go_ret3
        exact ⟨HW.out, .inr ⟨p, q, E', HP.out, HR.out, HD.out, .inr ⟨hr.out, a, z, rfl, hz.out, got_below hG.out HBB.out⟩⟩⟩
      | some n =>
        simp only [Option.isSome_some, Option.getD_some]
        go_wp2
        go_ret3
        exact ⟨HW.out, .inr ⟨p, q, E', HP.out, HR.out, HD.out, .inl ⟨n, hr.out, rfl⟩⟩⟩
set_option maxRecDepth 20000 in
theorem Check_any (text : B) (w : World) (h : text.length ≤ 1048576) (E : Env w) : Calls Tryz.prog 21 #[.string (bs text)] w fun e w' => (∃ c k, Hid (chkAns text c k) ∧ e = .returned (.tuple #[.int .i64 c, .int .i64 k])) ∧ Below w.heap.size w w' := by
  have K := (pchecked_any text w h E).mono (R' := fun e w' => ∃ v c k, e = .returned (.tuple #[v, .int .i64 c, .int .i64 k]) ∧ Hid (chkAns text c k) ∧ Below w.heap.size w w') fun e w' hp => by
    obtain ⟨hb, v, c, k, rfl, ha⟩ := hp.ans
    exact ⟨v, c, k, rfl, ha, hb⟩
  go_enter Tryz.func21, Tryz.ntmps21
  go_wp2_with (go_at_call 38; refine K.mono ?_; rintro e w1 ⟨v, c, k, rfl, ha, hb⟩)
  go_ret2
  exact ⟨⟨c, k, ha, rfl⟩, hb⟩
def oneText : B := [108, 101, 116, 32, 110, 32, 105, 110, 116, 10, 108, 101, 116, 32, 112, 32, 98, 111, 120, 10, 98, 108, 111, 99, 107, 10, 115, 101, 116, 32, 110, 32, 53, 10, 110, 101, 119, 32, 112, 32, 110, 10, 108, 111, 97, 100, 32, 110, 32, 112, 10, 101, 110, 100, 32, 110]
end Go.Proofs.YtmlgajhhnojdjaaGreatDoor.FlwZa
