/- Plain facts: the ways that were gone to the end are closed, and the least. -/
import Derived.Test.YtmlgajhhnojdjaaGreatDoorFBI
import Derived.Test.YtmlgajhhnojdjaaGreatDoorFAH
import Derived.Deep.DeepCutAuto
import Derived.Deep.Light
import Derived.Test.YtmlgajhhnojdjaaGreatDoorFAA
import Derived.Test.YtmlgajhhnojdjaaGreatDoorFAI
import Derived.Deep.DeepMust
import Derived.Deep.QuietTactic
import Derived.BigQuiet
import Derived.Deep.LoopGhost
import Derived.Deep.MidRow
import Derived.Deep.RegionLaw
import Derived.Deep.RegionHeld3
import Derived.BigRegion
import Derived.Test.YtmlgajhhnojdjaaGreatDoorFAC
namespace Go.Proofs.YtmlgajhhnojdjaaGreatDoor.FlwS
open Go Go.Proofs.YtmlgajhhnojdjaaGreatDoor.Spec Go.Proofs.YtmlgajhhnojdjaaGreatDoor.FlwA Go.Proofs.YtmlgajhhnojdjaaGreatDoor.FlwB Go.Proofs.YtmlgajhhnojdjaaGreatDoor.FlwD Go.Proofs.YtmlgajhhnojdjaaGreatDoor.FlwE Go.Proofs.YtmlgajhhnojdjaaGreatDoor.FlwF Go.Proofs.YtmlgajhhnojdjaaGreatDoor.FlwG Go.Proofs.YtmlgajhhnojdjaaGreatDoor.FlwI Go.Proofs.YtmlgajhhnojdjaaGreatDoor.FlwJ Go.Proofs.YtmlgajhhnojdjaaGreatDoor.FlwK Go.Proofs.YtmlgajhhnojdjaaGreatDoor.FlwM Go.Proofs.YtmlgajhhnojdjaaGreatDoor.FlwO Go.Proofs.YtmlgajhhnojdjaaGreatDoor.FlwQ

/-- bits of the one are bits of the other -/
def le1 (a b : Nat) : Prop := b ||| a = b
theorem le1_refl (a : Nat) : le1 a a := Nat.or_self a
theorem le1_trans {a b c : Nat} (h : le1 a b) (h' : le1 b c) : le1 a c := by
  unfold le1 at *
  rw [← h', Nat.or_assoc, h]
theorem le1_left (a b : Nat) : le1 a (a ||| b) := by
  unfold le1; rw [Nat.or_comm a b, Nat.or_assoc, Nat.or_self]
theorem le1_right (a b : Nat) : le1 b (a ||| b) := by
  unfold le1; rw [Nat.or_assoc, Nat.or_self]
theorem le1_lub {a b c : Nat} (h : le1 a c) (h' : le1 b c) : le1 (a ||| b) c := by
  unfold le1 at *
  rw [← Nat.or_assoc, h, h']
theorem le1_zero {a : Nat} (h : le1 a 0) : a = 0 := by unfold le1 at h; rwa [Nat.zero_or] at h
def leS (s t : List Nat) : Prop := ∀ k, k < 24 → le1 (s.getD k 0) (t.getD k 0)
theorem leS_refl (s : List Nat) : leS s s := fun _ _ => le1_refl _
theorem leS_trans {s t u : List Nat} (h : leS s t) (h' : leS t u) : leS s u := fun k hk => le1_trans (h k hk) (h' k hk)
theorem le_join {s t : List Nat} (hs : SOk s) : leS s (joinS s t) ∧ leS t (joinS s t) := by
  constructor <;> intro k hk <;> rw [joinS_getD hs.len, if_pos hk]
  · exact le1_left _ _
  · exact le1_right _ _
theorem join_le {s t u : List Nat} (hs : SOk s) (h : leS s u) (h' : leS t u) : leS (joinS s t) u := fun k hk => by
  rw [joinS_getD hs.len, if_pos hk]; exact le1_lub (h k hk) (h' k hk)
/-! what a line makes of more is more -/
theorem getD_set1 (s : List Nat) (i v k : Nat) : (s.set i v).getD k 0 = if i = k ∧ k < s.length then v else s.getD k 0 := by
  rw [List.getD_eq_getElem?_getD, List.getElem?_set, List.getD_eq_getElem?_getD]
  by_cases h : i = k
  · subst h
    by_cases h2 : i < s.length
    · simp [h2]
    · simp [h2]
  · rw [if_neg h, if_neg (fun x => h x.1)]
theorem set_mono {s t : List Nat} (hs : s.length = 24) (ht : t.length = 24) (h : leS s t) (i : Nat) {u v : Nat} (huv : le1 u v) : leS (s.set i u) (t.set i v) := fun k hk => by
  rw [getD_set1, getD_set1, hs, ht]
  by_cases e : i = k ∧ k < 24
  · rw [if_pos e, if_pos e]; exact huv
  · rw [if_neg e, if_neg e]; exact h k hk
theorem putL_mono {u v : Nat} (huv : le1 u v) : ∀ (ps : List (Nat × Nat)) {s t : List Nat}, s.length = 24 → t.length = 24 → leS s t → leS (putL u ps s) (putL v ps t)
  | [], _, _, _, _, h => h
  | x :: ps, s, t, hs, ht, h => putL_mono huv ps (s := s.set (slotQ x) u) (t := t.set (slotQ x) v) (by simpa using hs) (by simpa using ht) (set_mono hs ht h _ huv)
theorem takeL_mono : ∀ (ps : List (Nat × Nat)) {s t : List Nat}, s.length = 24 → t.length = 24 → leS s t → leS (takeL ps s) (takeL ps t)
  | [], _, _, _, _, h => h
  | x :: ps, s, t, hs, ht, h => takeL_mono ps (s := s.set (slotQ x) _) (t := t.set (slotQ x) _) (by simpa using hs) (by simpa using ht) (set_mono hs ht h _ (le1_refl _))
theorem getD_mono {s t : List Nat} (hs : SOk s) (ht : SOk t) (h : leS s t) (k : Nat) : le1 (s.getD k 0) (t.getD k 0) := by
  by_cases hk : k < 24
  · exact h k hk
  · have e1 : s.getD k 0 = 0 := by rw [List.getD_eq_getElem?_getD, List.getElem?_eq_none (by rw [hs.len]; omega)]; rfl
    have e2 : t.getD k 0 = 0 := by rw [List.getD_eq_getElem?_getD, List.getElem?_eq_none (by rw [ht.len]; omega)]; rfl
    rw [e1, e2]; exact le1_refl 0
theorem movedL_mono (q : QP) (x : Nat × Nat) {s t : List Nat} (hs : SOk s) (ht : SOk t) (h : leS s t) : le1 (movedL q x s) (movedL q x t) := by
  unfold movedL; split
  · exact getD_mono hs ht h _
  · exact le1_refl _
theorem takeQ_mono (q : QP) (l : QLine) {s t : List Nat} (hs : SOk s) (ht : SOk t) (h : leS s t) : leS (takeQ q l s) (takeQ q l t) := by
  unfold takeQ; split
  · exact takeL_mono _ hs.len ht.len h
  · split
    · exact takeL_mono _ hs.len ht.len h
    · exact h
theorem passQ_mono (q : QP) (l : QLine) {s t : List Nat} (hs : SOk s) (ht : SOk t) (h : leS s t) : leS (passQ q l s) (passQ q l t) := by
  have h1 := takeQ_mono q l hs ht h
  have l1 := (takeQ_ok q l hs).len
  have l2 := (takeQ_ok q l ht).len
  unfold passQ
  split
  · exact putL_mono (le1_refl _) _ l1 l2 h1
  · split
    · exact putL_mono (movedL_mono q _ hs ht h) _ l1 l2 h1
    · split
      · exact putL_mono (le1_refl _) _ l1 l2 h1
      · split
        · exact takeL_mono _ l1 l2 h1
        · exact h1
theorem stepS_mono (l : QLine) (i : Nat) {s t : List Nat} (hs : SOk s) (ht : SOk t) (h : leS s t) : leS (stepS l i s) (stepS l i t) := by
  unfold stepS; split
  · exact putL_mono (le1_refl _) _ hs.len ht.len h
  · exact h
/-! where a block leads, and with what -/
def outsN (l : QLine) : List Nat → Nat → List Nat → List (Nat × List Nat)
  | [], _, _ => []
  | n :: ns, i, s => (n, stepS l i s) :: outsN l ns (i + 1) (stepS l i s)
def stN (l : QLine) : List Nat → Nat → List Nat → List Nat
  | [], _, s => s
  | _ :: ns, i, s => stN l ns (i + 1) (stepS l i s)
def outsL (q : QP) : List QLine → List Nat → List (Nat × List Nat)
  | [], _ => []
  | l :: ls, s => outsN l l.next 0 (passQ q l s) ++ outsL q ls (stN l l.next 0 (passQ q l s))
def leads (M : List (Nat × List Nat)) (x : List (List Nat) × (Nat → Bool)) : List (List Nat) × (Nat → Bool) := M.foldl (fun x n => (leadE x.1 n.1 n.2, leadO x.1 x.2 n.1 n.2)) x
theorem goNext_eq (l : QLine) : ∀ (ns : List Nat) (i : Nat) (t : St), goNext l ns i t = (stN l ns i t.1, leads (outsN l ns i t.1) t.2)
  | [], _, _ => rfl
  | n :: ns, i, t => by rw [goNext, goNext_eq l ns]; rfl
theorem goLines_eq (q : QP) : ∀ (ls : List QLine) (t : St), (goLines q ls t).2 = leads (outsL q ls t.1) t.2
  | [], _ => rfl
  | l :: ls, t => by rw [goLines, goLines_eq q ls, goNext_eq, outsL, leads, leads, leads, List.foldl_append]
theorem stN_ok (l : QLine) : ∀ (ns : List Nat) (i : Nat) {s : List Nat}, SOk s → SOk (stN l ns i s)
  | [], _, _, h => h
  | _ :: ns, i, _, h => stN_ok l ns (i + 1) (stepS_ok l i h)
theorem stN_mono (l : QLine) : ∀ (ns : List Nat) (i : Nat) {s t : List Nat}, SOk s → SOk t → leS s t → leS (stN l ns i s) (stN l ns i t)
  | [], _, _, _, _, _, h => h
  | _ :: ns, i, _, _, hs, ht, h => stN_mono l ns (i + 1) (stepS_ok l i hs) (stepS_ok l i ht) (stepS_mono l i hs ht h)
theorem outsN_ok (l : QLine) (N : Nat) : ∀ (ns : List Nat) (i : Nat) {s : List Nat}, (∀ n ∈ ns, n < N) → SOk s → ∀ x ∈ outsN l ns i s, x.1 < N ∧ SOk x.2
  | [], _, _, _, _, x, hx => by cases hx
  | n :: ns, i, s, hn, h, x, hx => by
    rcases List.mem_cons.mp hx with rfl | hx
    · exact ⟨hn n (List.mem_cons_self ..), stepS_ok l i h⟩
    · exact outsN_ok l N ns (i + 1) (fun m hm => hn m (List.mem_cons_of_mem _ hm)) (stepS_ok l i h) x hx
theorem outsL_ok (q : QP) (N : Nat) : ∀ (ls : List QLine) {s : List Nat}, (∀ l ∈ ls, ∀ n ∈ l.next, n < N) → SOk s → ∀ x ∈ outsL q ls s, x.1 < N ∧ SOk x.2
  | [], _, _, _, x, hx => by cases hx
  | l :: ls, s, hn, h, x, hx => by
    have hp := passQ_ok q l h
    rcases List.mem_append.mp hx with hx | hx
    · exact outsN_ok l N l.next 0 (hn l (List.mem_cons_self ..)) hp x hx
    · exact outsL_ok q N ls (fun m hm => hn m (List.mem_cons_of_mem _ hm)) (stN_ok l _ _ hp) x hx
theorem outsN_mono (l : QLine) : ∀ (ns : List Nat) (i : Nat) {s t : List Nat}, SOk s → SOk t → leS s t → ∀ x ∈ outsN l ns i s, ∃ y, (x.1, y) ∈ outsN l ns i t ∧ leS x.2 y
  | [], _, _, _, _, _, _, x, hx => by cases hx
  | n :: ns, i, s, t, hs, ht, h, x, hx => by
    have h1 := stepS_mono l i hs ht h
    rcases List.mem_cons.mp hx with rfl | hx
    · exact ⟨_, List.mem_cons_self .., h1⟩
    · obtain ⟨y, hy, hl⟩ := outsN_mono l ns (i + 1) (stepS_ok l i hs) (stepS_ok l i ht) h1 x hx
      exact ⟨y, List.mem_cons_of_mem _ hy, hl⟩
theorem outsL_mono (q : QP) : ∀ (ls : List QLine) {s t : List Nat}, SOk s → SOk t → leS s t → ∀ x ∈ outsL q ls s, ∃ y, (x.1, y) ∈ outsL q ls t ∧ leS x.2 y
  | [], _, _, _, _, _, x, hx => by cases hx
  | l :: ls, s, t, hs, ht, h, x, hx => by
    have h1 := passQ_mono q l hs ht h
    have o1 := passQ_ok q l hs
    have o2 := passQ_ok q l ht
    rcases List.mem_append.mp hx with hx | hx
    · obtain ⟨y, hy, hl⟩ := outsN_mono l l.next 0 o1 o2 h1 x hx
      exact ⟨y, List.mem_append.mpr (.inl hy), hl⟩
    · obtain ⟨y, hy, hl⟩ := outsL_mono q ls (stN_ok l _ _ o1) (stN_ok l _ _ o2) (stN_mono l _ _ o1 o2 h1) x hx
      exact ⟨y, List.mem_append.mpr (.inr hy), hl⟩
/-! many ways joined -/
theorem leadE_at (E : List (List Nat)) (n : Nat) (s : List Nat) (hn : n < E.length) (b : Nat) : (leadE E n s).getD b [] = if b = n then joinS (E.getD n []) s else E.getD b [] := by
  unfold leadE
  split
  · rename_i h
    split
    · rename_i e; rw [e, h]
    · rfl
  · exact getD_set E n _ hn b
theorem nonzero_of_le {s t : List Nat} (hs : SOk s) (h : leS s t) (hn : ¬ s = zeroSt) : ¬ t = zeroSt := fun e => hn (by
  subst e
  refine ext24 hs.len (by decide) fun k hk => ?_
  have := h k hk
  have hz : zeroSt.getD k 0 = 0 := by
    unfold zeroSt
    rw [List.getD_eq_getElem?_getD, List.getElem?_replicate, if_pos hk]; rfl
  rw [hz] at this ⊢
  exact le1_zero this)
structure Led (N : Nat) (M : List (Nat × List Nat)) (E : List (List Nat)) (O : Nat → Bool) (E1 : List (List Nat)) (O1 : Nat → Bool) : Prop where
  ok : EOk E1
  len : E1.length = N
  up : ∀ b, b < N → leS (E.getD b []) (E1.getD b [])
  into : ∀ x ∈ M, leS x.2 (E1.getD x.1 [])
  shut : ∀ b, b < N → O1 b = false → O b = false ∧ E1.getD b [] = E.getD b []
  live : ∀ b, b < N → O1 b = true → O b = true ∨ ¬ E1.getD b [] = zeroSt
  least : ∀ U : Nat → List Nat, (∀ b, b < N → leS (E.getD b []) (U b)) → (∀ x ∈ M, leS x.2 (U x.1)) → ∀ b, b < N → leS (E1.getD b []) (U b)
theorem leads_led (N : Nat) : ∀ (M : List (Nat × List Nat)) (E : List (List Nat)) (O : Nat → Bool), EOk E → E.length = N → (∀ x ∈ M, x.1 < N ∧ SOk x.2) → Led N M E O (leads M (E, O)).1 (leads M (E, O)).2
  | [], E, O, hE, hl, _ => ⟨hE, hl, fun _ _ => leS_refl _, fun x hx => (by cases hx), fun b _ h => ⟨h, rfl⟩, fun b _ h => .inl h, fun U h _ b hb => h b hb⟩
  | x :: M, E, O, hE, hl, hM => by
    obtain ⟨hx1, hx2⟩ := hM x (List.mem_cons_self ..)
    have hxE : x.1 < E.length := by omega
    have hs := hE.at hxE
    have hE1 := leadE_ok hE hxE hx2
    have ih := leads_led N M (leadE E x.1 x.2) (leadO E O x.1 x.2) hE1 (by rw [leadE_len]; exact hl) (fun y hy => hM y (List.mem_cons_of_mem _ hy))
    have e : leads (x :: M) (E, O) = leads M (leadE E x.1 x.2, leadO E O x.1 x.2) := rfl
    rw [e]
    have up1 : ∀ b, b < N → leS (E.getD b []) ((leadE E x.1 x.2).getD b []) := fun b hb => by
      rw [leadE_at E x.1 x.2 hxE]
      split
      · rename_i e1; rw [e1]; exact (le_join hs).1
      · exact leS_refl _
    refine ⟨ih.ok, ih.len, fun b hb => leS_trans (up1 b hb) (ih.up b hb), fun y hy => ?_, fun b hb h => ?_, fun b hb h => ?_, fun U h1 h2 b hb => ?_⟩
    · rcases List.mem_cons.mp hy with rfl | hy
      · refine leS_trans ?_ (ih.up y.1 hx1)
        rw [leadE_at E y.1 y.2 hxE, if_pos rfl]
        exact (le_join hs).2
      · exact ih.into y hy
    · obtain ⟨h1, h2⟩ := ih.shut b hb h
      unfold leadO at h1
      split at h1
      · rename_i hj
        exact ⟨h1, h2.trans (by rw [leadE, if_pos hj])⟩
      · rename_i hj
        unfold setO at h1
        split at h1
        · cases h1
        · rename_i hne
          exact ⟨h1, h2.trans (by rw [leadE_at E x.1 x.2 hxE, if_neg hne])⟩
    · rcases ih.live b hb h with h1 | h1
      · unfold leadO at h1
        split at h1
        · exact .inl h1
        · rename_i hj
          unfold setO at h1
          split at h1
          · rename_i hbx
            right
            refine nonzero_of_le (joinS_ok hs hx2) (?_ : leS (joinS (E.getD x.1 []) x.2) _) (fun hz => ?_)
            · have := ih.up b hb
              rw [leadE_at E x.1 x.2 hxE, if_pos hbx] at this
              exact this
            · obtain ⟨k, hk, hne⟩ := join_ne hs hj
              have h0 : (joinS (E.getD x.1 []) x.2).getD k 0 = 0 := by
                rw [hz]; unfold zeroSt; rw [List.getD_eq_getElem?_getD, List.getElem?_replicate, if_pos hk]; rfl
              have := (le_join (t := x.2) hs).1 k hk
              rw [h0] at this hne
              exact hne (le1_zero this).symm
          · exact .inl h1
      · exact .inr h1
    · refine ih.least U (fun c hc => ?_) (fun y hy => h2 y (List.mem_cons_of_mem _ hy)) b hb
      rw [leadE_at E x.1 x.2 hxE]
      split
      · rename_i e1; rw [e1]; exact join_le hs (h1 x.1 hx1) (h2 x (List.mem_cons_self ..))
      · exact h1 c hc
/-! what holds from step to step -/
structure QClosed (q : QP) (U : Nat → List Nat) : Prop where
  ok : ∀ b, b < q.blocks.length → SOk (U b)
  start : leS startSt (U 0)
  step : ∀ b, b < q.blocks.length → ¬ U b = zeroSt → ∀ x ∈ outsL q (q.blocks.getD b []) (U b), leS x.2 (U x.1)
structure Inv (q : QP) (E : List (List Nat)) (O : Nat → Bool) : Prop where
  ok : EOk E
  len : E.length = q.blocks.length
  start : leS startSt (E.getD 0 [])
  step : ∀ b, b < q.blocks.length → O b = false → ¬ E.getD b [] = zeroSt → ∀ x ∈ outsL q (q.blocks.getD b []) (E.getD b []), leS x.2 (E.getD x.1 [])
  live : ∀ b, b < q.blocks.length → O b = true → ¬ E.getD b [] = zeroSt
  least : ∀ U, QClosed q U → ∀ b, b < q.blocks.length → leS (E.getD b []) (U b)
theorem startSt_ne : ¬ startSt = zeroSt := by decide
theorem inv_start (q : QP) (h0 : 0 < q.blocks.length) : Inv q (leadE (List.replicate q.blocks.length zeroSt) 0 startSt) (leadO (List.replicate q.blocks.length zeroSt) (fun _ => false) 0 startSt) := by
  have hz : ∀ b, b < q.blocks.length → (List.replicate q.blocks.length zeroSt).getD b [] = zeroSt := fun b hb => by simp [List.getD_eq_getElem?_getD, hb]
  have hok : EOk (List.replicate q.blocks.length zeroSt) := fun s hs => by rw [List.eq_of_mem_replicate hs]; exact ⟨by decide, zeroSt_lt⟩
  have L := leads_led q.blocks.length [(0, startSt)] (List.replicate q.blocks.length zeroSt) (fun _ => false) hok (by simp) (fun x hx => by rw [List.mem_singleton.mp hx]; exact ⟨h0, startSt_ok⟩)
  have hle : ∀ U : List Nat, leS zeroSt U := fun U k hk => by
    have : zeroSt.getD k 0 = 0 := by unfold zeroSt; rw [List.getD_eq_getElem?_getD, List.getElem?_replicate, if_pos hk]; rfl
    rw [this]; exact Nat.or_zero _
  refine ⟨L.ok, L.len, L.into (0, startSt) (List.mem_singleton.mpr rfl), fun b hb hO hne => ?_, fun b hb hO => ?_, fun U hU => L.least U (fun b hb => by rw [hz b hb]; exact hle _) (fun x hx => by rw [List.mem_singleton.mp hx]; exact hU.start)⟩
  · obtain ⟨-, h2⟩ := L.shut b hb hO
    have e : (leads [(0, startSt)] (List.replicate q.blocks.length zeroSt, fun _ => false)).1 = leadE (List.replicate q.blocks.length zeroSt) 0 startSt := rfl
    rw [e, hz b hb] at h2
    exact absurd h2 hne
  · rcases L.live b hb hO with h | h
    · cases h
    · exact h
theorem inv_step (q : QP) (hnx : ∀ b, b < q.blocks.length → ∀ l ∈ q.blocks.getD b [], ∀ n ∈ l.next, n < q.blocks.length) (E : List (List Nat)) (O : Nat → Bool) (b : Nat) (hb : b < q.blocks.length) (hO : O b = true) (h : Inv q E O) :
    Inv q (goBlk q E (setO O b false) b).2.1 (goBlk q E (setO O b false) b).2.2 := by
  have hbE : b < E.length := by rw [h.len]; exact hb
  have hs := h.ok.at hbE
  have e : (goBlk q E (setO O b false) b).2 = leads (outsL q (q.blocks.getD b []) (E.getD b [])) (E, setO O b false) := goLines_eq q _ _
  have L := leads_led q.blocks.length (outsL q (q.blocks.getD b []) (E.getD b [])) E (setO O b false) h.ok h.len (outsL_ok q q.blocks.length _ (hnx b hb) hs)
  rw [← e] at L
  refine ⟨L.ok, L.len, leS_trans h.start (L.up 0 (by omega)), fun c hc hOc hne => ?_, fun c hc hOc => ?_, fun U hU => L.least U (fun c hc => h.least U hU c hc) (fun x hx => ?_)⟩
  · obtain ⟨h1, h2⟩ := L.shut c hc hOc
    rw [h2] at hne ⊢
    by_cases hcb : c = b
    · subst hcb
      exact L.into
    · unfold setO at h1
      rw [if_neg hcb] at h1
      intro x hx
      exact leS_trans (h.step c hc h1 hne x hx) (L.up x.1 (outsL_ok q q.blocks.length _ (hnx c hc) (h.ok.at (by rw [h.len]; exact hc)) x hx).1)
  · rcases L.live c hc hOc with h1 | h1
    · unfold setO at h1
      split at h1
      · cases h1
      · exact nonzero_of_le (h.ok.at (by rw [h.len]; exact hc)) (L.up c hc) (h.live c hc h1)
    · exact h1
  · have hle := h.least U hU b hb
    obtain ⟨y, hy, hxy⟩ := outsL_mono q (q.blocks.getD b []) hs (hU.ok b hb) hle x hx
    exact leS_trans hxy (hU.step b hb (nonzero_of_le hs hle (h.live b hb hO)) (x.1, y) hy)
end Go.Proofs.YtmlgajhhnojdjaaGreatDoor.FlwS
/- What the document's own reader answers on places and numbers. No conditions but the strings' lengths. -/
namespace Go.Proofs.YtmlgajhhnojdjaaGreatDoor.RefB
theorem hereRefB : True := trivial
end Go.Proofs.YtmlgajhhnojdjaaGreatDoor.RefB
/- What the document's own reader answers on numbers. No conditions but the strings' lengths. -/
namespace Go.Proofs.YtmlgajhhnojdjaaGreatDoor.RefC
theorem hereRefC : True := trivial
end Go.Proofs.YtmlgajhhnojdjaaGreatDoor.RefC
/- What the document's own reader answers on a line's first word: what stands behind it; and whether a word may stand for a kind. No conditions but the strings' lengths. -/
namespace Go.Proofs.YtmlgajhhnojdjaaGreatDoor.RefD
open Go.RowKit Go.Proofs.YtmlgajhhnojdjaaGreatDoor.Spec Go.Proofs.YtmlgajhhnojdjaaGreatDoor.RefA Go.Proofs.YtmlgajhhnojdjaaGreatDoor.RefB Go.Proofs.YtmlgajhhnojdjaaGreatDoor.RefC

def known : List B := [[115, 101, 116], [97, 100, 100], [115, 117, 98], [109, 117, 108], [100, 105, 118], [105, 110], [111, 117, 116], [101, 110, 100], [110, 101, 119], [115, 116, 111, 114, 101], [108, 111, 97, 100], [109, 111, 118, 101], [110, 111, 110, 101], [115, 111, 109, 101], [103, 111, 116, 111], [105, 102], [109, 97, 116, 99, 104], [100, 114, 111, 112], [102, 114, 101, 101], [102, 108, 97, 103], [116, 101, 115, 116]]
end Go.Proofs.YtmlgajhhnojdjaaGreatDoor.RefD
/- What the document's own reader answers on a text that is parted at a byte. Condition: the text has at most 2^40 bytes. -/
namespace Go.Proofs.YtmlgajhhnojdjaaGreatDoor.RefE
theorem hereRefE : True := trivial
end Go.Proofs.YtmlgajhhnojdjaaGreatDoor.RefE
/- What the document's own reader answers on where a line stands and which local has a name. Condition: the program lies in memory as it is kept. -/
namespace Go.Proofs.YtmlgajhhnojdjaaGreatDoor.RefF
theorem hereRefF : True := trivial
end Go.Proofs.YtmlgajhhnojdjaaGreatDoor.RefF
/- What the document's own reader answers on which local has a name. Condition: the program lies in memory as it is kept. -/
namespace Go.Proofs.YtmlgajhhnojdjaaGreatDoor.RefG
theorem hereRefG : True := trivial
end Go.Proofs.YtmlgajhhnojdjaaGreatDoor.RefG
/- What the document's own reader answers on a place's type. Condition: the program lies in memory as it is kept, and the place's local is there. -/
namespace Go.Proofs.YtmlgajhhnojdjaaGreatDoor.RefH
theorem hereRefH : True := trivial
end Go.Proofs.YtmlgajhhnojdjaaGreatDoor.RefH
/- What the document's own ways answer on letters and spots. Conditions: the strings' lengths; the program lies in memory as it is kept. -/
namespace Go.Proofs.YtmlgajhhnojdjaaGreatDoor.RefO
theorem hereRefO : True := trivial
end Go.Proofs.YtmlgajhhnojdjaaGreatDoor.RefO
/- What the document's own ways answer on spots and blocks. Conditions: the program lies in memory as it is kept; what is named is there. -/
namespace Go.Proofs.YtmlgajhhnojdjaaGreatDoor.RefP
theorem hereRefP : True := trivial
end Go.Proofs.YtmlgajhhnojdjaaGreatDoor.RefP
/- What the document's own ways answer on whether a place is there. Conditions: the program lies in memory as it is kept; the place's local is one of twelve. -/
namespace Go.Proofs.YtmlgajhhnojdjaaGreatDoor.RefQ
theorem hereRefQ : True := trivial
end Go.Proofs.YtmlgajhhnojdjaaGreatDoor.RefQ
/- Plain definitions: a place is in one way. -/
namespace Go.Proofs.YtmlgajhhnojdjaaGreatDoor.Spec
theorem hereSpecI : True := trivial
end Go.Proofs.YtmlgajhhnojdjaaGreatDoor.Spec
/- What the document's own ways make of a place that is in one way. Conditions: the program lies in memory as it is kept; the place's local is one of twelve. -/
namespace Go.Proofs.YtmlgajhhnojdjaaGreatDoor.RefR
theorem hereRefR : True := trivial
end Go.Proofs.YtmlgajhhnojdjaaGreatDoor.RefR
/- What the document's own ways answer on whether a place may be written. Conditions: the program lies in memory as it is kept; the place's local is one of twelve. -/
namespace Go.Proofs.YtmlgajhhnojdjaaGreatDoor.RefS
theorem hereRefS : True := trivial
end Go.Proofs.YtmlgajhhnojdjaaGreatDoor.RefS
/- Ways read and written whole, as rules for a walk: what is asked of the world stands behind a name. -/
namespace Go.Proofs.YtmlgajhhnojdjaaGreatDoor.Aux
theorem hereAuxG : True := trivial
end Go.Proofs.YtmlgajhhnojdjaaGreatDoor.Aux
/- What the document's own ways make of a move or a some. Conditions: the program lies in memory as it is kept; the locals are twelve at most; both places' locals are there. -/
namespace Go.Proofs.YtmlgajhhnojdjaaGreatDoor.RefT
theorem hereRefT : True := trivial
end Go.Proofs.YtmlgajhhnojdjaaGreatDoor.RefT
/- Plain definitions: what is there behind a line, and whether it needs what may not be there. -/
namespace Go.Proofs.YtmlgajhhnojdjaaGreatDoor.Spec
theorem hereSpecJ : True := trivial
end Go.Proofs.YtmlgajhhnojdjaaGreatDoor.Spec
/- Plain definitions: ways, with others besides; letters that ways may have. -/
namespace Go.Proofs.YtmlgajhhnojdjaaGreatDoor.Spec
theorem hereSpecL : True := trivial
end Go.Proofs.YtmlgajhhnojdjaaGreatDoor.Spec
/- Plain definitions: all ways at every line, gone through until nothing is added. -/
namespace Go.Proofs.YtmlgajhhnojdjaaGreatDoor.Spec
theorem hereSpecM : True := trivial
end Go.Proofs.YtmlgajhhnojdjaaGreatDoor.Spec
/- Plain facts: where the lines of a good program lead are lines. -/
namespace Go.Proofs.YtmlgajhhnojdjaaGreatDoor.Spec
open Go Go.Proofs.YtmlgajhhnojdjaaGreatDoor.Aux Go.Proofs.YtmlgajhhnojdjaaGreatDoor.RefS Go.Proofs.YtmlgajhhnojdjaaGreatDoor.RefT

theorem insideR_last (p : RP) (i : Nat) (hi : i < p.lines.length) : p.inside (i + 1) = if word (p.line i) 0 = wBlock then true else if ends (word (p.line i) 0) then false else p.inside i := by
  unfold RP.inside
  rw [List.take_add_one, List.getElem?_eq_getElem hi]
  have : p.line i = p.lines[i] := by simp [RP.line, hi]
  simp only [Option.toList_some, List.reverse_append, List.reverse_cons, List.reverse_nil, List.nil_append, List.cons_append, insideR, this]
theorem ReadOk.first {text : B} {raw : Bool} {p : RP} (h : ReadOk text raw p) : 0 < p.blocks.length ∧ p.blocks.getD 0 0 < p.lines.length := by
  have h0 : 0 < p.blocks.length := List.length_pos_iff.mpr h.nonempty
  refine ⟨h0, ?_⟩
  have hm : p.blocks.getD 0 0 ∈ p.blocks := by simp [h0]
  have hw := h.pre.blocks
  rw [hw] at hm ⊢
  exact (mem_whichAre hm).1
end Go.Proofs.YtmlgajhhnojdjaaGreatDoor.Spec
/- Plain facts: what a line makes of the ways, spot by spot; ways that are settled are the least that are closed. -/
namespace Go.Proofs.YtmlgajhhnojdjaaGreatDoor.Spec
theorem hereSpecO : True := trivial
end Go.Proofs.YtmlgajhhnojdjaaGreatDoor.Spec
/- Plain facts: ways that are settled are closed, and the least ones that are. -/
namespace Go.Proofs.YtmlgajhhnojdjaaGreatDoor.Spec
theorem hereSpecP : True := trivial
end Go.Proofs.YtmlgajhhnojdjaaGreatDoor.Spec
/- Plain facts: of a program that was read whole, ways that are settled are closed, and the least ones that are. -/
namespace Go.Proofs.YtmlgajhhnojdjaaGreatDoor.Spec
theorem hereSpecQ : True := trivial
end Go.Proofs.YtmlgajhhnojdjaaGreatDoor.Spec
/- Plain facts: ways from block to block are the ways from line to line. -/
namespace Go.Proofs.YtmlgajhhnojdjaaGreatDoor.Spec
open Go Go.Proofs.YtmlgajhhnojdjaaGreatDoor.Aux Go.Proofs.YtmlgajhhnojdjaaGreatDoor.RefS Go.Proofs.YtmlgajhhnojdjaaGreatDoor.RefT

/-- how many blocks begin ahead of line i -/
def RP.cnt (p : RP) (i : Nat) : Nat := ((List.range i).filter fun j => isBlock (p.line j)).length
theorem RP.cnt_succ (p : RP) (i : Nat) : p.cnt (i + 1) = p.cnt i + if isBlock (p.line i) then 1 else 0 := by
  unfold RP.cnt
  rw [List.range_succ, List.filter_append, List.length_append]
  congr 1
  cases h : isBlock (p.line i) <;> simp [h]
/-- a line of a block's body -/
def RP.body (p : RP) (i : Nat) : Prop := i < p.lines.length ∧ isLet (p.line i) = false ∧ isBlock (p.line i) = false
theorem inside_cnt (p : RP) : ∀ i, i ≤ p.lines.length → p.inside i = true → 1 ≤ p.cnt i
  | 0, _, h => by simp [RP.inside, insideR] at h
  | i + 1, hi, h => by
    rw [insideR_last p i (by omega)] at h
    rw [p.cnt_succ]
    by_cases hb : word (p.line i) 0 = wBlock
    · have : isBlock (p.line i) = true := by simp [isBlock, hb]
      rw [this]; simp
    · rw [if_neg hb] at h
      split at h
      · cases h
      · have := inside_cnt p i (by omega) h; omega
section
variable {text : B} {raw : Bool} {p : RP}
theorem ReadOk.body_inside (h : ReadOk text raw p) {i : Nat} (hb : p.body i) : p.inside i = true ∧ 1 ≤ p.cnt i := by
  have : p.inside i = true := by
    rcases h.pre.inb i hb.1 with hl | hl
    · rw [hb.2.1] at hl; cases hl
    · rw [hl, hb.2.2]; rfl
  exact ⟨this, inside_cnt p i (Nat.le_of_lt hb.1) this⟩
end
section
variable {text : B} {raw : Bool} {p : RP}
end
end Go.Proofs.YtmlgajhhnojdjaaGreatDoor.Spec
/- Plain definitions: a program as the project's packages keep it; what its flow makes of a state, as bits; and that both are one. -/
namespace Go.Proofs.YtmlgajhhnojdjaaGreatDoor.Spec
open Go Go.Proofs.YtmlgajhhnojdjaaGreatDoor.Aux Go.Proofs.YtmlgajhhnojdjaaGreatDoor.RefS Go.Proofs.YtmlgajhhnojdjaaGreatDoor.RefT

structure PPlace where
  loc : Nat
  part : UInt8
instance : Inhabited PPlace := ⟨⟨0, 0⟩⟩
structure PLine where
  num : Nat
  op : B
  places : List PPlace
  number : Int
  next : List Nat
def PLine.w (l : PLine) (j : Nat) : PPlace := l.places.getD j default
structure PProg where
  locals : List (B × B)
  blocks : List (List PLine)
section
variable {p : RP}
end
end Go.Proofs.YtmlgajhhnojdjaaGreatDoor.Spec
/- Plain facts: what the flow makes of a line, as bits, is what the document's own ways make of it. -/
namespace Go.Proofs.YtmlgajhhnojdjaaGreatDoor.Spec
theorem hereSpecT : True := trivial
end Go.Proofs.YtmlgajhhnojdjaaGreatDoor.Spec
/- Plain facts: what the flow makes of a line, as bits, is what the document's own ways make of it; and what it finds wrong. -/
namespace Go.Proofs.YtmlgajhhnojdjaaGreatDoor.Spec
theorem hereSpecU : True := trivial
end Go.Proofs.YtmlgajhhnojdjaaGreatDoor.Spec
/- Plain facts: what the flow makes of any line, as bits, and what it finds wrong, is as in the document's own ways. -/
namespace Go.Proofs.YtmlgajhhnojdjaaGreatDoor.Spec
theorem hereSpecV : True := trivial
end Go.Proofs.YtmlgajhhnojdjaaGreatDoor.Spec
