/- Plain facts: the ways that were gone to the end are closed, and the least. -/
import Derived.Test.YtmlgajhhnojdjaaGreatDoorQAM
import Derived.Test.YtmlgajhhnojdjaaGreatDoorQAD
import Derived.Deep.DeepCutAuto
import Derived.Deep.Light
import Derived.Test.YtmlgajhhnojdjaaGreatDoorQAA
import Derived.Test.YtmlgajhhnojdjaaGreatDoorQAE
import Derived.Deep.DeepMust
import Derived.Deep.QuietTactic
import Derived.BigQuiet
import Derived.Deep.LoopGhost
namespace Go.Proofs.YtmlgajhhnojdjaaGreatDoor.FlwS
open Go Go.Proofs.YtmlgajhhnojdjaaGreatDoor.Spec Go.Proofs.YtmlgajhhnojdjaaGreatDoor.FlwA Go.Proofs.YtmlgajhhnojdjaaGreatDoor.FlwB Go.Proofs.YtmlgajhhnojdjaaGreatDoor.FlwD Go.Proofs.YtmlgajhhnojdjaaGreatDoor.FlwE Go.Proofs.YtmlgajhhnojdjaaGreatDoor.FlwF Go.Proofs.YtmlgajhhnojdjaaGreatDoor.FlwG Go.Proofs.YtmlgajhhnojdjaaGreatDoor.FlwI Go.Proofs.YtmlgajhhnojdjaaGreatDoor.FlwJ Go.Proofs.YtmlgajhhnojdjaaGreatDoor.FlwK Go.Proofs.YtmlgajhhnojdjaaGreatDoor.FlwM Go.Proofs.YtmlgajhhnojdjaaGreatDoor.FlwO Go.Proofs.YtmlgajhhnojdjaaGreatDoor.FlwQ

/-- bits of the one are bits of the other -/
def le1 (a b : Nat) : Prop := b ||| a = b
theorem le1_refl (a : Nat) : le1 a a := Nat.or_self a
theorem le1_trans {a b c : Nat} (h : le1 a b) (h' : le1 b c) : le1 a c := by
  unfold le1 at *
  rw [← h', Nat.or_assoc, h]
theorem le1_left (a b : Nat) : le1 a (a ||| b) := by
  unfold le1; rw [Nat.or_comm a b, Nat.or_assoc, Nat.or_self]
theorem le1_right (a b : Nat) : le1 b (a ||| b) := by
  unfold le1; rw [Nat.or_assoc, Nat.or_self]
theorem le1_lub {a b c : Nat} (h : le1 a c) (h' : le1 b c) : le1 (a ||| b) c := by
  unfold le1 at *
  rw [← Nat.or_assoc, h, h']
theorem le1_zero {a : Nat} (h : le1 a 0) : a = 0 := by unfold le1 at h; rwa [Nat.zero_or] at h
def leS (s t : List Nat) : Prop := ∀ k, k < 24 → le1 (s.getD k 0) (t.getD k 0)
theorem leS_refl (s : List Nat) : leS s s := fun _ _ => le1_refl _
theorem leS_trans {s t u : List Nat} (h : leS s t) (h' : leS t u) : leS s u := fun k hk => le1_trans (h k hk) (h' k hk)
theorem join_iff {s t : List Nat} (hs : SOk s) : joinS s t = s ↔ leS t s := by
  constructor
  · intro h k hk
    have := joinS_getD (t := t) hs.len k
    rw [h, if_pos hk] at this
    exact this.symm
  · intro h
    refine ext24 (joinS_len hs.len) hs.len fun k hk => ?_
    rw [joinS_getD hs.len, if_pos hk]; exact h k hk
theorem le_join {s t : List Nat} (hs : SOk s) : leS s (joinS s t) ∧ leS t (joinS s t) := by
  constructor <;> intro k hk <;> rw [joinS_getD hs.len, if_pos hk]
  · exact le1_left _ _
  · exact le1_right _ _
theorem join_le {s t u : List Nat} (hs : SOk s) (h : leS s u) (h' : leS t u) : leS (joinS s t) u := fun k hk => by
  rw [joinS_getD hs.len, if_pos hk]; exact le1_lub (h k hk) (h' k hk)
/-! what a line makes of more is more -/
theorem getD_set1 (s : List Nat) (i v k : Nat) : (s.set i v).getD k 0 = if i = k ∧ k < s.length then v else s.getD k 0 := by
  rw [List.getD_eq_getElem?_getD, List.getElem?_set, List.getD_eq_getElem?_getD]
  by_cases h : i = k
  · subst h
    by_cases h2 : i < s.length
    · simp [h2]
    · simp [h2]
  · rw [if_neg h, if_neg (fun x => h x.1)]
theorem set_mono {s t : List Nat} (hs : s.length = 24) (ht : t.length = 24) (h : leS s t) (i : Nat) {u v : Nat} (huv : le1 u v) : leS (s.set i u) (t.set i v) := fun k hk => by
  rw [getD_set1, getD_set1, hs, ht]
  by_cases e : i = k ∧ k < 24
  · rw [if_pos e, if_pos e]; exact huv
  · rw [if_neg e, if_neg e]; exact h k hk
theorem putL_mono {u v : Nat} (huv : le1 u v) : ∀ (ps : List (Nat × Nat)) {s t : List Nat}, s.length = 24 → t.length = 24 → leS s t → leS (putL u ps s) (putL v ps t)
  | [], _, _, _, _, h => h
  | x :: ps, s, t, hs, ht, h => putL_mono huv ps (s := s.set (slotQ x) u) (t := t.set (slotQ x) v) (by simpa using hs) (by simpa using ht) (set_mono hs ht h _ huv)
theorem takeL_mono : ∀ (ps : List (Nat × Nat)) {s t : List Nat}, s.length = 24 → t.length = 24 → leS s t → leS (takeL ps s) (takeL ps t)
  | [], _, _, _, _, h => h
  | x :: ps, s, t, hs, ht, h => takeL_mono ps (s := s.set (slotQ x) _) (t := t.set (slotQ x) _) (by simpa using hs) (by simpa using ht) (set_mono hs ht h _ (le1_refl _))
theorem getD_mono {s t : List Nat} (hs : SOk s) (ht : SOk t) (h : leS s t) (k : Nat) : le1 (s.getD k 0) (t.getD k 0) := by
  by_cases hk : k < 24
  · exact h k hk
  · have e1 : s.getD k 0 = 0 := by rw [List.getD_eq_getElem?_getD, List.getElem?_eq_none (by rw [hs.len]; omega)]; rfl
    have e2 : t.getD k 0 = 0 := by rw [List.getD_eq_getElem?_getD, List.getElem?_eq_none (by rw [ht.len]; omega)]; rfl
    rw [e1, e2]; exact le1_refl 0
theorem movedL_mono (q : QP) (x : Nat × Nat) {s t : List Nat} (hs : SOk s) (ht : SOk t) (h : leS s t) : le1 (movedL q x s) (movedL q x t) := by
  unfold movedL; split
  · exact getD_mono hs ht h _
  · exact le1_refl _
theorem takeQ_mono (q : QP) (l : QLine) {s t : List Nat} (hs : SOk s) (ht : SOk t) (h : leS s t) : leS (takeQ q l s) (takeQ q l t) := by
  unfold takeQ; split
  · exact takeL_mono _ hs.len ht.len h
  · split
    · exact takeL_mono _ hs.len ht.len h
    · exact h
theorem passQ_mono (q : QP) (l : QLine) {s t : List Nat} (hs : SOk s) (ht : SOk t) (h : leS s t) : leS (passQ q l s) (passQ q l t) := by
  have h1 := takeQ_mono q l hs ht h
  have l1 := (takeQ_ok q l hs).len
  have l2 := (takeQ_ok q l ht).len
  unfold passQ
  split
  · exact putL_mono (le1_refl _) _ l1 l2 h1
  · split
    · exact putL_mono (movedL_mono q _ hs ht h) _ l1 l2 h1
    · split
      · exact putL_mono (le1_refl _) _ l1 l2 h1
      · split
        · exact takeL_mono _ l1 l2 h1
        · exact h1
theorem stepS_mono (l : QLine) (i : Nat) {s t : List Nat} (hs : SOk s) (ht : SOk t) (h : leS s t) : leS (stepS l i s) (stepS l i t) := by
  unfold stepS; split
  · exact putL_mono (le1_refl _) _ hs.len ht.len h
  · exact h
/-! where a block leads, and with what -/
def outsN (l : QLine) : List Nat → Nat → List Nat → List (Nat × List Nat)
  | [], _, _ => []
  | n :: ns, i, s => (n, stepS l i s) :: outsN l ns (i + 1) (stepS l i s)
def stN (l : QLine) : List Nat → Nat → List Nat → List Nat
  | [], _, s => s
  | _ :: ns, i, s => stN l ns (i + 1) (stepS l i s)
def outsL (q : QP) : List QLine → List Nat → List (Nat × List Nat)
  | [], _ => []
  | l :: ls, s => outsN l l.next 0 (passQ q l s) ++ outsL q ls (stN l l.next 0 (passQ q l s))
def leads (M : List (Nat × List Nat)) (x : List (List Nat) × (Nat → Bool)) : List (List Nat) × (Nat → Bool) := M.foldl (fun x n => (leadE x.1 n.1 n.2, leadO x.1 x.2 n.1 n.2)) x
theorem goNext_eq (l : QLine) : ∀ (ns : List Nat) (i : Nat) (t : St), goNext l ns i t = (stN l ns i t.1, leads (outsN l ns i t.1) t.2)
  | [], _, _ => rfl
  | n :: ns, i, t => by rw [goNext, goNext_eq l ns]; rfl
theorem goLines_eq (q : QP) : ∀ (ls : List QLine) (t : St), (goLines q ls t).2 = leads (outsL q ls t.1) t.2
  | [], _ => rfl
  | l :: ls, t => by rw [goLines, goLines_eq q ls, goNext_eq, outsL, leads, leads, leads, List.foldl_append]
theorem stN_ok (l : QLine) : ∀ (ns : List Nat) (i : Nat) {s : List Nat}, SOk s → SOk (stN l ns i s)
  | [], _, _, h => h
  | _ :: ns, i, _, h => stN_ok l ns (i + 1) (stepS_ok l i h)
theorem stN_mono (l : QLine) : ∀ (ns : List Nat) (i : Nat) {s t : List Nat}, SOk s → SOk t → leS s t → leS (stN l ns i s) (stN l ns i t)
  | [], _, _, _, _, _, h => h
  | _ :: ns, i, _, _, hs, ht, h => stN_mono l ns (i + 1) (stepS_ok l i hs) (stepS_ok l i ht) (stepS_mono l i hs ht h)
theorem outsN_ok (l : QLine) (N : Nat) : ∀ (ns : List Nat) (i : Nat) {s : List Nat}, (∀ n ∈ ns, n < N) → SOk s → ∀ x ∈ outsN l ns i s, x.1 < N ∧ SOk x.2
  | [], _, _, _, _, x, hx => by cases hx
  | n :: ns, i, s, hn, h, x, hx => by
    rcases List.mem_cons.mp hx with rfl | hx
    · exact ⟨hn n (List.mem_cons_self ..), stepS_ok l i h⟩
    · exact outsN_ok l N ns (i + 1) (fun m hm => hn m (List.mem_cons_of_mem _ hm)) (stepS_ok l i h) x hx
theorem outsL_ok (q : QP) (N : Nat) : ∀ (ls : List QLine) {s : List Nat}, (∀ l ∈ ls, ∀ n ∈ l.next, n < N) → SOk s → ∀ x ∈ outsL q ls s, x.1 < N ∧ SOk x.2
  | [], _, _, _, x, hx => by cases hx
  | l :: ls, s, hn, h, x, hx => by
    have hp := passQ_ok q l h
    rcases List.mem_append.mp hx with hx | hx
    · exact outsN_ok l N l.next 0 (hn l (List.mem_cons_self ..)) hp x hx
    · exact outsL_ok q N ls (fun m hm => hn m (List.mem_cons_of_mem _ hm)) (stN_ok l _ _ hp) x hx
theorem outsN_mono (l : QLine) : ∀ (ns : List Nat) (i : Nat) {s t : List Nat}, SOk s → SOk t → leS s t → ∀ x ∈ outsN l ns i s, ∃ y, (x.1, y) ∈ outsN l ns i t ∧ leS x.2 y
  | [], _, _, _, _, _, _, x, hx => by cases hx
  | n :: ns, i, s, t, hs, ht, h, x, hx => by
    have h1 := stepS_mono l i hs ht h
    rcases List.mem_cons.mp hx with rfl | hx
    · exact ⟨_, List.mem_cons_self .., h1⟩
    · obtain ⟨y, hy, hl⟩ := outsN_mono l ns (i + 1) (stepS_ok l i hs) (stepS_ok l i ht) h1 x hx
      exact ⟨y, List.mem_cons_of_mem _ hy, hl⟩
theorem outsL_mono (q : QP) : ∀ (ls : List QLine) {s t : List Nat}, SOk s → SOk t → leS s t → ∀ x ∈ outsL q ls s, ∃ y, (x.1, y) ∈ outsL q ls t ∧ leS x.2 y
  | [], _, _, _, _, _, x, hx => by cases hx
  | l :: ls, s, t, hs, ht, h, x, hx => by
    have h1 := passQ_mono q l hs ht h
    have o1 := passQ_ok q l hs
    have o2 := passQ_ok q l ht
    rcases List.mem_append.mp hx with hx | hx
    · obtain ⟨y, hy, hl⟩ := outsN_mono l l.next 0 o1 o2 h1 x hx
      exact ⟨y, List.mem_append.mpr (.inl hy), hl⟩
    · obtain ⟨y, hy, hl⟩ := outsL_mono q ls (stN_ok l _ _ o1) (stN_ok l _ _ o2) (stN_mono l _ _ o1 o2 h1) x hx
      exact ⟨y, List.mem_append.mpr (.inr hy), hl⟩
/-! many ways joined -/
theorem leadE_at (E : List (List Nat)) (n : Nat) (s : List Nat) (hn : n < E.length) (b : Nat) : (leadE E n s).getD b [] = if b = n then joinS (E.getD n []) s else E.getD b [] := by
  unfold leadE
  split
  · rename_i h
    split
    · rename_i e; rw [e, h]
    · rfl
  · exact getD_set E n _ hn b
theorem nonzero_of_le {s t : List Nat} (hs : SOk s) (h : leS s t) (hn : ¬ s = zeroSt) : ¬ t = zeroSt := fun e => hn (by
  subst e
  refine ext24 hs.len (by decide) fun k hk => ?_
  have := h k hk
  have hz : zeroSt.getD k 0 = 0 := by
    unfold zeroSt
    rw [List.getD_eq_getElem?_getD, List.getElem?_replicate, if_pos hk]; rfl
  rw [hz] at this ⊢
  exact le1_zero this)
structure Led (N : Nat) (M : List (Nat × List Nat)) (E : List (List Nat)) (O : Nat → Bool) (E1 : List (List Nat)) (O1 : Nat → Bool) : Prop where
  ok : EOk E1
  len : E1.length = N
  up : ∀ b, b < N → leS (E.getD b []) (E1.getD b [])
  into : ∀ x ∈ M, leS x.2 (E1.getD x.1 [])
  shut : ∀ b, b < N → O1 b = false → O b = false ∧ E1.getD b [] = E.getD b []
  live : ∀ b, b < N → O1 b = true → O b = true ∨ ¬ E1.getD b [] = zeroSt
  least : ∀ U : Nat → List Nat, (∀ b, b < N → leS (E.getD b []) (U b)) → (∀ x ∈ M, leS x.2 (U x.1)) → ∀ b, b < N → leS (E1.getD b []) (U b)
theorem leads_led (N : Nat) : ∀ (M : List (Nat × List Nat)) (E : List (List Nat)) (O : Nat → Bool), EOk E → E.length = N → (∀ x ∈ M, x.1 < N ∧ SOk x.2) → Led N M E O (leads M (E, O)).1 (leads M (E, O)).2
  | [], E, O, hE, hl, _ => ⟨hE, hl, fun _ _ => leS_refl _, fun x hx => (by cases hx), fun b _ h => ⟨h, rfl⟩, fun b _ h => .inl h, fun U h _ b hb => h b hb⟩
  | x :: M, E, O, hE, hl, hM => by
    obtain ⟨hx1, hx2⟩ := hM x (List.mem_cons_self ..)
    have hxE : x.1 < E.length := by omega
    have hs := hE.at hxE
    have hE1 := leadE_ok hE hxE hx2
    have ih := leads_led N M (leadE E x.1 x.2) (leadO E O x.1 x.2) hE1 (by rw [leadE_len]; exact hl) (fun y hy => hM y (List.mem_cons_of_mem _ hy))
    have e : leads (x :: M) (E, O) = leads M (leadE E x.1 x.2, leadO E O x.1 x.2) := rfl
    rw [e]
    have up1 : ∀ b, b < N → leS (E.getD b []) ((leadE E x.1 x.2).getD b []) := fun b hb => by
      rw [leadE_at E x.1 x.2 hxE]
      split
      · rename_i e1; rw [e1]; exact (le_join hs).1
      · exact leS_refl _
    refine ⟨ih.ok, ih.len, fun b hb => leS_trans (up1 b hb) (ih.up b hb), fun y hy => ?_, fun b hb h => ?_, fun b hb h => ?_, fun U h1 h2 b hb => ?_⟩
    · rcases List.mem_cons.mp hy with rfl | hy
      · refine leS_trans ?_ (ih.up y.1 hx1)
        rw [leadE_at E y.1 y.2 hxE, if_pos rfl]
        exact (le_join hs).2
      · exact ih.into y hy
    · obtain ⟨h1, h2⟩ := ih.shut b hb h
      unfold leadO at h1
      split at h1
      · rename_i hj
        exact ⟨h1, h2.trans (by rw [leadE, if_pos hj])⟩
      · rename_i hj
        unfold setO at h1
        split at h1
        · cases h1
        · rename_i hne
          exact ⟨h1, h2.trans (by rw [leadE_at E x.1 x.2 hxE, if_neg hne])⟩
    · rcases ih.live b hb h with h1 | h1
      · unfold leadO at h1
        split at h1
        · exact .inl h1
        · rename_i hj
          unfold setO at h1
          split at h1
          · rename_i hbx
            right
            refine nonzero_of_le (joinS_ok hs hx2) (?_ : leS (joinS (E.getD x.1 []) x.2) _) (fun hz => ?_)
            · have := ih.up b hb
              rw [leadE_at E x.1 x.2 hxE, if_pos hbx] at this
              exact this
            · obtain ⟨k, hk, hne⟩ := join_ne hs hj
              have h0 : (joinS (E.getD x.1 []) x.2).getD k 0 = 0 := by
                rw [hz]; unfold zeroSt; rw [List.getD_eq_getElem?_getD, List.getElem?_replicate, if_pos hk]; rfl
              have := (le_join (t := x.2) hs).1 k hk
              rw [h0] at this hne
              exact hne (le1_zero this).symm
          · exact .inl h1
      · exact .inr h1
    · refine ih.least U (fun c hc => ?_) (fun y hy => h2 y (List.mem_cons_of_mem _ hy)) b hb
      rw [leadE_at E x.1 x.2 hxE]
      split
      · rename_i e1; rw [e1]; exact join_le hs (h1 x.1 hx1) (h2 x (List.mem_cons_self ..))
      · exact h1 c hc
/-! what holds from step to step -/
structure QClosed (q : QP) (U : Nat → List Nat) : Prop where
  ok : ∀ b, b < q.blocks.length → SOk (U b)
  start : leS startSt (U 0)
  step : ∀ b, b < q.blocks.length → ¬ U b = zeroSt → ∀ x ∈ outsL q (q.blocks.getD b []) (U b), leS x.2 (U x.1)
structure Inv (q : QP) (E : List (List Nat)) (O : Nat → Bool) : Prop where
  ok : EOk E
  len : E.length = q.blocks.length
  start : leS startSt (E.getD 0 [])
  step : ∀ b, b < q.blocks.length → O b = false → ¬ E.getD b [] = zeroSt → ∀ x ∈ outsL q (q.blocks.getD b []) (E.getD b []), leS x.2 (E.getD x.1 [])
  live : ∀ b, b < q.blocks.length → O b = true → ¬ E.getD b [] = zeroSt
  least : ∀ U, QClosed q U → ∀ b, b < q.blocks.length → leS (E.getD b []) (U b)
theorem startSt_ne : ¬ startSt = zeroSt := by decide
theorem inv_start (q : QP) (h0 : 0 < q.blocks.length) : Inv q (leadE (List.replicate q.blocks.length zeroSt) 0 startSt) (leadO (List.replicate q.blocks.length zeroSt) (fun _ => false) 0 startSt) := by
  have hz : ∀ b, b < q.blocks.length → (List.replicate q.blocks.length zeroSt).getD b [] = zeroSt := fun b hb => by simp [List.getD_eq_getElem?_getD, hb]
  have hok : EOk (List.replicate q.blocks.length zeroSt) := fun s hs => by rw [List.eq_of_mem_replicate hs]; exact ⟨by decide, zeroSt_lt⟩
  have L := leads_led q.blocks.length [(0, startSt)] (List.replicate q.blocks.length zeroSt) (fun _ => false) hok (by simp) (fun x hx => by rw [List.mem_singleton.mp hx]; exact ⟨h0, startSt_ok⟩)
  have hle : ∀ U : List Nat, leS zeroSt U := fun U k hk => by
    have : zeroSt.getD k 0 = 0 := by unfold zeroSt; rw [List.getD_eq_getElem?_getD, List.getElem?_replicate, if_pos hk]; rfl
    rw [this]; exact Nat.or_zero _
  refine ⟨L.ok, L.len, L.into (0, startSt) (List.mem_singleton.mpr rfl), fun b hb hO hne => ?_, fun b hb hO => ?_, fun U hU => L.least U (fun b hb => by rw [hz b hb]; exact hle _) (fun x hx => by rw [List.mem_singleton.mp hx]; exact hU.start)⟩
  · obtain ⟨-, h2⟩ := L.shut b hb hO
    have e : (leads [(0, startSt)] (List.replicate q.blocks.length zeroSt, fun _ => false)).1 = leadE (List.replicate q.blocks.length zeroSt) 0 startSt := rfl
    rw [e, hz b hb] at h2
    exact absurd h2 hne
  · rcases L.live b hb hO with h | h
    · cases h
    · exact h
theorem inv_step (q : QP) (hnx : ∀ b, b < q.blocks.length → ∀ l ∈ q.blocks.getD b [], ∀ n ∈ l.next, n < q.blocks.length) (E : List (List Nat)) (O : Nat → Bool) (b : Nat) (hb : b < q.blocks.length) (hO : O b = true) (h : Inv q E O) :
    Inv q (goBlk q E (setO O b false) b).2.1 (goBlk q E (setO O b false) b).2.2 := by
  have hbE : b < E.length := by rw [h.len]; exact hb
  have hs := h.ok.at hbE
  have e : (goBlk q E (setO O b false) b).2 = leads (outsL q (q.blocks.getD b []) (E.getD b [])) (E, setO O b false) := goLines_eq q _ _
  have L := leads_led q.blocks.length (outsL q (q.blocks.getD b []) (E.getD b [])) E (setO O b false) h.ok h.len (outsL_ok q q.blocks.length _ (hnx b hb) hs)
  rw [← e] at L
  refine ⟨L.ok, L.len, leS_trans h.start (L.up 0 (by omega)), fun c hc hOc hne => ?_, fun c hc hOc => ?_, fun U hU => L.least U (fun c hc => h.least U hU c hc) (fun x hx => ?_)⟩
  · obtain ⟨h1, h2⟩ := L.shut c hc hOc
    rw [h2] at hne ⊢
    by_cases hcb : c = b
    · subst hcb
      exact L.into
    · unfold setO at h1
      rw [if_neg hcb] at h1
      intro x hx
      exact leS_trans (h.step c hc h1 hne x hx) (L.up x.1 (outsL_ok q q.blocks.length _ (hnx c hc) (h.ok.at (by rw [h.len]; exact hc)) x hx).1)
  · rcases L.live c hc hOc with h1 | h1
    · unfold setO at h1
      split at h1
      · cases h1
      · exact nonzero_of_le (h.ok.at (by rw [h.len]; exact hc)) (L.up c hc) (h.live c hc h1)
    · exact h1
  · have hle := h.least U hU b hb
    obtain ⟨y, hy, hxy⟩ := outsL_mono q (q.blocks.getD b []) hs (hU.ok b hb) hle x hx
    exact leS_trans hxy (hU.step b hb (nonzero_of_le hs hle (h.live b hb hO)) (x.1, y) hy)
end Go.Proofs.YtmlgajhhnojdjaaGreatDoor.FlwS
/- What the document's own reader answers on places and numbers. No conditions but the strings' lengths. -/
namespace Go.Proofs.YtmlgajhhnojdjaaGreatDoor.RefB
open Go.RowKit Go.Proofs.YtmlgajhhnojdjaaGreatDoor.Spec Go.Proofs.YtmlgajhhnojdjaaGreatDoor.RefA

theorem localOf_le (l : B) : (localOf l).length ≤ l.length := by
  unfold localOf; split <;> simp
theorem isPlace_bs (l : B) (w : World) (h : l.length ≤ maxLen) :
    Calls Tryz.prog 158 #[.string (bs l)] w fun e w' => e = .returned (.bool (isPlace l)) ∧ w' = w := by
  have hl := Nat.le_trans (localOf_le l) h
  have h1 := toList_bs l
  have h2 := toList_bs (localOf l)
  go_enter Tryz.func158, Tryz.ntmps158
  go_wp2_with (first
    | (go_at_call 111; refine (local_bs l _ h).mono ?_; rintro e w' ⟨rfl, rfl⟩)
    | (go_at_call 108; refine (isName_bs _ _ hl).mono ?_; rintro e w' ⟨rfl, rfl⟩)
    | (go_at_call 159; refine (part_bs l _ h).mono ?_; rintro e w' ⟨rfl, rfl⟩))
  all_goals
    go_ret
    refine ⟨ret_bool ?_, rfl⟩
    rw [isPlace_nat, Bool.eq_iff_iff]
    first | (simp [*]; done) | (simp [*]; omega) | simp_all
end Go.Proofs.YtmlgajhhnojdjaaGreatDoor.RefB
/- What the document's own reader answers on numbers. No conditions but the strings' lengths. -/
namespace Go.Proofs.YtmlgajhhnojdjaaGreatDoor.RefC
open Go.RowKit Go.Proofs.YtmlgajhhnojdjaaGreatDoor.Spec Go.Proofs.YtmlgajhhnojdjaaGreatDoor.RefA

theorem ret_num {o : Option Int} {a : Int} {b : Bool} (h : o.getD 0 = a) (h' : o.isSome = b) : Ending.returned (.tuple #[.int .i64 a, .bool b]) = .returned (.tuple #[.int .i64 (o.getD 0), .bool o.isSome]) := by rw [h, h']

theorem numGo_end (m : Int) (d : ByteArray) (k : Nat) (hk : ¬ k < d.size) : numGo m (d.toList.drop k) = some m := by
  rw [List.drop_eq_nil_of_le (by rw [length_toList]; omega)]; rfl
theorem numGo_bad (m : Int) (d : ByteArray) (k : Nat) (hk : k < d.size) (h : d[k].toNat < 48 ∨ 57 < d[k].toNat) : numGo m (d.toList.drop k) = none := by
  rw [List.drop_eq_getElem_cons (by rw [length_toList]; exact hk), ← getElem_toList d k hk, numGo, if_neg]
  simp [digit]; omega
theorem numGo_great (m : Int) (d : ByteArray) (k : Nat) (hk : k < d.size) (h : 1000000000 < 10 * m + ((d[k].toNat : Int) - 48)) : numGo m (d.toList.drop k) = none := by
  rw [List.drop_eq_getElem_cons (by rw [length_toList]; exact hk), ← getElem_toList d k hk, numGo]
  by_cases hd : digit d[k] = true
  · rw [if_pos hd, if_pos h]
  · rw [if_neg hd]
theorem numGo_on (m : Int) (d : ByteArray) (k : Nat) (hk : k < d.size) (h1 : 48 ≤ d[k].toNat) (h2 : d[k].toNat ≤ 57) (h : 10 * m + ((d[k].toNat : Int) - 48) ≤ 1000000000) : numGo m (d.toList.drop k) = numGo (10 * m + ((d[k].toNat : Int) - 48)) (d.toList.drop (k + 1)) := by
  rw [List.drop_eq_getElem_cons (by rw [length_toList]; exact hk), ← getElem_toList d k hk, numGo, if_pos, if_neg (by omega)]
  simp [digit]; omega
theorem unsigned_minus (s : ByteArray) (h : 0 < s.size) (h0 : s[0].toNat = 45) : unsigned s.toList = (s.extract 1 s.size).toList ∧ signed s.toList = true := by
  have e : s.toList = s[0] :: s.toList.drop 1 := by
    conv => lhs; rw [← List.drop_zero (l := s.toList), List.drop_eq_getElem_cons (by rw [length_toList]; exact h), ← getElem_toList s 0 h]
  have h1 : s[0] = 45 := (u8_eq _ 45 (by omega)).mpr h0
  rw [extract_toList]
  constructor
  · rw [e, unsigned, if_pos h1, List.drop_succ_cons, List.drop_zero, List.take_of_length_le (by simp [length_toList])]
  · rw [e, signed]; simp [h1]
theorem unsigned_plain (s : ByteArray) (h : s.size = 0 ∨ ∃ h : 0 < s.size, ¬ s[0].toNat = 45) : unsigned s.toList = s.toList ∧ signed s.toList = false := by
  rcases h with h | ⟨h, h0⟩
  · have : s.toList = [] := List.eq_nil_of_length_eq_zero (by rw [length_toList]; exact h)
    simp [this, unsigned, signed]
  · have e : s.toList = s[0] :: s.toList.drop 1 := by
      conv => lhs; rw [← List.drop_zero (l := s.toList), List.drop_eq_getElem_cons (by rw [length_toList]; exact h), ← getElem_toList s 0 h]
    have h1 : ¬ s[0] = 45 := fun e => h0 ((u8_eq _ 45 (by omega)).mp e)
    constructor
    · conv => lhs; rw [e]
      rw [unsigned, if_neg h1, ← e]
    · rw [e, signed]; simp [h1]

theorem number_stop (s : ByteArray) (d : ByteArray) (hu : unsigned s.toList = d.toList) (h : d.size < 1 ∨ (∃ h : 0 < d.size, d[0].toNat = 48 ∧ ¬ s.toList = [48])) : number s.toList = none := by
  rw [number, if_pos]
  rw [hu, length_toList]
  rcases h with h | ⟨h, h0, h1⟩
  · exact .inl h
  · refine .inr ⟨?_, h1⟩
    rw [List.head?_eq_getElem?, getElem?_toList d 0 h, (u8_eq d[0] 48 (by omega)).mpr h0]
    rfl
theorem number_go (s : ByteArray) (d : ByteArray) (hu : unsigned s.toList = d.toList) (h : 0 < d.size) (h0 : d[0].toNat = 48 → s.toList = [48]) : number s.toList = (numGo 0 d.toList).map fun n => if signed s.toList then -n else n := by
  rw [number, if_neg, hu]
  · cases numGo 0 d.toList <;> rfl
  · rw [hu, length_toList]
    rintro (h' | ⟨h', h2⟩)
    · omega
    · rw [List.head?_eq_getElem?, getElem?_toList d 0 h] at h'
      exact h2 (h0 ((u8_eq d[0] 48 (by omega)).mp (by simpa using h')))


theorem signed_no (s : ByteArray) (h : s.size = 0) : signed s.toList = false := (unsigned_plain s (.inl h)).2
theorem signed_at (s : ByteArray) (h : 0 < s.size) : signed s.toList = decide (s[0].toNat = 45) := by
  by_cases h0 : s[0].toNat = 45
  · rw [(unsigned_minus s h h0).2]; simp [h0]
  · rw [(unsigned_plain s (.inr ⟨h, h0⟩)).2]; simp [h0]
theorem unsigned_yes (s : ByteArray) (h : signed s.toList = true) : unsigned s.toList = (s.extract 1 s.size).toList ∧ 0 < s.size := by
  by_cases h0 : 0 < s.size
  · rw [signed_at s h0] at h
    exact ⟨(unsigned_minus s h0 (by simpa using h)).1, h0⟩
  · rw [signed_no s (by omega)] at h
    cases h
theorem unsigned_no (s : ByteArray) (h : signed s.toList = false) : unsigned s.toList = s.toList := by
  by_cases h0 : 0 < s.size
  · rw [signed_at s h0] at h
    exact (unsigned_plain s (.inr ⟨h0, by simpa using h⟩)).1
  · exact (unsigned_plain s (.inl (by omega))).1

set_option maxHeartbeats 1000000 in
theorem number_any (s : ByteArray) (w : World) (hs : s.size ≤ maxLen) :
    Calls Tryz.prog 112 #[.string s] w fun e w' => e = .returned (.tuple #[.int .i64 ((number s.toList).getD 0), .bool (number s.toList).isSome]) ∧ w' = w := by
  unfold maxLen at hs
  go_enter Tryz.func112, Tryz.ntmps112
  go_upto_region 2 with fail
  go_cut [5] (fun ls wc => wc = w ∧ ls = .bool (signed s.toList))
  case first =>
    by_cases h0 : 0 < s.size
    · have hx : Hid (signed s.toList = decide (s[0].toNat = 45)) := signed_at s h0
      go_wp2
      go_meet
      case rel => exact ⟨rfl, by rw [hx.out]; congr 1; rw [Bool.eq_iff_iff]; simp; omega⟩
    · have hx : Hid (signed s.toList = false) := signed_no s (by omega)
      go_wp2
      go_meet
      case rel => exact ⟨rfl, by rw [hx.out]⟩
  case rest =>
    obtain ⟨rfl, rfl⟩ := hcut
    go_upto_if 17 with fail
    go_cut [4] (fun d wc' => wc' = wc ∧ ∃ d' : ByteArray, d = .string d' ∧ d'.size ≤ 9223372036854775807 ∧ Hid (unsigned s.toList = d'.toList))
    case first =>
      by_cases hg : signed s.toList = true
      · have hu := unsigned_yes s hg
        obtain ⟨hu1, hu2⟩ := hu
        have HU : Hid (unsigned s.toList = (s.extract 1 s.size).toList) := hu1
        clear hu1
        go_wp2
        · go_meet
          case rel => exact ⟨rfl, _, rfl, by simp; omega, HU⟩
        · exact absurd hg (by simp [‹signed s.toList = false›])
      · have HU : Hid (unsigned s.toList = s.toList) := unsigned_no s (by simpa using hg)
        go_wp2
        go_meet
        case rel => exact ⟨rfl, _, rfl, by omega, HU⟩
    case rest =>
      obtain ⟨rfl, d, rfl, hsz, HU⟩ := hcut
      by_cases hz : d.size = 0
      · have hn : Hid (number s.toList = none) := number_stop s _ HU.out (.inl (by omega))
        go_wp2
        go_ret2
        exact ⟨ret_num (by rw [hn.out]; rfl) (by rw [hn.out]; rfl), rfl⟩
      have hz1 : 0 < d.size := by omega
      clear hz
      by_cases hq : d[0].toNat = 48 ∧ ¬ s.toList = [48]
      · have hn : Hid (number s.toList = none) := number_stop s _ HU.out (.inr ⟨by omega, hq⟩)
        obtain ⟨hq1, hq2⟩ := hq
        have hb : (s.toList == [48]) = false := by simpa using hq2
        clear hq2
        go_wp2
        go_ret2
        exact ⟨ret_num (by rw [hn.out]; rfl) (by rw [hn.out]; rfl), rfl⟩
      have Hq : d[0].toNat = 48 → s.toList = [48] := fun e => by
        by_cases h' : s.toList = [48]
        · exact h'
        · exact absurd ⟨e, h'⟩ hq
      clear hq
      have hn : Hid (number s.toList = (numGo 0 d.toList).map fun n => if signed s.toList then -n else n) := number_go s _ HU.out (by omega) Hq
      go_upto_region 5 with fail
      go_cut [31] (fun b wc' => wc' = wc ∧ b = .bool false)
      case first =>
        by_cases hc : d[0].toNat = 48
        · have hb : (s.toList == [48]) = true := by simp [Hq hc]
          clear Hq
          go_wp2
          go_meet
          case rel => exact ⟨rfl, by congr 1; simp; omega⟩
        · clear Hq
          go_wp2
          go_meet
          case rel => exact ⟨rfl, by congr 1; simp; omega⟩
      case rest =>
        obtain ⟨rfl, rfl⟩ := hcut
        clear Hq
        go_wp2
        go_loop [6, 7] (fun n i => ∃ (k : Nat) (m : Int), k ≤ d.size ∧ i = .int .i64 k ∧ n = .int .i64 m ∧ 0 ≤ m ∧ m ≤ 1000000000 ∧ Hid (numGo 0 d.toList = numGo m (d.toList.drop k))) (fun _ i => d.size - (intOf i).toNat)
        case atStart => exact ⟨0, 0, Nat.zero_le _, rfl, rfl, by omega, by omega, rfl⟩
        case round =>
          obtain ⟨k, m, hk, rfl, rfl, hm0, hm1, HM⟩ := hrel
          by_cases hlt : k < d.size
          · go_wp2
            · go_ret2
              have hx : number s.toList = none := by rw [hn.out, HM.out, numGo_bad m _ k hlt (by omega)]; rfl
              exact ⟨ret_num (by rw [hx]; rfl) (by rw [hx]; rfl), rfl⟩
            · go_ret2
              have hx : number s.toList = none := by rw [hn.out, HM.out, numGo_great m _ k hlt (by omega)]; rfl
              exact ⟨ret_num (by rw [hx]; rfl) (by rw [hx]; rfl), rfl⟩
            · go_round
              case rel => exact ⟨k + 1, 10 * m + ((d[k].toNat : Int) - 48), by omega, by go_num, by go_num, by omega, by omega, by rw [HM.out]; exact numGo_on m _ k hlt (by omega) (by omega) (by omega)⟩
              case measure => simp [intOf]; omega
            · go_ret2
              have hx : number s.toList = none := by rw [hn.out, HM.out, numGo_bad m _ k hlt (by omega)]; rfl
              exact ⟨ret_num (by rw [hx]; rfl) (by rw [hx]; rfl), rfl⟩
          · go_wp2
            · go_ret2
              have hx : number s.toList = some (-m) := by rw [hn.out, HM.out, numGo_end m _ k hlt, ‹signed s.toList = true›]; rfl
              exact ⟨ret_num (by rw [hx]; rfl) (by rw [hx]; rfl), rfl⟩
            · go_ret2
              have hx : number s.toList = some m := by rw [hn.out, HM.out, numGo_end m _ k hlt, ‹signed s.toList = false›]; rfl
              exact ⟨ret_num (by rw [hx]; rfl) (by rw [hx]; rfl), rfl⟩
theorem number_bs (l : B) (w : World) (h : l.length ≤ maxLen) :
    Calls Tryz.prog 112 #[.string (bs l)] w fun e w' => e = .returned (.tuple #[.int .i64 ((number l).getD 0), .bool (number l).isSome]) ∧ w' = w := by
  have := number_any (bs l) w (by rw [size_bs]; exact h)
  rwa [toList_bs] at this
end Go.Proofs.YtmlgajhhnojdjaaGreatDoor.RefC
/- What the document's own reader answers on a line's first word: what stands behind it; and whether a word may stand for a kind. No conditions but the strings' lengths. -/
namespace Go.Proofs.YtmlgajhhnojdjaaGreatDoor.RefD
open Go.RowKit Go.Proofs.YtmlgajhhnojdjaaGreatDoor.Spec Go.Proofs.YtmlgajhhnojdjaaGreatDoor.RefA Go.Proofs.YtmlgajhhnojdjaaGreatDoor.RefB Go.Proofs.YtmlgajhhnojdjaaGreatDoor.RefC

def known : List B := [[115, 101, 116], [97, 100, 100], [115, 117, 98], [109, 117, 108], [100, 105, 118], [105, 110], [111, 117, 116], [101, 110, 100], [110, 101, 119], [115, 116, 111, 114, 101], [108, 111, 97, 100], [109, 111, 118, 101], [110, 111, 110, 101], [115, 111, 109, 101], [103, 111, 116, 111], [105, 102], [109, 97, 116, 99, 104], [100, 114, 111, 112], [102, 114, 101, 101], [102, 108, 97, 103], [116, 101, 115, 116]]
theorem ret_beh {a b : ByteArray} {x y : Bool} (h : a = b) (h' : x = y) : Ending.returned (.tuple #[.string a, .bool x]) = .returned (.tuple #[.string b, .bool y]) := by rw [h, h']
theorem behind_not (l : B) (r : Bool) (h : l ∉ known) : behind l r = ([], false) := by
  simp only [known, List.mem_cons, List.not_mem_nil, or_false, not_or] at h
  simp [behind, h]

set_option maxHeartbeats 2000000 in
theorem behind_known (l : B) (r : Bool) (w : World) (h : l ∈ known) :
    Calls Tryz.prog 87 #[.string (bs l), .bool r] w fun e w' => e = .returned (.tuple #[.string (bs (behind l r).1), .bool (behind l r).2]) ∧ w' = w := by
  have ht := toList_bs l
  simp only [known, List.mem_cons, List.not_mem_nil, or_false] at h
  rcases h with rfl | rfl | rfl | rfl | rfl | rfl | rfl | rfl | rfl | rfl | rfl | rfl | rfl | rfl | rfl | rfl | rfl | rfl | rfl | rfl | rfl
  all_goals
    go_enter Tryz.func87, Tryz.ntmps87
    go_wp2
    go_ret2
    exact ⟨ret_beh (by simp [behind, bs]) (by simp [behind]), rfl⟩
set_option maxHeartbeats 2000000 in
theorem behind_other (l : B) (r : Bool) (w : World) (h : l ∉ known) :
    Calls Tryz.prog 87 #[.string (bs l), .bool r] w fun e w' => e = .returned (.tuple #[.string (bs (behind l r).1), .bool (behind l r).2]) ∧ w' = w := by
  have ht := toList_bs l
  rw [behind_not l r h]
  have h' : ∀ x ∈ known, (l == x) = false := fun x hx => beq_eq_false_iff_ne.mpr (fun e => h (e ▸ hx))
  clear h
  simp only [known, List.forall_mem_cons, List.not_mem_nil, false_implies, implies_true, and_true] at h'
  obtain ⟨h1, h2, h3, h4, h5, h6, h7, h8, h9, h10, h11, h12, h13, h14, h15, h16, h17, h18, h19, h20, h21⟩ := h'
  go_enter Tryz.func87, Tryz.ntmps87
  go_wp2
  go_ret2
  exact ⟨rfl, rfl⟩
theorem behind_bs (l : B) (r : Bool) (w : World) :
    Calls Tryz.prog 87 #[.string (bs l), .bool r] w fun e w' => e = .returned (.tuple #[.string (bs (behind l r).1), .bool (behind l r).2]) ∧ w' = w := by
  by_cases h : l ∈ known
  · exact behind_known l r w h
  · exact behind_other l r w h

theorem u8_beq (k : UInt8) (n : Nat) (hn : n < 256) : ((k.toNat : Int) == (n : Int)) = decide (k = UInt8.ofNat n) := by
  rw [Bool.eq_iff_iff, decide_eq_true_eq, u8_eq k n hn]; simp; omega
theorem wordOf_nat (k : UInt8) (l : B) : wordOf k l =
    if ((k.toNat : Int) == 105) = true ∨ ((k.toNat : Int) == 111) = true then isName l
    else if ((k.toNat : Int) == 112) = true ∨ ((k.toNat : Int) == 109) = true ∨ ((k.toNat : Int) == 100) = true then isPlace l
    else if ((k.toNat : Int) == 110) = true then (number l).isSome
    else if ((k.toNat : Int) == 78) = true then (number l).isSome && decide (0 ≤ (number l).getD 0)
    else if ((k.toNat : Int) == 102) = true then (number l).isSome && decide (0 ≤ (number l).getD 0) && decide ((number l).getD 0 < 50)
    else (number l).isSome && (decide ((number l).getD 0 = 0) || decide ((number l).getD 0 = 1)) := by
  have e := fun n hn => u8_beq k n hn
  have e1 := e 105 (by omega); have e2 := e 111 (by omega); have e3 := e 112 (by omega); have e4 := e 109 (by omega); have e5 := e 100 (by omega)
  have e6 := e 110 (by omega); have e7 := e 78 (by omega); have e8 := e 102 (by omega)
  simp only [Int.cast_ofNat_Int] at e1 e2 e3 e4 e5 e6 e7 e8
  rw [e1, e2, e3, e4, e5, e6, e7, e8]
  simp only [decide_eq_true_eq, wordOf]
  cases number l <;> rfl
theorem wordOf_bs (k : UInt8) (l : B) (w : World) (h : l.length ≤ maxLen) :
    Calls Tryz.prog 109 #[.int .u8 k.toNat, .string (bs l)] w fun e w' => e = .returned (.bool (wordOf k l)) ∧ w' = w := by
  go_enter Tryz.func109, Tryz.ntmps109
  go_wp2_with (first
    | (go_at_call 112; refine (number_bs l _ h).mono ?_; rintro e w' ⟨rfl, rfl⟩)
    | (go_at_call 108; refine (isName_bs _ _ h).mono ?_; rintro e w' ⟨rfl, rfl⟩)
    | (go_at_call 158; refine (isPlace_bs l _ h).mono ?_; rintro e w' ⟨rfl, rfl⟩))
  all_goals
    go_ret
    refine ⟨ret_bool ?_, rfl⟩
    go_light
    rw [wordOf_nat]
    first | (simp [*]; done) | (simp [*]; omega) | (rw [Bool.eq_iff_iff]; simp [*]; done) | (rw [Bool.eq_iff_iff]; simp [*]; omega)
end Go.Proofs.YtmlgajhhnojdjaaGreatDoor.RefD
/- What the document's own reader answers on a text that is parted at a byte. Condition: the text has at most 2^40 bytes. -/
namespace Go.Proofs.YtmlgajhhnojdjaaGreatDoor.RefE
open Go.RowKit Go.Proofs.YtmlgajhhnojdjaaGreatDoor.Spec Go.Proofs.YtmlgajhhnojdjaaGreatDoor.RefA Go.Proofs.YtmlgajhhnojdjaaGreatDoor.Aux

theorem info_string : (Tryz.prog.info? 9).map (fun i => (i.zero, i.size, i.bytes)) = some (some (.string ⟨#[]⟩), 1, 16) := by kernel_rfl

set_option maxRecDepth 20000 in
set_option maxHeartbeats 1000000 in
theorem split_any (s : ByteArray) (c : UInt8) (w : World) (hs : s.size ≤ 1099511627776) :
    Calls Tryz.prog 67 #[.string s, .int .u8 c.toNat] w fun e w' => ∃ v, e = .returned v ∧ w'.ownsRow w.heap.size 9 1 v (split c s.toList).length (cellsOf (split c s.toList)) ∧ Below w.heap.size w w' := by
  obtain ⟨i, hi, hz0, hz1, hz2⟩ := info_parts info_string
  have HS : Hid (s.size ≤ 1099511627776) := hs
  replace hs : s.size ≤ 9223372036854775806 := by omega
  go_enter Tryz.func67, Tryz.ntmps67
  go_wp2
  go_loopw [5, 6, 7] (fun v fr i wr => ∃ (k f : Nat) (done : List B), f ≤ k ∧ k ≤ s.size + 1 ∧ i = .int .i64 k ∧ fr = .int .i64 f ∧ wr.ownsRow w.heap.size 9 1 v done.length (cellsOf done) ∧ Below w.heap.size w wr ∧ Hid (k ≤ s.size → Parted c s.toList done f k) ∧ Hid (k = s.size + 1 → split c s.toList = done)) (fun _ _ i _ => s.size + 1 - (intOf i).toNat)
  case atStart => exact ⟨0, 0, [], Nat.le_refl _, Nat.zero_le _, rfl, rfl, World.ownsRow_nil _ _ _ _, Below.refl _ _, fun _ => parted_start _ _, fun h => by omega⟩
  case round =>
    obtain ⟨k, f, done, hf, hk, rfl, rfl, hown, hb, H1, H2⟩ := hrel
    by_cases hle : k ≤ s.size
    · have hlen : Hid (done.length ≤ s.size) := by have := parted_length (H1.out hle); rwa [length_toList] at this
      have hsz := hb.size
      by_cases hlt : k < s.size
      · by_cases hc : s[k].toNat = c.toNat
        · have hcb : ((s[k].toNat : Int) == (c.toNat : Int)) = true := by simp [hc]
          have HC : Hid (s[k].toNat = c.toNat) := hc
          clear hc
          go_wp2_with (at_builtin; go_must (refine append_one rfl _ _ 34 rfl w.heap.size 9 i (.string ⟨#[]⟩) 16 Tryz.underlying34 hi hz0 hz1 hz2 rfl _ _ _ rfl hown _ rfl rfl (by decide) (by have := hlen.out; have := HS.out; omega) hsz ?_); intro v' w1 hown' hgrow)
          go_roundw
          case rel =>
            refine ⟨k + 1, k + 1, done ++ [(s.toList.drop f).take (k - f)], Nat.le_refl _, by omega, by go_num, by go_num, ?_, below_append hb (Nat.le_refl _) hsz hown hgrow, fun _ => ?_, fun h => ?_⟩
            · rw [extract_eq] at hown'; simpa [cellsOf] using hown'
            · exact parted_at (H1.out hle) (by rw [length_toList]; exact hlt) (by rw [← getElem_toList s k hlt]; exact UInt8.toNat_inj.mp HC.out)
            · omega
          case measure => simp [intOf]; omega
        · have hcb : ((s[k].toNat : Int) == (c.toNat : Int)) = false := by simp; omega
          have HC : Hid (¬ s[k].toNat = c.toNat) := hc
          clear hc
          go_wp2
          go_roundw
          case rel =>
            refine ⟨k + 1, f, done, by omega, by omega, by go_num, by go_num, hown, hb, fun _ => ?_, fun h => ?_⟩
            · exact parted_on (H1.out hle) hf (by rw [length_toList]; exact hlt) (by rw [← getElem_toList s k hlt]; exact fun e => HC.out (by rw [e]))
            · omega
          case measure => simp [intOf]; omega
      · obtain rfl : k = s.size := by omega
        go_wp2_with (at_builtin; refine append_one rfl _ _ 34 rfl w.heap.size 9 i (.string ⟨#[]⟩) 16 Tryz.underlying34 hi hz0 hz1 hz2 rfl _ _ _ rfl hown _ rfl rfl (by decide) (by have := hlen.out; have := HS.out; omega) hsz ?_; intro v' w1 hown' hgrow)
        go_roundw
        case rel =>
          refine ⟨s.size + 1, s.size + 1, done ++ [(s.toList.drop f).take (s.size - f)], Nat.le_refl _, by omega, by go_num, by go_num, ?_, below_append hb (Nat.le_refl _) hsz hown hgrow, fun _ => ?_, fun h => ?_⟩
          · rw [extract_eq] at hown'; simpa [cellsOf] using hown'
          · omega
          · exact parted_end (H1.out hle) (length_toList s).symm
        case measure => simp [intOf]
    · go_wp2
      go_ret
      have e := H2.out (by omega)
      exact ⟨_, rfl, by rw [e]; exact hown, hb⟩
theorem split_bs (l : B) (c : UInt8) (w : World) (h : l.length ≤ 1099511627776) :
    Calls Tryz.prog 67 #[.string (bs l), .int .u8 c.toNat] w fun e w' => ∃ v, e = .returned v ∧ w'.ownsRow w.heap.size 9 1 v (split c l).length (cellsOf (split c l)) ∧ Below w.heap.size w w' := by
  have := split_any (bs l) c w (by rw [size_bs]; exact h)
  rwa [toList_bs] at this
end Go.Proofs.YtmlgajhhnojdjaaGreatDoor.RefE
/- What the document's own reader answers on where a line stands and which local has a name. Condition: the program lies in memory as it is kept. -/
namespace Go.Proofs.YtmlgajhhnojdjaaGreatDoor.RefF
open Go.RowKit Go.Proofs.YtmlgajhhnojdjaaGreatDoor.Spec Go.Proofs.YtmlgajhhnojdjaaGreatDoor.RefA Go.Proofs.YtmlgajhhnojdjaaGreatDoor.Aux

theorem inside_succ (p : RP) (k : Nat) (hk : k < p.lines.length) : p.inside (k + 1) = if word (p.line k) 0 = wBlock then true else if ends (word (p.line k) 0) then false else p.inside k := by
  unfold RP.inside
  rw [List.take_add_one, List.getElem?_eq_getElem hk]
  have : p.line k = p.lines[k] := by simp [RP.line, hk]
  rw [this, Option.toList_some, List.reverse_append, List.reverse_singleton, List.singleton_append, insideR]

set_option maxRecDepth 20000 in
set_option maxHeartbeats 1000000 in
theorem inside_any (p : RP) (a i : Nat) (w : World) (hp : ProgAt w a p) (hok : p.Ok) (hi : i ≤ p.lines.length) :
    Calls Tryz.prog 69 #[.pointer (some ⟨a, 0, none⟩), .int .i64 i] w fun e w' => e = .returned (.bool (p.inside i)) ∧ ∃ n, w' = w.drewN n := by
  have hsz := hok.size
  go_enter Tryz.func69, Tryz.ntmps69
  go_wp2
  go_loopw [5] (fun kk wr => ∃ k : Nat, k ≤ i ∧ kk = .int .i64 ((k : Int) - 1) ∧ Hid (p.inside i = p.inside k) ∧ ∃ n, wr = w.drewN n) (fun kk _ => (intOf kk + 1).toNat)
  case atStart => exact ⟨i, Nat.le_refl _, by go_num, rfl, 0, rfl⟩
  case round =>
    obtain ⟨k, hk, rfl, HI, n, rfl⟩ := hrel
    by_cases h0 : k = 0
    · subst h0
      go_wp2
      go_ret
      exact ⟨ret_bool (by rw [HI.out]; rfl), n, rfl⟩
    · obtain ⟨k, rfl⟩ : ∃ j, k = j + 1 := ⟨k - 1, by omega⟩
      have hkl : k < p.lines.length := by omega
      obtain ⟨g, cap, gl, capl, hc1, hc1', hc2, hc2', hw⟩ := hp.line_at k hkl
      have hw1 := hok.words k hkl
      have hw0 := hw 0 (by omega)
      have HS : Hid (_ = _) := inside_succ p k hkl
      go_wp2_with (go_at_call 85; refine (ends_bs _ _).mono ?_; rintro e w' ⟨rfl, rfl⟩)
      · go_ret
        exact ⟨ret_bool (by rw [HI.out, HS.out, if_pos (by simpa using ‹(word (p.line k) 0 == _) = true›)]), n, rfl⟩
      · go_ret
        exact ⟨ret_bool (by rw [HI.out, HS.out, if_neg (by simpa using ‹(word (p.line k) 0 == _) = false›), if_pos ‹_›]), n, rfl⟩
      · go_roundw
        case rel => exact ⟨k, by omega, rfl, by rw [HI.out, HS.out, if_neg (by simpa using ‹(word (p.line k) 0 == _) = false›), if_neg (by simp [*])]; rfl, n, rfl⟩
        case measure => simp [intOf]
end Go.Proofs.YtmlgajhhnojdjaaGreatDoor.RefF
/- What the document's own reader answers on which local has a name. Condition: the program lies in memory as it is kept. -/
namespace Go.Proofs.YtmlgajhhnojdjaaGreatDoor.RefG
open Go.RowKit Go.Proofs.YtmlgajhhnojdjaaGreatDoor.Spec Go.Proofs.YtmlgajhhnojdjaaGreatDoor.RefA Go.Proofs.YtmlgajhhnojdjaaGreatDoor.Aux

theorem find_step (p : RP) (name : B) (k : Nat) (hk : k < p.lets.length) : p.findGo name (p.lets.drop k) k = if word (p.line (p.lets.getD k 0)) 1 = name then (k : Int) else p.findGo name (p.lets.drop (k + 1)) (k + 1) := by
  rw [List.drop_eq_getElem_cons hk, RP.findGo]
  have : p.lets.getD k 0 = p.lets[k] := by simp [hk]
  rw [this]

set_option maxRecDepth 20000 in
set_option maxHeartbeats 1000000 in
theorem find_any (p : RP) (a : Nat) (name : B) (w : World) (hp : ProgAt w a p) (hok : p.Ok) :
    Calls Tryz.prog 110 #[.pointer (some ⟨a, 0, none⟩), .string (bs name)] w fun e w' => e = .returned (.int .i64 (p.find name)) ∧ ∃ n, w' = w.drewN n := by
  have hsz := hok.size
  have hln := hok.letn
  obtain ⟨bl, cl, hlen⟩ := hp.lets_len
  go_enter Tryz.func110, Tryz.ntmps110
  go_wp2
  go_loopw [5] (fun kk wr => ∃ k : Nat, k ≤ p.lets.length ∧ kk = .int .i64 k ∧ Hid (p.find name = p.findGo name (p.lets.drop k) k) ∧ ∃ n, wr = w.drewN n) (fun kk _ => p.lets.length - (intOf kk).toNat)
  case atStart => exact ⟨0, Nat.zero_le _, rfl, rfl, 0, rfl⟩
  case round =>
    obtain ⟨k, hk, rfl, HI, n, rfl⟩ := hrel
    by_cases hlt : k < p.lets.length
    · clear hlen
      obtain ⟨gt, ct, ht1, ht1', ht2⟩ := hp.let_at k hlt
      have hmem : p.lets.getD k 0 ∈ p.lets := by simp [hlt]
      obtain ⟨hl1, hl2⟩ := hok.lets _ hmem
      have HS : Hid (_ = _) := find_step p name k hlt
      generalize p.lets.getD k 0 = t at *
      obtain ⟨g, cap, gl, capl, hc1, hc1', hc2, hc2', hw⟩ := hp.line_at t hl1
      have hw1 := hw 1 (by omega)
      have ht0 : (t : Int) < p.lines.length := by omega
      have ht3 : (1 : Int) < (p.line t).length := by omega
      go_wp2
      go_quiet (fail)
      go_wp2
      · go_ret
        refine ⟨ret_int ?_, n + nq, by simp⟩
        rw [HI.out, HS.out, if_pos (by simpa using ‹(word (p.line t) 1 == name) = true›)]
      · go_roundw
        case rel => exact ⟨k + 1, by omega, by go_num, by rw [HI.out, HS.out, if_neg (by simpa using ‹(word (p.line t) 1 == name) = false›)]; rfl, n + nq, rfl⟩
        case measure => simp [intOf]; omega
    · go_wp2
      go_ret
      refine ⟨ret_int ?_, n, rfl⟩
      rw [HI.out, List.drop_eq_nil_of_le (by omega)]; rfl
end Go.Proofs.YtmlgajhhnojdjaaGreatDoor.RefG
/- What the document's own reader answers on a place's type. Condition: the program lies in memory as it is kept, and the place's local is there. -/
namespace Go.Proofs.YtmlgajhhnojdjaaGreatDoor.RefH
open Go.RowKit Go.Proofs.YtmlgajhhnojdjaaGreatDoor.Spec Go.Proofs.YtmlgajhhnojdjaaGreatDoor.RefA Go.Proofs.YtmlgajhhnojdjaaGreatDoor.RefB Go.Proofs.YtmlgajhhnojdjaaGreatDoor.RefG Go.Proofs.YtmlgajhhnojdjaaGreatDoor.Aux

theorem u8_beq (k : UInt8) (n : Nat) (hn : n < 256) : ((k.toNat : Int) == (n : Int)) = decide (k = UInt8.ofNat n) := by
  rw [Bool.eq_iff_iff, decide_eq_true_eq, u8_eq k n hn]; simp; omega
theorem typeOf_nat (p : RP) (l : B) : p.typeOf l =
    if (((partOf l).toNat : Int) == 97) = true ∨ (((partOf l).toNat : Int) == 98) = true then (if (!(p.typeW l == [112, 97, 105, 114])) = true then [] else [98, 111, 120])
    else if (((partOf l).toNat : Int) == 115) = true then (if (!(p.typeW l == [111, 112, 116])) = true then [] else [98, 111, 120]) else p.typeW l := by
  have e1 := u8_beq (partOf l) 97 (by omega); have e2 := u8_beq (partOf l) 98 (by omega); have e3 := u8_beq (partOf l) 115 (by omega)
  simp only [Int.cast_ofNat_Int] at e1 e2 e3
  rw [e1, e2, e3]
  simp only [decide_eq_true_eq, RP.typeOf, wPair, wOpt, wBox, Bool.not_eq_true', beq_eq_false_iff_ne, ne_eq, ite_not]
  rfl

set_option maxRecDepth 20000 in
set_option maxHeartbeats 1000000 in
theorem typeOf_any (p : RP) (a : Nat) (l : B) (w : World) (hp : ProgAt w a p) (hok : p.Ok) (hl : l.length ≤ maxLen) (hf : 0 ≤ p.find (localOf l)) :
    Calls Tryz.prog 113 #[.pointer (some ⟨a, 0, none⟩), .string (bs l)] w fun e w' => e = .returned (.string (bs (p.typeOf l))) ∧ ∃ n, w' = w.drewN n := by
  obtain ⟨j, hj, hjl, _⟩ := RP.find_lt hf
  have HT : Hid (p.typeW l = word (p.line (p.lets.getD j 0)) 2) := by unfold Hid RP.typeW; rw [hj]; rfl
  have hsz := hok.size
  have hln := hok.letn
  obtain ⟨gt, ct, ht1, ht1', ht2⟩ := hp.let_at j hjl
  have hmem : p.lets.getD j 0 ∈ p.lets := by simp [hjl]
  obtain ⟨hl1, hl2⟩ := hok.lets _ hmem
  generalize p.lets.getD j 0 = t at *
  obtain ⟨g, cap, gl, capl, hc1, hc1', hc2, hc2', hw⟩ := hp.line_at t hl1
  have hw1 := hw 2 (by omega)
  have ht0 : (t : Int) < p.lines.length := by omega
  have ht3 : (2 : Int) < (p.line t).length := by omega
  have hj0 : (j : Int) < p.lets.length := by omega
  have HF : ∀ n, Calls Tryz.prog 110 #[.pointer (some ⟨a, 0, none⟩), .string (bs (localOf l))] (w.drewN n) fun e w' => e = .returned (.int .i64 j) ∧ ∃ m, w' = w.drewN m := fun n =>
    (find_any p a (localOf l) (w.drewN n) (hp.drewN n) hok).mono fun e w' ⟨he, m, hm⟩ => ⟨by rw [he, hj], n + m, by rw [hm]; simp⟩
  clear hj hf
  go_enter Tryz.func113, Tryz.ntmps113
  go_wp2
  go_quiet ((first | (go_at_call 111; exact Calls.quiet_of_same (local_bs l _ hl)) | (go_at_call 110; exact HF _)))
  go_wp2_with (go_at_call 159; refine (part_bs l _ hl).mono ?_; rintro e w' ⟨rfl, rfl⟩)
  all_goals
    go_ret
    refine ⟨ret_str ?_, _, rfl⟩
    go_light
    rw [typeOf_nat, HT.out]
    simp [bs, *]
end Go.Proofs.YtmlgajhhnojdjaaGreatDoor.RefH
/- What the document's own ways answer on letters and spots. Conditions: the strings' lengths; the program lies in memory as it is kept. -/
namespace Go.Proofs.YtmlgajhhnojdjaaGreatDoor.RefO
open Go.RowKit Go.Proofs.YtmlgajhhnojdjaaGreatDoor.Spec Go.Proofs.YtmlgajhhnojdjaaGreatDoor.RefA Go.Proofs.YtmlgajhhnojdjaaGreatDoor.RefG Go.Proofs.YtmlgajhhnojdjaaGreatDoor.RefH Go.Proofs.YtmlgajhhnojdjaaGreatDoor.Aux

theorem left_bs (l : B) (w : World) (h : l.length ≤ maxLen) :
    Calls Tryz.prog 140 #[.string (bs l)] w fun e w' => e = .returned (.string (bs (left l))) ∧ w' = w := by
  have e3 := u8_beq (partOf l) 115 (by omega)
  simp only [Int.cast_ofNat_Int] at e3
  have HE : Hid (_ = _) := e3
  clear e3
  go_enter Tryz.func140, Tryz.ntmps140
  go_wp2_with (go_at_call 159; refine (part_bs l _ h).mono ?_; rintro e w' ⟨rfl, rfl⟩)
  all_goals
    go_ret
    refine ⟨ret_str ?_, rfl⟩
    have hE := HE.out
    simp_all [left, bs]

theorem conv_one (w : World) (c : UInt8) : (convert 93 9 (.slice (some ⟨w.heap.size, 0, none⟩) 1 1)).run Tryz.prog (w.alloc (.cells #[.int .u8 (c.toNat : Int)] 5)) = .ok (.string (bs [c])) (w.alloc (.cells #[.int .u8 (c.toNat : Int)] 5)) := by
  rw [run_convert_bytes_string (e := 5) _ _ _ _ _ _ Tryz.underlying93 Tryz.underlying5 Tryz.underlying9]
  rw [run_bytesToString (P := Tryz.prog) _ ⟨w.heap.size, 0, none⟩ 1 1 [(c.toNat : Int)] (by go_simp)]
  simp [bs]
  rfl
theorem not_take (s : ByteArray) (c : UInt8) (k : Nat) (hk : k < s.size) (h : c ∉ s.toList.take k) (hc : ¬ s[k].toNat = c.toNat) : c ∉ s.toList.take (k + 1) := by
  rw [List.take_add_one, getElem?_toList s k hk]
  simp only [Option.toList_some, List.mem_append, List.mem_singleton, not_or]
  exact ⟨h, fun e => hc (by rw [e])⟩
theorem with_in (s : ByteArray) (c : UInt8) (k : Nat) (hk : k < s.size) (hc : s[k].toNat = c.toNat) : withC s.toList c = s.toList := by
  rw [withC, if_pos]
  have : s[k] = c := UInt8.toNat_inj.mp hc
  rw [← this, getElem_toList s k hk]
  exact List.getElem_mem _
theorem with_out (s : ByteArray) (c : UInt8) (k : Nat) (hk : ¬ k < s.size) (h : c ∉ s.toList.take k) : withC s.toList c = s.toList ++ [c] := by
  rw [withC, if_neg]
  rwa [List.take_of_length_le (by rw [length_toList]; omega)] at h

set_option maxRecDepth 20000 in
set_option maxHeartbeats 1000000 in
theorem with_any (s : ByteArray) (c : UInt8) (w : World) (hs : s.size ≤ 1000) :
    Calls Tryz.prog 142 #[.string s, .int .u8 c.toNat] w fun e w' => e = .returned (.string (bs (withC s.toList c))) ∧ Below w.heap.size w w' := by
  go_enter Tryz.func142, Tryz.ntmps142
  go_wp2
  go_loopg [5] (s.size) (fun gk i wr => ∃ k : Nat, k ≤ s.size ∧ gk + k = s.size ∧ i = .int .i64 k ∧ wr = w ∧ Hid (c ∉ s.toList.take k))
  case atStart => exact ⟨0, Nat.zero_le _, rfl, rfl, rfl, by simp [Hid]⟩
  case round =>
    obtain ⟨k, hk, hgk, rfl, rfl, HM⟩ := hrel
    by_cases hlt : k < s.size
    · by_cases hc : s[k].toNat = c.toNat
      · have hcb : ((s[k].toNat : Int) == (c.toNat : Int)) = true := by simp [hc]
        have HC : Hid (s[k].toNat = c.toNat) := hc
        clear hc
        go_wp2
        go_ret
        exact ⟨ret_str (by rw [with_in s c k hlt HC.out, bs_toList]), Below.refl _ _⟩
      · have hcb : ((s[k].toNat : Int) == (c.toNat : Int)) = false := by simp; omega
        have HC : Hid (¬ s[k].toNat = c.toNat) := hc
        clear hc
        go_wp2
        go_roundg (s.size - (k + 1))
        case rel => exact ⟨k + 1, by omega, by omega, by go_num, rfl, not_take s c k hlt HM.out HC.out⟩
        case measure => omega
    · have kc := conv_one wr c
      have hx := with_out s c k hlt HM.out
      go_wp2
      go_ret
      refine ⟨ret_str ?_, (Below.refl _ _).alloc (Nat.le_refl _) _⟩
      rw [hx]
      apply eq_bs
      rw [append_toList, toList_bs]
theorem all_take (s : ByteArray) (f : UInt8 → Bool) (k : Nat) (hk : k < s.size) (h : (s.toList.take k).all f = true) (hc : f s[k] = true) : (s.toList.take (k + 1)).all f = true := by
  rw [List.take_add_one, getElem?_toList s k hk, List.all_append, h]
  simpa using hc
theorem only_end (s t : ByteArray) (k : Nat) (hk : ¬ k < s.size) (h : (s.toList.take k).all (fun c => has t.toList c) = true) : only s.toList t.toList = true := by
  rwa [List.take_of_length_le (by rw [length_toList]; omega)] at h
theorem only_no (s t : ByteArray) (k : Nat) (hk : k < s.size) (hc : has t.toList s[k] = false) : only s.toList t.toList = false := by
  rw [only, List.all_eq_false]
  exact ⟨s[k], by rw [getElem_toList s k hk]; exact List.getElem_mem _, by rw [hc]; decide⟩
theorem has_step (t : ByteArray) (c : UInt8) (j : Nat) (hj : j < t.size) : has (t.toList.take (j + 1)) c = (has (t.toList.take j) c || ((t[j].toNat : Int) == (c.toNat : Int))) := by
  rw [List.take_add_one, getElem?_toList t j hj]
  have e : ((t[j].toNat : Int) == (c.toNat : Int)) = (t[j] == c) := by
    rw [Bool.eq_iff_iff]; simp [← UInt8.toNat_inj]; omega
  rw [e, Bool.eq_iff_iff]
  simp only [has, Option.toList_some, List.contains_iff_mem, List.mem_append, List.mem_singleton, Bool.or_eq_true, beq_iff_eq]
  exact ⟨fun h => h.imp id Eq.symm, fun h => h.imp id Eq.symm⟩
theorem has_end (t : ByteArray) (c : UInt8) (j : Nat) (hj : ¬ j < t.size) : has (t.toList.take j) c = has t.toList c := by
  rw [List.take_of_length_le (by rw [length_toList]; omega)]
set_option maxRecDepth 20000 in
set_option maxHeartbeats 1000000 in
theorem only_any (s t : ByteArray) (w : World) (hs : s.size ≤ 1000) (ht : t.size ≤ 1000) :
    Calls Tryz.prog 186 #[.string s, .string t] w fun e w' => e = .returned (.bool (only s.toList t.toList)) ∧ ∃ n, w' = w.drewN n := by
  go_enter Tryz.func186, Tryz.ntmps186
  go_wp2
  go_loopg [5] (s.size) (fun gk i wr => ∃ k n : Nat, k ≤ s.size ∧ gk + k = s.size ∧ i = .int .i64 k ∧ wr = w.drewN n ∧ Hid ((s.toList.take k).all (fun c => has t.toList c) = true))
  case atStart => exact ⟨0, 0, Nat.zero_le _, rfl, rfl, rfl, rfl⟩
  case round =>
    obtain ⟨k, n, hk, hgk, rfl, rfl, HM⟩ := hrel
    by_cases hlt : k < s.size
    · go_wp2
      go_loopg [6, 7] (t.size) (fun gj b i wr => ∃ j m : Nat, j ≤ t.size ∧ gj + j = t.size ∧ i = .int .i64 j ∧ wr = w.drewN m ∧ b = .bool (has (t.toList.take j) s[k]))
      case atStart => exact ⟨0, n, Nat.zero_le _, rfl, rfl, rfl, by simp [has]⟩
      case round =>
        obtain ⟨j, m, hj, hgj, rfl, rfl, rfl⟩ := hrel
        by_cases hjt : j < t.size
        · have HS : Hid (_ = _) := has_step t s[k] j hjt
          cases hb : has (t.toList.take j) s[k]
          all_goals
            have HB : Hid (_ = _) := hb
            clear hb
            go_wp2
            go_quiet (fail)
            go_wp2
            go_roundg (t.size - (j + 1))
            case rel => exact ⟨j + 1, m + nq, by omega, by omega, by go_num, by simp, by rw [HS.out, HB.out]; rfl⟩
            case measure => omega
        · have HE : Hid (_ = _) := has_end t s[k] j hjt
          cases hb : has (t.toList.take j) s[k]
          · have HX : Hid (has t.toList s[k] = false) := by unfold Hid; rw [← HE.out, hb]
            clear hb
            go_wp2
            go_ret
            exact ⟨ret_bool (only_no s t k hlt HX.out).symm, m, rfl⟩
          · have HX : Hid (has t.toList s[k] = true) := by unfold Hid; rw [← HE.out, hb]
            clear hb
            go_wp2
            go_roundg (s.size - (k + 1))
            case rel => exact ⟨k + 1, m, by omega, by omega, by go_num, rfl, all_take s (fun c => has t.toList c) k hlt HM.out HX.out⟩
            case measure => omega
    · go_wp2
      go_ret
      exact ⟨ret_bool (only_end s t k hlt HM.out).symm, n, rfl⟩
end Go.Proofs.YtmlgajhhnojdjaaGreatDoor.RefO
