/- All ways gone: they come to an end, as bits are only added; whatever holds from step to step holds at the end. -/
import Derived.Test.YtmlgajhhnojdjaaGreatDoorKBC
namespace Go.Proofs.YtmlgajhhnojdjaaGreatDoor.FlwO
open Go Go.RowKit Go.Proofs.YtmlgajhhnojdjaaGreatDoor.Spec Go.Proofs.YtmlgajhhnojdjaaGreatDoor.Aux Go.Proofs.YtmlgajhhnojdjaaGreatDoor.PrjF Go.Proofs.YtmlgajhhnojdjaaGreatDoor.PrjG Go.Proofs.YtmlgajhhnojdjaaGreatDoor.PrjJ Go.Proofs.YtmlgajhhnojdjaaGreatDoor.PrjK Go.Proofs.YtmlgajhhnojdjaaGreatDoor.PrjL Go.Proofs.YtmlgajhhnojdjaaGreatDoor.PrjM Go.Proofs.YtmlgajhhnojdjaaGreatDoor.PrjO Go.Proofs.YtmlgajhhnojdjaaGreatDoor.PrjP Go.Proofs.YtmlgajhhnojdjaaGreatDoor.PrjQ Go.Proofs.YtmlgajhhnojdjaaGreatDoor.PrjS Go.Proofs.YtmlgajhhnojdjaaGreatDoor.PrjU Go.Proofs.YtmlgajhhnojdjaaGreatDoor.FlwA Go.Proofs.YtmlgajhhnojdjaaGreatDoor.FlwB Go.Proofs.YtmlgajhhnojdjaaGreatDoor.FlwC Go.Proofs.YtmlgajhhnojdjaaGreatDoor.FlwD Go.Proofs.YtmlgajhhnojdjaaGreatDoor.FlwE Go.Proofs.YtmlgajhhnojdjaaGreatDoor.FlwF Go.Proofs.YtmlgajhhnojdjaaGreatDoor.FlwG Go.Proofs.YtmlgajhhnojdjaaGreatDoor.FlwH Go.Proofs.YtmlgajhhnojdjaaGreatDoor.FlwI Go.Proofs.YtmlgajhhnojdjaaGreatDoor.FlwJ Go.Proofs.YtmlgajhhnojdjaaGreatDoor.FlwK Go.Proofs.YtmlgajhhnojdjaaGreatDoor.FlwL Go.Proofs.YtmlgajhhnojdjaaGreatDoor.FlwM Go.Proofs.YtmlgajhhnojdjaaGreatDoor.FlwN

/-- what is missing of a state, from slot k on downwards -/
def missS (s : List Nat) : Nat → Nat
  | 0 => 0
  | k + 1 => missS s k + (15 - s.getD k 0)
def missE : List (List Nat) → Nat
  | [] => 0
  | s :: E => missS s 24 + missE E
theorem or_ge (a b : Nat) : a ≤ a ||| b := Nat.left_le_or
theorem joinS_getD {s t : List Nat} (hs : s.length = 24) (k : Nat) : (joinS s t).getD k 0 = if k < 24 then s.getD k 0 ||| t.getD k 0 else 0 := by
  unfold joinS
  rw [joinTo_getD, hs]
  by_cases h : k < 24
  · rw [if_pos h, if_pos h, if_pos h]
  · rw [if_neg h, if_neg h]
theorem miss_join {s t : List Nat} (hs : SOk s) (ht : SOk t) : ∀ n, n ≤ 24 → missS (joinS s t) n ≤ missS s n
  | 0, _ => Nat.le_refl _
  | n + 1, h => by
    have := miss_join hs ht n (by omega)
    unfold missS
    rw [joinS_getD hs.len, if_pos (by omega)]
    have := or_ge (s.getD n 0) (t.getD n 0)
    omega
theorem miss_less {s t : List Nat} (hs : SOk s) (ht : SOk t) : ∀ n, n ≤ 24 → (∃ k, k < n ∧ (joinS s t).getD k 0 ≠ s.getD k 0) → missS (joinS s t) n < missS s n
  | 0, _, ⟨k, hk, _⟩ => by omega
  | n + 1, h, ⟨k, hk, hne⟩ => by
    have h1 := miss_join hs ht n (by omega)
    unfold missS
    have h2 := or_ge (s.getD n 0) (t.getD n 0)
    have h3 := or_lt (hs.lt n) (ht.lt n)
    by_cases e : k = n
    · subst e
      rw [joinS_getD hs.len, if_pos (by omega)] at hne ⊢
      omega
    · have := miss_less hs ht n (by omega) ⟨k, by omega, hne⟩
      rw [joinS_getD hs.len, if_pos (by omega)]
      omega
theorem ext24 {s t : List Nat} (hs : s.length = 24) (ht : t.length = 24) (h : ∀ k, k < 24 → s.getD k 0 = t.getD k 0) : s = t := by
  apply List.ext_getElem?
  intro k
  by_cases hk : k < 24
  · have := h k hk
    rw [List.getD_eq_getElem?_getD, List.getD_eq_getElem?_getD, List.getElem?_eq_getElem (by omega), List.getElem?_eq_getElem (by omega)] at this
    rw [List.getElem?_eq_getElem (by omega), List.getElem?_eq_getElem (by omega)]
    simpa using this
  · rw [List.getElem?_eq_none (by omega), List.getElem?_eq_none (by omega)]
theorem joinS_len {s t : List Nat} (hs : s.length = 24) : (joinS s t).length = 24 := by unfold joinS; rw [joinTo_len]; exact hs
theorem join_ne {s t : List Nat} (hs : SOk s) (h : ¬ joinS s t = s) : ∃ k, k < 24 ∧ (joinS s t).getD k 0 ≠ s.getD k 0 := by
  refine Classical.byContradiction fun hc => h (ext24 (joinS_len hs.len) hs.len fun k hk => ?_)
  exact Classical.byContradiction fun hn => hc ⟨k, hk, hn⟩
theorem missE_set : ∀ (E : List (List Nat)) (i : Nat) (t : List Nat), i < E.length → missE (E.set i t) + missS (E.getD i []) 24 = missE E + missS t 24
  | [], _, _, h => by simp at h
  | s :: E, 0, t, _ => by simp [missE]; omega
  | s :: E, i + 1, t, h => by
    have := missE_set E i t (by simpa using h)
    simp only [List.set_cons_succ, missE, List.getD_cons_succ]
    omega
def EOk (E : List (List Nat)) : Prop := ∀ s ∈ E, SOk s
theorem EOk.at {E : List (List Nat)} (h : EOk E) {i : Nat} (hi : i < E.length) : SOk (E.getD i []) := h _ (getD_in hi)
theorem joinS_ok {s t : List Nat} (hs : SOk s) (ht : SOk t) : SOk (joinS s t) := joinTo_ok hs ht 24
theorem leadE_len (E : List (List Nat)) (n : Nat) (s : List Nat) : (leadE E n s).length = E.length := by unfold leadE; split <;> simp
theorem leadE_ok {E : List (List Nat)} (hE : EOk E) {n : Nat} (hn : n < E.length) {s : List Nat} (hs : SOk s) : EOk (leadE E n s) := by
  unfold leadE; split
  · exact hE
  · intro t ht
    rcases List.mem_or_eq_of_mem_set ht with h | h
    · exact hE t h
    · rw [h]; exact joinS_ok (hE.at hn) hs
def meas (E : List (List Nat)) (O : Nat → Bool) (N : Nat) : Nat := 2 * missE E + cntO O N
theorem lead_meas {E : List (List Nat)} {O : Nat → Bool} {N n : Nat} (hE : EOk E) (hN : E.length = N) (hn : n < N) {s : List Nat} (hs : SOk s) : meas (leadE E n s) (leadO E O n s) N ≤ meas E O N := by
  unfold leadE leadO meas
  split
  · exact Nat.le_refl _
  · rename_i hj
    have h0 := hE.at (i := n) (by omega)
    have h1 := missE_set E n (joinS (E.getD n []) s) (by omega)
    have h2 := miss_less h0 hs 24 (Nat.le_refl _) (join_ne h0 hj)
    have h3 : cntO (setO O n true) N ≤ cntO O N + 1 := by
      cases hO : O n with
      | true => rw [setO_same hO]; omega
      | false => rw [cntO_set hO N hn]; omega
    omega
/-- what holds of all states is kept -/
structure StOk (N : Nat) (t : St) : Prop where
  s : SOk t.1
  e : EOk t.2.1
  len : t.2.1.length = N
theorem goNext_ok {N : Nat} (l : QLine) : ∀ (ns : List Nat) (i : Nat) (t : St), (∀ n ∈ ns, n < N) → StOk N t → StOk N (goNext l ns i t) ∧ meas (goNext l ns i t).2.1 (goNext l ns i t).2.2 N ≤ meas t.2.1 t.2.2 N
  | [], _, t, _, h => ⟨h, Nat.le_refl _⟩
  | n :: ns, i, t, hn, h => by
    have hs := stepS_ok l i h.s
    have hnn := hn n (List.mem_cons_self ..)
    have := goNext_ok l ns (i + 1) (stepS l i t.1, leadE t.2.1 n (stepS l i t.1), leadO t.2.1 t.2.2 n (stepS l i t.1)) (fun m hm => hn m (List.mem_cons_of_mem _ hm))
      ⟨hs, leadE_ok h.e (by rw [h.len]; exact hnn) hs, by rw [← h.len]; exact leadE_len _ _ _⟩
    exact ⟨this.1, Nat.le_trans this.2 (lead_meas h.e h.len hnn hs)⟩
theorem goLines_ok {N : Nat} (q : QP) : ∀ (ls : List QLine) (t : St), (∀ l ∈ ls, ∀ n ∈ l.next, n < N) → StOk N t → StOk N (goLines q ls t) ∧ meas (goLines q ls t).2.1 (goLines q ls t).2.2 N ≤ meas t.2.1 t.2.2 N
  | [], t, _, h => ⟨h, Nat.le_refl _⟩
  | l :: ls, t, hn, h => by
    have h1 := goNext_ok l l.next 0 (passQ q l t.1, t.2) (hn l (List.mem_cons_self ..)) ⟨passQ_ok q l h.s, h.e, h.len⟩
    have h2 := goLines_ok q ls _ (fun m hm => hn m (List.mem_cons_of_mem _ hm)) h1.1
    exact ⟨h2.1, Nat.le_trans h2.2 h1.2⟩
theorem startSt_ok : SOk startSt := ⟨by decide, fun k => by
  unfold startSt
  rw [List.getD_eq_getElem?_getD, List.getElem?_replicate]
  split <;> simp⟩
section
variable {z x a ap mb : Nat} {w w' : World} {q : QP} {vl vb : Value} {us : List Value} {vss : List (List (Value × Value))} {E : List (List Nat)} {O : Nat → Bool}
theorem blk_next (hq : QOk q.blocks.length q) {b : Nat} (hb : b < q.blocks.length) : ∀ l ∈ q.blocks.getD b [], ∀ n ∈ l.next, n < q.blocks.length := fun l hl =>
  (hq.lines (q.blocks.getD b []) (by simp [hb]) l hl).next
set_option maxRecDepth 20000 in
set_option maxHeartbeats 2000000 in
theorem follow_any (h : WAt z x a ap mb w q vl vb us vss E O) (h0 : 0 < q.blocks.length) (hn : q.blocks.length ≤ 4000) (hls : q.locals.length ≤ 12) (hq : QOk q.blocks.length q) (hlines : ∀ j, (q.blocks.getD j []).length ≤ 4000)
    (I : List (List Nat) → (Nat → Bool) → Prop) (hI0 : I (leadE E 0 startSt) (leadO E O 0 startSt))
    (hI : ∀ E O b, EOk E → E.length = q.blocks.length → b < q.blocks.length → O b = true → I E O → I (goBlk q E (setO O b false) b).2.1 (goBlk q E (setO O b false) b).2.2) :
    Calls Tryz.prog 144 #[.pointer (some ⟨x, 0, none⟩)] w fun e w' => e = .returned (.tuple #[]) ∧ ∃ E' O', WAt z x a ap mb w' q vl vb us vss E' O' ∧ I E' O' ∧ (∀ b, O' b = false) ∧ Turn2 ap mb w w' := by
  have KS := start_any w
  have hxl := h.lt
  have KL := fun w1 (hb : Below w.heap.size w w1) => lead_any (h.below hb) 0 h0 hn startSt startSt_ok
  have HI0 : Hid (I (leadE E 0 startSt) (leadO E O 0 startSt)) := hI0
  have HI : Hid (∀ E O b, EOk E → E.length = q.blocks.length → b < q.blocks.length → O b = true → I E O → I (goBlk q E (setO O b false) b).2.1 (goBlk q E (setO O b false) b).2.2) := hI
  clear hI0 hI
  go_enter Tryz.func144, Tryz.ntmps144
  go_wp2_with (first
    | (go_at_call 188; refine KS.mono ?_; rintro e w1 ⟨rfl, hb1⟩)
    | (go_at_call 187; refine (KL w1 hb1).mono ?_; rintro e w2 ⟨rfl, hW2, hT2⟩))
  go_loopg [5] (meas (leadE E 0 startSt) (leadO E O 0 startSt) q.blocks.length) (fun g _ wr => ∃ (E' : List (List Nat)) (O' : Nat → Bool), g = meas E' O' q.blocks.length ∧ WAt z x a ap mb wr q vl vb us vss E' O' ∧ Hid (I E' O') ∧ Turn2 ap mb w wr)
  case atStart => exact ⟨_, _, rfl, hW2, HI0, (Turn2.ofBelow hb1).trans hT2⟩
  case round =>
    obtain ⟨E', O', hgm, hWr, HIr, hTr⟩ := hrel
    clear KS KL hW2 hb1 hT2
    obtain ⟨c0, c1, c2⟩ := hWr.facts
    by_cases hc : cntO O' q.blocks.length = 0
    · have hci : ¬ (0 : Int) < (cntO O' q.blocks.length : Nat) := by omega
      have hnone : ∀ b, O' b = false := fun b => by
        by_cases hb : b < q.blocks.length
        · exact cntO_zero _ hc b hb
        · cases hO : O' b with
          | false => rfl
          | true => exact absurd (hWr.opn.bound hO) hb
      go_wp2_with (at_len; refine wpList_open_len _ rfl _ rfl rfl hWr.opn ?_)
      go_end0
      exact ⟨rfl, E', O', hWr, HIr.out, hnone, hTr⟩
    · have hci : (0 : Int) < (cntO O' q.blocks.length : Nat) := by omega
      have KT := takeLeast_any hWr hn
      have KG := fun w1 b (hb : b < q.blocks.length) O1 (hW1 : WAt z x a ap mb w1 q vl vb us vss E' O1) => goThrough_any hW1 b hb hn hls hq hlines
      have hlt : ∀ b, Least O' q.blocks.length b → b < q.blocks.length := fun b hl => by
        refine Nat.lt_of_le_of_ne hl.le (fun e => hc (cntO_none _ fun c hcl => hl.none c (by omega)))
      go_wp2_with (first
        | (at_len; refine wpList_open_len _ rfl _ rfl rfl hWr.opn ?_)
        | (go_at_call 146; refine KT.mono ?_; rintro e w1 ⟨b, rfl, hb1, hW1, hT1⟩)
        | (go_at_call 189; refine (KG w1 b (hlt b hb1) _ hW1).mono ?_; rintro e w2 ⟨rfl, hW2, hT2⟩))
      go_roundg (meas (goBlk q E' (setO O' b false) b).2.1 (goBlk q E' (setO O' b false) b).2.2 q.blocks.length)
      case measure =>
        have hbl := hlt b hb1
        have h1 := (goLines_ok q (q.blocks.getD b []) (E'.getD b [], E', setO O' b false) (blk_next hq hbl) ⟨hWr.row.ok (by rw [hWr.len]; exact hbl), hWr.row.1, hWr.len⟩).2
        have h2 := cntO_del (hb1.opn hbl) q.blocks.length hbl
        unfold meas at h1 hgm
        unfold goBlk meas
        simp only at h1
        omega
      case rel =>
        have hbl := hlt b hb1
        exact ⟨_, _, rfl, hW2, HI.out E' O' b hWr.row.1 hWr.len hbl (hb1.opn hbl) HIr.out, (hTr.trans hT1).trans hT2⟩
end
end Go.Proofs.YtmlgajhhnojdjaaGreatDoor.FlwO
/- The first line of a block that needs what may not be there: faultIn. -/
namespace Go.Proofs.YtmlgajhhnojdjaaGreatDoor.FlwP
open Go Go.RowKit Go.Proofs.YtmlgajhhnojdjaaGreatDoor.Spec Go.Proofs.YtmlgajhhnojdjaaGreatDoor.Aux Go.Proofs.YtmlgajhhnojdjaaGreatDoor.PrjF Go.Proofs.YtmlgajhhnojdjaaGreatDoor.PrjG Go.Proofs.YtmlgajhhnojdjaaGreatDoor.PrjJ Go.Proofs.YtmlgajhhnojdjaaGreatDoor.PrjK Go.Proofs.YtmlgajhhnojdjaaGreatDoor.PrjL Go.Proofs.YtmlgajhhnojdjaaGreatDoor.PrjM Go.Proofs.YtmlgajhhnojdjaaGreatDoor.PrjO Go.Proofs.YtmlgajhhnojdjaaGreatDoor.PrjP Go.Proofs.YtmlgajhhnojdjaaGreatDoor.PrjQ Go.Proofs.YtmlgajhhnojdjaaGreatDoor.PrjS Go.Proofs.YtmlgajhhnojdjaaGreatDoor.PrjU Go.Proofs.YtmlgajhhnojdjaaGreatDoor.FlwA Go.Proofs.YtmlgajhhnojdjaaGreatDoor.FlwB Go.Proofs.YtmlgajhhnojdjaaGreatDoor.FlwC Go.Proofs.YtmlgajhhnojdjaaGreatDoor.FlwD Go.Proofs.YtmlgajhhnojdjaaGreatDoor.FlwE Go.Proofs.YtmlgajhhnojdjaaGreatDoor.FlwF Go.Proofs.YtmlgajhhnojdjaaGreatDoor.FlwG Go.Proofs.YtmlgajhhnojdjaaGreatDoor.FlwH Go.Proofs.YtmlgajhhnojdjaaGreatDoor.FlwI Go.Proofs.YtmlgajhhnojdjaaGreatDoor.FlwJ Go.Proofs.YtmlgajhhnojdjaaGreatDoor.FlwK Go.Proofs.YtmlgajhhnojdjaaGreatDoor.FlwL Go.Proofs.YtmlgajhhnojdjaaGreatDoor.FlwM Go.Proofs.YtmlgajhhnojdjaaGreatDoor.FlwN Go.Proofs.YtmlgajhhnojdjaaGreatDoor.FlwO
attribute [local go_sem ↓] wp_load_st wp_store_st

def faultL (q : QP) : List QLine → List Nat → Option Nat
  | [], _ => none
  | l :: ls, s => if faultyQ q l s = true then some l.num else faultL q ls (passQ q l s)
theorem faultL_step (q : QP) (ls : List QLine) (i : Nat) (hi : i < ls.length) (s : List Nat) : faultL q (ls.drop i) s = if faultyQ q (ls.getD i QLine.nil) s = true then some (ls.getD i QLine.nil).num else faultL q (ls.drop (i + 1)) (passQ q (ls.getD i QLine.nil) s) := by
  rw [List.drop_eq_getElem_cons hi]
  have : ls.getD i QLine.nil = ls[i] := by simp [hi]
  rw [this]; rfl
/-- an answer as a line and whether there is one -/
def ansOf : Option Nat → Value
  | some n => .tuple #[.int .i64 (n : Nat), .bool true]
  | none => .tuple #[.int .i64 0, .bool false]
section
variable {z x a ap mb : Nat} {w w' : World} {q : QP} {vl vb : Value} {us : List Value} {vss : List (List (Value × Value))} {E : List (List Nat)} {O : Nat → Bool}
set_option maxRecDepth 20000 in
set_option maxHeartbeats 4000000 in
theorem faultIn_any (h : WAt z x a ap mb w q vl vb us vss E O) (b : Nat) (hb : b < q.blocks.length) (_hn : q.blocks.length ≤ 4000) (hls : q.locals.length ≤ 12) (hq : QOk q.blocks.length q) (hlines : ∀ j, (q.blocks.getD j []).length ≤ 4000) :
    Calls Tryz.prog 145 #[.pointer (some ⟨x, 0, none⟩), .int .i64 (b : Nat)] w fun e w' => e = .returned (ansOf (faultL q (q.blocks.getD b []) (E.getD b []))) ∧ Below w.heap.size w w' := by
  have htE : b < E.length := by rw [h.len]; exact hb
  have hE := h.row.ok htE
  have hapl := h.row.lt
  have hti : (b : Int) < (q.blocks.length : Nat) := by omega
  obtain ⟨c0, c1, c2⟩ := h.facts
  have has := h.row.has b htE
  have hof := h.row.of b htE
  have HG : Hid (faultL q (q.blocks.getD b []) (E.getD b []) = faultL q ((q.blocks.getD b []).drop 0) (E.getD b [])) := rfl
  obtain ⟨ans, HAns⟩ : ∃ ans, Hid (faultL q (q.blocks.getD b []) (E.getD b []) = ans) := ⟨_, rfl⟩
  rw [HAns.out] at HG ⊢
  have hZ : StAt (w.alloc (.cells #[.int .u8 0, .int .u8 0, .int .u8 0, .int .u8 0, .int .u8 0, .int .u8 0, .int .u8 0, .int .u8 0, .int .u8 0, .int .u8 0, .int .u8 0, .int .u8 0, .int .u8 0, .int .u8 0, .int .u8 0, .int .u8 0, .int .u8 0, .int .u8 0, .int .u8 0, .int .u8 0, .int .u8 0, .int .u8 0, .int .u8 0, .int .u8 0] 209)) w.heap.size zeroSt := StAt.new w (s := zeroSt) (by decide)
  have hbZ : Below w.heap.size w (w.alloc (.cells #[.int .u8 0, .int .u8 0, .int .u8 0, .int .u8 0, .int .u8 0, .int .u8 0, .int .u8 0, .int .u8 0, .int .u8 0, .int .u8 0, .int .u8 0, .int .u8 0, .int .u8 0, .int .u8 0, .int .u8 0, .int .u8 0, .int .u8 0, .int .u8 0, .int .u8 0, .int .u8 0, .int .u8 0, .int .u8 0, .int .u8 0, .int .u8 0] 209)) := (Below.refl _ _).alloc (Nat.le_refl _) _
  have hroom := StAt.room hZ
  have hist := isSt_of hE.len
  have hJ := StAt.store hZ hE.len
  have hbW : Below w.heap.size w ((w.alloc (.cells #[.int .u8 0, .int .u8 0, .int .u8 0, .int .u8 0, .int .u8 0, .int .u8 0, .int .u8 0, .int .u8 0, .int .u8 0, .int .u8 0, .int .u8 0, .int .u8 0, .int .u8 0, .int .u8 0, .int .u8 0, .int .u8 0, .int .u8 0, .int .u8 0, .int .u8 0, .int .u8 0, .int .u8 0, .int .u8 0, .int .u8 0, .int .u8 0] 209)).setCells w.heap.size 0 (stCells (E.getD b []))) := below_setCells hbZ (Nat.le_refl _) _ _
  have hW := h.below hbW
  clear HAns
  generalize E.getD b [] = e0 at *
  clear hbZ hZ
  go_enter Tryz.func145, Tryz.ntmps145
  go_upto_region 2 with fail
  generalize ((w.alloc (.cells #[.int .u8 0, .int .u8 0, .int .u8 0, .int .u8 0, .int .u8 0, .int .u8 0, .int .u8 0, .int .u8 0, .int .u8 0, .int .u8 0, .int .u8 0, .int .u8 0, .int .u8 0, .int .u8 0, .int .u8 0, .int .u8 0, .int .u8 0, .int .u8 0, .int .u8 0, .int .u8 0, .int .u8 0, .int .u8 0, .int .u8 0, .int .u8 0] 209)).setCells w.heap.size 0 (stCells e0)) = W at *
  clear hroom has hof c0 c1 c2
  obtain ⟨c0, c1, c2⟩ := hW.facts
  obtain ⟨p0, p1, -, -⟩ := PAt.facts hW.prog
  obtain ⟨gb, cb, adk, ck, rfl, hcb, hgb, hcell, hus⟩ := blocks_cell2 hW.prog b hb
  have hln := hlines b
  have hok : ∀ l ∈ q.blocks.getD b [], LOk q.locals.length q.blocks.length l := hq.lines _ (by simp [hb])
  have hbne : w.heap.size ≠ ap := by omega
  have hBA : Hid (∀ wn, WAt z x a ap mb wn q vl (.slice (some ⟨gb, 0, none⟩) q.blocks.length cb) us vss E O → BlockAt z wn (.slice adk (q.blocks.getD b []).length ck) (q.blocks.getD b []) (vss.getD b [])) := fun wn hwn => by
    have h1 := hwn.prog.each b hb
    rw [hus] at h1; exact h1
  have HL : Hid (∀ wn, WAt z x a ap mb wn q vl (.slice (some ⟨gb, 0, none⟩) q.blocks.length cb) us vss E O → ∀ i, i < (q.blocks.getD b []).length → ∀ v1 v2, (vss.getD b []).getD i (undef, undef) = (v1, v2) → LineAt z wn ((q.blocks.getD b []).getD i QLine.nil) v1 v2) := fun wn hwn i hi v1 v2 hv => WAt.line hwn hb hi hv
  have HS : Hid (∀ i, i < (q.blocks.getD b []).length → ∀ s, faultL q ((q.blocks.getD b []).drop i) s = if faultyQ q ((q.blocks.getD b []).getD i QLine.nil) s = true then some ((q.blocks.getD b []).getD i QLine.nil).num else faultL q ((q.blocks.getD b []).drop (i + 1)) (passQ q ((q.blocks.getD b []).getD i QLine.nil) s)) := fun i hi s => faultL_step q _ i hi s
  generalize q.blocks.getD b [] = blk at *
  generalize vss.getD b [] = vsj at *
  go_wp2
  go_loopg [27] (blk.length) (fun g v27 wr => ∃ (i : Nat) (s' : List Nat), i ≤ blk.length ∧ g + i = blk.length ∧ v27 = .int .i64 i ∧ WAt z x a ap mb wr q vl (.slice (some ⟨gb, 0, none⟩) q.blocks.length cb) us vss E O ∧ StAt wr w.heap.size s' ∧ SOk s' ∧ Below w.heap.size w wr ∧ Hid (ans = faultL q (blk.drop i) s'))
  case atStart => exact ⟨0, e0, Nat.zero_le _, rfl, rfl, hW, hJ, hE, hbW, HG⟩
  case round =>
    obtain ⟨i, s', hi, hgi, rfl, hWr, hSr, hso, hBr, HR⟩ := hrel
    clear hJ HG hW hbW c0 c1 c2 p0 p1 hcell hist hE
    by_cases hli : i < blk.length
    · obtain ⟨gl, apl, cp, an, cn, rfl, -, hcl, hgl, k0, k1, k2, k3, k4, k5, hvs⟩ := block_cells2 (hBA.out wr hWr) i hli
      have hS : Hid (_ = _) := HS.out i hli s'
      have HLi : Hid (∀ wn, WAt z x a ap mb wn q vl (.slice (some ⟨gb, 0, none⟩) q.blocks.length cb) us vss E O → LineAt z wn (blk.getD i QLine.nil) (.slice apl (blk.getD i QLine.nil).places.length cp) (.slice an (blk.getD i QLine.nil).next.length cn)) := fun wn hwn => HL.out wn hwn i hli _ _ hvs
      have hl := hok (blk.getD i QLine.nil) (by simp [hli])
      clear hvs
      generalize blk.getD i QLine.nil = l at *
      have hbL : Below wr.heap.size wr (wr.alloc (.cells #[.int .i64 (l.num : Nat), .int .i64 (l.op : Nat), .slice apl l.places.length cp, .int .i64 l.number, .int .i64 l.flag, .slice an l.next.length cn] 115)) := (Below.refl _ _).alloc (Nat.le_refl _) _
      have hWL := hWr.below hbL
      have hSL := hSr.below hbL hSr.lt
      have hBL := hBr.trans (hbL.mono hBr.size)
      have hlnL : (wr.alloc (.cells #[.int .i64 (l.num : Nat), .int .i64 (l.op : Nat), .slice apl l.places.length cp, .int .i64 l.number, .int .i64 l.flag, .slice an l.next.length cn] 115)).heap[wr.heap.size]? = some (.cells #[.int .i64 (l.num : Nat), .int .i64 (l.op : Nat), .slice apl l.places.length cp, .int .i64 l.number, .int .i64 l.flag, .slice an l.next.length cn] 115 (0, 0)) := Array.getElem?_push_size
      have hwr : w.heap.size < wr.heap.size := hSr.lt
      go_upto_region 5 with fail
      generalize (wr.alloc (.cells #[.int .i64 (l.num : Nat), .int .i64 (l.op : Nat), .slice apl l.places.length cp, .int .i64 l.number, .int .i64 l.flag, .slice an l.next.length cn] 115)) = WL at *
      clear k0 k1 k2 k3 k4 k5 hbL
      have hbd : Below WL.heap.size WL WL.drew := below_drewN (Below.refl _ _) 1
      have hWLd := hWL.below hbd
      have hSLd : StAt WL.drew w.heap.size s' := hSL
      have hlnLd : WL.drew.heap[wr.heap.size]? = some (.cells #[.int .i64 (l.num : Nat), .int .i64 (l.op : Nat), .slice apl l.places.length cp, .int .i64 l.number, .int .i64 l.flag, .slice an l.next.length cn] 115 (0, 0)) := hlnL
      have hBLd := hBL.trans (hbd.mono hBL.size)
      obtain ⟨c0, c1, c2⟩ := hWL.facts
      have l0 := (cell_of_heap hlnL 0).trans (by rfl : _ = some (Value.int .i64 (l.num : Nat)))
      have l1 := (cell_of_heap hlnL 1).trans (by rfl : _ = some (Value.int .i64 (l.op : Nat)))
      have l2 := (cell_of_heap hlnL 2).trans (by rfl : _ = some (Value.slice apl l.places.length cp))
      have l3 := (cell_of_heap hlnL 3).trans (by rfl : _ = some (Value.int .i64 l.number))
      have l4 := (cell_of_heap hlnL 4).trans (by rfl : _ = some (Value.int .i64 l.flag))
      have l5 := (cell_of_heap hlnL 5).trans (by rfl : _ = some (Value.slice an l.next.length cn))
      have KF := faulty_any q l q.blocks.length z a w.heap.size vl _ apl an cp cn s' WL.drew ⟨hWLd.prog.blk, ⟨_, hWLd.prog.locals⟩⟩ hls hl (HLi.out _ hWLd) hSLd hso.lt
      obtain ⟨fq, Hfq⟩ : ∃ fq, Hid (faultyQ q l s' = fq) := ⟨_, rfl⟩
      rw [Hfq.out] at KF
      go_cut [8, 36] (fun v8 v36 wc => v8 = .pointer (some ⟨wr.heap.size, 0, none⟩) ∧ v36 = .bool fq ∧ Below WL.drew.heap.size WL.drew wc)
      case first =>
        go_region_with (go_at_call 190; refine KF.mono ?_; rintro e w1 ⟨rfl, hb1⟩)
        all_goals go_wp2_with fail
        all_goals
          go_meet
          case rel => exact ⟨rfl, rfl, hb1⟩
      case rest =>
        obtain ⟨rfl, rfl, hb1⟩ := hcut
        have hWc := hWLd.below hb1
        have hSc := hSLd.below hb1 hSLd.lt
        have hlnc := (hb1.block _ (lt_of_heap hlnLd)).trans hlnLd
        have hBc := hBLd.trans (hb1.mono hBLd.size)
        clear KF hWL hSL hBL hlnL hbd hWLd hSLd hlnLd hBLd c0 c1 c2 l0 l1 l2 l3 l4 l5 hb1
        cases fq with
        | true =>
          have l0 := (cell_of_heap hlnc 0).trans (by rfl : _ = some (Value.int .i64 (l.num : Nat)))
          have hA : ans = some l.num := by rw [HR.out, hS.out, if_pos Hfq.out]
          go_wp2
          go_ret2
          rw [hA]
          exact ⟨rfl, hBc⟩
        | false =>
          have HR1 : Hid (ans = faultL q (blk.drop (i + 1)) (passQ q l s')) := by unfold Hid; rw [HR.out, hS.out, if_neg (by rw [Hfq.out]; decide)]
          clear HR
          have hbd : Below wc.heap.size wc wc.drew := below_drewN (Below.refl _ _) 1
          have hWcd := hWc.below hbd
          have hScd : StAt wc.drew w.heap.size s' := hSc
          have hBcd := hBc.trans (hbd.mono hBc.size)
          obtain ⟨c0, c1, c2⟩ := hWc.facts
          have l0 := (cell_of_heap hlnc 0).trans (by rfl : _ = some (Value.int .i64 (l.num : Nat)))
          have l1 := (cell_of_heap hlnc 1).trans (by rfl : _ = some (Value.int .i64 (l.op : Nat)))
          have l2 := (cell_of_heap hlnc 2).trans (by rfl : _ = some (Value.slice apl l.places.length cp))
          have l3 := (cell_of_heap hlnc 3).trans (by rfl : _ = some (Value.int .i64 l.number))
          have l4 := (cell_of_heap hlnc 4).trans (by rfl : _ = some (Value.int .i64 l.flag))
          have l5 := (cell_of_heap hlnc 5).trans (by rfl : _ = some (Value.slice an l.next.length cn))
          have KP := pass_any q l q.blocks.length z a w.heap.size vl _ apl an cp cn s' wc.drew ⟨hWcd.prog.blk, ⟨_, hWcd.prog.locals⟩⟩ hls hl (HLi.out _ hWcd) hScd hso.lt
          generalize wr.heap.size = lb at *
          go_upto_region 7 with fail
          go_region_with (go_at_call 128; refine KP.mono ?_; rintro e w1 ⟨rfl, hS1, hT1⟩)
          all_goals
            have hW1 := hWcd.other hT1 hScd hbne
            have hB1 := hBcd.trans (hT1.below (Nat.le_refl _) hBcd.size)
            have hso1 := passQ_ok q l hso
            clear KP l0 l1 l2 l3 l4 l5 c0 c1 c2
            go_wp2
            go_roundg (blk.length - (i + 1))
            case measure => omega
            case rel => exact ⟨i + 1, _, by omega, by omega, by go_num, hW1, hS1, hso1, hB1, HR1⟩
    · have hA : ans = none := by rw [HR.out, List.drop_eq_nil_of_le (by omega)]; rfl
      go_wp2
      go_ret2
      rw [hA]
      exact ⟨rfl, hBr⟩
end
end Go.Proofs.YtmlgajhhnojdjaaGreatDoor.FlwP
