/- All ways gone: they come to an end, as bits are only added; whatever holds from step to step holds at the end. -/
import Derived.Test.YtmlgajhhnojdjaaGreatDoorPAI
import Derived.Laws.MakeOwn
namespace Go.Proofs.YtmlgajhhnojdjaaGreatDoor.FlwO
open Go Go.RowKit Go.Proofs.YtmlgajhhnojdjaaGreatDoor.Spec Go.Proofs.YtmlgajhhnojdjaaGreatDoor.Aux Go.Proofs.YtmlgajhhnojdjaaGreatDoor.PrjF Go.Proofs.YtmlgajhhnojdjaaGreatDoor.PrjG Go.Proofs.YtmlgajhhnojdjaaGreatDoor.PrjJ Go.Proofs.YtmlgajhhnojdjaaGreatDoor.PrjK Go.Proofs.YtmlgajhhnojdjaaGreatDoor.PrjL Go.Proofs.YtmlgajhhnojdjaaGreatDoor.PrjM Go.Proofs.YtmlgajhhnojdjaaGreatDoor.PrjO Go.Proofs.YtmlgajhhnojdjaaGreatDoor.PrjP Go.Proofs.YtmlgajhhnojdjaaGreatDoor.PrjQ Go.Proofs.YtmlgajhhnojdjaaGreatDoor.PrjS Go.Proofs.YtmlgajhhnojdjaaGreatDoor.PrjU Go.Proofs.YtmlgajhhnojdjaaGreatDoor.FlwA Go.Proofs.YtmlgajhhnojdjaaGreatDoor.FlwB Go.Proofs.YtmlgajhhnojdjaaGreatDoor.FlwC Go.Proofs.YtmlgajhhnojdjaaGreatDoor.FlwD Go.Proofs.YtmlgajhhnojdjaaGreatDoor.FlwE Go.Proofs.YtmlgajhhnojdjaaGreatDoor.FlwF Go.Proofs.YtmlgajhhnojdjaaGreatDoor.FlwG Go.Proofs.YtmlgajhhnojdjaaGreatDoor.FlwH Go.Proofs.YtmlgajhhnojdjaaGreatDoor.FlwI Go.Proofs.YtmlgajhhnojdjaaGreatDoor.FlwJ Go.Proofs.YtmlgajhhnojdjaaGreatDoor.FlwK Go.Proofs.YtmlgajhhnojdjaaGreatDoor.FlwL Go.Proofs.YtmlgajhhnojdjaaGreatDoor.FlwM Go.Proofs.YtmlgajhhnojdjaaGreatDoor.FlwN

/-- what is missing of a state, from slot k on downwards -/
def missS (s : List Nat) : Nat → Nat
  | 0 => 0
  | k + 1 => missS s k + (15 - s.getD k 0)
def missE : List (List Nat) → Nat
  | [] => 0
  | s :: E => missS s 24 + missE E
theorem or_ge (a b : Nat) : a ≤ a ||| b := Nat.left_le_or
theorem joinS_getD {s t : List Nat} (hs : s.length = 24) (k : Nat) : (joinS s t).getD k 0 = if k < 24 then s.getD k 0 ||| t.getD k 0 else 0 := by
  unfold joinS
  rw [joinTo_getD, hs]
  by_cases h : k < 24
  · rw [if_pos h, if_pos h, if_pos h]
  · rw [if_neg h, if_neg h]
theorem miss_join {s t : List Nat} (hs : SOk s) (ht : SOk t) : ∀ n, n ≤ 24 → missS (joinS s t) n ≤ missS s n
  | 0, _ => Nat.le_refl _
  | n + 1, h => by
    have := miss_join hs ht n (by omega)
    unfold missS
    rw [joinS_getD hs.len, if_pos (by omega)]
    have := or_ge (s.getD n 0) (t.getD n 0)
    omega
theorem miss_less {s t : List Nat} (hs : SOk s) (ht : SOk t) : ∀ n, n ≤ 24 → (∃ k, k < n ∧ (joinS s t).getD k 0 ≠ s.getD k 0) → missS (joinS s t) n < missS s n
  | 0, _, ⟨k, hk, _⟩ => by omega
  | n + 1, h, ⟨k, hk, hne⟩ => by
    have h1 := miss_join hs ht n (by omega)
    unfold missS
    have h2 := or_ge (s.getD n 0) (t.getD n 0)
    have h3 := or_lt (hs.lt n) (ht.lt n)
    by_cases e : k = n
    · subst e
      rw [joinS_getD hs.len, if_pos (by omega)] at hne ⊢
      omega
    · have := miss_less hs ht n (by omega) ⟨k, by omega, hne⟩
      rw [joinS_getD hs.len, if_pos (by omega)]
      omega
theorem ext24 {s t : List Nat} (hs : s.length = 24) (ht : t.length = 24) (h : ∀ k, k < 24 → s.getD k 0 = t.getD k 0) : s = t := by
  apply List.ext_getElem?
  intro k
  by_cases hk : k < 24
  · have := h k hk
    rw [List.getD_eq_getElem?_getD, List.getD_eq_getElem?_getD, List.getElem?_eq_getElem (by omega), List.getElem?_eq_getElem (by omega)] at this
    rw [List.getElem?_eq_getElem (by omega), List.getElem?_eq_getElem (by omega)]
    simpa using this
  · rw [List.getElem?_eq_none (by omega), List.getElem?_eq_none (by omega)]
theorem joinS_len {s t : List Nat} (hs : s.length = 24) : (joinS s t).length = 24 := by unfold joinS; rw [joinTo_len]; exact hs
theorem join_ne {s t : List Nat} (hs : SOk s) (h : ¬ joinS s t = s) : ∃ k, k < 24 ∧ (joinS s t).getD k 0 ≠ s.getD k 0 := by
  refine Classical.byContradiction fun hc => h (ext24 (joinS_len hs.len) hs.len fun k hk => ?_)
  exact Classical.byContradiction fun hn => hc ⟨k, hk, hn⟩
theorem missE_set : ∀ (E : List (List Nat)) (i : Nat) (t : List Nat), i < E.length → missE (E.set i t) + missS (E.getD i []) 24 = missE E + missS t 24
  | [], _, _, h => by simp at h
  | s :: E, 0, t, _ => by simp [missE]; omega
  | s :: E, i + 1, t, h => by
    have := missE_set E i t (by simpa using h)
    simp only [List.set_cons_succ, missE, List.getD_cons_succ]
    omega
def EOk (E : List (List Nat)) : Prop := ∀ s ∈ E, SOk s
theorem EOk.at {E : List (List Nat)} (h : EOk E) {i : Nat} (hi : i < E.length) : SOk (E.getD i []) := h _ (getD_in hi)
theorem joinS_ok {s t : List Nat} (hs : SOk s) (ht : SOk t) : SOk (joinS s t) := joinTo_ok hs ht 24
theorem leadE_len (E : List (List Nat)) (n : Nat) (s : List Nat) : (leadE E n s).length = E.length := by unfold leadE; split <;> simp
theorem leadE_ok {E : List (List Nat)} (hE : EOk E) {n : Nat} (hn : n < E.length) {s : List Nat} (hs : SOk s) : EOk (leadE E n s) := by
  unfold leadE; split
  · exact hE
  · intro t ht
    rcases List.mem_or_eq_of_mem_set ht with h | h
    · exact hE t h
    · rw [h]; exact joinS_ok (hE.at hn) hs
def meas (E : List (List Nat)) (O : Nat → Bool) (N : Nat) : Nat := 2 * missE E + cntO O N
theorem lead_meas {E : List (List Nat)} {O : Nat → Bool} {N n : Nat} (hE : EOk E) (hN : E.length = N) (hn : n < N) {s : List Nat} (hs : SOk s) : meas (leadE E n s) (leadO E O n s) N ≤ meas E O N := by
  unfold leadE leadO meas
  split
  · exact Nat.le_refl _
  · rename_i hj
    have h0 := hE.at (i := n) (by omega)
    have h1 := missE_set E n (joinS (E.getD n []) s) (by omega)
    have h2 := miss_less h0 hs 24 (Nat.le_refl _) (join_ne h0 hj)
    have h3 : cntO (setO O n true) N ≤ cntO O N + 1 := by
      cases hO : O n with
      | true => rw [setO_same hO]; omega
      | false => rw [cntO_set hO N hn]; omega
    omega
/-- what holds of all states is kept -/
structure StOk (N : Nat) (t : St) : Prop where
  s : SOk t.1
  e : EOk t.2.1
  len : t.2.1.length = N
theorem goNext_ok {N : Nat} (l : QLine) : ∀ (ns : List Nat) (i : Nat) (t : St), (∀ n ∈ ns, n < N) → StOk N t → StOk N (goNext l ns i t) ∧ meas (goNext l ns i t).2.1 (goNext l ns i t).2.2 N ≤ meas t.2.1 t.2.2 N
  | [], _, t, _, h => ⟨h, Nat.le_refl _⟩
  | n :: ns, i, t, hn, h => by
    have hs := stepS_ok l i h.s
    have hnn := hn n (List.mem_cons_self ..)
    have := goNext_ok l ns (i + 1) (stepS l i t.1, leadE t.2.1 n (stepS l i t.1), leadO t.2.1 t.2.2 n (stepS l i t.1)) (fun m hm => hn m (List.mem_cons_of_mem _ hm))
      ⟨hs, leadE_ok h.e (by rw [h.len]; exact hnn) hs, by rw [← h.len]; exact leadE_len _ _ _⟩
    exact ⟨this.1, Nat.le_trans this.2 (lead_meas h.e h.len hnn hs)⟩
theorem goLines_ok {N : Nat} (q : QP) : ∀ (ls : List QLine) (t : St), (∀ l ∈ ls, ∀ n ∈ l.next, n < N) → StOk N t → StOk N (goLines q ls t) ∧ meas (goLines q ls t).2.1 (goLines q ls t).2.2 N ≤ meas t.2.1 t.2.2 N
  | [], t, _, h => ⟨h, Nat.le_refl _⟩
  | l :: ls, t, hn, h => by
    have h1 := goNext_ok l l.next 0 (passQ q l t.1, t.2) (hn l (List.mem_cons_self ..)) ⟨passQ_ok q l h.s, h.e, h.len⟩
    have h2 := goLines_ok q ls _ (fun m hm => hn m (List.mem_cons_of_mem _ hm)) h1.1
    exact ⟨h2.1, Nat.le_trans h2.2 h1.2⟩
theorem startSt_ok : SOk startSt := ⟨by decide, fun k => by
  unfold startSt
  rw [List.getD_eq_getElem?_getD, List.getElem?_replicate]
  split <;> simp⟩
section
variable {z x a ap mb : Nat} {w w' : World} {q : QP} {vl vb : Value} {us : List Value} {vss : List (List (Value × Value))} {E : List (List Nat)} {O : Nat → Bool}
theorem blk_next (hq : QOk q.blocks.length q) {b : Nat} (hb : b < q.blocks.length) : ∀ l ∈ q.blocks.getD b [], ∀ n ∈ l.next, n < q.blocks.length := fun l hl =>
  (hq.lines (q.blocks.getD b []) (by simp [hb]) l hl).next
set_option maxRecDepth 20000 in
set_option maxHeartbeats 2000000 in
theorem follow_any (h : WAt z x a ap mb w q vl vb us vss E O) (h0 : 0 < q.blocks.length) (hn : q.blocks.length ≤ 4000) (hls : q.locals.length ≤ 12) (hq : QOk q.blocks.length q) (hlines : ∀ j, (q.blocks.getD j []).length ≤ 4000)
    (I : List (List Nat) → (Nat → Bool) → Prop) (hI0 : I (leadE E 0 startSt) (leadO E O 0 startSt))
    (hI : ∀ E O b, EOk E → E.length = q.blocks.length → b < q.blocks.length → O b = true → I E O → I (goBlk q E (setO O b false) b).2.1 (goBlk q E (setO O b false) b).2.2) :
    Calls Tryz.prog 144 #[.pointer (some ⟨x, 0, none⟩)] w fun e w' => e = .returned (.tuple #[]) ∧ ∃ E' O', WAt z x a ap mb w' q vl vb us vss E' O' ∧ I E' O' ∧ (∀ b, O' b = false) ∧ Turn2 ap mb w w' := by
  have KS := start_any w
  have hxl := h.lt
  have KL := fun w1 (hb : Below w.heap.size w w1) => lead_any (h.below hb) 0 h0 hn startSt startSt_ok
  have HI0 : Hid (I (leadE E 0 startSt) (leadO E O 0 startSt)) := hI0
  have HI : Hid (∀ E O b, EOk E → E.length = q.blocks.length → b < q.blocks.length → O b = true → I E O → I (goBlk q E (setO O b false) b).2.1 (goBlk q E (setO O b false) b).2.2) := hI
  clear hI0 hI
  go_enter Tryz.func144, Tryz.ntmps144
  go_wp2_with (first
    | (go_at_call 188; refine KS.mono ?_; rintro e w1 ⟨rfl, hb1⟩)
    | (go_at_call 187; refine (KL w1 hb1).mono ?_; rintro e w2 ⟨rfl, hW2, hT2⟩))
  go_loopg [5] (meas (leadE E 0 startSt) (leadO E O 0 startSt) q.blocks.length) (fun g _ wr => ∃ (E' : List (List Nat)) (O' : Nat → Bool), g = meas E' O' q.blocks.length ∧ WAt z x a ap mb wr q vl vb us vss E' O' ∧ Hid (I E' O') ∧ Turn2 ap mb w wr)
  case atStart => exact ⟨_, _, rfl, hW2, HI0, (Turn2.ofBelow hb1).trans hT2⟩
  case round =>
    obtain ⟨E', O', hgm, hWr, HIr, hTr⟩ := hrel
    clear KS KL hW2 hb1 hT2
    obtain ⟨c0, c1, c2⟩ := hWr.facts
    by_cases hc : cntO O' q.blocks.length = 0
    · have hci : ¬ (0 : Int) < (cntO O' q.blocks.length : Nat) := by omega
      have hnone : ∀ b, O' b = false := fun b => by
        by_cases hb : b < q.blocks.length
        · exact cntO_zero _ hc b hb
        · cases hO : O' b with
          | false => rfl
          | true => exact absurd (hWr.opn.bound hO) hb
      go_wp2_with (at_len; refine wpList_open_len _ rfl _ rfl rfl hWr.opn ?_)
      go_end0
      exact ⟨rfl, E', O', hWr, HIr.out, hnone, hTr⟩
    · have hci : (0 : Int) < (cntO O' q.blocks.length : Nat) := by omega
      have KT := takeLeast_any hWr hn
      have KG := fun w1 b (hb : b < q.blocks.length) O1 (hW1 : WAt z x a ap mb w1 q vl vb us vss E' O1) => goThrough_any hW1 b hb hn hls hq hlines
      have hlt : ∀ b, Least O' q.blocks.length b → b < q.blocks.length := fun b hl => by
        refine Nat.lt_of_le_of_ne hl.le (fun e => hc (cntO_none _ fun c hcl => hl.none c (by omega)))
      go_wp2_with (first
        | (at_len; refine wpList_open_len _ rfl _ rfl rfl hWr.opn ?_)
        | (go_at_call 146; refine KT.mono ?_; rintro e w1 ⟨b, rfl, hb1, hW1, hT1⟩)
        | (go_at_call 189; refine (KG w1 b (hlt b hb1) _ hW1).mono ?_; rintro e w2 ⟨rfl, hW2, hT2⟩))
      go_roundg (meas (goBlk q E' (setO O' b false) b).2.1 (goBlk q E' (setO O' b false) b).2.2 q.blocks.length)
      case measure =>
        have hbl := hlt b hb1
        have h1 := (goLines_ok q (q.blocks.getD b []) (E'.getD b [], E', setO O' b false) (blk_next hq hbl) ⟨hWr.row.ok (by rw [hWr.len]; exact hbl), hWr.row.1, hWr.len⟩).2
        have h2 := cntO_del (hb1.opn hbl) q.blocks.length hbl
        unfold meas at h1 hgm
        unfold goBlk meas
        simp only at h1
        omega
      case rel =>
        have hbl := hlt b hb1
        exact ⟨_, _, rfl, hW2, HI.out E' O' b hWr.row.1 hWr.len hbl (hb1.opn hbl) HIr.out, (hTr.trans hT1).trans hT2⟩
end
end Go.Proofs.YtmlgajhhnojdjaaGreatDoor.FlwO
/- The first line of a block that needs what may not be there: faultIn. -/
namespace Go.Proofs.YtmlgajhhnojdjaaGreatDoor.FlwP
open Go Go.RowKit Go.Proofs.YtmlgajhhnojdjaaGreatDoor.Spec Go.Proofs.YtmlgajhhnojdjaaGreatDoor.Aux Go.Proofs.YtmlgajhhnojdjaaGreatDoor.PrjF Go.Proofs.YtmlgajhhnojdjaaGreatDoor.PrjG Go.Proofs.YtmlgajhhnojdjaaGreatDoor.PrjJ Go.Proofs.YtmlgajhhnojdjaaGreatDoor.PrjK Go.Proofs.YtmlgajhhnojdjaaGreatDoor.PrjL Go.Proofs.YtmlgajhhnojdjaaGreatDoor.PrjM Go.Proofs.YtmlgajhhnojdjaaGreatDoor.PrjO Go.Proofs.YtmlgajhhnojdjaaGreatDoor.PrjP Go.Proofs.YtmlgajhhnojdjaaGreatDoor.PrjQ Go.Proofs.YtmlgajhhnojdjaaGreatDoor.PrjS Go.Proofs.YtmlgajhhnojdjaaGreatDoor.PrjU Go.Proofs.YtmlgajhhnojdjaaGreatDoor.FlwA Go.Proofs.YtmlgajhhnojdjaaGreatDoor.FlwB Go.Proofs.YtmlgajhhnojdjaaGreatDoor.FlwC Go.Proofs.YtmlgajhhnojdjaaGreatDoor.FlwD Go.Proofs.YtmlgajhhnojdjaaGreatDoor.FlwE Go.Proofs.YtmlgajhhnojdjaaGreatDoor.FlwF Go.Proofs.YtmlgajhhnojdjaaGreatDoor.FlwG Go.Proofs.YtmlgajhhnojdjaaGreatDoor.FlwH Go.Proofs.YtmlgajhhnojdjaaGreatDoor.FlwI Go.Proofs.YtmlgajhhnojdjaaGreatDoor.FlwJ Go.Proofs.YtmlgajhhnojdjaaGreatDoor.FlwK Go.Proofs.YtmlgajhhnojdjaaGreatDoor.FlwL Go.Proofs.YtmlgajhhnojdjaaGreatDoor.FlwM Go.Proofs.YtmlgajhhnojdjaaGreatDoor.FlwN Go.Proofs.YtmlgajhhnojdjaaGreatDoor.FlwO
attribute [local go_sem ↓] wp_load_st wp_store_st

def faultL (q : QP) : List QLine → List Nat → Option Nat
  | [], _ => none
  | l :: ls, s => if faultyQ q l s = true then some l.num else faultL q ls (passQ q l s)
theorem faultL_step (q : QP) (ls : List QLine) (i : Nat) (hi : i < ls.length) (s : List Nat) : faultL q (ls.drop i) s = if faultyQ q (ls.getD i QLine.nil) s = true then some (ls.getD i QLine.nil).num else faultL q (ls.drop (i + 1)) (passQ q (ls.getD i QLine.nil) s) := by
  rw [List.drop_eq_getElem_cons hi]
  have : ls.getD i QLine.nil = ls[i] := by simp [hi]
  rw [this]; rfl
/-- an answer as a line and whether there is one -/
def ansOf : Option Nat → Value
  | some n => .tuple #[.int .i64 (n : Nat), .bool true]
  | none => .tuple #[.int .i64 0, .bool false]
section
variable {z x a ap mb : Nat} {w w' : World} {q : QP} {vl vb : Value} {us : List Value} {vss : List (List (Value × Value))} {E : List (List Nat)} {O : Nat → Bool}
set_option maxRecDepth 20000 in
set_option maxHeartbeats 4000000 in
theorem faultIn_any (h : WAt z x a ap mb w q vl vb us vss E O) (b : Nat) (hb : b < q.blocks.length) (_hn : q.blocks.length ≤ 4000) (hls : q.locals.length ≤ 12) (hq : QOk q.blocks.length q) (hlines : ∀ j, (q.blocks.getD j []).length ≤ 4000) :
    Calls Tryz.prog 145 #[.pointer (some ⟨x, 0, none⟩), .int .i64 (b : Nat)] w fun e w' => e = .returned (ansOf (faultL q (q.blocks.getD b []) (E.getD b []))) ∧ Below w.heap.size w w' := by
  have htE : b < E.length := by rw [h.len]; exact hb
  have hE := h.row.ok htE
  have hapl := h.row.lt
  have hti : (b : Int) < (q.blocks.length : Nat) := by omega
  obtain ⟨c0, c1, c2⟩ := h.facts
  have has := h.row.has b htE
  have hof := h.row.of b htE
  have HG : Hid (faultL q (q.blocks.getD b []) (E.getD b []) = faultL q ((q.blocks.getD b []).drop 0) (E.getD b [])) := rfl
  obtain ⟨ans, HAns⟩ : ∃ ans, Hid (faultL q (q.blocks.getD b []) (E.getD b []) = ans) := ⟨_, rfl⟩
  rw [HAns.out] at HG ⊢
  have hZ : StAt (w.alloc (.cells #[.int .u8 0, .int .u8 0, .int .u8 0, .int .u8 0, .int .u8 0, .int .u8 0, .int .u8 0, .int .u8 0, .int .u8 0, .int .u8 0, .int .u8 0, .int .u8 0, .int .u8 0, .int .u8 0, .int .u8 0, .int .u8 0, .int .u8 0, .int .u8 0, .int .u8 0, .int .u8 0, .int .u8 0, .int .u8 0, .int .u8 0, .int .u8 0] 209)) w.heap.size zeroSt := StAt.new w (s := zeroSt) (by decide)
  have hbZ : Below w.heap.size w (w.alloc (.cells #[.int .u8 0, .int .u8 0, .int .u8 0, .int .u8 0, .int .u8 0, .int .u8 0, .int .u8 0, .int .u8 0, .int .u8 0, .int .u8 0, .int .u8 0, .int .u8 0, .int .u8 0, .int .u8 0, .int .u8 0, .int .u8 0, .int .u8 0, .int .u8 0, .int .u8 0, .int .u8 0, .int .u8 0, .int .u8 0, .int .u8 0, .int .u8 0] 209)) := (Below.refl _ _).alloc (Nat.le_refl _) _
  have hroom := StAt.room hZ
  have hist := isSt_of hE.len
  have hJ := StAt.store hZ hE.len
  have hbW : Below w.heap.size w ((w.alloc (.cells #[.int .u8 0, .int .u8 0, .int .u8 0, .int .u8 0, .int .u8 0, .int .u8 0, .int .u8 0, .int .u8 0, .int .u8 0, .int .u8 0, .int .u8 0, .int .u8 0, .int .u8 0, .int .u8 0, .int .u8 0, .int .u8 0, .int .u8 0, .int .u8 0, .int .u8 0, .int .u8 0, .int .u8 0, .int .u8 0, .int .u8 0, .int .u8 0] 209)).setCells w.heap.size 0 (stCells (E.getD b []))) := below_setCells hbZ (Nat.le_refl _) _ _
  have hW := h.below hbW
  clear HAns
  generalize E.getD b [] = e0 at *
  clear hbZ hZ
  go_enter Tryz.func145, Tryz.ntmps145
  go_upto_region 2 with fail
  generalize ((w.alloc (.cells #[.int .u8 0, .int .u8 0, .int .u8 0, .int .u8 0, .int .u8 0, .int .u8 0, .int .u8 0, .int .u8 0, .int .u8 0, .int .u8 0, .int .u8 0, .int .u8 0, .int .u8 0, .int .u8 0, .int .u8 0, .int .u8 0, .int .u8 0, .int .u8 0, .int .u8 0, .int .u8 0, .int .u8 0, .int .u8 0, .int .u8 0, .int .u8 0] 209)).setCells w.heap.size 0 (stCells e0)) = W at *
  clear hroom has hof c0 c1 c2
  obtain ⟨c0, c1, c2⟩ := hW.facts
  obtain ⟨p0, p1, -, -⟩ := PAt.facts hW.prog
  obtain ⟨gb, cb, adk, ck, rfl, hcb, hgb, hcell, hus⟩ := blocks_cell2 hW.prog b hb
  have hln := hlines b
  have hok : ∀ l ∈ q.blocks.getD b [], LOk q.locals.length q.blocks.length l := hq.lines _ (by simp [hb])
  have hbne : w.heap.size ≠ ap := by omega
  have hBA : Hid (∀ wn, WAt z x a ap mb wn q vl (.slice (some ⟨gb, 0, none⟩) q.blocks.length cb) us vss E O → BlockAt z wn (.slice adk (q.blocks.getD b []).length ck) (q.blocks.getD b []) (vss.getD b [])) := fun wn hwn => by
    have h1 := hwn.prog.each b hb
    rw [hus] at h1; exact h1
  have HL : Hid (∀ wn, WAt z x a ap mb wn q vl (.slice (some ⟨gb, 0, none⟩) q.blocks.length cb) us vss E O → ∀ i, i < (q.blocks.getD b []).length → ∀ v1 v2, (vss.getD b []).getD i (undef, undef) = (v1, v2) → LineAt z wn ((q.blocks.getD b []).getD i QLine.nil) v1 v2) := fun wn hwn i hi v1 v2 hv => WAt.line hwn hb hi hv
  have HS : Hid (∀ i, i < (q.blocks.getD b []).length → ∀ s, faultL q ((q.blocks.getD b []).drop i) s = if faultyQ q ((q.blocks.getD b []).getD i QLine.nil) s = true then some ((q.blocks.getD b []).getD i QLine.nil).num else faultL q ((q.blocks.getD b []).drop (i + 1)) (passQ q ((q.blocks.getD b []).getD i QLine.nil) s)) := fun i hi s => faultL_step q _ i hi s
  generalize q.blocks.getD b [] = blk at *
  generalize vss.getD b [] = vsj at *
  go_wp2
  go_loopg [27] (blk.length) (fun g v27 wr => ∃ (i : Nat) (s' : List Nat), i ≤ blk.length ∧ g + i = blk.length ∧ v27 = .int .i64 i ∧ WAt z x a ap mb wr q vl (.slice (some ⟨gb, 0, none⟩) q.blocks.length cb) us vss E O ∧ StAt wr w.heap.size s' ∧ SOk s' ∧ Below w.heap.size w wr ∧ Hid (ans = faultL q (blk.drop i) s'))
  case atStart => exact ⟨0, e0, Nat.zero_le _, rfl, rfl, hW, hJ, hE, hbW, HG⟩
  case round =>
    obtain ⟨i, s', hi, hgi, rfl, hWr, hSr, hso, hBr, HR⟩ := hrel
    clear hJ HG hW hbW c0 c1 c2 p0 p1 hcell hist hE
    by_cases hli : i < blk.length
    · obtain ⟨gl, apl, cp, an, cn, rfl, -, hcl, hgl, k0, k1, k2, k3, k4, k5, hvs⟩ := block_cells2 (hBA.out wr hWr) i hli
      have hS : Hid (_ = _) := HS.out i hli s'
      have HLi : Hid (∀ wn, WAt z x a ap mb wn q vl (.slice (some ⟨gb, 0, none⟩) q.blocks.length cb) us vss E O → LineAt z wn (blk.getD i QLine.nil) (.slice apl (blk.getD i QLine.nil).places.length cp) (.slice an (blk.getD i QLine.nil).next.length cn)) := fun wn hwn => HL.out wn hwn i hli _ _ hvs
      have hl := hok (blk.getD i QLine.nil) (by simp [hli])
      clear hvs
      generalize blk.getD i QLine.nil = l at *
      have hbL : Below wr.heap.size wr (wr.alloc (.cells #[.int .i64 (l.num : Nat), .int .i64 (l.op : Nat), .slice apl l.places.length cp, .int .i64 l.number, .int .i64 l.flag, .slice an l.next.length cn] 115)) := (Below.refl _ _).alloc (Nat.le_refl _) _
      have hWL := hWr.below hbL
      have hSL := hSr.below hbL hSr.lt
      have hBL := hBr.trans (hbL.mono hBr.size)
      have hlnL : (wr.alloc (.cells #[.int .i64 (l.num : Nat), .int .i64 (l.op : Nat), .slice apl l.places.length cp, .int .i64 l.number, .int .i64 l.flag, .slice an l.next.length cn] 115)).heap[wr.heap.size]? = some (.cells #[.int .i64 (l.num : Nat), .int .i64 (l.op : Nat), .slice apl l.places.length cp, .int .i64 l.number, .int .i64 l.flag, .slice an l.next.length cn] 115 (0, 0)) := Array.getElem?_push_size
      have hwr : w.heap.size < wr.heap.size := hSr.lt
      go_upto_region 5 with fail
      generalize (wr.alloc (.cells #[.int .i64 (l.num : Nat), .int .i64 (l.op : Nat), .slice apl l.places.length cp, .int .i64 l.number, .int .i64 l.flag, .slice an l.next.length cn] 115)) = WL at *
      clear k0 k1 k2 k3 k4 k5 hbL
      have hbd : Below WL.heap.size WL WL.drew := below_drewN (Below.refl _ _) 1
      have hWLd := hWL.below hbd
      have hSLd : StAt WL.drew w.heap.size s' := hSL
      have hlnLd : WL.drew.heap[wr.heap.size]? = some (.cells #[.int .i64 (l.num : Nat), .int .i64 (l.op : Nat), .slice apl l.places.length cp, .int .i64 l.number, .int .i64 l.flag, .slice an l.next.length cn] 115 (0, 0)) := hlnL
      have hBLd := hBL.trans (hbd.mono hBL.size)
      obtain ⟨c0, c1, c2⟩ := hWL.facts
      have l0 := (cell_of_heap hlnL 0).trans (by rfl : _ = some (Value.int .i64 (l.num : Nat)))
      have l1 := (cell_of_heap hlnL 1).trans (by rfl : _ = some (Value.int .i64 (l.op : Nat)))
      have l2 := (cell_of_heap hlnL 2).trans (by rfl : _ = some (Value.slice apl l.places.length cp))
      have l3 := (cell_of_heap hlnL 3).trans (by rfl : _ = some (Value.int .i64 l.number))
      have l4 := (cell_of_heap hlnL 4).trans (by rfl : _ = some (Value.int .i64 l.flag))
      have l5 := (cell_of_heap hlnL 5).trans (by rfl : _ = some (Value.slice an l.next.length cn))
      have KF := faulty_any q l q.blocks.length z a w.heap.size vl _ apl an cp cn s' WL.drew ⟨hWLd.prog.blk, ⟨_, hWLd.prog.locals⟩⟩ hls hl (HLi.out _ hWLd) hSLd hso.lt
      obtain ⟨fq, Hfq⟩ : ∃ fq, Hid (faultyQ q l s' = fq) := ⟨_, rfl⟩
      rw [Hfq.out] at KF
      go_cut [8, 36] (fun v8 v36 wc => v8 = .pointer (some ⟨wr.heap.size, 0, none⟩) ∧ v36 = .bool fq ∧ Below WL.drew.heap.size WL.drew wc)
      case first =>
        go_region_with (go_at_call 190; refine KF.mono ?_; rintro e w1 ⟨rfl, hb1⟩)
        all_goals go_wp2_with fail
        all_goals
          go_meet
          case rel => exact ⟨rfl, rfl, hb1⟩
      case rest =>
        obtain ⟨rfl, rfl, hb1⟩ := hcut
        have hWc := hWLd.below hb1
        have hSc := hSLd.below hb1 hSLd.lt
        have hlnc := (hb1.block _ (lt_of_heap hlnLd)).trans hlnLd
        have hBc := hBLd.trans (hb1.mono hBLd.size)
        clear KF hWL hSL hBL hlnL hbd hWLd hSLd hlnLd hBLd c0 c1 c2 l0 l1 l2 l3 l4 l5 hb1
        cases fq with
        | true =>
          have l0 := (cell_of_heap hlnc 0).trans (by rfl : _ = some (Value.int .i64 (l.num : Nat)))
          have hA : ans = some l.num := by rw [HR.out, hS.out, if_pos Hfq.out]
          go_wp2
          go_ret2
          rw [hA]
          exact ⟨rfl, hBc⟩
        | false =>
          have HR1 : Hid (ans = faultL q (blk.drop (i + 1)) (passQ q l s')) := by unfold Hid; rw [HR.out, hS.out, if_neg (by rw [Hfq.out]; decide)]
          clear HR
          have hbd : Below wc.heap.size wc wc.drew := below_drewN (Below.refl _ _) 1
          have hWcd := hWc.below hbd
          have hScd : StAt wc.drew w.heap.size s' := hSc
          have hBcd := hBc.trans (hbd.mono hBc.size)
          obtain ⟨c0, c1, c2⟩ := hWc.facts
          have l0 := (cell_of_heap hlnc 0).trans (by rfl : _ = some (Value.int .i64 (l.num : Nat)))
          have l1 := (cell_of_heap hlnc 1).trans (by rfl : _ = some (Value.int .i64 (l.op : Nat)))
          have l2 := (cell_of_heap hlnc 2).trans (by rfl : _ = some (Value.slice apl l.places.length cp))
          have l3 := (cell_of_heap hlnc 3).trans (by rfl : _ = some (Value.int .i64 l.number))
          have l4 := (cell_of_heap hlnc 4).trans (by rfl : _ = some (Value.int .i64 l.flag))
          have l5 := (cell_of_heap hlnc 5).trans (by rfl : _ = some (Value.slice an l.next.length cn))
          have KP := pass_any q l q.blocks.length z a w.heap.size vl _ apl an cp cn s' wc.drew ⟨hWcd.prog.blk, ⟨_, hWcd.prog.locals⟩⟩ hls hl (HLi.out _ hWcd) hScd hso.lt
          generalize wr.heap.size = lb at *
          go_upto_region 7 with fail
          go_region_with (go_at_call 128; refine KP.mono ?_; rintro e w1 ⟨rfl, hS1, hT1⟩)
          all_goals
            have hW1 := hWcd.other hT1 hScd hbne
            have hB1 := hBcd.trans (hT1.below (Nat.le_refl _) hBcd.size)
            have hso1 := passQ_ok q l hso
            clear KP l0 l1 l2 l3 l4 l5 c0 c1 c2
            go_wp2
            go_roundg (blk.length - (i + 1))
            case measure => omega
            case rel => exact ⟨i + 1, _, by omega, by omega, by go_num, hW1, hS1, hso1, hB1, HR1⟩
    · have hA : ans = none := by rw [HR.out, List.drop_eq_nil_of_le (by omega)]; rfl
      go_wp2
      go_ret2
      rw [hA]
      exact ⟨rfl, hBr⟩
end
end Go.Proofs.YtmlgajhhnojdjaaGreatDoor.FlwP
/- The first line of all that needs what may not be there: firstFault. -/
namespace Go.Proofs.YtmlgajhhnojdjaaGreatDoor.FlwQ
open Go Go.RowKit Go.Proofs.YtmlgajhhnojdjaaGreatDoor.Spec Go.Proofs.YtmlgajhhnojdjaaGreatDoor.Aux Go.Proofs.YtmlgajhhnojdjaaGreatDoor.PrjF Go.Proofs.YtmlgajhhnojdjaaGreatDoor.PrjG Go.Proofs.YtmlgajhhnojdjaaGreatDoor.PrjJ Go.Proofs.YtmlgajhhnojdjaaGreatDoor.PrjK Go.Proofs.YtmlgajhhnojdjaaGreatDoor.PrjL Go.Proofs.YtmlgajhhnojdjaaGreatDoor.PrjM Go.Proofs.YtmlgajhhnojdjaaGreatDoor.PrjO Go.Proofs.YtmlgajhhnojdjaaGreatDoor.PrjP Go.Proofs.YtmlgajhhnojdjaaGreatDoor.PrjQ Go.Proofs.YtmlgajhhnojdjaaGreatDoor.PrjS Go.Proofs.YtmlgajhhnojdjaaGreatDoor.PrjU Go.Proofs.YtmlgajhhnojdjaaGreatDoor.FlwA Go.Proofs.YtmlgajhhnojdjaaGreatDoor.FlwB Go.Proofs.YtmlgajhhnojdjaaGreatDoor.FlwC Go.Proofs.YtmlgajhhnojdjaaGreatDoor.FlwD Go.Proofs.YtmlgajhhnojdjaaGreatDoor.FlwE Go.Proofs.YtmlgajhhnojdjaaGreatDoor.FlwF Go.Proofs.YtmlgajhhnojdjaaGreatDoor.FlwG Go.Proofs.YtmlgajhhnojdjaaGreatDoor.FlwH Go.Proofs.YtmlgajhhnojdjaaGreatDoor.FlwI Go.Proofs.YtmlgajhhnojdjaaGreatDoor.FlwJ Go.Proofs.YtmlgajhhnojdjaaGreatDoor.FlwK Go.Proofs.YtmlgajhhnojdjaaGreatDoor.FlwL Go.Proofs.YtmlgajhhnojdjaaGreatDoor.FlwM Go.Proofs.YtmlgajhhnojdjaaGreatDoor.FlwN Go.Proofs.YtmlgajhhnojdjaaGreatDoor.FlwO Go.Proofs.YtmlgajhhnojdjaaGreatDoor.FlwP
attribute [local go_sem ↓] wp_load_st wp_store_st

/-- the first fault of block b, if it can be come to -/
def faultB (q : QP) (E : List (List Nat)) (b : Nat) : Option Nat := if E.getD b [] = zeroSt then none else faultL q (q.blocks.getD b []) (E.getD b [])
def firstSome (f : Nat → Option Nat) : Nat → Nat → Option Nat
  | 0, _ => none
  | m + 1, k => (f k).or (firstSome f m (k + 1))
theorem firstSome_skip (f : Nat → Option Nat) : ∀ (d m k : Nat), (∀ c, k ≤ c → c < k + d → f c = none) → firstSome f (d + m) k = firstSome f m (k + d)
  | 0, m, k, _ => by rw [Nat.zero_add]; rfl
  | d + 1, m, k, h => by
    rw [show d + 1 + m = (d + m) + 1 by omega, firstSome, h k (Nat.le_refl _) (by omega), Option.none_or]
    rw [firstSome_skip f d m (k + 1) (fun c h1 h2 => h c (by omega) (by omega)), show k + 1 + d = k + (d + 1) by omega]
theorem firstSome_all (f : Nat → Option Nat) : ∀ (m k : Nat), (∀ c, k ≤ c → c < k + m → f c = none) → firstSome f m k = none
  | 0, _, _ => rfl
  | m + 1, k, h => by
    rw [firstSome, h k (Nat.le_refl _) (by omega), Option.none_or]
    exact firstSome_all f m (k + 1) (fun c h1 h2 => h c (by omega) (by omega))
def reachO (E : List (List Nat)) (k N : Nat) : Nat → Bool := fun b => decide (k ≤ b) && (decide (b < N) && !(E.getD b [] == zeroSt))
theorem reach_false {E : List (List Nat)} {k N b : Nat} (h : reachO E k N b = false) (h1 : k ≤ b) (h2 : b < N) (q : QP) : faultB q E b = none := by
  unfold reachO at h
  rw [decide_eq_true h1, decide_eq_true h2] at h
  simp only [Bool.true_and, Bool.not_eq_false', beq_iff_eq] at h
  rw [faultB, if_pos h]
theorem reach_true {E : List (List Nat)} {k N b : Nat} (h : reachO E k N b = true) : k ≤ b ∧ b < N ∧ ¬ E.getD b [] = zeroSt := by
  unfold reachO at h
  simp only [Bool.and_eq_true, decide_eq_true_eq, Bool.not_eq_true', beq_eq_false_iff_ne] at h
  exact h
def upO (E : List (List Nat)) (N : Nat) (k : Nat) : Nat → Bool := fun b => decide (b < k) && (decide (b < N) && !(E.getD b [] == zeroSt))
theorem upO_step (E : List (List Nat)) (N k : Nat) (hk : k < N) : upO E N (k + 1) = if (E.getD k [] == zeroSt) = true then upO E N k else setO (upO E N k) k true := by
  funext b
  by_cases e : b = k
  · subst e
    cases h : (E.getD b [] == zeroSt)
    · rw [if_neg (by decide)]; simp only [upO, setO, h]; simp [hk]
    · rw [if_pos rfl]; simp only [upO, h]; simp
  · have h1 : upO E N (k + 1) b = upO E N k b := by
      unfold upO
      have : decide (b < k + 1) = decide (b < k) := by rw [decide_eq_decide]; omega
      rw [this]
    rw [h1]
    split
    · rfl
    · unfold setO; rw [if_neg e]
theorem upO_zero (E : List (List Nat)) (N : Nat) : upO E N 0 = fun _ => false := by funext b; simp [upO]
theorem upO_all (E : List (List Nat)) (N : Nat) : upO E N N = reachO E 0 N := by
  funext b; unfold upO reachO
  by_cases h : b < N
  · simp [h]
  · simp [h]
theorem reach_del {E : List (List Nat)} {k N b : Nat} (hb : Least (reachO E k N) N b) (hlt : b < N) : setO (reachO E k N) b false = reachO E (b + 1) N := by
  obtain ⟨h1, h2, h3⟩ := reach_true (hb.opn hlt)
  funext c
  unfold setO
  by_cases e : c = b
  · subst e; rw [if_pos rfl]; have : decide (c + 1 ≤ c) = false := by simp
    unfold reachO; rw [this]; rfl
  · rw [if_neg e]
    by_cases hc : c < b
    · rw [hb.none c hc]; simp [reachO]; omega
    · unfold reachO
      have a1 : decide (k ≤ c) = true := by simp; omega
      have a2 : decide (b + 1 ≤ c) = true := by simp; omega
      rw [a1, a2]
theorem ansOf_eq (r : Option Nat) : ansOf r = .tuple #[.int .i64 ((r.getD 0 : Nat) : Int), .bool r.isSome] := by cases r <;> rfl
section
variable {z x a ap mb : Nat} {w w' : World} {q : QP} {vl vb : Value} {us : List Value} {vss : List (List (Value × Value))} {E : List (List Nat)} {O : Nat → Bool}
theorem WAt.open' (h : WAt z x a ap mb w q vl vb us vss E O) {w1 : World} {O1 : Nat → Bool} (hg : w.grownBy w1 (some mb)) (ho : OpenAt w1 mb q.blocks.length O1) : WAt z x a ap mb w1 q vl vb us vss E O1 :=
  h.turn (.right hg) rfl (h.row.heap (hg.block ap h.row.lt (fun e => by
    simp only [Option.some.injEq] at e
    obtain ⟨es, clock, h1⟩ := h.opn.isMap
    obtain ⟨-, cs, h2, -⟩ := h.row
    rw [← e, h2] at h1; cases h1))) ho
set_option maxRecDepth 20000 in
set_option maxHeartbeats 4000000 in
theorem firstFault_any (h : WAt z x a ap mb w q vl vb us vss E (fun _ => false)) (hn : q.blocks.length ≤ 4000) (hls : q.locals.length ≤ 12) (hq : QOk q.blocks.length q) (hlines : ∀ j, (q.blocks.getD j []).length ≤ 4000) :
    Calls Tryz.prog 91 #[.pointer (some ⟨x, 0, none⟩)] w fun e w' => e = .returned (ansOf (firstSome (faultB q E) q.blocks.length 0)) ∧ Turn2 ap mb w w' := by
  obtain ⟨c0, c1, c2⟩ := h.facts
  have hlen := h.len
  have hS : WAt z x a ap mb w q vl vb us vss E (upO E q.blocks.length 0) := by rw [upO_zero]; exact h
  have HF : Hid (firstSome (faultB q E) q.blocks.length 0 = firstSome (faultB q E) (q.blocks.length - 0) 0) := rfl
  obtain ⟨ans, HA⟩ : ∃ ans, Hid (firstSome (faultB q E) q.blocks.length 0 = ans) := ⟨_, rfl⟩
  rw [HA.out] at HF ⊢
  go_enter Tryz.func91, Tryz.ntmps91
  go_wp2
  go_loopg [11] (q.blocks.length) (fun g v11 wr => ∃ k : Nat, k ≤ q.blocks.length ∧ g + k = q.blocks.length ∧ v11 = .int .i64 k ∧ WAt z x a ap mb wr q vl vb us vss E (upO E q.blocks.length k) ∧ Turn2 ap mb w wr)
  case atStart => exact ⟨0, Nat.zero_le _, rfl, rfl, hS, Turn2.refl _ _ _⟩
  case round =>
    obtain ⟨k, hk, hgk, rfl, hWr, hTr⟩ := hrel
    clear hS c0 c1 c2 h
    by_cases hlt : k < q.blocks.length
    · have hkE : k < E.length := by omega
      have hE := hWr.row.ok hkE
      have has := hWr.row.has k hkE
      have hof := hWr.row.of k hkE
      have hki : (k : Int) < (q.blocks.length : Nat) := by omega
      have HU : Hid (upO E q.blocks.length (k + 1) = if (E.getD k [] == zeroSt) = true then upO E q.blocks.length k else setO (upO E q.blocks.length k) k true) := upO_step E _ k hlt
      have hZ : StAt (wr.alloc (.cells #[.int .u8 0, .int .u8 0, .int .u8 0, .int .u8 0, .int .u8 0, .int .u8 0, .int .u8 0, .int .u8 0, .int .u8 0, .int .u8 0, .int .u8 0, .int .u8 0, .int .u8 0, .int .u8 0, .int .u8 0, .int .u8 0, .int .u8 0, .int .u8 0, .int .u8 0, .int .u8 0, .int .u8 0, .int .u8 0, .int .u8 0, .int .u8 0] 209)) wr.heap.size zeroSt := StAt.new wr (s := zeroSt) (by decide)
      have hbZ : Below wr.heap.size wr (wr.alloc (.cells #[.int .u8 0, .int .u8 0, .int .u8 0, .int .u8 0, .int .u8 0, .int .u8 0, .int .u8 0, .int .u8 0, .int .u8 0, .int .u8 0, .int .u8 0, .int .u8 0, .int .u8 0, .int .u8 0, .int .u8 0, .int .u8 0, .int .u8 0, .int .u8 0, .int .u8 0, .int .u8 0, .int .u8 0, .int .u8 0, .int .u8 0, .int .u8 0] 209)) := (Below.refl _ _).alloc (Nat.le_refl _) _
      have hroom := StAt.room hZ
      have hist := isSt_of hE.len
      have hJ := StAt.store hZ hE.len
      have hbW : Below wr.heap.size wr ((wr.alloc (.cells #[.int .u8 0, .int .u8 0, .int .u8 0, .int .u8 0, .int .u8 0, .int .u8 0, .int .u8 0, .int .u8 0, .int .u8 0, .int .u8 0, .int .u8 0, .int .u8 0, .int .u8 0, .int .u8 0, .int .u8 0, .int .u8 0, .int .u8 0, .int .u8 0, .int .u8 0, .int .u8 0, .int .u8 0, .int .u8 0, .int .u8 0, .int .u8 0] 209)).setCells wr.heap.size 0 (stCells (E.getD k []))) := below_setCells hbZ (Nat.le_refl _) _ _
      have hW := hWr.below hbW
      have hTW := hTr.on hbW
      generalize E.getD k [] = e0 at *
      clear hbZ hZ hbW
      go_upto_region 4 with fail
      generalize ((wr.alloc (.cells #[.int .u8 0, .int .u8 0, .int .u8 0, .int .u8 0, .int .u8 0, .int .u8 0, .int .u8 0, .int .u8 0, .int .u8 0, .int .u8 0, .int .u8 0, .int .u8 0, .int .u8 0, .int .u8 0, .int .u8 0, .int .u8 0, .int .u8 0, .int .u8 0, .int .u8 0, .int .u8 0, .int .u8 0, .int .u8 0, .int .u8 0, .int .u8 0] 209)).setCells wr.heap.size 0 (stCells e0)) = W at *
      clear hroom has hof hist
      obtain ⟨c0, c1, c2⟩ := hW.facts
      have KR := reached_any wr.heap.size e0 W hJ hE.lt
      cases hz : (e0 == zeroSt) with
      | true =>
        rw [hz] at KR
        have HU2 : upO E q.blocks.length (k + 1) = upO E q.blocks.length k := by rw [HU.out, hz]; rfl
        clear hz
        go_wp2_with (go_at_call 129; refine KR.mono ?_; rintro e w1 ⟨rfl, rfl⟩)
        go_roundg (q.blocks.length - (k + 1))
        case measure => omega
        case rel => exact ⟨k + 1, by omega, by omega, by go_num, by rw [HU2]; exact hW, hTW⟩
      | false =>
        rw [hz] at KR
        have HU2 : upO E q.blocks.length (k + 1) = setO (upO E q.blocks.length k) k true := by rw [HU.out, hz]; rfl
        clear hz
        go_wp2_with (first
          | (go_at_call 129; refine KR.mono ?_; rintro e w1 ⟨rfl, rfl⟩)
          | (at_mapUpdate; refine wpList_open_put _ rfl _ _ _ rfl k rfl rfl rfl hW.opn hlt hn ?_; intro wg hog hgg))
        go_roundg (q.blocks.length - (k + 1))
        case measure => omega
        case rel => exact ⟨k + 1, by omega, by omega, by go_num, by rw [HU2]; exact WAt.open' hW hgg hog, hTW.trans (.right hgg)⟩
    · obtain rfl : k = q.blocks.length := by omega
      rw [upO_all] at hWr
      go_wp2
      go_loopg [2, 3] (cntO (reachO E 0 q.blocks.length) q.blocks.length) (fun g v2 v3 wn => ∃ (O' : Nat → Bool) (r : Option Nat), v2 = .int .i64 ((r.getD 0 : Nat) : Int) ∧ v3 = .bool r.isSome ∧ g = cntO O' q.blocks.length ∧ WAt z x a ap mb wn q vl vb us vss E O' ∧ Turn2 ap mb w wn ∧ Hid ((r = none ∧ ∃ k, k ≤ q.blocks.length ∧ O' = reachO E k q.blocks.length ∧ ans = firstSome (faultB q E) (q.blocks.length - k) k) ∨ (∃ n, r = some n ∧ O' = (fun _ => false) ∧ ans = some n)))
      case atStart => exact ⟨_, none, rfl, rfl, rfl, hWr, hTr, .inl ⟨rfl, 0, Nat.zero_le _, rfl, HF.out⟩⟩
      case round =>
        obtain ⟨O', r, rfl, rfl, hg, hWn, hTn, HX⟩ := hrel
        clear hWr hTr HF
        obtain ⟨c0, c1, c2⟩ := hWn.facts
        by_cases hc : cntO O' q.blocks.length = 0
        · have hci : ¬ (0 : Int) < (cntO O' q.blocks.length : Nat) := by omega
          have hans : Hid (ansOf ans = .tuple #[.int .i64 ((r.getD 0 : Nat) : Int), .bool r.isSome]) := by
            rcases HX.out with ⟨h1, k, hk, h2, h3⟩ | ⟨n, h1, h2, h3⟩
            · have : ans = none := by
                rw [h3]
                refine firstSome_all _ _ _ fun c hc1 hc2 => ?_
                have hcn : c < q.blocks.length := by omega
                have := cntO_zero _ hc c hcn
                rw [h2] at this
                exact reach_false this hc1 hcn q
              unfold Hid; rw [this, h1]; rfl
            · unfold Hid; rw [h3, h1]; rfl
          go_wp2_with (at_len; refine wpList_open_len _ rfl _ rfl rfl hWn.opn ?_)
          go_ret2
          exact ⟨by rw [hans.out]; rfl, hTn⟩
        · have hci : (0 : Int) < (cntO O' q.blocks.length : Nat) := by omega
          obtain ⟨k, hk, hO', HK⟩ : ∃ k, k ≤ q.blocks.length ∧ Hid (O' = reachO E k q.blocks.length) ∧ Hid (ans = firstSome (faultB q E) (q.blocks.length - k) k) := by
            rcases HX.out with ⟨h1, k, hk, h2, h3⟩ | ⟨n, h1, h2, h3⟩
            · exact ⟨k, hk, h2, h3⟩
            · exact absurd (cntO_none _ fun c _ => by rw [h2]) hc
          clear HX
          have KT := takeLeast_any hWn hn
          have KG := fun w1 b (hb : b < q.blocks.length) O1 (hW1 : WAt z x a ap mb w1 q vl vb us vss E O1) => faultIn_any hW1 b hb hn hls hq hlines
          have hlt : ∀ b, Least O' q.blocks.length b → b < q.blocks.length := fun b hl => by
            refine Nat.lt_of_le_of_ne hl.le (fun e => hc (cntO_none _ fun c hcl => hl.none c (by omega)))
          go_upto_region 9 with (first
            | (at_len; refine wpList_open_len _ rfl _ rfl rfl hWn.opn ?_)
            | (go_at_call 146; refine KT.mono ?_; rintro e w1 ⟨b, rfl, hb1, hW1, hT1⟩)
            | (go_at_call 145; refine (KG w1 b (hlt b hb1) _ hW1).mono ?_; rintro e w2 ⟨rfl, hB2⟩; obtain ⟨r1, hr1⟩ : ∃ r1, Hid (faultL q (q.blocks.getD b []) (E.getD b []) = r1) := ⟨_, rfl⟩; rw [hr1.out, ansOf_eq]))
          have hbl := hlt b hb1
          have hO1 : Hid (setO O' b false = reachO E (b + 1) q.blocks.length) := by
            unfold Hid; rw [hO'.out] at hb1 ⊢; exact reach_del hb1 hbl
          have hreach : k ≤ b ∧ ¬ E.getD b [] = zeroSt := by
            have := hb1.opn hbl; rw [hO'.out] at this
            exact ⟨(reach_true this).1, (reach_true this).2.2⟩
          have HKb : Hid (ans = firstSome (faultB q E) (q.blocks.length - b) b) := by
            unfold Hid
            rw [HK.out, show q.blocks.length - k = (b - k) + (q.blocks.length - b) by omega, firstSome_skip _ (b - k) _ k (fun c h1 h2 => ?_), show k + (b - k) = b by omega]
            have := hb1.none c (by omega)
            rw [hO'.out] at this
            exact reach_false this h1 (by omega) q
          have hfb : faultB q E b = faultL q (q.blocks.getD b []) (E.getD b []) := by rw [faultB, if_neg hreach.2]
          have HKc : Hid (ans = r1.or (firstSome (faultB q E) (q.blocks.length - (b + 1)) (b + 1))) := by
            unfold Hid
            rw [HKb.out, show q.blocks.length - b = (q.blocks.length - (b + 1)) + 1 by omega, firstSome, hfb.trans hr1.out]
          have hW2 := hW1.below hB2
          have hT2 := (hTn.trans hT1).on hB2
          have hcnt := cntO_del (hb1.opn hbl) q.blocks.length hbl
          clear KT KG hW1 HKb HK hfb c0 c1 c2
          clear hr1
          obtain ⟨c0, c1, c2⟩ := hW2.facts
          cases r1 with
          | none =>
            go_wp2
            go_roundg (cntO (setO O' b false) q.blocks.length)
            case measure => omega
            case rel => exact ⟨setO O' b false, none, rfl, rfl, rfl, hW2, hT2, .inl ⟨rfl, b + 1, by omega, hO1.out, HKc.out⟩⟩
          | some n =>
            obtain ⟨w3, hrun, ho3, hg3⟩ := run_clear hW2.opn
            have hW3 := WAt.open' hW2 hg3 ho3
            go_wp2
            go_roundg 0
            case measure => omega
            case rel => exact ⟨fun _ => false, some n, rfl, rfl, (cntO_none _ fun _ _ => rfl).symm, hW3, hT2.trans (.right hg3), .inr ⟨n, rfl, rfl, HKc.out⟩⟩
end
end Go.Proofs.YtmlgajhhnojdjaaGreatDoor.FlwQ
/- All ways of a program, made and gone; its first fault. -/
namespace Go.Proofs.YtmlgajhhnojdjaaGreatDoor.FlwR
open Go Go.RowKit Go.Proofs.YtmlgajhhnojdjaaGreatDoor.Spec Go.Proofs.YtmlgajhhnojdjaaGreatDoor.Aux Go.Proofs.YtmlgajhhnojdjaaGreatDoor.PrjF Go.Proofs.YtmlgajhhnojdjaaGreatDoor.PrjG Go.Proofs.YtmlgajhhnojdjaaGreatDoor.PrjJ Go.Proofs.YtmlgajhhnojdjaaGreatDoor.PrjK Go.Proofs.YtmlgajhhnojdjaaGreatDoor.PrjL Go.Proofs.YtmlgajhhnojdjaaGreatDoor.PrjM Go.Proofs.YtmlgajhhnojdjaaGreatDoor.PrjO Go.Proofs.YtmlgajhhnojdjaaGreatDoor.PrjP Go.Proofs.YtmlgajhhnojdjaaGreatDoor.PrjQ Go.Proofs.YtmlgajhhnojdjaaGreatDoor.PrjS Go.Proofs.YtmlgajhhnojdjaaGreatDoor.PrjU Go.Proofs.YtmlgajhhnojdjaaGreatDoor.FlwA Go.Proofs.YtmlgajhhnojdjaaGreatDoor.FlwB Go.Proofs.YtmlgajhhnojdjaaGreatDoor.FlwC Go.Proofs.YtmlgajhhnojdjaaGreatDoor.FlwD Go.Proofs.YtmlgajhhnojdjaaGreatDoor.FlwE Go.Proofs.YtmlgajhhnojdjaaGreatDoor.FlwF Go.Proofs.YtmlgajhhnojdjaaGreatDoor.FlwG Go.Proofs.YtmlgajhhnojdjaaGreatDoor.FlwH Go.Proofs.YtmlgajhhnojdjaaGreatDoor.FlwI Go.Proofs.YtmlgajhhnojdjaaGreatDoor.FlwJ Go.Proofs.YtmlgajhhnojdjaaGreatDoor.FlwK Go.Proofs.YtmlgajhhnojdjaaGreatDoor.FlwL Go.Proofs.YtmlgajhhnojdjaaGreatDoor.FlwM Go.Proofs.YtmlgajhhnojdjaaGreatDoor.FlwN Go.Proofs.YtmlgajhhnojdjaaGreatDoor.FlwO Go.Proofs.YtmlgajhhnojdjaaGreatDoor.FlwP Go.Proofs.YtmlgajhhnojdjaaGreatDoor.FlwQ

theorem info_state3 : (Tryz.prog.info? 209).map (fun i => (i.zero.map Value.cells, i.size, i.bytes)) = some (some (stCells zeroSt).toArray, 24, 24) := by kernel_rfl
theorem under_states : Tryz.prog.underlying 139 = some (.slice 209) := by kernel_rfl
theorem zeroSt_ok : SOk zeroSt := ⟨by decide, zeroSt_lt⟩
theorem made_row (w : World) (n : Nat) : RowAt (w.alloc (.cells (madeCells (stCells zeroSt).toArray (n * 24)) 209)) w.heap.size (List.replicate n zeroSt) := by
  refine ⟨fun s hs => by rw [List.eq_of_mem_replicate hs]; exact zeroSt_ok, madeCells (stCells zeroSt).toArray (n * 24), by show (w.heap.push _)[w.heap.size]? = _; simp, by rw [size_madeCells]; simp; omega, fun i j hi hj => ?_⟩
  rw [List.length_replicate] at hi
  have hs : (stCells zeroSt).toArray.size = 24 := by decide
  have hj' : j < (stCells zeroSt).toArray.size := by rw [hs]; exact hj
  have e : (i * 24 + j) % (stCells zeroSt).toArray.size = j := by rw [hs]; omega
  unfold madeCells
  rw [Array.getElem?_map, Array.getElem?_range, if_pos (by omega), Option.map_some, e]
  rw [getElem!_pos _ j hj']
  have hz : (List.replicate n zeroSt).getD i [] = zeroSt := by simp [List.getD_eq_getElem?_getD, hi]
  have hl : j < zeroSt.length := by simpa [zeroSt] using hj
  rw [hz]
  simp [stCells, hl]
theorem run_make_states (n : Nat) (hn : n ≤ 4000) (w : World) : (Instr.makeSlice 139 (.int .i64 (n : Int)) (.int .i64 (n : Int))).run Tryz.prog w = .ok (.slice (some ⟨w.heap.size, 0, none⟩) n n) (w.alloc (.cells (madeCells (stCells zeroSt).toArray (n * 24)) 209)) := by
  obtain ⟨i, hi, hx⟩ := Option.map_eq_some_iff.1 info_state3
  simp only [Prod.mk.injEq] at hx
  obtain ⟨hz, hs, hb⟩ := hx
  obtain ⟨z, hz, hc⟩ := Option.map_eq_some_iff.1 hz
  have := run_make (P := Tryz.prog) w 139 209 i z under_states hi hz .i64 .i64 n n (by omega) (Int.le_refl _) (by rw [hb]; omega) (by omega)
  rw [hs, hc] at this
  simpa using this
section
variable {z a : Nat} {w w' : World} {q : QP} {vl vb : Value} {us : List Value} {vss : List (List (Value × Value))}
set_option maxRecDepth 20000 in
set_option maxHeartbeats 2000000 in
theorem waysOf_any (h : PAt z a w q vl vb us vss) (h0 : 0 < q.blocks.length) (hn : q.blocks.length ≤ 4000) (hls : q.locals.length ≤ 12) (hq : QOk q.blocks.length q) (hlines : ∀ j, (q.blocks.getD j []).length ≤ 4000)
    (I : List (List Nat) → (Nat → Bool) → Prop) (hI0 : I (leadE (List.replicate q.blocks.length zeroSt) 0 startSt) (leadO (List.replicate q.blocks.length zeroSt) (fun _ => false) 0 startSt))
    (hI : ∀ E O b, EOk E → E.length = q.blocks.length → b < q.blocks.length → O b = true → I E O → I (goBlk q E (setO O b false) b).2.1 (goBlk q E (setO O b false) b).2.2) :
    Calls Tryz.prog 90 #[.pointer (some ⟨a, 0, none⟩)] w fun e w' => ∃ ap mb E' O', e = .returned (.agg #[.pointer (some ⟨a, 0, none⟩), .slice (some ⟨ap, 0, none⟩) q.blocks.length q.blocks.length, .map (some mb)]) ∧
      PAt z a w' q vl vb us vss ∧ E'.length = q.blocks.length ∧ RowAt w' ap E' ∧ OpenAt w' mb q.blocks.length O' ∧ I E' O' ∧ (∀ b, O' b = false) ∧ w.heap.size ≤ ap ∧ w.heap.size ≤ mb ∧ Below w.heap.size w w' := by
  obtain ⟨p0, p1, -, -⟩ := PAt.facts h
  obtain ⟨adb, cb, rfl⟩ := own_slice h.blocks
  have hbR : Below w.heap.size w (w.alloc (.cells #[.pointer none, .slice none 0 0, .map none] 165)) := (Below.refl _ _).alloc (Nat.le_refl _) _
  have hmk := run_make_states q.blocks.length hn
  have hmm := @run_makeMap Tryz.prog
  have p1R := (hbR.cell (p := ⟨a, 1, none⟩) h.lt).trans p1
  have hPR := h.below hbR
  have hRr : (w.alloc (.cells #[.pointer none, .slice none 0 0, .map none] 165)).heap[w.heap.size]? = some (.cells #[.pointer none, .slice none 0 0, .map none] 165 (0, 0)) := Array.getElem?_push_size
  go_enter Tryz.func90, Tryz.ntmps90
  go_upto_region 1 with fail
  generalize (w.alloc (.cells #[.pointer none, .slice none 0 0, .map none] 165)) = R at *
  go_upto_region 2 with fail
  have hb1 : Below R.heap.size R (R.alloc (.cells (madeCells (stCells zeroSt).toArray (q.blocks.length * 24)) 209)) := (Below.refl _ _).alloc (Nat.le_refl _) _
  have hr1 := made_row R q.blocks.length
  have hs1 : (R.alloc (.cells (madeCells (stCells zeroSt).toArray (q.blocks.length * 24)) 209)).heap.size = R.heap.size + 1 := by simp
  generalize (R.alloc (.cells (madeCells (stCells zeroSt).toArray (q.blocks.length * 24)) 209)) = R1 at *
  have hb2 : Below R1.heap.size R1 (R1.alloc (.map #[] 0)) := (Below.refl _ _).alloc (Nat.le_refl _) _
  have ho2 := OpenAt.made R1 q.blocks.length
  have hs2 : (R1.alloc (.map #[] 0)).heap.size = R.heap.size + 1 + 1 := by simp [hs1]
  generalize (R1.alloc (.map #[] 0)) = R2 at *
  have hb3 : Below R2.heap.size R2 (R2.alloc (.cells #[.pointer (some ⟨a, 0, none⟩), .slice (some ⟨R.heap.size, 0, none⟩) q.blocks.length q.blocks.length, .map (some (R.heap.size + 1))] 165)) := (Below.refl _ _).alloc (Nat.le_refl _) _
  have hx3 : (R2.alloc (.cells #[.pointer (some ⟨a, 0, none⟩), .slice (some ⟨R.heap.size, 0, none⟩) q.blocks.length q.blocks.length, .map (some (R.heap.size + 1))] 165)).heap[R2.heap.size]? = some (.cells #[.pointer (some ⟨a, 0, none⟩), .slice (some ⟨R.heap.size, 0, none⟩) q.blocks.length q.blocks.length, .map (some (R.heap.size + 1))] 165 (0, 0)) := Array.getElem?_push_size
  generalize (R2.alloc (.cells #[.pointer (some ⟨a, 0, none⟩), .slice (some ⟨R.heap.size, 0, none⟩) q.blocks.length q.blocks.length, .map (some (R.heap.size + 1))] 165)) = R3 at *
  have hwR : w.heap.size < R.heap.size := lt_of_heap hRr
  have hbb : Below R.heap.size R R3 := hb1.trans ((hb2.mono hb1.size).trans (hb3.mono (Nat.le_trans hb1.size hb2.size)))
  have hrow3 : RowAt R3 R.heap.size (List.replicate q.blocks.length zeroSt) := (hr1.heap (hb2.block _ hr1.lt)).heap (hb3.block _ (by omega))
  rw [hs1] at ho2
  rw [hs2] at hx3
  have hopn3 : OpenAt R3 (R.heap.size + 1) q.blocks.length (fun _ => false) := ho2.heap (hb3.block _ (by omega))
  have hW : WAt z (R.heap.size + 1 + 1) a R.heap.size (R.heap.size + 1) R3 q vl (.slice adb q.blocks.length cb) us vss (List.replicate q.blocks.length zeroSt) (fun _ => false) :=
    ⟨hx3, hPR.below hbb, by simp, hrow3, hopn3⟩
  have hrr3 := (hbb.block w.heap.size hwR).trans hRr
  have hB3 := hbR.trans (hbb.mono hbR.size)
  have KF := follow_any hW h0 hn hls hq hlines I hI0 hI
  clear hb1 hb2 hb3 hr1 ho2 hs1 hs2 hx3 hopn3 hrow3 hmk hmm p1R hRr hPR p0 p1 hI0 hI
  have hap : w.heap.size ≤ R.heap.size := by omega
  have hmb : w.heap.size ≤ R.heap.size + 1 := by omega
  generalize hxx : R.heap.size + 1 + 1 = x at *
  have hne1 : w.heap.size ≠ R.heap.size := by omega
  have hne2 : w.heap.size ≠ R.heap.size + 1 := by omega
  clear hxx
  generalize R.heap.size = ap at *
  generalize ap + 1 = mb at *
  go_wp2_with (go_at_call 144; refine KF.mono ?_; rintro e w1 ⟨rfl, E', O', hW1, hI1, hO1, hT1⟩; obtain ⟨c0, c1, c2⟩ := hW1.facts; have hr1 := (hT1.block _ (lt_of_heap hrr3) hne1 hne2).trans hrr3; have d0 := (cell_of_heap hr1 0).trans (by rfl : _ = some (Value.pointer none)); have d1 := (cell_of_heap hr1 1).trans (by rfl : _ = some (Value.slice none 0 0)); have d2 := (cell_of_heap hr1 2).trans (by rfl : _ = some (Value.map none)); have f0 := frozen_of_heap hr1 0; have f1 := frozen_of_heap hr1 1; have f2 := frozen_of_heap hr1 2)
  have hrf : (((w1.setCell ⟨w.heap.size, 0, none⟩ (.pointer (some ⟨a, 0, none⟩))).setCell ⟨w.heap.size, 1, none⟩ (.slice (some ⟨ap, 0, none⟩) q.blocks.length q.blocks.length)).setCell ⟨w.heap.size, 2, none⟩ (.map (some mb))).heap[w.heap.size]? = some (.cells #[.pointer (some ⟨a, 0, none⟩), .slice (some ⟨ap, 0, none⟩) q.blocks.length q.blocks.length, .map (some mb)] 165 (0, 0)) := by
    rw [Go.Proofs.YtmlgajhhnojdjaaGreatDoor.Aux.heap_setCell_same (Go.Proofs.YtmlgajhhnojdjaaGreatDoor.Aux.heap_setCell_same (Go.Proofs.YtmlgajhhnojdjaaGreatDoor.Aux.heap_setCell_same hr1 0 _) 1 _) 2 _]; rfl
  have hTr : Turn w.heap.size w1 (((w1.setCell ⟨w.heap.size, 0, none⟩ (.pointer (some ⟨a, 0, none⟩))).setCell ⟨w.heap.size, 1, none⟩ (.slice (some ⟨ap, 0, none⟩) q.blocks.length q.blocks.length)).setCell ⟨w.heap.size, 2, none⟩ (.map (some mb))) := (((Turn.refl _ _).setCell 0 _).setCell 1 _).setCell 2 _
  clear d0 d1 d2 f0 f1 f2 c0 c1 c2
  generalize (((w1.setCell ⟨w.heap.size, 0, none⟩ (.pointer (some ⟨a, 0, none⟩))).setCell ⟨w.heap.size, 1, none⟩ (.slice (some ⟨ap, 0, none⟩) q.blocks.length q.blocks.length)).setCell ⟨w.heap.size, 2, none⟩ (.map (some mb))) = wf at *
  refine bodyPost_ret (results_cell Tryz.results90 _ _ _ w.heap.size [.pointer (some ⟨a, 0, none⟩), .slice (some ⟨ap, 0, none⟩) q.blocks.length q.blocks.length, .map (some mb)] _ rfl (fun j v hv => by rw [Nat.zero_add, cell_of_heap hrf]; simpa using hv) Tryz.underlying165 rfl (by kernel_rfl)) rfl ?_
  have hkey : ∀ (g : Nat) (cs : Array Value) (e : TypeId) (f : Nat × Nat), w1.heap[g]? = some (.cells cs e f) → e ≠ 165 → wf.heap[g]? = w1.heap[g]? := fun g cs e f hg he => hTr.block g (lt_of_heap hg) (fun e1 => by
    rw [e1, hr1] at hg; simp only [Option.some.injEq, Obj.cells.injEq] at hg; exact he hg.2.1.symm)
  refine ⟨ap, mb, E', O', rfl, ?_, hW1.len, hW1.row.heap (hTr.block _ hW1.row.lt (by omega)), hW1.opn.heap (hTr.block _ hW1.opn.lt (by omega)), hI1, hO1, hap, hmb, (hB3.trans (hT1.below hap hmb hB3.size)).trans (hTr.below (Nat.le_refl _) (Nat.le_trans hB3.size hT1.size))⟩
  exact (h.below ((hB3.trans (hT1.below hap hmb hB3.size)).trans (hTr.below (Nat.le_refl _) (Nat.le_trans hB3.size hT1.size))))
set_option maxRecDepth 20000 in
theorem FirstFault_any (h : PAt z a w q vl vb us vss) (h0 : 0 < q.blocks.length) (hn : q.blocks.length ≤ 4000) (hls : q.locals.length ≤ 12) (hq : QOk q.blocks.length q) (hlines : ∀ j, (q.blocks.getD j []).length ≤ 4000)
    (I : List (List Nat) → (Nat → Bool) → Prop) (hI0 : I (leadE (List.replicate q.blocks.length zeroSt) 0 startSt) (leadO (List.replicate q.blocks.length zeroSt) (fun _ => false) 0 startSt))
    (hI : ∀ E O b, EOk E → E.length = q.blocks.length → b < q.blocks.length → O b = true → I E O → I (goBlk q E (setO O b false) b).2.1 (goBlk q E (setO O b false) b).2.2) :
    Calls Tryz.prog 54 #[.pointer (some ⟨a, 0, none⟩)] w fun e w' => (∃ E', EOk E' ∧ E'.length = q.blocks.length ∧ I E' (fun _ => false) ∧ e = .returned (ansOf (firstSome (faultB q E') q.blocks.length 0))) ∧ Below w.heap.size w w' := by
  have KW := waysOf_any h h0 hn hls hq hlines I hI0 hI
  have KF := fun x ap mb w1 E' (hW : WAt z x a ap mb w1 q vl vb us vss E' (fun _ => false)) => firstFault_any hW hn hls hq hlines
  go_enter Tryz.func54, Tryz.ntmps54
  go_upto_region 2 with (go_at_call 90; refine KW.mono ?_; rintro e w1 ⟨ap, mb, E', O', rfl, hP1, hl1, hr1, ho1, hI1, hO1, hap, hmb, hB1⟩)
  have hO : O' = fun _ => false := funext hO1
  have hbX : Below w1.heap.size w1 (w1.alloc (.cells #[.pointer (some ⟨a, 0, none⟩), .slice (some ⟨ap, 0, none⟩) q.blocks.length q.blocks.length, .map (some mb)] 165)) := (Below.refl _ _).alloc (Nat.le_refl _) _
  have hX : (w1.alloc (.cells #[.pointer (some ⟨a, 0, none⟩), .slice (some ⟨ap, 0, none⟩) q.blocks.length q.blocks.length, .map (some mb)] 165)).heap[w1.heap.size]? = some (.cells #[.pointer (some ⟨a, 0, none⟩), .slice (some ⟨ap, 0, none⟩) q.blocks.length q.blocks.length, .map (some mb)] 165 (0, 0)) := Array.getElem?_push_size
  have hW : WAt z w1.heap.size a ap mb _ q vl vb us vss E' O' := ⟨hX, hP1.below hbX, hl1, hr1.heap (hbX.block _ hr1.lt), ho1.below hbX⟩
  rw [hO] at hW hI1
  have KX := KF _ _ _ _ _ hW
  have hBX := hB1.trans (hbX.mono hB1.size)
  have hEok : EOk E' := hr1.1
  obtain ⟨r, hr⟩ : ∃ r, Hid (firstSome (faultB q E') q.blocks.length 0 = r) := ⟨_, rfl⟩
  rw [hr.out, ansOf_eq] at KX
  clear KF KW hW hX hbX ho1 hr1 hP1 hO1 hO hI0 hI
  generalize (w1.alloc (.cells #[.pointer (some ⟨a, 0, none⟩), .slice (some ⟨ap, 0, none⟩) q.blocks.length q.blocks.length, .map (some mb)] 165)) = W at *
  go_wp2_with (go_at_call 91; refine KX.mono ?_; rintro e w2 ⟨rfl, hT2⟩)
  go_ret2
  refine ⟨⟨E', hEok, hl1, hI1, ?_⟩, hBX.trans (hT2.below hap hmb hBX.size)⟩
  rw [hr.out, ansOf_eq]; rfl
end
end Go.Proofs.YtmlgajhhnojdjaaGreatDoor.FlwR
