/- The first line of all that needs what may not be there: firstFault. -/
import Derived.Test.YtmlgajhhnojdjaaGreatDoorKBD
import Derived.Test.YtmlgajhhnojdjaaGreatDoorKAG
import Derived.Deep.DeepCutAuto
import Derived.Deep.Light
import Derived.Test.YtmlgajhhnojdjaaGreatDoorKAA
import Derived.Deep.DeepMust
import Derived.Deep.QuietTactic
import Derived.BigQuiet
import Derived.Deep.LoopGhost
import Derived.Deep.MidRow
namespace Go.Proofs.YtmlgajhhnojdjaaGreatDoor.FlwQ
open Go Go.RowKit Go.Proofs.YtmlgajhhnojdjaaGreatDoor.Spec Go.Proofs.YtmlgajhhnojdjaaGreatDoor.Aux Go.Proofs.YtmlgajhhnojdjaaGreatDoor.PrjF Go.Proofs.YtmlgajhhnojdjaaGreatDoor.PrjG Go.Proofs.YtmlgajhhnojdjaaGreatDoor.PrjJ Go.Proofs.YtmlgajhhnojdjaaGreatDoor.PrjK Go.Proofs.YtmlgajhhnojdjaaGreatDoor.PrjL Go.Proofs.YtmlgajhhnojdjaaGreatDoor.PrjM Go.Proofs.YtmlgajhhnojdjaaGreatDoor.PrjO Go.Proofs.YtmlgajhhnojdjaaGreatDoor.PrjP Go.Proofs.YtmlgajhhnojdjaaGreatDoor.PrjQ Go.Proofs.YtmlgajhhnojdjaaGreatDoor.PrjS Go.Proofs.YtmlgajhhnojdjaaGreatDoor.PrjU Go.Proofs.YtmlgajhhnojdjaaGreatDoor.FlwA Go.Proofs.YtmlgajhhnojdjaaGreatDoor.FlwB Go.Proofs.YtmlgajhhnojdjaaGreatDoor.FlwC Go.Proofs.YtmlgajhhnojdjaaGreatDoor.FlwD Go.Proofs.YtmlgajhhnojdjaaGreatDoor.FlwE Go.Proofs.YtmlgajhhnojdjaaGreatDoor.FlwF Go.Proofs.YtmlgajhhnojdjaaGreatDoor.FlwG Go.Proofs.YtmlgajhhnojdjaaGreatDoor.FlwH Go.Proofs.YtmlgajhhnojdjaaGreatDoor.FlwI Go.Proofs.YtmlgajhhnojdjaaGreatDoor.FlwJ Go.Proofs.YtmlgajhhnojdjaaGreatDoor.FlwK Go.Proofs.YtmlgajhhnojdjaaGreatDoor.FlwL Go.Proofs.YtmlgajhhnojdjaaGreatDoor.FlwM Go.Proofs.YtmlgajhhnojdjaaGreatDoor.FlwN Go.Proofs.YtmlgajhhnojdjaaGreatDoor.FlwO Go.Proofs.YtmlgajhhnojdjaaGreatDoor.FlwP
attribute [local go_sem ↓] wp_load_st wp_store_st

/-- the first fault of block b, if it can be come to -/
def faultB (q : QP) (E : List (List Nat)) (b : Nat) : Option Nat := if E.getD b [] = zeroSt then none else faultL q (q.blocks.getD b []) (E.getD b [])
def firstSome (f : Nat → Option Nat) : Nat → Nat → Option Nat
  | 0, _ => none
  | m + 1, k => (f k).or (firstSome f m (k + 1))
theorem firstSome_skip (f : Nat → Option Nat) : ∀ (d m k : Nat), (∀ c, k ≤ c → c < k + d → f c = none) → firstSome f (d + m) k = firstSome f m (k + d)
  | 0, m, k, _ => by rw [Nat.zero_add]; rfl
  | d + 1, m, k, h => by
    rw [show d + 1 + m = (d + m) + 1 by omega, firstSome, h k (Nat.le_refl _) (by omega), Option.none_or]
    rw [firstSome_skip f d m (k + 1) (fun c h1 h2 => h c (by omega) (by omega)), show k + 1 + d = k + (d + 1) by omega]
theorem firstSome_all (f : Nat → Option Nat) : ∀ (m k : Nat), (∀ c, k ≤ c → c < k + m → f c = none) → firstSome f m k = none
  | 0, _, _ => rfl
  | m + 1, k, h => by
    rw [firstSome, h k (Nat.le_refl _) (by omega), Option.none_or]
    exact firstSome_all f m (k + 1) (fun c h1 h2 => h c (by omega) (by omega))
def reachO (E : List (List Nat)) (k N : Nat) : Nat → Bool := fun b => decide (k ≤ b) && (decide (b < N) && !(E.getD b [] == zeroSt))
theorem reach_false {E : List (List Nat)} {k N b : Nat} (h : reachO E k N b = false) (h1 : k ≤ b) (h2 : b < N) (q : QP) : faultB q E b = none := by
  unfold reachO at h
  rw [decide_eq_true h1, decide_eq_true h2] at h
  simp only [Bool.true_and, Bool.not_eq_false', beq_iff_eq] at h
  rw [faultB, if_pos h]
theorem reach_true {E : List (List Nat)} {k N b : Nat} (h : reachO E k N b = true) : k ≤ b ∧ b < N ∧ ¬ E.getD b [] = zeroSt := by
  unfold reachO at h
  simp only [Bool.and_eq_true, decide_eq_true_eq, Bool.not_eq_true', beq_eq_false_iff_ne] at h
  exact h
def upO (E : List (List Nat)) (N : Nat) (k : Nat) : Nat → Bool := fun b => decide (b < k) && (decide (b < N) && !(E.getD b [] == zeroSt))
theorem upO_step (E : List (List Nat)) (N k : Nat) (hk : k < N) : upO E N (k + 1) = if (E.getD k [] == zeroSt) = true then upO E N k else setO (upO E N k) k true := by
  funext b
  by_cases e : b = k
  · subst e
    cases h : (E.getD b [] == zeroSt)
    · rw [if_neg (by decide)]; simp only [upO, setO, h]; simp [hk]
    · rw [if_pos rfl]; simp only [upO, h]; simp
  · have h1 : upO E N (k + 1) b = upO E N k b := by
      unfold upO
      have : decide (b < k + 1) = decide (b < k) := by rw [decide_eq_decide]; omega
      rw [this]
    rw [h1]
    split
    · rfl
    · unfold setO; rw [if_neg e]
theorem upO_zero (E : List (List Nat)) (N : Nat) : upO E N 0 = fun _ => false := by funext b; simp [upO]
theorem upO_all (E : List (List Nat)) (N : Nat) : upO E N N = reachO E 0 N := by
  funext b; unfold upO reachO
  by_cases h : b < N
  · simp [h]
  · simp [h]
theorem reach_del {E : List (List Nat)} {k N b : Nat} (hb : Least (reachO E k N) N b) (hlt : b < N) : setO (reachO E k N) b false = reachO E (b + 1) N := by
  obtain ⟨h1, h2, h3⟩ := reach_true (hb.opn hlt)
  funext c
  unfold setO
  by_cases e : c = b
  · subst e; rw [if_pos rfl]; have : decide (c + 1 ≤ c) = false := by simp
    unfold reachO; rw [this]; rfl
  · rw [if_neg e]
    by_cases hc : c < b
    · rw [hb.none c hc]; simp [reachO]; omega
    · unfold reachO
      have a1 : decide (k ≤ c) = true := by simp; omega
      have a2 : decide (b + 1 ≤ c) = true := by simp; omega
      rw [a1, a2]
theorem ansOf_eq (r : Option Nat) : ansOf r = .tuple #[.int .i64 ((r.getD 0 : Nat) : Int), .bool r.isSome] := by cases r <;> rfl
section
variable {z x a ap mb : Nat} {w w' : World} {q : QP} {vl vb : Value} {us : List Value} {vss : List (List (Value × Value))} {E : List (List Nat)} {O : Nat → Bool}
theorem WAt.open' (h : WAt z x a ap mb w q vl vb us vss E O) {w1 : World} {O1 : Nat → Bool} (hg : w.grownBy w1 (some mb)) (ho : OpenAt w1 mb q.blocks.length O1) : WAt z x a ap mb w1 q vl vb us vss E O1 :=
  h.turn (.right hg) rfl (h.row.heap (hg.block ap h.row.lt (fun e => by
    simp only [Option.some.injEq] at e
    obtain ⟨es, clock, h1⟩ := h.opn.isMap
    obtain ⟨-, cs, h2, -⟩ := h.row
    rw [← e, h2] at h1; cases h1))) ho
set_option maxRecDepth 20000 in
set_option maxHeartbeats 4000000 in
theorem firstFault_any (h : WAt z x a ap mb w q vl vb us vss E (fun _ => false)) (hn : q.blocks.length ≤ 4000) (hls : q.locals.length ≤ 12) (hq : QOk q.blocks.length q) (hlines : ∀ j, (q.blocks.getD j []).length ≤ 4000) :
    Calls Tryz.prog 91 #[.pointer (some ⟨x, 0, none⟩)] w fun e w' => e = .returned (ansOf (firstSome (faultB q E) q.blocks.length 0)) ∧ Turn2 ap mb w w' := by
  obtain ⟨c0, c1, c2⟩ := h.facts
  have hlen := h.len
  have hS : WAt z x a ap mb w q vl vb us vss E (upO E q.blocks.length 0) := by rw [upO_zero]; exact h
  have HF : Hid (firstSome (faultB q E) q.blocks.length 0 = firstSome (faultB q E) (q.blocks.length - 0) 0) := rfl
  obtain ⟨ans, HA⟩ : ∃ ans, Hid (firstSome (faultB q E) q.blocks.length 0 = ans) := ⟨_, rfl⟩
  rw [HA.out] at HF ⊢
  go_enter Tryz.func91, Tryz.ntmps91
  go_wp2
  go_loopg [11] (q.blocks.length) (fun g v11 wr => ∃ k : Nat, k ≤ q.blocks.length ∧ g + k = q.blocks.length ∧ v11 = .int .i64 k ∧ WAt z x a ap mb wr q vl vb us vss E (upO E q.blocks.length k) ∧ Turn2 ap mb w wr)
  case atStart => exact ⟨0, Nat.zero_le _, rfl, rfl, hS, Turn2.refl _ _ _⟩
  case round =>
    obtain ⟨k, hk, hgk, rfl, hWr, hTr⟩ := hrel
    clear hS c0 c1 c2 h
    by_cases hlt : k < q.blocks.length
    · have hkE : k < E.length := by omega
      have hE := hWr.row.ok hkE
      have has := hWr.row.has k hkE
      have hof := hWr.row.of k hkE
      have hki : (k : Int) < (q.blocks.length : Nat) := by omega
      have HU : Hid (upO E q.blocks.length (k + 1) = if (E.getD k [] == zeroSt) = true then upO E q.blocks.length k else setO (upO E q.blocks.length k) k true) := upO_step E _ k hlt
      have hZ : StAt (wr.alloc (.cells #[.int .u8 0, .int .u8 0, .int .u8 0, .int .u8 0, .int .u8 0, .int .u8 0, .int .u8 0, .int .u8 0, .int .u8 0, .int .u8 0, .int .u8 0, .int .u8 0, .int .u8 0, .int .u8 0, .int .u8 0, .int .u8 0, .int .u8 0, .int .u8 0, .int .u8 0, .int .u8 0, .int .u8 0, .int .u8 0, .int .u8 0, .int .u8 0] 209)) wr.heap.size zeroSt := StAt.new wr (s := zeroSt) (by decide)
      have hbZ : Below wr.heap.size wr (wr.alloc (.cells #[.int .u8 0, .int .u8 0, .int .u8 0, .int .u8 0, .int .u8 0, .int .u8 0, .int .u8 0, .int .u8 0, .int .u8 0, .int .u8 0, .int .u8 0, .int .u8 0, .int .u8 0, .int .u8 0, .int .u8 0, .int .u8 0, .int .u8 0, .int .u8 0, .int .u8 0, .int .u8 0, .int .u8 0, .int .u8 0, .int .u8 0, .int .u8 0] 209)) := (Below.refl _ _).alloc (Nat.le_refl _) _
      have hroom := StAt.room hZ
      have hist := isSt_of hE.len
      have hJ := StAt.store hZ hE.len
      have hbW : Below wr.heap.size wr ((wr.alloc (.cells #[.int .u8 0, .int .u8 0, .int .u8 0, .int .u8 0, .int .u8 0, .int .u8 0, .int .u8 0, .int .u8 0, .int .u8 0, .int .u8 0, .int .u8 0, .int .u8 0, .int .u8 0, .int .u8 0, .int .u8 0, .int .u8 0, .int .u8 0, .int .u8 0, .int .u8 0, .int .u8 0, .int .u8 0, .int .u8 0, .int .u8 0, .int .u8 0] 209)).setCells wr.heap.size 0 (stCells (E.getD k []))) := below_setCells hbZ (Nat.le_refl _) _ _
      have hW := hWr.below hbW
      have hTW := hTr.on hbW
      generalize E.getD k [] = e0 at *
      clear hbZ hZ hbW
      go_upto_region 4 with fail
      generalize ((wr.alloc (.cells #[.int .u8 0, .int .u8 0, .int .u8 0, .int .u8 0, .int .u8 0, .int .u8 0, .int .u8 0, .int .u8 0, .int .u8 0, .int .u8 0, .int .u8 0, .int .u8 0, .int .u8 0, .int .u8 0, .int .u8 0, .int .u8 0, .int .u8 0, .int .u8 0, .int .u8 0, .int .u8 0, .int .u8 0, .int .u8 0, .int .u8 0, .int .u8 0] 209)).setCells wr.heap.size 0 (stCells e0)) = W at *
      clear hroom has hof hist
      obtain ⟨c0, c1, c2⟩ := hW.facts
      have KR := reached_any wr.heap.size e0 W hJ hE.lt
      cases hz : (e0 == zeroSt) with
      | true =>
        rw [hz] at KR
        have HU2 : upO E q.blocks.length (k + 1) = upO E q.blocks.length k := by rw [HU.out, hz]; rfl
        clear hz
        go_wp2_with (go_at_call 129; refine KR.mono ?_; rintro e w1 ⟨rfl, rfl⟩)
        go_roundg (q.blocks.length - (k + 1))
        case measure => omega
        case rel => exact ⟨k + 1, by omega, by omega, by go_num, by rw [HU2]; exact hW, hTW⟩
      | false =>
        rw [hz] at KR
        have HU2 : upO E q.blocks.length (k + 1) = setO (upO E q.blocks.length k) k true := by rw [HU.out, hz]; rfl
        clear hz
        go_wp2_with (first
          | (go_at_call 129; refine KR.mono ?_; rintro e w1 ⟨rfl, rfl⟩)
          | (at_mapUpdate; refine wpList_open_put _ rfl _ _ _ rfl k rfl rfl rfl hW.opn hlt hn ?_; intro wg hog hgg))
        go_roundg (q.blocks.length - (k + 1))
        case measure => omega
        case rel => exact ⟨k + 1, by omega, by omega, by go_num, by rw [HU2]; exact WAt.open' hW hgg hog, hTW.trans (.right hgg)⟩
    · obtain rfl : k = q.blocks.length := by omega
      rw [upO_all] at hWr
      go_wp2
      go_loopg [2, 3] (cntO (reachO E 0 q.blocks.length) q.blocks.length) (fun g v2 v3 wn => ∃ (O' : Nat → Bool) (r : Option Nat), v2 = .int .i64 ((r.getD 0 : Nat) : Int) ∧ v3 = .bool r.isSome ∧ g = cntO O' q.blocks.length ∧ WAt z x a ap mb wn q vl vb us vss E O' ∧ Turn2 ap mb w wn ∧ Hid ((r = none ∧ ∃ k, k ≤ q.blocks.length ∧ O' = reachO E k q.blocks.length ∧ ans = firstSome (faultB q E) (q.blocks.length - k) k) ∨ (∃ n, r = some n ∧ O' = (fun _ => false) ∧ ans = some n)))
      case atStart => exact ⟨_, none, rfl, rfl, rfl, hWr, hTr, .inl ⟨rfl, 0, Nat.zero_le _, rfl, HF.out⟩⟩
      case round =>
        obtain ⟨O', r, rfl, rfl, hg, hWn, hTn, HX⟩ := hrel
        clear hWr hTr HF
        obtain ⟨c0, c1, c2⟩ := hWn.facts
        by_cases hc : cntO O' q.blocks.length = 0
        · have hci : ¬ (0 : Int) < (cntO O' q.blocks.length : Nat) := by omega
          have hans : Hid (ansOf ans = .tuple #[.int .i64 ((r.getD 0 : Nat) : Int), .bool r.isSome]) := by
            rcases HX.out with ⟨h1, k, hk, h2, h3⟩ | ⟨n, h1, h2, h3⟩
            · have : ans = none := by
                rw [h3]
                refine firstSome_all _ _ _ fun c hc1 hc2 => ?_
                have hcn : c < q.blocks.length := by omega
                have := cntO_zero _ hc c hcn
                rw [h2] at this
                exact reach_false this hc1 hcn q
              unfold Hid; rw [this, h1]; rfl
            · unfold Hid; rw [h3, h1]; rfl
          go_wp2_with (at_len; refine wpList_open_len _ rfl _ rfl rfl hWn.opn ?_)
          go_ret2
          exact ⟨by rw [hans.out]; rfl, hTn⟩
        · have hci : (0 : Int) < (cntO O' q.blocks.length : Nat) := by omega
          obtain ⟨k, hk, hO', HK⟩ : ∃ k, k ≤ q.blocks.length ∧ Hid (O' = reachO E k q.blocks.length) ∧ Hid (ans = firstSome (faultB q E) (q.blocks.length - k) k) := by
            rcases HX.out with ⟨h1, k, hk, h2, h3⟩ | ⟨n, h1, h2, h3⟩
            · exact ⟨k, hk, h2, h3⟩
            · exact absurd (cntO_none _ fun c _ => by rw [h2]) hc
          clear HX
          have KT := takeLeast_any hWn hn
          have KG := fun w1 b (hb : b < q.blocks.length) O1 (hW1 : WAt z x a ap mb w1 q vl vb us vss E O1) => faultIn_any hW1 b hb hn hls hq hlines
          have hlt : ∀ b, Least O' q.blocks.length b → b < q.blocks.length := fun b hl => by
            refine Nat.lt_of_le_of_ne hl.le (fun e => hc (cntO_none _ fun c hcl => hl.none c (by omega)))
          go_upto_region 9 with (first
            | (at_len; refine wpList_open_len _ rfl _ rfl rfl hWn.opn ?_)
            | (go_at_call 146; refine KT.mono ?_; rintro e w1 ⟨b, rfl, hb1, hW1, hT1⟩)
            | (go_at_call 145; refine (KG w1 b (hlt b hb1) _ hW1).mono ?_; rintro e w2 ⟨rfl, hB2⟩; obtain ⟨r1, hr1⟩ : ∃ r1, Hid (faultL q (q.blocks.getD b []) (E.getD b []) = r1) := ⟨_, rfl⟩; rw [hr1.out, ansOf_eq]))
          have hbl := hlt b hb1
          have hO1 : Hid (setO O' b false = reachO E (b + 1) q.blocks.length) := by
            unfold Hid; rw [hO'.out] at hb1 ⊢; exact reach_del hb1 hbl
          have hreach : k ≤ b ∧ ¬ E.getD b [] = zeroSt := by
            have := hb1.opn hbl; rw [hO'.out] at this
            exact ⟨(reach_true this).1, (reach_true this).2.2⟩
          have HKb : Hid (ans = firstSome (faultB q E) (q.blocks.length - b) b) := by
            unfold Hid
            rw [HK.out, show q.blocks.length - k = (b - k) + (q.blocks.length - b) by omega, firstSome_skip _ (b - k) _ k (fun c h1 h2 => ?_), show k + (b - k) = b by omega]
            have := hb1.none c (by omega)
            rw [hO'.out] at this
            exact reach_false this h1 (by omega) q
          have hfb : faultB q E b = faultL q (q.blocks.getD b []) (E.getD b []) := by rw [faultB, if_neg hreach.2]
          have HKc : Hid (ans = r1.or (firstSome (faultB q E) (q.blocks.length - (b + 1)) (b + 1))) := by
            unfold Hid
            rw [HKb.out, show q.blocks.length - b = (q.blocks.length - (b + 1)) + 1 by omega, firstSome, hfb.trans hr1.out]
          have hW2 := hW1.below hB2
          have hT2 := (hTn.trans hT1).on hB2
          have hcnt := cntO_del (hb1.opn hbl) q.blocks.length hbl
          clear KT KG hW1 HKb HK hfb c0 c1 c2
          clear hr1
          obtain ⟨c0, c1, c2⟩ := hW2.facts
          cases r1 with
          | none =>
            go_wp2
            go_roundg (cntO (setO O' b false) q.blocks.length)
            case measure => omega
            case rel => exact ⟨setO O' b false, none, rfl, rfl, rfl, hW2, hT2, .inl ⟨rfl, b + 1, by omega, hO1.out, HKc.out⟩⟩
          | some n =>
            obtain ⟨w3, hrun, ho3, hg3⟩ := run_clear hW2.opn
            have hW3 := WAt.open' hW2 hg3 ho3
            go_wp2
            go_roundg 0
            case measure => omega
            case rel => exact ⟨fun _ => false, some n, rfl, rfl, (cntO_none _ fun _ _ => rfl).symm, hW3, hT2.trans (.right hg3), .inr ⟨n, rfl, rfl, HKc.out⟩⟩
end
end Go.Proofs.YtmlgajhhnojdjaaGreatDoor.FlwQ
/- Plain facts: the ways that were gone to the end are closed, and the least. -/
namespace Go.Proofs.YtmlgajhhnojdjaaGreatDoor.FlwS
open Go Go.Proofs.YtmlgajhhnojdjaaGreatDoor.Spec Go.Proofs.YtmlgajhhnojdjaaGreatDoor.FlwA Go.Proofs.YtmlgajhhnojdjaaGreatDoor.FlwB Go.Proofs.YtmlgajhhnojdjaaGreatDoor.FlwD Go.Proofs.YtmlgajhhnojdjaaGreatDoor.FlwE Go.Proofs.YtmlgajhhnojdjaaGreatDoor.FlwF Go.Proofs.YtmlgajhhnojdjaaGreatDoor.FlwG Go.Proofs.YtmlgajhhnojdjaaGreatDoor.FlwI Go.Proofs.YtmlgajhhnojdjaaGreatDoor.FlwJ Go.Proofs.YtmlgajhhnojdjaaGreatDoor.FlwK Go.Proofs.YtmlgajhhnojdjaaGreatDoor.FlwM Go.Proofs.YtmlgajhhnojdjaaGreatDoor.FlwO Go.Proofs.YtmlgajhhnojdjaaGreatDoor.FlwQ

/-- bits of the one are bits of the other -/
def le1 (a b : Nat) : Prop := b ||| a = b
theorem le1_refl (a : Nat) : le1 a a := Nat.or_self a
theorem le1_trans {a b c : Nat} (h : le1 a b) (h' : le1 b c) : le1 a c := by
  unfold le1 at *
  rw [← h', Nat.or_assoc, h]
theorem le1_left (a b : Nat) : le1 a (a ||| b) := by
  unfold le1; rw [Nat.or_comm a b, Nat.or_assoc, Nat.or_self]
theorem le1_right (a b : Nat) : le1 b (a ||| b) := by
  unfold le1; rw [Nat.or_assoc, Nat.or_self]
theorem le1_lub {a b c : Nat} (h : le1 a c) (h' : le1 b c) : le1 (a ||| b) c := by
  unfold le1 at *
  rw [← Nat.or_assoc, h, h']
theorem le1_zero {a : Nat} (h : le1 a 0) : a = 0 := by unfold le1 at h; rwa [Nat.zero_or] at h
def leS (s t : List Nat) : Prop := ∀ k, k < 24 → le1 (s.getD k 0) (t.getD k 0)
theorem leS_refl (s : List Nat) : leS s s := fun _ _ => le1_refl _
theorem leS_trans {s t u : List Nat} (h : leS s t) (h' : leS t u) : leS s u := fun k hk => le1_trans (h k hk) (h' k hk)
theorem le_join {s t : List Nat} (hs : SOk s) : leS s (joinS s t) ∧ leS t (joinS s t) := by
  constructor <;> intro k hk <;> rw [joinS_getD hs.len, if_pos hk]
  · exact le1_left _ _
  · exact le1_right _ _
theorem join_le {s t u : List Nat} (hs : SOk s) (h : leS s u) (h' : leS t u) : leS (joinS s t) u := fun k hk => by
  rw [joinS_getD hs.len, if_pos hk]; exact le1_lub (h k hk) (h' k hk)
/-! what a line makes of more is more -/
theorem getD_set1 (s : List Nat) (i v k : Nat) : (s.set i v).getD k 0 = if i = k ∧ k < s.length then v else s.getD k 0 := by
  rw [List.getD_eq_getElem?_getD, List.getElem?_set, List.getD_eq_getElem?_getD]
  by_cases h : i = k
  · subst h
    by_cases h2 : i < s.length
    · simp [h2]
    · simp [h2]
  · rw [if_neg h, if_neg (fun x => h x.1)]
theorem set_mono {s t : List Nat} (hs : s.length = 24) (ht : t.length = 24) (h : leS s t) (i : Nat) {u v : Nat} (huv : le1 u v) : leS (s.set i u) (t.set i v) := fun k hk => by
  rw [getD_set1, getD_set1, hs, ht]
  by_cases e : i = k ∧ k < 24
  · rw [if_pos e, if_pos e]; exact huv
  · rw [if_neg e, if_neg e]; exact h k hk
theorem putL_mono {u v : Nat} (huv : le1 u v) : ∀ (ps : List (Nat × Nat)) {s t : List Nat}, s.length = 24 → t.length = 24 → leS s t → leS (putL u ps s) (putL v ps t)
  | [], _, _, _, _, h => h
  | x :: ps, s, t, hs, ht, h => putL_mono huv ps (s := s.set (slotQ x) u) (t := t.set (slotQ x) v) (by simpa using hs) (by simpa using ht) (set_mono hs ht h _ huv)
theorem takeL_mono : ∀ (ps : List (Nat × Nat)) {s t : List Nat}, s.length = 24 → t.length = 24 → leS s t → leS (takeL ps s) (takeL ps t)
  | [], _, _, _, _, h => h
  | x :: ps, s, t, hs, ht, h => takeL_mono ps (s := s.set (slotQ x) _) (t := t.set (slotQ x) _) (by simpa using hs) (by simpa using ht) (set_mono hs ht h _ (le1_refl _))
theorem getD_mono {s t : List Nat} (hs : SOk s) (ht : SOk t) (h : leS s t) (k : Nat) : le1 (s.getD k 0) (t.getD k 0) := by
  by_cases hk : k < 24
  · exact h k hk
  · have e1 : s.getD k 0 = 0 := by rw [List.getD_eq_getElem?_getD, List.getElem?_eq_none (by rw [hs.len]; omega)]; rfl
    have e2 : t.getD k 0 = 0 := by rw [List.getD_eq_getElem?_getD, List.getElem?_eq_none (by rw [ht.len]; omega)]; rfl
    rw [e1, e2]; exact le1_refl 0
theorem movedL_mono (q : QP) (x : Nat × Nat) {s t : List Nat} (hs : SOk s) (ht : SOk t) (h : leS s t) : le1 (movedL q x s) (movedL q x t) := by
  unfold movedL; split
  · exact getD_mono hs ht h _
  · exact le1_refl _
theorem takeQ_mono (q : QP) (l : QLine) {s t : List Nat} (hs : SOk s) (ht : SOk t) (h : leS s t) : leS (takeQ q l s) (takeQ q l t) := by
  unfold takeQ; split
  · exact takeL_mono _ hs.len ht.len h
  · split
    · exact takeL_mono _ hs.len ht.len h
    · exact h
theorem passQ_mono (q : QP) (l : QLine) {s t : List Nat} (hs : SOk s) (ht : SOk t) (h : leS s t) : leS (passQ q l s) (passQ q l t) := by
  have h1 := takeQ_mono q l hs ht h
  have l1 := (takeQ_ok q l hs).len
  have l2 := (takeQ_ok q l ht).len
  unfold passQ
  split
  · exact putL_mono (le1_refl _) _ l1 l2 h1
  · split
    · exact putL_mono (movedL_mono q _ hs ht h) _ l1 l2 h1
    · split
      · exact putL_mono (le1_refl _) _ l1 l2 h1
      · split
        · exact takeL_mono _ l1 l2 h1
        · exact h1
theorem stepS_mono (l : QLine) (i : Nat) {s t : List Nat} (hs : SOk s) (ht : SOk t) (h : leS s t) : leS (stepS l i s) (stepS l i t) := by
  unfold stepS; split
  · exact putL_mono (le1_refl _) _ hs.len ht.len h
  · exact h
/-! where a block leads, and with what -/
def outsN (l : QLine) : List Nat → Nat → List Nat → List (Nat × List Nat)
  | [], _, _ => []
  | n :: ns, i, s => (n, stepS l i s) :: outsN l ns (i + 1) (stepS l i s)
def stN (l : QLine) : List Nat → Nat → List Nat → List Nat
  | [], _, s => s
  | _ :: ns, i, s => stN l ns (i + 1) (stepS l i s)
def outsL (q : QP) : List QLine → List Nat → List (Nat × List Nat)
  | [], _ => []
  | l :: ls, s => outsN l l.next 0 (passQ q l s) ++ outsL q ls (stN l l.next 0 (passQ q l s))
def leads (M : List (Nat × List Nat)) (x : List (List Nat) × (Nat → Bool)) : List (List Nat) × (Nat → Bool) := M.foldl (fun x n => (leadE x.1 n.1 n.2, leadO x.1 x.2 n.1 n.2)) x
theorem goNext_eq (l : QLine) : ∀ (ns : List Nat) (i : Nat) (t : St), goNext l ns i t = (stN l ns i t.1, leads (outsN l ns i t.1) t.2)
  | [], _, _ => rfl
  | n :: ns, i, t => by rw [goNext, goNext_eq l ns]; rfl
theorem goLines_eq (q : QP) : ∀ (ls : List QLine) (t : St), (goLines q ls t).2 = leads (outsL q ls t.1) t.2
  | [], _ => rfl
  | l :: ls, t => by rw [goLines, goLines_eq q ls, goNext_eq, outsL, leads, leads, leads, List.foldl_append]
theorem stN_ok (l : QLine) : ∀ (ns : List Nat) (i : Nat) {s : List Nat}, SOk s → SOk (stN l ns i s)
  | [], _, _, h => h
  | _ :: ns, i, _, h => stN_ok l ns (i + 1) (stepS_ok l i h)
theorem stN_mono (l : QLine) : ∀ (ns : List Nat) (i : Nat) {s t : List Nat}, SOk s → SOk t → leS s t → leS (stN l ns i s) (stN l ns i t)
  | [], _, _, _, _, _, h => h
  | _ :: ns, i, _, _, hs, ht, h => stN_mono l ns (i + 1) (stepS_ok l i hs) (stepS_ok l i ht) (stepS_mono l i hs ht h)
theorem outsN_ok (l : QLine) (N : Nat) : ∀ (ns : List Nat) (i : Nat) {s : List Nat}, (∀ n ∈ ns, n < N) → SOk s → ∀ x ∈ outsN l ns i s, x.1 < N ∧ SOk x.2
  | [], _, _, _, _, x, hx => by cases hx
  | n :: ns, i, s, hn, h, x, hx => by
    rcases List.mem_cons.mp hx with rfl | hx
    · exact ⟨hn n (List.mem_cons_self ..), stepS_ok l i h⟩
    · exact outsN_ok l N ns (i + 1) (fun m hm => hn m (List.mem_cons_of_mem _ hm)) (stepS_ok l i h) x hx
theorem outsL_ok (q : QP) (N : Nat) : ∀ (ls : List QLine) {s : List Nat}, (∀ l ∈ ls, ∀ n ∈ l.next, n < N) → SOk s → ∀ x ∈ outsL q ls s, x.1 < N ∧ SOk x.2
  | [], _, _, _, x, hx => by cases hx
  | l :: ls, s, hn, h, x, hx => by
    have hp := passQ_ok q l h
    rcases List.mem_append.mp hx with hx | hx
    · exact outsN_ok l N l.next 0 (hn l (List.mem_cons_self ..)) hp x hx
    · exact outsL_ok q N ls (fun m hm => hn m (List.mem_cons_of_mem _ hm)) (stN_ok l _ _ hp) x hx
theorem outsN_mono (l : QLine) : ∀ (ns : List Nat) (i : Nat) {s t : List Nat}, SOk s → SOk t → leS s t → ∀ x ∈ outsN l ns i s, ∃ y, (x.1, y) ∈ outsN l ns i t ∧ leS x.2 y
  | [], _, _, _, _, _, _, x, hx => by cases hx
  | n :: ns, i, s, t, hs, ht, h, x, hx => by
    have h1 := stepS_mono l i hs ht h
    rcases List.mem_cons.mp hx with rfl | hx
    · exact ⟨_, List.mem_cons_self .., h1⟩
    · obtain ⟨y, hy, hl⟩ := outsN_mono l ns (i + 1) (stepS_ok l i hs) (stepS_ok l i ht) h1 x hx
      exact ⟨y, List.mem_cons_of_mem _ hy, hl⟩
theorem outsL_mono (q : QP) : ∀ (ls : List QLine) {s t : List Nat}, SOk s → SOk t → leS s t → ∀ x ∈ outsL q ls s, ∃ y, (x.1, y) ∈ outsL q ls t ∧ leS x.2 y
  | [], _, _, _, _, _, x, hx => by cases hx
  | l :: ls, s, t, hs, ht, h, x, hx => by
    have h1 := passQ_mono q l hs ht h
    have o1 := passQ_ok q l hs
    have o2 := passQ_ok q l ht
    rcases List.mem_append.mp hx with hx | hx
    · obtain ⟨y, hy, hl⟩ := outsN_mono l l.next 0 o1 o2 h1 x hx
      exact ⟨y, List.mem_append.mpr (.inl hy), hl⟩
    · obtain ⟨y, hy, hl⟩ := outsL_mono q ls (stN_ok l _ _ o1) (stN_ok l _ _ o2) (stN_mono l _ _ o1 o2 h1) x hx
      exact ⟨y, List.mem_append.mpr (.inr hy), hl⟩
/-! many ways joined -/
theorem leadE_at (E : List (List Nat)) (n : Nat) (s : List Nat) (hn : n < E.length) (b : Nat) : (leadE E n s).getD b [] = if b = n then joinS (E.getD n []) s else E.getD b [] := by
  unfold leadE
  split
  · rename_i h
    split
    · rename_i e; rw [e, h]
    · rfl
  · exact getD_set E n _ hn b
theorem nonzero_of_le {s t : List Nat} (hs : SOk s) (h : leS s t) (hn : ¬ s = zeroSt) : ¬ t = zeroSt := fun e => hn (by
  subst e
  refine ext24 hs.len (by decide) fun k hk => ?_
  have := h k hk
  have hz : zeroSt.getD k 0 = 0 := by
    unfold zeroSt
    rw [List.getD_eq_getElem?_getD, List.getElem?_replicate, if_pos hk]; rfl
  rw [hz] at this ⊢
  exact le1_zero this)
structure Led (N : Nat) (M : List (Nat × List Nat)) (E : List (List Nat)) (O : Nat → Bool) (E1 : List (List Nat)) (O1 : Nat → Bool) : Prop where
  ok : EOk E1
  len : E1.length = N
  up : ∀ b, b < N → leS (E.getD b []) (E1.getD b [])
  into : ∀ x ∈ M, leS x.2 (E1.getD x.1 [])
  shut : ∀ b, b < N → O1 b = false → O b = false ∧ E1.getD b [] = E.getD b []
  live : ∀ b, b < N → O1 b = true → O b = true ∨ ¬ E1.getD b [] = zeroSt
  least : ∀ U : Nat → List Nat, (∀ b, b < N → leS (E.getD b []) (U b)) → (∀ x ∈ M, leS x.2 (U x.1)) → ∀ b, b < N → leS (E1.getD b []) (U b)
theorem leads_led (N : Nat) : ∀ (M : List (Nat × List Nat)) (E : List (List Nat)) (O : Nat → Bool), EOk E → E.length = N → (∀ x ∈ M, x.1 < N ∧ SOk x.2) → Led N M E O (leads M (E, O)).1 (leads M (E, O)).2
  | [], E, O, hE, hl, _ => ⟨hE, hl, fun _ _ => leS_refl _, fun x hx => (by cases hx), fun b _ h => ⟨h, rfl⟩, fun b _ h => .inl h, fun U h _ b hb => h b hb⟩
  | x :: M, E, O, hE, hl, hM => by
    obtain ⟨hx1, hx2⟩ := hM x (List.mem_cons_self ..)
    have hxE : x.1 < E.length := by omega
    have hs := hE.at hxE
    have hE1 := leadE_ok hE hxE hx2
    have ih := leads_led N M (leadE E x.1 x.2) (leadO E O x.1 x.2) hE1 (by rw [leadE_len]; exact hl) (fun y hy => hM y (List.mem_cons_of_mem _ hy))
    have e : leads (x :: M) (E, O) = leads M (leadE E x.1 x.2, leadO E O x.1 x.2) := rfl
    rw [e]
    have up1 : ∀ b, b < N → leS (E.getD b []) ((leadE E x.1 x.2).getD b []) := fun b hb => by
      rw [leadE_at E x.1 x.2 hxE]
      split
      · rename_i e1; rw [e1]; exact (le_join hs).1
      · exact leS_refl _
    refine ⟨ih.ok, ih.len, fun b hb => leS_trans (up1 b hb) (ih.up b hb), fun y hy => ?_, fun b hb h => ?_, fun b hb h => ?_, fun U h1 h2 b hb => ?_⟩
    · rcases List.mem_cons.mp hy with rfl | hy
      · refine leS_trans ?_ (ih.up y.1 hx1)
        rw [leadE_at E y.1 y.2 hxE, if_pos rfl]
        exact (le_join hs).2
      · exact ih.into y hy
    · obtain ⟨h1, h2⟩ := ih.shut b hb h
      unfold leadO at h1
      split at h1
      · rename_i hj
        exact ⟨h1, h2.trans (by rw [leadE, if_pos hj])⟩
      · rename_i hj
        unfold setO at h1
        split at h1
        · cases h1
        · rename_i hne
          exact ⟨h1, h2.trans (by rw [leadE_at E x.1 x.2 hxE, if_neg hne])⟩
    · rcases ih.live b hb h with h1 | h1
      · unfold leadO at h1
        split at h1
        · exact .inl h1
        · rename_i hj
          unfold setO at h1
          split at h1
          · rename_i hbx
            right
            refine nonzero_of_le (joinS_ok hs hx2) (?_ : leS (joinS (E.getD x.1 []) x.2) _) (fun hz => ?_)
            · have := ih.up b hb
              rw [leadE_at E x.1 x.2 hxE, if_pos hbx] at this
              exact this
            · obtain ⟨k, hk, hne⟩ := join_ne hs hj
              have h0 : (joinS (E.getD x.1 []) x.2).getD k 0 = 0 := by
                rw [hz]; unfold zeroSt; rw [List.getD_eq_getElem?_getD, List.getElem?_replicate, if_pos hk]; rfl
              have := (le_join (t := x.2) hs).1 k hk
              rw [h0] at this hne
              exact hne (le1_zero this).symm
          · exact .inl h1
      · exact .inr h1
    · refine ih.least U (fun c hc => ?_) (fun y hy => h2 y (List.mem_cons_of_mem _ hy)) b hb
      rw [leadE_at E x.1 x.2 hxE]
      split
      · rename_i e1; rw [e1]; exact join_le hs (h1 x.1 hx1) (h2 x (List.mem_cons_self ..))
      · exact h1 c hc
/-! what holds from step to step -/
structure QClosed (q : QP) (U : Nat → List Nat) : Prop where
  ok : ∀ b, b < q.blocks.length → SOk (U b)
  start : leS startSt (U 0)
  step : ∀ b, b < q.blocks.length → ¬ U b = zeroSt → ∀ x ∈ outsL q (q.blocks.getD b []) (U b), leS x.2 (U x.1)
structure Inv (q : QP) (E : List (List Nat)) (O : Nat → Bool) : Prop where
  ok : EOk E
  len : E.length = q.blocks.length
  start : leS startSt (E.getD 0 [])
  step : ∀ b, b < q.blocks.length → O b = false → ¬ E.getD b [] = zeroSt → ∀ x ∈ outsL q (q.blocks.getD b []) (E.getD b []), leS x.2 (E.getD x.1 [])
  live : ∀ b, b < q.blocks.length → O b = true → ¬ E.getD b [] = zeroSt
  least : ∀ U, QClosed q U → ∀ b, b < q.blocks.length → leS (E.getD b []) (U b)
theorem startSt_ne : ¬ startSt = zeroSt := by decide
theorem inv_start (q : QP) (h0 : 0 < q.blocks.length) : Inv q (leadE (List.replicate q.blocks.length zeroSt) 0 startSt) (leadO (List.replicate q.blocks.length zeroSt) (fun _ => false) 0 startSt) := by
  have hz : ∀ b, b < q.blocks.length → (List.replicate q.blocks.length zeroSt).getD b [] = zeroSt := fun b hb => by simp [List.getD_eq_getElem?_getD, hb]
  have hok : EOk (List.replicate q.blocks.length zeroSt) := fun s hs => by rw [List.eq_of_mem_replicate hs]; exact ⟨by decide, zeroSt_lt⟩
  have L := leads_led q.blocks.length [(0, startSt)] (List.replicate q.blocks.length zeroSt) (fun _ => false) hok (by simp) (fun x hx => by rw [List.mem_singleton.mp hx]; exact ⟨h0, startSt_ok⟩)
  have hle : ∀ U : List Nat, leS zeroSt U := fun U k hk => by
    have : zeroSt.getD k 0 = 0 := by unfold zeroSt; rw [List.getD_eq_getElem?_getD, List.getElem?_replicate, if_pos hk]; rfl
    rw [this]; exact Nat.or_zero _
  refine ⟨L.ok, L.len, L.into (0, startSt) (List.mem_singleton.mpr rfl), fun b hb hO hne => ?_, fun b hb hO => ?_, fun U hU => L.least U (fun b hb => by rw [hz b hb]; exact hle _) (fun x hx => by rw [List.mem_singleton.mp hx]; exact hU.start)⟩
  · obtain ⟨-, h2⟩ := L.shut b hb hO
    have e : (leads [(0, startSt)] (List.replicate q.blocks.length zeroSt, fun _ => false)).1 = leadE (List.replicate q.blocks.length zeroSt) 0 startSt := rfl
    rw [e, hz b hb] at h2
    exact absurd h2 hne
  · rcases L.live b hb hO with h | h
    · cases h
    · exact h
theorem inv_step (q : QP) (hnx : ∀ b, b < q.blocks.length → ∀ l ∈ q.blocks.getD b [], ∀ n ∈ l.next, n < q.blocks.length) (E : List (List Nat)) (O : Nat → Bool) (b : Nat) (hb : b < q.blocks.length) (hO : O b = true) (h : Inv q E O) :
    Inv q (goBlk q E (setO O b false) b).2.1 (goBlk q E (setO O b false) b).2.2 := by
  have hbE : b < E.length := by rw [h.len]; exact hb
  have hs := h.ok.at hbE
  have e : (goBlk q E (setO O b false) b).2 = leads (outsL q (q.blocks.getD b []) (E.getD b [])) (E, setO O b false) := goLines_eq q _ _
  have L := leads_led q.blocks.length (outsL q (q.blocks.getD b []) (E.getD b [])) E (setO O b false) h.ok h.len (outsL_ok q q.blocks.length _ (hnx b hb) hs)
  rw [← e] at L
  refine ⟨L.ok, L.len, leS_trans h.start (L.up 0 (by omega)), fun c hc hOc hne => ?_, fun c hc hOc => ?_, fun U hU => L.least U (fun c hc => h.least U hU c hc) (fun x hx => ?_)⟩
  · obtain ⟨h1, h2⟩ := L.shut c hc hOc
    rw [h2] at hne ⊢
    by_cases hcb : c = b
    · subst hcb
      exact L.into
    · unfold setO at h1
      rw [if_neg hcb] at h1
      intro x hx
      exact leS_trans (h.step c hc h1 hne x hx) (L.up x.1 (outsL_ok q q.blocks.length _ (hnx c hc) (h.ok.at (by rw [h.len]; exact hc)) x hx).1)
  · rcases L.live c hc hOc with h1 | h1
    · unfold setO at h1
      split at h1
      · cases h1
      · exact nonzero_of_le (h.ok.at (by rw [h.len]; exact hc)) (L.up c hc) (h.live c hc h1)
    · exact h1
  · have hle := h.least U hU b hb
    obtain ⟨y, hy, hxy⟩ := outsL_mono q (q.blocks.getD b []) hs (hU.ok b hb) hle x hx
    exact leS_trans hxy (hU.step b hb (nonzero_of_le hs hle (h.live b hb hO)) (x.1, y) hy)
end Go.Proofs.YtmlgajhhnojdjaaGreatDoor.FlwS
/- What the document's own reader answers on places and numbers. No conditions but the strings' lengths. -/
namespace Go.Proofs.YtmlgajhhnojdjaaGreatDoor.RefB
theorem hereRefB : True := trivial
end Go.Proofs.YtmlgajhhnojdjaaGreatDoor.RefB
/- What the document's own reader answers on numbers. No conditions but the strings' lengths. -/
namespace Go.Proofs.YtmlgajhhnojdjaaGreatDoor.RefC
theorem hereRefC : True := trivial
end Go.Proofs.YtmlgajhhnojdjaaGreatDoor.RefC
/- What the document's own reader answers on a line's first word: what stands behind it; and whether a word may stand for a kind. No conditions but the strings' lengths. -/
namespace Go.Proofs.YtmlgajhhnojdjaaGreatDoor.RefD
open Go.RowKit Go.Proofs.YtmlgajhhnojdjaaGreatDoor.Spec Go.Proofs.YtmlgajhhnojdjaaGreatDoor.RefA Go.Proofs.YtmlgajhhnojdjaaGreatDoor.RefB Go.Proofs.YtmlgajhhnojdjaaGreatDoor.RefC

def known : List B := [[115, 101, 116], [97, 100, 100], [115, 117, 98], [109, 117, 108], [100, 105, 118], [105, 110], [111, 117, 116], [101, 110, 100], [110, 101, 119], [115, 116, 111, 114, 101], [108, 111, 97, 100], [109, 111, 118, 101], [110, 111, 110, 101], [115, 111, 109, 101], [103, 111, 116, 111], [105, 102], [109, 97, 116, 99, 104], [100, 114, 111, 112], [102, 114, 101, 101], [102, 108, 97, 103], [116, 101, 115, 116]]
end Go.Proofs.YtmlgajhhnojdjaaGreatDoor.RefD
/- What the document's own reader answers on a text that is parted at a byte. Condition: the text has at most 2^40 bytes. -/
namespace Go.Proofs.YtmlgajhhnojdjaaGreatDoor.RefE
theorem hereRefE : True := trivial
end Go.Proofs.YtmlgajhhnojdjaaGreatDoor.RefE
/- What the document's own reader answers on where a line stands and which local has a name. Condition: the program lies in memory as it is kept. -/
namespace Go.Proofs.YtmlgajhhnojdjaaGreatDoor.RefF
theorem hereRefF : True := trivial
end Go.Proofs.YtmlgajhhnojdjaaGreatDoor.RefF
/- What the document's own reader answers on which local has a name. Condition: the program lies in memory as it is kept. -/
namespace Go.Proofs.YtmlgajhhnojdjaaGreatDoor.RefG
theorem hereRefG : True := trivial
end Go.Proofs.YtmlgajhhnojdjaaGreatDoor.RefG
/- What the document's own reader answers on a place's type. Condition: the program lies in memory as it is kept, and the place's local is there. -/
namespace Go.Proofs.YtmlgajhhnojdjaaGreatDoor.RefH
theorem hereRefH : True := trivial
end Go.Proofs.YtmlgajhhnojdjaaGreatDoor.RefH
/- What the document's own ways answer on letters and spots. Conditions: the strings' lengths; the program lies in memory as it is kept. -/
namespace Go.Proofs.YtmlgajhhnojdjaaGreatDoor.RefO
theorem hereRefO : True := trivial
end Go.Proofs.YtmlgajhhnojdjaaGreatDoor.RefO
/- What the document's own ways answer on spots and blocks. Conditions: the program lies in memory as it is kept; what is named is there. -/
namespace Go.Proofs.YtmlgajhhnojdjaaGreatDoor.RefP
theorem hereRefP : True := trivial
end Go.Proofs.YtmlgajhhnojdjaaGreatDoor.RefP
/- What the document's own ways answer on whether a place is there. Conditions: the program lies in memory as it is kept; the place's local is one of twelve. -/
namespace Go.Proofs.YtmlgajhhnojdjaaGreatDoor.RefQ
theorem hereRefQ : True := trivial
end Go.Proofs.YtmlgajhhnojdjaaGreatDoor.RefQ
/- Plain definitions: a place is in one way. -/
namespace Go.Proofs.YtmlgajhhnojdjaaGreatDoor.Spec
theorem hereSpecI : True := trivial
end Go.Proofs.YtmlgajhhnojdjaaGreatDoor.Spec
/- What the document's own ways make of a place that is in one way. Conditions: the program lies in memory as it is kept; the place's local is one of twelve. -/
namespace Go.Proofs.YtmlgajhhnojdjaaGreatDoor.RefR
theorem hereRefR : True := trivial
end Go.Proofs.YtmlgajhhnojdjaaGreatDoor.RefR
/- What the document's own ways answer on whether a place may be written. Conditions: the program lies in memory as it is kept; the place's local is one of twelve. -/
namespace Go.Proofs.YtmlgajhhnojdjaaGreatDoor.RefS
theorem hereRefS : True := trivial
end Go.Proofs.YtmlgajhhnojdjaaGreatDoor.RefS
