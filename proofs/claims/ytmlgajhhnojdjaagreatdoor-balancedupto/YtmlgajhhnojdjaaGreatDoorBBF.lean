/- The first line of a block that needs what may not be there: faultIn. -/
import Derived.Test.YtmlgajhhnojdjaaGreatDoorBBE
namespace Go.Proofs.YtmlgajhhnojdjaaGreatDoor.FlwP
open Go Go.RowKit Go.Proofs.YtmlgajhhnojdjaaGreatDoor.Spec Go.Proofs.YtmlgajhhnojdjaaGreatDoor.Aux Go.Proofs.YtmlgajhhnojdjaaGreatDoor.PrjF Go.Proofs.YtmlgajhhnojdjaaGreatDoor.PrjG Go.Proofs.YtmlgajhhnojdjaaGreatDoor.PrjJ Go.Proofs.YtmlgajhhnojdjaaGreatDoor.PrjK Go.Proofs.YtmlgajhhnojdjaaGreatDoor.PrjL Go.Proofs.YtmlgajhhnojdjaaGreatDoor.PrjM Go.Proofs.YtmlgajhhnojdjaaGreatDoor.PrjO Go.Proofs.YtmlgajhhnojdjaaGreatDoor.PrjP Go.Proofs.YtmlgajhhnojdjaaGreatDoor.PrjQ Go.Proofs.YtmlgajhhnojdjaaGreatDoor.PrjS Go.Proofs.YtmlgajhhnojdjaaGreatDoor.PrjU Go.Proofs.YtmlgajhhnojdjaaGreatDoor.FlwA Go.Proofs.YtmlgajhhnojdjaaGreatDoor.FlwB Go.Proofs.YtmlgajhhnojdjaaGreatDoor.FlwC Go.Proofs.YtmlgajhhnojdjaaGreatDoor.FlwD Go.Proofs.YtmlgajhhnojdjaaGreatDoor.FlwE Go.Proofs.YtmlgajhhnojdjaaGreatDoor.FlwF Go.Proofs.YtmlgajhhnojdjaaGreatDoor.FlwG Go.Proofs.YtmlgajhhnojdjaaGreatDoor.FlwH Go.Proofs.YtmlgajhhnojdjaaGreatDoor.FlwI Go.Proofs.YtmlgajhhnojdjaaGreatDoor.FlwJ Go.Proofs.YtmlgajhhnojdjaaGreatDoor.FlwK Go.Proofs.YtmlgajhhnojdjaaGreatDoor.FlwL Go.Proofs.YtmlgajhhnojdjaaGreatDoor.FlwM Go.Proofs.YtmlgajhhnojdjaaGreatDoor.FlwN Go.Proofs.YtmlgajhhnojdjaaGreatDoor.FlwO
attribute [local go_sem ↓] wp_load_st wp_store_st

def faultL (q : QP) : List QLine → List Nat → Option Nat
  | [], _ => none
  | l :: ls, s => if faultyQ q l s = true then some l.num else faultL q ls (passQ q l s)
theorem faultL_step (q : QP) (ls : List QLine) (i : Nat) (hi : i < ls.length) (s : List Nat) : faultL q (ls.drop i) s = if faultyQ q (ls.getD i QLine.nil) s = true then some (ls.getD i QLine.nil).num else faultL q (ls.drop (i + 1)) (passQ q (ls.getD i QLine.nil) s) := by
  rw [List.drop_eq_getElem_cons hi]
  have : ls.getD i QLine.nil = ls[i] := by simp [hi]
  rw [this]; rfl
/-- an answer as a line and whether there is one -/
def ansOf : Option Nat → Value
  | some n => .tuple #[.int .i64 (n : Nat), .bool true]
  | none => .tuple #[.int .i64 0, .bool false]
section
variable {z x a ap mb : Nat} {w w' : World} {q : QP} {vl vb : Value} {us : List Value} {vss : List (List (Value × Value))} {E : List (List Nat)} {O : Nat → Bool}
set_option maxRecDepth 20000 in
set_option maxHeartbeats 4000000 in
theorem faultIn_any (h : WAt z x a ap mb w q vl vb us vss E O) (b : Nat) (hb : b < q.blocks.length) (_hn : q.blocks.length ≤ 4000) (hls : q.locals.length ≤ 12) (hq : QOk q.blocks.length q) (hlines : ∀ j, (q.blocks.getD j []).length ≤ 4000) :
    Calls Tryz.prog 145 #[.pointer (some ⟨x, 0, none⟩), .int .i64 (b : Nat)] w fun e w' => e = .returned (ansOf (faultL q (q.blocks.getD b []) (E.getD b []))) ∧ Below w.heap.size w w' := by
  have htE : b < E.length := by rw [h.len]; exact hb
  have hE := h.row.ok htE
  have hapl := h.row.lt
  have hti : (b : Int) < (q.blocks.length : Nat) := by omega
  obtain ⟨c0, c1, c2⟩ := h.facts
  have has := h.row.has b htE
  have hof := h.row.of b htE
  have HG : Hid (faultL q (q.blocks.getD b []) (E.getD b []) = faultL q ((q.blocks.getD b []).drop 0) (E.getD b [])) := rfl
  obtain ⟨ans, HAns⟩ : ∃ ans, Hid (faultL q (q.blocks.getD b []) (E.getD b []) = ans) := ⟨_, rfl⟩
  rw [HAns.out] at HG ⊢
  have hZ : StAt (w.alloc (.cells #[.int .u8 0, .int .u8 0, .int .u8 0, .int .u8 0, .int .u8 0, .int .u8 0, .int .u8 0, .int .u8 0, .int .u8 0, .int .u8 0, .int .u8 0, .int .u8 0, .int .u8 0, .int .u8 0, .int .u8 0, .int .u8 0, .int .u8 0, .int .u8 0, .int .u8 0, .int .u8 0, .int .u8 0, .int .u8 0, .int .u8 0, .int .u8 0] 209)) w.heap.size zeroSt := StAt.new w (s := zeroSt) (by decide)
  have hbZ : Below w.heap.size w (w.alloc (.cells #[.int .u8 0, .int .u8 0, .int .u8 0, .int .u8 0, .int .u8 0, .int .u8 0, .int .u8 0, .int .u8 0, .int .u8 0, .int .u8 0, .int .u8 0, .int .u8 0, .int .u8 0, .int .u8 0, .int .u8 0, .int .u8 0, .int .u8 0, .int .u8 0, .int .u8 0, .int .u8 0, .int .u8 0, .int .u8 0, .int .u8 0, .int .u8 0] 209)) := (Below.refl _ _).alloc (Nat.le_refl _) _
  have hroom := StAt.room hZ
  have hist := isSt_of hE.len
  have hJ := StAt.store hZ hE.len
  have hbW : Below w.heap.size w ((w.alloc (.cells #[.int .u8 0, .int .u8 0, .int .u8 0, .int .u8 0, .int .u8 0, .int .u8 0, .int .u8 0, .int .u8 0, .int .u8 0, .int .u8 0, .int .u8 0, .int .u8 0, .int .u8 0, .int .u8 0, .int .u8 0, .int .u8 0, .int .u8 0, .int .u8 0, .int .u8 0, .int .u8 0, .int .u8 0, .int .u8 0, .int .u8 0, .int .u8 0] 209)).setCells w.heap.size 0 (stCells (E.getD b []))) := below_setCells hbZ (Nat.le_refl _) _ _
  have hW := h.below hbW
  clear HAns
  generalize E.getD b [] = e0 at *
  clear hbZ hZ
  go_enter Tryz.func145, Tryz.ntmps145
  go_upto_region 2 with fail
  generalize ((w.alloc (.cells #[.int .u8 0, .int .u8 0, .int .u8 0, .int .u8 0, .int .u8 0, .int .u8 0, .int .u8 0, .int .u8 0, .int .u8 0, .int .u8 0, .int .u8 0, .int .u8 0, .int .u8 0, .int .u8 0, .int .u8 0, .int .u8 0, .int .u8 0, .int .u8 0, .int .u8 0, .int .u8 0, .int .u8 0, .int .u8 0, .int .u8 0, .int .u8 0] 209)).setCells w.heap.size 0 (stCells e0)) = W at *
  clear hroom has hof c0 c1 c2
  obtain ⟨c0, c1, c2⟩ := hW.facts
  obtain ⟨p0, p1, -, -⟩ := PAt.facts hW.prog
  obtain ⟨gb, cb, adk, ck, rfl, hcb, hgb, hcell, hus⟩ := blocks_cell2 hW.prog b hb
  have hln := hlines b
  have hok : ∀ l ∈ q.blocks.getD b [], LOk q.locals.length q.blocks.length l := hq.lines _ (by simp [hb])
  have hbne : w.heap.size ≠ ap := by omega
  have hBA : Hid (∀ wn, WAt z x a ap mb wn q vl (.slice (some ⟨gb, 0, none⟩) q.blocks.length cb) us vss E O → BlockAt z wn (.slice adk (q.blocks.getD b []).length ck) (q.blocks.getD b []) (vss.getD b [])) := fun wn hwn => by
    have h1 := hwn.prog.each b hb
    rw [hus] at h1; exact h1
  have HL : Hid (∀ wn, WAt z x a ap mb wn q vl (.slice (some ⟨gb, 0, none⟩) q.blocks.length cb) us vss E O → ∀ i, i < (q.blocks.getD b []).length → ∀ v1 v2, (vss.getD b []).getD i (undef, undef) = (v1, v2) → LineAt z wn ((q.blocks.getD b []).getD i QLine.nil) v1 v2) := fun wn hwn i hi v1 v2 hv => WAt.line hwn hb hi hv
  have HS : Hid (∀ i, i < (q.blocks.getD b []).length → ∀ s, faultL q ((q.blocks.getD b []).drop i) s = if faultyQ q ((q.blocks.getD b []).getD i QLine.nil) s = true then some ((q.blocks.getD b []).getD i QLine.nil).num else faultL q ((q.blocks.getD b []).drop (i + 1)) (passQ q ((q.blocks.getD b []).getD i QLine.nil) s)) := fun i hi s => faultL_step q _ i hi s
  generalize q.blocks.getD b [] = blk at *
  generalize vss.getD b [] = vsj at *
  go_wp2
  go_loopg [27] (blk.length) (fun g v27 wr => ∃ (i : Nat) (s' : List Nat), i ≤ blk.length ∧ g + i = blk.length ∧ v27 = .int .i64 i ∧ WAt z x a ap mb wr q vl (.slice (some ⟨gb, 0, none⟩) q.blocks.length cb) us vss E O ∧ StAt wr w.heap.size s' ∧ SOk s' ∧ Below w.heap.size w wr ∧ Hid (ans = faultL q (blk.drop i) s'))
  case atStart => exact ⟨0, e0, Nat.zero_le _, rfl, rfl, hW, hJ, hE, hbW, HG⟩
  case round =>
    obtain ⟨i, s', hi, hgi, rfl, hWr, hSr, hso, hBr, HR⟩ := hrel
    clear hJ HG hW hbW c0 c1 c2 p0 p1 hcell hist hE
    by_cases hli : i < blk.length
    · obtain ⟨gl, apl, cp, an, cn, rfl, -, hcl, hgl, k0, k1, k2, k3, k4, k5, hvs⟩ := block_cells2 (hBA.out wr hWr) i hli
      have hS : Hid (_ = _) := HS.out i hli s'
      have HLi : Hid (∀ wn, WAt z x a ap mb wn q vl (.slice (some ⟨gb, 0, none⟩) q.blocks.length cb) us vss E O → LineAt z wn (blk.getD i QLine.nil) (.slice apl (blk.getD i QLine.nil).places.length cp) (.slice an (blk.getD i QLine.nil).next.length cn)) := fun wn hwn => HL.out wn hwn i hli _ _ hvs
      have hl := hok (blk.getD i QLine.nil) (by simp [hli])
      clear hvs
      generalize blk.getD i QLine.nil = l at *
      have hbL : Below wr.heap.size wr (wr.alloc (.cells #[.int .i64 (l.num : Nat), .int .i64 (l.op : Nat), .slice apl l.places.length cp, .int .i64 l.number, .int .i64 l.flag, .slice an l.next.length cn] 115)) := (Below.refl _ _).alloc (Nat.le_refl _) _
      have hWL := hWr.below hbL
      have hSL := hSr.below hbL hSr.lt
      have hBL := hBr.trans (hbL.mono hBr.size)
      have hlnL : (wr.alloc (.cells #[.int .i64 (l.num : Nat), .int .i64 (l.op : Nat), .slice apl l.places.length cp, .int .i64 l.number, .int .i64 l.flag, .slice an l.next.length cn] 115)).heap[wr.heap.size]? = some (.cells #[.int .i64 (l.num : Nat), .int .i64 (l.op : Nat), .slice apl l.places.length cp, .int .i64 l.number, .int .i64 l.flag, .slice an l.next.length cn] 115 (0, 0)) := Array.getElem?_push_size
      have hwr : w.heap.size < wr.heap.size := hSr.lt
      go_upto_region 5 with fail
      generalize (wr.alloc (.cells #[.int .i64 (l.num : Nat), .int .i64 (l.op : Nat), .slice apl l.places.length cp, .int .i64 l.number, .int .i64 l.flag, .slice an l.next.length cn] 115)) = WL at *
      clear k0 k1 k2 k3 k4 k5 hbL
      have hbd : Below WL.heap.size WL WL.drew := below_drewN (Below.refl _ _) 1
      have hWLd := hWL.below hbd
      have hSLd : StAt WL.drew w.heap.size s' := hSL
      have hlnLd : WL.drew.heap[wr.heap.size]? = some (.cells #[.int .i64 (l.num : Nat), .int .i64 (l.op : Nat), .slice apl l.places.length cp, .int .i64 l.number, .int .i64 l.flag, .slice an l.next.length cn] 115 (0, 0)) := hlnL
      have hBLd := hBL.trans (hbd.mono hBL.size)
      obtain ⟨c0, c1, c2⟩ := hWL.facts
      have l0 := (cell_of_heap hlnL 0).trans (by rfl : _ = some (Value.int .i64 (l.num : Nat)))
      have l1 := (cell_of_heap hlnL 1).trans (by rfl : _ = some (Value.int .i64 (l.op : Nat)))
      have l2 := (cell_of_heap hlnL 2).trans (by rfl : _ = some (Value.slice apl l.places.length cp))
      have l3 := (cell_of_heap hlnL 3).trans (by rfl : _ = some (Value.int .i64 l.number))
      have l4 := (cell_of_heap hlnL 4).trans (by rfl : _ = some (Value.int .i64 l.flag))
      have l5 := (cell_of_heap hlnL 5).trans (by rfl : _ = some (Value.slice an l.next.length cn))
      have KF := faulty_any q l q.blocks.length z a w.heap.size vl _ apl an cp cn s' WL.drew ⟨hWLd.prog.blk, ⟨_, hWLd.prog.locals⟩⟩ hls hl (HLi.out _ hWLd) hSLd hso.lt
      obtain ⟨fq, Hfq⟩ : ∃ fq, Hid (faultyQ q l s' = fq) := ⟨_, rfl⟩
      rw [Hfq.out] at KF
      go_cut [8, 36] (fun v8 v36 wc => v8 = .pointer (some ⟨wr.heap.size, 0, none⟩) ∧ v36 = .bool fq ∧ Below WL.drew.heap.size WL.drew wc)
      case first =>
        go_region_with (go_at_call 190; refine KF.mono ?_; rintro e w1 ⟨rfl, hb1⟩)
        all_goals go_wp2_with fail
        all_goals
          go_meet
          case rel => exact ⟨rfl, rfl, hb1⟩
      case rest =>
        obtain ⟨rfl, rfl, hb1⟩ := hcut
        have hWc := hWLd.below hb1
        have hSc := hSLd.below hb1 hSLd.lt
        have hlnc := (hb1.block _ (lt_of_heap hlnLd)).trans hlnLd
        have hBc := hBLd.trans (hb1.mono hBLd.size)
        clear KF hWL hSL hBL hlnL hbd hWLd hSLd hlnLd hBLd c0 c1 c2 l0 l1 l2 l3 l4 l5 hb1
        cases fq with
        | true =>
          have l0 := (cell_of_heap hlnc 0).trans (by rfl : _ = some (Value.int .i64 (l.num : Nat)))
          have hA : ans = some l.num := by rw [HR.out, hS.out, if_pos Hfq.out]
          go_wp2
          go_ret2
          rw [hA]
          exact ⟨rfl, hBc⟩
        | false =>
          have HR1 : Hid (ans = faultL q (blk.drop (i + 1)) (passQ q l s')) := by unfold Hid; rw [HR.out, hS.out, if_neg (by rw [Hfq.out]; decide)]
          clear HR
          have hbd : Below wc.heap.size wc wc.drew := below_drewN (Below.refl _ _) 1
          have hWcd := hWc.below hbd
          have hScd : StAt wc.drew w.heap.size s' := hSc
          have hBcd := hBc.trans (hbd.mono hBc.size)
          obtain ⟨c0, c1, c2⟩ := hWc.facts
          have l0 := (cell_of_heap hlnc 0).trans (by rfl : _ = some (Value.int .i64 (l.num : Nat)))
          have l1 := (cell_of_heap hlnc 1).trans (by rfl : _ = some (Value.int .i64 (l.op : Nat)))
          have l2 := (cell_of_heap hlnc 2).trans (by rfl : _ = some (Value.slice apl l.places.length cp))
          have l3 := (cell_of_heap hlnc 3).trans (by rfl : _ = some (Value.int .i64 l.number))
          have l4 := (cell_of_heap hlnc 4).trans (by rfl : _ = some (Value.int .i64 l.flag))
          have l5 := (cell_of_heap hlnc 5).trans (by rfl : _ = some (Value.slice an l.next.length cn))
          have KP := pass_any q l q.blocks.length z a w.heap.size vl _ apl an cp cn s' wc.drew ⟨hWcd.prog.blk, ⟨_, hWcd.prog.locals⟩⟩ hls hl (HLi.out _ hWcd) hScd hso.lt
          generalize wr.heap.size = lb at *
          go_upto_region 7 with fail
          go_region_with (go_at_call 128; refine KP.mono ?_; rintro e w1 ⟨rfl, hS1, hT1⟩)
          all_goals
            have hW1 := hWcd.other hT1 hScd hbne
            have hB1 := hBcd.trans (hT1.below (Nat.le_refl _) hBcd.size)
            have hso1 := passQ_ok q l hso
            clear KP l0 l1 l2 l3 l4 l5 c0 c1 c2
            go_wp2
            go_roundg (blk.length - (i + 1))
            case measure => omega
            case rel => exact ⟨i + 1, _, by omega, by omega, by go_num, hW1, hS1, hso1, hB1, HR1⟩
    · have hA : ans = none := by rw [HR.out, List.drop_eq_nil_of_le (by omega)]; rfl
      go_wp2
      go_ret2
      rw [hA]
      exact ⟨rfl, hBr⟩
end
end Go.Proofs.YtmlgajhhnojdjaaGreatDoor.FlwP
/- The first line of all that needs what may not be there: firstFault. -/
namespace Go.Proofs.YtmlgajhhnojdjaaGreatDoor.FlwQ
open Go Go.RowKit Go.Proofs.YtmlgajhhnojdjaaGreatDoor.Spec Go.Proofs.YtmlgajhhnojdjaaGreatDoor.Aux Go.Proofs.YtmlgajhhnojdjaaGreatDoor.PrjF Go.Proofs.YtmlgajhhnojdjaaGreatDoor.PrjG Go.Proofs.YtmlgajhhnojdjaaGreatDoor.PrjJ Go.Proofs.YtmlgajhhnojdjaaGreatDoor.PrjK Go.Proofs.YtmlgajhhnojdjaaGreatDoor.PrjL Go.Proofs.YtmlgajhhnojdjaaGreatDoor.PrjM Go.Proofs.YtmlgajhhnojdjaaGreatDoor.PrjO Go.Proofs.YtmlgajhhnojdjaaGreatDoor.PrjP Go.Proofs.YtmlgajhhnojdjaaGreatDoor.PrjQ Go.Proofs.YtmlgajhhnojdjaaGreatDoor.PrjS Go.Proofs.YtmlgajhhnojdjaaGreatDoor.PrjU Go.Proofs.YtmlgajhhnojdjaaGreatDoor.FlwA Go.Proofs.YtmlgajhhnojdjaaGreatDoor.FlwB Go.Proofs.YtmlgajhhnojdjaaGreatDoor.FlwC Go.Proofs.YtmlgajhhnojdjaaGreatDoor.FlwD Go.Proofs.YtmlgajhhnojdjaaGreatDoor.FlwE Go.Proofs.YtmlgajhhnojdjaaGreatDoor.FlwF Go.Proofs.YtmlgajhhnojdjaaGreatDoor.FlwG Go.Proofs.YtmlgajhhnojdjaaGreatDoor.FlwH Go.Proofs.YtmlgajhhnojdjaaGreatDoor.FlwI Go.Proofs.YtmlgajhhnojdjaaGreatDoor.FlwJ Go.Proofs.YtmlgajhhnojdjaaGreatDoor.FlwK Go.Proofs.YtmlgajhhnojdjaaGreatDoor.FlwL Go.Proofs.YtmlgajhhnojdjaaGreatDoor.FlwM Go.Proofs.YtmlgajhhnojdjaaGreatDoor.FlwN Go.Proofs.YtmlgajhhnojdjaaGreatDoor.FlwO Go.Proofs.YtmlgajhhnojdjaaGreatDoor.FlwP
attribute [local go_sem ↓] wp_load_st wp_store_st

/-- the first fault of block b, if it can be come to -/
def faultB (q : QP) (E : List (List Nat)) (b : Nat) : Option Nat := if E.getD b [] = zeroSt then none else faultL q (q.blocks.getD b []) (E.getD b [])
def firstSome (f : Nat → Option Nat) : Nat → Nat → Option Nat
  | 0, _ => none
  | m + 1, k => (f k).or (firstSome f m (k + 1))
theorem firstSome_skip (f : Nat → Option Nat) : ∀ (d m k : Nat), (∀ c, k ≤ c → c < k + d → f c = none) → firstSome f (d + m) k = firstSome f m (k + d)
  | 0, m, k, _ => by rw [Nat.zero_add]; rfl
  | d + 1, m, k, h => by
    rw [show d + 1 + m = (d + m) + 1 by omega, firstSome, h k (Nat.le_refl _) (by omega), Option.none_or]
    rw [firstSome_skip f d m (k + 1) (fun c h1 h2 => h c (by omega) (by omega)), show k + 1 + d = k + (d + 1) by omega]
theorem firstSome_all (f : Nat → Option Nat) : ∀ (m k : Nat), (∀ c, k ≤ c → c < k + m → f c = none) → firstSome f m k = none
  | 0, _, _ => rfl
  | m + 1, k, h => by
    rw [firstSome, h k (Nat.le_refl _) (by omega), Option.none_or]
    exact firstSome_all f m (k + 1) (fun c h1 h2 => h c (by omega) (by omega))
def reachO (E : List (List Nat)) (k N : Nat) : Nat → Bool := fun b => decide (k ≤ b) && (decide (b < N) && !(E.getD b [] == zeroSt))
theorem reach_false {E : List (List Nat)} {k N b : Nat} (h : reachO E k N b = false) (h1 : k ≤ b) (h2 : b < N) (q : QP) : faultB q E b = none := by
  unfold reachO at h
  rw [decide_eq_true h1, decide_eq_true h2] at h
  simp only [Bool.true_and, Bool.not_eq_false', beq_iff_eq] at h
  rw [faultB, if_pos h]
theorem reach_true {E : List (List Nat)} {k N b : Nat} (h : reachO E k N b = true) : k ≤ b ∧ b < N ∧ ¬ E.getD b [] = zeroSt := by
  unfold reachO at h
  simp only [Bool.and_eq_true, decide_eq_true_eq, Bool.not_eq_true', beq_eq_false_iff_ne] at h
  exact h
def upO (E : List (List Nat)) (N : Nat) (k : Nat) : Nat → Bool := fun b => decide (b < k) && (decide (b < N) && !(E.getD b [] == zeroSt))
theorem upO_step (E : List (List Nat)) (N k : Nat) (hk : k < N) : upO E N (k + 1) = if (E.getD k [] == zeroSt) = true then upO E N k else setO (upO E N k) k true := by
  funext b
  by_cases e : b = k
  · subst e
    cases h : (E.getD b [] == zeroSt)
    · rw [if_neg (by decide)]; simp only [upO, setO, h]; simp [hk]
    · rw [if_pos rfl]; simp only [upO, h]; simp
  · have h1 : upO E N (k + 1) b = upO E N k b := by
      unfold upO
      have : decide (b < k + 1) = decide (b < k) := by rw [decide_eq_decide]; omega
      rw [this]
    rw [h1]
    split
    · rfl
    · unfold setO; rw [if_neg e]
theorem upO_zero (E : List (List Nat)) (N : Nat) : upO E N 0 = fun _ => false := by funext b; simp [upO]
theorem upO_all (E : List (List Nat)) (N : Nat) : upO E N N = reachO E 0 N := by
  funext b; unfold upO reachO
  by_cases h : b < N
  · simp [h]
  · simp [h]
theorem reach_del {E : List (List Nat)} {k N b : Nat} (hb : Least (reachO E k N) N b) (hlt : b < N) : setO (reachO E k N) b false = reachO E (b + 1) N := by
  obtain ⟨h1, h2, h3⟩ := reach_true (hb.opn hlt)
  funext c
  unfold setO
  by_cases e : c = b
  · subst e; rw [if_pos rfl]; have : decide (c + 1 ≤ c) = false := by simp
    unfold reachO; rw [this]; rfl
  · rw [if_neg e]
    by_cases hc : c < b
    · rw [hb.none c hc]; simp [reachO]; omega
    · unfold reachO
      have a1 : decide (k ≤ c) = true := by simp; omega
      have a2 : decide (b + 1 ≤ c) = true := by simp; omega
      rw [a1, a2]
theorem ansOf_eq (r : Option Nat) : ansOf r = .tuple #[.int .i64 ((r.getD 0 : Nat) : Int), .bool r.isSome] := by cases r <;> rfl
section
variable {z x a ap mb : Nat} {w w' : World} {q : QP} {vl vb : Value} {us : List Value} {vss : List (List (Value × Value))} {E : List (List Nat)} {O : Nat → Bool}
theorem WAt.open' (h : WAt z x a ap mb w q vl vb us vss E O) {w1 : World} {O1 : Nat → Bool} (hg : w.grownBy w1 (some mb)) (ho : OpenAt w1 mb q.blocks.length O1) : WAt z x a ap mb w1 q vl vb us vss E O1 :=
  h.turn (.right hg) rfl (h.row.heap (hg.block ap h.row.lt (fun e => by
    simp only [Option.some.injEq] at e
    obtain ⟨es, clock, h1⟩ := h.opn.isMap
    obtain ⟨-, cs, h2, -⟩ := h.row
    rw [← e, h2] at h1; cases h1))) ho
set_option maxRecDepth 20000 in
set_option maxHeartbeats 4000000 in
theorem firstFault_any (h : WAt z x a ap mb w q vl vb us vss E (fun _ => false)) (hn : q.blocks.length ≤ 4000) (hls : q.locals.length ≤ 12) (hq : QOk q.blocks.length q) (hlines : ∀ j, (q.blocks.getD j []).length ≤ 4000) :
    Calls Tryz.prog 91 #[.pointer (some ⟨x, 0, none⟩)] w fun e w' => e = .returned (ansOf (firstSome (faultB q E) q.blocks.length 0)) ∧ Turn2 ap mb w w' := by
  obtain ⟨c0, c1, c2⟩ := h.facts
  have hlen := h.len
  have hS : WAt z x a ap mb w q vl vb us vss E (upO E q.blocks.length 0) := by rw [upO_zero]; exact h
  have HF : Hid (firstSome (faultB q E) q.blocks.length 0 = firstSome (faultB q E) (q.blocks.length - 0) 0) := rfl
  obtain ⟨ans, HA⟩ : ∃ ans, Hid (firstSome (faultB q E) q.blocks.length 0 = ans) := ⟨_, rfl⟩
  rw [HA.out] at HF ⊢
  go_enter Tryz.func91, Tryz.ntmps91
  go_wp2
  go_loopg [11] (q.blocks.length) (fun g v11 wr => ∃ k : Nat, k ≤ q.blocks.length ∧ g + k = q.blocks.length ∧ v11 = .int .i64 k ∧ WAt z x a ap mb wr q vl vb us vss E (upO E q.blocks.length k) ∧ Turn2 ap mb w wr)
  case atStart => exact ⟨0, Nat.zero_le _, rfl, rfl, hS, Turn2.refl _ _ _⟩
  case round =>
    obtain ⟨k, hk, hgk, rfl, hWr, hTr⟩ := hrel
    clear hS c0 c1 c2 h
    by_cases hlt : k < q.blocks.length
    · have hkE : k < E.length := by omega
      have hE := hWr.row.ok hkE
      have has := hWr.row.has k hkE
      have hof := hWr.row.of k hkE
      have hki : (k : Int) < (q.blocks.length : Nat) := by omega
      have HU : Hid (upO E q.blocks.length (k + 1) = if (E.getD k [] == zeroSt) = true then upO E q.blocks.length k else setO (upO E q.blocks.length k) k true) := upO_step E _ k hlt
      have hZ : StAt (wr.alloc (.cells #[.int .u8 0, .int .u8 0, .int .u8 0, .int .u8 0, .int .u8 0, .int .u8 0, .int .u8 0, .int .u8 0, .int .u8 0, .int .u8 0, .int .u8 0, .int .u8 0, .int .u8 0, .int .u8 0, .int .u8 0, .int .u8 0, .int .u8 0, .int .u8 0, .int .u8 0, .int .u8 0, .int .u8 0, .int .u8 0, .int .u8 0, .int .u8 0] 209)) wr.heap.size zeroSt := StAt.new wr (s := zeroSt) (by decide)
      have hbZ : Below wr.heap.size wr (wr.alloc (.cells #[.int .u8 0, .int .u8 0, .int .u8 0, .int .u8 0, .int .u8 0, .int .u8 0, .int .u8 0, .int .u8 0, .int .u8 0, .int .u8 0, .int .u8 0, .int .u8 0, .int .u8 0, .int .u8 0, .int .u8 0, .int .u8 0, .int .u8 0, .int .u8 0, .int .u8 0, .int .u8 0, .int .u8 0, .int .u8 0, .int .u8 0, .int .u8 0] 209)) := (Below.refl _ _).alloc (Nat.le_refl _) _
      have hroom := StAt.room hZ
      have hist := isSt_of hE.len
      have hJ := StAt.store hZ hE.len
      have hbW : Below wr.heap.size wr ((wr.alloc (.cells #[.int .u8 0, .int .u8 0, .int .u8 0, .int .u8 0, .int .u8 0, .int .u8 0, .int .u8 0, .int .u8 0, .int .u8 0, .int .u8 0, .int .u8 0, .int .u8 0, .int .u8 0, .int .u8 0, .int .u8 0, .int .u8 0, .int .u8 0, .int .u8 0, .int .u8 0, .int .u8 0, .int .u8 0, .int .u8 0, .int .u8 0, .int .u8 0] 209)).setCells wr.heap.size 0 (stCells (E.getD k []))) := below_setCells hbZ (Nat.le_refl _) _ _
      have hW := hWr.below hbW
      have hTW := hTr.on hbW
      generalize E.getD k [] = e0 at *
      clear hbZ hZ hbW
      go_upto_region 4 with fail
      generalize ((wr.alloc (.cells #[.int .u8 0, .int .u8 0, .int .u8 0, .int .u8 0, .int .u8 0, .int .u8 0, .int .u8 0, .int .u8 0, .int .u8 0, .int .u8 0, .int .u8 0, .int .u8 0, .int .u8 0, .int .u8 0, .int .u8 0, .int .u8 0, .int .u8 0, .int .u8 0, .int .u8 0, .int .u8 0, .int .u8 0, .int .u8 0, .int .u8 0, .int .u8 0] 209)).setCells wr.heap.size 0 (stCells e0)) = W at *
      clear hroom has hof hist
      obtain ⟨c0, c1, c2⟩ := hW.facts
      have KR := reached_any wr.heap.size e0 W hJ hE.lt
      cases hz : (e0 == zeroSt) with
      | true =>
        rw [hz] at KR
        have HU2 : upO E q.blocks.length (k + 1) = upO E q.blocks.length k := by rw [HU.out, hz]; rfl
        clear hz
        go_wp2_with (go_at_call 129; refine KR.mono ?_; rintro e w1 ⟨rfl, rfl⟩)
        go_roundg (q.blocks.length - (k + 1))
        case measure => omega
        case rel => exact ⟨k + 1, by omega, by omega, by go_num, by rw [HU2]; exact hW, hTW⟩
      | false =>
        rw [hz] at KR
        have HU2 : upO E q.blocks.length (k + 1) = setO (upO E q.blocks.length k) k true := by rw [HU.out, hz]; rfl
        clear hz
        go_wp2_with (first
          | (go_at_call 129; refine KR.mono ?_; rintro e w1 ⟨rfl, rfl⟩)
          | (at_mapUpdate; refine wpList_open_put _ rfl _ _ _ rfl k rfl rfl rfl hW.opn hlt hn ?_; intro wg hog hgg))
        go_roundg (q.blocks.length - (k + 1))
        case measure => omega
        case rel => exact ⟨k + 1, by omega, by omega, by go_num, by rw [HU2]; exact WAt.open' hW hgg hog, hTW.trans (.right hgg)⟩
    · obtain rfl : k = q.blocks.length := by omega
      rw [upO_all] at hWr
      go_wp2
      go_loopg [2, 3] (cntO (reachO E 0 q.blocks.length) q.blocks.length) (fun g v2 v3 wn => ∃ (O' : Nat → Bool) (r : Option Nat), v2 = .int .i64 ((r.getD 0 : Nat) : Int) ∧ v3 = .bool r.isSome ∧ g = cntO O' q.blocks.length ∧ WAt z x a ap mb wn q vl vb us vss E O' ∧ Turn2 ap mb w wn ∧ Hid ((r = none ∧ ∃ k, k ≤ q.blocks.length ∧ O' = reachO E k q.blocks.length ∧ ans = firstSome (faultB q E) (q.blocks.length - k) k) ∨ (∃ n, r = some n ∧ O' = (fun _ => false) ∧ ans = some n)))
      case atStart => exact ⟨_, none, rfl, rfl, rfl, hWr, hTr, .inl ⟨rfl, 0, Nat.zero_le _, rfl, HF.out⟩⟩
      case round =>
        obtain ⟨O', r, rfl, rfl, hg, hWn, hTn, HX⟩ := hrel
        clear hWr hTr HF
        obtain ⟨c0, c1, c2⟩ := hWn.facts
        by_cases hc : cntO O' q.blocks.length = 0
        · have hci : ¬ (0 : Int) < (cntO O' q.blocks.length : Nat) := by omega
          have hans : Hid (ansOf ans = .tuple #[.int .i64 ((r.getD 0 : Nat) : Int), .bool r.isSome]) := by
            rcases HX.out with ⟨h1, k, hk, h2, h3⟩ | ⟨n, h1, h2, h3⟩
            · have : ans = none := by
                rw [h3]
                refine firstSome_all _ _ _ fun c hc1 hc2 => ?_
                have hcn : c < q.blocks.length := by omega
                have := cntO_zero _ hc c hcn
                rw [h2] at this
                exact reach_false this hc1 hcn q
              unfold Hid; rw [this, h1]; rfl
            · unfold Hid; rw [h3, h1]; rfl
          go_wp2_with (at_len; refine wpList_open_len _ rfl _ rfl rfl hWn.opn ?_)
          go_ret2
          exact ⟨by rw [hans.out]; rfl, hTn⟩
        · have hci : (0 : Int) < (cntO O' q.blocks.length : Nat) := by omega
          obtain ⟨k, hk, hO', HK⟩ : ∃ k, k ≤ q.blocks.length ∧ Hid (O' = reachO E k q.blocks.length) ∧ Hid (ans = firstSome (faultB q E) (q.blocks.length - k) k) := by
            rcases HX.out with ⟨h1, k, hk, h2, h3⟩ | ⟨n, h1, h2, h3⟩
            · exact ⟨k, hk, h2, h3⟩
            · exact absurd (cntO_none _ fun c _ => by rw [h2]) hc
          clear HX
          have KT := takeLeast_any hWn hn
          have KG := fun w1 b (hb : b < q.blocks.length) O1 (hW1 : WAt z x a ap mb w1 q vl vb us vss E O1) => faultIn_any hW1 b hb hn hls hq hlines
          have hlt : ∀ b, Least O' q.blocks.length b → b < q.blocks.length := fun b hl => by
            refine Nat.lt_of_le_of_ne hl.le (fun e => hc (cntO_none _ fun c hcl => hl.none c (by omega)))
          go_upto_region 9 with (first
            | (at_len; refine wpList_open_len _ rfl _ rfl rfl hWn.opn ?_)
            | (go_at_call 146; refine KT.mono ?_; rintro e w1 ⟨b, rfl, hb1, hW1, hT1⟩)
            | (go_at_call 145; refine (KG w1 b (hlt b hb1) _ hW1).mono ?_; rintro e w2 ⟨rfl, hB2⟩; obtain ⟨r1, hr1⟩ : ∃ r1, Hid (faultL q (q.blocks.getD b []) (E.getD b []) = r1) := ⟨_, rfl⟩; rw [hr1.out, ansOf_eq]))
          have hbl := hlt b hb1
          have hO1 : Hid (setO O' b false = reachO E (b + 1) q.blocks.length) := by
            unfold Hid; rw [hO'.out] at hb1 ⊢; exact reach_del hb1 hbl
          have hreach : k ≤ b ∧ ¬ E.getD b [] = zeroSt := by
            have := hb1.opn hbl; rw [hO'.out] at this
            exact ⟨(reach_true this).1, (reach_true this).2.2⟩
          have HKb : Hid (ans = firstSome (faultB q E) (q.blocks.length - b) b) := by
            unfold Hid
            rw [HK.out, show q.blocks.length - k = (b - k) + (q.blocks.length - b) by omega, firstSome_skip _ (b - k) _ k (fun c h1 h2 => ?_), show k + (b - k) = b by omega]
            have := hb1.none c (by omega)
            rw [hO'.out] at this
            exact reach_false this h1 (by omega) q
          have hfb : faultB q E b = faultL q (q.blocks.getD b []) (E.getD b []) := by rw [faultB, if_neg hreach.2]
          have HKc : Hid (ans = r1.or (firstSome (faultB q E) (q.blocks.length - (b + 1)) (b + 1))) := by
            unfold Hid
            rw [HKb.out, show q.blocks.length - b = (q.blocks.length - (b + 1)) + 1 by omega, firstSome, hfb.trans hr1.out]
          have hW2 := hW1.below hB2
          have hT2 := (hTn.trans hT1).on hB2
          have hcnt := cntO_del (hb1.opn hbl) q.blocks.length hbl
          clear KT KG hW1 HKb HK hfb c0 c1 c2
          clear hr1
          obtain ⟨c0, c1, c2⟩ := hW2.facts
          cases r1 with
          | none =>
            go_wp2
            go_roundg (cntO (setO O' b false) q.blocks.length)
            case measure => omega
            case rel => exact ⟨setO O' b false, none, rfl, rfl, rfl, hW2, hT2, .inl ⟨rfl, b + 1, by omega, hO1.out, HKc.out⟩⟩
          | some n =>
            obtain ⟨w3, hrun, ho3, hg3⟩ := run_clear hW2.opn
            have hW3 := WAt.open' hW2 hg3 ho3
            go_wp2
            go_roundg 0
            case measure => omega
            case rel => exact ⟨fun _ => false, some n, rfl, rfl, (cntO_none _ fun _ _ => rfl).symm, hW3, hT2.trans (.right hg3), .inr ⟨n, rfl, rfl, HKc.out⟩⟩
end
end Go.Proofs.YtmlgajhhnojdjaaGreatDoor.FlwQ
