/- A block gone through: goThrough. -/
import Derived.Test.YtmlgajhhnojdjaaGreatDoorBBD
import Derived.Deep.DeepCutAuto
namespace Go.Proofs.YtmlgajhhnojdjaaGreatDoor.FlwN
open Go Go.RowKit Go.Proofs.YtmlgajhhnojdjaaGreatDoor.Spec Go.Proofs.YtmlgajhhnojdjaaGreatDoor.Aux Go.Proofs.YtmlgajhhnojdjaaGreatDoor.PrjF Go.Proofs.YtmlgajhhnojdjaaGreatDoor.PrjG Go.Proofs.YtmlgajhhnojdjaaGreatDoor.PrjJ Go.Proofs.YtmlgajhhnojdjaaGreatDoor.PrjK Go.Proofs.YtmlgajhhnojdjaaGreatDoor.PrjL Go.Proofs.YtmlgajhhnojdjaaGreatDoor.PrjM Go.Proofs.YtmlgajhhnojdjaaGreatDoor.PrjO Go.Proofs.YtmlgajhhnojdjaaGreatDoor.PrjP Go.Proofs.YtmlgajhhnojdjaaGreatDoor.PrjQ Go.Proofs.YtmlgajhhnojdjaaGreatDoor.PrjS Go.Proofs.YtmlgajhhnojdjaaGreatDoor.PrjU Go.Proofs.YtmlgajhhnojdjaaGreatDoor.FlwA Go.Proofs.YtmlgajhhnojdjaaGreatDoor.FlwB Go.Proofs.YtmlgajhhnojdjaaGreatDoor.FlwC Go.Proofs.YtmlgajhhnojdjaaGreatDoor.FlwD Go.Proofs.YtmlgajhhnojdjaaGreatDoor.FlwE Go.Proofs.YtmlgajhhnojdjaaGreatDoor.FlwF Go.Proofs.YtmlgajhhnojdjaaGreatDoor.FlwG Go.Proofs.YtmlgajhhnojdjaaGreatDoor.FlwH Go.Proofs.YtmlgajhhnojdjaaGreatDoor.FlwI Go.Proofs.YtmlgajhhnojdjaaGreatDoor.FlwJ Go.Proofs.YtmlgajhhnojdjaaGreatDoor.FlwK Go.Proofs.YtmlgajhhnojdjaaGreatDoor.FlwL Go.Proofs.YtmlgajhhnojdjaaGreatDoor.FlwM
attribute [local go_sem ↓] wp_load_st wp_store_st

section
variable {z x a ap mb : Nat} {w w' : World} {q : QP} {vl vb : Value} {us : List Value} {vss : List (List (Value × Value))} {E : List (List Nat)} {O : Nat → Bool}
theorem WAt.line (h : WAt z x a ap mb w q vl vb us vss E O) {b i : Nat} (hb : b < q.blocks.length) (hi : i < (q.blocks.getD b []).length) {v1 v2 : Value} (hv : (vss.getD b []).getD i (undef, undef) = (v1, v2)) : LineAt z w ((q.blocks.getD b []).getD i QLine.nil) v1 v2 := by
  have := (h.prog.each b hb).each i hi
  rw [hv] at this; exact this
set_option maxRecDepth 20000 in
set_option maxHeartbeats 4000000 in
theorem goThrough_any (h : WAt z x a ap mb w q vl vb us vss E O) (b : Nat) (hb : b < q.blocks.length) (hn : q.blocks.length ≤ 4000) (hls : q.locals.length ≤ 12) (hq : QOk q.blocks.length q) (hlines : ∀ j, (q.blocks.getD j []).length ≤ 4000) :
    Calls Tryz.prog 189 #[.pointer (some ⟨x, 0, none⟩), .int .i64 (b : Nat)] w fun e w' => e = .returned (.tuple #[]) ∧ WAt z x a ap mb w' q vl vb us vss (goBlk q E O b).2.1 (goBlk q E O b).2.2 ∧ Turn2 ap mb w w' := by
  have htE : b < E.length := by rw [h.len]; exact hb
  have hE := h.row.ok htE
  have hapl := h.row.lt
  have hti : (b : Int) < (q.blocks.length : Nat) := by omega
  obtain ⟨c0, c1, c2⟩ := h.facts
  have has := h.row.has b htE
  have hof := h.row.of b htE
  have HG : Hid (goBlk q E O b = goLines q ((q.blocks.getD b []).drop 0) (E.getD b [], E, O)) := rfl
  have hZ : StAt (w.alloc (.cells #[.int .u8 0, .int .u8 0, .int .u8 0, .int .u8 0, .int .u8 0, .int .u8 0, .int .u8 0, .int .u8 0, .int .u8 0, .int .u8 0, .int .u8 0, .int .u8 0, .int .u8 0, .int .u8 0, .int .u8 0, .int .u8 0, .int .u8 0, .int .u8 0, .int .u8 0, .int .u8 0, .int .u8 0, .int .u8 0, .int .u8 0, .int .u8 0] 209)) w.heap.size zeroSt := StAt.new w (s := zeroSt) (by decide)
  have hbZ : Below w.heap.size w (w.alloc (.cells #[.int .u8 0, .int .u8 0, .int .u8 0, .int .u8 0, .int .u8 0, .int .u8 0, .int .u8 0, .int .u8 0, .int .u8 0, .int .u8 0, .int .u8 0, .int .u8 0, .int .u8 0, .int .u8 0, .int .u8 0, .int .u8 0, .int .u8 0, .int .u8 0, .int .u8 0, .int .u8 0, .int .u8 0, .int .u8 0, .int .u8 0, .int .u8 0] 209)) := (Below.refl _ _).alloc (Nat.le_refl _) _
  have hroom := StAt.room hZ
  have hist := isSt_of hE.len
  have hJ := StAt.store hZ hE.len
  have hbW : Below w.heap.size w ((w.alloc (.cells #[.int .u8 0, .int .u8 0, .int .u8 0, .int .u8 0, .int .u8 0, .int .u8 0, .int .u8 0, .int .u8 0, .int .u8 0, .int .u8 0, .int .u8 0, .int .u8 0, .int .u8 0, .int .u8 0, .int .u8 0, .int .u8 0, .int .u8 0, .int .u8 0, .int .u8 0, .int .u8 0, .int .u8 0, .int .u8 0, .int .u8 0, .int .u8 0] 209)).setCells w.heap.size 0 (stCells (E.getD b []))) := below_setCells hbZ (Nat.le_refl _) _ _
  have hW := h.below hbW
  generalize E.getD b [] = e0 at *
  clear hbZ hZ
  go_enter Tryz.func189, Tryz.ntmps189
  go_upto_region 1 with fail
  generalize ((w.alloc (.cells #[.int .u8 0, .int .u8 0, .int .u8 0, .int .u8 0, .int .u8 0, .int .u8 0, .int .u8 0, .int .u8 0, .int .u8 0, .int .u8 0, .int .u8 0, .int .u8 0, .int .u8 0, .int .u8 0, .int .u8 0, .int .u8 0, .int .u8 0, .int .u8 0, .int .u8 0, .int .u8 0, .int .u8 0, .int .u8 0, .int .u8 0, .int .u8 0] 209)).setCells w.heap.size 0 (stCells e0)) = W at *
  clear hroom has hof c0 c1 c2
  obtain ⟨c0, c1, c2⟩ := hW.facts
  obtain ⟨p0, p1, -, -⟩ := PAt.facts hW.prog
  obtain ⟨gb, cb, adk, ck, rfl, hcb, hgb, hcell, hus⟩ := blocks_cell2 hW.prog b hb
  have hln := hlines b
  have hok : ∀ l ∈ q.blocks.getD b [], LOk q.locals.length q.blocks.length l := hq.lines _ (by simp [hb])
  have hTW : Turn2 ap mb w W := .ofBelow hbW
  have hbne : w.heap.size ≠ ap := by omega
  have hBA : Hid (∀ wn E' O', WAt z x a ap mb wn q vl (.slice (some ⟨gb, 0, none⟩) q.blocks.length cb) us vss E' O' → BlockAt z wn (.slice adk (q.blocks.getD b []).length ck) (q.blocks.getD b []) (vss.getD b [])) := fun wn E' O' hwn => by
    have h1 := hwn.prog.each b hb
    rw [hus] at h1; exact h1
  have HL : Hid (∀ wn E' O', WAt z x a ap mb wn q vl (.slice (some ⟨gb, 0, none⟩) q.blocks.length cb) us vss E' O' → ∀ i, i < (q.blocks.getD b []).length → ∀ v1 v2, (vss.getD b []).getD i (undef, undef) = (v1, v2) → LineAt z wn ((q.blocks.getD b []).getD i QLine.nil) v1 v2) := fun wn E' O' hwn i hi v1 v2 hv => WAt.line hwn hb hi hv
  have HS : Hid (∀ i, i < (q.blocks.getD b []).length → ∀ t : St, goLines q ((q.blocks.getD b []).drop i) t = goLines q ((q.blocks.getD b []).drop (i + 1)) (goNext ((q.blocks.getD b []).getD i QLine.nil) ((q.blocks.getD b []).getD i QLine.nil).next 0 (passQ q ((q.blocks.getD b []).getD i QLine.nil) t.1, t.2))) := fun i hi t => goLines_step q _ i hi t
  generalize q.blocks.getD b [] = blk at *
  generalize vss.getD b [] = vsj at *
  have hmbl := h.opn.lt
  have hmbW := hW.opn.lt
  go_wp2
  go_loopg [27] (blk.length) (fun g v27 wr => ∃ (i : Nat) (s' : List Nat) (E' : List (List Nat)) (O' : Nat → Bool), i ≤ blk.length ∧ g + i = blk.length ∧ v27 = .int .i64 i ∧ WAt z x a ap mb wr q vl (.slice (some ⟨gb, 0, none⟩) q.blocks.length cb) us vss E' O' ∧ StAt wr w.heap.size s' ∧ SOk s' ∧ Turn2 ap mb w wr ∧ Hid (goBlk q E O b = goLines q (blk.drop i) (s', E', O')))
  case atStart => exact ⟨0, e0, E, O, Nat.zero_le _, rfl, rfl, hW, hJ, hE, hTW, HG⟩
  case round =>
    obtain ⟨i, s', E', O', hi, hgi, rfl, hWr, hSr, hso, hTr, HR⟩ := hrel
    clear hJ HG hW hbW hTW c0 c1 c2 p0 p1 hcell hist hE
    by_cases hli : i < blk.length
    · obtain ⟨gl, apl, cp, an, cn, rfl, -, hcl, hgl, k0, k1, k2, k3, k4, k5, hvs⟩ := block_cells2 (hBA.out wr E' O' hWr) i hli
      have hS : Hid (_ = _) := HS.out i hli (s', E', O')
      have HLi : Hid (∀ wn E' O', WAt z x a ap mb wn q vl (.slice (some ⟨gb, 0, none⟩) q.blocks.length cb) us vss E' O' → LineAt z wn (blk.getD i QLine.nil) (.slice apl (blk.getD i QLine.nil).places.length cp) (.slice an (blk.getD i QLine.nil).next.length cn)) := fun wn E' O' hwn => HL.out wn E' O' hwn i hli _ _ hvs
      have hl := hok (blk.getD i QLine.nil) (by simp [hli])
      clear hvs
      generalize blk.getD i QLine.nil = l at *
      have hbL : Below wr.heap.size wr (wr.alloc (.cells #[.int .i64 (l.num : Nat), .int .i64 (l.op : Nat), .slice apl l.places.length cp, .int .i64 l.number, .int .i64 l.flag, .slice an l.next.length cn] 115)) := (Below.refl _ _).alloc (Nat.le_refl _) _
      have hWL := hWr.below hbL
      have hSL := hSr.below hbL hSr.lt
      have hTL := hTr.on hbL
      have hlnL : (wr.alloc (.cells #[.int .i64 (l.num : Nat), .int .i64 (l.op : Nat), .slice apl l.places.length cp, .int .i64 l.number, .int .i64 l.flag, .slice an l.next.length cn] 115)).heap[wr.heap.size]? = some (.cells #[.int .i64 (l.num : Nat), .int .i64 (l.op : Nat), .slice apl l.places.length cp, .int .i64 l.number, .int .i64 l.flag, .slice an l.next.length cn] 115 (0, 0)) := Array.getElem?_push_size
      have hsr := hTr.size
      go_upto_region 4 with fail
      generalize (wr.alloc (.cells #[.int .i64 (l.num : Nat), .int .i64 (l.op : Nat), .slice apl l.places.length cp, .int .i64 l.number, .int .i64 l.flag, .slice an l.next.length cn] 115)) = WL at *
      clear k0 k1 k2 k3 k4 k5 hbL
      have hbd : Below WL.heap.size WL WL.drew := below_drewN (Below.refl _ _) 1
      have hWLd := hWL.below hbd
      have hSLd : StAt WL.drew w.heap.size s' := hSL
      have hlnLd : WL.drew.heap[wr.heap.size]? = some (.cells #[.int .i64 (l.num : Nat), .int .i64 (l.op : Nat), .slice apl l.places.length cp, .int .i64 l.number, .int .i64 l.flag, .slice an l.next.length cn] 115 (0, 0)) := hlnL
      have hTLd := hTL.on hbd
      obtain ⟨c0, c1, c2⟩ := hWL.facts
      have l0 := (cell_of_heap hlnL 0).trans (by rfl : _ = some (Value.int .i64 (l.num : Nat)))
      have l1 := (cell_of_heap hlnL 1).trans (by rfl : _ = some (Value.int .i64 (l.op : Nat)))
      have l2 := (cell_of_heap hlnL 2).trans (by rfl : _ = some (Value.slice apl l.places.length cp))
      have l3 := (cell_of_heap hlnL 3).trans (by rfl : _ = some (Value.int .i64 l.number))
      have l4 := (cell_of_heap hlnL 4).trans (by rfl : _ = some (Value.int .i64 l.flag))
      have l5 := (cell_of_heap hlnL 5).trans (by rfl : _ = some (Value.slice an l.next.length cn))
      have KP := pass_any q l q.blocks.length z a w.heap.size vl _ apl an cp cn s' WL.drew ⟨hWLd.prog.blk, ⟨_, hWLd.prog.locals⟩⟩ hls hl (HLi.out _ _ _ hWLd) hSLd hso.lt
      go_cut [6] (fun v6 wc => v6 = .pointer (some ⟨wr.heap.size, 0, none⟩) ∧ StAt wc w.heap.size (passQ q l s') ∧ Turn w.heap.size WL.drew wc)
      case first =>
        go_region_with (go_at_call 128; refine KP.mono ?_; rintro e w1 ⟨rfl, hS1, hT1⟩)
        all_goals go_wp2_with fail
        all_goals
          go_meet
          case rel => exact ⟨rfl, hS1, hT1⟩
      case rest =>
        obtain ⟨rfl, hS1, hT1⟩ := hcut
        have hW1 := hWLd.other hT1 hSLd hbne
        have hlt1 := lt_of_heap hlnLd
        have hwr : w.heap.size < wr.heap.size := hSr.lt
        have hln1 : wc.heap[wr.heap.size]? = some (.cells #[.int .i64 (l.num : Nat), .int .i64 (l.op : Nat), .slice apl l.places.length cp, .int .i64 l.number, .int .i64 l.flag, .slice an l.next.length cn] 115 (0, 0)) := (hT1.block _ hlt1 (by omega)).trans hlnLd
        have hT1' : Turn2 ap mb w wc := hTLd.since hT1 (Nat.le_refl _)
        have hso1 := passQ_ok q l hso
        have HR1 : Hid (goBlk q E O b = goLines q (blk.drop (i + 1)) (goNext l l.next 0 (passQ q l s', E', O'))) := HR.out.trans hS.out
        have l5 := (cell_of_heap hln1 5).trans (by rfl : _ = some (Value.slice an l.next.length cn))
        have hnl : l.next.length ≤ 3 := by
          rw [hl.nlen]
          have key : ∀ op : Fin 23, ((wantsOf op.val).filter (· == 98)).length ≤ 3 := by decide
          exact key ⟨l.op, hl.op⟩
        clear KP hS HR hWL hSL hTL hlnL hbd hWLd hSLd hlnLd hTLd c0 c1 c2 l0 l1 l2 l3 l4 hT1 hlt1 hso hSr hTr hWr hsr
        generalize passQ q l s' = s1 at *
        have HN0 : Hid (goNext l l.next 0 (s1, E', O') = goNext l (l.next.drop 0) 0 (s1, E', O')) := rfl
        clear l5
        have l5 := (cell_of_heap hln1 5).trans (by rfl : _ = some (Value.slice an l.next.length cn))
        clear hgl hcl
        generalize wr.heap.size = lb at *
        go_wp2
        go_loopg [40] (l.next.length) (fun g v40 wn => ∃ (j : Nat) (s2 : List Nat) (E2 : List (List Nat)) (O2 : Nat → Bool), j ≤ l.next.length ∧ g + j = l.next.length ∧ v40 = .int .i64 j ∧ WAt z x a ap mb wn q vl (.slice (some ⟨gb, 0, none⟩) q.blocks.length cb) us vss E2 O2 ∧ StAt wn w.heap.size s2 ∧ SOk s2 ∧ wn.heap[lb]? = some (.cells #[.int .i64 (l.num : Nat), .int .i64 (l.op : Nat), .slice apl l.places.length cp, .int .i64 l.number, .int .i64 l.flag, .slice an l.next.length cn] 115 (0, 0)) ∧ Turn2 ap mb w wn ∧ Hid (goNext l l.next 0 (s1, E', O') = goNext l (l.next.drop j) j (s2, E2, O2)))
        case atStart => exact ⟨0, s1, E', O', Nat.zero_le _, rfl, rfl, hW1, hS1, hso1, hln1, hT1', HN0⟩
        case round =>
          obtain ⟨j, s2, E2, O2, hj, hgj, rfl, hWn, hSn, hsn, hlnn, hTn, HN⟩ := hrel
          clear hW1 hS1 hso1 hln1 hT1' HN0 l5
          by_cases hlj : j < l.next.length
          · obtain ⟨gn, rfl, hcn, hgn, hcx⟩ := next_at (HLi.out _ _ _ hWn) j hlj
            have hnx : l.next.getD j 0 < q.blocks.length := hl.next _ (by rw [List.getD_eq_getElem?_getD, List.getElem?_eq_getElem hlj]; exact List.getElem_mem hlj)
            have hji : (j : Int) < (l.next.length : Nat) := by omega
            have hso3 := stepS_ok l j hsn
            have HNJ : Hid (_ = _) := HN.out.trans (goNext_step l l.next j hlj (s2, E2, O2))
            generalize l.next.getD j 0 = nx at *
            have m1 := (cell_of_heap hlnn 1).trans (by rfl : _ = some (Value.int .i64 (l.op : Nat)))
            have m2 := (cell_of_heap hlnn 2).trans (by rfl : _ = some (Value.slice apl l.places.length cp))
            have hltn := lt_of_heap hlnn
            by_cases h20 : l.op = 20
            · have b20 : (((l.op : Nat) : Int) == 20) = true := by rw [h20]; rfl
              have hlen : l.places.length = 1 := by rw [hl.plen, h20]; rfl
              obtain ⟨gp, rfl, hcp, hgp, d1, d2⟩ := place_at (HLi.out _ _ _ hWn) hlen 0 (by omega)
              have hx := (hl.places _ (getD_mem (j := 0) (by omega))).1
              have hst : Hid (stepS l j s2 = putL (if j = 0 then 4 else 2) [l.places.getD 0 (0, 0)] s2) := by unfold Hid; rw [stepS, if_pos h20]
              rw [hst.out] at HNJ hso3
              have e1 : wr.cell? ⟨gp, 0, none⟩ = some (.int .i64 ((l.places.getD 0 (0, 0)).1 : Nat)) := d1
              have e2 : wr.cell? ⟨gp, 1, none⟩ = some (.int .i64 ((l.places.getD 0 (0, 0)).2 : Nat)) := d2
              have hid : (0 : Int) < (l.places.length : Nat) := by omega
              clear d1 d2
              generalize l.places.getD 0 (0, 0) = y at *
              have hmay : (if j = 0 then 4 else 2 : Nat) < 16 := by split <;> decide
              have KM := matched_any j wr.drew
              have KMP := matched_any j (wr.alloc (.cells #[.int .i64 (y.1 : Nat), .int .i64 (y.2 : Nat)] 119)).drew
              generalize (if j = 0 then 4 else 2 : Nat) = may at *
              have hbP : Below wr.heap.size wr (wr.alloc (.cells #[.int .i64 (y.1 : Nat), .int .i64 (y.2 : Nat)] 119)) := (Below.refl _ _).alloc (Nat.le_refl _) _
              have hbPd : Below wr.heap.size wr (wr.alloc (.cells #[.int .i64 (y.1 : Nat), .int .i64 (y.2 : Nat)] 119)).drew := below_drewN hbP 1
              have hSP : StAt (wr.alloc (.cells #[.int .i64 (y.1 : Nat), .int .i64 (y.2 : Nat)] 119)).drew w.heap.size s2 := hSn.below hbPd hSn.lt
              have hWP := hWn.below hbPd
              have hTP := hTn.on hbPd
              have hlnP := (hbPd.block lb hltn).trans hlnn
              have hpl : PlacesAt wr.heap.size (wr.alloc (.cells #[.int .i64 (y.1 : Nat), .int .i64 (y.2 : Nat)] 119)).drew (.slice (some ⟨wr.heap.size, 0, none⟩) 1 1) [y] := place_one wr y (n := wr.heap.size) rfl
              have KP := put_any may w.heap.size _ 1 1 _ [y] s2 _ hSP hpl (fun v hv => by simp only [List.mem_singleton] at hv; subst hv; omega) hmay
              have hsz : (wr.alloc (.cells #[.int .i64 (y.1 : Nat), .int .i64 (y.2 : Nat)] 119)).heap.size = wr.heap.size + 1 := by simp
              rw [hlen] at *
              go_upto_region 9 with fail
              go_cut [7, 8] (fun v7 v8 wc => v7 = .int .i64 (j : Nat) ∧ v8 = .int .i64 (nx : Nat) ∧ StAt wc w.heap.size (putL may [y] s2) ∧ ∃ wp, WAt z x a ap mb wp q vl (.slice (some ⟨gb, 0, none⟩) q.blocks.length cb) us vss E2 O2 ∧ StAt wp w.heap.size s2 ∧ wp.heap[lb]? = some (.cells #[.int .i64 (l.num : Nat), .int .i64 (l.op : Nat), .slice (some ⟨gp, 0, none⟩) 1 cp, .int .i64 l.number, .int .i64 l.flag, .slice (some ⟨gn, 0, none⟩) l.next.length cn] 115 (0, 0)) ∧ Turn2 ap mb w wp ∧ Turn w.heap.size wp wc)
              case first =>
                go_region_with (first
                  | (go_at_call 177; refine KP.mono ?_; rintro e w2 ⟨rfl, hS2, hT2⟩)
                  | (go_at_call 218; refine KM.mono ?_; rintro e w2 ⟨rfl, rfl⟩)
                  | (go_at_call 218; refine KMP.mono ?_; rintro e w2 ⟨rfl, rfl⟩))
                all_goals go_wp2_with fail
                all_goals
                  go_meet
                  case rel => exact ⟨rfl, rfl, hS2, _, hWP, hSP, hlnP, hTP, hT2⟩
              case rest =>
                obtain ⟨rfl, rfl, hS2, wp, hWp, hSp, hlnp, hTp, hT2⟩ := hcut
                clear KM KMP KP hWP hSP hlnP hTP hbP hbPd hpl e1 e2 m1 m2 hsz
                have hW2 := hWp.other hT2 hSp hbne
                have hln2 := (hT2.block lb (lt_of_heap hlnp) (by omega)).trans hlnp
                have hT2' : Turn2 ap mb w wc := hTp.since hT2 (Nat.le_refl _)
                have j1 := StAt.has hS2
                have j2 := StAt.of hS2
                have KL := lead_any hW2 nx hnx hn _ hso3
                generalize putL may [y] s2 = s3 at *
                go_wp2_with (go_at_call 187; refine KL.mono ?_; rintro e w3 ⟨rfl, hW3, hT3⟩)
                go_roundg (l.next.length - (j + 1))
                case measure => omega
                case rel =>
                  refine ⟨j + 1, s3, _, _, by omega, by omega, by go_num, hW3, ⟨hS2.1, (hT3.block _ hS2.lt hbne (by omega)).trans hS2.2⟩, hso3, (hT3.block _ (lt_of_heap hln2) (by omega) (by omega)).trans hln2, hT2'.trans hT3, HNJ⟩
            · have b20 : (((l.op : Nat) : Int) == 20) = false := by rw [beq_eq_false_iff_ne]; omega
              have hst : Hid (stepS l j s2 = s2) := by unfold Hid; rw [stepS, if_neg h20]
              rw [hst.out] at HNJ
              have j1 := StAt.has hSn
              have j2 := StAt.of hSn
              have KL := lead_any hWn nx hnx hn s2 hsn
              go_wp2_with (go_at_call 187; refine KL.mono ?_; rintro e w3 ⟨rfl, hW3, hT3⟩)
              go_roundg (l.next.length - (j + 1))
              case measure => omega
              case rel =>
                refine ⟨j + 1, s2, _, _, by omega, by omega, by go_num, hW3, ⟨hSn.1, (hT3.block _ hSn.lt hbne (by omega)).trans hSn.2⟩, hsn, (hT3.block _ hltn (by omega) (by omega)).trans hlnn, hTn.trans hT3, HNJ⟩
          · go_wp2
            go_roundg (blk.length - (i + 1))
            case measure => omega
            case rel =>
              refine ⟨i + 1, s2, E2, O2, by omega, by omega, by go_num, hWn, hSn, hsn, hTn, ?_⟩
              have hnil : l.next.drop j = [] := List.drop_eq_nil_of_le (by omega)
              unfold Hid
              rw [HR1.out, HN.out, hnil]; rfl
    · go_wp2
      go_end0
      refine ⟨rfl, ?_, hTr⟩
      rw [HR.out, List.drop_eq_nil_of_le (by omega)]
      exact hWr
end
end Go.Proofs.YtmlgajhhnojdjaaGreatDoor.FlwN
/- All ways gone: they come to an end, as bits are only added; whatever holds from step to step holds at the end. -/
namespace Go.Proofs.YtmlgajhhnojdjaaGreatDoor.FlwO
open Go Go.RowKit Go.Proofs.YtmlgajhhnojdjaaGreatDoor.Spec Go.Proofs.YtmlgajhhnojdjaaGreatDoor.Aux Go.Proofs.YtmlgajhhnojdjaaGreatDoor.PrjF Go.Proofs.YtmlgajhhnojdjaaGreatDoor.PrjG Go.Proofs.YtmlgajhhnojdjaaGreatDoor.PrjJ Go.Proofs.YtmlgajhhnojdjaaGreatDoor.PrjK Go.Proofs.YtmlgajhhnojdjaaGreatDoor.PrjL Go.Proofs.YtmlgajhhnojdjaaGreatDoor.PrjM Go.Proofs.YtmlgajhhnojdjaaGreatDoor.PrjO Go.Proofs.YtmlgajhhnojdjaaGreatDoor.PrjP Go.Proofs.YtmlgajhhnojdjaaGreatDoor.PrjQ Go.Proofs.YtmlgajhhnojdjaaGreatDoor.PrjS Go.Proofs.YtmlgajhhnojdjaaGreatDoor.PrjU Go.Proofs.YtmlgajhhnojdjaaGreatDoor.FlwA Go.Proofs.YtmlgajhhnojdjaaGreatDoor.FlwB Go.Proofs.YtmlgajhhnojdjaaGreatDoor.FlwC Go.Proofs.YtmlgajhhnojdjaaGreatDoor.FlwD Go.Proofs.YtmlgajhhnojdjaaGreatDoor.FlwE Go.Proofs.YtmlgajhhnojdjaaGreatDoor.FlwF Go.Proofs.YtmlgajhhnojdjaaGreatDoor.FlwG Go.Proofs.YtmlgajhhnojdjaaGreatDoor.FlwH Go.Proofs.YtmlgajhhnojdjaaGreatDoor.FlwI Go.Proofs.YtmlgajhhnojdjaaGreatDoor.FlwJ Go.Proofs.YtmlgajhhnojdjaaGreatDoor.FlwK Go.Proofs.YtmlgajhhnojdjaaGreatDoor.FlwL Go.Proofs.YtmlgajhhnojdjaaGreatDoor.FlwM Go.Proofs.YtmlgajhhnojdjaaGreatDoor.FlwN

/-- what is missing of a state, from slot k on downwards -/
def missS (s : List Nat) : Nat → Nat
  | 0 => 0
  | k + 1 => missS s k + (15 - s.getD k 0)
def missE : List (List Nat) → Nat
  | [] => 0
  | s :: E => missS s 24 + missE E
theorem or_ge (a b : Nat) : a ≤ a ||| b := Nat.left_le_or
theorem joinS_getD {s t : List Nat} (hs : s.length = 24) (k : Nat) : (joinS s t).getD k 0 = if k < 24 then s.getD k 0 ||| t.getD k 0 else 0 := by
  unfold joinS
  rw [joinTo_getD, hs]
  by_cases h : k < 24
  · rw [if_pos h, if_pos h, if_pos h]
  · rw [if_neg h, if_neg h]
theorem miss_join {s t : List Nat} (hs : SOk s) (ht : SOk t) : ∀ n, n ≤ 24 → missS (joinS s t) n ≤ missS s n
  | 0, _ => Nat.le_refl _
  | n + 1, h => by
    have := miss_join hs ht n (by omega)
    unfold missS
    rw [joinS_getD hs.len, if_pos (by omega)]
    have := or_ge (s.getD n 0) (t.getD n 0)
    omega
theorem miss_less {s t : List Nat} (hs : SOk s) (ht : SOk t) : ∀ n, n ≤ 24 → (∃ k, k < n ∧ (joinS s t).getD k 0 ≠ s.getD k 0) → missS (joinS s t) n < missS s n
  | 0, _, ⟨k, hk, _⟩ => by omega
  | n + 1, h, ⟨k, hk, hne⟩ => by
    have h1 := miss_join hs ht n (by omega)
    unfold missS
    have h2 := or_ge (s.getD n 0) (t.getD n 0)
    have h3 := or_lt (hs.lt n) (ht.lt n)
    by_cases e : k = n
    · subst e
      rw [joinS_getD hs.len, if_pos (by omega)] at hne ⊢
      omega
    · have := miss_less hs ht n (by omega) ⟨k, by omega, hne⟩
      rw [joinS_getD hs.len, if_pos (by omega)]
      omega
theorem ext24 {s t : List Nat} (hs : s.length = 24) (ht : t.length = 24) (h : ∀ k, k < 24 → s.getD k 0 = t.getD k 0) : s = t := by
  apply List.ext_getElem?
  intro k
  by_cases hk : k < 24
  · have := h k hk
    rw [List.getD_eq_getElem?_getD, List.getD_eq_getElem?_getD, List.getElem?_eq_getElem (by omega), List.getElem?_eq_getElem (by omega)] at this
    rw [List.getElem?_eq_getElem (by omega), List.getElem?_eq_getElem (by omega)]
    simpa using this
  · rw [List.getElem?_eq_none (by omega), List.getElem?_eq_none (by omega)]
theorem joinS_len {s t : List Nat} (hs : s.length = 24) : (joinS s t).length = 24 := by unfold joinS; rw [joinTo_len]; exact hs
theorem join_ne {s t : List Nat} (hs : SOk s) (h : ¬ joinS s t = s) : ∃ k, k < 24 ∧ (joinS s t).getD k 0 ≠ s.getD k 0 := by
  refine Classical.byContradiction fun hc => h (ext24 (joinS_len hs.len) hs.len fun k hk => ?_)
  exact Classical.byContradiction fun hn => hc ⟨k, hk, hn⟩
theorem missE_set : ∀ (E : List (List Nat)) (i : Nat) (t : List Nat), i < E.length → missE (E.set i t) + missS (E.getD i []) 24 = missE E + missS t 24
  | [], _, _, h => by simp at h
  | s :: E, 0, t, _ => by simp [missE]; omega
  | s :: E, i + 1, t, h => by
    have := missE_set E i t (by simpa using h)
    simp only [List.set_cons_succ, missE, List.getD_cons_succ]
    omega
def EOk (E : List (List Nat)) : Prop := ∀ s ∈ E, SOk s
theorem EOk.at {E : List (List Nat)} (h : EOk E) {i : Nat} (hi : i < E.length) : SOk (E.getD i []) := h _ (getD_in hi)
theorem joinS_ok {s t : List Nat} (hs : SOk s) (ht : SOk t) : SOk (joinS s t) := joinTo_ok hs ht 24
theorem leadE_len (E : List (List Nat)) (n : Nat) (s : List Nat) : (leadE E n s).length = E.length := by unfold leadE; split <;> simp
theorem leadE_ok {E : List (List Nat)} (hE : EOk E) {n : Nat} (hn : n < E.length) {s : List Nat} (hs : SOk s) : EOk (leadE E n s) := by
  unfold leadE; split
  · exact hE
  · intro t ht
    rcases List.mem_or_eq_of_mem_set ht with h | h
    · exact hE t h
    · rw [h]; exact joinS_ok (hE.at hn) hs
def meas (E : List (List Nat)) (O : Nat → Bool) (N : Nat) : Nat := 2 * missE E + cntO O N
theorem lead_meas {E : List (List Nat)} {O : Nat → Bool} {N n : Nat} (hE : EOk E) (hN : E.length = N) (hn : n < N) {s : List Nat} (hs : SOk s) : meas (leadE E n s) (leadO E O n s) N ≤ meas E O N := by
  unfold leadE leadO meas
  split
  · exact Nat.le_refl _
  · rename_i hj
    have h0 := hE.at (i := n) (by omega)
    have h1 := missE_set E n (joinS (E.getD n []) s) (by omega)
    have h2 := miss_less h0 hs 24 (Nat.le_refl _) (join_ne h0 hj)
    have h3 : cntO (setO O n true) N ≤ cntO O N + 1 := by
      cases hO : O n with
      | true => rw [setO_same hO]; omega
      | false => rw [cntO_set hO N hn]; omega
    omega
/-- what holds of all states is kept -/
structure StOk (N : Nat) (t : St) : Prop where
  s : SOk t.1
  e : EOk t.2.1
  len : t.2.1.length = N
theorem goNext_ok {N : Nat} (l : QLine) : ∀ (ns : List Nat) (i : Nat) (t : St), (∀ n ∈ ns, n < N) → StOk N t → StOk N (goNext l ns i t) ∧ meas (goNext l ns i t).2.1 (goNext l ns i t).2.2 N ≤ meas t.2.1 t.2.2 N
  | [], _, t, _, h => ⟨h, Nat.le_refl _⟩
  | n :: ns, i, t, hn, h => by
    have hs := stepS_ok l i h.s
    have hnn := hn n (List.mem_cons_self ..)
    have := goNext_ok l ns (i + 1) (stepS l i t.1, leadE t.2.1 n (stepS l i t.1), leadO t.2.1 t.2.2 n (stepS l i t.1)) (fun m hm => hn m (List.mem_cons_of_mem _ hm))
      ⟨hs, leadE_ok h.e (by rw [h.len]; exact hnn) hs, by rw [← h.len]; exact leadE_len _ _ _⟩
    exact ⟨this.1, Nat.le_trans this.2 (lead_meas h.e h.len hnn hs)⟩
theorem goLines_ok {N : Nat} (q : QP) : ∀ (ls : List QLine) (t : St), (∀ l ∈ ls, ∀ n ∈ l.next, n < N) → StOk N t → StOk N (goLines q ls t) ∧ meas (goLines q ls t).2.1 (goLines q ls t).2.2 N ≤ meas t.2.1 t.2.2 N
  | [], t, _, h => ⟨h, Nat.le_refl _⟩
  | l :: ls, t, hn, h => by
    have h1 := goNext_ok l l.next 0 (passQ q l t.1, t.2) (hn l (List.mem_cons_self ..)) ⟨passQ_ok q l h.s, h.e, h.len⟩
    have h2 := goLines_ok q ls _ (fun m hm => hn m (List.mem_cons_of_mem _ hm)) h1.1
    exact ⟨h2.1, Nat.le_trans h2.2 h1.2⟩
theorem startSt_ok : SOk startSt := ⟨by decide, fun k => by
  unfold startSt
  rw [List.getD_eq_getElem?_getD, List.getElem?_replicate]
  split <;> simp⟩
section
variable {z x a ap mb : Nat} {w w' : World} {q : QP} {vl vb : Value} {us : List Value} {vss : List (List (Value × Value))} {E : List (List Nat)} {O : Nat → Bool}
theorem blk_next (hq : QOk q.blocks.length q) {b : Nat} (hb : b < q.blocks.length) : ∀ l ∈ q.blocks.getD b [], ∀ n ∈ l.next, n < q.blocks.length := fun l hl =>
  (hq.lines (q.blocks.getD b []) (by simp [hb]) l hl).next
set_option maxRecDepth 20000 in
set_option maxHeartbeats 2000000 in
theorem follow_any (h : WAt z x a ap mb w q vl vb us vss E O) (h0 : 0 < q.blocks.length) (hn : q.blocks.length ≤ 4000) (hls : q.locals.length ≤ 12) (hq : QOk q.blocks.length q) (hlines : ∀ j, (q.blocks.getD j []).length ≤ 4000)
    (I : List (List Nat) → (Nat → Bool) → Prop) (hI0 : I (leadE E 0 startSt) (leadO E O 0 startSt))
    (hI : ∀ E O b, EOk E → E.length = q.blocks.length → b < q.blocks.length → O b = true → I E O → I (goBlk q E (setO O b false) b).2.1 (goBlk q E (setO O b false) b).2.2) :
    Calls Tryz.prog 144 #[.pointer (some ⟨x, 0, none⟩)] w fun e w' => e = .returned (.tuple #[]) ∧ ∃ E' O', WAt z x a ap mb w' q vl vb us vss E' O' ∧ I E' O' ∧ (∀ b, O' b = false) ∧ Turn2 ap mb w w' := by
  have KS := start_any w
  have hxl := h.lt
  have KL := fun w1 (hb : Below w.heap.size w w1) => lead_any (h.below hb) 0 h0 hn startSt startSt_ok
  have HI0 : Hid (I (leadE E 0 startSt) (leadO E O 0 startSt)) := hI0
  have HI : Hid (∀ E O b, EOk E → E.length = q.blocks.length → b < q.blocks.length → O b = true → I E O → I (goBlk q E (setO O b false) b).2.1 (goBlk q E (setO O b false) b).2.2) := hI
  clear hI0 hI
  go_enter Tryz.func144, Tryz.ntmps144
  go_wp2_with (first
    | (go_at_call 188; refine KS.mono ?_; rintro e w1 ⟨rfl, hb1⟩)
    | (go_at_call 187; refine (KL w1 hb1).mono ?_; rintro e w2 ⟨rfl, hW2, hT2⟩))
  go_loopg [5] (meas (leadE E 0 startSt) (leadO E O 0 startSt) q.blocks.length) (fun g _ wr => ∃ (E' : List (List Nat)) (O' : Nat → Bool), g = meas E' O' q.blocks.length ∧ WAt z x a ap mb wr q vl vb us vss E' O' ∧ Hid (I E' O') ∧ Turn2 ap mb w wr)
  case atStart => exact ⟨_, _, rfl, hW2, HI0, (Turn2.ofBelow hb1).trans hT2⟩
  case round =>
    obtain ⟨E', O', hgm, hWr, HIr, hTr⟩ := hrel
    clear KS KL hW2 hb1 hT2
    obtain ⟨c0, c1, c2⟩ := hWr.facts
    by_cases hc : cntO O' q.blocks.length = 0
    · have hci : ¬ (0 : Int) < (cntO O' q.blocks.length : Nat) := by omega
      have hnone : ∀ b, O' b = false := fun b => by
        by_cases hb : b < q.blocks.length
        · exact cntO_zero _ hc b hb
        · cases hO : O' b with
          | false => rfl
          | true => exact absurd (hWr.opn.bound hO) hb
      go_wp2_with (at_len; refine wpList_open_len _ rfl _ rfl rfl hWr.opn ?_)
      go_end0
      exact ⟨rfl, E', O', hWr, HIr.out, hnone, hTr⟩
    · have hci : (0 : Int) < (cntO O' q.blocks.length : Nat) := by omega
      have KT := takeLeast_any hWr hn
      have KG := fun w1 b (hb : b < q.blocks.length) O1 (hW1 : WAt z x a ap mb w1 q vl vb us vss E' O1) => goThrough_any hW1 b hb hn hls hq hlines
      have hlt : ∀ b, Least O' q.blocks.length b → b < q.blocks.length := fun b hl => by
        refine Nat.lt_of_le_of_ne hl.le (fun e => hc (cntO_none _ fun c hcl => hl.none c (by omega)))
      go_wp2_with (first
        | (at_len; refine wpList_open_len _ rfl _ rfl rfl hWr.opn ?_)
        | (go_at_call 146; refine KT.mono ?_; rintro e w1 ⟨b, rfl, hb1, hW1, hT1⟩)
        | (go_at_call 189; refine (KG w1 b (hlt b hb1) _ hW1).mono ?_; rintro e w2 ⟨rfl, hW2, hT2⟩))
      go_roundg (meas (goBlk q E' (setO O' b false) b).2.1 (goBlk q E' (setO O' b false) b).2.2 q.blocks.length)
      case measure =>
        have hbl := hlt b hb1
        have h1 := (goLines_ok q (q.blocks.getD b []) (E'.getD b [], E', setO O' b false) (blk_next hq hbl) ⟨hWr.row.ok (by rw [hWr.len]; exact hbl), hWr.row.1, hWr.len⟩).2
        have h2 := cntO_del (hb1.opn hbl) q.blocks.length hbl
        unfold meas at h1 hgm
        unfold goBlk meas
        simp only at h1
        omega
      case rel =>
        have hbl := hlt b hb1
        exact ⟨_, _, rfl, hW2, HI.out E' O' b hWr.row.1 hWr.len hbl (hb1.opn hbl) HIr.out, (hTr.trans hT1).trans hT2⟩
end
end Go.Proofs.YtmlgajhhnojdjaaGreatDoor.FlwO
