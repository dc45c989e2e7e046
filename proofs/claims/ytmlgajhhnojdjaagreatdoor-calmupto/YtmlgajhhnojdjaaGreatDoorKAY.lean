/- What a line makes of a state: Pass. -/
import Derived.Test.YtmlgajhhnojdjaaGreatDoorKAX
namespace Go.Proofs.YtmlgajhhnojdjaaGreatDoor.FlwG
open Go Go.RowKit Go.Proofs.YtmlgajhhnojdjaaGreatDoor.Spec Go.Proofs.YtmlgajhhnojdjaaGreatDoor.Aux Go.Proofs.YtmlgajhhnojdjaaGreatDoor.PrjF Go.Proofs.YtmlgajhhnojdjaaGreatDoor.PrjG Go.Proofs.YtmlgajhhnojdjaaGreatDoor.PrjJ Go.Proofs.YtmlgajhhnojdjaaGreatDoor.PrjK Go.Proofs.YtmlgajhhnojdjaaGreatDoor.PrjL Go.Proofs.YtmlgajhhnojdjaaGreatDoor.PrjM Go.Proofs.YtmlgajhhnojdjaaGreatDoor.PrjN Go.Proofs.YtmlgajhhnojdjaaGreatDoor.PrjO Go.Proofs.YtmlgajhhnojdjaaGreatDoor.PrjP Go.Proofs.YtmlgajhhnojdjaaGreatDoor.PrjR Go.Proofs.YtmlgajhhnojdjaaGreatDoor.PrjS Go.Proofs.YtmlgajhhnojdjaaGreatDoor.PrjT Go.Proofs.YtmlgajhhnojdjaaGreatDoor.FlwA Go.Proofs.YtmlgajhhnojdjaaGreatDoor.FlwB Go.Proofs.YtmlgajhhnojdjaaGreatDoor.FlwC Go.Proofs.YtmlgajhhnojdjaaGreatDoor.FlwD Go.Proofs.YtmlgajhhnojdjaaGreatDoor.FlwE Go.Proofs.YtmlgajhhnojdjaaGreatDoor.FlwF
attribute [local go_sem ↓] wp_load_st wp_store_st

def isPut (op : Nat) : Bool := op == 2 || op == 3 || op == 4 || op == 5 || op == 6 || op == 7 || op == 10 || op == 9 || op == 14
def passQ (q : QP) (l : QLine) (s : List Nat) : List Nat :=
  if isPut l.op = true then putL 2 [l.places.getD 0 (0, 0)] (takeQ q l s)
  else if l.op = 12 then putL (movedL q (l.places.getD 1 (0, 0)) s) (QP.halvesQ q (l.places.getD 0 (0, 0))) (takeQ q l s)
  else if l.op = 13 then putL 4 [l.places.getD 0 (0, 0)] (takeQ q l s)
  else if l.op = 15 then takeL (QP.halvesQ q (l.places.getD 0 (0, 0))) (takeQ q l s)
  else takeQ q l s
theorem getD_mem {ps : List (Nat × Nat)} {j : Nat} (h : j < ps.length) : ps.getD j (0, 0) ∈ ps := by
  rw [List.getD_eq_getElem?_getD, List.getElem?_eq_getElem h]; exact List.getElem_mem h
/-- how many places a line has -/
theorem some_places {nl nb : Nat} {l : QLine} (h : LOk nl nb l) (ho : isPut l.op = true ∨ l.op = 12 ∨ l.op = 13 ∨ l.op = 15) : 1 ≤ l.places.length := by
  rw [h.plen]
  have key : ∀ op : Fin 23, (isPut op.val = true ∨ op.val = 12 ∨ op.val = 13 ∨ op.val = 15) → 1 ≤ ((wantsOf op.val).filter isPlc).length := by decide
  exact key ⟨l.op, h.op⟩ ho
set_option maxRecDepth 20000 in
set_option maxHeartbeats 2000000 in
theorem pass_any (q : QP) (l : QLine) (nb z a b : Nat) (v u : Value) (ap an : Option Addr) (cp cn : Nat) (s : List Nat) (w : World) (hp : PQ w a q v u) (hls : q.locals.length ≤ 12) (hl : LOk q.locals.length nb l)
    (hA : LineAt z w l (.slice ap l.places.length cp) (.slice an l.next.length cn)) (hs : StAt w b s) (hv : ∀ k, s.getD k 0 < 16) :
    Calls Tryz.prog 128 #[.pointer (some ⟨b, 0, none⟩), .pointer (some ⟨a, 0, none⟩), .agg #[.int .i64 (l.num : Nat), .int .i64 (l.op : Nat), .slice ap l.places.length cp, .int .i64 l.number, .int .i64 l.flag, .slice an l.next.length cn]] w fun e w' => e = .returned (.tuple #[]) ∧ StAt w' b (passQ q l s) ∧ Turn b w w' := by
  have hbA : Below w.heap.size w (w.alloc (.cells #[.int .i64 (l.num : Nat), .int .i64 (l.op : Nat), .slice ap l.places.length cp, .int .i64 l.number, .int .i64 l.flag, .slice an l.next.length cn] 115)) := (Below.refl _ _).alloc (Nat.le_refl _) _
  have hsA := hs.below hbA hs.lt
  have hasA := StAt.has hsA
  have hofA := StAt.of hsA
  have hszA : (w.alloc (.cells #[.int .i64 (l.num : Nat), .int .i64 (l.op : Nat), .slice ap l.places.length cp, .int .i64 l.number, .int .i64 l.flag, .slice an l.next.length cn] 115)).heap.size = w.heap.size + 1 := by simp
  have hZ : StAt ((w.alloc (.cells #[.int .i64 (l.num : Nat), .int .i64 (l.op : Nat), .slice ap l.places.length cp, .int .i64 l.number, .int .i64 l.flag, .slice an l.next.length cn] 115)).alloc (.cells #[.int .u8 0, .int .u8 0, .int .u8 0, .int .u8 0, .int .u8 0, .int .u8 0, .int .u8 0, .int .u8 0, .int .u8 0, .int .u8 0, .int .u8 0, .int .u8 0, .int .u8 0, .int .u8 0, .int .u8 0, .int .u8 0, .int .u8 0, .int .u8 0, .int .u8 0, .int .u8 0, .int .u8 0, .int .u8 0, .int .u8 0, .int .u8 0] 209)) (w.heap.size + 1) zeroSt := by
    rw [← hszA]; exact StAt.new (w.alloc (.cells #[.int .i64 (l.num : Nat), .int .i64 (l.op : Nat), .slice ap l.places.length cp, .int .i64 l.number, .int .i64 l.flag, .slice an l.next.length cn] 115)) (s := zeroSt) (by decide)
  have hroom := StAt.room hZ
  have hist := isSt_of hs.1
  have hW2 := StAt.store hZ hs.1
  have hbB : Below w.heap.size w ((w.alloc (.cells #[.int .i64 (l.num : Nat), .int .i64 (l.op : Nat), .slice ap l.places.length cp, .int .i64 l.number, .int .i64 l.flag, .slice an l.next.length cn] 115)).alloc (.cells #[.int .u8 0, .int .u8 0, .int .u8 0, .int .u8 0, .int .u8 0, .int .u8 0, .int .u8 0, .int .u8 0, .int .u8 0, .int .u8 0, .int .u8 0, .int .u8 0, .int .u8 0, .int .u8 0, .int .u8 0, .int .u8 0, .int .u8 0, .int .u8 0, .int .u8 0, .int .u8 0, .int .u8 0, .int .u8 0, .int .u8 0, .int .u8 0] 209)) := hbA.alloc hbA.size _
  have hbW : Below w.heap.size w (((w.alloc (.cells #[.int .i64 (l.num : Nat), .int .i64 (l.op : Nat), .slice ap l.places.length cp, .int .i64 l.number, .int .i64 l.flag, .slice an l.next.length cn] 115)).alloc (.cells #[.int .u8 0, .int .u8 0, .int .u8 0, .int .u8 0, .int .u8 0, .int .u8 0, .int .u8 0, .int .u8 0, .int .u8 0, .int .u8 0, .int .u8 0, .int .u8 0, .int .u8 0, .int .u8 0, .int .u8 0, .int .u8 0, .int .u8 0, .int .u8 0, .int .u8 0, .int .u8 0, .int .u8 0, .int .u8 0, .int .u8 0, .int .u8 0] 209)).setCells (w.heap.size + 1) 0 (stCells s)) := below_setCells hbB (by omega) _ _
  have hlnW : (((w.alloc (.cells #[.int .i64 (l.num : Nat), .int .i64 (l.op : Nat), .slice ap l.places.length cp, .int .i64 l.number, .int .i64 l.flag, .slice an l.next.length cn] 115)).alloc (.cells #[.int .u8 0, .int .u8 0, .int .u8 0, .int .u8 0, .int .u8 0, .int .u8 0, .int .u8 0, .int .u8 0, .int .u8 0, .int .u8 0, .int .u8 0, .int .u8 0, .int .u8 0, .int .u8 0, .int .u8 0, .int .u8 0, .int .u8 0, .int .u8 0, .int .u8 0, .int .u8 0, .int .u8 0, .int .u8 0, .int .u8 0, .int .u8 0] 209)).setCells (w.heap.size + 1) 0 (stCells s)).heap[w.heap.size]? = some (.cells #[.int .i64 (l.num : Nat), .int .i64 (l.op : Nat), .slice ap l.places.length cp, .int .i64 l.number, .int .i64 l.flag, .slice an l.next.length cn] 115 (0, 0)) := by
    rw [heap_setCells_other _ _ _ _ _ (by omega), ((Below.refl (w.heap.size + 1) (w.alloc (.cells #[.int .i64 (l.num : Nat), .int .i64 (l.op : Nat), .slice ap l.places.length cp, .int .i64 l.number, .int .i64 l.flag, .slice an l.next.length cn] 115))).alloc (by omega) _).block w.heap.size (by omega)]
    exact Array.getElem?_push_size
  clear hszA
  go_enter Tryz.func128, Tryz.ntmps128
  go_upto_region 2 with fail
  generalize (((w.alloc (.cells #[.int .i64 (l.num : Nat), .int .i64 (l.op : Nat), .slice ap l.places.length cp, .int .i64 l.number, .int .i64 l.flag, .slice an l.next.length cn] 115)).alloc (.cells #[.int .u8 0, .int .u8 0, .int .u8 0, .int .u8 0, .int .u8 0, .int .u8 0, .int .u8 0, .int .u8 0, .int .u8 0, .int .u8 0, .int .u8 0, .int .u8 0, .int .u8 0, .int .u8 0, .int .u8 0, .int .u8 0, .int .u8 0, .int .u8 0, .int .u8 0, .int .u8 0, .int .u8 0, .int .u8 0, .int .u8 0, .int .u8 0] 209)).setCells (w.heap.size + 1) 0 (stCells s)) = W at *
  have hblt := hs.lt
  have l0 := (cell_of_heap hlnW 0).trans (by rfl : _ = some (Value.int .i64 (l.num : Nat)))
  have l1 := (cell_of_heap hlnW 1).trans (by rfl : _ = some (Value.int .i64 (l.op : Nat)))
  have l2 := (cell_of_heap hlnW 2).trans (by rfl : _ = some (Value.slice ap l.places.length cp))
  have l3 := (cell_of_heap hlnW 3).trans (by rfl : _ = some (Value.int .i64 l.number))
  have l4 := (cell_of_heap hlnW 4).trans (by rfl : _ = some (Value.int .i64 l.flag))
  have l5 := (cell_of_heap hlnW 5).trans (by rfl : _ = some (Value.slice an l.next.length cn))
  have hpW := hp.below hbW
  have hAW := hA.below hbW
  have hsW := hs.below hbW hblt
  have KT := take_line q l nb z a b v u ap an cp cn s W hpW hls hl hAW hsW
  clear hasA hofA hroom hist hZ
  go_upto_region 5 with (go_at_call 125; refine KT.mono ?_; rintro e w1 ⟨rfl, hS1, hT1⟩; have hln1 : w1.heap[w.heap.size]? = _ := (hT1.block w.heap.size (lt_of_heap hlnW) (by omega)).trans hlnW; have m1 := (cell_of_heap hln1 1).trans (by rfl : _ = some (Value.int .i64 (l.op : Nat))); have m2 := (cell_of_heap hln1 2).trans (by rfl : _ = some (Value.slice ap l.places.length cp)))
  have hW1 : StAt w1 (w.heap.size + 1) s := ⟨hW2.1, (hT1.block (w.heap.size + 1) hW2.lt (by omega)).trans hW2.2⟩
  have hp1 := hpW.turn hT1 hsW
  have hA1 := line_turn hAW hT1 hsW
  have hTW : Turn b w w1 := (Turn.of hbW).trans hT1
  clear l0 l1 l2 l3 l4 l5 KT hW2 hlnW
  by_cases hput : isPut l.op = true
  · have hn1 := some_places hl (.inl hput)
    obtain ⟨g, rfl, hcp, hg, c1, c2⟩ := place_at hA1 rfl 0 (by omega)
    have hx := (hl.places _ (getD_mem (j := 0) (by omega))).1
    have hr : Hid (passQ q l s = putL 2 [l.places.getD 0 (0, 0)] (takeQ q l s)) := by unfold Hid; rw [passQ, if_pos hput]
    have d1 : w1.cell? ⟨g, 0, none⟩ = some (.int .i64 ((l.places.getD 0 (0, 0)).1 : Nat)) := c1
    have d2 : w1.cell? ⟨g, 1, none⟩ = some (.int .i64 ((l.places.getD 0 (0, 0)).2 : Nat)) := c2
    have hid : (0 : Int) < (l.places.length : Nat) := by omega
    clear c1 c2
    generalize l.places.getD 0 (0, 0) = x at *
    have hbP : Below w1.heap.size w1 (w1.alloc (.cells #[.int .i64 (x.1 : Nat), .int .i64 (x.2 : Nat)] 119)) := (Below.refl _ _).alloc (Nat.le_refl _) _
    have KP := put_any 2 b _ 1 1 _ [x] (takeQ q l s) _ (hS1.below hbP hS1.lt) (place_one w1 x (n := w1.heap.size) rfl) (fun y hy => by simp only [List.mem_singleton] at hy; subst hy; omega) (by decide)
    generalize takeQ q l s = t at *
    have hops : l.op = 2 ∨ l.op = 3 ∨ l.op = 4 ∨ l.op = 5 ∨ l.op = 6 ∨ l.op = 7 ∨ l.op = 10 ∨ l.op = 9 ∨ l.op = 14 := by
      simp only [isPut, Bool.or_eq_true, beq_iff_eq] at hput; omega
    clear hput
    rcases hops with h | h | h | h | h | h | h | h | h
    all_goals
      rw [h]
      have HO : Hid (_ = _) := h
      clear h
      go_wp2_with (go_at_call 177; refine KP.mono ?_; rintro e w2 ⟨rfl, hS2, hT2⟩)
      go_end0
      exact ⟨rfl, by rw [hr.out]; exact hS2, (hTW.on hbP).trans hT2⟩
  · by_cases h13 : l.op = 13
    · have hn1 := some_places hl (.inr (.inr (.inl h13)))
      obtain ⟨g, rfl, hcp, hg, c1, c2⟩ := place_at hA1 rfl 0 (by omega)
      have hx := (hl.places _ (getD_mem (j := 0) (by omega))).1
      have hr : Hid (passQ q l s = putL 4 [l.places.getD 0 (0, 0)] (takeQ q l s)) := by unfold Hid; rw [passQ, if_neg hput, if_neg (by omega), if_pos h13]
      have d1 : w1.cell? ⟨g, 0, none⟩ = some (.int .i64 ((l.places.getD 0 (0, 0)).1 : Nat)) := c1
      have d2 : w1.cell? ⟨g, 1, none⟩ = some (.int .i64 ((l.places.getD 0 (0, 0)).2 : Nat)) := c2
      have hid : (0 : Int) < (l.places.length : Nat) := by omega
      clear c1 c2
      generalize l.places.getD 0 (0, 0) = x at *
      have hbP : Below w1.heap.size w1 (w1.alloc (.cells #[.int .i64 (x.1 : Nat), .int .i64 (x.2 : Nat)] 119)) := (Below.refl _ _).alloc (Nat.le_refl _) _
      have KP := put_any 4 b _ 1 1 _ [x] (takeQ q l s) _ (hS1.below hbP hS1.lt) (place_one w1 x (n := w1.heap.size) rfl) (fun y hy => by simp only [List.mem_singleton] at hy; subst hy; omega) (by decide)
      generalize takeQ q l s = t at *
      clear hput
      rw [h13]
      have HO : Hid (_ = _) := h13
      clear h13
      go_wp2_with (go_at_call 177; refine KP.mono ?_; rintro e w2 ⟨rfl, hS2, hT2⟩)
      go_end0
      exact ⟨rfl, by rw [hr.out]; exact hS2, (hTW.on hbP).trans hT2⟩
    · by_cases h15 : l.op = 15
      · have hn1 := some_places hl (.inr (.inr (.inr h15)))
        obtain ⟨g, rfl, hcp, hg, c1, c2⟩ := place_at hA1 rfl 0 (by omega)
        have hx := (hl.places _ (getD_mem (j := 0) (by omega))).1
        have hr : Hid (passQ q l s = takeL (QP.halvesQ q (l.places.getD 0 (0, 0))) (takeQ q l s)) := by unfold Hid; rw [passQ, if_neg hput, if_neg (by omega), if_neg h13, if_pos h15]
        have d1 : w1.cell? ⟨g, 0, none⟩ = some (.int .i64 ((l.places.getD 0 (0, 0)).1 : Nat)) := c1
        have d2 : w1.cell? ⟨g, 1, none⟩ = some (.int .i64 ((l.places.getD 0 (0, 0)).2 : Nat)) := c2
        have hid : (0 : Int) < (l.places.length : Nat) := by omega
        clear c1 c2
        generalize l.places.getD 0 (0, 0) = x at *
        have KH := halves_any q x v u a w1 hp1.blk hp1.loc hx
        generalize takeQ q l s = t at *
        have KT := fun (W' : World) (g c : Nat) (hb : Below w1.heap.size w1 W') (z : Nat) (hP : PlacesAt z W' (.slice (some ⟨g, 0, none⟩) (QP.halvesQ q x).length c) (QP.halvesQ q x)) => take_any b z _ c _ (QP.halvesQ q x) t W' (hS1.below hb hS1.lt) hP (halves_in (by omega))
        clear hput h13
        rw [h15]
        have HO : Hid (_ = _) := h15
        clear h15
        go_wp2_with (first
          | (go_at_call 102; refine KH.mono ?_; rintro e w2 ⟨g2, c2, rfl, hP2, hb2⟩)
          | (go_at_call 174; refine (KT w2 g2 c2 hb2 _ hP2).mono ?_; rintro e w3 ⟨rfl, hS3, hT3⟩))
        go_end0
        exact ⟨rfl, by rw [hr.out]; exact hS3, (hTW.on hb2).trans hT3⟩
      · by_cases h12 : l.op = 12
        · have hlen : l.places.length = 2 := by rw [hl.plen, h12]; rfl
          obtain ⟨g, rfl, hcp, hg, c1, c2⟩ := place_at hA1 hlen 0 (by omega)
          obtain ⟨g', e, -, -, c3, c4⟩ := place_at hA1 hlen 1 (by omega)
          simp only [Option.some.injEq, Addr.mk.injEq, and_true] at e
          subst e
          have hx := (hl.places _ (getD_mem (j := 0) (by omega))).1
          have hy := (hl.places _ (getD_mem (j := 1) (by omega))).1
          have hr : Hid (passQ q l s = putL (movedL q (l.places.getD 1 (0, 0)) s) (QP.halvesQ q (l.places.getD 0 (0, 0))) (takeQ q l s)) := by unfold Hid; rw [passQ, if_neg hput, if_pos h12]
          have HC : Hid (∀ w', Below w1.heap.size w1 w' → w'.cell? ⟨g, 0, none⟩ = some (.int .i64 ((l.places.getD 0 (0, 0)).1 : Nat)) ∧ w'.cell? ⟨g, 1, none⟩ = some (.int .i64 ((l.places.getD 0 (0, 0)).2 : Nat)) ∧ w'.cell? ⟨g, 2, none⟩ = some (.int .i64 ((l.places.getD 1 (0, 0)).1 : Nat)) ∧ w'.cell? ⟨g, 3, none⟩ = some (.int .i64 ((l.places.getD 1 (0, 0)).2 : Nat))) := fun w' hb =>
            ⟨(hb.cell (p := ⟨g, 0, none⟩) hg).trans c1, (hb.cell (p := ⟨g, 1, none⟩) hg).trans c2, (hb.cell (p := ⟨g, 2, none⟩) hg).trans c3, (hb.cell (p := ⟨g, 3, none⟩) hg).trans c4⟩
          clear c1 c2 c3 c4
          have hmv : movedL q (l.places.getD 1 (0, 0)) s < 16 := by
            unfold movedL; split
            · exact hv _
            · decide
          generalize l.places.getD 0 (0, 0) = x at *
          generalize l.places.getD 1 (0, 0) = y at *
          have hbd : Below w1.heap.size w1 w1.drew := ⟨rfl, rfl, rfl, Nat.le_refl _, fun _ _ => rfl⟩
          have KH := fun w' (hb : Below w1.heap.size w1 w') => halves_any q x v u a w' (hp1.below hb).blk (hp1.below hb).loc hx
          have KM := fun w' (hb : Below w1.heap.size w1 w') => moved_any q (w.heap.size + 1) y s v u a w' (hp1.below hb).blk (hp1.below hb).loc (by omega) hy (hW1.below hb hW1.lt) (by omega)
          obtain ⟨mv, hmvv⟩ : ∃ mv, mv = movedL q y s := ⟨_, rfl⟩
          rw [← hmvv] at KM hmv hr
          generalize takeQ q l s = t at *
          have KP := fun (W' : World) (g c : Nat) (hb : Below w1.heap.size w1 W') (z : Nat) (hP : PlacesAt z W' (.slice (some ⟨g, 0, none⟩) (QP.halvesQ q x).length c) (QP.halvesQ q x)) => put_any mv b z _ c _ (QP.halvesQ q x) t W' (hS1.below hb hS1.lt) hP (halves_in (by omega)) hmv
          obtain ⟨d0, d1, d2, d3⟩ := HC.out w1 (Below.refl _ _)
          have KMd := KM w1.drew hbd
          have KHd := KH w1.drew hbd
          clear hput h13 h15 hmvv
          rw [h12]
          have HO : Hid (_ = _) := h12
          rw [hlen]
          clear h12
          go_upto_region 16 with fail
          go_region_with (first
            | (go_at_call 177; refine (KP whA gA cA hbA2 _ hPA).mono ?_; rintro e w4 ⟨rfl, hS4, hT4⟩; have hTT := (hTW.on hbA2).trans hT4)
            | (go_at_call 177; refine (KP wmB gB cB hbB2 _ (own_below hPB hmB)).mono ?_; rintro e w4 ⟨rfl, hS4, hT4⟩; have hTT := (hTW.on hbB2).trans hT4)
            | (go_at_call 102; refine (KH wmA hbA1).mono ?_; rintro e whA ⟨gA, cA, rfl, hPA, hhA⟩; have hbA2 := hbA1.trans (hhA.mono hbA1.size); obtain ⟨d0A2, d1A2, d2A2, d3A2⟩ := HC.out whA hbA2)
            | (go_at_call 178; refine (KM whB hbB1).mono ?_; rintro e wmB ⟨rfl, hmB⟩; have hbB2 := hbB1.trans (hmB.mono hbB1.size); obtain ⟨d0B2, d1B2, d2B2, d3B2⟩ := HC.out wmB hbB2)
            | (go_at_call 178; refine KMd.mono ?_; rintro e wmA ⟨rfl, hmA⟩; have hbA1 : Below w1.heap.size w1 wmA := ⟨hmA.os, hmA.tape, hmA.output, hmA.size, hmA.block⟩; obtain ⟨d0A, d1A, d2A, d3A⟩ := HC.out wmA hbA1)
            | (go_at_call 102; refine KHd.mono ?_; rintro e whB ⟨gB, cB, rfl, hPB, hhB⟩; have hbB1 : Below w1.heap.size w1 whB := ⟨hhB.os, hhB.tape, hhB.output, hhB.size, hhB.block⟩; obtain ⟨d0B, d1B, d2B, d3B⟩ := HC.out whB hbB1))
          all_goals go_wp2_with fail
          all_goals
            go_end0
            exact ⟨rfl, by rw [hr.out]; exact hS4, hTT⟩
        · have hr : Hid (passQ q l s = takeQ q l s) := by unfold Hid; rw [passQ, if_neg hput, if_neg h12, if_neg h13, if_neg h15]
          have hops : l.op = 8 ∨ l.op = 11 ∨ l.op = 16 ∨ l.op = 17 ∨ l.op = 18 ∨ l.op = 19 ∨ l.op = 20 ∨ l.op = 21 ∨ l.op = 22 := by
            have h1 := hl.op; have h2 := hl.op2
            simp only [isPut, Bool.or_eq_true, beq_iff_eq] at hput; omega
          generalize takeQ q l s = t at *
          clear hput h12 h13 h15
          rcases hops with h | h | h | h | h | h | h | h | h
          all_goals
            rw [h]
            have HO : Hid (_ = _) := h
            clear h
            go_wp2
            go_end0
            exact ⟨rfl, by rw [hr.out]; exact hS1, hTW⟩
end Go.Proofs.YtmlgajhhnojdjaaGreatDoor.FlwG
/- Whether a line needs what may not be there. -/
namespace Go.Proofs.YtmlgajhhnojdjaaGreatDoor.FlwH
open Go Go.RowKit Go.Proofs.YtmlgajhhnojdjaaGreatDoor.Spec Go.Proofs.YtmlgajhhnojdjaaGreatDoor.Aux Go.Proofs.YtmlgajhhnojdjaaGreatDoor.PrjF Go.Proofs.YtmlgajhhnojdjaaGreatDoor.PrjG Go.Proofs.YtmlgajhhnojdjaaGreatDoor.PrjJ Go.Proofs.YtmlgajhhnojdjaaGreatDoor.PrjK Go.Proofs.YtmlgajhhnojdjaaGreatDoor.PrjL Go.Proofs.YtmlgajhhnojdjaaGreatDoor.PrjM Go.Proofs.YtmlgajhhnojdjaaGreatDoor.PrjN Go.Proofs.YtmlgajhhnojdjaaGreatDoor.PrjO Go.Proofs.YtmlgajhhnojdjaaGreatDoor.PrjP Go.Proofs.YtmlgajhhnojdjaaGreatDoor.PrjR Go.Proofs.YtmlgajhhnojdjaaGreatDoor.PrjS Go.Proofs.YtmlgajhhnojdjaaGreatDoor.PrjT Go.Proofs.YtmlgajhhnojdjaaGreatDoor.FlwA Go.Proofs.YtmlgajhhnojdjaaGreatDoor.FlwB Go.Proofs.YtmlgajhhnojdjaaGreatDoor.FlwC Go.Proofs.YtmlgajhhnojdjaaGreatDoor.FlwD Go.Proofs.YtmlgajhhnojdjaaGreatDoor.FlwE Go.Proofs.YtmlgajhhnojdjaaGreatDoor.FlwF Go.Proofs.YtmlgajhhnojdjaaGreatDoor.FlwG

def QLine.at (l : QLine) (j : Nat) : Nat × Nat := l.places.getD j (0, 0)
def faultyQ (q : QP) (l : QLine) (s : List Nat) : Bool :=
  if l.op = 3 ∨ l.op = 4 ∨ l.op = 5 ∨ l.op = 6 then lacksL 2 [QLine.at l 1, QLine.at l 2] s
  else if l.op = 8 ∨ l.op = 19 ∨ l.op = 22 then lacksL 2 [QLine.at l 0] s
  else if l.op = 9 then lacksL 2 [QLine.at l 1] s || shutL (QLine.at l 0) s
  else if l.op = 10 ∨ l.op = 14 then lacksL 2 [QLine.at l 1] s
  else if l.op = 11 then lacksL 2 [QLine.at l 0, QLine.at l 1] s
  else if l.op = 12 then stuckL q (QLine.at l 1) s || shutL (QLine.at l 0) s
  else if l.op = 15 then shutL (QLine.at l 0) s
  else if l.op = 20 then lacksL 6 [QLine.at l 0] s
  else false
theorem below_undrew {z : Nat} {w w' : World} (h : Below z w.drew w') : Below z w w' := ⟨h.os, h.tape, h.output, h.size, h.block⟩
section
variable {w : World} {b : Nat} {s : List Nat}
theorem lacks_one (fit : Nat) (x : Nat × Nat) {n : Nat} (hs : StAt w b s) (hn : w.heap.size = n) (hx : x.1 < 12) (hv : ∀ k, s.getD k 0 < 16) (hfit : fit = 2 ∨ fit = 6 ∨ fit = 10) :
    Calls Tryz.prog 219 #[.pointer (some ⟨b, 0, none⟩), .int .u8 (fit : Nat), .slice (some ⟨n, 0, none⟩) 1 1] (w.alloc (.cells #[.int .i64 (x.1 : Nat), .int .i64 (x.2 : Nat)] 119)) fun e w' => e = .returned (.bool (lacksL fit [x] s)) ∧ Below w.heap.size w w' :=
  (lacks_any fit b n 1 1 _ [x] s _ (hs.below ((Below.refl _ _).alloc (Nat.le_refl _) _) hs.lt) (place_one w x hn) (fun y hy => by simp only [List.mem_singleton] at hy; subst hy; exact hx) hv hfit).mono fun e w' ⟨h1, h2⟩ => ⟨h1, ((Below.refl w.heap.size w).alloc (Nat.le_refl _) _).trans (h2.mono (by simp))⟩
theorem lacks_two (fit : Nat) (x y : Nat × Nat) {n : Nat} (hs : StAt w b s) (hn : w.heap.size = n) (hx : x.1 < 12) (hy : y.1 < 12) (hv : ∀ k, s.getD k 0 < 16) (hfit : fit = 2 ∨ fit = 6 ∨ fit = 10) :
    Calls Tryz.prog 219 #[.pointer (some ⟨b, 0, none⟩), .int .u8 (fit : Nat), .slice (some ⟨n, 0, none⟩) 2 2] (w.alloc (.cells #[.int .i64 (x.1 : Nat), .int .i64 (x.2 : Nat), .int .i64 (y.1 : Nat), .int .i64 (y.2 : Nat)] 119)).drew fun e w' => e = .returned (.bool (lacksL fit [x, y] s)) ∧ Below w.heap.size w w' := by
  have hp : PlacesAt n (w.alloc (.cells #[.int .i64 (x.1 : Nat), .int .i64 (x.2 : Nat), .int .i64 (y.1 : Nat), .int .i64 (y.2 : Nat)] 119)).drew (.slice (some ⟨n, 0, none⟩) 2 2) [x, y] := place_two w x y hn
  have hs' : StAt (w.alloc (.cells #[.int .i64 (x.1 : Nat), .int .i64 (x.2 : Nat), .int .i64 (y.1 : Nat), .int .i64 (y.2 : Nat)] 119)).drew b s := (hs.below ((Below.refl w.heap.size w).alloc (Nat.le_refl _) (.cells #[.int .i64 (x.1 : Nat), .int .i64 (x.2 : Nat), .int .i64 (y.1 : Nat), .int .i64 (y.2 : Nat)] 119)) hs.lt : StAt (w.alloc (.cells #[.int .i64 (x.1 : Nat), .int .i64 (x.2 : Nat), .int .i64 (y.1 : Nat), .int .i64 (y.2 : Nat)] 119)) b s)
  exact (lacks_any fit b n 2 2 _ [x, y] s _ hs' hp (fun z hz => by simp only [List.mem_cons, List.not_mem_nil, or_false] at hz; exact hz.elim (fun e => e ▸ hx) (fun e => e ▸ hy)) hv hfit).mono fun e w' ⟨h1, h2⟩ => ⟨h1, ((Below.refl w.heap.size w).alloc (Nat.le_refl _) _).trans ((below_undrew h2).mono (by simp))⟩
end
set_option maxRecDepth 20000 in
set_option maxHeartbeats 4000000 in
theorem faulty_any (q : QP) (l : QLine) (nb z a b : Nat) (v u : Value) (ap an : Option Addr) (cp cn : Nat) (s : List Nat) (w : World) (hp : PQ w a q v u) (hls : q.locals.length ≤ 12) (hl : LOk q.locals.length nb l)
    (hA : LineAt z w l (.slice ap l.places.length cp) (.slice an l.next.length cn)) (hs : StAt w b s) (hv : ∀ k, s.getD k 0 < 16) :
    Calls Tryz.prog 190 #[.pointer (some ⟨b, 0, none⟩), .pointer (some ⟨a, 0, none⟩), .agg #[.int .i64 (l.num : Nat), .int .i64 (l.op : Nat), .slice ap l.places.length cp, .int .i64 l.number, .int .i64 l.flag, .slice an l.next.length cn]] w fun e w' => e = .returned (.bool (faultyQ q l s)) ∧ Below w.heap.size w w' := by
  have hop1 := hl.op
  have hop2 := hl.op2
  have hlt := hs.lt
  have hbA : Below w.heap.size w (w.alloc (.cells #[.int .i64 (l.num : Nat), .int .i64 (l.op : Nat), .slice ap l.places.length cp, .int .i64 l.number, .int .i64 l.flag, .slice an l.next.length cn] 115)) := (Below.refl _ _).alloc (Nat.le_refl _) _
  have hsA := hs.below hbA hlt
  have hpA := hp.below hbA
  have hAA := hA.below hbA
  go_enter Tryz.func190, Tryz.ntmps190
  go_upto_region 3 with fail
  generalize (w.alloc (.cells #[.int .i64 (l.num : Nat), .int .i64 (l.op : Nat), .slice ap l.places.length cp, .int .i64 l.number, .int .i64 l.flag, .slice an l.next.length cn] 115)) = W at *
  by_cases hg : l.op = 3 ∨ l.op = 4 ∨ l.op = 5 ∨ l.op = 6
  · have hlen : l.places.length = 3 := by rcases hg with h | h | h | h <;> (rw [hl.plen, h]; rfl)
    have hr : Hid (faultyQ q l s = lacksL 2 [QLine.at l 1, QLine.at l 2] s) := by unfold Hid; rcases hg with h | h | h | h <;> simp [faultyQ, h]
    obtain ⟨g, rfl, hcp, hgg, c1, e1⟩ := place_at hAA hlen 1 (by omega)
    have hx1 := (hl.places _ (getD_mem (j := 1) (by omega))).1
    obtain ⟨g', e, -, -, c2, e2⟩ := place_at hAA hlen 2 (by omega)
    simp only [Option.some.injEq, Addr.mk.injEq, and_true] at e
    subst e
    have hx2 := (hl.places _ (getD_mem (j := 2) (by omega))).1
    have d1 : W.cell? ⟨g, 2, none⟩ = some (.int .i64 ((QLine.at l 1).1 : Nat)) := c1
    have f1 : W.cell? ⟨g, 3, none⟩ = some (.int .i64 ((QLine.at l 1).2 : Nat)) := e1
    change (QLine.at l 1).1 < _ at hx1
    have d2 : W.cell? ⟨g, 4, none⟩ = some (.int .i64 ((QLine.at l 2).1 : Nat)) := c2
    have f2 : W.cell? ⟨g, 5, none⟩ = some (.int .i64 ((QLine.at l 2).2 : Nat)) := e2
    change (QLine.at l 2).1 < _ at hx2
    clear c1 e1 c2 e2
    generalize QLine.at l 1 = x1 at *
    generalize QLine.at l 2 = x2 at *
    have K := lacks_two 2 x1 x2 hsA rfl (by omega) (by omega) hv (by simp)
    generalize lacksL 2 [x1, x2] s = r at *
    rw [hlen]
    rcases hg with h | h | h | h
    all_goals
      rw [h]
      have HO : Hid (_ = _) := h
      clear h
      go_upto_region 7 with fail
      go_region_with (go_at_call 219; refine K.mono ?_; rintro e w1 ⟨rfl, hb1⟩)
      all_goals go_wp2_with fail
      all_goals
        go_ret
        exact ⟨by rw [hr.out]; rfl, hbA.trans (hb1.mono hbA.size)⟩
  · by_cases hg : l.op = 8 ∨ l.op = 19 ∨ l.op = 22
    · have hlen : l.places.length = 1 := by rcases hg with h | h | h <;> (rw [hl.plen, h]; rfl)
      have hr : Hid (faultyQ q l s = lacksL 2 [QLine.at l 0] s) := by unfold Hid; rcases hg with h | h | h <;> simp [faultyQ, h]
      obtain ⟨g, rfl, hcp, hgg, c0, e0⟩ := place_at hAA hlen 0 (by omega)
      have hx0 := (hl.places _ (getD_mem (j := 0) (by omega))).1
      have d0 : W.cell? ⟨g, 0, none⟩ = some (.int .i64 ((QLine.at l 0).1 : Nat)) := c0
      have f0 : W.cell? ⟨g, 1, none⟩ = some (.int .i64 ((QLine.at l 0).2 : Nat)) := e0
      change (QLine.at l 0).1 < _ at hx0
      clear c0 e0
      generalize QLine.at l 0 = x0 at *
      have K := lacks_one 2 x0 hsA rfl (by omega) hv (by simp)
      generalize lacksL 2 [x0] s = r at *
      rw [hlen]
      rcases hg with h | h | h
      all_goals
        rw [h]
        have HO : Hid (_ = _) := h
        clear h
        go_wp2_with (go_at_call 219; refine K.mono ?_; rintro e w1 ⟨rfl, hb1⟩)
        go_ret
        exact ⟨by rw [hr.out]; rfl, hbA.trans (hb1.mono hbA.size)⟩
    · by_cases hg : l.op = 10 ∨ l.op = 14
      · have hlen : l.places.length = 2 := by rcases hg with h | h <;> (rw [hl.plen, h]; rfl)
        have hr : Hid (faultyQ q l s = lacksL 2 [QLine.at l 1] s) := by unfold Hid; rcases hg with h | h <;> simp [faultyQ, h]
        obtain ⟨g, rfl, hcp, hgg, c1, e1⟩ := place_at hAA hlen 1 (by omega)
        have hx1 := (hl.places _ (getD_mem (j := 1) (by omega))).1
        have d1 : W.cell? ⟨g, 2, none⟩ = some (.int .i64 ((QLine.at l 1).1 : Nat)) := c1
        have f1 : W.cell? ⟨g, 3, none⟩ = some (.int .i64 ((QLine.at l 1).2 : Nat)) := e1
        change (QLine.at l 1).1 < _ at hx1
        clear c1 e1
        generalize QLine.at l 1 = x1 at *
        have K := lacks_one 2 x1 hsA rfl (by omega) hv (by simp)
        generalize lacksL 2 [x1] s = r at *
        rw [hlen]
        rcases hg with h | h
        all_goals
          rw [h]
          have HO : Hid (_ = _) := h
          clear h
          go_wp2_with (go_at_call 219; refine K.mono ?_; rintro e w1 ⟨rfl, hb1⟩)
          go_ret
          exact ⟨by rw [hr.out]; rfl, hbA.trans (hb1.mono hbA.size)⟩
      · by_cases hg : l.op = 11
        · have hlen : l.places.length = 2 := by rw [hl.plen, hg]; rfl
          have hr : Hid (faultyQ q l s = lacksL 2 [QLine.at l 0, QLine.at l 1] s) := by unfold Hid; simp [faultyQ, hg]
          obtain ⟨g, rfl, hcp, hgg, c0, e0⟩ := place_at hAA hlen 0 (by omega)
          have hx0 := (hl.places _ (getD_mem (j := 0) (by omega))).1
          obtain ⟨g', e, -, -, c1, e1⟩ := place_at hAA hlen 1 (by omega)
          simp only [Option.some.injEq, Addr.mk.injEq, and_true] at e
          subst e
          have hx1 := (hl.places _ (getD_mem (j := 1) (by omega))).1
          have d0 : W.cell? ⟨g, 0, none⟩ = some (.int .i64 ((QLine.at l 0).1 : Nat)) := c0
          have f0 : W.cell? ⟨g, 1, none⟩ = some (.int .i64 ((QLine.at l 0).2 : Nat)) := e0
          change (QLine.at l 0).1 < _ at hx0
          have d1 : W.cell? ⟨g, 2, none⟩ = some (.int .i64 ((QLine.at l 1).1 : Nat)) := c1
          have f1 : W.cell? ⟨g, 3, none⟩ = some (.int .i64 ((QLine.at l 1).2 : Nat)) := e1
          change (QLine.at l 1).1 < _ at hx1
          clear c0 e0 c1 e1
          generalize QLine.at l 0 = x0 at *
          generalize QLine.at l 1 = x1 at *
          have K := lacks_two 2 x0 x1 hsA rfl (by omega) (by omega) hv (by simp)
          generalize lacksL 2 [x0, x1] s = r at *
          rw [hlen]
          rw [hg]
          have HO : Hid (_ = _) := hg
          clear hg
          go_upto_region 18 with fail
          go_region_with (go_at_call 219; refine K.mono ?_; rintro e w1 ⟨rfl, hb1⟩)
          all_goals go_wp2_with fail
          all_goals
            go_ret
            exact ⟨by rw [hr.out]; rfl, hbA.trans (hb1.mono hbA.size)⟩
        · by_cases hg : l.op = 15
          · have hlen : l.places.length = 1 := by rw [hl.plen, hg]; rfl
            have hr : Hid (faultyQ q l s = shutL (QLine.at l 0) s) := by unfold Hid; simp [faultyQ, hg]
            obtain ⟨g, rfl, hcp, hgg, c0, e0⟩ := place_at hAA hlen 0 (by omega)
            have hx0 := (hl.places _ (getD_mem (j := 0) (by omega))).1
            have d0 : W.cell? ⟨g, 0, none⟩ = some (.int .i64 ((QLine.at l 0).1 : Nat)) := c0
            have f0 : W.cell? ⟨g, 1, none⟩ = some (.int .i64 ((QLine.at l 0).2 : Nat)) := e0
            change (QLine.at l 0).1 < _ at hx0
            clear c0 e0
            generalize QLine.at l 0 = x0 at *
            have K := shut_any b x0 s _ hsA (by omega) hv
            generalize shutL x0 s = r at *
            rw [hlen]
            rw [hg]
            have HO : Hid (_ = _) := hg
            clear hg
            go_wp2_with (go_at_call 220; refine K.mono ?_; rintro e w1 ⟨rfl, hb1⟩)
            go_ret
            exact ⟨by rw [hr.out]; rfl, hbA.trans (hb1.mono hbA.size)⟩
          · by_cases hg : l.op = 20
            · have hlen : l.places.length = 1 := by rw [hl.plen, hg]; rfl
              have hr : Hid (faultyQ q l s = lacksL 6 [QLine.at l 0] s) := by unfold Hid; simp [faultyQ, hg]
              obtain ⟨g, rfl, hcp, hgg, c0, e0⟩ := place_at hAA hlen 0 (by omega)
              have hx0 := (hl.places _ (getD_mem (j := 0) (by omega))).1
              have d0 : W.cell? ⟨g, 0, none⟩ = some (.int .i64 ((QLine.at l 0).1 : Nat)) := c0
              have f0 : W.cell? ⟨g, 1, none⟩ = some (.int .i64 ((QLine.at l 0).2 : Nat)) := e0
              change (QLine.at l 0).1 < _ at hx0
              clear c0 e0
              generalize QLine.at l 0 = x0 at *
              have K := lacks_one 6 x0 hsA rfl (by omega) hv (by simp)
              generalize lacksL 6 [x0] s = r at *
              rw [hlen]
              rw [hg]
              have HO : Hid (_ = _) := hg
              clear hg
              go_wp2_with (go_at_call 219; refine K.mono ?_; rintro e w1 ⟨rfl, hb1⟩)
              go_ret
              exact ⟨by rw [hr.out]; rfl, hbA.trans (hb1.mono hbA.size)⟩
            · by_cases hg : l.op = 9
              · have hlen : l.places.length = 2 := by rw [hl.plen, hg]; rfl
                have hr : Hid (faultyQ q l s = (lacksL 2 [QLine.at l 1] s || shutL (QLine.at l 0) s)) := by unfold Hid; simp [faultyQ, hg]
                obtain ⟨g, rfl, hcp, hgg, c0, e0⟩ := place_at hAA hlen 0 (by omega)
                have hx0 := (hl.places _ (getD_mem (j := 0) (by omega))).1
                obtain ⟨g', e, -, -, c1, e1⟩ := place_at hAA hlen 1 (by omega)
                simp only [Option.some.injEq, Addr.mk.injEq, and_true] at e
                subst e
                have hx1 := (hl.places _ (getD_mem (j := 1) (by omega))).1
                have d0 : W.cell? ⟨g, 0, none⟩ = some (.int .i64 ((QLine.at l 0).1 : Nat)) := c0
                have f0 : W.cell? ⟨g, 1, none⟩ = some (.int .i64 ((QLine.at l 0).2 : Nat)) := e0
                change (QLine.at l 0).1 < _ at hx0
                have d1 : W.cell? ⟨g, 2, none⟩ = some (.int .i64 ((QLine.at l 1).1 : Nat)) := c1
                have f1 : W.cell? ⟨g, 3, none⟩ = some (.int .i64 ((QLine.at l 1).2 : Nat)) := e1
                change (QLine.at l 1).1 < _ at hx1
                clear c0 e0 c1 e1
                generalize QLine.at l 0 = x0 at *
                generalize QLine.at l 1 = x1 at *
                have K := lacks_one 2 x1 hsA rfl (by omega) hv (by simp)
                have K2 := fun W' (hb : Below W.heap.size W W') => shut_any b x0 s W' (hsA.below hb hsA.lt) (by omega) hv
                have HC : Hid (∀ W', Below W.heap.size W W' → W'.cell? ⟨g, 0, none⟩ = some (.int .i64 (x0.1 : Nat)) ∧ W'.cell? ⟨g, 1, none⟩ = some (.int .i64 (x0.2 : Nat))) := fun W' hb => ⟨(hb.cell (p := ⟨g, 0, none⟩) hgg).trans d0, (hb.cell (p := ⟨g, 1, none⟩) hgg).trans f0⟩
                generalize lacksL 2 [x1] s = r at *
                generalize shutL x0 s = r2 at *
                rw [hlen]
                rw [hg]
                have HO : Hid (_ = _) := hg
                clear hg
                cases r with
                | true =>
                  go_wp2_with (go_at_call 219; refine K.mono ?_; rintro e w1 ⟨rfl, hb1⟩)
                  go_ret
                  exact ⟨by rw [hr.out]; rfl, hbA.trans (hb1.mono hbA.size)⟩
                | false =>
                  go_wp2_with (first | (go_at_call 219; refine K.mono ?_; rintro e w1 ⟨rfl, hb1⟩; obtain ⟨y0, y1⟩ := HC.out w1 hb1) | (go_at_call 220; refine (K2 w1 hb1).mono ?_; rintro e w2 ⟨rfl, hb2⟩))
                  go_ret
                  exact ⟨by rw [hr.out]; rfl, (hbA.trans (hb1.mono hbA.size)).trans (hb2.mono (hbA.trans (hb1.mono hbA.size)).size)⟩
              · by_cases hg : l.op = 12
                · have hlen : l.places.length = 2 := by rw [hl.plen, hg]; rfl
                  have hr : Hid (faultyQ q l s = (stuckL q (QLine.at l 1) s || shutL (QLine.at l 0) s)) := by unfold Hid; simp [faultyQ, hg]
                  obtain ⟨g, rfl, hcp, hgg, c0, e0⟩ := place_at hAA hlen 0 (by omega)
                  have hx0 := (hl.places _ (getD_mem (j := 0) (by omega))).1
                  obtain ⟨g', e, -, -, c1, e1⟩ := place_at hAA hlen 1 (by omega)
                  simp only [Option.some.injEq, Addr.mk.injEq, and_true] at e
                  subst e
                  have hx1 := (hl.places _ (getD_mem (j := 1) (by omega))).1
                  have d0 : W.cell? ⟨g, 0, none⟩ = some (.int .i64 ((QLine.at l 0).1 : Nat)) := c0
                  have f0 : W.cell? ⟨g, 1, none⟩ = some (.int .i64 ((QLine.at l 0).2 : Nat)) := e0
                  change (QLine.at l 0).1 < _ at hx0
                  have d1 : W.cell? ⟨g, 2, none⟩ = some (.int .i64 ((QLine.at l 1).1 : Nat)) := c1
                  have f1 : W.cell? ⟨g, 3, none⟩ = some (.int .i64 ((QLine.at l 1).2 : Nat)) := e1
                  change (QLine.at l 1).1 < _ at hx1
                  clear c0 e0 c1 e1
                  generalize QLine.at l 0 = x0 at *
                  generalize QLine.at l 1 = x1 at *
                  have K := stuck_any q b x1 s v u a _ hpA.blk hpA.loc (by omega) hx1 hsA (by omega) hv
                  have K2 := fun W' (hb : Below W.heap.size W W') => shut_any b x0 s W' (hsA.below hb hsA.lt) (by omega) hv
                  have HC : Hid (∀ W', Below W.heap.size W W' → W'.cell? ⟨g, 0, none⟩ = some (.int .i64 (x0.1 : Nat)) ∧ W'.cell? ⟨g, 1, none⟩ = some (.int .i64 (x0.2 : Nat))) := fun W' hb => ⟨(hb.cell (p := ⟨g, 0, none⟩) hgg).trans d0, (hb.cell (p := ⟨g, 1, none⟩) hgg).trans f0⟩
                  generalize stuckL q x1 s = r at *
                  generalize shutL x0 s = r2 at *
                  rw [hlen]
                  rw [hg]
                  have HO : Hid (_ = _) := hg
                  clear hg
                  cases r with
                  | true =>
                    go_wp2_with (go_at_call 221; refine K.mono ?_; rintro e w1 ⟨rfl, hb1⟩)
                    go_ret
                    exact ⟨by rw [hr.out]; rfl, hbA.trans (hb1.mono hbA.size)⟩
                  | false =>
                    go_wp2_with (first | (go_at_call 221; refine K.mono ?_; rintro e w1 ⟨rfl, hb1⟩; obtain ⟨y0, y1⟩ := HC.out w1 hb1) | (go_at_call 220; refine (K2 w1 hb1).mono ?_; rintro e w2 ⟨rfl, hb2⟩))
                    go_ret
                    exact ⟨by rw [hr.out]; rfl, (hbA.trans (hb1.mono hbA.size)).trans (hb2.mono (hbA.trans (hb1.mono hbA.size)).size)⟩
                · have hops : l.op = 2 ∨ l.op = 7 ∨ l.op = 13 ∨ l.op = 16 ∨ l.op = 17 ∨ l.op = 18 ∨ l.op = 21 := by omega
                  have hr : Hid (faultyQ q l s = false) := by unfold Hid; rcases hops with h | h | h | h | h | h | h <;> simp [faultyQ, h]
                  rcases hops with h | h | h | h | h | h | h
                  all_goals
                    rw [h]
                    have HO : Hid (_ = _) := h
                    clear h
                    go_wp2
                    go_ret
                    exact ⟨by rw [hr.out]; rfl, hbA⟩
end Go.Proofs.YtmlgajhhnojdjaaGreatDoor.FlwH
