/- Whether a line needs what may not be there. -/
import Derived.Test.YtmlgajhhnojdjaaGreatDoorFAZ
import Derived.DeepKeys
import Derived.Laws.StructEq
namespace Go.Proofs.YtmlgajhhnojdjaaGreatDoor.FlwH
open Go Go.RowKit Go.Proofs.YtmlgajhhnojdjaaGreatDoor.Spec Go.Proofs.YtmlgajhhnojdjaaGreatDoor.Aux Go.Proofs.YtmlgajhhnojdjaaGreatDoor.PrjF Go.Proofs.YtmlgajhhnojdjaaGreatDoor.PrjG Go.Proofs.YtmlgajhhnojdjaaGreatDoor.PrjJ Go.Proofs.YtmlgajhhnojdjaaGreatDoor.PrjK Go.Proofs.YtmlgajhhnojdjaaGreatDoor.PrjL Go.Proofs.YtmlgajhhnojdjaaGreatDoor.PrjM Go.Proofs.YtmlgajhhnojdjaaGreatDoor.PrjN Go.Proofs.YtmlgajhhnojdjaaGreatDoor.PrjO Go.Proofs.YtmlgajhhnojdjaaGreatDoor.PrjP Go.Proofs.YtmlgajhhnojdjaaGreatDoor.PrjR Go.Proofs.YtmlgajhhnojdjaaGreatDoor.PrjS Go.Proofs.YtmlgajhhnojdjaaGreatDoor.PrjT Go.Proofs.YtmlgajhhnojdjaaGreatDoor.FlwA Go.Proofs.YtmlgajhhnojdjaaGreatDoor.FlwB Go.Proofs.YtmlgajhhnojdjaaGreatDoor.FlwC Go.Proofs.YtmlgajhhnojdjaaGreatDoor.FlwD Go.Proofs.YtmlgajhhnojdjaaGreatDoor.FlwE Go.Proofs.YtmlgajhhnojdjaaGreatDoor.FlwF Go.Proofs.YtmlgajhhnojdjaaGreatDoor.FlwG

def QLine.at (l : QLine) (j : Nat) : Nat × Nat := l.places.getD j (0, 0)
def faultyQ (q : QP) (l : QLine) (s : List Nat) : Bool :=
  if l.op = 3 ∨ l.op = 4 ∨ l.op = 5 ∨ l.op = 6 then lacksL 2 [QLine.at l 1, QLine.at l 2] s
  else if l.op = 8 ∨ l.op = 19 ∨ l.op = 22 then lacksL 2 [QLine.at l 0] s
  else if l.op = 9 then lacksL 2 [QLine.at l 1] s || shutL (QLine.at l 0) s
  else if l.op = 10 ∨ l.op = 14 then lacksL 2 [QLine.at l 1] s
  else if l.op = 11 then lacksL 2 [QLine.at l 0, QLine.at l 1] s
  else if l.op = 12 then stuckL q (QLine.at l 1) s || shutL (QLine.at l 0) s
  else if l.op = 15 then shutL (QLine.at l 0) s
  else if l.op = 20 then lacksL 6 [QLine.at l 0] s
  else false
theorem below_undrew {z : Nat} {w w' : World} (h : Below z w.drew w') : Below z w w' := ⟨h.os, h.tape, h.output, h.size, h.block⟩
section
variable {w : World} {b : Nat} {s : List Nat}
theorem lacks_one (fit : Nat) (x : Nat × Nat) {n : Nat} (hs : StAt w b s) (hn : w.heap.size = n) (hx : x.1 < 12) (hv : ∀ k, s.getD k 0 < 16) (hfit : fit = 2 ∨ fit = 6 ∨ fit = 10) :
    Calls Tryz.prog 219 #[.pointer (some ⟨b, 0, none⟩), .int .u8 (fit : Nat), .slice (some ⟨n, 0, none⟩) 1 1] (w.alloc (.cells #[.int .i64 (x.1 : Nat), .int .i64 (x.2 : Nat)] 119)) fun e w' => e = .returned (.bool (lacksL fit [x] s)) ∧ Below w.heap.size w w' :=
  (lacks_any fit b n 1 1 _ [x] s _ (hs.below ((Below.refl _ _).alloc (Nat.le_refl _) _) hs.lt) (place_one w x hn) (fun y hy => by simp only [List.mem_singleton] at hy; subst hy; exact hx) hv hfit).mono fun e w' ⟨h1, h2⟩ => ⟨h1, ((Below.refl w.heap.size w).alloc (Nat.le_refl _) _).trans (h2.mono (by simp))⟩
theorem lacks_two (fit : Nat) (x y : Nat × Nat) {n : Nat} (hs : StAt w b s) (hn : w.heap.size = n) (hx : x.1 < 12) (hy : y.1 < 12) (hv : ∀ k, s.getD k 0 < 16) (hfit : fit = 2 ∨ fit = 6 ∨ fit = 10) :
    Calls Tryz.prog 219 #[.pointer (some ⟨b, 0, none⟩), .int .u8 (fit : Nat), .slice (some ⟨n, 0, none⟩) 2 2] (w.alloc (.cells #[.int .i64 (x.1 : Nat), .int .i64 (x.2 : Nat), .int .i64 (y.1 : Nat), .int .i64 (y.2 : Nat)] 119)).drew fun e w' => e = .returned (.bool (lacksL fit [x, y] s)) ∧ Below w.heap.size w w' := by
  have hp : PlacesAt n (w.alloc (.cells #[.int .i64 (x.1 : Nat), .int .i64 (x.2 : Nat), .int .i64 (y.1 : Nat), .int .i64 (y.2 : Nat)] 119)).drew (.slice (some ⟨n, 0, none⟩) 2 2) [x, y] := place_two w x y hn
  have hs' : StAt (w.alloc (.cells #[.int .i64 (x.1 : Nat), .int .i64 (x.2 : Nat), .int .i64 (y.1 : Nat), .int .i64 (y.2 : Nat)] 119)).drew b s := (hs.below ((Below.refl w.heap.size w).alloc (Nat.le_refl _) (.cells #[.int .i64 (x.1 : Nat), .int .i64 (x.2 : Nat), .int .i64 (y.1 : Nat), .int .i64 (y.2 : Nat)] 119)) hs.lt : StAt (w.alloc (.cells #[.int .i64 (x.1 : Nat), .int .i64 (x.2 : Nat), .int .i64 (y.1 : Nat), .int .i64 (y.2 : Nat)] 119)) b s)
  exact (lacks_any fit b n 2 2 _ [x, y] s _ hs' hp (fun z hz => by simp only [List.mem_cons, List.not_mem_nil, or_false] at hz; exact hz.elim (fun e => e ▸ hx) (fun e => e ▸ hy)) hv hfit).mono fun e w' ⟨h1, h2⟩ => ⟨h1, ((Below.refl w.heap.size w).alloc (Nat.le_refl _) _).trans ((below_undrew h2).mono (by simp))⟩
end
set_option maxRecDepth 20000 in
set_option maxHeartbeats 4000000 in
theorem faulty_any (q : QP) (l : QLine) (nb z a b : Nat) (v u : Value) (ap an : Option Addr) (cp cn : Nat) (s : List Nat) (w : World) (hp : PQ w a q v u) (hls : q.locals.length ≤ 12) (hl : LOk q.locals.length nb l)
    (hA : LineAt z w l (.slice ap l.places.length cp) (.slice an l.next.length cn)) (hs : StAt w b s) (hv : ∀ k, s.getD k 0 < 16) :
    Calls Tryz.prog 190 #[.pointer (some ⟨b, 0, none⟩), .pointer (some ⟨a, 0, none⟩), .agg #[.int .i64 (l.num : Nat), .int .i64 (l.op : Nat), .slice ap l.places.length cp, .int .i64 l.number, .int .i64 l.flag, .slice an l.next.length cn]] w fun e w' => e = .returned (.bool (faultyQ q l s)) ∧ Below w.heap.size w w' := by
  have hop1 := hl.op
  have hop2 := hl.op2
  have hlt := hs.lt
  have hbA : Below w.heap.size w (w.alloc (.cells #[.int .i64 (l.num : Nat), .int .i64 (l.op : Nat), .slice ap l.places.length cp, .int .i64 l.number, .int .i64 l.flag, .slice an l.next.length cn] 115)) := (Below.refl _ _).alloc (Nat.le_refl _) _
  have hsA := hs.below hbA hlt
  have hpA := hp.below hbA
  have hAA := hA.below hbA
  go_enter Tryz.func190, Tryz.ntmps190
  go_upto_region 3 with fail
  generalize (w.alloc (.cells #[.int .i64 (l.num : Nat), .int .i64 (l.op : Nat), .slice ap l.places.length cp, .int .i64 l.number, .int .i64 l.flag, .slice an l.next.length cn] 115)) = W at *
  by_cases hg : l.op = 3 ∨ l.op = 4 ∨ l.op = 5 ∨ l.op = 6
  · have hlen : l.places.length = 3 := by rcases hg with h | h | h | h <;> (rw [hl.plen, h]; rfl)
    have hr : Hid (faultyQ q l s = lacksL 2 [QLine.at l 1, QLine.at l 2] s) := by unfold Hid; rcases hg with h | h | h | h <;> simp [faultyQ, h]
    obtain ⟨g, rfl, hcp, hgg, c1, e1⟩ := place_at hAA hlen 1 (by omega)
    have hx1 := (hl.places _ (getD_mem (j := 1) (by omega))).1
    obtain ⟨g', e, -, -, c2, e2⟩ := place_at hAA hlen 2 (by omega)
    simp only [Option.some.injEq, Addr.mk.injEq, and_true] at e
    subst e
    have hx2 := (hl.places _ (getD_mem (j := 2) (by omega))).1
    have d1 : W.cell? ⟨g, 2, none⟩ = some (.int .i64 ((QLine.at l 1).1 : Nat)) := c1
    have f1 : W.cell? ⟨g, 3, none⟩ = some (.int .i64 ((QLine.at l 1).2 : Nat)) := e1
    change (QLine.at l 1).1 < _ at hx1
    have d2 : W.cell? ⟨g, 4, none⟩ = some (.int .i64 ((QLine.at l 2).1 : Nat)) := c2
    have f2 : W.cell? ⟨g, 5, none⟩ = some (.int .i64 ((QLine.at l 2).2 : Nat)) := e2
    change (QLine.at l 2).1 < _ at hx2
    clear c1 e1 c2 e2
    generalize QLine.at l 1 = x1 at *
    generalize QLine.at l 2 = x2 at *
    have K := lacks_two 2 x1 x2 hsA rfl (by omega) (by omega) hv (by simp)
    generalize lacksL 2 [x1, x2] s = r at *
    rw [hlen]
    rcases hg with h | h | h | h
    all_goals
      rw [h]
      have HO : Hid (_ = _) := h
      clear h
      go_upto_region 7 with fail
      go_region_with (go_at_call 219; refine K.mono ?_; rintro e w1 ⟨rfl, hb1⟩)
      all_goals go_wp2_with fail
      all_goals
        go_ret
        exact ⟨by rw [hr.out]; rfl, hbA.trans (hb1.mono hbA.size)⟩
  · by_cases hg : l.op = 8 ∨ l.op = 19 ∨ l.op = 22
    · have hlen : l.places.length = 1 := by rcases hg with h | h | h <;> (rw [hl.plen, h]; rfl)
      have hr : Hid (faultyQ q l s = lacksL 2 [QLine.at l 0] s) := by unfold Hid; rcases hg with h | h | h <;> simp [faultyQ, h]
      obtain ⟨g, rfl, hcp, hgg, c0, e0⟩ := place_at hAA hlen 0 (by omega)
      have hx0 := (hl.places _ (getD_mem (j := 0) (by omega))).1
      have d0 : W.cell? ⟨g, 0, none⟩ = some (.int .i64 ((QLine.at l 0).1 : Nat)) := c0
      have f0 : W.cell? ⟨g, 1, none⟩ = some (.int .i64 ((QLine.at l 0).2 : Nat)) := e0
      change (QLine.at l 0).1 < _ at hx0
      clear c0 e0
      generalize QLine.at l 0 = x0 at *
      have K := lacks_one 2 x0 hsA rfl (by omega) hv (by simp)
      generalize lacksL 2 [x0] s = r at *
      rw [hlen]
      rcases hg with h | h | h
      all_goals
        rw [h]
        have HO : Hid (_ = _) := h
        clear h
        go_wp2_with (go_at_call 219; refine K.mono ?_; rintro e w1 ⟨rfl, hb1⟩)
        go_ret
        exact ⟨by rw [hr.out]; rfl, hbA.trans (hb1.mono hbA.size)⟩
    · by_cases hg : l.op = 10 ∨ l.op = 14
      · have hlen : l.places.length = 2 := by rcases hg with h | h <;> (rw [hl.plen, h]; rfl)
        have hr : Hid (faultyQ q l s = lacksL 2 [QLine.at l 1] s) := by unfold Hid; rcases hg with h | h <;> simp [faultyQ, h]
        obtain ⟨g, rfl, hcp, hgg, c1, e1⟩ := place_at hAA hlen 1 (by omega)
        have hx1 := (hl.places _ (getD_mem (j := 1) (by omega))).1
        have d1 : W.cell? ⟨g, 2, none⟩ = some (.int .i64 ((QLine.at l 1).1 : Nat)) := c1
        have f1 : W.cell? ⟨g, 3, none⟩ = some (.int .i64 ((QLine.at l 1).2 : Nat)) := e1
        change (QLine.at l 1).1 < _ at hx1
        clear c1 e1
        generalize QLine.at l 1 = x1 at *
        have K := lacks_one 2 x1 hsA rfl (by omega) hv (by simp)
        generalize lacksL 2 [x1] s = r at *
        rw [hlen]
        rcases hg with h | h
        all_goals
          rw [h]
          have HO : Hid (_ = _) := h
          clear h
          go_wp2_with (go_at_call 219; refine K.mono ?_; rintro e w1 ⟨rfl, hb1⟩)
          go_ret
          exact ⟨by rw [hr.out]; rfl, hbA.trans (hb1.mono hbA.size)⟩
      · by_cases hg : l.op = 11
        · have hlen : l.places.length = 2 := by rw [hl.plen, hg]; rfl
          have hr : Hid (faultyQ q l s = lacksL 2 [QLine.at l 0, QLine.at l 1] s) := by unfold Hid; simp [faultyQ, hg]
          obtain ⟨g, rfl, hcp, hgg, c0, e0⟩ := place_at hAA hlen 0 (by omega)
          have hx0 := (hl.places _ (getD_mem (j := 0) (by omega))).1
          obtain ⟨g', e, -, -, c1, e1⟩ := place_at hAA hlen 1 (by omega)
          simp only [Option.some.injEq, Addr.mk.injEq, and_true] at e
          subst e
          have hx1 := (hl.places _ (getD_mem (j := 1) (by omega))).1
          have d0 : W.cell? ⟨g, 0, none⟩ = some (.int .i64 ((QLine.at l 0).1 : Nat)) := c0
          have f0 : W.cell? ⟨g, 1, none⟩ = some (.int .i64 ((QLine.at l 0).2 : Nat)) := e0
          change (QLine.at l 0).1 < _ at hx0
          have d1 : W.cell? ⟨g, 2, none⟩ = some (.int .i64 ((QLine.at l 1).1 : Nat)) := c1
          have f1 : W.cell? ⟨g, 3, none⟩ = some (.int .i64 ((QLine.at l 1).2 : Nat)) := e1
          change (QLine.at l 1).1 < _ at hx1
          clear c0 e0 c1 e1
          generalize QLine.at l 0 = x0 at *
          generalize QLine.at l 1 = x1 at *
          have K := lacks_two 2 x0 x1 hsA rfl (by omega) (by omega) hv (by simp)
          generalize lacksL 2 [x0, x1] s = r at *
          rw [hlen]
          rw [hg]
          have HO : Hid (_ = _) := hg
          clear hg
          go_upto_region 18 with fail
          go_region_with (go_at_call 219; refine K.mono ?_; rintro e w1 ⟨rfl, hb1⟩)
          all_goals go_wp2_with fail
          all_goals
            go_ret
            exact ⟨by rw [hr.out]; rfl, hbA.trans (hb1.mono hbA.size)⟩
        · by_cases hg : l.op = 15
          · have hlen : l.places.length = 1 := by rw [hl.plen, hg]; rfl
            have hr : Hid (faultyQ q l s = shutL (QLine.at l 0) s) := by unfold Hid; simp [faultyQ, hg]
            obtain ⟨g, rfl, hcp, hgg, c0, e0⟩ := place_at hAA hlen 0 (by omega)
            have hx0 := (hl.places _ (getD_mem (j := 0) (by omega))).1
            have d0 : W.cell? ⟨g, 0, none⟩ = some (.int .i64 ((QLine.at l 0).1 : Nat)) := c0
            have f0 : W.cell? ⟨g, 1, none⟩ = some (.int .i64 ((QLine.at l 0).2 : Nat)) := e0
            change (QLine.at l 0).1 < _ at hx0
            clear c0 e0
            generalize QLine.at l 0 = x0 at *
            have K := shut_any b x0 s _ hsA (by omega) hv
            generalize shutL x0 s = r at *
            rw [hlen]
            rw [hg]
            have HO : Hid (_ = _) := hg
            clear hg
            go_wp2_with (go_at_call 220; refine K.mono ?_; rintro e w1 ⟨rfl, hb1⟩)
            go_ret
            exact ⟨by rw [hr.out]; rfl, hbA.trans (hb1.mono hbA.size)⟩
          · by_cases hg : l.op = 20
            · have hlen : l.places.length = 1 := by rw [hl.plen, hg]; rfl
              have hr : Hid (faultyQ q l s = lacksL 6 [QLine.at l 0] s) := by unfold Hid; simp [faultyQ, hg]
              obtain ⟨g, rfl, hcp, hgg, c0, e0⟩ := place_at hAA hlen 0 (by omega)
              have hx0 := (hl.places _ (getD_mem (j := 0) (by omega))).1
              have d0 : W.cell? ⟨g, 0, none⟩ = some (.int .i64 ((QLine.at l 0).1 : Nat)) := c0
              have f0 : W.cell? ⟨g, 1, none⟩ = some (.int .i64 ((QLine.at l 0).2 : Nat)) := e0
              change (QLine.at l 0).1 < _ at hx0
              clear c0 e0
              generalize QLine.at l 0 = x0 at *
              have K := lacks_one 6 x0 hsA rfl (by omega) hv (by simp)
              generalize lacksL 6 [x0] s = r at *
              rw [hlen]
              rw [hg]
              have HO : Hid (_ = _) := hg
              clear hg
              go_wp2_with (go_at_call 219; refine K.mono ?_; rintro e w1 ⟨rfl, hb1⟩)
              go_ret
              exact ⟨by rw [hr.out]; rfl, hbA.trans (hb1.mono hbA.size)⟩
            · by_cases hg : l.op = 9
              · have hlen : l.places.length = 2 := by rw [hl.plen, hg]; rfl
                have hr : Hid (faultyQ q l s = (lacksL 2 [QLine.at l 1] s || shutL (QLine.at l 0) s)) := by unfold Hid; simp [faultyQ, hg]
                obtain ⟨g, rfl, hcp, hgg, c0, e0⟩ := place_at hAA hlen 0 (by omega)
                have hx0 := (hl.places _ (getD_mem (j := 0) (by omega))).1
                obtain ⟨g', e, -, -, c1, e1⟩ := place_at hAA hlen 1 (by omega)
                simp only [Option.some.injEq, Addr.mk.injEq, and_true] at e
                subst e
                have hx1 := (hl.places _ (getD_mem (j := 1) (by omega))).1
                have d0 : W.cell? ⟨g, 0, none⟩ = some (.int .i64 ((QLine.at l 0).1 : Nat)) := c0
                have f0 : W.cell? ⟨g, 1, none⟩ = some (.int .i64 ((QLine.at l 0).2 : Nat)) := e0
                change (QLine.at l 0).1 < _ at hx0
                have d1 : W.cell? ⟨g, 2, none⟩ = some (.int .i64 ((QLine.at l 1).1 : Nat)) := c1
                have f1 : W.cell? ⟨g, 3, none⟩ = some (.int .i64 ((QLine.at l 1).2 : Nat)) := e1
                change (QLine.at l 1).1 < _ at hx1
                clear c0 e0 c1 e1
                generalize QLine.at l 0 = x0 at *
                generalize QLine.at l 1 = x1 at *
                have K := lacks_one 2 x1 hsA rfl (by omega) hv (by simp)
                have K2 := fun W' (hb : Below W.heap.size W W') => shut_any b x0 s W' (hsA.below hb hsA.lt) (by omega) hv
                have HC : Hid (∀ W', Below W.heap.size W W' → W'.cell? ⟨g, 0, none⟩ = some (.int .i64 (x0.1 : Nat)) ∧ W'.cell? ⟨g, 1, none⟩ = some (.int .i64 (x0.2 : Nat))) := fun W' hb => ⟨(hb.cell (p := ⟨g, 0, none⟩) hgg).trans d0, (hb.cell (p := ⟨g, 1, none⟩) hgg).trans f0⟩
                generalize lacksL 2 [x1] s = r at *
                generalize shutL x0 s = r2 at *
                rw [hlen]
                rw [hg]
                have HO : Hid (_ = _) := hg
                clear hg
                cases r with
                | true =>
                  go_wp2_with (go_at_call 219; refine K.mono ?_; rintro e w1 ⟨rfl, hb1⟩)
                  go_ret
                  exact ⟨by rw [hr.out]; rfl, hbA.trans (hb1.mono hbA.size)⟩
                | false =>
                  go_wp2_with (first | (go_at_call 219; refine K.mono ?_; rintro e w1 ⟨rfl, hb1⟩; obtain ⟨y0, y1⟩ := HC.out w1 hb1) | (go_at_call 220; refine (K2 w1 hb1).mono ?_; rintro e w2 ⟨rfl, hb2⟩))
                  go_ret
                  exact ⟨by rw [hr.out]; rfl, (hbA.trans (hb1.mono hbA.size)).trans (hb2.mono (hbA.trans (hb1.mono hbA.size)).size)⟩
              · by_cases hg : l.op = 12
                · have hlen : l.places.length = 2 := by rw [hl.plen, hg]; rfl
                  have hr : Hid (faultyQ q l s = (stuckL q (QLine.at l 1) s || shutL (QLine.at l 0) s)) := by unfold Hid; simp [faultyQ, hg]
                  obtain ⟨g, rfl, hcp, hgg, c0, e0⟩ := place_at hAA hlen 0 (by omega)
                  have hx0 := (hl.places _ (getD_mem (j := 0) (by omega))).1
                  obtain ⟨g', e, -, -, c1, e1⟩ := place_at hAA hlen 1 (by omega)
                  simp only [Option.some.injEq, Addr.mk.injEq, and_true] at e
                  subst e
                  have hx1 := (hl.places _ (getD_mem (j := 1) (by omega))).1
                  have d0 : W.cell? ⟨g, 0, none⟩ = some (.int .i64 ((QLine.at l 0).1 : Nat)) := c0
                  have f0 : W.cell? ⟨g, 1, none⟩ = some (.int .i64 ((QLine.at l 0).2 : Nat)) := e0
                  change (QLine.at l 0).1 < _ at hx0
                  have d1 : W.cell? ⟨g, 2, none⟩ = some (.int .i64 ((QLine.at l 1).1 : Nat)) := c1
                  have f1 : W.cell? ⟨g, 3, none⟩ = some (.int .i64 ((QLine.at l 1).2 : Nat)) := e1
                  change (QLine.at l 1).1 < _ at hx1
                  clear c0 e0 c1 e1
                  generalize QLine.at l 0 = x0 at *
                  generalize QLine.at l 1 = x1 at *
                  have K := stuck_any q b x1 s v u a _ hpA.blk hpA.loc (by omega) hx1 hsA (by omega) hv
                  have K2 := fun W' (hb : Below W.heap.size W W') => shut_any b x0 s W' (hsA.below hb hsA.lt) (by omega) hv
                  have HC : Hid (∀ W', Below W.heap.size W W' → W'.cell? ⟨g, 0, none⟩ = some (.int .i64 (x0.1 : Nat)) ∧ W'.cell? ⟨g, 1, none⟩ = some (.int .i64 (x0.2 : Nat))) := fun W' hb => ⟨(hb.cell (p := ⟨g, 0, none⟩) hgg).trans d0, (hb.cell (p := ⟨g, 1, none⟩) hgg).trans f0⟩
                  generalize stuckL q x1 s = r at *
                  generalize shutL x0 s = r2 at *
                  rw [hlen]
                  rw [hg]
                  have HO : Hid (_ = _) := hg
                  clear hg
                  cases r with
                  | true =>
                    go_wp2_with (go_at_call 221; refine K.mono ?_; rintro e w1 ⟨rfl, hb1⟩)
                    go_ret
                    exact ⟨by rw [hr.out]; rfl, hbA.trans (hb1.mono hbA.size)⟩
                  | false =>
                    go_wp2_with (first | (go_at_call 221; refine K.mono ?_; rintro e w1 ⟨rfl, hb1⟩; obtain ⟨y0, y1⟩ := HC.out w1 hb1) | (go_at_call 220; refine (K2 w1 hb1).mono ?_; rintro e w2 ⟨rfl, hb2⟩))
                    go_ret
                    exact ⟨by rw [hr.out]; rfl, (hbA.trans (hb1.mono hbA.size)).trans (hb2.mono (hbA.trans (hb1.mono hbA.size)).size)⟩
                · have hops : l.op = 2 ∨ l.op = 7 ∨ l.op = 13 ∨ l.op = 16 ∨ l.op = 17 ∨ l.op = 18 ∨ l.op = 21 := by omega
                  have hr : Hid (faultyQ q l s = false) := by unfold Hid; rcases hops with h | h | h | h | h | h | h <;> simp [faultyQ, h]
                  rcases hops with h | h | h | h | h | h | h
                  all_goals
                    rw [h]
                    have HO : Hid (_ = _) := h
                    clear h
                    go_wp2
                    go_ret
                    exact ⟨by rw [hr.out]; rfl, hbA⟩
end Go.Proofs.YtmlgajhhnojdjaaGreatDoor.FlwH
/- States held against one another; where ways begin; whether a state was come to. -/
namespace Go.Proofs.YtmlgajhhnojdjaaGreatDoor.FlwI
open Go Go.RowKit Go.Proofs.YtmlgajhhnojdjaaGreatDoor.Spec Go.Proofs.YtmlgajhhnojdjaaGreatDoor.Aux Go.Proofs.YtmlgajhhnojdjaaGreatDoor.PrjJ Go.Proofs.YtmlgajhhnojdjaaGreatDoor.PrjK Go.Proofs.YtmlgajhhnojdjaaGreatDoor.FlwB Go.Proofs.YtmlgajhhnojdjaaGreatDoor.FlwF

theorem mapM_some {α β : Type} (f : α → Option β) (g : α → β) : ∀ l : List α, (∀ a ∈ l, f a = some (g a)) → l.mapM f = some (l.map g)
  | [], _ => rfl
  | a :: l, h => by
    rw [List.mapM_cons, h a (List.mem_cons_self ..), mapM_some f g l (fun x hx => h x (List.mem_cons_of_mem _ hx))]; rfl
theorem cells_state : Tryz.prog.cellsOf 209 = 24 := by kernel_rfl
theorem cells_may : Tryz.prog.cellsOf 207 = 1 := by kernel_rfl
theorem key_state : Tryz.prog.keyTypeAt 3 209 = true := by kernel_rfl
theorem getD_range (s : List Nat) : (List.range s.length).map (fun i => s.getD i 0) = s := by
  apply List.ext_getElem?
  intro i
  rw [List.getElem?_map]
  by_cases hi : i < s.length
  · rw [List.getElem?_range hi]; simp [hi]
  · rw [List.getElem?_eq_none (by simp; omega), List.getElem?_eq_none (by omega)]; rfl
theorem keyLits_st (s : List Nat) (hl : s.length = 24) (hv : ∀ k, s.getD k 0 < 16) : Tryz.prog.keyLits 2 209 (stCells s) = some (s.map fun n => Lit.int .u8 (n : Nat)) := by
  have hf : ∀ i ∈ List.range 24, Tryz.prog.keyLits 1 207 (((stCells s).drop (i * 1)).take 1) = some [Lit.int .u8 ((s.getD i 0 : Nat) : Int)] := by
    intro i hi
    have hi' : i < s.length := by rw [hl]; simpa using hi
    have hc : ((stCells s).drop (i * 1)).take 1 = [.int .u8 ((s.getD i 0 : Nat) : Int)] := by
      rw [Nat.mul_one, List.drop_eq_getElem_cons (by rw [stCells_len]; exact hi')]
      simp [stCells, hi']
    have hw : (Lit.int .u8 ((s.getD i 0 : Nat) : Int)).wf = true := by
      have := hv i
      generalize s.getD i 0 = n at *
      have : ∀ n : Nat, n < 16 → (Lit.int .u8 (n : Int)).wf = true := by decide
      exact this n (by assumption)
    rw [hc]
    simp only [Program.keyLits, Tryz.underlying207]
    rw [if_pos ⟨trivial, hw⟩]
  unfold Program.keyLits
  simp only [Tryz.underlying209, cells_state, cells_may]
  rw [if_pos (by rw [stCells_len]; exact hl), mapM_some _ _ _ hf]
  simp only [Option.map_some, Option.some.injEq]
  have e : ((List.range 24).map fun i => [Lit.int .u8 ((s.getD i 0 : Nat) : Int)]).flatten = ((List.range s.length).map fun i => s.getD i 0).map fun n => Lit.int .u8 ((n : Nat) : Int) := by
    rw [hl, List.map_map]
    induction List.range 24 with
    | nil => rfl
    | cons a r ih => simpa using ih
  rw [e, getD_range]
set_option maxRecDepth 20000 in
theorem st_equal (s t : List Nat) (w : World) (hs : s.length = 24) (ht : t.length = 24) (hv : ∀ k, s.getD k 0 < 16) (hu : ∀ k, t.getD k 0 < 16) :
    (Op.equalIn 10000 209 (.agg (stCells s).toArray) (.agg (stCells t).toArray)).run Tryz.prog w = .ok (s == t) w := by
  have hform : ∀ s : List Nat, s.length = 24 → (Value.agg (stCells s).toArray).formed Tryz.prog 209 = true := fun s hs => by
    simp only [Value.formed, Tryz.underlying209, cells_state]
    simp [stCells_len, hs]
  obtain ⟨r, hr, hiff⟩ := run_equalIn_deep 9997 3 209 key_state w 2 2 (.agg (stCells s).toArray) (.agg (stCells t).toArray) _ _ (hform s hs) (hform t ht) (by simpa [Value.cells] using keyLits_st s hs hv) (by simpa [Value.cells] using keyLits_st t ht hu)
  rw [hr]
  congr 1
  rw [Bool.eq_iff_iff, hiff, beq_iff_eq]
  constructor
  · intro h
    refine (List.map_inj_right (fun a b e => ?_)).1 h
    simp only [Lit.int.injEq, true_and] at e
    omega
  · intro h; rw [h]
attribute [local go_sem ↓] wp_load_st wp_store_st
theorem replicate_set (k : Nat) (hk : k < 24) : (List.replicate k 1 ++ List.replicate (24 - k) 0).set k 1 = (List.replicate (k + 1) 1 ++ List.replicate (24 - (k + 1)) 0 : List Nat) := by
  rw [List.set_append_right _ _ (by simp), List.length_replicate, Nat.sub_self, show 24 - k = (24 - (k + 1)) + 1 by omega, List.replicate_succ, List.set_cons_zero, List.replicate_succ', List.append_assoc]
  rfl
def startSt : List Nat := List.replicate 24 1
set_option maxRecDepth 20000 in
set_option maxHeartbeats 1000000 in
theorem start_any (w : World) : Calls Tryz.prog 188 #[] w fun e w' => e = .returned (.agg (stCells startSt).toArray) ∧ Below w.heap.size w w' := by
  have hb1 : Below w.heap.size w (w.alloc (.cells (stCells zeroSt).toArray 209)) := (Below.refl _ _).alloc (Nat.le_refl _) _
  have hb2 := hb1.alloc hb1.size (.cells (stCells zeroSt).toArray 209)
  have hA : StAt ((w.alloc (.cells (stCells zeroSt).toArray 209)).alloc (.cells (stCells zeroSt).toArray 209)) w.heap.size zeroSt := (StAt.new w (s := zeroSt) (by decide)).below ((Below.refl _ _).alloc (Nat.le_refl _) _) (by simp)
  have hB : StAt ((w.alloc (.cells (stCells zeroSt).toArray 209)).alloc (.cells (stCells zeroSt).toArray 209)) (w.heap.size + 1) (List.replicate 0 1 ++ List.replicate (24 - 0) 0) := by
    rw [show w.heap.size + 1 = (w.alloc (.cells (stCells zeroSt).toArray 209)).heap.size by simp]
    exact StAt.new _ (s := zeroSt) (by decide)
  have hz : (stCells zeroSt).toArray = #[.int .u8 0, .int .u8 0, .int .u8 0, .int .u8 0, .int .u8 0, .int .u8 0, .int .u8 0, .int .u8 0, .int .u8 0, .int .u8 0, .int .u8 0, .int .u8 0, .int .u8 0, .int .u8 0, .int .u8 0, .int .u8 0, .int .u8 0, .int .u8 0, .int .u8 0, .int .u8 0, .int .u8 0, .int .u8 0, .int .u8 0, .int .u8 0] := rfl
  rw [hz] at hA hB hb2
  clear hb1 hz
  go_enter Tryz.func188, Tryz.ntmps188
  go_wp2
  go_loopg [3] (24) (fun g v3 wr => ∃ k : Nat, k ≤ 24 ∧ g + k = 24 ∧ v3 = .int .i64 k ∧ StAt wr w.heap.size zeroSt ∧ StAt wr (w.heap.size + 1) (List.replicate k 1 ++ List.replicate (24 - k) 0) ∧ Below w.heap.size w wr)
  case atStart => exact ⟨0, by omega, rfl, rfl, hA, hB, hb2⟩
  case round =>
    obtain ⟨k, hk, hgk, rfl, hA', hB', hBr⟩ := hrel
    clear hA hB hb2
    by_cases hlt : k < 24
    · have c1 := hB'.cell k hlt
      have c2 := hB'.frozen k
      have hki : (k : Int) < 24 := by omega
      have hset := hB'.set k 1
      rw [replicate_set k hlt] at hset
      have hA2 : StAt (wr.setCell ⟨w.heap.size + 1, k, none⟩ (.int .u8 (1 : Nat))) w.heap.size zeroSt := ⟨hA'.1, by rw [Below.heap_setCell _ _ _ _ (by show w.heap.size ≠ w.heap.size + 1; omega)]; exact hA'.2⟩
      have hB2 : Below w.heap.size w (wr.setCell ⟨w.heap.size + 1, k, none⟩ (.int .u8 (1 : Nat))) := hBr.trans (((Turn.refl (w.heap.size + 1) wr).setCell k _).below (by omega) hBr.size)
      go_wp2
      go_roundg (24 - (k + 1))
      case measure => omega
      case rel => exact ⟨k + 1, by omega, by omega, by go_num, hA2, hset, hB2⟩
    · obtain rfl : k = 24 := by omega
      have hst : StAt wr (w.heap.size + 1) startSt := hB'
      have h1 := StAt.has hst
      have h2 := StAt.of hst
      have h3 := StAt.room hA'
      have h4 := isSt_of (s := startSt) (by decide)
      have hfin := StAt.store hA' (t := startSt) (by decide)
      have hbf : Below w.heap.size w (wr.setCells w.heap.size 0 (stCells startSt)) := below_setCells hBr (Nat.le_refl _) _ _
      go_wp2
      refine bodyPost_ret (results_cell Tryz.results188 _ _ _ w.heap.size (stCells startSt) _ rfl (StAt.range hfin) Tryz.underlying209 rfl (info_state (by decide))) rfl ?_
      exact ⟨rfl, hbf⟩
theorem zeroSt_lt (k : Nat) : zeroSt.getD k 0 < 16 := by
  unfold zeroSt
  rw [List.getD_eq_getElem?_getD, List.getElem?_replicate]
  split <;> simp
set_option maxRecDepth 20000 in
theorem reached_any (b : Nat) (s : List Nat) (w : World) (hs : StAt w b s) (hv : ∀ k, s.getD k 0 < 16) : Calls Tryz.prog 129 #[.pointer (some ⟨b, 0, none⟩)] w fun e w' => e = .returned (.bool (!(s == zeroSt))) ∧ w' = w := by
  have h1 := StAt.has hs
  have h2 := StAt.of hs
  have he := fun w' => st_equal s zeroSt w' hs.1 (by decide) hv zeroSt_lt
  have hz : (stCells zeroSt).toArray = #[.int .u8 0, .int .u8 0, .int .u8 0, .int .u8 0, .int .u8 0, .int .u8 0, .int .u8 0, .int .u8 0, .int .u8 0, .int .u8 0, .int .u8 0, .int .u8 0, .int .u8 0, .int .u8 0, .int .u8 0, .int .u8 0, .int .u8 0, .int .u8 0, .int .u8 0, .int .u8 0, .int .u8 0, .int .u8 0, .int .u8 0, .int .u8 0] := rfl
  rw [hz] at he
  generalize (s == zeroSt) = r at *
  go_enter Tryz.func129, Tryz.ntmps129
  go_wp2
  go_ret
  exact ⟨rfl, rfl⟩
end Go.Proofs.YtmlgajhhnojdjaaGreatDoor.FlwI
