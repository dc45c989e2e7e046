/- What the project's flow answers on whether places lack what must be there. -/
import Derived.Test.YtmlgajhhnojdjaaGreatDoorBAQ
import Derived.Test.YtmlgajhhnojdjaaGreatDoorBAP
import Derived.Deep.DeepFit
namespace Go.Proofs.YtmlgajhhnojdjaaGreatDoor.FlwC
open Go Go.RowKit Go.Proofs.YtmlgajhhnojdjaaGreatDoor.Spec Go.Proofs.YtmlgajhhnojdjaaGreatDoor.Aux Go.Proofs.YtmlgajhhnojdjaaGreatDoor.PrjF Go.Proofs.YtmlgajhhnojdjaaGreatDoor.PrjG Go.Proofs.YtmlgajhhnojdjaaGreatDoor.PrjJ Go.Proofs.YtmlgajhhnojdjaaGreatDoor.PrjK Go.Proofs.YtmlgajhhnojdjaaGreatDoor.PrjL Go.Proofs.YtmlgajhhnojdjaaGreatDoor.PrjM Go.Proofs.YtmlgajhhnojdjaaGreatDoor.PrjN Go.Proofs.YtmlgajhhnojdjaaGreatDoor.PrjO Go.Proofs.YtmlgajhhnojdjaaGreatDoor.PrjP Go.Proofs.YtmlgajhhnojdjaaGreatDoor.PrjR Go.Proofs.YtmlgajhhnojdjaaGreatDoor.PrjT Go.Proofs.YtmlgajhhnojdjaaGreatDoor.FlwA Go.Proofs.YtmlgajhhnojdjaaGreatDoor.FlwB

def lackB (fit v : Nat) : Bool := !(v &&& (15 - fit) == 0)
theorem lack_bits : ∀ v : Nat, v < 16 → ((bits .andNot .u8 (v : Int) 2 != 0) = lackB 2 v) ∧ ((bits .andNot .u8 (v : Int) 6 != 0) = lackB 6 v) ∧ ((bits .andNot .u8 (v : Int) 10 != 0) = lackB 10 v) := by decide
theorem lack_fit {v fit : Nat} (hv : v < 16) (hfit : fit = 2 ∨ fit = 6 ∨ fit = 10) : (bits .andNot .u8 (v : Int) (fit : Int) != 0) = lackB fit v := by
  obtain ⟨h1, h2, h3⟩ := lack_bits v hv
  rcases hfit with rfl | rfl | rfl
  · exact h1
  · exact h2
  · exact h3
def lacksL (fit : Nat) (ps : List (Nat × Nat)) (s : List Nat) : Bool := ps.any fun x => lackB fit (s.getD (slotQ x) 0)
theorem lacks_step (fit : Nat) (ps : List (Nat × Nat)) (k : Nat) (hk : k < ps.length) (s : List Nat) : lacksL fit (ps.drop k) s = (lackB fit (s.getD (slotQ (ps.getD k (0, 0))) 0) || lacksL fit (ps.drop (k + 1)) s) := by
  rw [List.drop_eq_getElem_cons hk]
  have : ps.getD k (0, 0) = ps[k] := by simp [List.getD_eq_getElem?_getD, hk]
  rw [this]; rfl
set_option maxRecDepth 20000 in
set_option maxHeartbeats 1000000 in
theorem lacks_any (fit b z n c : Nat) (ad : Option Addr) (ps : List (Nat × Nat)) (s : List Nat) (w : World) (hs : StAt w b s) (hp : PlacesAt z w (.slice ad n c) ps) (hx : ∀ x ∈ ps, x.1 < 12) (hv : ∀ k, s.getD k 0 < 16) (hfit : fit = 2 ∨ fit = 6 ∨ fit = 10) :
    Calls Tryz.prog 219 #[.pointer (some ⟨b, 0, none⟩), .int .u8 (fit : Nat), .slice ad n c] w fun e w' => e = .returned (.bool (lacksL fit ps s)) ∧ Below w.heap.size w w' := by
  have hn : n = ps.length := by
    obtain ⟨ad', c', e⟩ := own_slice hp
    simp only [Value.slice.injEq] at e; exact e.2.1
  have hlen : ps.length ≤ maxLen := by
    rcases hp.2 with ⟨-, h⟩ | ⟨g, cap, cur, -, -, -, h1, h2, -⟩
    · omega
    · omega
  unfold maxLen at hlen
  subst hn
  have HF : Hid (lacksL fit ps s = lacksL fit (ps.drop 0) s) := rfl
  go_enter Tryz.func219, Tryz.ntmps219
  go_wp2
  go_loopg [11] (ps.length) (fun g v10 wr => ∃ k : Nat, k ≤ ps.length ∧ g + k = ps.length ∧ v10 = .int .i64 k ∧ Below w.heap.size w wr ∧ Hid (lacksL fit ps s = lacksL fit (ps.drop k) s))
  case atStart => exact ⟨0, Nat.zero_le _, rfl, rfl, Below.refl _ _, HF⟩
  case round =>
    obtain ⟨k, hk, hgk, rfl, hB, HI⟩ := hrel
    by_cases hlt : k < ps.length
    · obtain ⟨gp, rfl, -, hcp, hgp, c1, c2⟩ := places_cells (own_below hp hB) k hlt
      have hx1 := hx (ps.getD k (0, 0)) (by simp [hlt])
      have HS : Hid (_ = _) := HI.out.trans (lacks_step fit ps k hlt s)
      generalize ps.getD k (0, 0) = x at *
      have hsl : slotQ x < 24 := by unfold slotQ; split <;> omega
      have hsi : (slotQ x : Int) < 24 := by omega
      have hbx : Below wr.heap.size wr (wr.alloc (.cells #[.int .i64 (x.1 : Nat), .int .i64 (x.2 : Nat)] 119)) := (Below.refl _ _).alloc (Nat.le_refl _) _
      have hlb := hs.lt
      have KS := slot_any x (wr.alloc (.cells #[.int .i64 (x.1 : Nat), .int .i64 (x.2 : Nat)] 119)).drew (by omega)
      have hvk := hv (slotQ x)
      obtain ⟨v, hvv⟩ : ∃ v, v = s.getD (slotQ x) 0 := ⟨_, rfl⟩
      rw [← hvv] at hvk HS
      have HV : Hid (s.getD (slotQ x) 0 = v) := hvv.symm
      clear hvv
      cases hl : lackB fit v
      · have hbit : (bits .andNot .u8 (v : Int) (fit : Int) != 0) = false := by rw [lack_fit hvk hfit]; exact hl
        have HL : Hid (_ = _) := hl
        clear hl
        go_upto_region 4 with fail
        go_region_with (go_at_call 62; refine KS.mono ?_; rintro e w1 ⟨rfl, hb1⟩; have hb1' : Below wr.heap.size wr w1 := (hbx.trans ((⟨hb1.os, hb1.tape, hb1.output, hb1.size, hb1.block⟩ : Below _ (wr.alloc (.cells #[.int .i64 (x.1 : Nat), .int .i64 (x.2 : Nat)] 119)) w1).mono hbx.size)); have hS1 := (hs.below hB hlb).below hb1' (Nat.lt_of_lt_of_le hlb hB.size); have s1 := (hS1.cell (slotQ x) hsl).trans (by rw [HV.out]))
        all_goals go_wp2_with fail
        all_goals
          go_roundg (ps.length - (k + 1))
          case measure => omega
          case rel => exact ⟨k + 1, by omega, by omega, by go_num, hB.trans (hb1'.mono hB.size), by unfold Hid; rw [HS.out, HL.out]; rfl⟩
      · have hbit : (bits .andNot .u8 (v : Int) (fit : Int) != 0) = true := by rw [lack_fit hvk hfit]; exact hl
        have HL : Hid (_ = _) := hl
        clear hl
        go_upto_region 4 with fail
        go_region_with (go_at_call 62; refine KS.mono ?_; rintro e w1 ⟨rfl, hb1⟩; have hb1' : Below wr.heap.size wr w1 := (hbx.trans ((⟨hb1.os, hb1.tape, hb1.output, hb1.size, hb1.block⟩ : Below _ (wr.alloc (.cells #[.int .i64 (x.1 : Nat), .int .i64 (x.2 : Nat)] 119)) w1).mono hbx.size)); have hS1 := (hs.below hB hlb).below hb1' (Nat.lt_of_lt_of_le hlb hB.size); have s1 := (hS1.cell (slotQ x) hsl).trans (by rw [HV.out]))
        all_goals go_wp2_with fail
        all_goals
          go_ret
          exact ⟨by rw [HS.out, HL.out]; rfl, hB.trans (hb1'.mono hB.size)⟩
    · have hx : lacksL fit ps s = false := by rw [HI.out, List.drop_eq_nil_of_le (by omega)]; rfl
      go_wp2
      go_ret
      exact ⟨by rw [hx]; rfl, hB⟩
end Go.Proofs.YtmlgajhhnojdjaaGreatDoor.FlwC
/- What the project's flow answers on places that are shut or stuck, and on how a thing is behind its being moved. -/
namespace Go.Proofs.YtmlgajhhnojdjaaGreatDoor.FlwD
open Go Go.RowKit Go.Proofs.YtmlgajhhnojdjaaGreatDoor.Spec Go.Proofs.YtmlgajhhnojdjaaGreatDoor.Aux Go.Proofs.YtmlgajhhnojdjaaGreatDoor.PrjF Go.Proofs.YtmlgajhhnojdjaaGreatDoor.PrjG Go.Proofs.YtmlgajhhnojdjaaGreatDoor.PrjJ Go.Proofs.YtmlgajhhnojdjaaGreatDoor.PrjK Go.Proofs.YtmlgajhhnojdjaaGreatDoor.PrjL Go.Proofs.YtmlgajhhnojdjaaGreatDoor.PrjM Go.Proofs.YtmlgajhhnojdjaaGreatDoor.PrjN Go.Proofs.YtmlgajhhnojdjaaGreatDoor.PrjO Go.Proofs.YtmlgajhhnojdjaaGreatDoor.PrjP Go.Proofs.YtmlgajhhnojdjaaGreatDoor.PrjR Go.Proofs.YtmlgajhhnojdjaaGreatDoor.PrjT Go.Proofs.YtmlgajhhnojdjaaGreatDoor.FlwA Go.Proofs.YtmlgajhhnojdjaaGreatDoor.FlwB Go.Proofs.YtmlgajhhnojdjaaGreatDoor.FlwC

def shutL (x : Nat × Nat) (s : List Nat) : Bool := x.2 == 3 && lacksL 10 [x] s
def stuckL (q : QP) (x : Nat × Nat) (s : List Nat) : Bool := if q.kindV x = 3 then lacksL 6 [x] s else lacksL 2 (QP.halvesQ q x) s
def movedL (q : QP) (x : Nat × Nat) (s : List Nat) : Nat := if q.kindV x = 3 then s.getD (slotQ x) 0 else 2
/-- one place in a row of its own -/
theorem place_one (W : World) (x : Nat × Nat) {n : Nat} (hn : W.heap.size = n) : PlacesAt n (W.alloc (.cells #[.int .i64 (x.1 : Nat), .int .i64 (x.2 : Nat)] 119)) (.slice (some ⟨n, 0, none⟩) 1 1) [x] := by
  subst hn; exact places_new W [x] (by simp)
theorem place_two (W : World) (x y : Nat × Nat) {n : Nat} (hn : W.heap.size = n) : PlacesAt n (W.alloc (.cells #[.int .i64 (x.1 : Nat), .int .i64 (x.2 : Nat), .int .i64 (y.1 : Nat), .int .i64 (y.2 : Nat)] 119)) (.slice (some ⟨n, 0, none⟩) 2 2) [x, y] := by
  subst hn; exact places_new W [x, y] (by simp)
theorem halves_in {q : QP} {x : Nat × Nat} {n : Nat} (h : x.1 < n) : ∀ y ∈ QP.halvesQ q x, y.1 < n := by
  intro y hy
  unfold QP.halvesQ at hy
  split at hy
  · simp only [List.mem_cons, List.not_mem_nil, or_false] at hy
    rcases hy with rfl | rfl <;> exact h
  · simp only [List.mem_singleton] at hy; subst hy; exact h
set_option maxRecDepth 20000 in
set_option maxHeartbeats 1000000 in
theorem shut_any (b : Nat) (x : Nat × Nat) (s : List Nat) (w : World) (hs : StAt w b s) (hx : x.1 < 12) (hv : ∀ k, s.getD k 0 < 16) :
    Calls Tryz.prog 220 #[.pointer (some ⟨b, 0, none⟩), .agg #[.int .i64 (x.1 : Nat), .int .i64 (x.2 : Nat)]] w fun e w' => e = .returned (.bool (shutL x s)) ∧ Below w.heap.size w w' := by
  have hbA : Below w.heap.size w (w.alloc (.cells #[.int .i64 (x.1 : Nat), .int .i64 (x.2 : Nat)] 119)) := (Below.refl _ _).alloc (Nat.le_refl _) _
  have hbB := hbA.alloc hbA.size (.cells #[.int .i64 (x.1 : Nat), .int .i64 (x.2 : Nat)] 119)
  have KL := lacks_any 10 b _ 1 1 _ [x] s _ (hs.below hbB hs.lt) (place_one (w.alloc (.cells #[.int .i64 (x.1 : Nat), .int .i64 (x.2 : Nat)] 119)) x (n := w.heap.size + 1) (by simp)) (fun y hy => by simp only [List.mem_singleton] at hy; subst hy; exact hx) hv (by simp)
  by_cases h3 : x.2 = 3
  · have b3 : (((x.2 : Nat) : Int) == 3) = true := by rw [h3]; rfl
    have hr : shutL x s = lacksL 10 [x] s := by rw [shutL, h3]; rfl
    rw [hr]
    clear h3 hr
    generalize lacksL 10 [x] s = r at *
    go_enter Tryz.func220, Tryz.ntmps220
    go_wp2_with (go_at_call 219; refine KL.mono ?_; rintro e w1 ⟨rfl, hb1⟩)
    go_ret
    exact ⟨rfl, hbB.trans (hb1.mono hbB.size)⟩
  · have b3 : (((x.2 : Nat) : Int) == 3) = false := by rw [beq_eq_false_iff_ne]; omega
    have hr : shutL x s = false := by rw [shutL, show (x.2 == 3) = false by simpa using h3]; rfl
    rw [hr]
    clear h3 hr KL
    go_enter Tryz.func220, Tryz.ntmps220
    go_wp2
    go_ret
    exact ⟨rfl, hbA⟩
set_option maxRecDepth 20000 in
set_option maxHeartbeats 1000000 in
theorem stuck_any (q : QP) (b : Nat) (x : Nat × Nat) (s : List Nat) (v u : Value) (a : Nat) (w : World) (hp : w.heap[a]? = some (.cells #[v, u] 110 (0, 0))) (hl : LocAt w v q.locals) (hls : q.locals.length ≤ 4000) (hxl : x.1 < q.locals.length) (hs : StAt w b s) (hx : x.1 < 12) (hv : ∀ k, s.getD k 0 < 16) :
    Calls Tryz.prog 221 #[.pointer (some ⟨b, 0, none⟩), .pointer (some ⟨a, 0, none⟩), .agg #[.int .i64 (x.1 : Nat), .int .i64 (x.2 : Nat)]] w fun e w' => e = .returned (.bool (stuckL q x s)) ∧ Below w.heap.size w w' := by
  have hbA : Below w.heap.size w (w.alloc (.cells #[.int .i64 (x.1 : Nat), .int .i64 (x.2 : Nat)] 119)) := (Below.refl _ _).alloc (Nat.le_refl _) _
  have hlt := lt_of_heap hp
  have hpb : ∀ w', Below w.heap.size w w' → w'.heap[a]? = some (.cells #[v, u] 110 (0, 0)) := fun w' hb => by rw [hb.block a hlt]; exact hp
  have KK := kind_any q x v u a _ (hpb _ hbA) (hl.below hbA) hls hxl
  have KH := fun w' (hb : Below w.heap.size w w') => halves_any q x v u a w' (hpb _ hb) (hl.below hb) hxl
  have c0 : ∀ w', Below (w.alloc (.cells #[.int .i64 (x.1 : Nat), .int .i64 (x.2 : Nat)] 119)).heap.size (w.alloc (.cells #[.int .i64 (x.1 : Nat), .int .i64 (x.2 : Nat)] 119)) w' → w'.cell? ⟨w.heap.size, 0, none⟩ = some (.int .i64 (x.1 : Nat)) ∧ w'.cell? ⟨w.heap.size, 1, none⟩ = some (.int .i64 (x.2 : Nat)) := fun w' hb =>
    ⟨(hb.cell (p := ⟨w.heap.size, 0, none⟩) (by simp)).trans (by simp), (hb.cell (p := ⟨w.heap.size, 1, none⟩) (by simp)).trans (by simp)⟩
  by_cases h3 : q.kindV x = 3
  · have hr : stuckL q x s = lacksL 6 [x] s := by rw [stuckL, if_pos h3]
    have KL := fun (W : World) (hb : Below w.heap.size w W) => lacks_any 6 b _ 1 1 _ [x] s _ (hs.below (hb.alloc hb.size _) hs.lt) (place_one W x (n := W.heap.size) rfl) (fun y hy => by simp only [List.mem_singleton] at hy; subst hy; exact hx) hv (by simp)
    rw [hr]
    rw [h3] at KK
    clear h3 hr KH
    generalize lacksL 6 [x] s = r at *
    go_enter Tryz.func221, Tryz.ntmps221
    go_wp2_with (first
      | (go_at_call 207; refine KK.mono ?_; rintro e w1 ⟨rfl, hb1⟩; have hB1 := hbA.trans (hb1.mono hbA.size); obtain ⟨y0, y1⟩ := c0 _ hb1)
      | (go_at_call 219; refine (KL w1 hB1).mono ?_; rintro e w2 ⟨rfl, hb2⟩))
    go_ret
    have hB2 := hB1.alloc hB1.size (.cells #[.int .i64 (x.1 : Nat), .int .i64 (x.2 : Nat)] 119)
    exact ⟨rfl, hB2.trans (hb2.mono hB2.size)⟩
  · have hr : stuckL q x s = lacksL 2 (QP.halvesQ q x) s := by rw [stuckL, if_neg h3]
    have KL := fun (W : World) (g c : Nat) (hb : Below w.heap.size w W) (z : Nat) (hP : PlacesAt z W (.slice (some ⟨g, 0, none⟩) (QP.halvesQ q x).length c) (QP.halvesQ q x)) => lacks_any 2 b z _ c _ (QP.halvesQ q x) s W (hs.below hb hs.lt) hP (halves_in hx) hv (by simp)
    have b3 : (((q.kindV x : Nat) : Int) == 3) = false := by rw [beq_eq_false_iff_ne]; omega
    rw [hr]
    clear h3 hr
    generalize lacksL 2 (QP.halvesQ q x) s = r at *
    generalize QP.halvesQ q x = hv' at *
    generalize q.kindV x = kv at *
    go_enter Tryz.func221, Tryz.ntmps221
    go_wp2_with (first
      | (go_at_call 207; refine KK.mono ?_; rintro e w1 ⟨rfl, hb1⟩; have hB1 := hbA.trans (hb1.mono hbA.size); obtain ⟨y0, y1⟩ := c0 _ hb1)
      | (go_at_call 102; refine (KH w1 hB1).mono ?_; rintro e w2 ⟨g, c, rfl, hP2, hb2⟩; have hB2 := hB1.trans (hb2.mono hB1.size))
      | (go_at_call 219; refine (KL w2 g c hB2 _ hP2).mono ?_; rintro e w3 ⟨rfl, hb3⟩))
    go_ret
    exact ⟨rfl, hB2.trans (hb3.mono hB2.size)⟩
set_option maxRecDepth 20000 in
set_option maxHeartbeats 1000000 in
theorem moved_any (q : QP) (b : Nat) (x : Nat × Nat) (s : List Nat) (v u : Value) (a : Nat) (w : World) (hp : w.heap[a]? = some (.cells #[v, u] 110 (0, 0))) (hl : LocAt w v q.locals) (hls : q.locals.length ≤ 4000) (hxl : x.1 < q.locals.length) (hs : StAt w b s) (hx : x.1 < 12) :
    Calls Tryz.prog 178 #[.pointer (some ⟨b, 0, none⟩), .pointer (some ⟨a, 0, none⟩), .agg #[.int .i64 (x.1 : Nat), .int .i64 (x.2 : Nat)]] w fun e w' => e = .returned (.int .u8 (movedL q x s : Nat)) ∧ Below w.heap.size w w' := by
  have hbA : Below w.heap.size w (w.alloc (.cells #[.int .i64 (x.1 : Nat), .int .i64 (x.2 : Nat)] 119)) := (Below.refl _ _).alloc (Nat.le_refl _) _
  have hlt := lt_of_heap hp
  have hpb : ∀ w', Below w.heap.size w w' → w'.heap[a]? = some (.cells #[v, u] 110 (0, 0)) := fun w' hb => by rw [hb.block a hlt]; exact hp
  have KK := kind_any q x v u a _ (hpb _ hbA) (hl.below hbA) hls hxl
  have c0 : ∀ w', Below (w.alloc (.cells #[.int .i64 (x.1 : Nat), .int .i64 (x.2 : Nat)] 119)).heap.size (w.alloc (.cells #[.int .i64 (x.1 : Nat), .int .i64 (x.2 : Nat)] 119)) w' → w'.cell? ⟨w.heap.size, 0, none⟩ = some (.int .i64 (x.1 : Nat)) ∧ w'.cell? ⟨w.heap.size, 1, none⟩ = some (.int .i64 (x.2 : Nat)) := fun w' hb =>
    ⟨(hb.cell (p := ⟨w.heap.size, 0, none⟩) (by simp)).trans (by simp), (hb.cell (p := ⟨w.heap.size, 1, none⟩) (by simp)).trans (by simp)⟩
  by_cases h3 : q.kindV x = 3
  · have hr : movedL q x s = s.getD (slotQ x) 0 := by rw [movedL, if_pos h3]
    have hsl : slotQ x < 24 := by unfold slotQ; split <;> omega
    have hsi : (slotQ x : Int) < 24 := by omega
    obtain ⟨vv, hvv⟩ : ∃ vv, vv = s.getD (slotQ x) 0 := ⟨_, rfl⟩
    rw [hr, ← hvv]
    rw [h3] at KK
    have HV : Hid (s.getD (slotQ x) 0 = vv) := hvv.symm
    have KS := fun w' => slot_any x w' (by omega)
    clear h3 hr hvv
    go_enter Tryz.func178, Tryz.ntmps178
    go_upto_region 3 with (go_at_call 207; refine KK.mono ?_; rintro e w1 ⟨rfl, hb1⟩; have hB1 := hbA.trans (hb1.mono hbA.size); obtain ⟨y0, y1⟩ := c0 _ hb1)
    have KSd := KS w1.drew
    go_region_with (go_at_call 62; refine KSd.mono ?_; rintro e w2 ⟨rfl, hb2⟩; have hb2' : Below w1.heap.size w1 w2 := ⟨hb2.os, hb2.tape, hb2.output, hb2.size, hb2.block⟩; have hB2 := hB1.trans (hb2'.mono hB1.size); have s1 := ((hs.below hB2 hs.lt).cell (slotQ x) hsl).trans (by rw [HV.out]))
    all_goals go_wp2_with fail
    all_goals
      go_ret
      exact ⟨rfl, hB2⟩
  · have hr : movedL q x s = 2 := by rw [movedL, if_neg h3]
    have b3 : (((q.kindV x : Nat) : Int) == 3) = false := by rw [beq_eq_false_iff_ne]; omega
    rw [hr]
    clear h3 hr
    generalize q.kindV x = kv at *
    go_enter Tryz.func178, Tryz.ntmps178
    go_wp2_with (go_at_call 207; refine KK.mono ?_; rintro e w1 ⟨rfl, hb1⟩; have hB1 := hbA.trans (hb1.mono hbA.size))
    go_ret
    exact ⟨rfl, hB1⟩
theorem matched_any (i : Nat) (w : World) : Calls Tryz.prog 218 #[.int .i64 (i : Nat)] w fun e w' => e = .returned (.int .u8 ((if i = 0 then 4 else 2 : Nat) : Nat)) ∧ w' = w := by
  by_cases h : i = 0
  · subst h
    go_enter Tryz.func218, Tryz.ntmps218
    go_wp2
    go_ret
    exact ⟨rfl, rfl⟩
  · have b0 : ((i : Int) == 0) = false := by rw [beq_eq_false_iff_ne]; omega
    rw [if_neg h]
    clear h
    go_enter Tryz.func218, Tryz.ntmps218
    go_wp2
    go_ret
    exact ⟨rfl, rfl⟩
end Go.Proofs.YtmlgajhhnojdjaaGreatDoor.FlwD
/- What a line takes of a state, and what it makes of one. -/
namespace Go.Proofs.YtmlgajhhnojdjaaGreatDoor.FlwE
open Go Go.RowKit Go.Proofs.YtmlgajhhnojdjaaGreatDoor.Spec Go.Proofs.YtmlgajhhnojdjaaGreatDoor.Aux Go.Proofs.YtmlgajhhnojdjaaGreatDoor.PrjF Go.Proofs.YtmlgajhhnojdjaaGreatDoor.PrjG Go.Proofs.YtmlgajhhnojdjaaGreatDoor.PrjJ Go.Proofs.YtmlgajhhnojdjaaGreatDoor.PrjK Go.Proofs.YtmlgajhhnojdjaaGreatDoor.PrjL Go.Proofs.YtmlgajhhnojdjaaGreatDoor.PrjM Go.Proofs.YtmlgajhhnojdjaaGreatDoor.PrjN Go.Proofs.YtmlgajhhnojdjaaGreatDoor.PrjO Go.Proofs.YtmlgajhhnojdjaaGreatDoor.PrjP Go.Proofs.YtmlgajhhnojdjaaGreatDoor.PrjR Go.Proofs.YtmlgajhhnojdjaaGreatDoor.PrjS Go.Proofs.YtmlgajhhnojdjaaGreatDoor.PrjT Go.Proofs.YtmlgajhhnojdjaaGreatDoor.FlwA Go.Proofs.YtmlgajhhnojdjaaGreatDoor.FlwB Go.Proofs.YtmlgajhhnojdjaaGreatDoor.FlwC Go.Proofs.YtmlgajhhnojdjaaGreatDoor.FlwD

/-- a program as far as the flow of one line asks: its locals -/
structure PQ (w : World) (a : Nat) (q : QP) (v u : Value) : Prop where
  blk : w.heap[a]? = some (.cells #[v, u] 110 (0, 0))
  loc : LocAt w v q.locals
theorem own_turn {w w' : World} {z b : Nat} {e : TypeId} {sz n : Nat} {v : Value} {xs : List Value} (h : w.ownsRow z e sz v n xs) (hT : Turn b w w') {cs : Array Value} {t : TypeId} {f : Nat × Nat} (hb : w.heap[b]? = some (.cells cs t f)) (he : e ≠ t) : w'.ownsRow z e sz v n xs :=
  own_heap h fun g hg => hT.block g (h.lt g hg).2 fun x => by subst x; exact own_at_ne h hb he hg
section
variable {w w' : World} {a b : Nat} {q : QP} {v u : Value} {s : List Nat}
theorem PQ.below (h : PQ w a q v u) (hb : Below w.heap.size w w') : PQ w' a q v u := ⟨by rw [hb.block a (lt_of_heap h.blk)]; exact h.blk, h.loc.below hb⟩
theorem PQ.turn (h : PQ w a q v u) (hT : Turn b w w') (hs : StAt w b s) : PQ w' a q v u := by
  refine ⟨?_, ?_⟩
  · rw [hT.block a (lt_of_heap h.blk) (fun x => by
      have h1 := h.blk; rw [x, hs.2] at h1; simp only [Option.some.injEq, Obj.cells.injEq] at h1; exact absurd h1.2.1 (by decide))]
    exact h.blk
  · obtain ⟨z, hz⟩ := h.loc
    exact ⟨z, own_turn hz hT hs.2 (by decide)⟩
theorem line_turn {z : Nat} {l : QLine} {vp vn : Value} (h : LineAt z w l vp vn) (hT : Turn b w w') (hs : StAt w b s) : LineAt z w' l vp vn :=
  ⟨own_turn h.places hT hs.2 (by decide), own_turn h.next hT hs.2 (by decide)⟩
end
def takeQ (q : QP) (l : QLine) (s : List Nat) : List Nat :=
  if l.op = 12 then takeL (QP.halvesQ q (l.places.getD 1 (0, 0))) s else if l.op = 14 then takeL [l.places.getD 1 (0, 0)] s else s
theorem place_at {z : Nat} {w : World} {ap : Option Addr} {cp : Nat} {l : QLine} {vn : Value} (h : LineAt z w l (.slice ap l.places.length cp) vn) {n : Nat} (hn : l.places.length = n) (j : Nat) (hj : j < n) :
    ∃ g, ap = some ⟨g, 0, none⟩ ∧ n ≤ cp ∧ g < w.heap.size ∧ w.cell? ⟨g, j * 2, none⟩ = some (.int .i64 ((l.places.getD j (0, 0)).1 : Nat)) ∧ w.cell? ⟨g, j * 2 + 1, none⟩ = some (.int .i64 ((l.places.getD j (0, 0)).2 : Nat)) := by
  obtain ⟨g, e, -, hc, hg, c1, c2⟩ := places_cells h.places j (by omega)
  exact ⟨g, e, by omega, hg, c1, c2⟩
set_option maxRecDepth 20000 in
set_option maxHeartbeats 1000000 in
theorem take_line (q : QP) (l : QLine) (nb z a b : Nat) (v u : Value) (ap an : Option Addr) (cp cn : Nat) (s : List Nat) (w : World) (hp : PQ w a q v u) (hls : q.locals.length ≤ 12) (hl : LOk q.locals.length nb l)
    (hA : LineAt z w l (.slice ap l.places.length cp) (.slice an l.next.length cn)) (hs : StAt w b s) :
    Calls Tryz.prog 125 #[.pointer (some ⟨b, 0, none⟩), .pointer (some ⟨a, 0, none⟩), .agg #[.int .i64 (l.num : Nat), .int .i64 (l.op : Nat), .slice ap l.places.length cp, .int .i64 l.number, .int .i64 l.flag, .slice an l.next.length cn]] w fun e w' => e = .returned (.tuple #[]) ∧ StAt w' b (takeQ q l s) ∧ Turn b w w' := by
  have hbA : Below w.heap.size w (w.alloc (.cells #[.int .i64 (l.num : Nat), .int .i64 (l.op : Nat), .slice ap l.places.length cp, .int .i64 l.number, .int .i64 l.flag, .slice an l.next.length cn] 115)) := (Below.refl _ _).alloc (Nat.le_refl _) _
  by_cases h12 : l.op = 12
  · have hlen : l.places.length = 2 := by rw [hl.plen, h12]; rfl
    obtain ⟨g, rfl, hcp, hg, c1, c2⟩ := place_at hA hlen 1 (by omega)
    have d1 := (hbA.cell (p := ⟨g, 2, none⟩) hg).trans c1
    have d2 := (hbA.cell (p := ⟨g, 3, none⟩) hg).trans c2
    have hx := (hl.places (l.places.getD 1 (0, 0)) (by simp [hlen])).1
    have hr : takeQ q l s = takeL (QP.halvesQ q (l.places.getD 1 (0, 0))) s := by rw [takeQ, if_pos h12]
    have b12 : (((l.op : Nat) : Int) == 12) = true := by rw [h12]; rfl
    have hpA := hp.below hbA
    have KH := halves_any q (l.places.getD 1 (0, 0)) v u a _ hpA.blk hpA.loc hx
    rw [hr]
    clear hr c1 c2
    generalize l.places.getD 1 (0, 0) = x at *
    have KT := fun (W : World) (g c : Nat) (hb : Below w.heap.size w W) (z : Nat) (hP : PlacesAt z W (.slice (some ⟨g, 0, none⟩) (QP.halvesQ q x).length c) (QP.halvesQ q x)) => take_any b z _ c _ (QP.halvesQ q x) s W (hs.below hb hs.lt) hP (halves_in (by omega))
    have hop : Hid (l.op = 12) := h12
    rw [hlen] at hbA d1 d2 KH ⊢
    clear h12
    go_enter Tryz.func125, Tryz.ntmps125
    go_wp2_with (first
      | (go_at_call 102; refine KH.mono ?_; rintro e w2 ⟨g2, c2, rfl, hP2, hb2⟩; have hB2 := hbA.trans (hb2.mono hbA.size))
      | (go_at_call 174; refine (KT w2 g2 c2 hB2 _ hP2).mono ?_; rintro e w3 ⟨rfl, hS3, hT3⟩))
    go_end0
    exact ⟨rfl, hS3, (Turn.of hB2).trans hT3⟩
  · have b12 : (((l.op : Nat) : Int) == 12) = false := by rw [beq_eq_false_iff_ne]; omega
    by_cases h14 : l.op = 14
    · have hlen : l.places.length = 2 := by rw [hl.plen, h14]; rfl
      obtain ⟨g, rfl, hcp, hg, c1, c2⟩ := place_at hA hlen 1 (by omega)
      have d1 := (hbA.cell (p := ⟨g, 2, none⟩) hg).trans c1
      have d2 := (hbA.cell (p := ⟨g, 3, none⟩) hg).trans c2
      have hx := (hl.places (l.places.getD 1 (0, 0)) (by simp [hlen])).1
      have hr : takeQ q l s = takeL [l.places.getD 1 (0, 0)] s := by rw [takeQ, if_neg h12, if_pos h14]
      have b14 : (((l.op : Nat) : Int) == 14) = true := by rw [h14]; rfl
      rw [hr]
      clear hr c1 c2
      generalize l.places.getD 1 (0, 0) = x at *
      rw [hlen] at hbA d1 d2 ⊢
      have hbB := hbA.alloc hbA.size (.cells #[.int .i64 (x.1 : Nat), .int .i64 (x.2 : Nat)] 119)
      have KT := take_any b _ 1 1 _ [x] s _ (hs.below hbB hs.lt) (place_one (w.alloc (.cells #[.int .i64 (l.num : Nat), .int .i64 (l.op : Nat), .slice (some ⟨g, 0, none⟩) 2 cp, .int .i64 l.number, .int .i64 l.flag, .slice an l.next.length cn] 115)) x (n := w.heap.size + 1) (by simp)) (fun y hy => by simp only [List.mem_singleton] at hy; subst hy; omega)
      clear h12 h14
      go_enter Tryz.func125, Tryz.ntmps125
      go_wp2_with (go_at_call 174; refine KT.mono ?_; rintro e w3 ⟨rfl, hS3, hT3⟩)
      go_end0
      exact ⟨rfl, hS3, (Turn.of hbB).trans hT3⟩
    · have b14 : (((l.op : Nat) : Int) == 14) = false := by rw [beq_eq_false_iff_ne]; omega
      have hr : takeQ q l s = s := by rw [takeQ, if_neg h12, if_neg h14]
      rw [hr]
      clear hr h12 h14
      go_enter Tryz.func125, Tryz.ntmps125
      go_wp2
      go_end0
      exact ⟨rfl, hs.below hbA hs.lt, Turn.of hbA⟩
end Go.Proofs.YtmlgajhhnojdjaaGreatDoor.FlwE
/- The project's machine that owns: inputs taken; places emptied. -/
namespace Go.Proofs.YtmlgajhhnojdjaaGreatDoor.Own
open Go Go.RowKit Go.Proofs.YtmlgajhhnojdjaaGreatDoor.Spec Go.Proofs.YtmlgajhhnojdjaaGreatDoor.Aux Go.Proofs.YtmlgajhhnojdjaaGreatDoor.PrjJ Go.Proofs.YtmlgajhhnojdjaaGreatDoor.PrjK Go.Proofs.YtmlgajhhnojdjaaGreatDoor.PrjL Go.Proofs.YtmlgajhhnojdjaaGreatDoor.PrjM Go.Proofs.YtmlgajhhnojdjaaGreatDoor.PrjS Go.Proofs.YtmlgajhhnojdjaaGreatDoor.PrjT Go.Proofs.YtmlgajhhnojdjaaGreatDoor.FlwA Go.Proofs.YtmlgajhhnojdjaaGreatDoor.FlwB Go.Proofs.YtmlgajhhnojdjaaGreatDoor.FlwE

section
variable {x a : Nat} {w w0 : World} {vm vt vi : Value} {o : Own}
theorem OAt.fd (h : OAt w0 x a w o vi vm vt) : w.cell? ⟨x, 4, none⟩ = some vi ∧ w.frozen? ⟨x, 4, none⟩ = false := h.yat.more 1
theorem OAt.setFeed (h : OAt w0 x a w o vi vm vt) {vi' : Value} {l : List Int} (hf : FeedAt w0 vi' l) : OAt w0 x a (w.setCell ⟨x, 4, none⟩ vi') { o with inp := l } vi' vm vt ∧ Roam x vm vt w vm vt (w.setCell ⟨x, 4, none⟩ vi') := by
  obtain ⟨h1, h2⟩ := h.yat.setRest 1 vi'
  exact ⟨⟨h1, h.old.trans (h2.below h.yat (Nat.le_refl _) h.old.size), h.ints, h.boxes, hf⟩, h2⟩
theorem FeedAt.tail {v : Int} {r : List Int} {g f c : Nat} (h : FeedAt w0 (.slice (some ⟨g, f, none⟩) (v :: r).length c) (v :: r)) : FeedAt w0 (.slice (some ⟨g, f + 1, none⟩) r.length (c - 1)) r := by
  obtain ⟨ad, c', e, h1, h2, h3⟩ := h
  simp only [Value.slice.injEq] at e
  obtain ⟨rfl, -, rfl⟩ := e
  simp only [List.length_cons] at h1
  refine ⟨_, _, rfl, by omega, by omega, fun j hj => ?_⟩
  obtain ⟨g', f', e, hg, hc⟩ := h3 (j + 1) (by simp; omega)
  simp only [Option.some.injEq, Addr.mk.injEq, and_true] at e
  obtain ⟨rfl, rfl⟩ := e
  exact ⟨g, f + 1, rfl, hg, by rw [show f + 1 + j = f + (j + 1) by omega, hc]; rfl⟩
set_option maxRecDepth 20000 in
theorem feed_any (h : OAt w0 x a w o vi vm vt) :
    Calls Tryz.prog 103 #[.pointer (some ⟨x, 4, none⟩)] w fun e w' => e = .returned (.int .i64 (o.inp.headD 0)) ∧ ∃ vi', OAt w0 x a w' { o with inp := o.inp.tail } vi' vm vt ∧ Roam x vm vt w vm vt w' := by
  obtain ⟨c4, f4⟩ := h.fd
  have hF := h.feed
  cases hin : o.inp with
  | nil =>
    rw [hin] at hF
    obtain ⟨ad, c, rfl, h1, h2, -⟩ := hF
    have hO : { o with inp := ([] : List Int) } = o := by rw [← hin]
    go_enter Tryz.func103, Tryz.ntmps103
    go_wp2
    go_ret
    exact ⟨rfl, _, by rw [List.tail_nil, hO]; exact h, Roam.refl _ _ _ _⟩
  | cons v r =>
    rw [hin] at hF
    have hF' := hF
    obtain ⟨ad, c, rfl, h1, h2, h3⟩ := hF
    obtain ⟨g, f, rfl, hg, hc⟩ := h3 0 (by simp)
    have hT := FeedAt.tail hF'
    obtain ⟨h5, h6⟩ := h.setFeed hT
    have c0 : w.cell? ⟨g, f, none⟩ = some (.int .i64 v) := by
      rw [Nat.add_zero] at hc
      exact (h.old.cell (p := ⟨g, f, none⟩) hg).trans hc
    simp only [List.length_cons] at h1 h2 h5 c4
    have i0 : ¬ ((r.length : Int) + 1 = 0) := by omega
    have i1 : (((r.length : Int) + 1) == 0) = false := by rw [beq_eq_false_iff_ne]; omega
    have i2 : (1 : Int) ≤ (r.length : Int) + 1 := by omega
    have hcI : (r.length : Int) + 1 ≤ (c : Int) := by omega
    unfold maxLen at h2
    by_cases hc1 : c = 1
    · subst hc1
      have hr : r = [] := List.length_eq_zero_iff.mp (by omega)
      subst hr
      have hT0 : FeedAt w0 (.slice (some ⟨g, f, none⟩) 0 0) [] := ⟨_, _, rfl, Nat.le_refl _, Nat.zero_le _, fun j hj => absurd hj (Nat.not_lt_zero _)⟩
      obtain ⟨k5, k6⟩ := h.setFeed hT0
      go_enter Tryz.func103, Tryz.ntmps103
      go_wp2
      go_ret
      exact ⟨rfl, _, k5, k6⟩
    · have hc2 : ¬ c - 1 = 0 := by omega
      have hc3 : ¬ c ≤ 1 := by omega
      go_enter Tryz.func103, Tryz.ntmps103
      go_wp2
      go_ret
      exact ⟨rfl, _, h5, h6⟩
end
/-- places emptied, one by one -/
def Own.clear (o : Own) (p : Nat × Nat) : Own := { o with boxes := o.boxes.set (slotQ p) 0 }
def Own.take : List (Nat × Nat) → Own → List Nat × Own
  | [], o => ([], o)
  | p :: ps, o => (o.box p :: (Own.take ps (o.clear p)).1, (Own.take ps (o.clear p)).2)
theorem take_last : ∀ (ps : List (Nat × Nat)) (p : Nat × Nat) (o : Own), Own.take (ps ++ [p]) o = ((Own.take ps o).1 ++ [(Own.take ps o).2.box p], (Own.take ps o).2.clear p)
  | [], _, _ => rfl
  | q :: ps, p, o => by rw [List.cons_append, Own.take, take_last ps p, Own.take]; rfl
end Go.Proofs.YtmlgajhhnojdjaaGreatDoor.Own
