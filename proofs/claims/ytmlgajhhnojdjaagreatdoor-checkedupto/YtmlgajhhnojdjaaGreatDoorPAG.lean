/- What the project's flow makes of a state: places put and taken. -/
import Derived.Test.YtmlgajhhnojdjaaGreatDoorPAF
import Derived.Deep.MidRow
namespace Go.Proofs.YtmlgajhhnojdjaaGreatDoor.FlwB
open Go Go.RowKit Go.Proofs.YtmlgajhhnojdjaaGreatDoor.Spec Go.Proofs.YtmlgajhhnojdjaaGreatDoor.Aux Go.Proofs.YtmlgajhhnojdjaaGreatDoor.PrjF Go.Proofs.YtmlgajhhnojdjaaGreatDoor.PrjG Go.Proofs.YtmlgajhhnojdjaaGreatDoor.PrjJ Go.Proofs.YtmlgajhhnojdjaaGreatDoor.PrjK Go.Proofs.YtmlgajhhnojdjaaGreatDoor.PrjL Go.Proofs.YtmlgajhhnojdjaaGreatDoor.PrjM Go.Proofs.YtmlgajhhnojdjaaGreatDoor.PrjN Go.Proofs.YtmlgajhhnojdjaaGreatDoor.PrjO Go.Proofs.YtmlgajhhnojdjaaGreatDoor.PrjP Go.Proofs.YtmlgajhhnojdjaaGreatDoor.PrjR Go.Proofs.YtmlgajhhnojdjaaGreatDoor.PrjT Go.Proofs.YtmlgajhhnojdjaaGreatDoor.FlwA

def stCells (s : List Nat) : List Value := s.map fun n => .int .u8 (n : Nat)
/-- a state in a block of its own -/
def StAt (w : World) (b : Nat) (s : List Nat) : Prop := s.length = 24 ∧ w.heap[b]? = some (.cells (stCells s).toArray 209 (0, 0))
section
variable {w w' : World} {b : Nat} {s : List Nat}
theorem StAt.lt (h : StAt w b s) : b < w.heap.size := lt_of_heap h.2
theorem StAt.below {z : Nat} (h : StAt w b s) (hb : Below z w w') (hz : b < z) : StAt w' b s := ⟨h.1, by rw [hb.block b hz]; exact h.2⟩
theorem StAt.cell (h : StAt w b s) (k : Nat) (hk : k < 24) : w.cell? ⟨b, k, none⟩ = some (.int .u8 (s.getD k 0 : Nat)) := by
  rw [cell_of_heap h.2]
  have : k < s.length := by rw [h.1]; exact hk
  simp [stCells, this]
theorem StAt.frozen (h : StAt w b s) (k : Nat) : w.frozen? ⟨b, k, none⟩ = false := frozen_of_heap h.2 k
theorem StAt.set (h : StAt w b s) (k n : Nat) : StAt (w.setCell ⟨b, k, none⟩ (.int .u8 (n : Nat))) b (s.set k n) := by
  refine ⟨by simpa using h.1, ?_⟩
  rw [Go.Proofs.YtmlgajhhnojdjaaGreatDoor.Aux.heap_setCell_same h.2 k]
  congr 2
  simp [stCells, List.map_set]
end
def putL (may : Nat) (ps : List (Nat × Nat)) (s : List Nat) : List Nat := ps.foldl (fun s x => s.set (slotQ x) may) s
def takeL (ps : List (Nat × Nat)) (s : List Nat) : List Nat := ps.foldl (fun s x => s.set (slotQ x) (if x.2 = 3 then 8 else 1)) s
theorem putL_step (may : Nat) (ps : List (Nat × Nat)) (k : Nat) (hk : k < ps.length) (s : List Nat) : putL may (ps.drop k) s = putL may (ps.drop (k + 1)) (s.set (slotQ (ps.getD k (0, 0))) may) := by
  rw [List.drop_eq_getElem_cons hk]
  have : ps.getD k (0, 0) = ps[k] := by simp [List.getD_eq_getElem?_getD, hk]
  rw [this]; rfl
theorem takeL_step (ps : List (Nat × Nat)) (k : Nat) (hk : k < ps.length) (s : List Nat) : takeL (ps.drop k) s = takeL (ps.drop (k + 1)) (s.set (slotQ (ps.getD k (0, 0))) (if (ps.getD k (0, 0)).2 = 3 then 8 else 1)) := by
  rw [List.drop_eq_getElem_cons hk]
  have : ps.getD k (0, 0) = ps[k] := by simp [List.getD_eq_getElem?_getD, hk]
  rw [this]; rfl
set_option maxRecDepth 20000 in
set_option maxHeartbeats 1000000 in
theorem put_any (may b z n c : Nat) (ad : Option Addr) (ps : List (Nat × Nat)) (s : List Nat) (w : World) (hs : StAt w b s) (hp : PlacesAt z w (.slice ad n c) ps) (hx : ∀ x ∈ ps, x.1 < 12) (_hm : may < 16) :
    Calls Tryz.prog 177 #[.pointer (some ⟨b, 0, none⟩), .int .u8 (may : Nat), .slice ad n c] w fun e w' => e = .returned (.tuple #[]) ∧ StAt w' b (putL may ps s) ∧ Turn b w w' := by
  have hn : n = ps.length := by
    obtain ⟨ad', c', e⟩ := own_slice hp
    simp only [Value.slice.injEq] at e; exact e.2.1
  have hlen : ps.length ≤ maxLen := by
    rcases hp.2 with ⟨-, h⟩ | ⟨g, cap, cur, -, -, -, h1, h2, -⟩
    · omega
    · omega
  unfold maxLen at hlen
  subst hn
  have HF : Hid (putL may ps s = putL may (ps.drop 0) s) := rfl
  go_enter Tryz.func177, Tryz.ntmps177
  go_wp2
  go_loopg [10] (ps.length) (fun g v10 wr => ∃ (k : Nat) (t : List Nat), k ≤ ps.length ∧ g + k = ps.length ∧ v10 = .int .i64 k ∧ StAt wr b t ∧ Turn b w wr ∧ Hid (putL may ps s = putL may (ps.drop k) t))
  case atStart => exact ⟨0, s, Nat.zero_le _, rfl, rfl, hs, Turn.refl _ _, HF⟩
  case round =>
    obtain ⟨k, t, hk, hgk, rfl, hS, hT, HI⟩ := hrel
    by_cases hlt : k < ps.length
    · have hpr : PlacesAt z wr (.slice ad ps.length c) ps := own_heap hp fun g hg => hT.block g (hp.lt g hg).2 fun x => by
        subst x; exact own_at_ne hp hs.2 (by decide) hg
      obtain ⟨gp, rfl, -, hcp, hgp, c1, c2⟩ := places_cells hpr k hlt
      have hx1 := hx (ps.getD k (0, 0)) (by simp [hlt])
      have HS : Hid (_ = _) := HI.out.trans (putL_step may ps k hlt t)
      generalize ps.getD k (0, 0) = x at *
      have hsl : slotQ x < 24 := by unfold slotQ; split <;> omega
      have hsi : (slotQ x : Int) < 24 := by omega
      have hbx : Below wr.heap.size wr (wr.alloc (.cells #[.int .i64 (x.1 : Nat), .int .i64 (x.2 : Nat)] 119)) := (Below.refl _ _).alloc (Nat.le_refl _) _
      have hlb := hS.lt
      have KS := slot_any x (wr.alloc (.cells #[.int .i64 (x.1 : Nat), .int .i64 (x.2 : Nat)] 119)).drew (by omega)
      go_wp2
      go_region_with (go_at_call 62; refine KS.mono ?_; rintro e w1 ⟨rfl, hb1⟩; have hb1' : Below wr.heap.size wr w1 := (hbx.trans ((⟨hb1.os, hb1.tape, hb1.output, hb1.size, hb1.block⟩ : Below _ (wr.alloc (.cells #[.int .i64 (x.1 : Nat), .int .i64 (x.2 : Nat)] 119)) w1).mono hbx.size)); have hS1 := hS.below hb1' hlb; have s1 := hS1.cell (slotQ x) hsl; have s2 := hS1.frozen (slotQ x))
      all_goals go_wp2_with fail
      all_goals
        go_roundg (ps.length - (k + 1))
        case measure => omega
        case rel => exact ⟨k + 1, t.set (slotQ x) may, by omega, by omega, by go_num, hS1.set _ may, (hT.on hb1').setCell _ _, HS.out⟩
    · have hx : putL may ps s = t := by rw [HI.out, List.drop_eq_nil_of_le (by omega)]; rfl
      go_wp2
      go_end0
      exact ⟨rfl, by rw [hx]; exact hS, hT⟩
set_option maxRecDepth 20000 in
set_option maxHeartbeats 1000000 in
theorem take_any (b z n c : Nat) (ad : Option Addr) (ps : List (Nat × Nat)) (s : List Nat) (w : World) (hs : StAt w b s) (hp : PlacesAt z w (.slice ad n c) ps) (hx : ∀ x ∈ ps, x.1 < 12) :
    Calls Tryz.prog 174 #[.pointer (some ⟨b, 0, none⟩), .slice ad n c] w fun e w' => e = .returned (.tuple #[]) ∧ StAt w' b (takeL ps s) ∧ Turn b w w' := by
  have hn : n = ps.length := by
    obtain ⟨ad', c', e⟩ := own_slice hp
    simp only [Value.slice.injEq] at e; exact e.2.1
  have hlen : ps.length ≤ maxLen := by
    rcases hp.2 with ⟨-, h⟩ | ⟨g, cap, cur, -, -, -, h1, h2, -⟩
    · omega
    · omega
  unfold maxLen at hlen
  subst hn
  have HF : Hid (takeL ps s = takeL (ps.drop 0) s) := rfl
  go_enter Tryz.func174, Tryz.ntmps174
  go_wp2
  go_loopg [8] (ps.length) (fun g v8 wr => ∃ (k : Nat) (t : List Nat), k ≤ ps.length ∧ g + k = ps.length ∧ v8 = .int .i64 k ∧ StAt wr b t ∧ Turn b w wr ∧ Hid (takeL ps s = takeL (ps.drop k) t))
  case atStart => exact ⟨0, s, Nat.zero_le _, rfl, rfl, hs, Turn.refl _ _, HF⟩
  case round =>
    obtain ⟨k, t, hk, hgk, rfl, hS, hT, HI⟩ := hrel
    by_cases hlt : k < ps.length
    · have hpr : PlacesAt z wr (.slice ad ps.length c) ps := own_heap hp fun g hg => hT.block g (hp.lt g hg).2 fun x => by
        subst x; exact own_at_ne hp hs.2 (by decide) hg
      obtain ⟨gp, rfl, -, hcp, hgp, c1, c2⟩ := places_cells hpr k hlt
      have hx1 := hx (ps.getD k (0, 0)) (by simp [hlt])
      have HS : Hid (_ = _) := HI.out.trans (takeL_step ps k hlt t)
      generalize ps.getD k (0, 0) = x at *
      have hsl : slotQ x < 24 := by unfold slotQ; split <;> omega
      have hsi : (slotQ x : Int) < 24 := by omega
      have hbx : Below wr.heap.size wr (wr.alloc (.cells #[.int .i64 (x.1 : Nat), .int .i64 (x.2 : Nat)] 119)) := (Below.refl _ _).alloc (Nat.le_refl _) _
      have hlb := hS.lt
      have KS := slot_any x (wr.alloc (.cells #[.int .i64 (x.1 : Nat), .int .i64 (x.2 : Nat)] 119)).drew (by omega)
      by_cases h3 : x.2 = 3
      · have hb3 : (((x.2 : Nat) : Int) == 3) = true := by rw [h3]; rfl
        have HP : Hid (x.2 = 3) := h3
        clear h3
        go_wp2
        go_region_with (go_at_call 62; refine KS.mono ?_; rintro e w1 ⟨rfl, hb1⟩; have hb1' : Below wr.heap.size wr w1 := (hbx.trans ((⟨hb1.os, hb1.tape, hb1.output, hb1.size, hb1.block⟩ : Below _ (wr.alloc (.cells #[.int .i64 (x.1 : Nat), .int .i64 (x.2 : Nat)] 119)) w1).mono hbx.size)); have hS1 := hS.below hb1' hlb; have s1 := hS1.cell (slotQ x) hsl; have s2 := hS1.frozen (slotQ x))
        all_goals go_wp2_with fail
        all_goals
          go_roundg (ps.length - (k + 1))
          case measure => omega
          case rel => exact ⟨k + 1, t.set (slotQ x) 8, by omega, by omega, by go_num, hS1.set _ 8, (hT.on hb1').setCell _ _, by unfold Hid; rw [HS.out, if_pos HP.out]⟩
      · have hb3 : (((x.2 : Nat) : Int) == 3) = false := by rw [beq_eq_false_iff_ne]; omega
        have HP : Hid (¬ x.2 = 3) := h3
        clear h3
        go_wp2
        go_region_with (go_at_call 62; refine KS.mono ?_; rintro e w1 ⟨rfl, hb1⟩; have hb1' : Below wr.heap.size wr w1 := (hbx.trans ((⟨hb1.os, hb1.tape, hb1.output, hb1.size, hb1.block⟩ : Below _ (wr.alloc (.cells #[.int .i64 (x.1 : Nat), .int .i64 (x.2 : Nat)] 119)) w1).mono hbx.size)); have hS1 := hS.below hb1' hlb; have s1 := hS1.cell (slotQ x) hsl; have s2 := hS1.frozen (slotQ x))
        all_goals go_wp2_with fail
        all_goals
          go_roundg (ps.length - (k + 1))
          case measure => omega
          case rel => exact ⟨k + 1, t.set (slotQ x) 1, by omega, by omega, by go_num, hS1.set _ 1, (hT.on hb1').setCell _ _, by unfold Hid; rw [HS.out, if_neg HP.out]⟩
    · have hx : takeL ps s = t := by rw [HI.out, List.drop_eq_nil_of_le (by omega)]; rfl
      go_wp2
      go_end0
      exact ⟨rfl, by rw [hx]; exact hS, hT⟩
end Go.Proofs.YtmlgajhhnojdjaaGreatDoor.FlwB
/- What the project's flow answers on whether places lack what must be there. -/
namespace Go.Proofs.YtmlgajhhnojdjaaGreatDoor.FlwC
open Go Go.RowKit Go.Proofs.YtmlgajhhnojdjaaGreatDoor.Spec Go.Proofs.YtmlgajhhnojdjaaGreatDoor.Aux Go.Proofs.YtmlgajhhnojdjaaGreatDoor.PrjF Go.Proofs.YtmlgajhhnojdjaaGreatDoor.PrjG Go.Proofs.YtmlgajhhnojdjaaGreatDoor.PrjJ Go.Proofs.YtmlgajhhnojdjaaGreatDoor.PrjK Go.Proofs.YtmlgajhhnojdjaaGreatDoor.PrjL Go.Proofs.YtmlgajhhnojdjaaGreatDoor.PrjM Go.Proofs.YtmlgajhhnojdjaaGreatDoor.PrjN Go.Proofs.YtmlgajhhnojdjaaGreatDoor.PrjO Go.Proofs.YtmlgajhhnojdjaaGreatDoor.PrjP Go.Proofs.YtmlgajhhnojdjaaGreatDoor.PrjR Go.Proofs.YtmlgajhhnojdjaaGreatDoor.PrjT Go.Proofs.YtmlgajhhnojdjaaGreatDoor.FlwA Go.Proofs.YtmlgajhhnojdjaaGreatDoor.FlwB

def lackB (fit v : Nat) : Bool := !(v &&& (15 - fit) == 0)
theorem lack_bits : ∀ v : Nat, v < 16 → ((bits .andNot .u8 (v : Int) 2 != 0) = lackB 2 v) ∧ ((bits .andNot .u8 (v : Int) 6 != 0) = lackB 6 v) ∧ ((bits .andNot .u8 (v : Int) 10 != 0) = lackB 10 v) := by decide
theorem lack_fit {v fit : Nat} (hv : v < 16) (hfit : fit = 2 ∨ fit = 6 ∨ fit = 10) : (bits .andNot .u8 (v : Int) (fit : Int) != 0) = lackB fit v := by
  obtain ⟨h1, h2, h3⟩ := lack_bits v hv
  rcases hfit with rfl | rfl | rfl
  · exact h1
  · exact h2
  · exact h3
def lacksL (fit : Nat) (ps : List (Nat × Nat)) (s : List Nat) : Bool := ps.any fun x => lackB fit (s.getD (slotQ x) 0)
theorem lacks_step (fit : Nat) (ps : List (Nat × Nat)) (k : Nat) (hk : k < ps.length) (s : List Nat) : lacksL fit (ps.drop k) s = (lackB fit (s.getD (slotQ (ps.getD k (0, 0))) 0) || lacksL fit (ps.drop (k + 1)) s) := by
  rw [List.drop_eq_getElem_cons hk]
  have : ps.getD k (0, 0) = ps[k] := by simp [List.getD_eq_getElem?_getD, hk]
  rw [this]; rfl
set_option maxRecDepth 20000 in
set_option maxHeartbeats 1000000 in
theorem lacks_any (fit b z n c : Nat) (ad : Option Addr) (ps : List (Nat × Nat)) (s : List Nat) (w : World) (hs : StAt w b s) (hp : PlacesAt z w (.slice ad n c) ps) (hx : ∀ x ∈ ps, x.1 < 12) (hv : ∀ k, s.getD k 0 < 16) (hfit : fit = 2 ∨ fit = 6 ∨ fit = 10) :
    Calls Tryz.prog 219 #[.pointer (some ⟨b, 0, none⟩), .int .u8 (fit : Nat), .slice ad n c] w fun e w' => e = .returned (.bool (lacksL fit ps s)) ∧ Below w.heap.size w w' := by
  have hn : n = ps.length := by
    obtain ⟨ad', c', e⟩ := own_slice hp
    simp only [Value.slice.injEq] at e; exact e.2.1
  have hlen : ps.length ≤ maxLen := by
    rcases hp.2 with ⟨-, h⟩ | ⟨g, cap, cur, -, -, -, h1, h2, -⟩
    · omega
    · omega
  unfold maxLen at hlen
  subst hn
  have HF : Hid (lacksL fit ps s = lacksL fit (ps.drop 0) s) := rfl
  go_enter Tryz.func219, Tryz.ntmps219
  go_wp2
  go_loopg [11] (ps.length) (fun g v10 wr => ∃ k : Nat, k ≤ ps.length ∧ g + k = ps.length ∧ v10 = .int .i64 k ∧ Below w.heap.size w wr ∧ Hid (lacksL fit ps s = lacksL fit (ps.drop k) s))
  case atStart => exact ⟨0, Nat.zero_le _, rfl, rfl, Below.refl _ _, HF⟩
  case round =>
    obtain ⟨k, hk, hgk, rfl, hB, HI⟩ := hrel
    by_cases hlt : k < ps.length
    · obtain ⟨gp, rfl, -, hcp, hgp, c1, c2⟩ := places_cells (own_below hp hB) k hlt
      have hx1 := hx (ps.getD k (0, 0)) (by simp [hlt])
      have HS : Hid (_ = _) := HI.out.trans (lacks_step fit ps k hlt s)
      generalize ps.getD k (0, 0) = x at *
      have hsl : slotQ x < 24 := by unfold slotQ; split <;> omega
      have hsi : (slotQ x : Int) < 24 := by omega
      have hbx : Below wr.heap.size wr (wr.alloc (.cells #[.int .i64 (x.1 : Nat), .int .i64 (x.2 : Nat)] 119)) := (Below.refl _ _).alloc (Nat.le_refl _) _
      have hlb := hs.lt
      have KS := slot_any x (wr.alloc (.cells #[.int .i64 (x.1 : Nat), .int .i64 (x.2 : Nat)] 119)).drew (by omega)
      have hvk := hv (slotQ x)
      obtain ⟨v, hvv⟩ : ∃ v, v = s.getD (slotQ x) 0 := ⟨_, rfl⟩
      rw [← hvv] at hvk HS
      have HV : Hid (s.getD (slotQ x) 0 = v) := hvv.symm
      clear hvv
      cases hl : lackB fit v
      · have hbit : (bits .andNot .u8 (v : Int) (fit : Int) != 0) = false := by rw [lack_fit hvk hfit]; exact hl
        have HL : Hid (_ = _) := hl
        clear hl
        go_upto_region 4 with fail
        go_region_with (go_at_call 62; refine KS.mono ?_; rintro e w1 ⟨rfl, hb1⟩; have hb1' : Below wr.heap.size wr w1 := (hbx.trans ((⟨hb1.os, hb1.tape, hb1.output, hb1.size, hb1.block⟩ : Below _ (wr.alloc (.cells #[.int .i64 (x.1 : Nat), .int .i64 (x.2 : Nat)] 119)) w1).mono hbx.size)); have hS1 := (hs.below hB hlb).below hb1' (Nat.lt_of_lt_of_le hlb hB.size); have s1 := (hS1.cell (slotQ x) hsl).trans (by rw [HV.out]))
        all_goals go_wp2_with fail
        all_goals
          go_roundg (ps.length - (k + 1))
          case measure => omega
          case rel => exact ⟨k + 1, by omega, by omega, by go_num, hB.trans (hb1'.mono hB.size), by unfold Hid; rw [HS.out, HL.out]; rfl⟩
      · have hbit : (bits .andNot .u8 (v : Int) (fit : Int) != 0) = true := by rw [lack_fit hvk hfit]; exact hl
        have HL : Hid (_ = _) := hl
        clear hl
        go_upto_region 4 with fail
        go_region_with (go_at_call 62; refine KS.mono ?_; rintro e w1 ⟨rfl, hb1⟩; have hb1' : Below wr.heap.size wr w1 := (hbx.trans ((⟨hb1.os, hb1.tape, hb1.output, hb1.size, hb1.block⟩ : Below _ (wr.alloc (.cells #[.int .i64 (x.1 : Nat), .int .i64 (x.2 : Nat)] 119)) w1).mono hbx.size)); have hS1 := (hs.below hB hlb).below hb1' (Nat.lt_of_lt_of_le hlb hB.size); have s1 := (hS1.cell (slotQ x) hsl).trans (by rw [HV.out]))
        all_goals go_wp2_with fail
        all_goals
          go_ret
          exact ⟨by rw [HS.out, HL.out]; rfl, hB.trans (hb1'.mono hB.size)⟩
    · have hx : lacksL fit ps s = false := by rw [HI.out, List.drop_eq_nil_of_le (by omega)]; rfl
      go_wp2
      go_ret
      exact ⟨by rw [hx]; rfl, hB⟩
end Go.Proofs.YtmlgajhhnojdjaaGreatDoor.FlwC
/- What the project's flow answers on places that are shut or stuck, and on how a thing is behind its being moved. -/
namespace Go.Proofs.YtmlgajhhnojdjaaGreatDoor.FlwD
open Go Go.RowKit Go.Proofs.YtmlgajhhnojdjaaGreatDoor.Spec Go.Proofs.YtmlgajhhnojdjaaGreatDoor.Aux Go.Proofs.YtmlgajhhnojdjaaGreatDoor.PrjF Go.Proofs.YtmlgajhhnojdjaaGreatDoor.PrjG Go.Proofs.YtmlgajhhnojdjaaGreatDoor.PrjJ Go.Proofs.YtmlgajhhnojdjaaGreatDoor.PrjK Go.Proofs.YtmlgajhhnojdjaaGreatDoor.PrjL Go.Proofs.YtmlgajhhnojdjaaGreatDoor.PrjM Go.Proofs.YtmlgajhhnojdjaaGreatDoor.PrjN Go.Proofs.YtmlgajhhnojdjaaGreatDoor.PrjO Go.Proofs.YtmlgajhhnojdjaaGreatDoor.PrjP Go.Proofs.YtmlgajhhnojdjaaGreatDoor.PrjR Go.Proofs.YtmlgajhhnojdjaaGreatDoor.PrjT Go.Proofs.YtmlgajhhnojdjaaGreatDoor.FlwA Go.Proofs.YtmlgajhhnojdjaaGreatDoor.FlwB Go.Proofs.YtmlgajhhnojdjaaGreatDoor.FlwC

def shutL (x : Nat × Nat) (s : List Nat) : Bool := x.2 == 3 && lacksL 10 [x] s
def stuckL (q : QP) (x : Nat × Nat) (s : List Nat) : Bool := if q.kindV x = 3 then lacksL 6 [x] s else lacksL 2 (QP.halvesQ q x) s
def movedL (q : QP) (x : Nat × Nat) (s : List Nat) : Nat := if q.kindV x = 3 then s.getD (slotQ x) 0 else 2
/-- one place in a row of its own -/
theorem place_one (W : World) (x : Nat × Nat) {n : Nat} (hn : W.heap.size = n) : PlacesAt n (W.alloc (.cells #[.int .i64 (x.1 : Nat), .int .i64 (x.2 : Nat)] 119)) (.slice (some ⟨n, 0, none⟩) 1 1) [x] := by
  subst hn; exact places_new W [x] (by simp)
theorem place_two (W : World) (x y : Nat × Nat) {n : Nat} (hn : W.heap.size = n) : PlacesAt n (W.alloc (.cells #[.int .i64 (x.1 : Nat), .int .i64 (x.2 : Nat), .int .i64 (y.1 : Nat), .int .i64 (y.2 : Nat)] 119)) (.slice (some ⟨n, 0, none⟩) 2 2) [x, y] := by
  subst hn; exact places_new W [x, y] (by simp)
theorem halves_in {q : QP} {x : Nat × Nat} {n : Nat} (h : x.1 < n) : ∀ y ∈ QP.halvesQ q x, y.1 < n := by
  intro y hy
  unfold QP.halvesQ at hy
  split at hy
  · simp only [List.mem_cons, List.not_mem_nil, or_false] at hy
    rcases hy with rfl | rfl <;> exact h
  · simp only [List.mem_singleton] at hy; subst hy; exact h
set_option maxRecDepth 20000 in
set_option maxHeartbeats 1000000 in
theorem shut_any (b : Nat) (x : Nat × Nat) (s : List Nat) (w : World) (hs : StAt w b s) (hx : x.1 < 12) (hv : ∀ k, s.getD k 0 < 16) :
    Calls Tryz.prog 220 #[.pointer (some ⟨b, 0, none⟩), .agg #[.int .i64 (x.1 : Nat), .int .i64 (x.2 : Nat)]] w fun e w' => e = .returned (.bool (shutL x s)) ∧ Below w.heap.size w w' := by
  have hbA : Below w.heap.size w (w.alloc (.cells #[.int .i64 (x.1 : Nat), .int .i64 (x.2 : Nat)] 119)) := (Below.refl _ _).alloc (Nat.le_refl _) _
  have hbB := hbA.alloc hbA.size (.cells #[.int .i64 (x.1 : Nat), .int .i64 (x.2 : Nat)] 119)
  have KL := lacks_any 10 b _ 1 1 _ [x] s _ (hs.below hbB hs.lt) (place_one (w.alloc (.cells #[.int .i64 (x.1 : Nat), .int .i64 (x.2 : Nat)] 119)) x (n := w.heap.size + 1) (by simp)) (fun y hy => by simp only [List.mem_singleton] at hy; subst hy; exact hx) hv (by simp)
  by_cases h3 : x.2 = 3
  · have b3 : (((x.2 : Nat) : Int) == 3) = true := by rw [h3]; rfl
    have hr : shutL x s = lacksL 10 [x] s := by rw [shutL, h3]; rfl
    rw [hr]
    clear h3 hr
    generalize lacksL 10 [x] s = r at *
    go_enter Tryz.func220, Tryz.ntmps220
    go_wp2_with (go_at_call 219; refine KL.mono ?_; rintro e w1 ⟨rfl, hb1⟩)
    go_ret
    exact ⟨rfl, hbB.trans (hb1.mono hbB.size)⟩
  · have b3 : (((x.2 : Nat) : Int) == 3) = false := by rw [beq_eq_false_iff_ne]; omega
    have hr : shutL x s = false := by rw [shutL, show (x.2 == 3) = false by simpa using h3]; rfl
    rw [hr]
    clear h3 hr KL
    go_enter Tryz.func220, Tryz.ntmps220
    go_wp2
    go_ret
    exact ⟨rfl, hbA⟩
set_option maxRecDepth 20000 in
set_option maxHeartbeats 1000000 in
theorem stuck_any (q : QP) (b : Nat) (x : Nat × Nat) (s : List Nat) (v u : Value) (a : Nat) (w : World) (hp : w.heap[a]? = some (.cells #[v, u] 110 (0, 0))) (hl : LocAt w v q.locals) (hls : q.locals.length ≤ 4000) (hxl : x.1 < q.locals.length) (hs : StAt w b s) (hx : x.1 < 12) (hv : ∀ k, s.getD k 0 < 16) :
    Calls Tryz.prog 221 #[.pointer (some ⟨b, 0, none⟩), .pointer (some ⟨a, 0, none⟩), .agg #[.int .i64 (x.1 : Nat), .int .i64 (x.2 : Nat)]] w fun e w' => e = .returned (.bool (stuckL q x s)) ∧ Below w.heap.size w w' := by
  have hbA : Below w.heap.size w (w.alloc (.cells #[.int .i64 (x.1 : Nat), .int .i64 (x.2 : Nat)] 119)) := (Below.refl _ _).alloc (Nat.le_refl _) _
  have hlt := lt_of_heap hp
  have hpb : ∀ w', Below w.heap.size w w' → w'.heap[a]? = some (.cells #[v, u] 110 (0, 0)) := fun w' hb => by rw [hb.block a hlt]; exact hp
  have KK := kind_any q x v u a _ (hpb _ hbA) (hl.below hbA) hls hxl
  have KH := fun w' (hb : Below w.heap.size w w') => halves_any q x v u a w' (hpb _ hb) (hl.below hb) hxl
  have c0 : ∀ w', Below (w.alloc (.cells #[.int .i64 (x.1 : Nat), .int .i64 (x.2 : Nat)] 119)).heap.size (w.alloc (.cells #[.int .i64 (x.1 : Nat), .int .i64 (x.2 : Nat)] 119)) w' → w'.cell? ⟨w.heap.size, 0, none⟩ = some (.int .i64 (x.1 : Nat)) ∧ w'.cell? ⟨w.heap.size, 1, none⟩ = some (.int .i64 (x.2 : Nat)) := fun w' hb =>
    ⟨(hb.cell (p := ⟨w.heap.size, 0, none⟩) (by simp)).trans (by simp), (hb.cell (p := ⟨w.heap.size, 1, none⟩) (by simp)).trans (by simp)⟩
  by_cases h3 : q.kindV x = 3
  · have hr : stuckL q x s = lacksL 6 [x] s := by rw [stuckL, if_pos h3]
    have KL := fun (W : World) (hb : Below w.heap.size w W) => lacks_any 6 b _ 1 1 _ [x] s _ (hs.below (hb.alloc hb.size _) hs.lt) (place_one W x (n := W.heap.size) rfl) (fun y hy => by simp only [List.mem_singleton] at hy; subst hy; exact hx) hv (by simp)
    rw [hr]
    rw [h3] at KK
    clear h3 hr KH
    generalize lacksL 6 [x] s = r at *
    go_enter Tryz.func221, Tryz.ntmps221
    go_wp2_with (first
      | (go_at_call 207; refine KK.mono ?_; rintro e w1 ⟨rfl, hb1⟩; have hB1 := hbA.trans (hb1.mono hbA.size); obtain ⟨y0, y1⟩ := c0 _ hb1)
      | (go_at_call 219; refine (KL w1 hB1).mono ?_; rintro e w2 ⟨rfl, hb2⟩))
    go_ret
    have hB2 := hB1.alloc hB1.size (.cells #[.int .i64 (x.1 : Nat), .int .i64 (x.2 : Nat)] 119)
    exact ⟨rfl, hB2.trans (hb2.mono hB2.size)⟩
  · have hr : stuckL q x s = lacksL 2 (QP.halvesQ q x) s := by rw [stuckL, if_neg h3]
    have KL := fun (W : World) (g c : Nat) (hb : Below w.heap.size w W) (z : Nat) (hP : PlacesAt z W (.slice (some ⟨g, 0, none⟩) (QP.halvesQ q x).length c) (QP.halvesQ q x)) => lacks_any 2 b z _ c _ (QP.halvesQ q x) s W (hs.below hb hs.lt) hP (halves_in hx) hv (by simp)
    have b3 : (((q.kindV x : Nat) : Int) == 3) = false := by rw [beq_eq_false_iff_ne]; omega
    rw [hr]
    clear h3 hr
    generalize lacksL 2 (QP.halvesQ q x) s = r at *
    generalize QP.halvesQ q x = hv' at *
    generalize q.kindV x = kv at *
    go_enter Tryz.func221, Tryz.ntmps221
    go_wp2_with (first
      | (go_at_call 207; refine KK.mono ?_; rintro e w1 ⟨rfl, hb1⟩; have hB1 := hbA.trans (hb1.mono hbA.size); obtain ⟨y0, y1⟩ := c0 _ hb1)
      | (go_at_call 102; refine (KH w1 hB1).mono ?_; rintro e w2 ⟨g, c, rfl, hP2, hb2⟩; have hB2 := hB1.trans (hb2.mono hB1.size))
      | (go_at_call 219; refine (KL w2 g c hB2 _ hP2).mono ?_; rintro e w3 ⟨rfl, hb3⟩))
    go_ret
    exact ⟨rfl, hB2.trans (hb3.mono hB2.size)⟩
set_option maxRecDepth 20000 in
set_option maxHeartbeats 1000000 in
theorem moved_any (q : QP) (b : Nat) (x : Nat × Nat) (s : List Nat) (v u : Value) (a : Nat) (w : World) (hp : w.heap[a]? = some (.cells #[v, u] 110 (0, 0))) (hl : LocAt w v q.locals) (hls : q.locals.length ≤ 4000) (hxl : x.1 < q.locals.length) (hs : StAt w b s) (hx : x.1 < 12) :
    Calls Tryz.prog 178 #[.pointer (some ⟨b, 0, none⟩), .pointer (some ⟨a, 0, none⟩), .agg #[.int .i64 (x.1 : Nat), .int .i64 (x.2 : Nat)]] w fun e w' => e = .returned (.int .u8 (movedL q x s : Nat)) ∧ Below w.heap.size w w' := by
  have hbA : Below w.heap.size w (w.alloc (.cells #[.int .i64 (x.1 : Nat), .int .i64 (x.2 : Nat)] 119)) := (Below.refl _ _).alloc (Nat.le_refl _) _
  have hlt := lt_of_heap hp
  have hpb : ∀ w', Below w.heap.size w w' → w'.heap[a]? = some (.cells #[v, u] 110 (0, 0)) := fun w' hb => by rw [hb.block a hlt]; exact hp
  have KK := kind_any q x v u a _ (hpb _ hbA) (hl.below hbA) hls hxl
  have c0 : ∀ w', Below (w.alloc (.cells #[.int .i64 (x.1 : Nat), .int .i64 (x.2 : Nat)] 119)).heap.size (w.alloc (.cells #[.int .i64 (x.1 : Nat), .int .i64 (x.2 : Nat)] 119)) w' → w'.cell? ⟨w.heap.size, 0, none⟩ = some (.int .i64 (x.1 : Nat)) ∧ w'.cell? ⟨w.heap.size, 1, none⟩ = some (.int .i64 (x.2 : Nat)) := fun w' hb =>
    ⟨(hb.cell (p := ⟨w.heap.size, 0, none⟩) (by simp)).trans (by simp), (hb.cell (p := ⟨w.heap.size, 1, none⟩) (by simp)).trans (by simp)⟩
  by_cases h3 : q.kindV x = 3
  · have hr : movedL q x s = s.getD (slotQ x) 0 := by rw [movedL, if_pos h3]
    have hsl : slotQ x < 24 := by unfold slotQ; split <;> omega
    have hsi : (slotQ x : Int) < 24 := by omega
    obtain ⟨vv, hvv⟩ : ∃ vv, vv = s.getD (slotQ x) 0 := ⟨_, rfl⟩
    rw [hr, ← hvv]
    rw [h3] at KK
    have HV : Hid (s.getD (slotQ x) 0 = vv) := hvv.symm
    have KS := fun w' => slot_any x w' (by omega)
    clear h3 hr hvv
    go_enter Tryz.func178, Tryz.ntmps178
    go_upto_region 3 with (go_at_call 207; refine KK.mono ?_; rintro e w1 ⟨rfl, hb1⟩; have hB1 := hbA.trans (hb1.mono hbA.size); obtain ⟨y0, y1⟩ := c0 _ hb1)
    have KSd := KS w1.drew
    go_region_with (go_at_call 62; refine KSd.mono ?_; rintro e w2 ⟨rfl, hb2⟩; have hb2' : Below w1.heap.size w1 w2 := ⟨hb2.os, hb2.tape, hb2.output, hb2.size, hb2.block⟩; have hB2 := hB1.trans (hb2'.mono hB1.size); have s1 := ((hs.below hB2 hs.lt).cell (slotQ x) hsl).trans (by rw [HV.out]))
    all_goals go_wp2_with fail
    all_goals
      go_ret
      exact ⟨rfl, hB2⟩
  · have hr : movedL q x s = 2 := by rw [movedL, if_neg h3]
    have b3 : (((q.kindV x : Nat) : Int) == 3) = false := by rw [beq_eq_false_iff_ne]; omega
    rw [hr]
    clear h3 hr
    generalize q.kindV x = kv at *
    go_enter Tryz.func178, Tryz.ntmps178
    go_wp2_with (go_at_call 207; refine KK.mono ?_; rintro e w1 ⟨rfl, hb1⟩; have hB1 := hbA.trans (hb1.mono hbA.size))
    go_ret
    exact ⟨rfl, hB1⟩
theorem matched_any (i : Nat) (w : World) : Calls Tryz.prog 218 #[.int .i64 (i : Nat)] w fun e w' => e = .returned (.int .u8 ((if i = 0 then 4 else 2 : Nat) : Nat)) ∧ w' = w := by
  by_cases h : i = 0
  · subst h
    go_enter Tryz.func218, Tryz.ntmps218
    go_wp2
    go_ret
    exact ⟨rfl, rfl⟩
  · have b0 : ((i : Int) == 0) = false := by rw [beq_eq_false_iff_ne]; omega
    rw [if_neg h]
    clear h
    go_enter Tryz.func218, Tryz.ntmps218
    go_wp2
    go_ret
    exact ⟨rfl, rfl⟩
end Go.Proofs.YtmlgajhhnojdjaaGreatDoor.FlwD
/- What a line takes of a state, and what it makes of one. -/
namespace Go.Proofs.YtmlgajhhnojdjaaGreatDoor.FlwE
open Go Go.RowKit Go.Proofs.YtmlgajhhnojdjaaGreatDoor.Spec Go.Proofs.YtmlgajhhnojdjaaGreatDoor.Aux Go.Proofs.YtmlgajhhnojdjaaGreatDoor.PrjF Go.Proofs.YtmlgajhhnojdjaaGreatDoor.PrjG Go.Proofs.YtmlgajhhnojdjaaGreatDoor.PrjJ Go.Proofs.YtmlgajhhnojdjaaGreatDoor.PrjK Go.Proofs.YtmlgajhhnojdjaaGreatDoor.PrjL Go.Proofs.YtmlgajhhnojdjaaGreatDoor.PrjM Go.Proofs.YtmlgajhhnojdjaaGreatDoor.PrjN Go.Proofs.YtmlgajhhnojdjaaGreatDoor.PrjO Go.Proofs.YtmlgajhhnojdjaaGreatDoor.PrjP Go.Proofs.YtmlgajhhnojdjaaGreatDoor.PrjR Go.Proofs.YtmlgajhhnojdjaaGreatDoor.PrjS Go.Proofs.YtmlgajhhnojdjaaGreatDoor.PrjT Go.Proofs.YtmlgajhhnojdjaaGreatDoor.FlwA Go.Proofs.YtmlgajhhnojdjaaGreatDoor.FlwB Go.Proofs.YtmlgajhhnojdjaaGreatDoor.FlwC Go.Proofs.YtmlgajhhnojdjaaGreatDoor.FlwD

/-- a program as far as the flow of one line asks: its locals -/
structure PQ (w : World) (a : Nat) (q : QP) (v u : Value) : Prop where
  blk : w.heap[a]? = some (.cells #[v, u] 110 (0, 0))
  loc : LocAt w v q.locals
theorem own_turn {w w' : World} {z b : Nat} {e : TypeId} {sz n : Nat} {v : Value} {xs : List Value} (h : w.ownsRow z e sz v n xs) (hT : Turn b w w') {cs : Array Value} {t : TypeId} {f : Nat × Nat} (hb : w.heap[b]? = some (.cells cs t f)) (he : e ≠ t) : w'.ownsRow z e sz v n xs :=
  own_heap h fun g hg => hT.block g (h.lt g hg).2 fun x => by subst x; exact own_at_ne h hb he hg
section
variable {w w' : World} {a b : Nat} {q : QP} {v u : Value} {s : List Nat}
theorem PQ.below (h : PQ w a q v u) (hb : Below w.heap.size w w') : PQ w' a q v u := ⟨by rw [hb.block a (lt_of_heap h.blk)]; exact h.blk, h.loc.below hb⟩
theorem PQ.turn (h : PQ w a q v u) (hT : Turn b w w') (hs : StAt w b s) : PQ w' a q v u := by
  refine ⟨?_, ?_⟩
  · rw [hT.block a (lt_of_heap h.blk) (fun x => by
      have h1 := h.blk; rw [x, hs.2] at h1; simp only [Option.some.injEq, Obj.cells.injEq] at h1; exact absurd h1.2.1 (by decide))]
    exact h.blk
  · obtain ⟨z, hz⟩ := h.loc
    exact ⟨z, own_turn hz hT hs.2 (by decide)⟩
theorem line_turn {z : Nat} {l : QLine} {vp vn : Value} (h : LineAt z w l vp vn) (hT : Turn b w w') (hs : StAt w b s) : LineAt z w' l vp vn :=
  ⟨own_turn h.places hT hs.2 (by decide), own_turn h.next hT hs.2 (by decide)⟩
end
def takeQ (q : QP) (l : QLine) (s : List Nat) : List Nat :=
  if l.op = 12 then takeL (QP.halvesQ q (l.places.getD 1 (0, 0))) s else if l.op = 14 then takeL [l.places.getD 1 (0, 0)] s else s
/-- a line's cells, as it is handed over -/
def lnVal (l : QLine) (ap an : Option Addr) (cp cn : Nat) : Value := .agg #[.int .i64 (l.num : Nat), .int .i64 (l.op : Nat), .slice ap l.places.length cp, .int .i64 l.number, .int .i64 l.flag, .slice an l.next.length cn]
theorem place_at {z : Nat} {w : World} {ap : Option Addr} {cp : Nat} {l : QLine} {vn : Value} (h : LineAt z w l (.slice ap l.places.length cp) vn) {n : Nat} (hn : l.places.length = n) (j : Nat) (hj : j < n) :
    ∃ g, ap = some ⟨g, 0, none⟩ ∧ n ≤ cp ∧ g < w.heap.size ∧ w.cell? ⟨g, j * 2, none⟩ = some (.int .i64 ((l.places.getD j (0, 0)).1 : Nat)) ∧ w.cell? ⟨g, j * 2 + 1, none⟩ = some (.int .i64 ((l.places.getD j (0, 0)).2 : Nat)) := by
  obtain ⟨g, e, -, hc, hg, c1, c2⟩ := places_cells h.places j (by omega)
  exact ⟨g, e, by omega, hg, c1, c2⟩
set_option maxRecDepth 20000 in
set_option maxHeartbeats 1000000 in
theorem take_line (q : QP) (l : QLine) (nb z a b : Nat) (v u : Value) (ap an : Option Addr) (cp cn : Nat) (s : List Nat) (w : World) (hp : PQ w a q v u) (hls : q.locals.length ≤ 12) (hl : LOk q.locals.length nb l)
    (hA : LineAt z w l (.slice ap l.places.length cp) (.slice an l.next.length cn)) (hs : StAt w b s) :
    Calls Tryz.prog 125 #[.pointer (some ⟨b, 0, none⟩), .pointer (some ⟨a, 0, none⟩), .agg #[.int .i64 (l.num : Nat), .int .i64 (l.op : Nat), .slice ap l.places.length cp, .int .i64 l.number, .int .i64 l.flag, .slice an l.next.length cn]] w fun e w' => e = .returned (.tuple #[]) ∧ StAt w' b (takeQ q l s) ∧ Turn b w w' := by
  have hbA : Below w.heap.size w (w.alloc (.cells #[.int .i64 (l.num : Nat), .int .i64 (l.op : Nat), .slice ap l.places.length cp, .int .i64 l.number, .int .i64 l.flag, .slice an l.next.length cn] 115)) := (Below.refl _ _).alloc (Nat.le_refl _) _
  by_cases h12 : l.op = 12
  · have hlen : l.places.length = 2 := by rw [hl.plen, h12]; rfl
    obtain ⟨g, rfl, hcp, hg, c1, c2⟩ := place_at hA hlen 1 (by omega)
    have d1 := (hbA.cell (p := ⟨g, 2, none⟩) hg).trans c1
    have d2 := (hbA.cell (p := ⟨g, 3, none⟩) hg).trans c2
    have hx := (hl.places (l.places.getD 1 (0, 0)) (by simp [hlen])).1
    have hr : takeQ q l s = takeL (QP.halvesQ q (l.places.getD 1 (0, 0))) s := by rw [takeQ, if_pos h12]
    have b12 : (((l.op : Nat) : Int) == 12) = true := by rw [h12]; rfl
    have hpA := hp.below hbA
    have KH := halves_any q (l.places.getD 1 (0, 0)) v u a _ hpA.blk hpA.loc hx
    rw [hr]
    clear hr c1 c2
    generalize l.places.getD 1 (0, 0) = x at *
    have KT := fun (W : World) (g c : Nat) (hb : Below w.heap.size w W) (z : Nat) (hP : PlacesAt z W (.slice (some ⟨g, 0, none⟩) (QP.halvesQ q x).length c) (QP.halvesQ q x)) => take_any b z _ c _ (QP.halvesQ q x) s W (hs.below hb hs.lt) hP (halves_in (by omega))
    have hop : Hid (l.op = 12) := h12
    rw [hlen] at hbA d1 d2 KH ⊢
    clear h12
    go_enter Tryz.func125, Tryz.ntmps125
    go_wp2_with (first
      | (go_at_call 102; refine KH.mono ?_; rintro e w2 ⟨g2, c2, rfl, hP2, hb2⟩; have hB2 := hbA.trans (hb2.mono hbA.size))
      | (go_at_call 174; refine (KT w2 g2 c2 hB2 _ hP2).mono ?_; rintro e w3 ⟨rfl, hS3, hT3⟩))
    go_end0
    exact ⟨rfl, hS3, (Turn.of hB2).trans hT3⟩
  · have b12 : (((l.op : Nat) : Int) == 12) = false := by rw [beq_eq_false_iff_ne]; omega
    by_cases h14 : l.op = 14
    · have hlen : l.places.length = 2 := by rw [hl.plen, h14]; rfl
      obtain ⟨g, rfl, hcp, hg, c1, c2⟩ := place_at hA hlen 1 (by omega)
      have d1 := (hbA.cell (p := ⟨g, 2, none⟩) hg).trans c1
      have d2 := (hbA.cell (p := ⟨g, 3, none⟩) hg).trans c2
      have hx := (hl.places (l.places.getD 1 (0, 0)) (by simp [hlen])).1
      have hr : takeQ q l s = takeL [l.places.getD 1 (0, 0)] s := by rw [takeQ, if_neg h12, if_pos h14]
      have b14 : (((l.op : Nat) : Int) == 14) = true := by rw [h14]; rfl
      rw [hr]
      clear hr c1 c2
      generalize l.places.getD 1 (0, 0) = x at *
      rw [hlen] at hbA d1 d2 ⊢
      have hbB := hbA.alloc hbA.size (.cells #[.int .i64 (x.1 : Nat), .int .i64 (x.2 : Nat)] 119)
      have KT := take_any b _ 1 1 _ [x] s _ (hs.below hbB hs.lt) (place_one (w.alloc (.cells #[.int .i64 (l.num : Nat), .int .i64 (l.op : Nat), .slice (some ⟨g, 0, none⟩) 2 cp, .int .i64 l.number, .int .i64 l.flag, .slice an l.next.length cn] 115)) x (n := w.heap.size + 1) (by simp)) (fun y hy => by simp only [List.mem_singleton] at hy; subst hy; omega)
      clear h12 h14
      go_enter Tryz.func125, Tryz.ntmps125
      go_wp2_with (go_at_call 174; refine KT.mono ?_; rintro e w3 ⟨rfl, hS3, hT3⟩)
      go_end0
      exact ⟨rfl, hS3, (Turn.of hbB).trans hT3⟩
    · have b14 : (((l.op : Nat) : Int) == 14) = false := by rw [beq_eq_false_iff_ne]; omega
      have hr : takeQ q l s = s := by rw [takeQ, if_neg h12, if_neg h14]
      rw [hr]
      clear hr h12 h14
      go_enter Tryz.func125, Tryz.ntmps125
      go_wp2
      go_end0
      exact ⟨rfl, hs.below hbA hs.lt, Turn.of hbA⟩
end Go.Proofs.YtmlgajhhnojdjaaGreatDoor.FlwE
/- States read and written whole, as rules for a walk: what is asked of the world stands behind a name. -/
namespace Go.Proofs.YtmlgajhhnojdjaaGreatDoor.FlwF
open Go Go.RowKit Go.Proofs.YtmlgajhhnojdjaaGreatDoor.Spec Go.Proofs.YtmlgajhhnojdjaaGreatDoor.Aux Go.Proofs.YtmlgajhhnojdjaaGreatDoor.PrjJ Go.Proofs.YtmlgajhhnojdjaaGreatDoor.PrjK Go.Proofs.YtmlgajhhnojdjaaGreatDoor.FlwB

def HasSt (w : World) (b o : Nat) : Prop := ∃ s : List Nat, s.length = 24 ∧ w.rangeAt b o (stCells s)
def RoomSt (w : World) (b o : Nat) : Prop := w.there b o 24
def stOf (w : World) (b o : Nat) : Array Value := ((List.range 24).map fun j => (w.cell? ⟨b, o + j, none⟩).getD undef).toArray
def IsSt (xs : Array Value) : Prop := ∃ s : List Nat, s.length = 24 ∧ xs = (stCells s).toArray
theorem stCells_len (s : List Nat) : (stCells s).length = s.length := by simp [stCells]
theorem stOf_eq {w : World} {b o : Nat} {s : List Nat} (hl : s.length = 24) (h : w.rangeAt b o (stCells s)) : stOf w b o = (stCells s).toArray := by
  unfold stOf
  congr 1
  apply List.ext_getElem?
  intro j
  rw [List.getElem?_map]
  by_cases hj : j < 24
  · rw [List.getElem?_range hj]
    have hj' : j < (stCells s).length := by rw [stCells_len]; omega
    have := h j (stCells s)[j] (List.getElem?_eq_getElem hj')
    rw [Option.map_some, this, List.getElem?_eq_getElem hj']; rfl
  · rw [List.getElem?_eq_none (by simp; omega), List.getElem?_eq_none (by rw [stCells_len]; omega)]; rfl
theorem info_state {s : List Nat} (h : s.length = 24) : (Tryz.prog.info? 209).map (·.size) = some (stCells s).length := by
  rw [stCells_len, h]; kernel_rfl
theorem st_one (s : List Nat) : ∀ u ∈ stCells s, u.oneCell' = true := by
  intro u hu
  simp only [stCells, List.mem_map] at hu
  obtain ⟨n, -, rfl⟩ := hu
  rfl
theorem loadVar_st (w : World) (b o : Nat) (h : HasSt w b o) : (loadVar 209 ⟨b, o, none⟩).run Tryz.prog w = .ok (.agg (stOf w b o)) w := by
  obtain ⟨s, hs, hw⟩ := h
  rw [stOf_eq hs hw]
  exact run_loadVar_mid w b o 209 (stCells s) _ hw Tryz.underlying209 rfl (info_state hs)
theorem storeVar_st (w : World) (b o : Nat) (xs : Array Value) (h : RoomSt w b o) (hx : IsSt xs) : (storeVar 209 ⟨b, o, none⟩ (.agg xs)).run Tryz.prog w = .ok () (w.setCells b o xs.toList) := by
  obtain ⟨t, ht, rfl⟩ := hx
  refine run_storeVar_mid w b o 209 (stCells t).toArray ?_ ?_ (all_oneCell_toArray (st_one t))
  · have := h; unfold RoomSt at this; rw [List.size_toArray, stCells_len, ht]; exact this
  · have := info_state ht; rw [List.size_toArray]; exact this
def ptrOff : Value → Nat
  | .pointer (some ad) => ad.off
  | _ => 0
def PtrSt (w : World) (v : Value) : Prop := ∃ b o, v = .pointer (some ⟨b, o, none⟩) ∧ HasSt w b o
def PtrRoom (w : World) (v : Value) : Prop := ∃ b o, v = .pointer (some ⟨b, o, none⟩) ∧ RoomSt w b o
def AggSt (v : Value) : Prop := ∃ xs, v = .agg xs ∧ IsSt xs
def ptrBlk : Value → Nat
  | .pointer (some ad) => ad.block
  | _ => 0
def aggOf : Value → Array Value
  | .agg xs => xs
  | _ => #[]
@[simp] theorem ptrOff_ptr (ad : Addr) : ptrOff (.pointer (some ad)) = ad.off := rfl
@[simp] theorem ptrBlk_ptr (ad : Addr) : ptrBlk (.pointer (some ad)) = ad.block := rfl
@[simp] theorem aggOf_agg (xs : Array Value) : aggOf (.agg xs) = xs := rfl
@[simp] theorem ptrSt_ptr (w : World) (b o : Nat) : PtrSt w (.pointer (some ⟨b, o, none⟩)) = HasSt w b o := propext ⟨fun ⟨_, _, e, h⟩ => by cases e; exact h, fun h => ⟨b, o, rfl, h⟩⟩
@[simp] theorem ptrRoom_ptr (w : World) (b o : Nat) : PtrRoom w (.pointer (some ⟨b, o, none⟩)) = RoomSt w b o := propext ⟨fun ⟨_, _, e, h⟩ => by cases e; exact h, fun h => ⟨b, o, rfl, h⟩⟩
@[simp] theorem aggSt_agg (xs : Array Value) : AggSt (.agg xs) = IsSt xs := by simp [AggSt]
section
variable (d : Option Tmp) (x y : Operand) (t : TypeId) (ps : String) (af : Array Edge) (g : Option (Nat × Bool)) (a : Act) (w : World) (K : Act → World → Prop) (Q : Exit → Act → World → Prop)
theorem wp_load_st (h : PtrSt w (a.eval x)) : Oper.wp Tryz.prog { dst := d, op := Op.load 209 x, type := t, pos := ps, after := af, guard := g } a w K Q = K (a.put d (.agg (stOf w (ptrBlk (a.eval x)) (ptrOff (a.eval x))))) w := by
  obtain ⟨b, o, hb, hh⟩ := h
  have := loadVar_st w b o hh
  unfold Oper.wp execOp
  simp only [hb, Instr.loadAt, Instr.sureAddr, Sem.run_bind, Sem.run_pure, Result.andThen_ok, this, ptrBlk_ptr, ptrOff_ptr]
  rfl
theorem wp_store_st (h : PtrRoom w (a.eval x)) (h' : AggSt (a.eval y)) : Oper.wp Tryz.prog { dst := d, op := Op.store 209 x y, type := t, pos := ps, after := af, guard := g } a w K Q = K (a.put d undef) (w.setCells (ptrBlk (a.eval x)) (ptrOff (a.eval x)) (aggOf (a.eval y)).toList) := by
  obtain ⟨b, o, hb, hh⟩ := h
  obtain ⟨xs, hy, hx⟩ := h'
  have := storeVar_st w b o xs hh hx
  unfold Oper.wp execOp
  simp only [hb, hy, Instr.storeAt, Instr.sureAddr, Sem.run_bind, Sem.run_pure, Result.andThen_ok, this, ptrBlk_ptr, ptrOff_ptr, aggOf_agg]
  rfl
end
theorem StAt.range {w : World} {b : Nat} {s : List Nat} (h : StAt w b s) : w.rangeAt b 0 (stCells s) := fun j v hv => by
  rw [Nat.zero_add, cell_of_heap h.2]; simpa using hv
theorem StAt.has {w : World} {b : Nat} {s : List Nat} (h : StAt w b s) : HasSt w b 0 := ⟨s, h.1, StAt.range h⟩
theorem StAt.room {w : World} {b : Nat} {s : List Nat} (h : StAt w b s) : RoomSt w b 0 := fun j hj => by
  rw [Nat.zero_add, StAt.cell h j hj, StAt.frozen h]; exact ⟨rfl, rfl⟩
theorem StAt.of {w : World} {b : Nat} {s : List Nat} (h : StAt w b s) : stOf w b 0 = (stCells s).toArray := stOf_eq h.1 (StAt.range h)
theorem StAt.new (w : World) {s : List Nat} (h : s.length = 24) : StAt (w.alloc (.cells (stCells s).toArray 209)) w.heap.size s := ⟨h, Array.getElem?_push_size⟩
/-- written whole -/
theorem StAt.store {w : World} {b : Nat} {s t : List Nat} (h : StAt w b s) (ht : t.length = 24) : StAt (w.setCells b 0 (stCells t)) b t := by
  obtain ⟨cs', h1, h2, h3⟩ := heap_setCells b (stCells t) 0 w _ _ _ h.2
  refine ⟨ht, ?_⟩
  rw [h1]
  congr 2
  apply Array.ext_getElem?
  intro j
  rw [h3]
  have l1 : (stCells s).length = 24 := by rw [stCells_len]; exact h.1
  have l2 : (stCells t).length = 24 := by rw [stCells_len]; exact ht
  by_cases hj : j < 24
  · rw [if_pos (by simp [l1, l2, hj])]; simp
  · rw [if_neg (by simp [l2]; omega)]; simp [l1, l2, Nat.le_of_not_lt hj]
theorem turn_setCells {w w' : World} {b : Nat} (_h : Turn b w w') (_o : Nat) : ∀ (vs : List Value) (o : Nat) (w' : World), Turn b w w' → Turn b w (w'.setCells b o vs)
  | [], _, _, h => h
  | v :: r, o, w', h => by rw [World.setCells]; exact turn_setCells h o r (o + 1) _ (h.setCell o v)
def zeroSt : List Nat := List.replicate 24 0
theorem isSt_of {s : List Nat} (h : s.length = 24) : IsSt (stCells s).toArray := ⟨s, h, rfl⟩
end Go.Proofs.YtmlgajhhnojdjaaGreatDoor.FlwF
/- What a line makes of a state: Pass. -/
namespace Go.Proofs.YtmlgajhhnojdjaaGreatDoor.FlwG
open Go Go.RowKit Go.Proofs.YtmlgajhhnojdjaaGreatDoor.Spec Go.Proofs.YtmlgajhhnojdjaaGreatDoor.Aux Go.Proofs.YtmlgajhhnojdjaaGreatDoor.PrjF Go.Proofs.YtmlgajhhnojdjaaGreatDoor.PrjG Go.Proofs.YtmlgajhhnojdjaaGreatDoor.PrjJ Go.Proofs.YtmlgajhhnojdjaaGreatDoor.PrjK Go.Proofs.YtmlgajhhnojdjaaGreatDoor.PrjL Go.Proofs.YtmlgajhhnojdjaaGreatDoor.PrjM Go.Proofs.YtmlgajhhnojdjaaGreatDoor.PrjN Go.Proofs.YtmlgajhhnojdjaaGreatDoor.PrjO Go.Proofs.YtmlgajhhnojdjaaGreatDoor.PrjP Go.Proofs.YtmlgajhhnojdjaaGreatDoor.PrjR Go.Proofs.YtmlgajhhnojdjaaGreatDoor.PrjS Go.Proofs.YtmlgajhhnojdjaaGreatDoor.PrjT Go.Proofs.YtmlgajhhnojdjaaGreatDoor.FlwA Go.Proofs.YtmlgajhhnojdjaaGreatDoor.FlwB Go.Proofs.YtmlgajhhnojdjaaGreatDoor.FlwC Go.Proofs.YtmlgajhhnojdjaaGreatDoor.FlwD Go.Proofs.YtmlgajhhnojdjaaGreatDoor.FlwE Go.Proofs.YtmlgajhhnojdjaaGreatDoor.FlwF
attribute [local go_sem ↓] wp_load_st wp_store_st

def isPut (op : Nat) : Bool := op == 2 || op == 3 || op == 4 || op == 5 || op == 6 || op == 7 || op == 10 || op == 9 || op == 14
def passQ (q : QP) (l : QLine) (s : List Nat) : List Nat :=
  if isPut l.op = true then putL 2 [l.places.getD 0 (0, 0)] (takeQ q l s)
  else if l.op = 12 then putL (movedL q (l.places.getD 1 (0, 0)) s) (QP.halvesQ q (l.places.getD 0 (0, 0))) (takeQ q l s)
  else if l.op = 13 then putL 4 [l.places.getD 0 (0, 0)] (takeQ q l s)
  else if l.op = 15 then takeL (QP.halvesQ q (l.places.getD 0 (0, 0))) (takeQ q l s)
  else takeQ q l s
theorem getD_mem {ps : List (Nat × Nat)} {j : Nat} (h : j < ps.length) : ps.getD j (0, 0) ∈ ps := by
  rw [List.getD_eq_getElem?_getD, List.getElem?_eq_getElem h]; exact List.getElem_mem h
/-- how many places a line has -/
theorem some_places {nl nb : Nat} {l : QLine} (h : LOk nl nb l) (ho : isPut l.op = true ∨ l.op = 12 ∨ l.op = 13 ∨ l.op = 15) : 1 ≤ l.places.length := by
  rw [h.plen]
  have key : ∀ op : Fin 23, (isPut op.val = true ∨ op.val = 12 ∨ op.val = 13 ∨ op.val = 15) → 1 ≤ ((wantsOf op.val).filter isPlc).length := by decide
  exact key ⟨l.op, h.op⟩ ho
set_option maxRecDepth 20000 in
set_option maxHeartbeats 2000000 in
theorem pass_any (q : QP) (l : QLine) (nb z a b : Nat) (v u : Value) (ap an : Option Addr) (cp cn : Nat) (s : List Nat) (w : World) (hp : PQ w a q v u) (hls : q.locals.length ≤ 12) (hl : LOk q.locals.length nb l)
    (hA : LineAt z w l (.slice ap l.places.length cp) (.slice an l.next.length cn)) (hs : StAt w b s) (hv : ∀ k, s.getD k 0 < 16) :
    Calls Tryz.prog 128 #[.pointer (some ⟨b, 0, none⟩), .pointer (some ⟨a, 0, none⟩), .agg #[.int .i64 (l.num : Nat), .int .i64 (l.op : Nat), .slice ap l.places.length cp, .int .i64 l.number, .int .i64 l.flag, .slice an l.next.length cn]] w fun e w' => e = .returned (.tuple #[]) ∧ StAt w' b (passQ q l s) ∧ Turn b w w' := by
  have hbA : Below w.heap.size w (w.alloc (.cells #[.int .i64 (l.num : Nat), .int .i64 (l.op : Nat), .slice ap l.places.length cp, .int .i64 l.number, .int .i64 l.flag, .slice an l.next.length cn] 115)) := (Below.refl _ _).alloc (Nat.le_refl _) _
  have hsA := hs.below hbA hs.lt
  have hasA := StAt.has hsA
  have hofA := StAt.of hsA
  have hszA : (w.alloc (.cells #[.int .i64 (l.num : Nat), .int .i64 (l.op : Nat), .slice ap l.places.length cp, .int .i64 l.number, .int .i64 l.flag, .slice an l.next.length cn] 115)).heap.size = w.heap.size + 1 := by simp
  have hZ : StAt ((w.alloc (.cells #[.int .i64 (l.num : Nat), .int .i64 (l.op : Nat), .slice ap l.places.length cp, .int .i64 l.number, .int .i64 l.flag, .slice an l.next.length cn] 115)).alloc (.cells #[.int .u8 0, .int .u8 0, .int .u8 0, .int .u8 0, .int .u8 0, .int .u8 0, .int .u8 0, .int .u8 0, .int .u8 0, .int .u8 0, .int .u8 0, .int .u8 0, .int .u8 0, .int .u8 0, .int .u8 0, .int .u8 0, .int .u8 0, .int .u8 0, .int .u8 0, .int .u8 0, .int .u8 0, .int .u8 0, .int .u8 0, .int .u8 0] 209)) (w.heap.size + 1) zeroSt := by
    rw [← hszA]; exact StAt.new (w.alloc (.cells #[.int .i64 (l.num : Nat), .int .i64 (l.op : Nat), .slice ap l.places.length cp, .int .i64 l.number, .int .i64 l.flag, .slice an l.next.length cn] 115)) (s := zeroSt) (by decide)
  have hroom := StAt.room hZ
  have hist := isSt_of hs.1
  have hW2 := StAt.store hZ hs.1
  have hbB : Below w.heap.size w ((w.alloc (.cells #[.int .i64 (l.num : Nat), .int .i64 (l.op : Nat), .slice ap l.places.length cp, .int .i64 l.number, .int .i64 l.flag, .slice an l.next.length cn] 115)).alloc (.cells #[.int .u8 0, .int .u8 0, .int .u8 0, .int .u8 0, .int .u8 0, .int .u8 0, .int .u8 0, .int .u8 0, .int .u8 0, .int .u8 0, .int .u8 0, .int .u8 0, .int .u8 0, .int .u8 0, .int .u8 0, .int .u8 0, .int .u8 0, .int .u8 0, .int .u8 0, .int .u8 0, .int .u8 0, .int .u8 0, .int .u8 0, .int .u8 0] 209)) := hbA.alloc hbA.size _
  have hbW : Below w.heap.size w (((w.alloc (.cells #[.int .i64 (l.num : Nat), .int .i64 (l.op : Nat), .slice ap l.places.length cp, .int .i64 l.number, .int .i64 l.flag, .slice an l.next.length cn] 115)).alloc (.cells #[.int .u8 0, .int .u8 0, .int .u8 0, .int .u8 0, .int .u8 0, .int .u8 0, .int .u8 0, .int .u8 0, .int .u8 0, .int .u8 0, .int .u8 0, .int .u8 0, .int .u8 0, .int .u8 0, .int .u8 0, .int .u8 0, .int .u8 0, .int .u8 0, .int .u8 0, .int .u8 0, .int .u8 0, .int .u8 0, .int .u8 0, .int .u8 0] 209)).setCells (w.heap.size + 1) 0 (stCells s)) := below_setCells hbB (by omega) _ _
  have hlnW : (((w.alloc (.cells #[.int .i64 (l.num : Nat), .int .i64 (l.op : Nat), .slice ap l.places.length cp, .int .i64 l.number, .int .i64 l.flag, .slice an l.next.length cn] 115)).alloc (.cells #[.int .u8 0, .int .u8 0, .int .u8 0, .int .u8 0, .int .u8 0, .int .u8 0, .int .u8 0, .int .u8 0, .int .u8 0, .int .u8 0, .int .u8 0, .int .u8 0, .int .u8 0, .int .u8 0, .int .u8 0, .int .u8 0, .int .u8 0, .int .u8 0, .int .u8 0, .int .u8 0, .int .u8 0, .int .u8 0, .int .u8 0, .int .u8 0] 209)).setCells (w.heap.size + 1) 0 (stCells s)).heap[w.heap.size]? = some (.cells #[.int .i64 (l.num : Nat), .int .i64 (l.op : Nat), .slice ap l.places.length cp, .int .i64 l.number, .int .i64 l.flag, .slice an l.next.length cn] 115 (0, 0)) := by
    rw [heap_setCells_other _ _ _ _ _ (by omega), ((Below.refl (w.heap.size + 1) (w.alloc (.cells #[.int .i64 (l.num : Nat), .int .i64 (l.op : Nat), .slice ap l.places.length cp, .int .i64 l.number, .int .i64 l.flag, .slice an l.next.length cn] 115))).alloc (by omega) _).block w.heap.size (by omega)]
    exact Array.getElem?_push_size
  clear hszA
  go_enter Tryz.func128, Tryz.ntmps128
  go_upto_region 2 with fail
  generalize (((w.alloc (.cells #[.int .i64 (l.num : Nat), .int .i64 (l.op : Nat), .slice ap l.places.length cp, .int .i64 l.number, .int .i64 l.flag, .slice an l.next.length cn] 115)).alloc (.cells #[.int .u8 0, .int .u8 0, .int .u8 0, .int .u8 0, .int .u8 0, .int .u8 0, .int .u8 0, .int .u8 0, .int .u8 0, .int .u8 0, .int .u8 0, .int .u8 0, .int .u8 0, .int .u8 0, .int .u8 0, .int .u8 0, .int .u8 0, .int .u8 0, .int .u8 0, .int .u8 0, .int .u8 0, .int .u8 0, .int .u8 0, .int .u8 0] 209)).setCells (w.heap.size + 1) 0 (stCells s)) = W at *
  have hblt := hs.lt
  have l0 := (cell_of_heap hlnW 0).trans (by rfl : _ = some (Value.int .i64 (l.num : Nat)))
  have l1 := (cell_of_heap hlnW 1).trans (by rfl : _ = some (Value.int .i64 (l.op : Nat)))
  have l2 := (cell_of_heap hlnW 2).trans (by rfl : _ = some (Value.slice ap l.places.length cp))
  have l3 := (cell_of_heap hlnW 3).trans (by rfl : _ = some (Value.int .i64 l.number))
  have l4 := (cell_of_heap hlnW 4).trans (by rfl : _ = some (Value.int .i64 l.flag))
  have l5 := (cell_of_heap hlnW 5).trans (by rfl : _ = some (Value.slice an l.next.length cn))
  have hpW := hp.below hbW
  have hAW := hA.below hbW
  have hsW := hs.below hbW hblt
  have KT := take_line q l nb z a b v u ap an cp cn s W hpW hls hl hAW hsW
  clear hasA hofA hroom hist hZ
  go_upto_region 5 with (go_at_call 125; refine KT.mono ?_; rintro e w1 ⟨rfl, hS1, hT1⟩; have hln1 : w1.heap[w.heap.size]? = _ := (hT1.block w.heap.size (lt_of_heap hlnW) (by omega)).trans hlnW; have m1 := (cell_of_heap hln1 1).trans (by rfl : _ = some (Value.int .i64 (l.op : Nat))); have m2 := (cell_of_heap hln1 2).trans (by rfl : _ = some (Value.slice ap l.places.length cp)))
  have hW1 : StAt w1 (w.heap.size + 1) s := ⟨hW2.1, (hT1.block (w.heap.size + 1) hW2.lt (by omega)).trans hW2.2⟩
  have hp1 := hpW.turn hT1 hsW
  have hA1 := line_turn hAW hT1 hsW
  have hTW : Turn b w w1 := (Turn.of hbW).trans hT1
  clear l0 l1 l2 l3 l4 l5 KT hW2 hlnW
  by_cases hput : isPut l.op = true
  · have hn1 := some_places hl (.inl hput)
    obtain ⟨g, rfl, hcp, hg, c1, c2⟩ := place_at hA1 rfl 0 (by omega)
    have hx := (hl.places _ (getD_mem (j := 0) (by omega))).1
    have hr : Hid (passQ q l s = putL 2 [l.places.getD 0 (0, 0)] (takeQ q l s)) := by unfold Hid; rw [passQ, if_pos hput]
    have d1 : w1.cell? ⟨g, 0, none⟩ = some (.int .i64 ((l.places.getD 0 (0, 0)).1 : Nat)) := c1
    have d2 : w1.cell? ⟨g, 1, none⟩ = some (.int .i64 ((l.places.getD 0 (0, 0)).2 : Nat)) := c2
    have hid : (0 : Int) < (l.places.length : Nat) := by omega
    clear c1 c2
    generalize l.places.getD 0 (0, 0) = x at *
    have hbP : Below w1.heap.size w1 (w1.alloc (.cells #[.int .i64 (x.1 : Nat), .int .i64 (x.2 : Nat)] 119)) := (Below.refl _ _).alloc (Nat.le_refl _) _
    have KP := put_any 2 b _ 1 1 _ [x] (takeQ q l s) _ (hS1.below hbP hS1.lt) (place_one w1 x (n := w1.heap.size) rfl) (fun y hy => by simp only [List.mem_singleton] at hy; subst hy; omega) (by decide)
    generalize takeQ q l s = t at *
    have hops : l.op = 2 ∨ l.op = 3 ∨ l.op = 4 ∨ l.op = 5 ∨ l.op = 6 ∨ l.op = 7 ∨ l.op = 10 ∨ l.op = 9 ∨ l.op = 14 := by
      simp only [isPut, Bool.or_eq_true, beq_iff_eq] at hput; omega
    clear hput
    rcases hops with h | h | h | h | h | h | h | h | h
    all_goals
      rw [h]
      have HO : Hid (_ = _) := h
      clear h
      go_wp2_with (go_at_call 177; refine KP.mono ?_; rintro e w2 ⟨rfl, hS2, hT2⟩)
      go_end0
      exact ⟨rfl, by rw [hr.out]; exact hS2, (hTW.on hbP).trans hT2⟩
  · by_cases h13 : l.op = 13
    · have hn1 := some_places hl (.inr (.inr (.inl h13)))
      obtain ⟨g, rfl, hcp, hg, c1, c2⟩ := place_at hA1 rfl 0 (by omega)
      have hx := (hl.places _ (getD_mem (j := 0) (by omega))).1
      have hr : Hid (passQ q l s = putL 4 [l.places.getD 0 (0, 0)] (takeQ q l s)) := by unfold Hid; rw [passQ, if_neg hput, if_neg (by omega), if_pos h13]
      have d1 : w1.cell? ⟨g, 0, none⟩ = some (.int .i64 ((l.places.getD 0 (0, 0)).1 : Nat)) := c1
      have d2 : w1.cell? ⟨g, 1, none⟩ = some (.int .i64 ((l.places.getD 0 (0, 0)).2 : Nat)) := c2
      have hid : (0 : Int) < (l.places.length : Nat) := by omega
      clear c1 c2
      generalize l.places.getD 0 (0, 0) = x at *
      have hbP : Below w1.heap.size w1 (w1.alloc (.cells #[.int .i64 (x.1 : Nat), .int .i64 (x.2 : Nat)] 119)) := (Below.refl _ _).alloc (Nat.le_refl _) _
      have KP := put_any 4 b _ 1 1 _ [x] (takeQ q l s) _ (hS1.below hbP hS1.lt) (place_one w1 x (n := w1.heap.size) rfl) (fun y hy => by simp only [List.mem_singleton] at hy; subst hy; omega) (by decide)
      generalize takeQ q l s = t at *
      clear hput
      rw [h13]
      have HO : Hid (_ = _) := h13
      clear h13
      go_wp2_with (go_at_call 177; refine KP.mono ?_; rintro e w2 ⟨rfl, hS2, hT2⟩)
      go_end0
      exact ⟨rfl, by rw [hr.out]; exact hS2, (hTW.on hbP).trans hT2⟩
    · by_cases h15 : l.op = 15
      · have hn1 := some_places hl (.inr (.inr (.inr h15)))
        obtain ⟨g, rfl, hcp, hg, c1, c2⟩ := place_at hA1 rfl 0 (by omega)
        have hx := (hl.places _ (getD_mem (j := 0) (by omega))).1
        have hr : Hid (passQ q l s = takeL (QP.halvesQ q (l.places.getD 0 (0, 0))) (takeQ q l s)) := by unfold Hid; rw [passQ, if_neg hput, if_neg (by omega), if_neg h13, if_pos h15]
        have d1 : w1.cell? ⟨g, 0, none⟩ = some (.int .i64 ((l.places.getD 0 (0, 0)).1 : Nat)) := c1
        have d2 : w1.cell? ⟨g, 1, none⟩ = some (.int .i64 ((l.places.getD 0 (0, 0)).2 : Nat)) := c2
        have hid : (0 : Int) < (l.places.length : Nat) := by omega
        clear c1 c2
        generalize l.places.getD 0 (0, 0) = x at *
        have KH := halves_any q x v u a w1 hp1.blk hp1.loc hx
        generalize takeQ q l s = t at *
        have KT := fun (W' : World) (g c : Nat) (hb : Below w1.heap.size w1 W') (z : Nat) (hP : PlacesAt z W' (.slice (some ⟨g, 0, none⟩) (QP.halvesQ q x).length c) (QP.halvesQ q x)) => take_any b z _ c _ (QP.halvesQ q x) t W' (hS1.below hb hS1.lt) hP (halves_in (by omega))
        clear hput h13
        rw [h15]
        have HO : Hid (_ = _) := h15
        clear h15
        go_wp2_with (first
          | (go_at_call 102; refine KH.mono ?_; rintro e w2 ⟨g2, c2, rfl, hP2, hb2⟩)
          | (go_at_call 174; refine (KT w2 g2 c2 hb2 _ hP2).mono ?_; rintro e w3 ⟨rfl, hS3, hT3⟩))
        go_end0
        exact ⟨rfl, by rw [hr.out]; exact hS3, (hTW.on hb2).trans hT3⟩
      · by_cases h12 : l.op = 12
        · have hlen : l.places.length = 2 := by rw [hl.plen, h12]; rfl
          obtain ⟨g, rfl, hcp, hg, c1, c2⟩ := place_at hA1 hlen 0 (by omega)
          obtain ⟨g', e, -, -, c3, c4⟩ := place_at hA1 hlen 1 (by omega)
          simp only [Option.some.injEq, Addr.mk.injEq, and_true] at e
          subst e
          have hx := (hl.places _ (getD_mem (j := 0) (by omega))).1
          have hy := (hl.places _ (getD_mem (j := 1) (by omega))).1
          have hr : Hid (passQ q l s = putL (movedL q (l.places.getD 1 (0, 0)) s) (QP.halvesQ q (l.places.getD 0 (0, 0))) (takeQ q l s)) := by unfold Hid; rw [passQ, if_neg hput, if_pos h12]
          have HC : Hid (∀ w', Below w1.heap.size w1 w' → w'.cell? ⟨g, 0, none⟩ = some (.int .i64 ((l.places.getD 0 (0, 0)).1 : Nat)) ∧ w'.cell? ⟨g, 1, none⟩ = some (.int .i64 ((l.places.getD 0 (0, 0)).2 : Nat)) ∧ w'.cell? ⟨g, 2, none⟩ = some (.int .i64 ((l.places.getD 1 (0, 0)).1 : Nat)) ∧ w'.cell? ⟨g, 3, none⟩ = some (.int .i64 ((l.places.getD 1 (0, 0)).2 : Nat))) := fun w' hb =>
            ⟨(hb.cell (p := ⟨g, 0, none⟩) hg).trans c1, (hb.cell (p := ⟨g, 1, none⟩) hg).trans c2, (hb.cell (p := ⟨g, 2, none⟩) hg).trans c3, (hb.cell (p := ⟨g, 3, none⟩) hg).trans c4⟩
          clear c1 c2 c3 c4
          have hmv : movedL q (l.places.getD 1 (0, 0)) s < 16 := by
            unfold movedL; split
            · exact hv _
            · decide
          generalize l.places.getD 0 (0, 0) = x at *
          generalize l.places.getD 1 (0, 0) = y at *
          have hbd : Below w1.heap.size w1 w1.drew := ⟨rfl, rfl, rfl, Nat.le_refl _, fun _ _ => rfl⟩
          have KH := fun w' (hb : Below w1.heap.size w1 w') => halves_any q x v u a w' (hp1.below hb).blk (hp1.below hb).loc hx
          have KM := fun w' (hb : Below w1.heap.size w1 w') => moved_any q (w.heap.size + 1) y s v u a w' (hp1.below hb).blk (hp1.below hb).loc (by omega) hy (hW1.below hb hW1.lt) (by omega)
          obtain ⟨mv, hmvv⟩ : ∃ mv, mv = movedL q y s := ⟨_, rfl⟩
          rw [← hmvv] at KM hmv hr
          generalize takeQ q l s = t at *
          have KP := fun (W' : World) (g c : Nat) (hb : Below w1.heap.size w1 W') (z : Nat) (hP : PlacesAt z W' (.slice (some ⟨g, 0, none⟩) (QP.halvesQ q x).length c) (QP.halvesQ q x)) => put_any mv b z _ c _ (QP.halvesQ q x) t W' (hS1.below hb hS1.lt) hP (halves_in (by omega)) hmv
          obtain ⟨d0, d1, d2, d3⟩ := HC.out w1 (Below.refl _ _)
          have KMd := KM w1.drew hbd
          have KHd := KH w1.drew hbd
          clear hput h13 h15 hmvv
          rw [h12]
          have HO : Hid (_ = _) := h12
          rw [hlen]
          clear h12
          go_upto_region 16 with fail
          go_region_with (first
            | (go_at_call 177; refine (KP whA gA cA hbA2 _ hPA).mono ?_; rintro e w4 ⟨rfl, hS4, hT4⟩; have hTT := (hTW.on hbA2).trans hT4)
            | (go_at_call 177; refine (KP wmB gB cB hbB2 _ (own_below hPB hmB)).mono ?_; rintro e w4 ⟨rfl, hS4, hT4⟩; have hTT := (hTW.on hbB2).trans hT4)
            | (go_at_call 102; refine (KH wmA hbA1).mono ?_; rintro e whA ⟨gA, cA, rfl, hPA, hhA⟩; have hbA2 := hbA1.trans (hhA.mono hbA1.size); obtain ⟨d0A2, d1A2, d2A2, d3A2⟩ := HC.out whA hbA2)
            | (go_at_call 178; refine (KM whB hbB1).mono ?_; rintro e wmB ⟨rfl, hmB⟩; have hbB2 := hbB1.trans (hmB.mono hbB1.size); obtain ⟨d0B2, d1B2, d2B2, d3B2⟩ := HC.out wmB hbB2)
            | (go_at_call 178; refine KMd.mono ?_; rintro e wmA ⟨rfl, hmA⟩; have hbA1 : Below w1.heap.size w1 wmA := ⟨hmA.os, hmA.tape, hmA.output, hmA.size, hmA.block⟩; obtain ⟨d0A, d1A, d2A, d3A⟩ := HC.out wmA hbA1)
            | (go_at_call 102; refine KHd.mono ?_; rintro e whB ⟨gB, cB, rfl, hPB, hhB⟩; have hbB1 : Below w1.heap.size w1 whB := ⟨hhB.os, hhB.tape, hhB.output, hhB.size, hhB.block⟩; obtain ⟨d0B, d1B, d2B, d3B⟩ := HC.out whB hbB1))
          all_goals go_wp2_with fail
          all_goals
            go_end0
            exact ⟨rfl, by rw [hr.out]; exact hS4, hTT⟩
        · have hr : Hid (passQ q l s = takeQ q l s) := by unfold Hid; rw [passQ, if_neg hput, if_neg h12, if_neg h13, if_neg h15]
          have hops : l.op = 8 ∨ l.op = 11 ∨ l.op = 16 ∨ l.op = 17 ∨ l.op = 18 ∨ l.op = 19 ∨ l.op = 20 ∨ l.op = 21 ∨ l.op = 22 := by
            have h1 := hl.op; have h2 := hl.op2
            simp only [isPut, Bool.or_eq_true, beq_iff_eq] at hput; omega
          generalize takeQ q l s = t at *
          clear hput h12 h13 h15
          rcases hops with h | h | h | h | h | h | h | h | h
          all_goals
            rw [h]
            have HO : Hid (_ = _) := h
            clear h
            go_wp2
            go_end0
            exact ⟨rfl, by rw [hr.out]; exact hS1, hTW⟩
end Go.Proofs.YtmlgajhhnojdjaaGreatDoor.FlwG
