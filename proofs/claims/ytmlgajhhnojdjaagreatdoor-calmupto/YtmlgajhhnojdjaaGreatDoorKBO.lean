/- stowkeep's Story, walked: a word of a trace. -/
import Derived.Test.YtmlgajhhnojdjaaGreatDoorKBN
import Derived.Test.YtmlgajhhnojdjaaGreatDoorKBE
import Derived.Test.YtmlgajhhnojdjaaGreatDoorKAE
import Derived.Test.YtmlgajhhnojdjaaGreatDoorKBF
import Derived.Test.YtmlgajhhnojdjaaGreatDoorKAH
import Derived.Deep.DeepCutAuto
import Derived.Test.YtmlgajhhnojdjaaGreatDoorKBL
namespace Go.Proofs.YtmlgajhhnojdjaaGreatDoor.Bal
open Go Go.RowKit Go.Proofs.YtmlgajhhnojdjaaGreatDoor.Spec Go.Proofs.YtmlgajhhnojdjaaGreatDoor.Aux Go.Proofs.YtmlgajhhnojdjaaGreatDoor.PrjJ Go.Proofs.YtmlgajhhnojdjaaGreatDoor.PrjK Go.Proofs.YtmlgajhhnojdjaaGreatDoor.PrjL Go.Proofs.YtmlgajhhnojdjaaGreatDoor.PrjM Go.Proofs.YtmlgajhhnojdjaaGreatDoor.Own

def boolVals (l : List Bool) : List Value := l.map Value.bool
/-- a story where it lies: all of it is new since the world was z great -/
structure StAt (z x : Nat) (w : World) (s : Sty) (vl : Value) : Prop where
  base : z ≤ x
  blk : w.heap[x]? = some (.cells #[vl, .int .i64 s.count, .bool s.right] 54 (0, 0))
  row : w.ownsRow z 4 1 vl s.live.length (boolVals s.live)
section
variable {z x : Nat} {w w1 w2 w3 : World} {s : Sty} {vl v' : Value}
theorem StAt.lt (h : StAt z x w s vl) : x < w.heap.size := lt_of_heap h.blk
theorem StAt.below (h : StAt z x w s vl) (hb : Below w.heap.size w w1) : StAt z x w1 s vl := ⟨h.base, by rw [hb.block x h.lt]; exact h.blk, own_below h.row hb⟩
theorem StAt.facts (h : StAt z x w s vl) : w.cell? ⟨x, 0, none⟩ = some vl ∧ w.cell? ⟨x, 1, none⟩ = some (.int .i64 s.count) ∧ w.cell? ⟨x, 2, none⟩ = some (.bool s.right) ∧ w.frozen? ⟨x, 0, none⟩ = false ∧ w.frozen? ⟨x, 1, none⟩ = false ∧ w.frozen? ⟨x, 2, none⟩ = false :=
  ⟨by rw [cell_of_heap h.blk]; simp, by rw [cell_of_heap h.blk]; simp, by rw [cell_of_heap h.blk]; simp, frozen_of_heap h.blk 0, frozen_of_heap h.blk 1, frozen_of_heap h.blk 2⟩
theorem below_cell (hz : z ≤ x) (hs : z ≤ w.heap.size) (o : Nat) (u : Value) : Below z w (w.setCell ⟨x, o, none⟩ u) := ((Turn.refl x w).setCell o u).below hz hs
theorem StAt.setRight (h : StAt z x w s vl) (b : Bool) : StAt z x (w.setCell ⟨x, 2, none⟩ (.bool b)) { s with right := b } vl ∧ Below z w (w.setCell ⟨x, 2, none⟩ (.bool b)) :=
  ⟨⟨h.base, by rw [Aux.heap_setCell_same h.blk]; simp, own_setCell h.row _ (own_at_ne h.row h.blk (by decide))⟩, below_cell h.base (by have := h.lt; have := h.base; omega) _ _⟩
theorem StAt.setCount (h : StAt z x w s vl) (n : Int) : StAt z x (w.setCell ⟨x, 1, none⟩ (.int .i64 n)) { s with count := n } vl ∧ Below z w (w.setCell ⟨x, 1, none⟩ (.int .i64 n)) :=
  ⟨⟨h.base, by rw [Aux.heap_setCell_same h.blk]; simp, own_setCell h.row _ (own_at_ne h.row h.blk (by decide))⟩, below_cell h.base (by have := h.lt; have := h.base; omega) _ _⟩
theorem StAt.add (h : StAt z x w s vl) (h2 : Below w.heap.size w w2) {b : Bool} (h3 : w3.ownsRow z 4 1 v' (s.live.length + 1) (boolVals s.live ++ [.bool b])) (hg : w2.grownBy w3 vl.ownBlock) :
    StAt z x (w3.setCell ⟨x, 0, none⟩ v') { s with live := s.live ++ [b] } v' ∧ Below z w (w3.setCell ⟨x, 0, none⟩ v') := by
  have H := h.below h2
  have hne : some x ≠ vl.ownBlock := own_type_ne H.row H.blk (by decide)
  have hblk : w3.heap[x]? = some (.cells #[vl, .int .i64 s.count, .bool s.right] 54 (0, 0)) := by rw [hg.block x H.lt hne]; exact H.blk
  refine ⟨⟨h.base, by rw [Aux.heap_setCell_same hblk]; simp, ?_⟩, ?_⟩
  · have := own_setCell h3 (a := ⟨x, 0, none⟩) v' (own_at_ne h3 hblk (by decide))
    simpa [boolVals] using this
  · have hb := h.base
    have hl := h.lt
    refine ⟨hg.os.trans h2.os, hg.tape.trans h2.tape, hg.output.trans h2.output, by simpa using Nat.le_trans h2.size hg.size, fun k hk => ?_⟩
    have hsz := h2.size
    rw [Below.heap_setCell _ _ _ _ (by show k ≠ x; omega), hg.block k (by omega) (fun e => ?_), h2.block k (by omega)]
    have := (H.row.lt k e.symm).1
    omega
theorem StAt.at_ (h : StAt z x w s vl) {j : Nat} (hj : j < s.live.length) : ∃ g cap, vl = .slice (some ⟨g, 0, none⟩) s.live.length cap ∧ s.live.length ≤ cap ∧ g < w.heap.size ∧ w.cell? ⟨g, j, none⟩ = some (.bool (s.live.getD j false)) ∧ w.frozen? ⟨g, j, none⟩ = false ∧
    StAt z x (w.setCell ⟨g, j, none⟩ (.bool false)) { s with live := s.live.set j false } vl ∧ Below z w (w.setCell ⟨g, j, none⟩ (.bool false)) := by
  obtain ⟨g, cap, rfl, hc, hg, hcell⟩ := own_cell h.row (by omega)
  have hgz : z ≤ g := (h.row.lt g rfl).1
  have hxg : x ≠ g := fun e => own_at_ne h.row h.blk (by decide) (by rw [e]; rfl)
  refine ⟨g, cap, rfl, hc, hg, ?_, h.row.frozenAt _, ⟨h.base, ?_, ?_⟩, below_cell hgz (by omega) _ _⟩
  · rw [hcell _ (by omega), boolVals, List.getElem?_map, List.getD_eq_getElem?_getD, List.getElem?_eq_getElem hj]; rfl
  · rw [Below.heap_setCell _ _ _ _ (by show x ≠ g; exact hxg)]; exact h.blk
  · have := (h.row.stored j (.bool false)).1
    simp only [List.length_set]
    have e : boolVals (s.live.set j false) = (boolVals s.live).set j (.bool false) := by simp [boolVals, List.map_set]
    rw [e]; exact this
end
/-! the number of a word -/
def numP (l : B) (k : Nat) : Int := (l.take k).foldl numF 0
theorem numP_on (s : ByteArray) (k : Nat) (h : k + 1 < s.size) : numP s.toList.tail (k + 1) = 10 * numP s.toList.tail k + (s[k + 1].toNat : Int) - 48 := by
  have hl : k < s.toList.tail.length := by rw [List.length_tail, length_toList]; omega
  unfold numP
  rw [List.take_add_one, List.getElem?_eq_getElem hl, List.foldl_append]
  simp only [Option.toList_some, List.foldl_cons, List.foldl_nil, numF]
  have e : s.toList.tail[k] = s[k + 1] := by
    rw [List.getElem_tail, ← getElem_toList s (k + 1) h]
  rw [e]
theorem numP_end (s : ByteArray) (k : Nat) (h8 : k ≤ 8) (h : ¬ (k + 1 < s.size ∧ k + 1 < 9)) : numP s.toList.tail k = numW s.toList.tail := by
  unfold numP numW
  by_cases e : k = 8
  · rw [e]
  · have hl : s.toList.tail.length ≤ k := by rw [List.length_tail, length_toList]; omega
    rw [List.take_of_length_le hl, List.take_of_length_le (by omega)]
theorem size_zero {s : ByteArray} (h : s.size = 0) : s = ⟨#[]⟩ := ByteArray.ext (Array.eq_empty_of_size_eq_zero h)
theorem size_pos {s : ByteArray} (h : ¬ s.size = 0) : s.toList.isEmpty = false := by
  rw [List.isEmpty_eq_false_iff_exists_mem, ← List.length_pos_iff_exists_mem, length_toList]; omega
theorem own_slice {w : World} {z : Nat} {e : TypeId} {k n : Nat} {v : Value} {xs : List Value} (h : w.ownsRow z e k v n xs) : ∃ ad cap, v = .slice ad n cap ∧ n ≤ cap := by
  obtain ⟨-, ⟨rfl, rfl⟩ | ⟨g, cap, cur, rfl, -, -, h1, -⟩⟩ := h
  · exact ⟨none, 0, rfl, Nat.le_refl _⟩
  · exact ⟨_, cap, rfl, h1⟩
theorem chr {c d : UInt8} {k : Nat} (hd : d.toNat = k) : c.toNat = k ↔ c = d := by rw [← hd]; exact UInt8.toNat_inj
theorem word_o {t : Sty} {c : UInt8} {r : B} (h : c.toNat = 111) : t.word (c :: r) = t := by
  simp only [Sty.word]; rw [if_pos ((chr (d := 111) (by rfl)).1 h)]
theorem word_add {t : Sty} {c : UInt8} {r : B} (h : c.toNat = 43) : t.word (c :: r) = ⟨t.live ++ [true], t.count + 1, t.right && (numW r == (t.live.length : Int) + 1)⟩ := by
  obtain rfl := (chr (d := 43) (by rfl)).1 h
  simp only [Sty.word]; rw [if_neg (by decide), if_pos trivial]
theorem word_bad {t : Sty} {c : UInt8} {r : B} (h1 : ¬ c.toNat = 111) (h2 : ¬ c.toNat = 43) (h3 : numW r < 1 ∨ numW r > (t.live.length : Int) ∨ t.live.getD ((numW r).toNat - 1) false = false) : t.word (c :: r) = { t with right := false } := by
  simp only [Sty.word]; rw [if_neg (fun e => h1 ((chr (d := 111) (by rfl)).2 e)), if_neg (fun e => h2 ((chr (d := 43) (by rfl)).2 e)), if_pos h3]
theorem word_free {t : Sty} {c : UInt8} {r : B} (h : c.toNat = 45) (h3 : ¬ (numW r < 1 ∨ numW r > (t.live.length : Int) ∨ t.live.getD ((numW r).toNat - 1) false = false)) : t.word (c :: r) = ⟨t.live.set ((numW r).toNat - 1) false, t.count - 1, t.right⟩ := by
  obtain rfl := (chr (d := 45) (by rfl)).1 h
  simp only [Sty.word]; rw [if_neg (by decide), if_neg (by decide), if_neg h3, if_pos trivial]
theorem word_use {t : Sty} {c : UInt8} {r : B} (h1 : ¬ c.toNat = 111) (h2 : ¬ c.toNat = 43) (h4 : ¬ c.toNat = 45) (h3 : ¬ (numW r < 1 ∨ numW r > (t.live.length : Int) ∨ t.live.getD ((numW r).toNat - 1) false = false)) : t.word (c :: r) = t := by
  simp only [Sty.word]; rw [if_neg (fun e => h1 ((chr (d := 111) (by rfl)).2 e)), if_neg (fun e => h2 ((chr (d := 43) (by rfl)).2 e)), if_neg h3, if_neg (fun e => h4 ((chr (d := 45) (by rfl)).2 e))]
theorem list_cons (s : ByteArray) (h : 0 < s.size) : s.toList = s[0] :: s.toList.tail := by
  have e := getElem_toList s 0 h
  have hl : 0 < s.toList.length := by rw [length_toList]; exact h
  cases hs : s.toList with
  | nil => rw [hs] at hl; simp at hl
  | cons a r => simp only [hs, List.getElem_cons_zero] at e; rw [e]; rfl
theorem word_eq (t : Sty) (s : ByteArray) (h : 0 < s.size) : t.word s.toList = t.word (s[0] :: s.toList.tail) := by rw [← list_cons s h]
theorem info_bool : (Tryz.prog.info? 4).map (fun i => (i.zero, i.size, i.bytes)) = some (some (.bool false), 1, 1) := by kernel_rfl
set_option maxRecDepth 20000 in
set_option maxHeartbeats 2000000 in
theorem word_any {z x : Nat} {w : World} {t : Sty} {vl : Value} (h : StAt z x w t vl) (s : ByteArray) (hs : s.size ≤ 1099511627776) (hl : t.live.length ≤ 1000000000) (hc : -1000000000 ≤ t.count ∧ t.count ≤ 1000000000) :
    Calls Tryz.prog 45 #[.pointer (some ⟨x, 0, none⟩), .string s] w fun e w' => e = .returned (.tuple #[]) ∧ (∃ vl', StAt z x w' (t.word s.toList) vl') ∧ Below z w w' := by
  obtain ⟨c0, c1, c2, f0, f1, f2⟩ := h.facts
  obtain ⟨ad, cap, rfl, hcap⟩ := own_slice h.row
  obtain ⟨i, hi, hz0, hz1, hz2⟩ := info_parts info_bool
  go_enter Tryz.func45, Tryz.ntmps45
  go_wp2
  go_loop [4, 5] (fun n i => ∃ (k : Nat) (m : Int), k ≤ 8 ∧ i = .int .i64 ((k : Nat) + 1) ∧ n = .int .i64 m ∧ -(23 * (10 ^ k - 1)) ≤ m ∧ m ≤ 23 * (10 ^ k - 1) ∧ Hid (numP s.toList.tail k = m)) (fun _ i => 9 - (intOf i).toNat)
  case atStart => exact ⟨0, 0, by omega, rfl, rfl, by omega, by omega, rfl⟩
  case round =>
    obtain ⟨k, m, hk, rfl, rfl, hm0, hm1, HM⟩ := hrel
    have hp : (10 : Int) ^ k ≤ 100000000 ∧ (10 : Int) ^ (k + 1) = 10 * 10 ^ k := by
      refine ⟨?_, by rw [Int.pow_succ]; omega⟩
      have : (10 : Nat) ^ k ≤ 10 ^ 8 := Nat.pow_le_pow_right (by decide) hk
      have e : ((10 ^ k : Nat) : Int) = (10 : Int) ^ k := by simp
      omega
    obtain ⟨hp1, hp2⟩ := hp
    generalize (10 : Int) ^ k = P at hm0 hm1 hp1 hp2
    have go : k + 1 < s.size ∧ k + 1 < 9 ∨ ¬ k + 1 < s.size ∨ (k + 1 < s.size ∧ ¬ k + 1 < 9) := by omega
    have HX : Hid (¬ (k + 1 < s.size ∧ k + 1 < 9) → numP s.toList.tail k = numW s.toList.tail) := numP_end s k hk
    rcases go with ⟨h1, h2⟩ | h1 | ⟨h1, h2⟩
    · have h1I : (k : Int) + 1 < s.size := by omega
      have h2I : (k : Int) + 1 < 9 := by omega
      have HN : Hid (_ = _) := numP_on s k h1
      have hb : (s[k + 1].toNat : Int) ≤ 255 := by have := s[k + 1].toNat_lt; omega
      go_wp2
      go_round
      case rel => exact ⟨k + 1, 10 * m + (s[k + 1].toNat : Int) - 48, by omega, by go_num, by go_num, by rw [hp2]; omega, by rw [hp2]; omega, by rw [Hid, HN.out, HM.out]⟩
      case measure => simp [intOf]; omega
    all_goals
      have HE : Hid (numW s.toList.tail = m) := (HX.out (by omega)).symm.trans HM.out
      clear HX HM
      by_cases hz : s.size = 0
      · first
        | (exfalso; omega)
        | (obtain rfl : s = ⟨#[]⟩ := size_zero hz
           have h5 := h.setRight false
           go_wp2
           go_end0
           exact ⟨rfl, ⟨_, h5.1⟩, h5.2⟩)
      · have hne : s.toList.isEmpty = false := size_pos hz
        have hlt : 0 < s.size := by omega
        have HT : Hid (_ = _) := word_eq t s hlt
        have hby : s[0].toNat < 256 := s[0].toNat_lt
        by_cases e1 : s[0].toNat = 111
        · have b1 : ((s[0].toNat : Int) == 111) = true := by simp [e1]
          have H1 : Hid (_ = _) := e1
          clear e1
          go_wp2
          refine bodyPost_ret (results_none rfl _ _ _) rfl ?_
          exact ⟨rfl, ⟨_, by rw [HT.out, word_o H1.out]; exact h⟩, Below.refl _ _⟩
        · have b1 : ((s[0].toNat : Int) == 111) = false := by simp; omega
          have H1 : Hid (¬ _) := e1
          clear e1
          by_cases e2 : s[0].toNat = 43
          · have b2 : ((s[0].toNat : Int) == 43) = true := by simp [e2]
            have H2 : Hid (_ = _) := e2
            clear e2
            have hcase : (t.right = false ∧ (t.right && (m == (t.live.length : Int) + 1)) = false) ∨ (t.right = true ∧ (m == (t.live.length : Int) + 1) = true ∧ (t.right && (m == (t.live.length : Int) + 1)) = true) ∨ (t.right = true ∧ (m == (t.live.length : Int) + 1) = false ∧ (t.right && (m == (t.live.length : Int) + 1)) = false) := by
              cases t.right <;> cases (m == (t.live.length : Int) + 1) <;> simp
            rcases hcase with ⟨hr, hbb⟩ | ⟨hr, hq, hbb⟩ | ⟨hr, hq, hbb⟩
            all_goals
              rw [hr] at c2
              have HB : Hid (_ = _) := hbb
              have HR : Hid (_ = _) := hr
              clear hbb hr
              go_upto_region 10 with fail
              have h5 := h.setRight (t.right && (m == (t.live.length : Int) + 1))
              rw [HB.out] at h5
              obtain ⟨h5, hb5⟩ := h5
              first
              | (obtain ⟨W5, hW⟩ : ∃ W, w.setCell ⟨x, 2, none⟩ (.bool false) = W := ⟨_, rfl⟩; rw [hW] at h5 hb5 ⊢)
              | (obtain ⟨W5, hW⟩ : ∃ W, w.setCell ⟨x, 2, none⟩ (.bool true) = W := ⟨_, rfl⟩; rw [hW] at h5 hb5 ⊢)
              clear hW c0 c1 c2 f0 f1 f2
              obtain ⟨c0, c1, c2, f0, f1, f2⟩ := h5.facts
              have hbA : Below W5.heap.size W5 (W5.alloc (.cells #[.bool true] 4)) := (Below.refl _ _).alloc (Nat.le_refl _) _
              have HA := h5.below hbA
              obtain ⟨a0, a1, a2, g0, g1, g2⟩ := HA.facts
              have hsA : z ≤ (W5.alloc (.cells #[.bool true] 4)).heap.size := by have := HA.lt; have := HA.base; omega
              go_wp2_with (at_builtin; go_must (refine append_blk rfl _ _ 52 rfl z 4 i (.bool false) 1 1 Tryz.underlying52 hi hz0 hz1 hz2 rfl (by decide) (.slice ad t.live.length cap) _ _ rfl HA.row W5.heap.size [.bool true] rfl Array.getElem?_push_size rfl (by intro u' hu; simp at hu; subst hu; rfl) (by decide) (by simp only; omega) hsA ?_); intro g4 c4 w4 hown4 hgrow4 hat4 hlt4; have hblk4 : w4.heap[x]? = _ := (hgrow4.block _ HA.lt (own_type_ne HA.row HA.blk (by decide))).trans HA.blk; have r0 : w4.cell? ⟨x, 0, none⟩ = some (.slice ad t.live.length cap) := (by rw [cell_of_heap hblk4]; simp); have rf0 : w4.frozen? ⟨x, 0, none⟩ = false := frozen_of_heap hblk4 0; obtain ⟨h7, hb7⟩ := h5.add hbA hown4 hgrow4; obtain ⟨d0, d1, d2, k0, k1, k2⟩ := h7.facts; obtain ⟨h8, hb8⟩ := h7.setCount (t.count + 1))
              go_end0
              have e9 := HT.out.trans (word_add H2.out)
              rw [HE.out, HB.out] at e9
              rw [e9]
              exact ⟨rfl, ⟨_, h8⟩, hb5.trans (hb7.trans hb8)⟩
          · have b2 : ((s[0].toNat : Int) == 43) = false := by simp; omega
            have H2 : Hid (¬ _) := e2
            clear e2
            have H3 : Hid (numW s.toList.tail = m) := HE
            by_cases e3 : m < 1
            · have HC : Hid (t.word s.toList = { t with right := false }) := HT.out.trans (word_bad H1.out H2.out (.inl (by rw [HE.out]; exact e3)))
              have h5 := h.setRight false
              go_wp2
              go_end0
              exact ⟨rfl, ⟨_, by rw [HC.out]; exact h5.1⟩, h5.2⟩
            by_cases e4 : m > (t.live.length : Int)
            · have HC : Hid (t.word s.toList = { t with right := false }) := HT.out.trans (word_bad H1.out H2.out (.inr (.inl (by rw [HE.out]; exact e4))))
              have h5 := h.setRight false
              go_wp2
              go_end0
              exact ⟨rfl, ⟨_, by rw [HC.out]; exact h5.1⟩, h5.2⟩
            obtain ⟨n, hn⟩ : ∃ n : Nat, m = (n : Int) + 1 := ⟨(m - 1).toNat, by omega⟩
            subst hn
            have hnl : n < t.live.length := by omega
            obtain ⟨g, cap', hv, hcp, hg, q0, q1, h5, hb5⟩ := h.at_ hnl
            simp only [Value.slice.injEq] at hv
            obtain ⟨rfl, -, rfl⟩ := hv
            obtain ⟨d0, d1, d2, k0, k1, k2⟩ := h5.facts
            obtain ⟨h8, hb8⟩ := h5.setCount (t.count - 1)
            have et : ((n : Int) + 1 - 1).toNat = n := by omega
            have et2 : ((n : Int) + 1).toNat - 1 = n := by omega
            cases hv : t.live.getD n false
            · have HC : Hid (t.word s.toList = { t with right := false }) := HT.out.trans (word_bad H1.out H2.out (.inr (.inr (by rw [HE.out, et2]; exact hv))))
              rw [hv] at q0
              have h5 := h.setRight false
              go_wp2
              go_end0
              exact ⟨rfl, ⟨_, by rw [HC.out]; exact h5.1⟩, h5.2⟩
            · have hno : ¬ (numW s.toList.tail < 1 ∨ numW s.toList.tail > (t.live.length : Int) ∨ t.live.getD ((numW s.toList.tail).toNat - 1) false = false) := by
                rw [HE.out, et2, hv]
                rintro (e | e | e)
                · omega
                · omega
                · cases e
              have HNO : Hid (¬ _) := hno
              clear hno
              rw [hv] at q0
              by_cases e5 : s[0].toNat = 45
              · have b3 : ((s[0].toNat : Int) == 45) = true := by simp [e5]
                have HC : Hid (t.word s.toList = ⟨t.live.set n false, t.count - 1, t.right⟩) := HT.out.trans ((word_free e5 HNO.out).trans (by rw [HE.out, et2]))
                clear e5
                go_wp2
                go_end0
                exact ⟨rfl, ⟨_, by rw [HC.out]; exact h8⟩, hb5.trans hb8⟩
              · have b3 : ((s[0].toNat : Int) == 45) = false := by simp; omega
                have HC : Hid (t.word s.toList = t) := HT.out.trans (word_use H1.out H2.out e5 HNO.out)
                clear e5
                go_wp2
                go_end0
                exact ⟨rfl, ⟨_, by rw [HC.out]; exact h⟩, Below.refl _ _⟩
end Go.Proofs.YtmlgajhhnojdjaaGreatDoor.Bal
/- stowkeep's told, walked: what a trace says, whatever text it is. Condition: it has at most 2^29 bytes. -/
namespace Go.Proofs.YtmlgajhhnojdjaaGreatDoor.Bal
open Go Go.RowKit Go.Proofs.YtmlgajhhnojdjaaGreatDoor.Spec Go.Proofs.YtmlgajhhnojdjaaGreatDoor.Aux Go.Proofs.YtmlgajhhnojdjaaGreatDoor.PrjJ Go.Proofs.YtmlgajhhnojdjaaGreatDoor.PrjK Go.Proofs.YtmlgajhhnojdjaaGreatDoor.PrjL Go.Proofs.YtmlgajhhnojdjaaGreatDoor.PrjM Go.Proofs.YtmlgajhhnojdjaaGreatDoor.Own Go.Proofs.YtmlgajhhnojdjaaGreatDoor.RefE

theorem word_lim (t : Sty) (b : B) {k : Nat} (hl : t.live.length ≤ k) (hc : -(k : Int) ≤ t.count ∧ t.count ≤ k) : (t.word b).live.length ≤ k + 1 ∧ -((k + 1 : Nat) : Int) ≤ (t.word b).count ∧ (t.word b).count ≤ ((k + 1 : Nat) : Int) := by
  cases b with
  | nil => simp only [Sty.word]; omega
  | cons c r =>
    simp only [Sty.word]
    split
    · omega
    · split
      · simp only [List.length_append, List.length_cons, List.length_nil]; omega
      · split
        · simp only; omega
        · split
          · simp only [List.length_set]; omega
          · omega
structure Telling (s : ByteArray) (t : Sty) (f k : Nat) : Prop where
  no : ∀ j, f ≤ j → j < k → s.toList.getD j 0 ≠ 32
  fin : (splitW (s.toList.drop f)).foldl Sty.word t = tell s.toList
theorem tell_start {s : ByteArray} (h : ¬ s.size = 0) : Telling s .nil 0 0 := ⟨fun j _ h => by omega, by
  rw [List.drop_zero, tell, if_neg]
  intro e
  have := length_toList s
  rw [e] at this; exact h this.symm⟩
theorem getD_byte {s : ByteArray} {k : Nat} (hk : k < s.size) : s.toList.getD k 0 = s[k] := by
  have hl : k < s.toList.length := by rw [length_toList]; exact hk
  rw [List.getD_eq_getElem?_getD, List.getElem?_eq_getElem hl, ← getElem_toList s k hk]; rfl
theorem Telling.on {s : ByteArray} {t : Sty} {f k : Nat} (h : Telling s t f k) (hk : k < s.size) (hc : ¬ s[k].toNat = 32) : Telling s t f (k + 1) := ⟨fun j h1 h2 => by
  by_cases e : j = k
  · subst e; rw [getD_byte hk]; intro e; rw [e] at hc; exact hc rfl
  · exact h.no j h1 (by omega), h.fin⟩
theorem Telling.at_ {s : ByteArray} {t : Sty} {f k : Nat} (h : Telling s t f k) (hf : f ≤ k) (hk : k < s.size) (hc : s[k].toNat = 32) : Telling s (t.word ((s.toList.drop f).take (k - f))) (k + 1) (k + 1) := ⟨fun j h1 h2 => by omega, by
  have := split_at hf (by rw [length_toList]; omega) h.no (.inr (by rw [getD_byte hk]; exact UInt8.toNat_inj.1 hc))
  have hf2 := h.fin
  rw [this, if_neg (by rw [length_toList]; omega), List.foldl_cons] at hf2
  exact hf2⟩
theorem Telling.end_ {s : ByteArray} {t : Sty} {f : Nat} (h : Telling s t f s.size) (hf : f ≤ s.size) : t.word ((s.toList.drop f).take (s.size - f)) = tell s.toList := by
  have := split_at hf (by rw [length_toList]; omega) h.no (.inl (by rw [length_toList]))
  have hf2 := h.fin
  rw [this, if_pos (by rw [length_toList]), List.foldl_cons, List.foldl_nil] at hf2
  exact hf2
set_option maxRecDepth 20000 in
set_option maxHeartbeats 2000000 in
theorem told_any (s : ByteArray) (w : World) (hs : s.size ≤ 536870912) :
    Calls Tryz.prog 24 #[.string s] w fun e w' => (∃ x vl, e = .returned (.pointer (some ⟨x, 0, none⟩)) ∧ StAt w.heap.size x w' (tell s.toList) vl) ∧ Below w.heap.size w w' := by
  have hst : StAt w.heap.size w.heap.size (w.alloc (.cells #[.slice none 0 0, .int .i64 0, .bool true] 54)) .nil (.slice none 0 0) := ⟨Nat.le_refl _, Array.getElem?_push_size, World.ownsRow_nil _ _ _ _⟩
  have hbA : Below w.heap.size w (w.alloc (.cells #[.slice none 0 0, .int .i64 0, .bool true] 54)) := (Below.refl _ _).alloc (Nat.le_refl _) _
  have HS : Hid (s.size = 0 → Sty.nil = tell s.toList) := fun e => by
    have := length_toList s
    rw [e] at this
    rw [List.length_eq_zero_iff.1 this]; rfl
  go_enter Tryz.func24, Tryz.ntmps24
  go_wp2
  go_loopw [4, 5] (fun fr i wr => ∃ (k f : Nat) (t : Sty) (vl : Value), f ≤ k ∧ k ≤ s.size + 1 ∧ i = .int .i64 k ∧ fr = .int .i64 f ∧ Hid (StAt w.heap.size w.heap.size wr t vl) ∧ Hid (Below w.heap.size w wr) ∧ Hid (t.live.length ≤ k ∧ -(k : Int) ≤ t.count ∧ t.count ≤ k) ∧ Hid (k ≤ s.size → ¬ s.size = 0 → Telling s t f k) ∧ Hid (k = s.size + 1 ∨ s.size = 0 → t = tell s.toList)) (fun _ i _ => s.size + 1 - (intOf i).toNat)
  case atStart => exact ⟨0, 0, .nil, _, Nat.le_refl _, Nat.zero_le _, rfl, rfl, hst, hbA, ⟨Nat.le_refl _, by decide, by decide⟩, fun _ h => tell_start h, fun h => HS.out (h.resolve_left (by omega))⟩
  case round =>
    obtain ⟨k, f, t, vl, hf, hk, rfl, rfl, HT, HB, HL, H1, H2⟩ := hrel
    clear hst hbA
    by_cases hz : s.size = 0
    · obtain rfl : s = ⟨#[]⟩ := size_zero hz
      have HF : Hid (t = tell _) := H2.out (.inr hz)
      by_cases hk0 : k = 0
      · subst hk0
        go_wp2
        go_ret
        exact ⟨⟨_, vl, rfl, by rw [← HF.out]; exact HT.out⟩, HB.out⟩
      · go_wp2
        go_ret
        exact ⟨⟨_, vl, rfl, by rw [← HF.out]; exact HT.out⟩, HB.out⟩
    · have hne : s.toList.isEmpty = false := size_pos hz
      by_cases hle : k ≤ s.size
      · have HG : Hid (Telling s t f k) := H1.out hle hz
        have HWL : Hid (_) := word_lim t ((s.toList.drop f).take (k - f)) HL.out.1 HL.out.2
        have KW : Calls Tryz.prog 45 #[.pointer (some ⟨w.heap.size, 0, none⟩), .string (s.extract f k)] _ _ := word_any HT.out (s.extract f k) (by rw [ByteArray.size_extract]; omega) (by have := HL.out.1; omega) (by have := HL.out.2; omega)
        have HEX : Hid ((s.extract f k).toList = (s.toList.drop f).take (k - f)) := by rw [Hid, extract_eq, toList_bs]
        by_cases hlt : k < s.size
        · by_cases hc : s[k].toNat = 32
          · have hcb : ((s[k].toNat : Int) == 32) = true := by simp [hc]
            have HC : Hid (s[k].toNat = 32) := hc
            clear hc
            go_wp2_with (go_at_call 45; refine KW.mono ?_; rintro e w1 ⟨rfl, ⟨vl1, hst1⟩, hb1⟩)
            go_roundw
            case rel =>
              rw [HEX.out] at hst1
              exact ⟨k + 1, k + 1, _, vl1, Nat.le_refl _, by omega, by go_num, by go_num, hst1, HB.out.trans hb1, HWL.out, fun _ _ => HG.out.at_ hf hlt HC.out, fun h => by omega⟩
            case measure => simp [intOf]; omega
          · have hcb : ((s[k].toNat : Int) == 32) = false := by simp; omega
            have HC : Hid (¬ s[k].toNat = 32) := hc
            clear hc KW
            go_wp2
            go_roundw
            case rel =>
              exact ⟨k + 1, f, t, vl, by omega, by omega, by go_num, rfl, HT, HB, (by have := HL.out; unfold Hid; omega), fun _ _ => HG.out.on hlt HC.out, fun h => by omega⟩
            case measure => simp [intOf]; omega
        · obtain rfl : k = s.size := by omega
          go_wp2_with (go_at_call 45; refine KW.mono ?_; rintro e w1 ⟨rfl, ⟨vl1, hst1⟩, hb1⟩)
          go_roundw
          case rel =>
            rw [HEX.out] at hst1
            exact ⟨s.size + 1, s.size + 1, _, vl1, Nat.le_refl _, by omega, by go_num, by go_num, hst1, HB.out.trans hb1, HWL.out, fun h => by omega, fun _ => HG.out.end_ hf⟩
          case measure => simp [intOf]
      · have HF : Hid (t = tell _) := H2.out (.inl (by omega))
        go_wp2
        go_ret
        exact ⟨⟨_, vl, rfl, by rw [← HF.out]; exact HT.out⟩, HB.out⟩
end Go.Proofs.YtmlgajhhnojdjaaGreatDoor.Bal
/- Plain facts: programs of one block that are made line by line, and what the project's reader makes of them. -/
namespace Go.Proofs.YtmlgajhhnojdjaaGreatDoor.MadA
open Go Go.Proofs.YtmlgajhhnojdjaaGreatDoor.Spec

/-- the five places: p, q, x.a, x.b, o.s -/
def plc (i : Fin 5) : B := match i with
  | 0 => [112] | 1 => [113] | 2 => [120, 46, 97] | 3 => [120, 46, 98] | 4 => [111, 46, 115]
def plq (i : Fin 5) : Nat × Nat := match i with
  | 0 => (1, 0) | 1 => (2, 0) | 2 => (3, 1) | 3 => (3, 2) | 4 => (4, 3)
inductive ML where
  | new (i : Fin 5)
  | load (i : Fin 5)
  | store (i : Fin 5)
  | move (i k : Fin 5)
  | drop (i : Fin 5)
  | some (k : Fin 5)
def ML.text : ML → B
  | new i => [110, 101, 119, 32] ++ plc i ++ [32, 110]
  | load i => [108, 111, 97, 100, 32, 110, 32] ++ plc i
  | store i => [115, 116, 111, 114, 101, 32] ++ plc i ++ [32, 110]
  | move i k => [109, 111, 118, 101, 32] ++ plc i ++ ([32] ++ plc k)
  | drop i => [100, 114, 111, 112, 32] ++ plc i
  | some k => [115, 111, 109, 101, 32, 111, 32] ++ plc k
def ML.q (n : Nat) : ML → QLine
  | new i => ⟨n, 9, [plq i, (0, 0)], 0, 0, []⟩
  | load i => ⟨n, 10, [(0, 0), plq i], 0, 0, []⟩
  | store i => ⟨n, 11, [plq i, (0, 0)], 0, 0, []⟩
  | move i k => ⟨n, 12, [plq i, plq k], 0, 0, []⟩
  | drop i => ⟨n, 15, [plq i], 0, 0, []⟩
  | some k => ⟨n, 14, [(4, 0), plq k], 0, 0, []⟩
instance : DecidableEq QLine := fun x y => decidable_of_iff (x.num = y.num ∧ x.op = y.op ∧ x.places = y.places ∧ x.number = y.number ∧ x.flag = y.flag ∧ x.next = y.next)
  ⟨fun ⟨h1, h2, h3, h4, h5, h6⟩ => by cases x; cases y; simp only at h1 h2 h3 h4 h5 h6; subst h1 h2 h3 h4 h5 h6; rfl, fun h => by subst h; exact ⟨rfl, rfl, rfl, rfl, rfl, rfl⟩⟩
end Go.Proofs.YtmlgajhhnojdjaaGreatDoor.MadA
/- Plain definitions: which places of a program that is made line by line have a box. -/
namespace Go.Proofs.YtmlgajhhnojdjaaGreatDoor.MadM
open Go Go.Proofs.YtmlgajhhnojdjaaGreatDoor.Spec Go.Proofs.YtmlgajhhnojdjaaGreatDoor.MadA

/-- which places have a box; the opt: 0 nothing, 1 whole, 2 hollow -/
structure MM where
  p : Bool
  q : Bool
  a : Bool
  b : Bool
  o : Fin 3
end Go.Proofs.YtmlgajhhnojdjaaGreatDoor.MadM
/- Plain facts: which places of a program that is made line by line have a box, and where its first fault is. -/
namespace Go.Proofs.YtmlgajhhnojdjaaGreatDoor.MadB
open Go Go.Proofs.YtmlgajhhnojdjaaGreatDoor.Spec Go.Proofs.YtmlgajhhnojdjaaGreatDoor.Aux Go.Proofs.YtmlgajhhnojdjaaGreatDoor.FlwF Go.Proofs.YtmlgajhhnojdjaaGreatDoor.FlwG Go.Proofs.YtmlgajhhnojdjaaGreatDoor.FlwH Go.Proofs.YtmlgajhhnojdjaaGreatDoor.FlwI Go.Proofs.YtmlgajhhnojdjaaGreatDoor.FlwJ Go.Proofs.YtmlgajhhnojdjaaGreatDoor.FlwM Go.Proofs.YtmlgajhhnojdjaaGreatDoor.FlwO Go.Proofs.YtmlgajhhnojdjaaGreatDoor.FlwP Go.Proofs.YtmlgajhhnojdjaaGreatDoor.FlwQ Go.Proofs.YtmlgajhhnojdjaaGreatDoor.FlwS Go.Proofs.YtmlgajhhnojdjaaGreatDoor.FlwX Go.Proofs.YtmlgajhhnojdjaaGreatDoor.FlwY Go.Proofs.YtmlgajhhnojdjaaGreatDoor.MadA Go.Proofs.YtmlgajhhnojdjaaGreatDoor.MadM

theorem outsL_none (q : QP) : ∀ (ls : List QLine) (s : List Nat), (∀ l ∈ ls, l.next = []) → outsL q ls s = []
  | [], _, _ => rfl
  | l :: ls, s, h => by
    rw [outsL, h l (List.mem_cons_self ..)]
    exact outsL_none q ls _ fun x hx => h x (List.mem_cons_of_mem _ hx)
/-- of one block that leads nowhere the ways are those it starts with -/
theorem one_block {q : QP} {E : List (List Nat)} {O : Nat → Bool} {ls : List QLine} (hq : q.blocks = [ls]) (hn : ∀ l ∈ ls, l.next = []) (h : InvF q E O) : firstSome (faultB q E) q.blocks.length 0 = faultL q ls startSt := by
  have hl : q.blocks.length = 1 := by rw [hq]; rfl
  have hb : q.blocks.getD 0 [] = ls := by rw [hq]; rfl
  have hU : QClosed q (fun _ => startSt) := ⟨fun _ _ => startSt_ok, leS_refl _, fun b hb' _ x hx => by
    have : b = 0 := by omega
    subst this
    rw [hb, outsL_none q ls _ hn] at hx; cases hx⟩
  have h1 := h.inv.least _ hU 0 (by omega)
  have h2 := h.inv.start
  have hs := h.inv.ok.at (i := 0) (by rw [h.inv.len]; omega)
  have he : E.getD 0 [] = startSt := by
    refine ext24 hs.len (by decide) fun k hk => ?_
    have a1 := h1 k hk
    have a2 := h2 k hk
    unfold le1 at a1 a2
    rw [Nat.or_comm, a2] at a1
    exact a1
  rw [hl]
  show (faultB q E 0).or none = _
  unfold faultB
  rw [he, if_neg startSt_ne, hb, Option.or_none]
end Go.Proofs.YtmlgajhhnojdjaaGreatDoor.MadB
/- Programs that are made line by line: the maker's steps, walked. -/
namespace Go.Proofs.YtmlgajhhnojdjaaGreatDoor.MadC
open Go Go.RowKit Go.Proofs.YtmlgajhhnojdjaaGreatDoor.Spec Go.Proofs.YtmlgajhhnojdjaaGreatDoor.Aux Go.Proofs.YtmlgajhhnojdjaaGreatDoor.PrjJ Go.Proofs.YtmlgajhhnojdjaaGreatDoor.PrjK Go.Proofs.YtmlgajhhnojdjaaGreatDoor.MadA Go.Proofs.YtmlgajhhnojdjaaGreatDoor.MadM

section
variable {w w' : World} {a : Nat} {T : ByteArray} {n : Nat} {m : MM}
def pickN (c : Int) (n : Nat) : Nat := ((if c < 0 then -(c + 1) else c) % n).toNat
theorem pickN_lt (c : Int) {n : Nat} (hn : 0 < n) : pickN c n < n := by
  unfold pickN
  have h1 := Int.emod_nonneg (if c < 0 then -(c + 1) else c) (b := (n : Int)) (by omega)
  have h2 := Int.emod_lt_of_pos (if c < 0 then -(c + 1) else c) (b := (n : Int)) (by omega)
  omega
end
theorem pick_any (c : Int) (n : Nat) (w : World) (hc : -9223372036854775808 ≤ c ∧ c ≤ 9223372036854775807) (hn : 0 < n ∧ n ≤ 10000000) : Calls Tryz.prog 16 #[.int .i64 c, .int .i64 n] w fun e w' => e = .returned (.int .i64 (pickN c n : Nat)) ∧ w' = w := by
  have hz : ((n : Int) == 0) = false := by rw [beq_eq_false_iff_ne]; omega
  by_cases h : c < 0
  · go_enter Tryz.func16, Tryz.ntmps16
    go_wp2
    go_ret
    refine ⟨?_, rfl⟩
    have e : -((c + 1).tmod (n : Int)) = ((pickN c n : Nat) : Int) := by
      unfold pickN
      rw [if_pos h, ← Int.neg_tmod, Int.tmod_eq_emod_of_nonneg (by omega), Int.toNat_of_nonneg (Int.emod_nonneg _ (by omega))]
    show Ending.returned (Value.int .i64 (-((c + 1).tmod (n : Int)))) = _
    rw [e]
  · go_enter Tryz.func16, Tryz.ntmps16
    go_wp2
    go_ret
    refine ⟨?_, rfl⟩
    have e : c % (n : Int) = ((pickN c n : Nat) : Int) := by
      unfold pickN
      rw [if_neg (by omega), Int.toNat_of_nonneg (Int.emod_nonneg _ (by omega))]
    show Ending.returned (Value.int .i64 (c % (n : Int))) = _
    rw [e]
section
variable {w : World} {a : Nat} {T : ByteArray} {n : Nat} {m : MM}
end
end Go.Proofs.YtmlgajhhnojdjaaGreatDoor.MadC
/- Programs that are made line by line: a line out of raw numbers, walked. -/
namespace Go.Proofs.YtmlgajhhnojdjaaGreatDoor.MadD
theorem hereMadD : True := trivial
end Go.Proofs.YtmlgajhhnojdjaaGreatDoor.MadD
/- Programs that are made line by line: what Check says of them; their beginning, walked. -/
namespace Go.Proofs.YtmlgajhhnojdjaaGreatDoor.MadE
open Go Go.RowKit Go.Proofs.YtmlgajhhnojdjaaGreatDoor.Spec Go.Proofs.YtmlgajhhnojdjaaGreatDoor.Aux Go.Proofs.YtmlgajhhnojdjaaGreatDoor.PrjJ Go.Proofs.YtmlgajhhnojdjaaGreatDoor.PrjK Go.Proofs.YtmlgajhhnojdjaaGreatDoor.FlwI Go.Proofs.YtmlgajhhnojdjaaGreatDoor.FlwP Go.Proofs.YtmlgajhhnojdjaaGreatDoor.FlwQ Go.Proofs.YtmlgajhhnojdjaaGreatDoor.FlwY Go.Proofs.YtmlgajhhnojdjaaGreatDoor.FlwZ Go.Proofs.YtmlgajhhnojdjaaGreatDoor.FlwZa Go.Proofs.YtmlgajhhnojdjaaGreatDoor.MadA Go.Proofs.YtmlgajhhnojdjaaGreatDoor.MadM Go.Proofs.YtmlgajhhnojdjaaGreatDoor.MadB Go.Proofs.YtmlgajhhnojdjaaGreatDoor.MadC Go.Proofs.YtmlgajhhnojdjaaGreatDoor.MadD

def oneQ : QP := ⟨[([110], 0), ([112], 1)], [[⟨3, 2, [(0, 0)], 5, 0, []⟩, ⟨4, 9, [(1, 0), (0, 0)], 0, 0, []⟩, ⟨5, 10, [(0, 0), (1, 0)], 0, 0, []⟩, ⟨6, 22, [(0, 0)], 0, 0, []⟩]]⟩
set_option maxRecDepth 100000 in
theorem one_read : prjRead oneText false = (some oneQ, 0, 0) := by rfl
theorem chk_one {c k : Int} (ha : chkAns oneText c k) : c = 0 ∧ k = 0 := by
  have hr := one_read
  obtain ⟨-, -, p, hp, -⟩ := prjRead_good hr
  rcases ha with ⟨c', k', -, h1, -⟩ | ⟨p', q, E, -, h2, hD, h3⟩
  · rw [hp] at h1; cases h1
  · rw [hr] at h2
    simp only [Prod.mk.injEq, Option.some.injEq, and_true] at h2
    subst h2
    have h4 := one_block (q := oneQ) rfl (by decide) hD.inv
    have h5 : faultL oneQ _ startSt = none := (by decide : faultL oneQ [⟨3, 2, [(0, 0)], 5, 0, []⟩, ⟨4, 9, [(1, 0), (0, 0)], 0, 0, []⟩, ⟨5, 10, [(0, 0), (1, 0)], 0, 0, []⟩, ⟨6, 22, [(0, 0)], 0, 0, []⟩] startSt = none)
    have h6 := h4.trans h5
    rcases h3 with ⟨n, h7, -⟩ | ⟨-, rfl, rfl⟩
    · rw [h6] at h7; cases h7
    · exact ⟨rfl, rfl⟩
end Go.Proofs.YtmlgajhhnojdjaaGreatDoor.MadE
