/- The project's machines: what both have in a yard, as plain functions; how it lies in memory; a word more of the trace. -/
import Derived.Test.YtmlgajhhnojdjaaGreatDoorKAA
import Derived.Test.YtmlgajhhnojdjaaGreatDoorKAI
import Derived.Deep.RegionHeld3
import Derived.Deep.RegionLaw
import Derived.BigRegion
import Derived.Lib.ItoaLen
import Derived.Laws.OwnMore
import Derived.Deep.DeepMust
import Derived.Deep.AppendLies
namespace Go.Proofs.YtmlgajhhnojdjaaGreatDoor.Own
open Go Go.RowKit Go.Proofs.YtmlgajhhnojdjaaGreatDoor.Spec Go.Proofs.YtmlgajhhnojdjaaGreatDoor.Aux Go.Proofs.YtmlgajhhnojdjaaGreatDoor.PrjJ Go.Proofs.YtmlgajhhnojdjaaGreatDoor.PrjK Go.Proofs.YtmlgajhhnojdjaaGreatDoor.PrjL Go.Proofs.YtmlgajhhnojdjaaGreatDoor.PrjM

/-- the library's table of powers lies where the start-up lays it -/
def Pow (w : World) : Prop := Lib.TabIs Tryz.prog w "internal/strconv.uint64pow10" .u64 Lib.pow10Tab
/-- what is kept of the boxes of a run, and the trace -/
structure Yd where
  made : List (Int × Bool)
  live : Int
  trace : List B
def Yd.note (y : Yd) (c : UInt8) (n : Int) : Yd := { y with trace := y.trace ++ [c :: Lib.itoa n] }
def boxCell (x : Int × Bool) : List Value := [.int .i64 x.1, .bool x.2]
def boxCells (l : List (Int × Bool)) : List Value := l.flatMap boxCell
def trCells (l : List B) : List Value := l.map fun b => .string (bs b)
def isMach (t : TypeId) : Prop := t = 104 ∨ t = 136
structure YAt (z x : Nat) (t : TypeId) (rest : List Value) (w : World) (y : Yd) (vm vt : Value) : Prop where
  base : z ≤ x
  ty : isMach t
  blk : w.heap[x]? = some (.cells (vm :: .int .i64 y.live :: vt :: rest).toArray t (0, 0))
  made : w.ownsRow z 175 2 vm y.made.length (boxCells y.made)
  trace : w.ownsRow z 9 1 vt y.trace.length (trCells y.trace)
/-- of what was there nothing but the machine and its rows has turned -/
structure Roam (x : Nat) (vm vt : Value) (w : World) (vm' vt' : Value) (w' : World) : Prop where
  os : w'.os = w.os
  tape : w'.tape = w.tape
  output : w'.output = w.output
  size : w.heap.size ≤ w'.heap.size
  block : ∀ k, k < w.heap.size → k ≠ x → vm.ownBlock ≠ some k → vt.ownBlock ≠ some k → w'.heap[k]? = w.heap[k]?
  fm : ∀ b, vm'.ownBlock = some b → vm.ownBlock = some b ∨ w.heap.size ≤ b
  ft : ∀ b, vt'.ownBlock = some b → vt.ownBlock = some b ∨ w.heap.size ≤ b
section
variable {z x : Nat} {t : TypeId} {rest : List Value} {w w1 w2 w3 : World} {y : Yd} {vm vt vm1 vt1 vm2 vt2 v' : Value}
theorem Roam.refl (x : Nat) (vm vt : Value) (w : World) : Roam x vm vt w vm vt w := ⟨rfl, rfl, rfl, Nat.le_refl _, fun _ _ _ _ _ => rfl, fun _ h => .inl h, fun _ h => .inl h⟩
theorem Roam.trans (h : Roam x vm vt w vm1 vt1 w1) (h' : Roam x vm1 vt1 w1 vm2 vt2 w2) : Roam x vm vt w vm2 vt2 w2 := by
  refine ⟨h'.os.trans h.os, h'.tape.trans h.tape, h'.output.trans h.output, Nat.le_trans h.size h'.size, fun k hk h1 h2 h3 => ?_, fun b hb => ?_, fun b hb => ?_⟩
  · refine (h'.block k (Nat.lt_of_lt_of_le hk h.size) h1 (fun e => ?_) (fun e => ?_)).trans (h.block k hk h1 h2 h3)
    · rcases h.fm k e with e' | e'
      · exact h2 e'
      · omega
    · rcases h.ft k e with e' | e'
      · exact h3 e'
      · omega
  · rcases h'.fm b hb with e | e
    · exact h.fm b e
    · exact .inr (Nat.le_trans h.size e)
  · rcases h'.ft b hb with e | e
    · exact h.ft b e
    · exact .inr (Nat.le_trans h.size e)
theorem Roam.of (h : Below w.heap.size w w1) : Roam x vm vt w vm vt w1 := ⟨h.os, h.tape, h.output, h.size, fun k hk _ _ _ => h.block k hk, fun _ h => .inl h, fun _ h => .inl h⟩
theorem YAt.lt (h : YAt z x t rest w y vm vt) : x < w.heap.size := lt_of_heap h.blk
theorem YAt.below (h : YAt z x t rest w y vm vt) (hb : Below w.heap.size w w1) : YAt z x t rest w1 y vm vt :=
  ⟨h.base, h.ty, by rw [hb.block x h.lt]; exact h.blk, own_below h.made hb, own_below h.trace hb⟩
theorem isMach.ne (h : isMach t) : 175 ≠ t ∧ 9 ≠ t := by
  rcases h with rfl | rfl <;> decide
theorem Roam.below (h : Roam x vm vt w vm1 vt1 w1) (hy : YAt z x t rest w y vm vt) {b : Nat} (hb : b ≤ z) (hs : b ≤ w.heap.size) : Below b w w1 := by
  refine ⟨h.os, h.tape, h.output, h.size, fun k hk => h.block k (by omega) (by have := hy.base; omega) (fun e => ?_) (fun e => ?_)⟩
  · have := (hy.made.lt k e).1; omega
  · have := (hy.trace.lt k e).1; omega
theorem YAt.facts (h : YAt z x t rest w y vm vt) : w.cell? ⟨x, 0, none⟩ = some vm ∧ w.cell? ⟨x, 1, none⟩ = some (.int .i64 y.live) ∧ w.cell? ⟨x, 2, none⟩ = some vt ∧ w.frozen? ⟨x, 0, none⟩ = false ∧ w.frozen? ⟨x, 1, none⟩ = false ∧ w.frozen? ⟨x, 2, none⟩ = false :=
  ⟨by rw [cell_of_heap h.blk]; simp, by rw [cell_of_heap h.blk]; simp, by rw [cell_of_heap h.blk]; simp, frozen_of_heap h.blk 0, frozen_of_heap h.blk 1, frozen_of_heap h.blk 2⟩
/-- a word more of the trace -/
theorem YAt.noted (h : YAt z x t rest w y vm vt) (h2 : Below w.heap.size w w2) {l : B} (h3 : w3.ownsRow z 9 1 v' (y.trace.length + 1) (trCells y.trace ++ [.string (bs l)])) (hg : w2.grownBy w3 vt.ownBlock)
    (hf : ∀ b, v'.ownBlock = some b → vt.ownBlock = some b ∨ w2.heap.size ≤ b) :
    YAt z x t rest (w3.setCell ⟨x, 2, none⟩ v') { y with trace := y.trace ++ [l] } vm v' ∧ Roam x vm vt w vm v' (w3.setCell ⟨x, 2, none⟩ v') := by
  have H := h.below h2
  obtain ⟨n1, n2⟩ := h.ty.ne
  have hne : some x ≠ vt.ownBlock := own_type_ne H.trace H.blk n2
  have hblk : w3.heap[x]? = some (.cells (vm :: .int .i64 y.live :: vt :: rest).toArray t (0, 0)) := by rw [hg.block x H.lt hne]; exact H.blk
  have hm := H.made.kept hg (own_ne H.made H.trace (by decide))
  refine ⟨⟨h.base, h.ty, ?_, own_setCell hm _ (own_at_ne hm hblk n1), ?_⟩, ?_⟩
  · rw [Aux.heap_setCell_same hblk]; simp
  · have := own_setCell h3 (a := ⟨x, 2, none⟩) v' (own_at_ne h3 hblk n2)
    simpa [trCells] using this
  · refine ⟨hg.os.trans h2.os, hg.tape.trans h2.tape, hg.output.trans h2.output, by simpa using Nat.le_trans h2.size hg.size, fun k hk h1 hm' ht' => ?_, fun _ h => .inl h, fun b hb => ?_⟩
    · rw [Below.heap_setCell _ _ _ _ (by show k ≠ x; exact h1), hg.block k (Nat.lt_of_lt_of_le hk h2.size) (fun e => ht' e.symm)]
      exact h2.block k hk
    · rcases hf b hb with e | e
      · exact .inl e
      · exact .inr (Nat.le_trans h2.size e)
theorem below_grow (k : Nat) (os : Array Obj) (w : World) : Below w.heap.size w (Go.Sort.grow (w.drewN k) os) := by
  have hd := below_drewN (Below.refl w.heap.size w) k
  refine ⟨hd.os, hd.tape, hd.output, ?_, fun j hj => ?_⟩
  · show w.heap.size ≤ ((w.drewN k).heap ++ os).size
    rw [Array.size_append]; have := hd.size; omega
  · show ((w.drewN k).heap ++ os)[j]? = _
    rw [Array.getElem?_append_left (by have := hd.size; omega)]; exact hd.block j hj
theorem info_str : (Tryz.prog.info? 9).map (fun i => (i.zero, i.size, i.bytes)) = some (some (.string ⟨#[]⟩), 1, 16) := by kernel_rfl
theorem info_box : (Tryz.prog.info? 175).map (fun i => (i.zero, i.size, i.bytes)) = some (some (.agg #[.int .i64 0, .bool false]), 2, 16) := by kernel_rfl
theorem pow_at : Tryz.prog.globalNamed "internal/strconv.uint64pow10" = some 4 := by kernel_rfl
theorem Pow.below (h : Pow w) {b : Nat} (hb : Below b w w1) (hs : 11 ≤ b) : Pow w1 := by
  unfold Pow Lib.TabIs World.var? at h ⊢
  rw [pow_at] at h ⊢
  simp only [Option.bind_some] at h ⊢
  rw [hb.block _ (Nat.lt_of_lt_of_le (by decide) hs)]
  exact h
set_option maxRecDepth 20000 in
set_option maxHeartbeats 2000000 in
theorem note_any (h : YAt z x t rest w y vm vt) (c : UInt8) (n : Int) (hn : -9223372036854775808 ≤ n ∧ n ≤ 9223372036854775807) (hp : Pow w) (hl : y.trace.length ≤ 10000000) :
    Calls Tryz.prog 98 #[.pointer (some ⟨x, 0, none⟩), .string (bs [c]), .int .i64 n] w fun e w' => ∃ vt', e = .returned (.tuple #[]) ∧ YAt z x t rest w' (y.note c n) vm vt' ∧ Roam x vm vt w vm vt' w' := by
  obtain ⟨c0, c1, c2, f0, f1, f2⟩ := h.facts
  obtain ⟨i, hi, hz0, hz1, hz2⟩ := info_parts info_str
  have hil : (Lib.itoa n).length ≤ 21 := Lib.itoa_length_le n hn.1 hn.2
  have hov : ¬ 9223372036854775807 < 1 + (Lib.itoa n).length := by omega
  have KF := fun w' (hp : Pow w') => Tryz.strconv_FormatInt_10 n hn.1 hn.2 w' hp
  go_enter Tryz.func98, Tryz.ntmps98
  go_region_law (first
    | (go_simp; go_at_call 133; refine (KF w.drew hp).mono ?_; rintro e w1 ⟨rfl, hk⟩; have hb1 : Below w.heap.size w w1 := (by obtain ⟨k, os, rfl⟩ := hk; have hb := below_grow k os w.drew; exact ⟨hb.os, hb.tape, hb.output, hb.size, hb.block⟩); clear hk; have H1 := h.below hb1; obtain ⟨d0, d1, d2, g0, g1, g2⟩ := H1.facts; have hbA : Below w1.heap.size w1 (w1.alloc (.cells #[.string (bs [c] ++ ⟨(Lib.itoa n).toArray⟩)] 9)) := (Below.refl _ _).alloc (Nat.le_refl _) _; have HA := H1.below hbA; obtain ⟨a0, a1, a2, b0, b1, b2⟩ := HA.facts; have hsA : z ≤ (w1.alloc (.cells #[.string (bs [c] ++ ⟨(Lib.itoa n).toArray⟩)] 9)).heap.size := (by have := HA.lt; have := HA.base; omega))
    | (refine step_blk (by rfl) _ _ _ (by rfl) z 9 i (.string ⟨#[]⟩) 1 16 Tryz.underlying34 hi hz0 hz1 hz2 (by rfl) (by decide) vt _ _ (by rfl) HA.trace w1.heap.size [.string (bs [c] ++ ⟨(Lib.itoa n).toArray⟩)] (by rfl) Array.getElem?_push_size (by rfl) (by intro u' hu; simp at hu; subst hu; rfl) (by decide) (by omega) hsA ?_; intro g4 c4 w4 hown4 hgrow4 hat4 hlt4; have hblk4 : w4.heap[x]? = _ := (hgrow4.block _ HA.lt (own_type_ne HA.trace HA.blk HA.ty.ne.2)).trans HA.blk; have r2 : w4.cell? ⟨x, 2, none⟩ = some vt := (by rw [cell_of_heap hblk4]; simp); have rf2 : w4.frozen? ⟨x, 2, none⟩ = false := frozen_of_heap hblk4 2))
  all_goals go_wp2_with fail
  all_goals
    go_end0
    have e : bs [c] ++ ⟨(Lib.itoa n).toArray⟩ = bs (c :: Lib.itoa n) := eq_bs (by rw [append_toList, toList_bs]; simp [ByteArray.toList_eq])
    rw [e] at hown4
    obtain ⟨h5, h6⟩ := h.noted (hb1.trans (hbA.mono hb1.size)) hown4 hgrow4 (fun b hb => by
      simp only [Value.ownBlock, Option.some.injEq] at hb
      subst hb
      rcases hat4 with e | e
      · exact .inl e
      · exact .inr (by omega))
    exact ⟨_, rfl, h5, h6⟩
end
end Go.Proofs.YtmlgajhhnojdjaaGreatDoor.Own
/- The project's machines: boxes made, freed, read, written; what is put out. -/
namespace Go.Proofs.YtmlgajhhnojdjaaGreatDoor.Own
open Go Go.RowKit Go.Proofs.YtmlgajhhnojdjaaGreatDoor.Spec Go.Proofs.YtmlgajhhnojdjaaGreatDoor.Aux Go.Proofs.YtmlgajhhnojdjaaGreatDoor.PrjJ Go.Proofs.YtmlgajhhnojdjaaGreatDoor.PrjK Go.Proofs.YtmlgajhhnojdjaaGreatDoor.PrjL Go.Proofs.YtmlgajhhnojdjaaGreatDoor.PrjM

def Yd.build (y : Yd) (v : Int) : Yd := Yd.note { y with made := y.made ++ [(v, true)], live := y.live + 1 } 43 ((y.made.length + 1 : Nat) : Int)
def Yd.at (y : Yd) (n : Nat) : Int × Bool := y.made.getD (n - 1) (0, false)
def Yd.free (y : Yd) (n : Nat) : Yd := Yd.note { y with made := y.made.set (n - 1) ((y.at n).1, false), live := y.live - 1 } 45 ((n : Nat) : Int)
def Yd.load (y : Yd) (n : Nat) : Yd := y.note 60 ((n : Nat) : Int)
def Yd.store (y : Yd) (n : Nat) (v : Int) : Yd := { y.note 62 ((n : Nat) : Int) with made := y.made.set (n - 1) (v, (y.at n).2) }
theorem fresh_of {v : Value} {g n k c : Nat} (h : v.ownBlock = some g ∨ g = n) : ∀ b, (Value.slice (some ⟨g, 0, none⟩) k c).ownBlock = some b → v.ownBlock = some b ∨ n ≤ b := fun b hb => by
  simp only [Value.ownBlock, Option.some.injEq] at hb
  subst hb
  rcases h with e | e
  · exact .inl e
  · exact .inr (by omega)
theorem box_len (x : Int × Bool) : (boxCell x).length = 2 := rfl
theorem box_get (l : List (Int × Bool)) (j : Nat) (hj : j < l.length) : (boxCells l)[j * 2]? = some (.int .i64 (l.getD j (0, false)).1) ∧ (boxCells l)[j * 2 + 1]? = some (.bool (l.getD j (0, false)).2) := by
  have h0 := flat_get boxCell 2 box_len l j 0 (by decide)
  have h1 := flat_get boxCell 2 box_len l j 1 (by decide)
  rw [List.getElem?_eq_getElem hj] at h0 h1
  have e : l.getD j (0, false) = l[j] := by simp [hj]
  rw [e]
  exact ⟨h0, h1⟩
theorem box_set : ∀ (l : List (Int × Bool)) (j : Nat) (x : Int × Bool), boxCells (l.set j x) = if j < l.length then ((boxCells l).set (j * 2) (.int .i64 x.1)).set (j * 2 + 1) (.bool x.2) else boxCells l
  | [], j, x => by simp [boxCells]
  | b :: l, 0, x => by simp [boxCells, boxCell]
  | b :: l, j + 1, x => by
    have ih := box_set l j x
    have e : boxCells (b :: l) = .int .i64 b.1 :: .bool b.2 :: boxCells l := rfl
    have e2 : boxCells ((b :: l).set (j + 1) x) = .int .i64 b.1 :: .bool b.2 :: boxCells (l.set j x) := rfl
    rw [e2, ih, e]
    by_cases hj : j < l.length
    · rw [if_pos hj, if_pos (by simp; omega), show (j + 1) * 2 = j * 2 + 1 + 1 by omega]; rfl
    · rw [if_neg hj, if_neg (by simp; omega)]
theorem set_same {l : List Value} {j : Nat} {v : Value} (h : l[j]? = some v) : l.set j v = l := by
  apply List.ext_getElem?
  intro k
  rw [List.getElem?_set]
  by_cases hk : j = k
  · subst hk
    rw [if_pos rfl, h]
    split
    · rfl
    · rename_i hn; rw [List.getElem?_eq_none (by omega)] at h; cases h
  · rw [if_neg hk]
section
variable {z x : Nat} {t : TypeId} {rest : List Value} {w w1 w2 w3 : World} {y : Yd} {vm vt v' : Value}
theorem YAt.setLive (h : YAt z x t rest w y vm vt) (k : Int) : YAt z x t rest (w.setCell ⟨x, 1, none⟩ (.int .i64 k)) { y with live := k } vm vt ∧ Roam x vm vt w vm vt (w.setCell ⟨x, 1, none⟩ (.int .i64 k)) := by
  obtain ⟨n1, n2⟩ := h.ty.ne
  refine ⟨⟨h.base, h.ty, ?_, own_setCell h.made _ (own_at_ne h.made h.blk n1), own_setCell h.trace _ (own_at_ne h.trace h.blk n2)⟩, ⟨rfl, rfl, rfl, by simp, fun j _ h1 _ _ => Below.heap_setCell _ _ _ _ (by show j ≠ x; exact h1), fun _ h => .inl h, fun _ h => .inl h⟩⟩
  rw [Aux.heap_setCell_same h.blk]; simp
theorem YAt.addBox (h : YAt z x t rest w y vm vt) (h2 : Below w.heap.size w w2) {b : Int × Bool} (h3 : w3.ownsRow z 175 2 v' (y.made.length + 1) (boxCells y.made ++ boxCell b)) (hg : w2.grownBy w3 vm.ownBlock)
    (hf : ∀ b, v'.ownBlock = some b → vm.ownBlock = some b ∨ w2.heap.size ≤ b) :
    YAt z x t rest (w3.setCell ⟨x, 0, none⟩ v') { y with made := y.made ++ [b] } v' vt ∧ Roam x vm vt w v' vt (w3.setCell ⟨x, 0, none⟩ v') := by
  have H := h.below h2
  obtain ⟨n1, n2⟩ := h.ty.ne
  have hne : some x ≠ vm.ownBlock := own_type_ne H.made H.blk n1
  have hblk : w3.heap[x]? = some (.cells (vm :: .int .i64 y.live :: vt :: rest).toArray t (0, 0)) := by rw [hg.block x H.lt hne]; exact H.blk
  have hm := H.trace.kept hg (own_ne H.trace H.made (by decide))
  refine ⟨⟨h.base, h.ty, ?_, ?_, own_setCell hm _ (own_at_ne hm hblk n2)⟩, ?_⟩
  · rw [Aux.heap_setCell_same hblk]; simp
  · have := own_setCell h3 (a := ⟨x, 0, none⟩) v' (own_at_ne h3 hblk n1)
    simpa [boxCells] using this
  · refine ⟨hg.os.trans h2.os, hg.tape.trans h2.tape, hg.output.trans h2.output, by simpa using Nat.le_trans h2.size hg.size, fun k hk h1 hm' ht' => ?_, fun b hb => ?_, fun _ h => .inl h⟩
    · rw [Below.heap_setCell _ _ _ _ (by show k ≠ x; exact h1), hg.block k (Nat.lt_of_lt_of_le hk h2.size) (fun e => hm' e.symm)]
      exact h2.block k hk
    · rcases hf b hb with e | e
      · exact .inl e
      · exact .inr (Nat.le_trans h2.size e)
/-- a box's cells -/
theorem YAt.box (h : YAt z x t rest w y vm vt) {n : Nat} (h1 : 1 ≤ n) (hn : n ≤ y.made.length) : ∃ g cap, vm = .slice (some ⟨g, 0, none⟩) y.made.length cap ∧ y.made.length ≤ cap ∧ g < w.heap.size ∧ w.cell? ⟨g, (n - 1) * 2, none⟩ = some (.int .i64 (y.at n).1) ∧ w.cell? ⟨g, (n - 1) * 2 + 1, none⟩ = some (.bool (y.at n).2) ∧
    w.frozen? ⟨g, (n - 1) * 2, none⟩ = false ∧ w.frozen? ⟨g, (n - 1) * 2 + 1, none⟩ = false := by
  obtain ⟨g, cap, rfl, hc, hg, hcell⟩ := own_cell h.made (by omega)
  obtain ⟨b0, b1⟩ := box_get y.made (n - 1) (by omega)
  exact ⟨g, cap, rfl, hc, hg, by rw [hcell _ (by omega)]; exact b0, by rw [hcell _ (by omega)]; exact b1, h.made.frozenAt _, h.made.frozenAt _⟩
theorem YAt.box' {g k cap : Nat} (h : YAt z x t rest w y (.slice (some ⟨g, 0, none⟩) k cap) vt) {n : Nat} (h1 : 1 ≤ n) (hn : n ≤ y.made.length) : w.cell? ⟨g, (n - 1) * 2, none⟩ = some (.int .i64 (y.at n).1) ∧ w.cell? ⟨g, (n - 1) * 2 + 1, none⟩ = some (.bool (y.at n).2) ∧
    w.frozen? ⟨g, (n - 1) * 2, none⟩ = false ∧ w.frozen? ⟨g, (n - 1) * 2 + 1, none⟩ = false := by
  obtain ⟨g', cap', e, -, -, a1, a2, a3, a4⟩ := h.box h1 hn
  simp only [Value.slice.injEq, Option.some.injEq, Addr.mk.injEq, and_true] at e
  obtain ⟨rfl, -, -⟩ := e
  exact ⟨a1, a2, a3, a4⟩
theorem YAt.setBox {g cap : Nat} (h : YAt z x t rest w y (.slice (some ⟨g, 0, none⟩) y.made.length cap) vt) {n : Nat} (h1 : 1 ≤ n) (hn : n ≤ y.made.length) :
    (∀ v : Int, YAt z x t rest (w.setCell ⟨g, (n - 1) * 2, none⟩ (.int .i64 v)) { y with made := y.made.set (n - 1) (v, (y.at n).2) } (.slice (some ⟨g, 0, none⟩) y.made.length cap) vt ∧ Roam x (.slice (some ⟨g, 0, none⟩) y.made.length cap) vt w (.slice (some ⟨g, 0, none⟩) y.made.length cap) vt (w.setCell ⟨g, (n - 1) * 2, none⟩ (.int .i64 v))) ∧
    (∀ v : Bool, YAt z x t rest (w.setCell ⟨g, (n - 1) * 2 + 1, none⟩ (.bool v)) { y with made := y.made.set (n - 1) ((y.at n).1, v) } (.slice (some ⟨g, 0, none⟩) y.made.length cap) vt ∧ Roam x (.slice (some ⟨g, 0, none⟩) y.made.length cap) vt w (.slice (some ⟨g, 0, none⟩) y.made.length cap) vt (w.setCell ⟨g, (n - 1) * 2 + 1, none⟩ (.bool v))) := by
  obtain ⟨n1, n2⟩ := h.ty.ne
  obtain ⟨b0, b1⟩ := box_get y.made (n - 1) (by omega)
  have hxg : x ≠ g := fun e => own_at_ne h.made h.blk n1 (by rw [e]; rfl)
  have htg : vt.ownBlock ≠ some g := fun e => by
    rcases own_ne h.trace h.made (by decide) with h0 | h0
    · rw [e] at h0; cases h0
    · exact h0 e
  have roam : ∀ (o : Nat) (u : Value), Roam x (.slice (some ⟨g, 0, none⟩) y.made.length cap) vt w (.slice (some ⟨g, 0, none⟩) y.made.length cap) vt (w.setCell ⟨g, o, none⟩ u) := fun o u =>
    ⟨rfl, rfl, rfl, by simp, fun j _ _ h2 _ => Below.heap_setCell _ _ _ _ (by show j ≠ g; intro e; exact h2 (by rw [e]; rfl)), fun _ h => .inl h, fun _ h => .inl h⟩
  have blk : ∀ (o : Nat) (u : Value), (w.setCell ⟨g, o, none⟩ u).heap[x]? = w.heap[x]? := fun o u => Below.heap_setCell _ _ _ _ (by show x ≠ g; exact hxg)
  constructor
  · intro v
    refine ⟨⟨h.base, h.ty, by rw [blk]; exact h.blk, ?_, own_setCell h.trace _ htg⟩, roam _ _⟩
    have := (h.made.stored ((n - 1) * 2) (.int .i64 v)).1
    have e : boxCells (y.made.set (n - 1) (v, (y.at n).2)) = (boxCells y.made).set ((n - 1) * 2) (.int .i64 v) := by
      rw [box_set, if_pos (by omega)]
      refine set_same ?_
      rw [List.getElem?_set_ne (by omega)]; exact b1
    simp only [List.length_set]
    rw [e]; exact this
  · intro v
    refine ⟨⟨h.base, h.ty, by rw [blk]; exact h.blk, ?_, own_setCell h.trace _ htg⟩, roam _ _⟩
    have := (h.made.stored ((n - 1) * 2 + 1) (.bool v)).1
    have e : boxCells (y.made.set (n - 1) ((y.at n).1, v)) = (boxCells y.made).set ((n - 1) * 2 + 1) (.bool v) := by
      rw [box_set, if_pos (by omega)]
      have : (boxCells y.made).set ((n - 1) * 2) (.int .i64 (y.at n).1) = boxCells y.made := set_same b0
      rw [this]
    simp only [List.length_set]
    rw [e]; exact this
end
end Go.Proofs.YtmlgajhhnojdjaaGreatDoor.Own
/- The project's machines: the yard's functions, walked. -/
namespace Go.Proofs.YtmlgajhhnojdjaaGreatDoor.Own
open Go Go.RowKit Go.Proofs.YtmlgajhhnojdjaaGreatDoor.Spec Go.Proofs.YtmlgajhhnojdjaaGreatDoor.Aux Go.Proofs.YtmlgajhhnojdjaaGreatDoor.PrjJ Go.Proofs.YtmlgajhhnojdjaaGreatDoor.PrjK Go.Proofs.YtmlgajhhnojdjaaGreatDoor.PrjL Go.Proofs.YtmlgajhhnojdjaaGreatDoor.PrjM

/-- a yard within bounds -/
structure Yd.Ok (y : Yd) : Prop where
  made : y.made.length ≤ 1000000
  trace : y.trace.length ≤ 9000000
  live : -100000000 ≤ y.live ∧ y.live ≤ 100000000
  words : ∀ b ∈ y.trace, b.length ≤ 30
/-- what a yard's function leaves -/
def Left (z x : Nat) (t : TypeId) (rest : List Value) (w : World) (vm vt : Value) (y' : Yd) (w' : World) : Prop := ∃ vm' vt', YAt z x t rest w' y' vm' vt' ∧ Roam x vm vt w vm' vt' w'
section
variable {z x : Nat} {t : TypeId} {rest : List Value} {w : World} {y : Yd} {vm vt : Value}
theorem putOut_any (h : YAt z x t rest w y vm vt) (n : Int) (hn : -9223372036854775808 ≤ n ∧ n ≤ 9223372036854775807) (hp : Pow w) (ho : y.Ok) :
    Calls Tryz.prog 104 #[.pointer (some ⟨x, 0, none⟩), .int .i64 n] w fun e w' => e = .returned (.tuple #[]) ∧ Left z x t rest w vm vt (y.note 111 n) w' := by
  have K := note_any h 111 n hn hp (by have := ho.trace; omega)
  have K2 : Calls Tryz.prog 98 #[.pointer (some ⟨x, 0, none⟩), .string ⟨#[111]⟩, .int .i64 n] w _ := K
  go_enter Tryz.func104, Tryz.ntmps104
  go_wp2_with (go_at_call 98; refine K2.mono ?_; rintro e w1 ⟨vt', rfl, h1, r1⟩)
  go_end0
  exact ⟨rfl, vm, vt', h1, r1⟩
set_option maxRecDepth 20000 in
set_option maxHeartbeats 1000000 in
theorem build_any (h : YAt z x t rest w y vm vt) (v : Int) (hp : Pow w) (ho : y.Ok) (hz : 11 ≤ z) :
    Calls Tryz.prog 61 #[.pointer (some ⟨x, 0, none⟩), .int .i64 v] w fun e w' => e = .returned (.int .i64 ((y.made.length + 1 : Nat) : Int)) ∧ Left z x t rest w vm vt (y.build v) w' := by
  obtain ⟨c0, c1, c2, f0, f1, f2⟩ := h.facts
  obtain ⟨i, hi, hz0, hz1, hz2⟩ := info_parts info_box
  have hbA : Below w.heap.size w (w.alloc (.cells #[.int .i64 v, .bool true] 175)) := (Below.refl _ _).alloc (Nat.le_refl _) _
  have HA := h.below hbA
  obtain ⟨a0, a1, a2, b0, b1, b2⟩ := HA.facts
  have hsA : z ≤ (w.alloc (.cells #[.int .i64 v, .bool true] 175)).heap.size := by have := HA.lt; have := HA.base; omega
  have hm := ho.made
  have hlv := ho.live
  go_enter Tryz.func61, Tryz.ntmps61
  go_wp2_with (first
    | (at_builtin; go_must (refine append_blk rfl _ _ 98 rfl z 175 i (.agg #[.int .i64 0, .bool false]) 2 16 Tryz.underlying98 hi hz0 hz1 hz2 rfl (by decide) vm _ _ rfl HA.made w.heap.size [.int .i64 v, .bool true] rfl Array.getElem?_push_size rfl (by intro u' hu; simp at hu; rcases hu with rfl | rfl <;> rfl) (by decide) (by omega) hsA ?_); intro g4 c4 w4 hown4 hgrow4 hat4 hlt4; have hblk4 : w4.heap[x]? = _ := (hgrow4.block _ HA.lt (own_type_ne HA.made HA.blk HA.ty.ne.1)).trans HA.blk; have r0 : w4.cell? ⟨x, 0, none⟩ = some vm := (by rw [cell_of_heap hblk4]; simp); have rf0 : w4.frozen? ⟨x, 0, none⟩ = false := frozen_of_heap hblk4 0; obtain ⟨h5, h6⟩ := h.addBox (b := (v, true)) hbA hown4 hgrow4 (fresh_of hat4); obtain ⟨d0, d1, d2, g0, g1, g2⟩ := h5.facts; obtain ⟨h7, h8⟩ := h5.setLive (y.live + 1); obtain ⟨k0, k1, k2, l0, l1, l2⟩ := h7.facts; have hr := h6.trans h8; have KN : Calls Tryz.prog 98 #[.pointer (some ⟨x, 0, none⟩), .string ⟨#[43]⟩, .int .i64 ((y.made.length : Int) + 1)] _ _ := note_any h7 43 ((y.made.length + 1 : Nat) : Int) (by omega) (hp.below (hr.below h hz (by have := h.lt; have := h.base; omega)) (Nat.le_refl _)) (by have := ho.trace; simp only; omega))
    | (go_at_call 98; refine KN.mono ?_; rintro e w9 ⟨vt', rfl, h9, r9⟩))
  go_ret
  exact ⟨rfl, _, vt', h9, hr.trans r9⟩
set_option maxRecDepth 20000 in
set_option maxHeartbeats 1000000 in
theorem free_any (h : YAt z x t rest w y vm vt) (n : Nat) (h1 : 1 ≤ n) (hn : n ≤ y.made.length) (hp : Pow w) (ho : y.Ok) (hz : 11 ≤ z) :
    Calls Tryz.prog 97 #[.pointer (some ⟨x, 0, none⟩), .int .i64 ((n : Nat) : Int)] w fun e w' => e = .returned (.tuple #[]) ∧ Left z x t rest w vm vt (y.free n) w' := by
  obtain ⟨c0, c1, c2, f0, f1, f2⟩ := h.facts
  obtain ⟨g, cap, rfl, hcap, hg, q0, q1, q2, q3⟩ := h.box h1 hn
  obtain ⟨h5, h6⟩ := (h.setBox h1 hn).2 false
  obtain ⟨d0, d1, d2, g0, g1, g2⟩ := h5.facts
  obtain ⟨h7, h8⟩ := h5.setLive (y.live - 1)
  have hr := h6.trans h8
  have hm := ho.made
  have hlv := ho.live
  have KN : Calls Tryz.prog 98 #[.pointer (some ⟨x, 0, none⟩), .string ⟨#[45]⟩, .int .i64 ((n : Nat) : Int)] _ _ := note_any h7 45 ((n : Nat) : Int) (by omega) (hp.below (hr.below h hz (by have := h.lt; have := h.base; omega)) (Nat.le_refl _)) (by have := ho.trace; simp only; omega)
  have i1 : (1 : Int) ≤ n := by omega
  have i2 : (n : Int) ≤ y.made.length := by omega
  have e1 : ((n : Int) - 1).toNat = n - 1 := by omega
  go_enter Tryz.func97, Tryz.ntmps97
  go_wp2_with (go_at_call 98; refine KN.mono ?_; rintro e w9 ⟨vt', rfl, h9, r9⟩)
  go_end0
  exact ⟨rfl, _, vt', h9, hr.trans r9⟩
set_option maxRecDepth 20000 in
set_option maxHeartbeats 1000000 in
theorem load_any (h : YAt z x t rest w y vm vt) (n : Nat) (h1 : 1 ≤ n) (hn : n ≤ y.made.length) (hp : Pow w) (ho : y.Ok) :
    Calls Tryz.prog 105 #[.pointer (some ⟨x, 0, none⟩), .int .i64 ((n : Nat) : Int)] w fun e w' => e = .returned (.int .i64 (y.at n).1) ∧ Left z x t rest w vm vt (y.load n) w' := by
  obtain ⟨g, cap, rfl, hcap, -⟩ := h.box h1 hn
  have hm := ho.made
  have KN : Calls Tryz.prog 98 #[.pointer (some ⟨x, 0, none⟩), .string ⟨#[60]⟩, .int .i64 ((n : Nat) : Int)] _ _ := note_any h 60 ((n : Nat) : Int) (by omega) hp (by have := ho.trace; omega)
  have i1 : (1 : Int) ≤ n := by omega
  have i2 : (n : Int) ≤ y.made.length := by omega
  have e1 : ((n : Int) - 1).toNat = n - 1 := by omega
  go_enter Tryz.func105, Tryz.ntmps105
  go_wp2_with (go_at_call 98; refine KN.mono ?_; rintro e w9 ⟨vt', rfl, h9, r9⟩; obtain ⟨c0, c1, c2, f0, f1, f2⟩ := h9.facts; have q := h9.box' h1 (show n ≤ (y.note 60 ((n : Nat) : Int)).made.length from hn); have q0 : w9.cell? ⟨g, (n - 1) * 2, none⟩ = some (.int .i64 (y.at n).1) := q.1; clear q)
  go_ret
  exact ⟨rfl, _, vt', h9, r9⟩
set_option maxRecDepth 20000 in
set_option maxHeartbeats 1000000 in
theorem store_any (h : YAt z x t rest w y vm vt) (n : Nat) (h1 : 1 ≤ n) (hn : n ≤ y.made.length) (v : Int) (hp : Pow w) (ho : y.Ok) :
    Calls Tryz.prog 106 #[.pointer (some ⟨x, 0, none⟩), .int .i64 ((n : Nat) : Int), .int .i64 v] w fun e w' => e = .returned (.tuple #[]) ∧ Left z x t rest w vm vt (y.store n v) w' := by
  obtain ⟨g, cap, rfl, hcap, -⟩ := h.box h1 hn
  have hm := ho.made
  have KN : Calls Tryz.prog 98 #[.pointer (some ⟨x, 0, none⟩), .string ⟨#[62]⟩, .int .i64 ((n : Nat) : Int)] _ _ := note_any h 62 ((n : Nat) : Int) (by omega) hp (by have := ho.trace; omega)
  have i1 : (1 : Int) ≤ n := by omega
  have i2 : (n : Int) ≤ y.made.length := by omega
  have e1 : ((n : Int) - 1).toNat = n - 1 := by omega
  go_enter Tryz.func106, Tryz.ntmps106
  go_wp2_with (go_at_call 98; refine KN.mono ?_; rintro e w9 ⟨vt', rfl, h9, r9⟩; obtain ⟨c0, c1, c2, f0, f1, f2⟩ := h9.facts; have q := h9.box' h1 (show n ≤ (y.note 62 ((n : Nat) : Int)).made.length from hn); have q0 : w9.cell? ⟨g, (n - 1) * 2, none⟩ = some (.int .i64 (y.at n).1) := q.1; have q2 := q.2.2.1; clear q; obtain ⟨h10, r10⟩ := (YAt.setBox (y := y.note 62 ((n : Nat) : Int)) h9 h1 hn).1 v)
  go_end0
  exact ⟨rfl, _, vt', h10, r9.trans r10⟩
theorem isLive_any (h : YAt z x t rest w y vm vt) (n : Nat) (h1 : 1 ≤ n) (hn : n ≤ y.made.length) (ho : y.Ok) :
    Calls Tryz.prog 172 #[.pointer (some ⟨x, 0, none⟩), .int .i64 ((n : Nat) : Int)] w fun e w' => e = .returned (.bool (y.at n).2) ∧ w' = w := by
  have hm := ho.made
  obtain ⟨c0, c1, c2, f0, f1, f2⟩ := h.facts
  obtain ⟨g, cap, rfl, hcap, hg, q0, q1, q2, q3⟩ := h.box h1 hn
  have i1 : (1 : Int) ≤ n := by omega
  have i2 : (n : Int) ≤ y.made.length := by omega
  have e1 : ((n : Int) - 1).toNat = n - 1 := by omega
  go_enter Tryz.func172, Tryz.ntmps172
  go_wp2
  go_ret
  exact ⟨rfl, rfl⟩
end
end Go.Proofs.YtmlgajhhnojdjaaGreatDoor.Own
/- The project's machines: how a run stands that has come to an end; numbers put together. -/
namespace Go.Proofs.YtmlgajhhnojdjaaGreatDoor.Own
open Go Go.RowKit Go.Proofs.YtmlgajhhnojdjaaGreatDoor.Spec Go.Proofs.YtmlgajhhnojdjaaGreatDoor.Aux Go.Proofs.YtmlgajhhnojdjaaGreatDoor.PrjJ Go.Proofs.YtmlgajhhnojdjaaGreatDoor.PrjK Go.Proofs.YtmlgajhhnojdjaaGreatDoor.PrjL Go.Proofs.YtmlgajhhnojdjaaGreatDoor.PrjM

theorem info_result : (Tryz.prog.info? 47).map (fun i => i.size) = some 4 := by kernel_rfl
def Yd.text (y : Yd) : B := Lib.join y.trace [32]
theorem join_len : ∀ (l : List B), (∀ b ∈ l, b.length ≤ 30) → (Lib.join l [32]).length ≤ 31 * l.length
  | [], _ => by simp [Lib.join, List.intercalate]
  | [a], h => by
    have := h a (by simp)
    rw [Lib.join_one]; simp; omega
  | a :: b :: l, h => by
    have ih := join_len (b :: l) (fun x hx => h x (List.mem_cons_of_mem _ hx))
    have h1 := h a (by simp)
    have e : Lib.join (a :: b :: l) [32] = a ++ ([32] ++ Lib.join (b :: l) [32]) := by simp [Lib.join, List.intercalate, List.intersperse]
    rw [e, List.length_append, List.length_append]
    simp only [List.length_cons, List.length_nil] at ih ⊢
    omega
theorem bs_data (b : B) : (bs b).data.toList = b := by simp [bs]
section
variable {z x : Nat} {t : TypeId} {rest : List Value} {w : World} {y : Yd} {vm vt : Value}
theorem join_any {tr : List B} (h : w.ownsRow z 9 1 vt tr.length (trCells tr)) (hl : tr.length ≤ 9000000) (hw : ∀ b ∈ tr, b.length ≤ 30) :
    Calls Tryz.prog 83 #[vt, .string ⟨#[32]⟩] w fun e w' => e = .returned (.string (bs (Lib.join tr [32]))) ∧ Below w.heap.size w w' := by
  cases tr with
  | nil =>
    have h' : ∃ ad c, vt = .slice ad 0 c := by
      rcases h.2 with ⟨e, -⟩ | ⟨g, cap, cur, e, -⟩
      · exact ⟨none, 0, e⟩
      · exact ⟨_, cap, e⟩
    obtain ⟨ad, c, rfl⟩ := h'
    refine (Tryz.strings_Join_none ad c ⟨#[32]⟩ w).mono fun e w' ⟨he, hw'⟩ => ⟨?_, by rw [hw']; exact Below.refl _ _⟩
    rw [he]; rfl
  | cons a r =>
    obtain ⟨g, cap, rfl, hc, hg, hcell⟩ := own_cell h (by simp)
    have hlen := join_len (a :: r) hw
    have K := Tryz.strings_Join g 0 cap ((a :: r).map bs) ⟨#[32]⟩ w (fun j v hv => by
      rw [List.getElem?_map, Option.map_eq_some_iff] at hv
      obtain ⟨b, hb, rfl⟩ := hv
      have hj : j < (a :: r).length := by
        by_cases hj : j < (a :: r).length
        · exact hj
        · rw [List.getElem?_eq_none (by omega)] at hb; cases hb
      rw [Nat.zero_add, hcell j (by omega), trCells, List.getElem?_map, hb]; rfl) hg (by rw [List.length_map]; omega) (by rw [List.length_map]; exact hc) (by
        have e : ((a :: r).map bs).map (fun x => x.data.toList) = a :: r := by
          rw [List.map_map]
          have : ((fun x : ByteArray => x.data.toList) ∘ bs) = id := funext bs_data
          rw [this, List.map_id]
        rw [e]
        show (Lib.join (a :: r) [32]).length ≤ _
        omega)
    rw [List.length_map] at K
    refine K.mono fun e w' ⟨he, hw'⟩ => ⟨?_, hw'⟩
    rw [he]
    have e : ((a :: r).map bs).map (fun x => x.data.toList) = a :: r := by
      rw [List.map_map]
      have : ((fun x : ByteArray => x.data.toList) ∘ bs) = id := funext bs_data
      rw [this, List.map_id]
    rw [e]; rfl
set_option maxRecDepth 20000 in
set_option maxHeartbeats 1000000 in
theorem result_any (h : YAt z x t rest w y vm vt) (o v : Int) (ho : y.Ok) :
    Calls Tryz.prog 66 #[.pointer (some ⟨x, 0, none⟩), .int .i64 o, .int .i64 v] w fun e w' => e = .returned (.agg #[.int .i64 o, .int .i64 v, .string (bs y.text), .int .i64 y.live]) ∧ Below w.heap.size w w' := by
  have hbA : Below w.heap.size w (w.alloc (.cells #[.int .i64 0, .int .i64 0, .string ⟨#[]⟩, .int .i64 0] 47)) := (Below.refl _ _).alloc (Nat.le_refl _) _
  have HA := h.below hbA
  obtain ⟨a0, a1, a2, -⟩ := HA.facts
  have KJ := join_any (w := (w.alloc (.cells #[.int .i64 0, .int .i64 0, .string ⟨#[]⟩, .int .i64 0] 47)).drew) HA.trace ho.trace ho.words
  have hn := World.ownsRow.lt HA.trace
  go_enter Tryz.func66, Tryz.ntmps66
  go_wp2
  go_region_with (go_at_call 83; refine KJ.mono ?_; rintro e w1 ⟨rfl, hb1⟩; have hb2 : Below (w.alloc (.cells #[.int .i64 0, .int .i64 0, .string ⟨#[]⟩, .int .i64 0] 47)).heap.size (w.alloc (.cells #[.int .i64 0, .int .i64 0, .string ⟨#[]⟩, .int .i64 0] 47)) w1 := ⟨hb1.os, hb1.tape, hb1.output, hb1.size, hb1.block⟩; obtain ⟨d0, d1, d2, -⟩ := (HA.below hb2).facts; have hR : w1.heap[w.heap.size]? = some (.cells #[.int .i64 0, .int .i64 0, .string ⟨#[]⟩, .int .i64 0] 47 (0, 0)) := (hb2.block _ (by simp)).trans Array.getElem?_push_size; have r0 : w1.cell? ⟨w.heap.size, 0, none⟩ = some (.int .i64 0) := (by rw [cell_of_heap hR]; rfl); have r1 : w1.cell? ⟨w.heap.size, 1, none⟩ = some (.int .i64 0) := (by rw [cell_of_heap hR]; rfl); have r2 : w1.cell? ⟨w.heap.size, 2, none⟩ = some (.string ⟨#[]⟩) := (by rw [cell_of_heap hR]; rfl); have r3 : w1.cell? ⟨w.heap.size, 3, none⟩ = some (.int .i64 0) := (by rw [cell_of_heap hR]; rfl); have rf := frozen_of_heap hR; have rf0 := rf 0; have rf1 := rf 1; have rf2 := rf 2; have rf3 := rf 3; clear rf)
  all_goals go_wp2_with fail
  all_goals
    have e1 := Aux.heap_setCell_same hR 0 (.int .i64 o)
    have e2 := Aux.heap_setCell_same e1 1 (.int .i64 v)
    have e3 := Aux.heap_setCell_same e2 2 (.string (bs (Lib.join y.trace [32])))
    have e4 := Aux.heap_setCell_same e3 3 (.int .i64 y.live)
    refine bodyPost_ret (results_cell Tryz.results66 _ _ _ w.heap.size [.int .i64 o, .int .i64 v, .string (bs (Lib.join y.trace [32])), .int .i64 y.live] _ rfl (fun j u hu => by rw [Nat.zero_add, cell_of_heap e4]; simpa using hu) Tryz.underlying47 rfl info_result) rfl ?_
    refine ⟨rfl, ?_⟩
    have hB := hbA.trans (hb2.mono hbA.size)
    have hT := ((((Turn.refl w.heap.size w1).setCell 0 (.int .i64 o)).setCell 1 (.int .i64 v)).setCell 2 (.string (bs (Lib.join y.trace [32])))).setCell 3 (.int .i64 y.live)
    exact hB.trans (hT.below (Nat.le_refl _) hB.size)
end
end Go.Proofs.YtmlgajhhnojdjaaGreatDoor.Own
