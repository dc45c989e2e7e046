/- The project's machine that owns: the block that comes behind a terminator. -/
import Derived.Test.YtmlgajhhnojdjaaGreatDoorKAO
import Derived.RangeFuncNested
import Derived.RangeFuncBound
import Derived.RangeFuncCalls
import Derived.RangeFuncLeaves
import Derived.Shelf.Abstract
import Derived.Shelf.RegionOpen
import Derived.WalkKit
import Derived.OwnWalkIn
import Derived.TacticsInMore
import Derived.LoopNIn
import Derived.LoopIn
namespace Go.Proofs.YtmlgajhhnojdjaaGreatDoor.Own
open Go Go.RowKit Go.Proofs.YtmlgajhhnojdjaaGreatDoor.Spec Go.Proofs.YtmlgajhhnojdjaaGreatDoor.Aux Go.Proofs.YtmlgajhhnojdjaaGreatDoor.PrjJ Go.Proofs.YtmlgajhhnojdjaaGreatDoor.PrjK Go.Proofs.YtmlgajhhnojdjaaGreatDoor.PrjL Go.Proofs.YtmlgajhhnojdjaaGreatDoor.PrjM Go.Proofs.YtmlgajhhnojdjaaGreatDoor.PrjS Go.Proofs.YtmlgajhhnojdjaaGreatDoor.PrjT Go.Proofs.YtmlgajhhnojdjaaGreatDoor.FlwA Go.Proofs.YtmlgajhhnojdjaaGreatDoor.FlwB Go.Proofs.YtmlgajhhnojdjaaGreatDoor.FlwE

/-- whether it is the other way -/
def Own.other (o : Own) (l : QLine) : Bool := if l.op = 19 then o.num (l.places.getD 0 (0, 0)) == 0 else if l.op = 20 then !(o.box (l.places.getD 0 (0, 0)) == 0) else false
section
variable {x a : Nat} {w w0 w1 : World} {vm vt vi : Value} {o : Own}
theorem LineAt.below {z : Nat} {l : QLine} {vp vn : Value} (h : LineAt z w l vp vn) (hb : Below w.heap.size w w1) : LineAt z w1 l vp vn := ⟨own_below h.places hb, own_below h.next hb⟩
set_option maxRecDepth 20000 in
set_option maxHeartbeats 1000000 in
theorem next_any (h : OAt w0 x a w o vi vm vt) {z nl nb : Nat} {l : QLine} {ap an : Option Addr} {cp cn : Nat} (hl : LineAt z w l (.slice ap l.places.length cp) (.slice an l.next.length cn)) (hk : LOk nl nb l) (hnl : nl ≤ 12)
    (ho : l.op = 18 ∨ l.op = 19 ∨ l.op = 20) (hn : (if o.other l then 1 else 0) < l.next.length) :
    Calls Tryz.prog 63 #[.pointer (some ⟨x, 0, none⟩), .agg #[.int .i64 (l.num : Nat), .int .i64 (l.op : Nat), .slice ap l.places.length cp, .int .i64 l.number, .int .i64 l.flag, .slice an l.next.length cn]] w fun e w' =>
      e = .returned (.int .i64 ((l.next.getD (if o.other l then 1 else 0) 0 : Nat) : Int)) ∧ Below w.heap.size w w' := by
  have hbA : Below w.heap.size w (w.alloc (.cells #[.int .i64 (l.num : Nat), .int .i64 (l.op : Nat), .slice ap l.places.length cp, .int .i64 l.number, .int .i64 l.flag, .slice an l.next.length cn] 115)) := (Below.refl _ _).alloc (Nat.le_refl _) _
  have HA := h.below hbA
  have KW := fun (W : World) (hW : Below w.heap.size w W) => way_any (hl.below hW) (o.other l) hn
  unfold lnV at KW
  have hblk : (w.alloc (.cells #[.int .i64 (l.num : Nat), .int .i64 (l.op : Nat), .slice ap l.places.length cp, .int .i64 l.number, .int .i64 l.flag, .slice an l.next.length cn] 115)).heap[w.heap.size]? = some (.cells #[.int .i64 (l.num : Nat), .int .i64 (l.op : Nat), .slice ap l.places.length cp, .int .i64 l.number, .int .i64 l.flag, .slice an l.next.length cn] 115 (0, 0)) := Array.getElem?_push_size
  generalize hR : l.next.getD (if o.other l then 1 else 0) 0 = r at KW ⊢
  by_cases h18 : l.op = 18
  · have hoth : o.other l = false := by rw [Own.other, if_neg (by omega), if_neg (by omega)]
    rw [hoth] at KW
    have b1 : (((l.op : Nat) : Int) == 19) = false := by rw [h18]; rfl
    have b2 : (((l.op : Nat) : Int) == 20) = false := by rw [h18]; rfl
    clear hn hR hoth h18 ho
    go_enter Tryz.func63, Tryz.ntmps63
    go_wp2_with (go_at_call 100; go_fit (KW _ hbA); rintro e w1 ⟨rfl, h1⟩)
    go_ret
    exact ⟨rfl, hbA.trans (h1.mono hbA.size)⟩
  · have hlen : 1 ≤ l.places.length := by
      rcases ho with e | e | e
      · exact absurd e h18
      · rw [hk.plen, e]; decide
      · rw [hk.plen, e]; decide
    obtain ⟨g, e, -, hcp, hg, c1, c2⟩ := places_cells hl.places 0 (by omega)
    subst e
    have hx := (hk.places (l.places.getD 0 (0, 0)) (by rw [List.getD_eq_getElem?_getD, List.getElem?_eq_getElem (by omega)]; exact List.getElem_mem _)).1
    have d1 := (hbA.cell (p := ⟨g, 0, none⟩) hg).trans c1
    have d2 := (hbA.cell (p := ⟨g, 1, none⟩) hg).trans c2
    have hlI : (0 : Int) < l.places.length := by omega
    have KN := number_any HA (l.places.getD 0 (0, 0)) (by omega)
    have KB := box_any HA (l.places.getD 0 (0, 0)) (by omega)
    by_cases h19 : l.op = 19
    · have hoth : o.other l = (o.num (l.places.getD 0 (0, 0)) == 0) := by rw [Own.other, if_pos h19]
      rw [hoth] at KW
      have b1 : (((l.op : Nat) : Int) == 19) = true := by rw [h19]; rfl
      have b2 : (((l.op : Nat) : Int) == 20) = false := by rw [h19]; rfl
      clear hn hR hoth h19 h18 ho c1 c2 KB
      generalize l.places.getD 0 (0, 0) = p at *
      go_enter Tryz.func63, Tryz.ntmps63
      go_wp2_with (first
        | (go_at_call 58; go_fit KN; rintro e w2 ⟨rfl, h2⟩; have hb2 := hbA.trans (h2.mono hbA.size); have hblk2 := (h2.block _ (lt_of_heap hblk)).trans hblk; have m0 : w2.cell? ⟨w.heap.size, 0, none⟩ = _ := cell_of_heap hblk2 0; have m1 : w2.cell? ⟨w.heap.size, 1, none⟩ = _ := cell_of_heap hblk2 1; have m2 : w2.cell? ⟨w.heap.size, 2, none⟩ = _ := cell_of_heap hblk2 2; have m3 : w2.cell? ⟨w.heap.size, 3, none⟩ = _ := cell_of_heap hblk2 3; have m4 : w2.cell? ⟨w.heap.size, 4, none⟩ = _ := cell_of_heap hblk2 4; have m5 : w2.cell? ⟨w.heap.size, 5, none⟩ = _ := cell_of_heap hblk2 5; simp at m0 m1 m2 m3 m4 m5)
        | (go_at_call 100; go_fit (KW _ hb2); rintro e w1 ⟨rfl, h1⟩))
      go_ret
      exact ⟨rfl, hb2.trans (h1.mono hb2.size)⟩
    · have h20 : l.op = 20 := by omega
      have hoth : o.other l = !(o.box (l.places.getD 0 (0, 0)) == 0) := by rw [Own.other, if_neg h19, if_pos h20]
      rw [hoth] at KW
      have b1 : (((l.op : Nat) : Int) == 19) = false := by rw [h20]; rfl
      have b2 : (((l.op : Nat) : Int) == 20) = true := by rw [h20]; rfl
      clear hn hR hoth h19 h18 h20 ho c1 c2 KN
      generalize l.places.getD 0 (0, 0) = p at *
      have bb : (((o.box p : Nat) : Int) != 0) = !(o.box p == 0) := by
        rw [bne]; congr 1
        rw [Bool.eq_iff_iff, beq_iff_eq, beq_iff_eq]; omega
      rw [← bb] at KW
      clear bb
      go_enter Tryz.func63, Tryz.ntmps63
      go_wp2_with (first
        | (go_at_call 99; go_fit KB; rintro e w2 ⟨rfl, h2⟩; have hb2 := hbA.trans (h2.mono hbA.size); have hblk2 := (h2.block _ (lt_of_heap hblk)).trans hblk; have m0 : w2.cell? ⟨w.heap.size, 0, none⟩ = _ := cell_of_heap hblk2 0; have m1 : w2.cell? ⟨w.heap.size, 1, none⟩ = _ := cell_of_heap hblk2 1; have m2 : w2.cell? ⟨w.heap.size, 2, none⟩ = _ := cell_of_heap hblk2 2; have m3 : w2.cell? ⟨w.heap.size, 3, none⟩ = _ := cell_of_heap hblk2 3; have m4 : w2.cell? ⟨w.heap.size, 4, none⟩ = _ := cell_of_heap hblk2 4; have m5 : w2.cell? ⟨w.heap.size, 5, none⟩ = _ := cell_of_heap hblk2 5; simp at m0 m1 m2 m3 m4 m5)
        | (go_at_call 100; go_fit (KW _ hb2); rintro e w1 ⟨rfl, h1⟩))
      go_ret
      exact ⟨rfl, hb2.trans (h1.mono hb2.size)⟩
end
end Go.Proofs.YtmlgajhhnojdjaaGreatDoor.Own
/- Plain definitions: a run of the project's machine that owns, as a plain function; what stays within bounds. -/
namespace Go.Proofs.YtmlgajhhnojdjaaGreatDoor.Own
open Go Go.RowKit Go.Proofs.YtmlgajhhnojdjaaGreatDoor.Spec Go.Proofs.YtmlgajhhnojdjaaGreatDoor.Aux Go.Proofs.YtmlgajhhnojdjaaGreatDoor.PrjS Go.Proofs.YtmlgajhhnojdjaaGreatDoor.FlwA

def plOf (l : QLine) (j : Nat) : Nat × Nat := l.places.getD j (0, 0)
/-- all locals dropped, the last one first -/
def Own.dropAll (q : QP) : Nat → Own → Own
  | 0, o => o
  | i + 1, o => Own.dropAll q i (o.drop (QP.halvesQ q (i, 0)))
def Own.calc (o : Own) (l : QLine) : Own := { o with ints := o.ints.set (plOf l 0).1 (calcI l.op (o.num (plOf l 1)) (o.num (plOf l 2))) }
def Own.new (o : Own) (p : Nat × Nat) (v : Int) : Own := { o with yd := o.yd.build v, boxes := o.boxes.set (slotQ p) (o.yd.made.length + 1) }
/-- is there what a line takes? -/
def Own.need (o : Own) (l : QLine) : Bool := if l.op = 10 then decide (1 ≤ o.box (plOf l 1)) else if l.op = 11 then decide (1 ≤ o.box (plOf l 0)) else true
/-- a statement behind which a run goes on -/
def Own.do1 (q : QP) (o : Own) (l : QLine) : Own :=
  if l.op = 2 then { o with ints := o.ints.set (plOf l 0).1 l.number }
  else if l.op = 3 ∨ l.op = 4 ∨ l.op = 5 then o.calc l
  else if l.op = 7 then { o with inp := o.inp.tail, ints := o.ints.set (plOf l 0).1 (o.inp.headD 0) }
  else if l.op = 8 then { o with yd := o.yd.note 111 (o.num (plOf l 0)) }
  else if l.op = 10 then { o with yd := o.yd.load (o.box (plOf l 1)), ints := o.ints.set (plOf l 0).1 (o.yd.at (o.box (plOf l 1))).1 }
  else if l.op = 11 then { o with yd := o.yd.store (o.box (plOf l 0)) (o.num (plOf l 1)) }
  else if l.op = 12 ∨ l.op = 14 then o.move (QP.halvesQ q (plOf l 0)) (QP.halvesQ q (plOf l 1))
  else if l.op = 13 ∨ l.op = 15 then o.drop (QP.halvesQ q (plOf l 0))
  else o
/-- from a line on: how it ends, the value, what is left; none: it does not get so far -/
def runO (q : QP) (room : Int) : Nat → List QLine → Own → Option (Nat × Int × Own)
  | _, [], _ => none
  | 0, _ :: _, o => some (2, 0, o)
  | f + 1, l :: ls, o =>
    if l.op = 6 then (if o.num (plOf l 2) = 0 then some (4, 0, o) else runO q room f ls (o.calc l))
    else if l.op = 9 then (if (o.drop [plOf l 0]).yd.live ≥ room then some (3, 0, o.drop [plOf l 0]) else runO q room f ls ((o.drop [plOf l 0]).new (plOf l 0) (o.num (plOf l 1))))
    else if l.op = 18 ∨ l.op = 19 ∨ l.op = 20 then (if ls = [] then runO q room f (q.blocks.getD (l.next.getD (if o.other l then 1 else 0) 0) []) o else none)
    else if l.op = 22 then some (1, o.num (plOf l 0), o.dropAll q q.locals.length)
    else if o.need l = true then runO q room f ls (o.do1 q l) else none
def Own.start (inp : List Int) : Own := ⟨⟨[], 0, []⟩, inp, List.replicate 12 0, List.replicate 24 0⟩
/-- within bounds: t words at most -/
structure Own.In (o : Own) (t : Nat) : Prop where
  many : o.yd.made.length ≤ t
  trace : o.yd.trace.length ≤ t
  live : -(t : Int) ≤ o.yd.live ∧ o.yd.live ≤ t
  words : ∀ b ∈ o.yd.trace, b.length ≤ 30
  bx : o.Bx
  ints : o.ints.length = 12
  boxes : o.boxes.length = 24
  nums : ∀ n ∈ o.ints, isI64 n
  inp : ∀ n ∈ o.inp, isI64 n
  made : ∀ b ∈ o.yd.made, isI64 b.1
theorem wrap_i64 (n : Int) : isI64 (wrap64 n) := by unfold isI64 wrap64; omega
theorem calc_i64 (op : Nat) (m n : Int) : isI64 (calcI op m n) := by
  unfold calcI
  repeat' split
  all_goals exact wrap_i64 _
theorem zero_i64 : isI64 0 := by unfold isI64; omega
section
variable {o : Own} {t u : Nat}
theorem Own.In.sz (h : o.In t) (ht : t ≤ 1000000) : o.yd.Sz t := ⟨by have := h.many; omega, h.trace, h.live, h.words⟩
theorem Own.In.mono (h : o.In t) (ht : t ≤ u) : o.In u := ⟨by have := h.many; omega, by have := h.trace; omega, by have := h.live; omega, h.words, h.bx, h.ints, h.boxes, h.nums, h.inp, h.made⟩
theorem mem_set {α : Type} {l : List α} {j : Nat} {v n : α} (h : n ∈ l.set j v) : n ∈ l ∨ n = v := List.mem_or_eq_of_mem_set h
theorem Own.In.setInt (h : o.In t) (j : Nat) {v : Int} (hv : isI64 v) : ({ o with ints := o.ints.set j v } : Own).In t :=
  ⟨h.many, h.trace, h.live, h.words, h.bx, by simpa using h.ints, h.boxes, fun n hn => (mem_set hn).elim (h.nums n) (fun e => e ▸ hv), h.inp, h.made⟩
theorem Own.In.num (h : o.In t) (p : Nat × Nat) : isI64 (o.num p) := by
  unfold Own.num
  rw [List.getD_eq_getElem?_getD]
  cases hg : o.ints[p.1]? with
  | none => exact zero_i64
  | some n => exact h.nums n (List.mem_of_getElem? hg)
theorem Own.In.head (h : o.In t) : isI64 (o.inp.headD 0) := by
  cases hi : o.inp with
  | nil => exact zero_i64
  | cons n r => exact h.inp n (by rw [hi]; exact List.mem_cons_self ..)
theorem Own.In.tail (h : o.In t) : ({ o with inp := o.inp.tail } : Own).In t := ⟨h.many, h.trace, h.live, h.words, h.bx, h.ints, h.boxes, h.nums, fun n hn => h.inp n (List.mem_of_mem_tail hn), h.made⟩
theorem Own.In.note (h : o.In t) (c : UInt8) {n : Int} (hn : isI64 n) : ({ o with yd := o.yd.note c n } : Own).In (t + 1) :=
  ⟨by have := h.many; show o.yd.made.length ≤ t + 1; omega, by have := h.trace; simp [Yd.note]; omega, by have := h.live; show -((t + 1 : Nat) : Int) ≤ o.yd.live ∧ o.yd.live ≤ _; omega, note_words hn h.words, h.bx, h.ints, h.boxes, h.nums, h.inp, h.made⟩
theorem Own.In.at (h : o.In t) (n : Nat) : isI64 (o.yd.at n).1 := by
  unfold Yd.at
  rw [List.getD_eq_getElem?_getD]
  cases hg : o.yd.made[n - 1]? with
  | none => exact zero_i64
  | some b => exact h.made b (List.mem_of_getElem? hg)
theorem nat_i64 {n : Nat} (h : n ≤ 1000000000) : isI64 ((n : Nat) : Int) := by unfold isI64; omega
theorem Own.In.load (h : o.In t) (ht : t ≤ 1000000) {n : Nat} (hn : n ≤ o.yd.made.length) : ({ o with yd := o.yd.load n } : Own).In (t + 1) := h.note 60 (nat_i64 (by have := h.many; omega))
theorem Own.In.store (h : o.In t) (ht : t ≤ 1000000) {n : Nat} (hn : n ≤ o.yd.made.length) {v : Int} (hv : isI64 v) : ({ o with yd := o.yd.store n v } : Own).In (t + 1) := by
  have h1 := h.note 62 (n := ((n : Nat) : Int)) (nat_i64 (by have := h.many; omega))
  refine ⟨?_, h1.trace, h1.live, h1.words, fun m hm => ?_, h.ints, h.boxes, h.nums, h.inp, fun b hb => ?_⟩
  · have := h.many; show (o.yd.made.set (n - 1) _).length ≤ t + 1; rw [List.length_set]; omega
  · show m ≤ (o.yd.made.set (n - 1) _).length; rw [List.length_set]; exact h.bx m hm
  · rcases mem_set hb with hb | rfl
    · exact h.made b hb
    · exact hv
theorem Own.In.clear (h : o.In t) (p : Nat × Nat) : (o.clear p).In t :=
  ⟨h.many, h.trace, h.live, h.words, clear_bx h.bx p, h.ints, by simpa [Own.clear] using h.boxes, h.nums, h.inp, h.made⟩
theorem Own.In.takes : ∀ (ps : List (Nat × Nat)) {o : Own} {t : Nat}, o.In t → (Own.take ps o).2.In t
  | [], _, _, h => h
  | p :: ps, o, t, h => by rw [Own.take]; exact Own.In.takes ps (h.clear p)
theorem Own.In.take (h : o.In t) (ps : List (Nat × Nat)) : (Own.take ps o).2.In t := Own.In.takes ps h
theorem Own.In.free1 (h : o.In t) (ht : t ≤ 1000000) {n : Nat} (hn : n ≤ o.yd.made.length) : (o.free1 n).In (t + 1) := by
  unfold Own.free1; split
  · exact h.mono (by omega)
  · have hs := (h.sz ht).free hn
    refine ⟨by rw [free_len]; have := h.many; omega, hs.trace, hs.live, hs.words, fun m hm => ?_, h.ints, h.boxes, h.nums, h.inp, fun b hb => ?_⟩
    · show m ≤ (o.yd.free n).made.length; rw [free_len]; exact h.bx m hm
    · rcases mem_set (show b ∈ o.yd.made.set (n - 1) ((o.yd.at n).1, false) from hb) with hb | rfl
      · exact h.made b hb
      · exact h.at n
theorem Own.In.frees : ∀ (ns : List Nat) {o : Own} {t : Nat}, o.In t → t + ns.length ≤ 1000000 → (∀ n ∈ ns, n ≤ o.yd.made.length) → (Own.frees ns o).In (t + ns.length)
  | [], _, _, h, _, _ => h
  | n :: ns, o, t, h, ht, hn => by
    rw [List.length_cons] at ht
    rw [Own.frees, List.length_cons, show t + (ns.length + 1) = (t + 1) + ns.length by omega]
    exact Own.In.frees ns (h.free1 (by omega) (hn n (List.mem_cons_self ..))) (by omega) (fun m hm => by rw [(free1_boxes o n).2.1]; exact hn m (List.mem_cons_of_mem _ hm))
theorem Own.In.drop (h : o.In t) (ps : List (Nat × Nat)) (ht : t + ps.length ≤ 1000000) : (o.drop ps).In (t + ps.length) := by
  have := Own.In.frees (Own.take ps o).1 (h.take ps) (by rw [take_len]; exact ht) (fun n hn => by rw [(take_yd ps o).1]; exact (take_bx ps h.bx).2 n hn)
  rwa [take_len] at this
theorem Own.In.put1 (h : o.In t) (p : Nat × Nat) {n : Nat} (hn : n ≤ o.yd.made.length) : (o.put1 p n).In t :=
  ⟨h.many, h.trace, h.live, h.words, fun m hm => (mem_set hm).elim (h.bx m) (fun e => e ▸ hn), h.ints, by simpa [Own.put1] using h.boxes, h.nums, h.inp, h.made⟩
theorem Own.In.puts : ∀ (ps : List (Nat × Nat)) (ns : List Nat) {o : Own} {t : Nat}, o.In t → (∀ n ∈ ns, n ≤ o.yd.made.length) → (Own.puts ps ns o).In t
  | [], _, _, _, h, _ => h
  | p :: ps, ns, o, t, h, hn => by
    rw [Own.puts]
    refine Own.In.puts ps (ns.drop 1) (h.put1 p ?_) (fun m hm => hn m (List.mem_of_mem_drop hm))
    cases ns with
    | nil => exact Nat.zero_le _
    | cons m r => exact hn m (List.mem_cons_self ..)
theorem Own.In.move (h : o.In t) (to frm : List (Nat × Nat)) (ht : t + to.length ≤ 1000000) : (o.move to frm).In (t + to.length) := by
  refine Own.In.puts to _ ((h.take frm).drop to ht) (fun n hn => ?_)
  rw [(drop_parts to (Own.take frm o).2).1, (take_yd frm o).1]
  exact (take_bx frm h.bx).2 n hn
theorem Own.In.new (h : o.In t) (ht : t ≤ 1000000) (p : Nat × Nat) {v : Int} (hv : isI64 v) : (o.new p v).In (t + 1) := by
  have hm := h.many
  have hnr : isI64 ((o.yd.made.length + 1 : Nat) : Int) := nat_i64 (by omega)
  refine ⟨?_, ?_, ?_, note_words hnr h.words, fun m hm' => ?_, h.ints, by simpa [Own.new] using h.boxes, h.nums, h.inp, fun b hb => ?_⟩
  · show (o.yd.made ++ [(v, true)]).length ≤ t + 1; simp; omega
  · have := h.trace; show (o.yd.trace ++ [_]).length ≤ t + 1; simp; omega
  · have := h.live; show -((t + 1 : Nat) : Int) ≤ o.yd.live + 1 ∧ o.yd.live + 1 ≤ ((t + 1 : Nat) : Int); omega
  · show m ≤ (o.yd.made ++ [(v, true)]).length
    rw [List.length_append]
    rcases mem_set (show m ∈ o.boxes.set (slotQ p) (o.yd.made.length + 1) from hm') with hm' | rfl
    · have := h.bx m hm'; simp; omega
    · simp
  · rcases List.mem_append.mp (show b ∈ o.yd.made ++ [(v, true)] from hb) with hb | hb
    · exact h.made b hb
    · rw [List.mem_singleton.mp hb]; exact hv
theorem halves_len (q : QP) (p : Nat × Nat) : (QP.halvesQ q p).length ≤ 2 := by unfold QP.halvesQ; split <;> simp
theorem Own.In.do1 (h : o.In t) (ht : t + 3 ≤ 1000000) (q : QP) (l : QLine) (hnum : isI64 l.number) : (o.do1 q l).In (t + 3) := by
  unfold Own.do1
  split
  · exact (h.setInt _ hnum).mono (by omega)
  · split
    · exact (h.setInt _ (calc_i64 _ _ _)).mono (by omega)
    · split
      · exact (h.tail.setInt (plOf l 0).1 h.head).mono (by omega)
      · split
        · exact (h.note 111 (h.num _)).mono (by omega)
        · split
          · exact ((h.load (by omega) (box_le h.bx (plOf l 1))).setInt (plOf l 0).1 (h.at _)).mono (by omega)
          · split
            · exact (h.store (by omega) (box_le h.bx (plOf l 0)) (h.num _)).mono (by omega)
            · split
              · have := halves_len q (plOf l 0)
                exact (h.move _ _ (by omega)).mono (by omega)
              · split
                · have := halves_len q (plOf l 0)
                  exact (h.drop _ (by omega)).mono (by omega)
                · exact h.mono (by omega)
theorem Own.In.dropAll (q : QP) : ∀ (i : Nat) {o : Own} {t : Nat}, o.In t → t + 2 * i ≤ 1000000 → (Own.dropAll q i o).In (t + 2 * i)
  | 0, _, _, h, _ => h
  | i + 1, o, t, h, ht => by
    have h2 := halves_len q (i, 0)
    rw [Own.dropAll, show t + 2 * (i + 1) = (t + 2) + 2 * i by omega]
    exact Own.In.dropAll q i ((h.drop (QP.halvesQ q (i, 0)) (by omega)).mono (by omega)) (by omega)
theorem Own.In.start {inp : List Int} (h : ∀ n ∈ inp, isI64 n) : (Own.start inp).In 0 :=
  ⟨Nat.le_refl _, Nat.le_refl _, ⟨Int.le_refl _, Int.le_refl _⟩, fun b hb => (by cases hb), fun n hn => (by rw [List.eq_of_mem_replicate hn]; exact Nat.zero_le _), by simp [Own.start], by simp [Own.start], fun n hn => by rw [List.eq_of_mem_replicate hn]; exact zero_i64, h, fun b hb => (by cases hb)⟩
end
end Go.Proofs.YtmlgajhhnojdjaaGreatDoor.Own
/- The library's iterator over a row, from its end (slices.Backward over the program's locals): its contract. -/
namespace Go.Proofs.YtmlgajhhnojdjaaGreatDoor.Own
open Go Go.RowKit Go.Shelf Go.Proofs.YtmlgajhhnojdjaaGreatDoor.Spec Go.Proofs.YtmlgajhhnojdjaaGreatDoor.Aux Go.Proofs.YtmlgajhhnojdjaaGreatDoor.PrjJ Go.Proofs.YtmlgajhhnojdjaaGreatDoor.PrjM Go.Proofs.YtmlgajhhnojdjaaGreatDoor.FlwA
attribute [local go_sem] Oper.semAt_some

/-- the numbers below N, the greatest first: the first k of them -/
def downL (N k : Nat) : List (Fin N) := (List.range k).filterMap fun j => if h : N - 1 - j < N then some ⟨N - 1 - j, h⟩ else none
theorem down_succ {N k : Nat} (hk : k < N) : downL N (k + 1) = downL N k ++ [⟨N - 1 - k, by omega⟩] := by
  unfold downL
  rw [List.range_succ, List.filterMap_append]
  congr 1
  simp only [List.filterMap_cons, List.filterMap_nil]
  rw [dif_pos (by omega)]
theorem down_len {N : Nat} : ∀ k, k ≤ N → (downL N k).length = k
  | 0, _ => rfl
  | k + 1, hk => by rw [down_succ (by omega), List.length_append, down_len k (by omega)]; rfl
def dropL (q : QP) {N : Nat} (ys : List (Fin N)) (o : Own) : Own := ys.foldl (fun o i => o.drop (QP.halvesQ q (i.val, 0))) o
theorem dropL_all (q : QP) {N : Nat} (o : Own) : ∀ k, k ≤ N → Own.dropAll q (N - k) (dropL q (downL N k) o) = Own.dropAll q N o
  | 0, _ => rfl
  | k + 1, hk => by
    rw [← dropL_all q o k (by omega), down_succ (by omega)]
    unfold dropL
    rw [List.foldl_append, show N - k = (N - (k + 1)) + 1 by omega, Own.dropAll]
    simp only [List.foldl_cons, List.foldl_nil]
    rw [show N - 1 - k = N - (k + 1) by omega]
/-- a local's value -/
def locV (ls : List (B × Nat)) (j : Nat) : Value := .agg #[.string (bs (ls.getD j ([], 0)).1), .int .i64 ((ls.getD j ([], 0)).2 : Nat)]
def encL (ls : List (B × Nat)) (x : Fin ls.length) : Array Value := #[.int .i64 (x.val : Int), locV ls x.val]
/-- what a round keeps: what lay below n₀, and the iterator's own box -/
def KeepB (n₀ Bs : Nat) (A C : World) : Prop := Below n₀ A C ∧ C.cell? ⟨Bs, 0, none⟩ = A.cell? ⟨Bs, 0, none⟩
set_option maxRecDepth 100000 in
set_option maxHeartbeats 2000000 in
theorem back1_in (F : Fence) (n : Nat) (hf : F.fn 157) (hro : F.round = none) (hn : 1 ≤ n) (lp Bs n₀ g cap : Nat) (ls : List (B × Nat)) (hlen : ls.length ≤ 4000) (hg : g < n₀) (J Jx : List (Fin ls.length) → World → Prop)
    (hY : ∀ pre x W, J pre W → pre.length < ls.length → YieldAt F (n - 1) Tryz.prog lp (encL ls x) W fun e W' =>
      (e = .returned (.bool true) ∧ J (pre ++ [x]) W' ∧ KeepB n₀ Bs W W') ∨ (e = .returned (.bool false) ∧ Jx (pre ++ [x]) W'))
    (W : World) (hBs : W.cell? ⟨Bs, 0, none⟩ = some (.slice (some ⟨g, 0, none⟩) ls.length cap)) (_hcap : ls.length ≤ cap)
    (hc : ∀ j, j < ls.length → W.cell? ⟨g, j * 2, none⟩ = some (.string (bs (ls.getD j ([], 0)).1)) ∧ W.cell? ⟨g, j * 2 + 1, none⟩ = some (.int .i64 ((ls.getD j ([], 0)).2 : Nat))) (h0 : J [] W) :
    CallsIn F n Tryz.prog 157 #[.func (.yield lp) #[] #[], .pointer (some ⟨Bs, 0, none⟩)] W fun e W' => (∃ v, e = .returned v) ∧
      ((∃ ys, ys = downL ls.length ls.length ∧ J ys W') ∨ (∃ pre, True ∧ Jx pre W')) := by
  refine callsIn_of_wp Tryz.func157 rfl hf ?_ hro
  simp only [Tryz.ntmps157, List.size_toArray, List.length_cons, List.length_nil, Nat.reduceAdd, Nat.reduceSub, Array.replicate_succ, Array.replicate_zero, List.push_toArray, List.append_toArray, List.nil_append, List.cons_append]
  gi_wp2
  gi_loopw [3] (fun i wr => ∃ k : Nat, k ≤ ls.length ∧ i = .int .i64 ((ls.length : Int) - 1 - (k : Int)) ∧ J (downL ls.length k) wr ∧ KeepB n₀ Bs W wr)
    (fun i _ => (intOf i + 1).toNat)
  case atStart => exact ⟨0, Nat.zero_le _, by simp, h0, Below.refl _ _, rfl⟩
  case round =>
    obtain ⟨k, hk, rfl, hJs, hnx, hbx⟩ := hrel
    by_cases hlt : k < ls.length
    · obtain ⟨fn, tmps, assign, body, hy, hR⟩ := hY _ ⟨ls.length - 1 - k, by omega⟩ wr hJs (by rw [down_len k hk]; exact hlt)
      obtain ⟨d1, d2⟩ := hc (ls.length - 1 - k) (by omega)
      have e1 := (hnx.cell (p := ⟨g, (ls.length - 1 - k) * 2, none⟩) hg).trans d1
      have e2 := (hnx.cell (p := ⟨g, (ls.length - 1 - k) * 2 + 1, none⟩) hg).trans d2
      have e3 := hbx.trans hBs
      unfold encL locV at hy
      dsimp only at hy
      have hidx : (ls.length : Int) - 1 - (k : Int) = ((ls.length - 1 - k : Nat) : Int) := by omega
      have hds := down_succ hlt
      have hm1 : ls.length - 1 - k < ls.length := by omega
      rw [hidx]
      have hBs' : Hid (_) := hBs
      clear hidx hc hBs hbx d1 d2
      obtain ⟨m, hm⟩ : ∃ m, Hid (ls.length - 1 - k = m) := ⟨_, rfl⟩
      rw [hm.out] at e1 e2 hy hm1 ⊢
      have hmI : (m : Int) < ls.length := by omega
      have hm0 : (0 : Int) ≤ m := by omega
      generalize ls.getD m ([], 0) = b at *
      gi_wp2
      refine hR.mono ?_
      rintro e W3 (⟨rfl, hJ3, hk3⟩ | ⟨rfl, hJx3⟩)
      · gi_wp2
        go_roundw
        case rel => exact ⟨k + 1, by omega, by have := hm.out; congr 1; omega, by rw [hds]; exact hJ3, hnx.trans hk3.1, hk3.2.trans (e3.trans hBs'.out.symm)⟩
        case measure => first | (simp [intOf]; done) | (simp [intOf]; omega)
      · gi_wp2
        refine bodyPost_ret (results_none rfl _ _ _) rfl ?_
        exact ⟨⟨_, rfl⟩, .inr ⟨_, trivial, hJx3⟩⟩
    · obtain rfl : k = ls.length := by omega
      have hidx : (ls.length : Int) - 1 - (ls.length : Int) = -1 := by omega
      rw [hidx]
      gi_wp2
      go_end0
      exact ⟨⟨_, rfl⟩, .inl ⟨_, rfl, hJs⟩⟩
set_option maxHeartbeats 1000000 in
/-- slices.Backward: the slice is boxed; the function value captures the box -/
theorem back_in (F : Fence) (n : Nat) (hf : F.fn 101) (hro : F.round = none) (a : Option Addr) (len cap : Nat) (w : World) :
    CallsIn F n Tryz.prog 101 #[.slice a len cap] w fun e w' => e = .returned (.func (.func 157) #[] #[.pointer (some ⟨w.heap.size, 0, none⟩)]) ∧ w' = w.alloc (.cells #[.slice a len cap] 107) := by
  refine callsIn_of_wp Tryz.func101 rfl hf ?_ hro
  simp only [Tryz.ntmps101, List.size_toArray, List.length_cons, List.length_nil, Nat.reduceAdd, Nat.reduceSub, Array.replicate_succ, Array.replicate_zero, List.push_toArray, List.append_toArray, List.nil_append, List.cons_append]
  gi_wp2
  go_ret
  exact ⟨rfl, rfl⟩
theorem back_stops (F : Fence) (n : Nat) (hf : F.fn 157) (hro : F.round = none) (hn : 1 ≤ n) (Bs n₀ g cap : Nat) (ls : List (B × Nat)) (hlen : ls.length ≤ 4000) (hg : g < n₀) (hcap : ls.length ≤ cap) (w : World) (hBs : Bs < w.heap.size) (hn₀ : n₀ ≤ w.heap.size)
    (hb : w.cell? ⟨Bs, 0, none⟩ = some (.slice (some ⟨g, 0, none⟩) ls.length cap))
    (hc : ∀ j, j < ls.length → w.cell? ⟨g, j * 2, none⟩ = some (.string (bs (ls.getD j ([], 0)).1)) ∧ w.cell? ⟨g, j * 2 + 1, none⟩ = some (.int .i64 ((ls.getD j ([], 0)).2 : Nat))) :
    SeqStopsK F n Tryz.prog 157 #[.pointer (some ⟨Bs, 0, none⟩)] (encL ls) (KeepB n₀ Bs) (fun ys => ys = downL ls.length ls.length) (fun _ => True) ls.length w := fun l J Jx W hW _ _ hY h0 =>
  back1_in F n hf hro hn l Bs n₀ g cap ls hlen hg J Jx hY W ((hW.cell (p := ⟨Bs, 0, none⟩) hBs).trans hb) hcap
    (fun j hj => ⟨(hW.cell (p := ⟨g, j * 2, none⟩) (Nat.lt_of_lt_of_le hg hn₀)).trans (hc j hj).1, (hW.cell (p := ⟨g, j * 2 + 1, none⟩) (Nat.lt_of_lt_of_le hg hn₀)).trans (hc j hj).2⟩) h0
/-! what abides a turn of what is no cells -/
section
variable {x a : Nat} {w w0 W W' : World} {vm vt vi vm1 vt1 : Value} {o : Own} {row : Option Nat}
theorem cells_ne {k : Nat} {cs : Array Value} {e : TypeId} {f : Nat × Nat} (hk : W.heap[k]? = some (.cells cs e f)) (hr : ∀ r, row = some r → ∃ ob : Obj, W.heap[r]? = some ob ∧ ob.isCells = false) : some k ≠ row := fun e' => by
  obtain ⟨ob, h1, h2⟩ := hr k e'.symm
  rw [hk] at h1
  cases h1
  simp [Obj.isCells] at h2
theorem row_ne {b s n : Nat} {e : TypeId} {v : Value} {xs : List Value} (hv : W.ownsRow b e s v n xs) (hr : ∀ r, row = some r → ∃ ob : Obj, W.heap[r]? = some ob ∧ ob.isCells = false) : v.ownBlock = none ∨ v.ownBlock ≠ row := by
  rcases hv.2 with ⟨rfl, -⟩ | ⟨g, cap, cur, rfl, -, hg, -⟩
  · exact .inl rfl
  · exact .inr (cells_ne hg hr)
theorem OAt.abide (h : OAt w0 x a W o vi vm vt) (hg : W.grownBy W' row) (hr : ∀ r, row = some r → w0.heap.size ≤ r ∧ ∃ ob : Obj, W.heap[r]? = some ob ∧ ob.isCells = false) : OAt w0 x a W' o vi vm vt := by
  have hr2 : ∀ r, row = some r → ∃ ob : Obj, W.heap[r]? = some ob ∧ ob.isCells = false := fun r e => (hr r e).2
  refine ⟨⟨h.yat.base, h.yat.ty, ?_, h.yat.made.kept hg (row_ne h.yat.made hr2), h.yat.trace.kept hg (row_ne h.yat.trace hr2)⟩, h.old.trans ⟨hg.os, hg.tape, hg.output, hg.size, fun k hk => hg.block k (Nat.lt_of_lt_of_le hk h.old.size) (fun e => ?_)⟩, h.ints, h.boxes, h.feed⟩
  · rw [hg.block x h.lt (cells_ne h.yat.blk hr2)]; exact h.yat.blk
  · have := (hr k e.symm).1; omega
theorem Roam.abide {w1 : World} (h : Roam x vm vt w1 vm1 vt1 W) (hg : W.grownBy W' row) (hr : ∀ r, row = some r → w1.heap.size ≤ r) : Roam x vm vt w1 vm1 vt1 W' :=
  ⟨hg.os.trans h.os, hg.tape.trans h.tape, hg.output.trans h.output, Nat.le_trans h.size hg.size, fun k hk h1 h2 h3 => (hg.block k (Nat.lt_of_lt_of_le hk h.size) (fun e => by have := hr k e.symm; omega)).trans (h.block k hk h1 h2 h3), h.fm, h.ft⟩
theorem Roam.keeps (h : Roam x vm vt W vm1 vt1 W') (hO : OAt w0 x a W o vi vm vt) : KeepsOthers W W' := by
  refine ⟨h.size, fun k ob hk hc => ?_⟩
  have ne : ∀ {j : Nat} {cs : Array Value} {e : TypeId} {f : Nat × Nat}, W.heap[j]? = some (.cells cs e f) → k ≠ j := fun hj e => by
    subst e
    rw [hk] at hj
    cases hj
    simp [Obj.isCells] at hc
  rw [h.block k (lt_of_heap hk) (ne hO.yat.blk) (fun e => ?_) (fun e => ?_)]
  · exact hk
  · rcases hO.yat.made.2 with ⟨e', -⟩ | ⟨g, cap, cur, e', -, hg, -⟩
    · rw [e'] at e; cases e
    · rw [e'] at e
      simp only [Value.ownBlock, Option.some.injEq] at e
      exact ne hg e.symm
  · rcases hO.yat.trace.2 with ⟨e', -⟩ | ⟨g, cap, cur, e', -, hg, -⟩
    · rw [e'] at e; cases e
    · rw [e'] at e
      simp only [Value.ownBlock, Option.some.injEq] at e
      exact ne hg e.symm
/-- a block of another kind is not turned -/
theorem OAt.other' (hO : OAt w0 x a W o vi vm vt) (h : Roam x vm vt W vm1 vt1 W') {k : Nat} {cs : Array Value} {e : TypeId} {f : Nat × Nat} (hk : W.heap[k]? = some (.cells cs e f)) (h1 : e ≠ 104) (h2 : 175 ≠ e) (h3 : 9 ≠ e) : W'.heap[k]? = some (.cells cs e f) := by
  rw [h.block k (lt_of_heap hk) (fun e' => ?_) (fun e' => own_at_ne hO.yat.made hk h2 e') (fun e' => own_at_ne hO.yat.trace hk h3 e')]
  · exact hk
  · subst e'
    have := hO.yat.blk
    rw [hk] at this
    simp only [Option.some.injEq, Obj.cells.injEq] at this
    exact h1 this.2.1
end
end Go.Proofs.YtmlgajhhnojdjaaGreatDoor.Own
