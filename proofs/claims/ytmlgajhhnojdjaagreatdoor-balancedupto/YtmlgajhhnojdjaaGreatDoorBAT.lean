/- The project's machine that owns: the block that comes behind a terminator. -/
import Derived.Test.YtmlgajhhnojdjaaGreatDoorBAS
import Derived.Test.YtmlgajhhnojdjaaGreatDoorBAP
import Derived.Test.YtmlgajhhnojdjaaGreatDoorBAR
import Derived.Deep.DeepFit
import Derived.Deep.RegionHeld3
namespace Go.Proofs.YtmlgajhhnojdjaaGreatDoor.Own
open Go Go.RowKit Go.Proofs.YtmlgajhhnojdjaaGreatDoor.Spec Go.Proofs.YtmlgajhhnojdjaaGreatDoor.Aux Go.Proofs.YtmlgajhhnojdjaaGreatDoor.PrjJ Go.Proofs.YtmlgajhhnojdjaaGreatDoor.PrjK Go.Proofs.YtmlgajhhnojdjaaGreatDoor.PrjL Go.Proofs.YtmlgajhhnojdjaaGreatDoor.PrjM Go.Proofs.YtmlgajhhnojdjaaGreatDoor.PrjS Go.Proofs.YtmlgajhhnojdjaaGreatDoor.PrjT Go.Proofs.YtmlgajhhnojdjaaGreatDoor.FlwA Go.Proofs.YtmlgajhhnojdjaaGreatDoor.FlwB Go.Proofs.YtmlgajhhnojdjaaGreatDoor.FlwE

/-- whether it is the other way -/
def Own.other (o : Own) (l : QLine) : Bool := if l.op = 19 then o.num (l.places.getD 0 (0, 0)) == 0 else if l.op = 20 then !(o.box (l.places.getD 0 (0, 0)) == 0) else false
section
variable {x a : Nat} {w w0 w1 : World} {vm vt vi : Value} {o : Own}
theorem LineAt.below {z : Nat} {l : QLine} {vp vn : Value} (h : LineAt z w l vp vn) (hb : Below w.heap.size w w1) : LineAt z w1 l vp vn := ⟨own_below h.places hb, own_below h.next hb⟩
set_option maxRecDepth 20000 in
set_option maxHeartbeats 1000000 in
theorem next_any (h : OAt w0 x a w o vi vm vt) {z nl nb : Nat} {l : QLine} {ap an : Option Addr} {cp cn : Nat} (hl : LineAt z w l (.slice ap l.places.length cp) (.slice an l.next.length cn)) (hk : LOk nl nb l) (hnl : nl ≤ 12)
    (ho : l.op = 18 ∨ l.op = 19 ∨ l.op = 20) (hn : (if o.other l then 1 else 0) < l.next.length) :
    Calls Tryz.prog 63 #[.pointer (some ⟨x, 0, none⟩), .agg #[.int .i64 (l.num : Nat), .int .i64 (l.op : Nat), .slice ap l.places.length cp, .int .i64 l.number, .int .i64 l.flag, .slice an l.next.length cn]] w fun e w' =>
      e = .returned (.int .i64 ((l.next.getD (if o.other l then 1 else 0) 0 : Nat) : Int)) ∧ Below w.heap.size w w' := by
  have hbA : Below w.heap.size w (w.alloc (.cells #[.int .i64 (l.num : Nat), .int .i64 (l.op : Nat), .slice ap l.places.length cp, .int .i64 l.number, .int .i64 l.flag, .slice an l.next.length cn] 115)) := (Below.refl _ _).alloc (Nat.le_refl _) _
  have HA := h.below hbA
  have KW := fun (W : World) (hW : Below w.heap.size w W) => way_any (hl.below hW) (o.other l) hn
  unfold lnV at KW
  have hblk : (w.alloc (.cells #[.int .i64 (l.num : Nat), .int .i64 (l.op : Nat), .slice ap l.places.length cp, .int .i64 l.number, .int .i64 l.flag, .slice an l.next.length cn] 115)).heap[w.heap.size]? = some (.cells #[.int .i64 (l.num : Nat), .int .i64 (l.op : Nat), .slice ap l.places.length cp, .int .i64 l.number, .int .i64 l.flag, .slice an l.next.length cn] 115 (0, 0)) := Array.getElem?_push_size
  generalize hR : l.next.getD (if o.other l then 1 else 0) 0 = r at KW ⊢
  by_cases h18 : l.op = 18
  · have hoth : o.other l = false := by rw [Own.other, if_neg (by omega), if_neg (by omega)]
    rw [hoth] at KW
    have b1 : (((l.op : Nat) : Int) == 19) = false := by rw [h18]; rfl
    have b2 : (((l.op : Nat) : Int) == 20) = false := by rw [h18]; rfl
    clear hn hR hoth h18 ho
    go_enter Tryz.func63, Tryz.ntmps63
    go_wp2_with (go_at_call 100; go_fit (KW _ hbA); rintro e w1 ⟨rfl, h1⟩)
    go_ret
    exact ⟨rfl, hbA.trans (h1.mono hbA.size)⟩
  · have hlen : 1 ≤ l.places.length := by
      rcases ho with e | e | e
      · exact absurd e h18
      · rw [hk.plen, e]; decide
      · rw [hk.plen, e]; decide
    obtain ⟨g, e, -, hcp, hg, c1, c2⟩ := places_cells hl.places 0 (by omega)
    subst e
    have hx := (hk.places (l.places.getD 0 (0, 0)) (by rw [List.getD_eq_getElem?_getD, List.getElem?_eq_getElem (by omega)]; exact List.getElem_mem _)).1
    have d1 := (hbA.cell (p := ⟨g, 0, none⟩) hg).trans c1
    have d2 := (hbA.cell (p := ⟨g, 1, none⟩) hg).trans c2
    have hlI : (0 : Int) < l.places.length := by omega
    have KN := number_any HA (l.places.getD 0 (0, 0)) (by omega)
    have KB := box_any HA (l.places.getD 0 (0, 0)) (by omega)
    by_cases h19 : l.op = 19
    · have hoth : o.other l = (o.num (l.places.getD 0 (0, 0)) == 0) := by rw [Own.other, if_pos h19]
      rw [hoth] at KW
      have b1 : (((l.op : Nat) : Int) == 19) = true := by rw [h19]; rfl
      have b2 : (((l.op : Nat) : Int) == 20) = false := by rw [h19]; rfl
      clear hn hR hoth h19 h18 ho c1 c2 KB
      generalize l.places.getD 0 (0, 0) = p at *
      go_enter Tryz.func63, Tryz.ntmps63
      go_wp2_with (first
        | (go_at_call 58; go_fit KN; rintro e w2 ⟨rfl, h2⟩; have hb2 := hbA.trans (h2.mono hbA.size); have hblk2 := (h2.block _ (lt_of_heap hblk)).trans hblk; have m0 : w2.cell? ⟨w.heap.size, 0, none⟩ = _ := cell_of_heap hblk2 0; have m1 : w2.cell? ⟨w.heap.size, 1, none⟩ = _ := cell_of_heap hblk2 1; have m2 : w2.cell? ⟨w.heap.size, 2, none⟩ = _ := cell_of_heap hblk2 2; have m3 : w2.cell? ⟨w.heap.size, 3, none⟩ = _ := cell_of_heap hblk2 3; have m4 : w2.cell? ⟨w.heap.size, 4, none⟩ = _ := cell_of_heap hblk2 4; have m5 : w2.cell? ⟨w.heap.size, 5, none⟩ = _ := cell_of_heap hblk2 5; simp at m0 m1 m2 m3 m4 m5)
        | (go_at_call 100; go_fit (KW _ hb2); rintro e w1 ⟨rfl, h1⟩))
      go_ret
      exact ⟨rfl, hb2.trans (h1.mono hb2.size)⟩
    · have h20 : l.op = 20 := by omega
      have hoth : o.other l = !(o.box (l.places.getD 0 (0, 0)) == 0) := by rw [Own.other, if_neg h19, if_pos h20]
      rw [hoth] at KW
      have b1 : (((l.op : Nat) : Int) == 19) = false := by rw [h20]; rfl
      have b2 : (((l.op : Nat) : Int) == 20) = true := by rw [h20]; rfl
      clear hn hR hoth h19 h18 h20 ho c1 c2 KN
      generalize l.places.getD 0 (0, 0) = p at *
      have bb : (((o.box p : Nat) : Int) != 0) = !(o.box p == 0) := by
        rw [bne]; congr 1
        rw [Bool.eq_iff_iff, beq_iff_eq, beq_iff_eq]; omega
      rw [← bb] at KW
      clear bb
      go_enter Tryz.func63, Tryz.ntmps63
      go_wp2_with (first
        | (go_at_call 99; go_fit KB; rintro e w2 ⟨rfl, h2⟩; have hb2 := hbA.trans (h2.mono hbA.size); have hblk2 := (h2.block _ (lt_of_heap hblk)).trans hblk; have m0 : w2.cell? ⟨w.heap.size, 0, none⟩ = _ := cell_of_heap hblk2 0; have m1 : w2.cell? ⟨w.heap.size, 1, none⟩ = _ := cell_of_heap hblk2 1; have m2 : w2.cell? ⟨w.heap.size, 2, none⟩ = _ := cell_of_heap hblk2 2; have m3 : w2.cell? ⟨w.heap.size, 3, none⟩ = _ := cell_of_heap hblk2 3; have m4 : w2.cell? ⟨w.heap.size, 4, none⟩ = _ := cell_of_heap hblk2 4; have m5 : w2.cell? ⟨w.heap.size, 5, none⟩ = _ := cell_of_heap hblk2 5; simp at m0 m1 m2 m3 m4 m5)
        | (go_at_call 100; go_fit (KW _ hb2); rintro e w1 ⟨rfl, h1⟩))
      go_ret
      exact ⟨rfl, hb2.trans (h1.mono hb2.size)⟩
end
end Go.Proofs.YtmlgajhhnojdjaaGreatDoor.Own
/- Plain definitions: a run of the project's machine that owns, as a plain function; what stays within bounds. -/
namespace Go.Proofs.YtmlgajhhnojdjaaGreatDoor.Own
open Go Go.RowKit Go.Proofs.YtmlgajhhnojdjaaGreatDoor.Spec Go.Proofs.YtmlgajhhnojdjaaGreatDoor.Aux Go.Proofs.YtmlgajhhnojdjaaGreatDoor.PrjS Go.Proofs.YtmlgajhhnojdjaaGreatDoor.FlwA

def plOf (l : QLine) (j : Nat) : Nat × Nat := l.places.getD j (0, 0)
/-- all locals dropped, the last one first -/
def Own.dropAll (q : QP) : Nat → Own → Own
  | 0, o => o
  | i + 1, o => Own.dropAll q i (o.drop (QP.halvesQ q (i, 0)))
def Own.calc (o : Own) (l : QLine) : Own := { o with ints := o.ints.set (plOf l 0).1 (calcI l.op (o.num (plOf l 1)) (o.num (plOf l 2))) }
def Own.new (o : Own) (p : Nat × Nat) (v : Int) : Own := { o with yd := o.yd.build v, boxes := o.boxes.set (slotQ p) (o.yd.made.length + 1) }
/-- is there what a line takes? -/
def Own.need (o : Own) (l : QLine) : Bool := if l.op = 10 then decide (1 ≤ o.box (plOf l 1)) else if l.op = 11 then decide (1 ≤ o.box (plOf l 0)) else true
/-- a statement behind which a run goes on -/
def Own.do1 (q : QP) (o : Own) (l : QLine) : Own :=
  if l.op = 2 then { o with ints := o.ints.set (plOf l 0).1 l.number }
  else if l.op = 3 ∨ l.op = 4 ∨ l.op = 5 then o.calc l
  else if l.op = 7 then { o with inp := o.inp.tail, ints := o.ints.set (plOf l 0).1 (o.inp.headD 0) }
  else if l.op = 8 then { o with yd := o.yd.note 111 (o.num (plOf l 0)) }
  else if l.op = 10 then { o with yd := o.yd.load (o.box (plOf l 1)), ints := o.ints.set (plOf l 0).1 (o.yd.at (o.box (plOf l 1))).1 }
  else if l.op = 11 then { o with yd := o.yd.store (o.box (plOf l 0)) (o.num (plOf l 1)) }
  else if l.op = 12 ∨ l.op = 14 then o.move (QP.halvesQ q (plOf l 0)) (QP.halvesQ q (plOf l 1))
  else if l.op = 13 ∨ l.op = 15 then o.drop (QP.halvesQ q (plOf l 0))
  else o
/-- from a line on: how it ends, the value, what is left; none: it does not get so far -/
def runO (q : QP) (room : Int) : Nat → List QLine → Own → Option (Nat × Int × Own)
  | _, [], _ => none
  | 0, _ :: _, o => some (2, 0, o)
  | f + 1, l :: ls, o =>
    if l.op = 6 then (if o.num (plOf l 2) = 0 then some (4, 0, o) else runO q room f ls (o.calc l))
    else if l.op = 9 then (if (o.drop [plOf l 0]).yd.live ≥ room then some (3, 0, o.drop [plOf l 0]) else runO q room f ls ((o.drop [plOf l 0]).new (plOf l 0) (o.num (plOf l 1))))
    else if l.op = 18 ∨ l.op = 19 ∨ l.op = 20 then (if ls = [] then runO q room f (q.blocks.getD (l.next.getD (if o.other l then 1 else 0) 0) []) o else none)
    else if l.op = 22 then some (1, o.num (plOf l 0), o.dropAll q q.locals.length)
    else if o.need l = true then runO q room f ls (o.do1 q l) else none
def Own.start (inp : List Int) : Own := ⟨⟨[], 0, []⟩, inp, List.replicate 12 0, List.replicate 24 0⟩
/-- within bounds: t words at most -/
structure Own.In (o : Own) (t : Nat) : Prop where
  many : o.yd.made.length ≤ t
  trace : o.yd.trace.length ≤ t
  live : -(t : Int) ≤ o.yd.live ∧ o.yd.live ≤ t
  words : ∀ b ∈ o.yd.trace, b.length ≤ 30
  bx : o.Bx
  ints : o.ints.length = 12
  boxes : o.boxes.length = 24
  nums : ∀ n ∈ o.ints, isI64 n
  inp : ∀ n ∈ o.inp, isI64 n
  made : ∀ b ∈ o.yd.made, isI64 b.1
theorem wrap_i64 (n : Int) : isI64 (wrap64 n) := by unfold isI64 wrap64; omega
theorem calc_i64 (op : Nat) (m n : Int) : isI64 (calcI op m n) := by
  unfold calcI
  repeat' split
  all_goals exact wrap_i64 _
theorem zero_i64 : isI64 0 := by unfold isI64; omega
section
variable {o : Own} {t u : Nat}
theorem Own.In.sz (h : o.In t) (ht : t ≤ 1000000) : o.yd.Sz t := ⟨by have := h.many; omega, h.trace, h.live, h.words⟩
theorem Own.In.mono (h : o.In t) (ht : t ≤ u) : o.In u := ⟨by have := h.many; omega, by have := h.trace; omega, by have := h.live; omega, h.words, h.bx, h.ints, h.boxes, h.nums, h.inp, h.made⟩
theorem mem_set {α : Type} {l : List α} {j : Nat} {v n : α} (h : n ∈ l.set j v) : n ∈ l ∨ n = v := List.mem_or_eq_of_mem_set h
theorem Own.In.setInt (h : o.In t) (j : Nat) {v : Int} (hv : isI64 v) : ({ o with ints := o.ints.set j v } : Own).In t :=
  ⟨h.many, h.trace, h.live, h.words, h.bx, by simpa using h.ints, h.boxes, fun n hn => (mem_set hn).elim (h.nums n) (fun e => e ▸ hv), h.inp, h.made⟩
theorem Own.In.num (h : o.In t) (p : Nat × Nat) : isI64 (o.num p) := by
  unfold Own.num
  rw [List.getD_eq_getElem?_getD]
  cases hg : o.ints[p.1]? with
  | none => exact zero_i64
  | some n => exact h.nums n (List.mem_of_getElem? hg)
theorem Own.In.head (h : o.In t) : isI64 (o.inp.headD 0) := by
  cases hi : o.inp with
  | nil => exact zero_i64
  | cons n r => exact h.inp n (by rw [hi]; exact List.mem_cons_self ..)
theorem Own.In.tail (h : o.In t) : ({ o with inp := o.inp.tail } : Own).In t := ⟨h.many, h.trace, h.live, h.words, h.bx, h.ints, h.boxes, h.nums, fun n hn => h.inp n (List.mem_of_mem_tail hn), h.made⟩
theorem Own.In.note (h : o.In t) (c : UInt8) {n : Int} (hn : isI64 n) : ({ o with yd := o.yd.note c n } : Own).In (t + 1) :=
  ⟨by have := h.many; show o.yd.made.length ≤ t + 1; omega, by have := h.trace; simp [Yd.note]; omega, by have := h.live; show -((t + 1 : Nat) : Int) ≤ o.yd.live ∧ o.yd.live ≤ _; omega, note_words hn h.words, h.bx, h.ints, h.boxes, h.nums, h.inp, h.made⟩
theorem Own.In.at (h : o.In t) (n : Nat) : isI64 (o.yd.at n).1 := by
  unfold Yd.at
  rw [List.getD_eq_getElem?_getD]
  cases hg : o.yd.made[n - 1]? with
  | none => exact zero_i64
  | some b => exact h.made b (List.mem_of_getElem? hg)
theorem nat_i64 {n : Nat} (h : n ≤ 1000000000) : isI64 ((n : Nat) : Int) := by unfold isI64; omega
theorem Own.In.load (h : o.In t) (ht : t ≤ 1000000) {n : Nat} (hn : n ≤ o.yd.made.length) : ({ o with yd := o.yd.load n } : Own).In (t + 1) := h.note 60 (nat_i64 (by have := h.many; omega))
theorem Own.In.store (h : o.In t) (ht : t ≤ 1000000) {n : Nat} (hn : n ≤ o.yd.made.length) {v : Int} (hv : isI64 v) : ({ o with yd := o.yd.store n v } : Own).In (t + 1) := by
  have h1 := h.note 62 (n := ((n : Nat) : Int)) (nat_i64 (by have := h.many; omega))
  refine ⟨?_, h1.trace, h1.live, h1.words, fun m hm => ?_, h.ints, h.boxes, h.nums, h.inp, fun b hb => ?_⟩
  · have := h.many; show (o.yd.made.set (n - 1) _).length ≤ t + 1; rw [List.length_set]; omega
  · show m ≤ (o.yd.made.set (n - 1) _).length; rw [List.length_set]; exact h.bx m hm
  · rcases mem_set hb with hb | rfl
    · exact h.made b hb
    · exact hv
theorem Own.In.clear (h : o.In t) (p : Nat × Nat) : (o.clear p).In t :=
  ⟨h.many, h.trace, h.live, h.words, clear_bx h.bx p, h.ints, by simpa [Own.clear] using h.boxes, h.nums, h.inp, h.made⟩
theorem Own.In.takes : ∀ (ps : List (Nat × Nat)) {o : Own} {t : Nat}, o.In t → (Own.take ps o).2.In t
  | [], _, _, h => h
  | p :: ps, o, t, h => by rw [Own.take]; exact Own.In.takes ps (h.clear p)
theorem Own.In.take (h : o.In t) (ps : List (Nat × Nat)) : (Own.take ps o).2.In t := Own.In.takes ps h
theorem Own.In.free1 (h : o.In t) (ht : t ≤ 1000000) {n : Nat} (hn : n ≤ o.yd.made.length) : (o.free1 n).In (t + 1) := by
  unfold Own.free1; split
  · exact h.mono (by omega)
  · have hs := (h.sz ht).free hn
    refine ⟨by rw [free_len]; have := h.many; omega, hs.trace, hs.live, hs.words, fun m hm => ?_, h.ints, h.boxes, h.nums, h.inp, fun b hb => ?_⟩
    · show m ≤ (o.yd.free n).made.length; rw [free_len]; exact h.bx m hm
    · rcases mem_set (show b ∈ o.yd.made.set (n - 1) ((o.yd.at n).1, false) from hb) with hb | rfl
      · exact h.made b hb
      · exact h.at n
theorem Own.In.frees : ∀ (ns : List Nat) {o : Own} {t : Nat}, o.In t → t + ns.length ≤ 1000000 → (∀ n ∈ ns, n ≤ o.yd.made.length) → (Own.frees ns o).In (t + ns.length)
  | [], _, _, h, _, _ => h
  | n :: ns, o, t, h, ht, hn => by
    rw [List.length_cons] at ht
    rw [Own.frees, List.length_cons, show t + (ns.length + 1) = (t + 1) + ns.length by omega]
    exact Own.In.frees ns (h.free1 (by omega) (hn n (List.mem_cons_self ..))) (by omega) (fun m hm => by rw [(free1_boxes o n).2.1]; exact hn m (List.mem_cons_of_mem _ hm))
theorem Own.In.drop (h : o.In t) (ps : List (Nat × Nat)) (ht : t + ps.length ≤ 1000000) : (o.drop ps).In (t + ps.length) := by
  have := Own.In.frees (Own.take ps o).1 (h.take ps) (by rw [take_len]; exact ht) (fun n hn => by rw [(take_yd ps o).1]; exact (take_bx ps h.bx).2 n hn)
  rwa [take_len] at this
theorem Own.In.put1 (h : o.In t) (p : Nat × Nat) {n : Nat} (hn : n ≤ o.yd.made.length) : (o.put1 p n).In t :=
  ⟨h.many, h.trace, h.live, h.words, fun m hm => (mem_set hm).elim (h.bx m) (fun e => e ▸ hn), h.ints, by simpa [Own.put1] using h.boxes, h.nums, h.inp, h.made⟩
theorem Own.In.puts : ∀ (ps : List (Nat × Nat)) (ns : List Nat) {o : Own} {t : Nat}, o.In t → (∀ n ∈ ns, n ≤ o.yd.made.length) → (Own.puts ps ns o).In t
  | [], _, _, _, h, _ => h
  | p :: ps, ns, o, t, h, hn => by
    rw [Own.puts]
    refine Own.In.puts ps (ns.drop 1) (h.put1 p ?_) (fun m hm => hn m (List.mem_of_mem_drop hm))
    cases ns with
    | nil => exact Nat.zero_le _
    | cons m r => exact hn m (List.mem_cons_self ..)
theorem Own.In.move (h : o.In t) (to frm : List (Nat × Nat)) (ht : t + to.length ≤ 1000000) : (o.move to frm).In (t + to.length) := by
  refine Own.In.puts to _ ((h.take frm).drop to ht) (fun n hn => ?_)
  rw [(drop_parts to (Own.take frm o).2).1, (take_yd frm o).1]
  exact (take_bx frm h.bx).2 n hn
theorem Own.In.new (h : o.In t) (ht : t ≤ 1000000) (p : Nat × Nat) {v : Int} (hv : isI64 v) : (o.new p v).In (t + 1) := by
  have hm := h.many
  have hnr : isI64 ((o.yd.made.length + 1 : Nat) : Int) := nat_i64 (by omega)
  refine ⟨?_, ?_, ?_, note_words hnr h.words, fun m hm' => ?_, h.ints, by simpa [Own.new] using h.boxes, h.nums, h.inp, fun b hb => ?_⟩
  · show (o.yd.made ++ [(v, true)]).length ≤ t + 1; simp; omega
  · have := h.trace; show (o.yd.trace ++ [_]).length ≤ t + 1; simp; omega
  · have := h.live; show -((t + 1 : Nat) : Int) ≤ o.yd.live + 1 ∧ o.yd.live + 1 ≤ ((t + 1 : Nat) : Int); omega
  · show m ≤ (o.yd.made ++ [(v, true)]).length
    rw [List.length_append]
    rcases mem_set (show m ∈ o.boxes.set (slotQ p) (o.yd.made.length + 1) from hm') with hm' | rfl
    · have := h.bx m hm'; simp; omega
    · simp
  · rcases List.mem_append.mp (show b ∈ o.yd.made ++ [(v, true)] from hb) with hb | hb
    · exact h.made b hb
    · rw [List.mem_singleton.mp hb]; exact hv
theorem halves_len (q : QP) (p : Nat × Nat) : (QP.halvesQ q p).length ≤ 2 := by unfold QP.halvesQ; split <;> simp
theorem Own.In.do1 (h : o.In t) (ht : t + 3 ≤ 1000000) (q : QP) (l : QLine) (hnum : isI64 l.number) : (o.do1 q l).In (t + 3) := by
  unfold Own.do1
  split
  · exact (h.setInt _ hnum).mono (by omega)
  · split
    · exact (h.setInt _ (calc_i64 _ _ _)).mono (by omega)
    · split
      · exact (h.tail.setInt (plOf l 0).1 h.head).mono (by omega)
      · split
        · exact (h.note 111 (h.num _)).mono (by omega)
        · split
          · exact ((h.load (by omega) (box_le h.bx (plOf l 1))).setInt (plOf l 0).1 (h.at _)).mono (by omega)
          · split
            · exact (h.store (by omega) (box_le h.bx (plOf l 0)) (h.num _)).mono (by omega)
            · split
              · have := halves_len q (plOf l 0)
                exact (h.move _ _ (by omega)).mono (by omega)
              · split
                · have := halves_len q (plOf l 0)
                  exact (h.drop _ (by omega)).mono (by omega)
                · exact h.mono (by omega)
theorem Own.In.dropAll (q : QP) : ∀ (i : Nat) {o : Own} {t : Nat}, o.In t → t + 2 * i ≤ 1000000 → (Own.dropAll q i o).In (t + 2 * i)
  | 0, _, _, h, _ => h
  | i + 1, o, t, h, ht => by
    have h2 := halves_len q (i, 0)
    rw [Own.dropAll, show t + 2 * (i + 1) = (t + 2) + 2 * i by omega]
    exact Own.In.dropAll q i ((h.drop (QP.halvesQ q (i, 0)) (by omega)).mono (by omega)) (by omega)
theorem Own.In.start {inp : List Int} (h : ∀ n ∈ inp, isI64 n) : (Own.start inp).In 0 :=
  ⟨Nat.le_refl _, Nat.le_refl _, ⟨Int.le_refl _, Int.le_refl _⟩, fun b hb => (by cases hb), fun n hn => (by rw [List.eq_of_mem_replicate hn]; exact Nat.zero_le _), by simp [Own.start], by simp [Own.start], fun n hn => by rw [List.eq_of_mem_replicate hn]; exact zero_i64, h, fun b hb => (by cases hb)⟩
end
end Go.Proofs.YtmlgajhhnojdjaaGreatDoor.Own
/- The project's machine that owns: numbers put together in their place; inputs taken; the way on. -/
namespace Go.Proofs.YtmlgajhhnojdjaaGreatDoor.Own
open Go Go.RowKit Go.Proofs.YtmlgajhhnojdjaaGreatDoor.Spec Go.Proofs.YtmlgajhhnojdjaaGreatDoor.Aux Go.Proofs.YtmlgajhhnojdjaaGreatDoor.PrjJ Go.Proofs.YtmlgajhhnojdjaaGreatDoor.PrjK Go.Proofs.YtmlgajhhnojdjaaGreatDoor.PrjL Go.Proofs.YtmlgajhhnojdjaaGreatDoor.PrjM Go.Proofs.YtmlgajhhnojdjaaGreatDoor.PrjS Go.Proofs.YtmlgajhhnojdjaaGreatDoor.FlwA Go.Proofs.YtmlgajhhnojdjaaGreatDoor.FlwE

/-- numbers within Go's own bounds -/

def QLine.pl (l : QLine) (j : Nat) : Nat × Nat := l.places.getD j (0, 0)
section
variable {x a : Nat} {w w0 : World} {vm vt vi : Value} {o : Own}
set_option maxRecDepth 20000 in
set_option maxHeartbeats 4000000 in
theorem calculate_any (h : OAt w0 x a w o vi vm vt) {z nl nb : Nat} {l : QLine} {ap an : Option Addr} {cp cn : Nat} (hl : LineAt z w l (.slice ap l.places.length cp) (.slice an l.next.length cn)) (hk : LOk nl nb l) (hnl : nl ≤ 12)
    (ho : l.op = 3 ∨ l.op = 4 ∨ l.op = 5 ∨ l.op = 6) (hd : l.op = 6 → ¬ o.num (QLine.pl l 2) = 0) (hr : ∀ n ∈ o.ints, isI64 n) :
    Calls Tryz.prog 59 #[.pointer (some ⟨x, 0, none⟩), .agg #[.int .i64 (l.num : Nat), .int .i64 (l.op : Nat), .slice ap l.places.length cp, .int .i64 l.number, .int .i64 l.flag, .slice an l.next.length cn]] w fun e w' =>
      e = .returned (.tuple #[]) ∧ OAt w0 x a w' { o with ints := o.ints.set (QLine.pl l 0).1 (calcI l.op (o.num (QLine.pl l 1)) (o.num (QLine.pl l 2))) } vi vm vt ∧ Roam x vm vt w vm vt w' := by
  have hlen : l.places.length = 3 := by rcases ho with e | e | e | e <;> (rw [hk.plen, e]; rfl)
  have hbA : Below w.heap.size w (w.alloc (.cells #[.int .i64 (l.num : Nat), .int .i64 (l.op : Nat), .slice ap l.places.length cp, .int .i64 l.number, .int .i64 l.flag, .slice an l.next.length cn] 115)) := (Below.refl _ _).alloc (Nat.le_refl _) _
  obtain ⟨g, rfl, hcp, hg, c1, c2⟩ := place_at hl hlen 0 (by omega)
  obtain ⟨g', e', -, -, c3, c4⟩ := place_at hl hlen 1 (by omega)
  simp only [Option.some.injEq, Addr.mk.injEq, and_true] at e'
  subst e'
  obtain ⟨g', e', -, -, c5, c6⟩ := place_at hl hlen 2 (by omega)
  simp only [Option.some.injEq, Addr.mk.injEq, and_true] at e'
  subst e'
  have HPL : Hid (_) := hl.places
  have hx : ∀ j, j < 3 → (QLine.pl l j).1 < 12 := fun j hj => by
    have := (hk.places (l.places.getD j (0, 0)) (by rw [List.getD_eq_getElem?_getD, List.getElem?_eq_getElem (by omega)]; exact List.getElem_mem _)).1
    show (l.places.getD j (0, 0)).1 < 12
    omega
  have x0 := hx 0 (by omega)
  have x1 := hx 1 (by omega)
  have x2 := hx 2 (by omega)
  have hri : ∀ p : Nat × Nat, p.1 < 12 → isI64 (o.num p) := fun p hp => hr _ (by
    unfold Own.num
    rw [List.getD_eq_getElem?_getD, List.getElem?_eq_getElem (by rw [h.ints]; exact hp)]; exact List.getElem_mem _)
  have r1 := hri _ x1
  have r2 := hri _ x2
  have KC := fun w' => calculated_any l.op (o.num (QLine.pl l 1)) (o.num (QLine.pl l 2)) w' hd ho r1 r2
  unfold QLine.pl at *
  have HA := h.below hbA
  have KN1 := fun (W : World) (hb : Below w.heap.size w W) => number_any (h.below hb) (l.places.getD 1 (0, 0)) x1
  have KN2 := fun (W : World) (hb : Below w.heap.size w W) => number_any (h.below hb) (l.places.getD 2 (0, 0)) x2
  have hb : ∀ W, Below w.heap.size w W → (W.cell? ⟨g, 0, none⟩ = some (.int .i64 ((l.places.getD 0 (0, 0)).1 : Nat)) ∧ W.cell? ⟨g, 2, none⟩ = some (.int .i64 ((l.places.getD 1 (0, 0)).1 : Nat)) ∧ W.cell? ⟨g, 3, none⟩ = some (.int .i64 ((l.places.getD 1 (0, 0)).2 : Nat)) ∧ W.cell? ⟨g, 4, none⟩ = some (.int .i64 ((l.places.getD 2 (0, 0)).1 : Nat)) ∧ W.cell? ⟨g, 5, none⟩ = some (.int .i64 ((l.places.getD 2 (0, 0)).2 : Nat))) := fun W hW =>
    ⟨(hW.cell (p := ⟨g, 0, none⟩) hg).trans c1, (hW.cell (p := ⟨g, 2, none⟩) hg).trans c3, (hW.cell (p := ⟨g, 3, none⟩) hg).trans c4, (hW.cell (p := ⟨g, 4, none⟩) hg).trans c5, (hW.cell (p := ⟨g, 5, none⟩) hg).trans c6⟩
  obtain ⟨d0, d2, d3, d4, d5⟩ := hb _ hbA
  have x0i : ((l.places.getD 0 (0, 0)).1 : Int) < 12 := by omega
  rw [hlen] at hbA d0 d2 d3 d4 d5 HA ⊢
  clear hx c1 c2 c3 c4 c5 c6 hl hk
  generalize l.places.getD 0 (0, 0) = p0 at *
  generalize l.places.getD 1 (0, 0) = p1 at *
  generalize l.places.getD 2 (0, 0) = p2 at *
  clear hlen
  go_enter Tryz.func59, Tryz.ntmps59
  go_wp2
  have hbD : Below w.heap.size w (w.alloc (.cells #[.int .i64 (l.num : Nat), .int .i64 (l.op : Nat), .slice (some ⟨g, 0, none⟩) 3 cp, .int .i64 l.number, .int .i64 l.flag, .slice an l.next.length cn] 115)).drew := ⟨hbA.os, hbA.tape, hbA.output, hbA.size, hbA.block⟩
  have hLb : ∀ W, Below (w.alloc (.cells #[.int .i64 (l.num : Nat), .int .i64 (l.op : Nat), .slice (some ⟨g, 0, none⟩) 3 cp, .int .i64 l.number, .int .i64 l.flag, .slice an l.next.length cn] 115)).heap.size (w.alloc (.cells #[.int .i64 (l.num : Nat), .int .i64 (l.op : Nat), .slice (some ⟨g, 0, none⟩) 3 cp, .int .i64 l.number, .int .i64 l.flag, .slice an l.next.length cn] 115)) W → W.cell? ⟨w.heap.size, 1, none⟩ = some (.int .i64 (l.op : Nat)) := fun W hW => (hW.cell (p := ⟨w.heap.size, 1, none⟩) (by simp)).trans (by rw [cell_of_heap Array.getElem?_push_size]; rfl)
  have hxg : x ≠ g := fun e => by
    have h1 := h.yat.blk
    rw [e] at h1
    exact own_at_ne HPL.out h1 (by decide) rfl
  have hxw : x ≠ w.heap.size := by have := h.lt; omega
  have hgx : g ≠ x := fun e => hxg e.symm
  have hwx : w.heap.size ≠ x := fun e => hxw e.symm
  have y0 := hLb _ (Below.refl _ _)
  go_region_held3 (fun W => W.cell? ⟨g, 0, none⟩ = some (.int .i64 (p0.1 : Nat)) ∧ W.cell? ⟨g, 2, none⟩ = some (.int .i64 (p1.1 : Nat)) ∧ W.cell? ⟨g, 3, none⟩ = some (.int .i64 (p1.2 : Nat)) ∧ W.cell? ⟨g, 4, none⟩ = some (.int .i64 (p2.1 : Nat)) ∧ W.cell? ⟨g, 5, none⟩ = some (.int .i64 (p2.2 : Nat)) ∧ W.cell? ⟨w.heap.size, 1, none⟩ = some (.int .i64 (l.op : Nat))) (go_keep)
    (first
    | (go_at_call 95; go_fit (KC _); rintro e w3 ⟨rfl, rfl⟩)
    | (go_at_call 58; go_fit (KN2 _ hb1); rintro e w2 ⟨rfl, h2⟩; have hb2 : Below w.heap.size w w2 := hb1.trans (h2.mono hb1.size); have y2 := hLb _ (hB1.trans (h2.mono hB1.size)); obtain ⟨v0, v2, v3, v4, v5⟩ := hb _ hb2; obtain ⟨q1, q2⟩ := (h.below hb2).int x0)
    | (go_at_call 58; go_fit (KN1 _ hb1); rintro e w2 ⟨rfl, h2⟩; have hb2 : Below w.heap.size w w2 := hb1.trans (h2.mono hb1.size); have y2 := hLb _ (hB1.trans (h2.mono hB1.size)); obtain ⟨v0, v2, v3, v4, v5⟩ := hb _ hb2; obtain ⟨q1, q2⟩ := (h.below hb2).int x0)
    | (go_at_call 58; go_fit (KN1 _ hbD); rintro e w1 ⟨rfl, h1⟩; have hb1 : Below w.heap.size w w1 := hbD.trans (h1.mono hbD.size); have hB1 : Below (w.alloc (.cells #[.int .i64 (l.num : Nat), .int .i64 (l.op : Nat), .slice (some ⟨g, 0, none⟩) 3 cp, .int .i64 l.number, .int .i64 l.flag, .slice an l.next.length cn] 115)).heap.size (w.alloc (.cells #[.int .i64 (l.num : Nat), .int .i64 (l.op : Nat), .slice (some ⟨g, 0, none⟩) 3 cp, .int .i64 l.number, .int .i64 l.flag, .slice an l.next.length cn] 115)) w1 := ⟨h1.os, h1.tape, h1.output, h1.size, h1.block⟩; have y1 := hLb _ hB1; obtain ⟨u0, u2, u3, u4, u5⟩ := hb _ hb1)
    | (go_at_call 58; go_fit (KN2 _ hbD); rintro e w1 ⟨rfl, h1⟩; have hb1 : Below w.heap.size w w1 := hbD.trans (h1.mono hbD.size); have hB1 : Below (w.alloc (.cells #[.int .i64 (l.num : Nat), .int .i64 (l.op : Nat), .slice (some ⟨g, 0, none⟩) 3 cp, .int .i64 l.number, .int .i64 l.flag, .slice an l.next.length cn] 115)).heap.size (w.alloc (.cells #[.int .i64 (l.num : Nat), .int .i64 (l.op : Nat), .slice (some ⟨g, 0, none⟩) 3 cp, .int .i64 l.number, .int .i64 l.flag, .slice an l.next.length cn] 115)) w1 := ⟨h1.os, h1.tape, h1.output, h1.size, h1.block⟩; have y1 := hLb _ hB1; obtain ⟨u0, u2, u3, u4, u5⟩ := hb _ hb1))
  all_goals go_wp2_with fail
  all_goals
    go_end0
    obtain ⟨h5, r5⟩ := (h.below hb2).setInt (j := p0.1) x0 (calcI l.op (o.num p1) (o.num p2))
    exact ⟨rfl, h5, (Roam.of hb2).trans r5⟩
end
end Go.Proofs.YtmlgajhhnojdjaaGreatDoor.Own
