/- The project's machine that owns: every statement behind which a run goes on. -/
import Derived.Test.YtmlgajhhnojdjaaGreatDoorKAQ
import Derived.Test.YtmlgajhhnojdjaaGreatDoorKAR
import Derived.Test.YtmlgajhhnojdjaaGreatDoorKAP
import Derived.WalkKit
import Derived.WalkMore
import Derived.ScopeJumps
import Derived.Deep.MidRow
import Derived.Test.YtmlgajhhnojdjaaGreatDoorKAM
import Derived.Test.YtmlgajhhnojdjaaGreatDoorKAO
import Derived.Test.YtmlgajhhnojdjaaGreatDoorKAL
namespace Go.Proofs.YtmlgajhhnojdjaaGreatDoor.Own
open Go Go.RowKit Go.Proofs.YtmlgajhhnojdjaaGreatDoor.Spec Go.Proofs.YtmlgajhhnojdjaaGreatDoor.Aux Go.Proofs.YtmlgajhhnojdjaaGreatDoor.PrjJ Go.Proofs.YtmlgajhhnojdjaaGreatDoor.PrjK Go.Proofs.YtmlgajhhnojdjaaGreatDoor.PrjL Go.Proofs.YtmlgajhhnojdjaaGreatDoor.PrjM Go.Proofs.YtmlgajhhnojdjaaGreatDoor.PrjS Go.Proofs.YtmlgajhhnojdjaaGreatDoor.PrjT Go.Proofs.YtmlgajhhnojdjaaGreatDoor.FlwA Go.Proofs.YtmlgajhhnojdjaaGreatDoor.FlwB Go.Proofs.YtmlgajhhnojdjaaGreatDoor.FlwD Go.Proofs.YtmlgajhhnojdjaaGreatDoor.FlwE

section
variable {x a : Nat} {w w0 w1 : World} {vm vt vi vm1 vt1 : Value} {o : Own}
set_option maxRecDepth 20000 in
set_option maxHeartbeats 1000000 in
theorem do_calc (h : OAt w0 x a w o vi vm vt) {z nl nb : Nat} {l : QLine} {ap an : Option Addr} {cp cn : Nat} (hl : LineAt z w l (.slice ap l.places.length cp) (.slice an l.next.length cn)) (hk : LOk nl nb l) (hnl : nl ≤ 12)
    (hop : l.op = 3 ∨ l.op = 4 ∨ l.op = 5) (hr : ∀ n ∈ o.ints, isI64 n) :
    Calls Tryz.prog 65 #[.pointer (some ⟨x, 0, none⟩), .agg #[.int .i64 (l.num : Nat), .int .i64 (l.op : Nat), .slice ap l.places.length cp, .int .i64 l.number, .int .i64 l.flag, .slice an l.next.length cn]] w fun e w' =>
      e = .returned (.tuple #[]) ∧ OAt w0 x a w' (o.calc l) vi vm vt ∧ Roam x vm vt w vm vt w' := by
  have hbA : Below w.heap.size w (w.alloc (.cells #[.int .i64 (l.num : Nat), .int .i64 (l.op : Nat), .slice ap l.places.length cp, .int .i64 l.number, .int .i64 l.flag, .slice an l.next.length cn] 115)) := (Below.refl _ _).alloc (Nat.le_refl _) _
  have KC := calculate_any (h.below hbA) (hl.below hbA) hk hnl (by omega) (fun e => by omega) hr
  have hC : Hid (({ o with ints := o.ints.set (QLine.pl l 0).1 (calcI l.op (o.num (QLine.pl l 1)) (o.num (QLine.pl l 2))) } : Own) = o.calc l) := rfl
  rw [hC.out] at KC
  clear hl hk hC
  rcases hop with e | e | e
  all_goals
    have b2 : (((l.op : Nat) : Int) == 2) = false := by rw [e]; rfl
    have b3 : (((l.op : Nat) : Int) == 3) = decide (l.op = 3) := by rw [e]; rfl
    have b4 : (((l.op : Nat) : Int) == 4) = decide (l.op = 4) := by rw [e]; rfl
    have b5 : (((l.op : Nat) : Int) == 5) = decide (l.op = 5) := by rw [e]; rfl
    simp only [e] at b3 b4 b5
    simp only [Nat.reduceEqDiff, decide_true, decide_false] at b3 b4 b5
    rw [← e] at b3 b4 b5
    clear e
    go_enter Tryz.func65, Tryz.ntmps65
    go_wp2_with (go_at_call 59; go_fit KC; rintro e w2 ⟨rfl, h2, r2⟩)
    go_end0
    exact ⟨rfl, h2, (Roam.of hbA).trans r2⟩
/-- the operations that go on -/
def goesOn (op : Nat) : Prop := op = 2 ∨ op = 3 ∨ op = 4 ∨ op = 5 ∨ op = 7 ∨ op = 8 ∨ op = 10 ∨ op = 11 ∨ op = 12 ∨ op = 13 ∨ op = 14 ∨ op = 15
theorem do_any (h : OAt w0 x a w o vi vm vt) {z nb t : Nat} {q : QP} {v u : Value} {l : QLine} {ap an : Option Addr} {cp cn : Nat} (hl : LineAt z w l (.slice ap l.places.length cp) (.slice an l.next.length cn)) (hk : LOk q.locals.length nb l) (hnl : q.locals.length ≤ 12)
    (hop : goesOn l.op) (hin : o.In t) (ht : t ≤ 900000) (hneed : o.need l = true) (hq : PQ w0 a q v u) (hhl : l.op = 12 ∨ l.op = 14 → (QP.halvesQ q (plOf l 0)).length = (QP.halvesQ q (plOf l 1)).length) (hpw : Pow w0) (h11 : 11 ≤ w0.heap.size) :
    Calls Tryz.prog 65 #[.pointer (some ⟨x, 0, none⟩), .agg #[.int .i64 (l.num : Nat), .int .i64 (l.op : Nat), .slice ap l.places.length cp, .int .i64 l.number, .int .i64 l.flag, .slice an l.next.length cn]] w fun e w' =>
      e = .returned (.tuple #[]) ∧ ∃ vi' vm' vt', OAt w0 x a w' (o.do1 q l) vi' vm' vt' ∧ Roam x vm vt w vm' vt' w' := by
  have hs := hin.sz (by omega)
  have ht' : t + 100 ≤ 9000000 := by omega
  unfold plOf at hhl
  rcases hop with e | e | e | e | e | e | e | e | e | e | e | e
  · have hd : o.do1 q l = { o with ints := o.ints.set (l.places.getD 0 (0, 0)).1 l.number } := by unfold Own.do1; rw [if_pos e]; rfl
    rw [hd]
    exact (do_set h hl hk hnl e).mono fun e w' ⟨h0, h1, h2⟩ => ⟨h0, vi, vm, vt, h1, h2⟩
  · have hd : o.do1 q l = o.calc l := by unfold Own.do1; rw [if_neg (by omega), if_pos (by omega)]
    rw [hd]
    exact (do_calc h hl hk hnl (by omega) hin.nums).mono fun e w' ⟨h0, h1, h2⟩ => ⟨h0, vi, vm, vt, h1, h2⟩
  · have hd : o.do1 q l = o.calc l := by unfold Own.do1; rw [if_neg (by omega), if_pos (by omega)]
    rw [hd]
    exact (do_calc h hl hk hnl (by omega) hin.nums).mono fun e w' ⟨h0, h1, h2⟩ => ⟨h0, vi, vm, vt, h1, h2⟩
  · have hd : o.do1 q l = o.calc l := by unfold Own.do1; rw [if_neg (by omega), if_pos (by omega)]
    rw [hd]
    exact (do_calc h hl hk hnl (by omega) hin.nums).mono fun e w' ⟨h0, h1, h2⟩ => ⟨h0, vi, vm, vt, h1, h2⟩
  · have hd : o.do1 q l = { o with inp := o.inp.tail, ints := o.ints.set (l.places.getD 0 (0, 0)).1 (o.inp.headD 0) } := by unfold Own.do1; rw [if_neg (by omega), if_neg (by omega), if_pos e]; rfl
    rw [hd]
    exact (do_in h hl hk hnl e).mono fun e w' ⟨h0, ⟨vi', h1⟩, h2⟩ => ⟨h0, vi', vm, vt, h1, h2⟩
  · have hd : o.do1 q l = { o with yd := o.yd.note 111 (o.num (l.places.getD 0 (0, 0))) } := by unfold Own.do1; rw [if_neg (by omega), if_neg (by omega), if_neg (by omega), if_pos e]; rfl
    rw [hd]
    exact (do_out h hl hk hnl e hs ht' hpw h11 hin.nums).mono fun e w' ⟨h0, vm', vt', h1, h2⟩ => ⟨h0, vi, vm', vt', h1, h2⟩
  · have hd : o.do1 q l = { o with yd := o.yd.load (o.box (l.places.getD 1 (0, 0))), ints := o.ints.set (l.places.getD 0 (0, 0)).1 (o.yd.at (o.box (l.places.getD 1 (0, 0)))).1 } := by unfold Own.do1; rw [if_neg (by omega), if_neg (by omega), if_neg (by omega), if_neg (by omega), if_pos e]; rfl
    have hn : 1 ≤ o.box (l.places.getD 1 (0, 0)) := by unfold Own.need at hneed; rw [if_pos e] at hneed; exact of_decide_eq_true hneed
    rw [hd]
    exact (do_load h hl hk hnl e hs ht' hpw h11 hin.bx hn).mono fun e w' ⟨h0, vm', vt', h1, h2⟩ => ⟨h0, vi, vm', vt', h1, h2⟩
  · have hd : o.do1 q l = { o with yd := o.yd.store (o.box (l.places.getD 0 (0, 0))) (o.num (l.places.getD 1 (0, 0))) } := by unfold Own.do1; rw [if_neg (by omega), if_neg (by omega), if_neg (by omega), if_neg (by omega), if_neg (by omega), if_pos e]; rfl
    have hn : 1 ≤ o.box (l.places.getD 0 (0, 0)) := by unfold Own.need at hneed; rw [if_neg (by omega), if_pos e] at hneed; exact of_decide_eq_true hneed
    rw [hd]
    exact (do_store h hl hk hnl e hs ht' hpw h11 hin.bx hn).mono fun e w' ⟨h0, vm', vt', h1, h2⟩ => ⟨h0, vi, vm', vt', h1, h2⟩
  · have hd : o.do1 q l = o.move (QP.halvesQ q (l.places.getD 0 (0, 0))) (QP.halvesQ q (l.places.getD 1 (0, 0))) := by unfold Own.do1; rw [if_neg (by omega), if_neg (by omega), if_neg (by omega), if_neg (by omega), if_neg (by omega), if_neg (by omega), if_pos (by omega)]; rfl
    rw [hd]
    exact (do_move h hl hk hnl e hs ht' hpw h11 hin.bx hq rfl (hhl (.inl e))).mono fun e w' ⟨h0, vm', vt', h1, h2⟩ => ⟨h0, vi, vm', vt', h1, h2⟩
  · have hd : o.do1 q l = o.drop (QP.halvesQ q (l.places.getD 0 (0, 0))) := by unfold Own.do1; rw [if_neg (by omega), if_neg (by omega), if_neg (by omega), if_neg (by omega), if_neg (by omega), if_neg (by omega), if_neg (by omega), if_pos (by omega)]; rfl
    rw [hd]
    exact (do_none h hl hk hnl e hs ht' hpw h11 hin.bx hq rfl).mono fun e w' ⟨h0, vm', vt', h1, h2⟩ => ⟨h0, vi, vm', vt', h1, h2⟩
  · have hd : o.do1 q l = o.move (QP.halvesQ q (l.places.getD 0 (0, 0))) (QP.halvesQ q (l.places.getD 1 (0, 0))) := by unfold Own.do1; rw [if_neg (by omega), if_neg (by omega), if_neg (by omega), if_neg (by omega), if_neg (by omega), if_neg (by omega), if_pos (by omega)]; rfl
    rw [hd]
    exact (do_some h hl hk hnl e hs ht' hpw h11 hin.bx hq rfl (hhl (.inr e))).mono fun e w' ⟨h0, vm', vt', h1, h2⟩ => ⟨h0, vi, vm', vt', h1, h2⟩
  · have hd : o.do1 q l = o.drop (QP.halvesQ q (l.places.getD 0 (0, 0))) := by unfold Own.do1; rw [if_neg (by omega), if_neg (by omega), if_neg (by omega), if_neg (by omega), if_neg (by omega), if_neg (by omega), if_neg (by omega), if_pos (by omega)]; rfl
    rw [hd]
    exact (do_drop h hl hk hnl e hs ht' hpw h11 hin.bx hq rfl).mono fun e w' ⟨h0, vm', vt', h1, h2⟩ => ⟨h0, vi, vm', vt', h1, h2⟩
end
end Go.Proofs.YtmlgajhhnojdjaaGreatDoor.Own
/- The project's machine that owns: all locals dropped at an end. -/
namespace Go.Proofs.YtmlgajhhnojdjaaGreatDoor.Own
open Go Go.RowKit Go.Shelf Go.Proofs.YtmlgajhhnojdjaaGreatDoor.Spec Go.Proofs.YtmlgajhhnojdjaaGreatDoor.Aux Go.Proofs.YtmlgajhhnojdjaaGreatDoor.PrjJ Go.Proofs.YtmlgajhhnojdjaaGreatDoor.PrjK Go.Proofs.YtmlgajhhnojdjaaGreatDoor.PrjL Go.Proofs.YtmlgajhhnojdjaaGreatDoor.PrjM Go.Proofs.YtmlgajhhnojdjaaGreatDoor.PrjR Go.Proofs.YtmlgajhhnojdjaaGreatDoor.PrjS Go.Proofs.YtmlgajhhnojdjaaGreatDoor.PrjT Go.Proofs.YtmlgajhhnojdjaaGreatDoor.FlwA Go.Proofs.YtmlgajhhnojdjaaGreatDoor.FlwB Go.Proofs.YtmlgajhhnojdjaaGreatDoor.FlwD Go.Proofs.YtmlgajhhnojdjaaGreatDoor.FlwE
attribute [local go_sem] Oper.semAt_some

theorem dropL_in (q : QP) {N : Nat} : ∀ (ys : List (Fin N)) {o : Own} {t : Nat}, o.In t → t + 2 * ys.length ≤ 1000000 → (dropL q ys o).In (t + 2 * ys.length)
  | [], _, _, h, _ => h
  | y :: ys, o, t, h, ht => by
    have h2 := halves_len q (y.val, 0)
    rw [List.length_cons] at ht
    rw [List.length_cons, show t + 2 * (ys.length + 1) = (t + 2) + 2 * ys.length by omega]
    exact dropL_in q ys ((h.drop (QP.halvesQ q (y.val, 0)) (by omega)).mono (by omega)) (by omega)
theorem dropL_last (q : QP) {N : Nat} (ys : List (Fin N)) (y : Fin N) (o : Own) : dropL q (ys ++ [y]) o = (dropL q ys o).drop (QP.halvesQ q (y.val, 0)) := by simp [dropL]
section
variable {x a : Nat} {w w0 : World} {vm vt vi : Value} {o : Own}
set_option maxRecDepth 100000 in
set_option maxHeartbeats 4000000 in
theorem dropAll_any (h : OAt w0 x a w o vi vm vt) {q : QP} {v u : Value} {t : Nat} (hq : PQ w0 a q v u) (hl0 : 0 < q.locals.length) (hl12 : q.locals.length ≤ 12) (hin : o.In t) (ht : t ≤ 900000) (hpw : Pow w0) (h11 : 11 ≤ w0.heap.size) :
    Calls Tryz.prog 64 #[.pointer (some ⟨x, 0, none⟩)] w fun e w' => e = .returned (.tuple #[]) ∧ ∃ vm' vt', OAt w0 x a w' (o.dropAll q q.locals.length) vi vm' vt' ∧ Roam x vm vt w vm' vt' w' := by
  refine (callsIn_wide (n := 3)).1 ?_
  obtain ⟨g, cap, rfl, hcap, hg, -⟩ := locs_cell hq.loc 0 hl0
  have hlc : ∀ j, j < q.locals.length → w0.cell? ⟨g, j * 2, none⟩ = some (.string (bs (q.locals.getD j ([], 0)).1)) ∧ w0.cell? ⟨g, j * 2 + 1, none⟩ = some (.int .i64 ((q.locals.getD j ([], 0)).2 : Nat)) := fun j hj => by
    obtain ⟨g', cap', e, -, -, c1, c2⟩ := locs_cell hq.loc j hj
    simp only [Value.slice.injEq, Option.some.injEq, Addr.mk.injEq, and_true, true_and] at e
    obtain ⟨rfl, -⟩ := e
    exact ⟨c1, c2⟩
  have hb1 : Below w.heap.size w (w.alloc (.cells #[.pointer (some ⟨x, 0, none⟩)] 170)) := (Below.refl _ _).alloc (Nat.le_refl _) _
  have H1 := h.below hb1
  have m1 := H1.prog
  have Q1 := hq.below H1.old
  have m2 : (w.alloc (.cells #[.pointer (some ⟨x, 0, none⟩)] 170)).cell? ⟨a, 0, none⟩ = some (.slice (some ⟨g, 0, none⟩) q.locals.length cap) := by rw [cell_of_heap Q1.blk]; rfl
  refine callsIn_of_wp_marks Tryz.func64 rfl trivial ?_ rfl
  simp only [Tryz.ntmps64, List.size_toArray, List.length_cons, List.length_nil, Nat.reduceAdd, Nat.reduceSub, Array.replicate_succ, Array.replicate_zero, List.push_toArray, List.append_toArray, List.nil_append, List.cons_append]
  gi_wp2_with (refine ⟨trivial, ?_⟩; gi_at_call 101; refine (back_in _ _ trivial rfl _ _ _ _).mono ?_; rintro e w' ⟨rfl, rfl⟩)
  have hb2 : Below w.heap.size w ((w.alloc (.cells #[.pointer (some ⟨x, 0, none⟩)] 170)).alloc (.cells #[.slice (some ⟨g, 0, none⟩) q.locals.length cap] 107)) := hb1.alloc hb1.size _
  have H2 := h.below hb2
  have hB1 : ((w.alloc (.cells #[.pointer (some ⟨x, 0, none⟩)] 170)).alloc (.cells #[.slice (some ⟨g, 0, none⟩) q.locals.length cap] 107)).heap[w.heap.size]? = some (.cells #[.pointer (some ⟨x, 0, none⟩)] 170 (0, 0)) := by
    rw [Below.heap_alloc _ _ _ (by simp)]; exact Array.getElem?_push_size
  have hB2 : ((w.alloc (.cells #[.pointer (some ⟨x, 0, none⟩)] 170)).alloc (.cells #[.slice (some ⟨g, 0, none⟩) q.locals.length cap] 107)).heap[w.heap.size + 1]? = some (.cells #[.slice (some ⟨g, 0, none⟩) q.locals.length cap] 107 (0, 0)) := by
    have := World.alloc_heap_new (w.alloc (.cells #[.pointer (some ⟨x, 0, none⟩)] 170)) (.cells #[.slice (some ⟨g, 0, none⟩) q.locals.length cap] 107)
    rwa [World.size_alloc] at this
  have hc2 : ((w.alloc (.cells #[.pointer (some ⟨x, 0, none⟩)] 170)).alloc (.cells #[.slice (some ⟨g, 0, none⟩) q.locals.length cap] 107)).cell? ⟨w.heap.size + 1, 0, none⟩ = some (.slice (some ⟨g, 0, none⟩) q.locals.length cap) := by rw [cell_of_heap hB2]; rfl
  have hs2 : ((w.alloc (.cells #[.pointer (some ⟨x, 0, none⟩)] 170)).alloc (.cells #[.slice (some ⟨g, 0, none⟩) q.locals.length cap] 107)).heap.size = w.heap.size + 2 := by simp
  have hw0 := h.old.size
  obtain ⟨W1, hW1⟩ : ∃ W1, ((w.alloc (.cells #[.pointer (some ⟨x, 0, none⟩)] 170)).alloc (.cells #[.slice (some ⟨g, 0, none⟩) q.locals.length cap] 107)) = W1 := ⟨_, rfl⟩
  rw [hW1] at hb2 H2 hB1 hB2 hc2 hs2 ⊢
  refine wpIn_rangeFunc_ownF rfl (by decide) (gf := 157) (lb := #[.pointer (some ⟨w.heap.size + 1, 0, none⟩)]) rfl trivial (enters_of Tryz.func157 (by kernel_rfl) rfl)
    (back_stops _ _ trivial rfl (by decide) (w.heap.size + 1) w0.heap.size g cap q.locals (by omega) hg hcap W1 (by omega) (by omega) hc2 (fun j hj => ⟨(H2.old.cell (p := ⟨g, j * 2, none⟩) hg).trans (hlc j hj).1, (H2.old.cell (p := ⟨g, j * 2 + 1, none⟩) hg).trans (hlc j hj).2⟩))
    (fun h1 h2 => ⟨h1.1.trans h2.1, h2.2.trans h1.2⟩)
    (fun W l ob ob' hl hk hc _ => ⟨belowK_b (w := W1) (by omega) W l ob ob' hl hk hc (by assumption), by
      have hne : W1.heap.size ≤ l := hl
      simp only [World.cell?]
      rw [World.putObj_heap_other (by show w.heap.size + 1 ≠ l; omega)]⟩)
    (Below.refl _ _) (fun _ => rfl)
    (fun pre W => ∃ vm' vt', OAt w0 x a W (dropL q pre o) vi vm' vt' ∧ Roam x vm vt W1 vm' vt' W ∧ W.heap[w.heap.size]? = some (.cells #[.pointer (some ⟨x, 0, none⟩)] 170 (0, 0)) ∧ W.heap[w.heap.size + 1]? = some (.cells #[.slice (some ⟨g, 0, none⟩) q.locals.length cap] 107 (0, 0)))
    (fun _ _ _ => False)
    (fun pre W W' row hs hgr hr => by
      obtain ⟨vm', vt', i1, i2, i3, i4⟩ := hs
      have hr2 : ∀ r, row = some r → ∃ ob : Obj, W.heap[r]? = some ob ∧ ob.isCells = false := fun r e => (hr r e).2
      refine ⟨vm', vt', i1.abide hgr (fun r e => ⟨by have := (hr r e).1; omega, (hr r e).2⟩), i2.abide hgr (fun r e => (hr r e).1), ?_, ?_⟩
      · rw [hgr.block _ (lt_of_heap i3) (cells_ne i3 hr2)]; exact i3
      · rw [hgr.block _ (lt_of_heap i4) (cells_ne i4 hr2)]; exact i4)
    (fun _ _ _ _ _ hs _ _ => hs)
    ⟨vm, vt, H2, Roam.refl _ _ _ _, hB1, hB2⟩
    (fun y => { tmps := #[.pointer (some ⟨x, 0, none⟩), .pointer (some ⟨w.heap.size, 0, none⟩), .int .i64 (y.val : Int), .pointer (some ⟨x, 0, none⟩), .pointer (some ⟨x, 0, none⟩), .pointer (some ⟨x, 3, none⟩), .pointer (some ⟨a, 0, none⟩), .pointer (some ⟨a, 0, none⟩), .pointer (some ⟨a, 0, none⟩), .slice (some ⟨g, 0, none⟩) q.locals.length cap, .func (.func 157) #[] #[.pointer (some ⟨w.heap.size + 1, 0, none⟩)], .int .i64 (y.val : Int), locV q.locals y.val, undef, undef, undef, undef, undef, undef, undef, undef, undef], defers := [] }) ?assign ?body ?done ?stop
  case assign =>
    intro l y W K hK
    unfold encL
    gi_wp2
    exact hK
  case body =>
    rintro l pre y W ⟨vm', vt', i1, i2, i3, i4⟩ hpl
    have hd : 1 ≤ 3 - 1 - 1 := by omega
    have hmx : Tryz.prog.follows .mixedOrders = true := by kernel_rfl
    have c1 : W.cell? ⟨w.heap.size, 0, none⟩ = some (.pointer (some ⟨x, 0, none⟩)) := by rw [cell_of_heap i3]; rfl
    have c3 := i1.prog
    have i1d := i1.drew
    have QW := hq.below i1d.old
    have hyl : y.val < q.locals.length := y.isLt
    have KH : Calls Tryz.prog 102 #[.pointer (some ⟨a, 0, none⟩), .agg #[.int .i64 (y.val : Int), .int .i64 0]] W.drew _ := halves_any q (y.val, 0) _ u a W.drew QW.blk QW.loc hyl
    have hdi := dropL_in q pre hin (by omega)
    have hin2 := halves_in (q := q) (x := (y.val, 0)) (n := 12) (by show y.val < 12; omega)
    have hhl := halves_len q (y.val, 0)
    have KD := fun (V : World) (hV : OAt w0 x a V (dropL q pre o) vi vm' vt') (zz gg cc : Nat) (hP : PlacesAt zz V (.slice (some ⟨gg, 0, none⟩) (QP.halvesQ q (y.val, 0)).length cc) (QP.halvesQ q (y.val, 0))) => drop_any hV hP hin2 (by omega) hdi.bx (hdi.sz (by omega)) (by omega) hpw h11
    have hds := dropL_last q pre y o
    gi_wp2
    gi_region_with_o (first
      | (refine ⟨trivial, ?_⟩; gi_at_call 102; refine (CallsIn.inRound l (callsIn_wide.2 KH)).mono ?_; rintro e w2 ⟨g2, c2, rfl, hP2, h2⟩; have hO2 := i1d.below h2; have d1 : w2.cell? ⟨w.heap.size, 0, none⟩ = some (.pointer (some ⟨x, 0, none⟩)) := (h2.cell (p := ⟨w.heap.size, 0, none⟩) (lt_of_heap i3)).trans c1)
      | (refine ⟨trivial, ?_⟩; gi_at_call 60; refine (CallsIn.inRound l (callsIn_wide.2 (KD _ hO2 _ g2 c2 hP2))).mono ?_; rintro e w3 ⟨rfl, vm3, vt3, h3, r3⟩))
    all_goals gi_wp2
    all_goals
      have r : Roam x vm' vt' W vm3 vt3 w3 := ((Roam.of (drewed W)).trans (Roam.of h2)).trans r3
      have j3 := i1.other' r i3 (by decide) (by decide) (by decide)
      have j4 := i1.other' r i4 (by decide) (by decide) (by decide)
      exact ⟨r.keeps i1, ⟨r.below i1.yat (Nat.le_refl _) i1.old.size, by rw [cell_of_heap j4, cell_of_heap i4]⟩, vm3, vt3, by rw [hds]; exact h3, i2.trans r, j3, j4⟩
  case done =>
    rintro D ys W hD rfl ⟨vm', vt', i1, i2, i3, i4⟩ hK
    have hfin := dropL_all q (N := q.locals.length) o q.locals.length (Nat.le_refl _)
    rw [Nat.sub_self, Own.dropAll] at hfin
    rw [hfin] at i1
    gi_wp2
    refine ⟨by simp, .inl ⟨_, _, rfl, run_takeDeferred hK, ?_⟩⟩
    have hab : ∀ r, some D = some r → W1.heap.size ≤ r ∧ ∃ ob : Obj, W.heap[r]? = some ob ∧ ob.isCells = false := fun r e => by cases e; exact ⟨hD, _, hK, rfl⟩
    exact ⟨_, results_none rfl _ _ _, rfl, vm', vt', i1.abide (grownBy_putObj' W D _) (fun r e => ⟨by have := (hab r e).1; omega, (hab r e).2⟩), ((Roam.of hb2).trans i2).abide (grownBy_putObj' W D _) (fun r e => by have := (hab r e).1; omega)⟩
  case stop =>
    rintro D c pre W _ _ hx _
    exact hx.elim
end
end Go.Proofs.YtmlgajhhnojdjaaGreatDoor.Own
/- Plain laws for walks, over whatever program: a scope that is left by gotos forward: each goto goes on at its label. -/
namespace Go.Proofs.YtmlgajhhnojdjaaGreatDoor.Aux
open Go

/-- As Q; by a goto: on from its label, with no goto more. -/
def goTo (P : Program) (c : Code) (Q : Exit → Act → World → Prop) : Exit → Act → World → Prop
  | .goto l, a, w => ∃ r, findLabel c l = some r ∧ r.wp P (Exit.noGoto Q) a w
  | e, a, w => Q e a w
section
variable {P : Program} {a : Act} {w : World} {Q : Exit → Act → World → Prop} {c : Code}
theorem wp_scope_go (h : c.wp P (goTo P c Q) a w) : (Code.scope c).wp P Q a w := by
  intro b k cs
  obtain ⟨e, a₁, w₁, hq, harr⟩ := h b (.inScope c :: k) cs
  cases e with
  | normal => exact ⟨.normal, a₁, w₁, hq, .head step_scope (Steps.trans harr (.one step_inScope))⟩
  | exit id => exact ⟨.exit id, a₁, w₁, hq, fun k' hk => .head step_scope (harr k' (by simp [exitTo, hk]))⟩
  | goto l =>
    obtain ⟨r, hf, hr⟩ := hq
    have hg : gotoIn l (.inScope c :: k) = some (.code r :: .inScope c :: k) := by simp [gotoIn, hf]
    obtain ⟨e₂, a₂, w₂, hq₂, harr₂⟩ := hr b (.inScope c :: k) cs
    have h1 := harr _ hg
    cases e₂ with
    | normal => exact ⟨.normal, a₂, w₂, hq₂, .head step_scope (Steps.trans h1 (Steps.trans harr₂ (.one step_inScope)))⟩
    | exit id => exact ⟨.exit id, a₂, w₂, hq₂, fun k' hk => .head step_scope (Steps.trans h1 (harr₂ k' (by simp [exitTo, hk])))⟩
    | goto l' => exact hq₂.elim
    | ret => exact ⟨_, a₂, w₂, hq₂, .of_steps (.head step_scope h1) harr₂⟩
    | panic ch => exact ⟨_, a₂, w₂, hq₂, .of_steps (.head step_scope h1) harr₂⟩
    | outgrown => exact ⟨_, a₂, w₂, hq₂, .of_steps (.head step_scope h1) harr₂⟩
  | ret => exact ⟨_, a₁, w₁, hq, .of_steps (.one step_scope) harr⟩
  | panic ch => exact ⟨_, a₁, w₁, hq, .of_steps (.one step_scope) harr⟩
  | outgrown => exact ⟨_, a₁, w₁, hq, .of_steps (.one step_scope) harr⟩
/-- As Q; by a goto to l: J l. -/
def jumpTo (J : Nat → Act → World → Prop) (Q : Exit → Act → World → Prop) : Exit → Act → World → Prop
  | .goto l, a, w => J l a w
  | e, a, w => Q e a w
theorem jumpTo_normal {J : Nat → Act → World → Prop} : jumpTo J Q .normal a w = Q .normal a w := rfl
theorem jumpTo_exit {J : Nat → Act → World → Prop} (id : Nat) : jumpTo J Q (.exit id) a w = Q (.exit id) a w := rfl
theorem jumpTo_ret {J : Nat → Act → World → Prop} : jumpTo J Q .ret a w = Q .ret a w := rfl
theorem jumpTo_panic {J : Nat → Act → World → Prop} (ch : List PanicEntry) : jumpTo J Q (.panic ch) a w = Q (.panic ch) a w := rfl
theorem jumpTo_goto {J : Nat → Act → World → Prop} (l : Nat) : jumpTo J Q (.goto l) a w = J l a w := rfl
/-- the labels' code under one name: what is asked at a goto is not written out -/
theorem wp_scope_to (h : ∀ J : Nat → Act → World → Prop, (∀ l r a w, findLabel c l = some r → r.wp P (Exit.noGoto Q) a w → J l a w) → c.wp P (jumpTo J Q) a w) : (Code.scope c).wp P Q a w := by
  refine wp_scope_go ?_
  have := h (fun l a w => ∃ r, findLabel c l = some r ∧ r.wp P (Exit.noGoto Q) a w) (fun l r a w h1 h2 => ⟨r, h1, h2⟩)
  refine Code.wp_mono (fun e a w he => ?_) this
  cases e <;> exact he
end
end Go.Proofs.YtmlgajhhnojdjaaGreatDoor.Aux
/- The project's machine that owns, made: as rules for a walk, its cells behind a name. -/
namespace Go.Proofs.YtmlgajhhnojdjaaGreatDoor.Own
open Go Go.RowKit Go.Proofs.YtmlgajhhnojdjaaGreatDoor.Spec Go.Proofs.YtmlgajhhnojdjaaGreatDoor.Aux Go.Proofs.YtmlgajhhnojdjaaGreatDoor.PrjJ Go.Proofs.YtmlgajhhnojdjaaGreatDoor.PrjK Go.Proofs.YtmlgajhhnojdjaaGreatDoor.PrjL Go.Proofs.YtmlgajhhnojdjaaGreatDoor.PrjM Go.Proofs.YtmlgajhhnojdjaaGreatDoor.FlwA Go.Proofs.YtmlgajhhnojdjaaGreatDoor.FlwB

/-- a machine's cells as they are made -/
def ownCells (u v : Value) : List Value := [.slice none 0 0, .int .i64 0, .slice none 0 0, u, v] ++ List.replicate 36 (.int .i64 0)
def isPtr (v : Value) : Prop := ∃ p, v = .pointer p
def isSl (v : Value) : Prop := ∃ ad l c, v = .slice ad l c
@[simp] theorem isPtr_ptr (p : Option Addr) : isPtr (.pointer p) = True := eq_true ⟨p, rfl⟩
@[simp] theorem isSl_sl (ad : Option Addr) (l c : Nat) : isSl (.slice ad l c) = True := eq_true ⟨ad, l, c, rfl⟩
theorem run_build_own (p ad : Option Addr) (l c : Nat) (w : World) : (Instr.build 104 #[(1, .pointer p), (2, .slice ad l c)]).run Tryz.prog w = .ok (.agg (ownCells (.pointer p) (.slice ad l c)).toArray) w := by
  kernel_rfl
theorem run_alloc_own (w : World) : (Instr.alloc 104 true (.tuple #[])).run Tryz.prog w = .ok (.pointer (some ⟨w.heap.size, 0, none⟩)) (w.alloc (.cells (ownCells (.pointer none) (.slice none 0 0)).toArray 104)) := by
  kernel_rfl
theorem own_len (u v : Value) : (ownCells u v).length = 41 := rfl
theorem info_owner : (Tryz.prog.info? 104).map (·.size) = some 41 := by kernel_rfl
def isOwn (v : Value) : Prop := ∃ p ad l c, v = .agg (ownCells (.pointer p) (.slice ad l c)).toArray
@[simp] theorem isOwn_own (p ad : Option Addr) (l c : Nat) : isOwn (.agg (ownCells (.pointer p) (.slice ad l c)).toArray) = True := eq_true ⟨p, ad, l, c, rfl⟩
def aggV : Value → List Value
  | .agg xs => xs.toList
  | _ => []
@[simp] theorem aggV_own (u v : Value) : aggV (.agg (ownCells u v).toArray) = ownCells u v := rfl
def RoomOwn (w : World) (v : Value) : Prop := ∃ b, v = .pointer (some ⟨b, 0, none⟩) ∧ w.there b 0 41
def blkOf : Value → Nat
  | .pointer (some ad) => ad.block
  | _ => 0
@[simp] theorem blkOf_ptr (ad : Addr) : blkOf (.pointer (some ad)) = ad.block := rfl
theorem own_one (p ad : Option Addr) (l c : Nat) : ∀ u ∈ ownCells (.pointer p) (.slice ad l c), u.oneCell' = true := by
  intro u hu
  simp only [ownCells, List.cons_append, List.nil_append, List.mem_cons, List.mem_replicate] at hu
  rcases hu with rfl | rfl | rfl | rfl | rfl | ⟨-, rfl⟩ <;> rfl
section
variable (d : Option Tmp) (x y : Operand) (t : TypeId) (ps : String) (af : Array Edge) (g : Option (Nat × Bool)) (a : Act) (w : World) (K : Act → World → Prop) (Q : Exit → Act → World → Prop)
theorem wp_build_own (h : isPtr (a.eval x)) (h' : isSl (a.eval y)) : Oper.wp Tryz.prog { dst := d, op := Op.build 104 #[(1, x), (2, y)], type := t, pos := ps, after := af, guard := g } a w K Q = K (a.put d (.agg (ownCells (a.eval x) (a.eval y)).toArray)) w := by
  obtain ⟨p, hp⟩ := h
  obtain ⟨ad, l, c, hs⟩ := h'
  have := run_build_own p ad l c w
  unfold Oper.wp execOp
  simp only [List.map_toArray, List.map_cons, List.map_nil, hp, hs, Sem.run_bind, Sem.run_pure, Result.andThen_ok, this]
  rfl
theorem wp_alloc_own : Oper.wp Tryz.prog { dst := d, op := Op.alloc 104, type := t, pos := ps, after := af, guard := g } a w K Q = K (a.put d (.pointer (some ⟨w.heap.size, 0, none⟩))) (w.alloc (.cells (ownCells (.pointer none) (.slice none 0 0)).toArray 104)) := by
  have := run_alloc_own w
  unfold Oper.wp execOp
  simp only [Sem.run_bind, Sem.run_pure, Result.andThen_ok, this]
  rfl
theorem wp_store_own (h : RoomOwn w (a.eval x)) (h' : isOwn (a.eval y)) : Oper.wp Tryz.prog { dst := d, op := Op.store 104 x y, type := t, pos := ps, after := af, guard := g } a w K Q = K (a.put d undef) (w.setCells (blkOf (a.eval x)) 0 (aggV (a.eval y))) := by
  obtain ⟨b, hb, hh⟩ := h
  obtain ⟨p, ad, l, c, hy⟩ := h'
  have := run_storeAt_mid (P := Tryz.prog) w b 0 104 (ownCells (.pointer p) (.slice ad l c)).toArray hh info_owner (all_oneCell_toArray (own_one p ad l c))
  unfold Oper.wp execOp
  simp only [hb, hy, Sem.run_bind, Sem.run_pure, Result.andThen_ok, this]
  rfl
/-- a machine as it is made -/
theorem roomOwn_new (w : World) (u v : Value) : RoomOwn (w.alloc (.cells (ownCells u v).toArray 104)) (.pointer (some ⟨w.heap.size, 0, none⟩)) := by
  refine ⟨_, rfl, fun j hj => ?_⟩
  have h : (w.alloc (.cells (ownCells u v).toArray 104)).heap[w.heap.size]? = some (.cells (ownCells u v).toArray 104 (0, 0)) := Array.getElem?_push_size
  refine ⟨?_, frozen_of_heap h _⟩
  rw [cell_of_heap h, Nat.zero_add]
  simp only [List.getElem?_toArray]
  rw [List.getElem?_eq_getElem (by rw [own_len]; exact hj)]; rfl
end
theorem own_new (w : World) (u v u' v' : Value) : ((w.alloc (.cells (ownCells u v).toArray 104)).setCells w.heap.size 0 (ownCells u' v')).heap[w.heap.size]? = some (.cells (ownCells u' v').toArray 104 (0, 0)) ∧ Below w.heap.size w ((w.alloc (.cells (ownCells u v).toArray 104)).setCells w.heap.size 0 (ownCells u' v')) := by
  have h : (w.alloc (.cells (ownCells u v).toArray 104)).heap[w.heap.size]? = some (.cells (ownCells u v).toArray 104 (0, 0)) := Array.getElem?_push_size
  refine ⟨?_, below_setCells ((Below.refl _ _).alloc (Nat.le_refl _) _) (Nat.le_refl _) _ _⟩
  obtain ⟨cs', h1, h2, h3⟩ := heap_setCells w.heap.size (ownCells u' v') 0 _ _ _ _ h
  have e : cs' = (ownCells u' v').toArray := by
    apply Array.ext_getElem?
    intro j
    rw [h3]
    by_cases hj : j < 41
    · rw [if_pos (by simp [own_len]; exact hj)]; simp
    · rw [if_neg (by simp [own_len]; omega), Array.getElem?_eq_none (by simp [own_len]; omega), Array.getElem?_eq_none (by simp [own_len]; omega)]
  rw [h1, e]
end Go.Proofs.YtmlgajhhnojdjaaGreatDoor.Own
/- The project's bare machine: its cells, tags and flags as plain lists; how it lies in memory. -/
namespace Go.Proofs.YtmlgajhhnojdjaaGreatDoor.Ex
open Go Go.RowKit Go.Proofs.YtmlgajhhnojdjaaGreatDoor.Spec Go.Proofs.YtmlgajhhnojdjaaGreatDoor.Aux Go.Proofs.YtmlgajhhnojdjaaGreatDoor.PrjJ Go.Proofs.YtmlgajhhnojdjaaGreatDoor.PrjK Go.Proofs.YtmlgajhhnojdjaaGreatDoor.PrjL Go.Proofs.YtmlgajhhnojdjaaGreatDoor.PrjM Go.Proofs.YtmlgajhhnojdjaaGreatDoor.FlwA Go.Proofs.YtmlgajhhnojdjaaGreatDoor.FlwE Go.Proofs.YtmlgajhhnojdjaaGreatDoor.Own

/-- the bare machine: 24 cells and, behind them, 12 tags: full or not, and the number -/
structure Br where
  yd : Yd
  inp : List Int
  cs : List (Bool × Int)
  flags : List Bool
def cellVal (x : Bool × Int) : List Value := [.bool x.1, .int .i64 x.2]
def cellVals (l : List (Bool × Int)) : List Value := l.flatMap cellVal
def flagVals (l : List Bool) : List Value := l.map Value.bool
def bareRest (a : Nat) (vi : Value) (b : Br) : List Value := .pointer (some ⟨a, 0, none⟩) :: vi :: (cellVals b.cs ++ flagVals b.flags)
/-- is it an opt itself? -/
def isTag (q : QP) (p : Nat × Nat) : Bool := q.kindV p == 3
/-- the number of a place's cell -/
def cellOf (q : QP) (p : Nat × Nat) : Nat := if isTag q p then 24 + p.1 else slotQ p
def Br.cell (b : Br) (q : QP) (p : Nat × Nat) : Bool × Int := b.cs.getD (cellOf q p) (false, 0)
def Br.val (b : Br) (q : QP) (p : Nat × Nat) : Int := (b.cell q p).2
def Br.write (b : Br) (q : QP) (p : Nat × Nat) (v : Int) : Br := { b with cs := b.cs.set (cellOf q p) (true, v) }
structure BAt (w0 : World) (x a : Nat) (w : World) (b : Br) (vi vm vt : Value) : Prop where
  yat : YAt w0.heap.size x 136 (bareRest a vi b) w b.yd vm vt
  old : Below w0.heap.size w0 w
  cs : b.cs.length = 36
  flags : b.flags.length = 50
  feed : FeedAt w0 vi b.inp
theorem cell_len (x : Bool × Int) : (cellVal x).length = 2 := rfl
theorem vals_len (l : List (Bool × Int)) : (cellVals l).length = 2 * l.length := by
  induction l with
  | nil => rfl
  | cons x l ih => rw [cellVals, List.flatMap_cons, List.length_append, List.length_cons]; rw [cellVals] at ih; rw [ih, cell_len]; omega
theorem vals_get : ∀ (l : List (Bool × Int)) (j : Nat), j < l.length → (cellVals l)[j * 2]? = some (.bool (l.getD j (false, 0)).1) ∧ (cellVals l)[j * 2 + 1]? = some (.int .i64 (l.getD j (false, 0)).2)
  | [], _, h => by simp at h
  | x :: l, 0, _ => ⟨rfl, rfl⟩
  | x :: l, j + 1, h => by
    have ih := vals_get l j (by simpa using h)
    have e : cellVals (x :: l) = .bool x.1 :: .int .i64 x.2 :: cellVals l := rfl
    rw [e, show (j + 1) * 2 = j * 2 + 1 + 1 by omega, show j * 2 + 1 + 1 + 1 = (j * 2 + 1) + 1 + 1 by omega]
    simp only [List.getElem?_cons_succ, List.getD_cons_succ]
    exact ih
theorem vals_set : ∀ (l : List (Bool × Int)) (j : Nat) (x : Bool × Int), ((cellVals l).set (j * 2) (.bool x.1)).set (j * 2 + 1) (.int .i64 x.2) = cellVals (l.set j x)
  | [], j, x => rfl
  | y :: l, 0, x => rfl
  | y :: l, j + 1, x => by
    have ih := vals_set l j x
    have e : ∀ z l, cellVals (z :: l) = .bool z.1 :: .int .i64 z.2 :: cellVals l := fun _ _ => rfl
    rw [e, List.set_cons_succ, e, show (j + 1) * 2 = j * 2 + 1 + 1 by omega, show j * 2 + 1 + 1 + 1 = (j * 2 + 1) + 1 + 1 by omega]
    simp only [List.set_cons_succ]
    rw [ih]
theorem cellOf_lt {q : QP} {p : Nat × Nat} (hp : p.1 < 12) : cellOf q p < 36 := by
  unfold cellOf slotQ; split
  · omega
  · split <;> omega
section
variable {x a : Nat} {w w0 w1 : World} {vm vt vi vm1 vt1 : Value} {b : Br}
theorem BAt.lt (h : BAt w0 x a w b vi vm vt) : x < w.heap.size := h.yat.lt
theorem BAt.below (h : BAt w0 x a w b vi vm vt) (hb : Below w.heap.size w w1) : BAt w0 x a w1 b vi vm vt :=
  ⟨h.yat.below hb, h.old.trans (hb.mono h.old.size), h.cs, h.flags, h.feed⟩
theorem rest_cell (a : Nat) (vi : Value) {b : Br} {j : Nat} (hj : j < b.cs.length) : (bareRest a vi b)[2 + j * 2]? = some (.bool (b.cs.getD j (false, 0)).1) ∧ (bareRest a vi b)[2 + j * 2 + 1]? = some (.int .i64 (b.cs.getD j (false, 0)).2) := by
  have h := vals_get b.cs j hj
  have hl := vals_len b.cs
  have e : ∀ k, (bareRest a vi b)[2 + k]? = (cellVals b.cs ++ flagVals b.flags)[k]? := fun k => by rw [Nat.add_comm]; rfl
  refine ⟨?_, ?_⟩
  · rw [e, List.getElem?_append_left (by omega)]; exact h.1
  · rw [Nat.add_assoc, e, List.getElem?_append_left (by omega)]; exact h.2
theorem rest_setCell (a : Nat) (vi : Value) (b : Br) {j : Nat} (hj : j < b.cs.length) (v : Bool × Int) : ((bareRest a vi b).set (2 + j * 2) (.bool v.1)).set (2 + j * 2 + 1) (.int .i64 v.2) = bareRest a vi { b with cs := b.cs.set j v } := by
  have hl := vals_len b.cs
  have e : ∀ (r : List Value) k u, (Value.pointer (some ⟨a, 0, none⟩) :: vi :: r).set (2 + k) u = .pointer (some ⟨a, 0, none⟩) :: vi :: r.set k u := fun r k u => by rw [Nat.add_comm]; rfl
  unfold bareRest
  rw [e, Nat.add_assoc, e, List.set_append_left _ _ (by omega), List.set_append_left _ _ (by rw [List.length_set]; omega), vals_set]
theorem rest_flag (a : Nat) (vi : Value) {b : Br} (hc : b.cs.length = 36) {j : Nat} (hj : j < b.flags.length) : (bareRest a vi b)[74 + j]? = some (.bool (b.flags.getD j false)) := by
  have hl := vals_len b.cs
  have e : (bareRest a vi b)[74 + j]? = (cellVals b.cs ++ flagVals b.flags)[72 + j]? := by rw [show 74 + j = (72 + j) + 2 by omega]; rfl
  rw [e, List.getElem?_append_right (by omega), show 72 + j - (cellVals b.cs).length = j by omega, flagVals, List.getElem?_map, List.getElem?_eq_getElem hj, List.getD_eq_getElem?_getD, List.getElem?_eq_getElem hj]; rfl
theorem rest_setFlag (a : Nat) (vi : Value) (b : Br) (hc : b.cs.length = 36) (j : Nat) (v : Bool) : (bareRest a vi b).set (74 + j) (.bool v) = bareRest a vi { b with flags := b.flags.set j v } := by
  have hl := vals_len b.cs
  unfold bareRest
  rw [show 74 + j = (72 + j) + 2 by omega]
  simp only [List.set_cons_succ]
  rw [List.set_append_right _ _ (by omega), show 72 + j - (cellVals b.cs).length = j by omega]
  simp [flagVals, List.map_set]
theorem BAt.cellAt (h : BAt w0 x a w b vi vm vt) {j : Nat} (hj : j < 36) : w.cell? ⟨x, 5 + j * 2, none⟩ = some (.bool (b.cs.getD j (false, 0)).1) ∧ w.cell? ⟨x, 5 + j * 2 + 1, none⟩ = some (.int .i64 (b.cs.getD j (false, 0)).2) ∧ w.frozen? ⟨x, 5 + j * 2, none⟩ = false ∧ w.frozen? ⟨x, 5 + j * 2 + 1, none⟩ = false := by
  obtain ⟨r1, r2⟩ := rest_cell a vi (b := b) (j := j) (by rw [h.cs]; exact hj)
  have h1 := h.yat.more (2 + j * 2)
  have h2 := h.yat.more (2 + j * 2 + 1)
  rw [r1, show 3 + (2 + j * 2) = 5 + j * 2 by omega] at h1
  rw [r2, show 3 + (2 + j * 2 + 1) = 5 + j * 2 + 1 by omega] at h2
  exact ⟨h1.1, h2.1, h1.2, h2.2⟩
theorem BAt.flagAt (h : BAt w0 x a w b vi vm vt) {j : Nat} (hj : j < 50) : w.cell? ⟨x, 77 + j, none⟩ = some (.bool (b.flags.getD j false)) ∧ w.frozen? ⟨x, 77 + j, none⟩ = false := by
  have h1 := h.yat.more (74 + j)
  rw [rest_flag a vi h.cs (by rw [h.flags]; exact hj), show 3 + (74 + j) = 77 + j by omega] at h1
  exact h1
theorem BAt.setCell (h : BAt w0 x a w b vi vm vt) {j : Nat} (hj : j < 36) (f : Bool) (v : Int) : BAt w0 x a ((w.setCell ⟨x, 5 + j * 2, none⟩ (.bool f)).setCell ⟨x, 5 + j * 2 + 1, none⟩ (.int .i64 v)) { b with cs := b.cs.set j (f, v) } vi vm vt ∧
    Roam x vm vt w vm vt ((w.setCell ⟨x, 5 + j * 2, none⟩ (.bool f)).setCell ⟨x, 5 + j * 2 + 1, none⟩ (.int .i64 v)) := by
  obtain ⟨h1, h2⟩ := h.yat.setRest (2 + j * 2) (.bool f)
  obtain ⟨h3, h4⟩ := h1.setRest (2 + j * 2 + 1) (.int .i64 v)
  rw [rest_setCell a vi b (by rw [h.cs]; exact hj) (f, v)] at h3
  rw [show 3 + (2 + j * 2) = 5 + j * 2 by omega, show 3 + (2 + j * 2 + 1) = 5 + j * 2 + 1 by omega] at h3 h4
  rw [show 3 + (2 + j * 2) = 5 + j * 2 by omega] at h2
  have h5 := h2.trans h4
  exact ⟨⟨h3, h.old.trans (h5.below h.yat (Nat.le_refl _) h.old.size), by simpa using h.cs, h.flags, h.feed⟩, h5⟩
theorem BAt.setFlag (h : BAt w0 x a w b vi vm vt) (j : Nat) (v : Bool) : BAt w0 x a (w.setCell ⟨x, 77 + j, none⟩ (.bool v)) { b with flags := b.flags.set j v } vi vm vt ∧ Roam x vm vt w vm vt (w.setCell ⟨x, 77 + j, none⟩ (.bool v)) := by
  obtain ⟨h1, h2⟩ := h.yat.setRest (74 + j) (.bool v)
  rw [rest_setFlag a vi b h.cs, show 3 + (74 + j) = 77 + j by omega] at h1
  rw [show 3 + (74 + j) = 77 + j by omega] at h2
  exact ⟨⟨h1, h.old.trans (h2.below h.yat (Nat.le_refl _) h.old.size), h.cs, by simpa using h.flags, h.feed⟩, h2⟩
/-- a yard's function has run -/
theorem BAt.yard (h : BAt w0 x a w b vi vm vt) {y' : Yd} (h1 : YAt w0.heap.size x 136 (bareRest a vi b) w1 y' vm1 vt1) (h2 : Roam x vm vt w vm1 vt1 w1) : BAt w0 x a w1 { b with yd := y' } vi vm1 vt1 :=
  ⟨h1, h.old.trans (h2.below h.yat (Nat.le_refl _) h.old.size), h.cs, h.flags, h.feed⟩
theorem BAt.prog (h : BAt w0 x a w b vi vm vt) : w.cell? ⟨x, 3, none⟩ = some (.pointer (some ⟨a, 0, none⟩)) := by
  have := (h.yat.more 0).1
  simpa [bareRest] using this
end
end Go.Proofs.YtmlgajhhnojdjaaGreatDoor.Ex
