/- The library's iterator over a row, from its end (slices.Backward over the program's locals): its contract. -/
import Derived.RangeFuncNested
import Derived.RangeFuncBound
import Derived.RangeFuncCalls
import Derived.RangeFuncLeaves
import Derived.Shelf.Abstract
import Derived.Shelf.RegionOpen
import Derived.WalkKit
import Derived.OwnWalkIn
import Derived.TacticsInMore
import Derived.LoopNIn
import Derived.LoopIn
import Derived.Test.YtmlgajhhnojdjaaGreatDoorFAT
import Derived.Test.YtmlgajhhnojdjaaGreatDoorFAP
import Derived.Test.YtmlgajhhnojdjaaGreatDoorFAR
import Derived.Deep.DeepFit
import Derived.Deep.RegionHeld3
namespace Go.Proofs.YtmlgajhhnojdjaaGreatDoor.Own
open Go Go.RowKit Go.Shelf Go.Proofs.YtmlgajhhnojdjaaGreatDoor.Spec Go.Proofs.YtmlgajhhnojdjaaGreatDoor.Aux Go.Proofs.YtmlgajhhnojdjaaGreatDoor.PrjJ Go.Proofs.YtmlgajhhnojdjaaGreatDoor.PrjM Go.Proofs.YtmlgajhhnojdjaaGreatDoor.FlwA
attribute [local go_sem] Oper.semAt_some

/-- the numbers below N, the greatest first: the first k of them -/
def downL (N k : Nat) : List (Fin N) := (List.range k).filterMap fun j => if h : N - 1 - j < N then some ⟨N - 1 - j, h⟩ else none
theorem down_succ {N k : Nat} (hk : k < N) : downL N (k + 1) = downL N k ++ [⟨N - 1 - k, by omega⟩] := by
  unfold downL
  rw [List.range_succ, List.filterMap_append]
  congr 1
  simp only [List.filterMap_cons, List.filterMap_nil]
  rw [dif_pos (by omega)]
theorem down_len {N : Nat} : ∀ k, k ≤ N → (downL N k).length = k
  | 0, _ => rfl
  | k + 1, hk => by rw [down_succ (by omega), List.length_append, down_len k (by omega)]; rfl
def dropL (q : QP) {N : Nat} (ys : List (Fin N)) (o : Own) : Own := ys.foldl (fun o i => o.drop (QP.halvesQ q (i.val, 0))) o
theorem dropL_all (q : QP) {N : Nat} (o : Own) : ∀ k, k ≤ N → Own.dropAll q (N - k) (dropL q (downL N k) o) = Own.dropAll q N o
  | 0, _ => rfl
  | k + 1, hk => by
    rw [← dropL_all q o k (by omega), down_succ (by omega)]
    unfold dropL
    rw [List.foldl_append, show N - k = (N - (k + 1)) + 1 by omega, Own.dropAll]
    simp only [List.foldl_cons, List.foldl_nil]
    rw [show N - 1 - k = N - (k + 1) by omega]
/-- a local's value -/
def locV (ls : List (B × Nat)) (j : Nat) : Value := .agg #[.string (bs (ls.getD j ([], 0)).1), .int .i64 ((ls.getD j ([], 0)).2 : Nat)]
def encL (ls : List (B × Nat)) (x : Fin ls.length) : Array Value := #[.int .i64 (x.val : Int), locV ls x.val]
/-- what a round keeps: what lay below n₀, and the iterator's own box -/
def KeepB (n₀ Bs : Nat) (A C : World) : Prop := Below n₀ A C ∧ C.cell? ⟨Bs, 0, none⟩ = A.cell? ⟨Bs, 0, none⟩
set_option maxRecDepth 100000 in
set_option maxHeartbeats 2000000 in
theorem back1_in (F : Fence) (n : Nat) (hf : F.fn 157) (hro : F.round = none) (hn : 1 ≤ n) (lp Bs n₀ g cap : Nat) (ls : List (B × Nat)) (hlen : ls.length ≤ 4000) (hg : g < n₀) (J Jx : List (Fin ls.length) → World → Prop)
    (hY : ∀ pre x W, J pre W → pre.length < ls.length → YieldAt F (n - 1) Tryz.prog lp (encL ls x) W fun e W' =>
      (e = .returned (.bool true) ∧ J (pre ++ [x]) W' ∧ KeepB n₀ Bs W W') ∨ (e = .returned (.bool false) ∧ Jx (pre ++ [x]) W'))
    (W : World) (hBs : W.cell? ⟨Bs, 0, none⟩ = some (.slice (some ⟨g, 0, none⟩) ls.length cap)) (_hcap : ls.length ≤ cap)
    (hc : ∀ j, j < ls.length → W.cell? ⟨g, j * 2, none⟩ = some (.string (bs (ls.getD j ([], 0)).1)) ∧ W.cell? ⟨g, j * 2 + 1, none⟩ = some (.int .i64 ((ls.getD j ([], 0)).2 : Nat))) (h0 : J [] W) :
    CallsIn F n Tryz.prog 157 #[.func (.yield lp) #[] #[], .pointer (some ⟨Bs, 0, none⟩)] W fun e W' => (∃ v, e = .returned v) ∧
      ((∃ ys, ys = downL ls.length ls.length ∧ J ys W') ∨ (∃ pre, True ∧ Jx pre W')) := by
  refine callsIn_of_wp Tryz.func157 rfl hf ?_ hro
  simp only [Tryz.ntmps157, List.size_toArray, List.length_cons, List.length_nil, Nat.reduceAdd, Nat.reduceSub, Array.replicate_succ, Array.replicate_zero, List.push_toArray, List.append_toArray, List.nil_append, List.cons_append]
  gi_wp2
  gi_loopw [3] (fun i wr => ∃ k : Nat, k ≤ ls.length ∧ i = .int .i64 ((ls.length : Int) - 1 - (k : Int)) ∧ J (downL ls.length k) wr ∧ KeepB n₀ Bs W wr)
    (fun i _ => (intOf i + 1).toNat)
  case atStart => exact ⟨0, Nat.zero_le _, by simp, h0, Below.refl _ _, rfl⟩
  case round =>
    obtain ⟨k, hk, rfl, hJs, hnx, hbx⟩ := hrel
    by_cases hlt : k < ls.length
    · obtain ⟨fn, tmps, assign, body, hy, hR⟩ := hY _ ⟨ls.length - 1 - k, by omega⟩ wr hJs (by rw [down_len k hk]; exact hlt)
      obtain ⟨d1, d2⟩ := hc (ls.length - 1 - k) (by omega)
      have e1 := (hnx.cell (p := ⟨g, (ls.length - 1 - k) * 2, none⟩) hg).trans d1
      have e2 := (hnx.cell (p := ⟨g, (ls.length - 1 - k) * 2 + 1, none⟩) hg).trans d2
      have e3 := hbx.trans hBs
      unfold encL locV at hy
      dsimp only at hy
      have hidx : (ls.length : Int) - 1 - (k : Int) = ((ls.length - 1 - k : Nat) : Int) := by omega
      have hds := down_succ hlt
      have hm1 : ls.length - 1 - k < ls.length := by omega
      rw [hidx]
      have hBs' : Hid (_) := hBs
      clear hidx hc hBs hbx d1 d2
      obtain ⟨m, hm⟩ : ∃ m, Hid (ls.length - 1 - k = m) := ⟨_, rfl⟩
      rw [hm.out] at e1 e2 hy hm1 ⊢
      have hmI : (m : Int) < ls.length := by omega
      have hm0 : (0 : Int) ≤ m := by omega
      generalize ls.getD m ([], 0) = b at *
      gi_wp2
      refine hR.mono ?_
      rintro e W3 (⟨rfl, hJ3, hk3⟩ | ⟨rfl, hJx3⟩)
      · gi_wp2
        go_roundw
        case rel => exact ⟨k + 1, by omega, by have := hm.out; congr 1; omega, by rw [hds]; exact hJ3, hnx.trans hk3.1, hk3.2.trans (e3.trans hBs'.out.symm)⟩
        case measure => first | (simp [intOf]; done) | (simp [intOf]; omega)
      · gi_wp2
        refine bodyPost_ret (results_none rfl _ _ _) rfl ?_
        exact ⟨⟨_, rfl⟩, .inr ⟨_, trivial, hJx3⟩⟩
    · obtain rfl : k = ls.length := by omega
      have hidx : (ls.length : Int) - 1 - (ls.length : Int) = -1 := by omega
      rw [hidx]
      gi_wp2
      go_end0
      exact ⟨⟨_, rfl⟩, .inl ⟨_, rfl, hJs⟩⟩
set_option maxHeartbeats 1000000 in
/-- slices.Backward: the slice is boxed; the function value captures the box -/
theorem back_in (F : Fence) (n : Nat) (hf : F.fn 101) (hro : F.round = none) (a : Option Addr) (len cap : Nat) (w : World) :
    CallsIn F n Tryz.prog 101 #[.slice a len cap] w fun e w' => e = .returned (.func (.func 157) #[] #[.pointer (some ⟨w.heap.size, 0, none⟩)]) ∧ w' = w.alloc (.cells #[.slice a len cap] 107) := by
  refine callsIn_of_wp Tryz.func101 rfl hf ?_ hro
  simp only [Tryz.ntmps101, List.size_toArray, List.length_cons, List.length_nil, Nat.reduceAdd, Nat.reduceSub, Array.replicate_succ, Array.replicate_zero, List.push_toArray, List.append_toArray, List.nil_append, List.cons_append]
  gi_wp2
  go_ret
  exact ⟨rfl, rfl⟩
theorem back_stops (F : Fence) (n : Nat) (hf : F.fn 157) (hro : F.round = none) (hn : 1 ≤ n) (Bs n₀ g cap : Nat) (ls : List (B × Nat)) (hlen : ls.length ≤ 4000) (hg : g < n₀) (hcap : ls.length ≤ cap) (w : World) (hBs : Bs < w.heap.size) (hn₀ : n₀ ≤ w.heap.size)
    (hb : w.cell? ⟨Bs, 0, none⟩ = some (.slice (some ⟨g, 0, none⟩) ls.length cap))
    (hc : ∀ j, j < ls.length → w.cell? ⟨g, j * 2, none⟩ = some (.string (bs (ls.getD j ([], 0)).1)) ∧ w.cell? ⟨g, j * 2 + 1, none⟩ = some (.int .i64 ((ls.getD j ([], 0)).2 : Nat))) :
    SeqStopsK F n Tryz.prog 157 #[.pointer (some ⟨Bs, 0, none⟩)] (encL ls) (KeepB n₀ Bs) (fun ys => ys = downL ls.length ls.length) (fun _ => True) ls.length w := fun l J Jx W hW _ _ hY h0 =>
  back1_in F n hf hro hn l Bs n₀ g cap ls hlen hg J Jx hY W ((hW.cell (p := ⟨Bs, 0, none⟩) hBs).trans hb) hcap
    (fun j hj => ⟨(hW.cell (p := ⟨g, j * 2, none⟩) (Nat.lt_of_lt_of_le hg hn₀)).trans (hc j hj).1, (hW.cell (p := ⟨g, j * 2 + 1, none⟩) (Nat.lt_of_lt_of_le hg hn₀)).trans (hc j hj).2⟩) h0
/-! what abides a turn of what is no cells -/
section
variable {x a : Nat} {w w0 W W' : World} {vm vt vi vm1 vt1 : Value} {o : Own} {row : Option Nat}
theorem cells_ne {k : Nat} {cs : Array Value} {e : TypeId} {f : Nat × Nat} (hk : W.heap[k]? = some (.cells cs e f)) (hr : ∀ r, row = some r → ∃ ob : Obj, W.heap[r]? = some ob ∧ ob.isCells = false) : some k ≠ row := fun e' => by
  obtain ⟨ob, h1, h2⟩ := hr k e'.symm
  rw [hk] at h1
  cases h1
  simp [Obj.isCells] at h2
theorem row_ne {b s n : Nat} {e : TypeId} {v : Value} {xs : List Value} (hv : W.ownsRow b e s v n xs) (hr : ∀ r, row = some r → ∃ ob : Obj, W.heap[r]? = some ob ∧ ob.isCells = false) : v.ownBlock = none ∨ v.ownBlock ≠ row := by
  rcases hv.2 with ⟨rfl, -⟩ | ⟨g, cap, cur, rfl, -, hg, -⟩
  · exact .inl rfl
  · exact .inr (cells_ne hg hr)
theorem OAt.abide (h : OAt w0 x a W o vi vm vt) (hg : W.grownBy W' row) (hr : ∀ r, row = some r → w0.heap.size ≤ r ∧ ∃ ob : Obj, W.heap[r]? = some ob ∧ ob.isCells = false) : OAt w0 x a W' o vi vm vt := by
  have hr2 : ∀ r, row = some r → ∃ ob : Obj, W.heap[r]? = some ob ∧ ob.isCells = false := fun r e => (hr r e).2
  refine ⟨⟨h.yat.base, h.yat.ty, ?_, h.yat.made.kept hg (row_ne h.yat.made hr2), h.yat.trace.kept hg (row_ne h.yat.trace hr2)⟩, h.old.trans ⟨hg.os, hg.tape, hg.output, hg.size, fun k hk => hg.block k (Nat.lt_of_lt_of_le hk h.old.size) (fun e => ?_)⟩, h.ints, h.boxes, h.feed⟩
  · rw [hg.block x h.lt (cells_ne h.yat.blk hr2)]; exact h.yat.blk
  · have := (hr k e.symm).1; omega
theorem Roam.abide {w1 : World} (h : Roam x vm vt w1 vm1 vt1 W) (hg : W.grownBy W' row) (hr : ∀ r, row = some r → w1.heap.size ≤ r) : Roam x vm vt w1 vm1 vt1 W' :=
  ⟨hg.os.trans h.os, hg.tape.trans h.tape, hg.output.trans h.output, Nat.le_trans h.size hg.size, fun k hk h1 h2 h3 => (hg.block k (Nat.lt_of_lt_of_le hk h.size) (fun e => by have := hr k e.symm; omega)).trans (h.block k hk h1 h2 h3), h.fm, h.ft⟩
theorem Roam.keeps (h : Roam x vm vt W vm1 vt1 W') (hO : OAt w0 x a W o vi vm vt) : KeepsOthers W W' := by
  refine ⟨h.size, fun k ob hk hc => ?_⟩
  have ne : ∀ {j : Nat} {cs : Array Value} {e : TypeId} {f : Nat × Nat}, W.heap[j]? = some (.cells cs e f) → k ≠ j := fun hj e => by
    subst e
    rw [hk] at hj
    cases hj
    simp [Obj.isCells] at hc
  rw [h.block k (lt_of_heap hk) (ne hO.yat.blk) (fun e => ?_) (fun e => ?_)]
  · exact hk
  · rcases hO.yat.made.2 with ⟨e', -⟩ | ⟨g, cap, cur, e', -, hg, -⟩
    · rw [e'] at e; cases e
    · rw [e'] at e
      simp only [Value.ownBlock, Option.some.injEq] at e
      exact ne hg e.symm
  · rcases hO.yat.trace.2 with ⟨e', -⟩ | ⟨g, cap, cur, e', -, hg, -⟩
    · rw [e'] at e; cases e
    · rw [e'] at e
      simp only [Value.ownBlock, Option.some.injEq] at e
      exact ne hg e.symm
/-- a block of another kind is not turned -/
theorem OAt.other' (hO : OAt w0 x a W o vi vm vt) (h : Roam x vm vt W vm1 vt1 W') {k : Nat} {cs : Array Value} {e : TypeId} {f : Nat × Nat} (hk : W.heap[k]? = some (.cells cs e f)) (h1 : e ≠ 104) (h2 : 175 ≠ e) (h3 : 9 ≠ e) : W'.heap[k]? = some (.cells cs e f) := by
  rw [h.block k (lt_of_heap hk) (fun e' => ?_) (fun e' => own_at_ne hO.yat.made hk h2 e') (fun e' => own_at_ne hO.yat.trace hk h3 e')]
  · exact hk
  · subst e'
    have := hO.yat.blk
    rw [hk] at this
    simp only [Option.some.injEq, Obj.cells.injEq] at this
    exact h1 this.2.1
end
end Go.Proofs.YtmlgajhhnojdjaaGreatDoor.Own
/- The project's machine that owns: numbers put together in their place; inputs taken; the way on. -/
namespace Go.Proofs.YtmlgajhhnojdjaaGreatDoor.Own
open Go Go.RowKit Go.Proofs.YtmlgajhhnojdjaaGreatDoor.Spec Go.Proofs.YtmlgajhhnojdjaaGreatDoor.Aux Go.Proofs.YtmlgajhhnojdjaaGreatDoor.PrjJ Go.Proofs.YtmlgajhhnojdjaaGreatDoor.PrjK Go.Proofs.YtmlgajhhnojdjaaGreatDoor.PrjL Go.Proofs.YtmlgajhhnojdjaaGreatDoor.PrjM Go.Proofs.YtmlgajhhnojdjaaGreatDoor.PrjS Go.Proofs.YtmlgajhhnojdjaaGreatDoor.FlwA Go.Proofs.YtmlgajhhnojdjaaGreatDoor.FlwE

/-- numbers within Go's own bounds -/

def QLine.pl (l : QLine) (j : Nat) : Nat × Nat := l.places.getD j (0, 0)
section
variable {x a : Nat} {w w0 : World} {vm vt vi : Value} {o : Own}
set_option maxRecDepth 20000 in
set_option maxHeartbeats 4000000 in
theorem calculate_any (h : OAt w0 x a w o vi vm vt) {z nl nb : Nat} {l : QLine} {ap an : Option Addr} {cp cn : Nat} (hl : LineAt z w l (.slice ap l.places.length cp) (.slice an l.next.length cn)) (hk : LOk nl nb l) (hnl : nl ≤ 12)
    (ho : l.op = 3 ∨ l.op = 4 ∨ l.op = 5 ∨ l.op = 6) (hd : l.op = 6 → ¬ o.num (QLine.pl l 2) = 0) (hr : ∀ n ∈ o.ints, isI64 n) :
    Calls Tryz.prog 59 #[.pointer (some ⟨x, 0, none⟩), .agg #[.int .i64 (l.num : Nat), .int .i64 (l.op : Nat), .slice ap l.places.length cp, .int .i64 l.number, .int .i64 l.flag, .slice an l.next.length cn]] w fun e w' =>
      e = .returned (.tuple #[]) ∧ OAt w0 x a w' { o with ints := o.ints.set (QLine.pl l 0).1 (calcI l.op (o.num (QLine.pl l 1)) (o.num (QLine.pl l 2))) } vi vm vt ∧ Roam x vm vt w vm vt w' := by
  have hlen : l.places.length = 3 := by rcases ho with e | e | e | e <;> (rw [hk.plen, e]; rfl)
  have hbA : Below w.heap.size w (w.alloc (.cells #[.int .i64 (l.num : Nat), .int .i64 (l.op : Nat), .slice ap l.places.length cp, .int .i64 l.number, .int .i64 l.flag, .slice an l.next.length cn] 115)) := (Below.refl _ _).alloc (Nat.le_refl _) _
  obtain ⟨g, rfl, hcp, hg, c1, c2⟩ := place_at hl hlen 0 (by omega)
  obtain ⟨g', e', -, -, c3, c4⟩ := place_at hl hlen 1 (by omega)
  simp only [Option.some.injEq, Addr.mk.injEq, and_true] at e'
  subst e'
  obtain ⟨g', e', -, -, c5, c6⟩ := place_at hl hlen 2 (by omega)
  simp only [Option.some.injEq, Addr.mk.injEq, and_true] at e'
  subst e'
  have HPL : Hid (_) := hl.places
  have hx : ∀ j, j < 3 → (QLine.pl l j).1 < 12 := fun j hj => by
    have := (hk.places (l.places.getD j (0, 0)) (by rw [List.getD_eq_getElem?_getD, List.getElem?_eq_getElem (by omega)]; exact List.getElem_mem _)).1
    show (l.places.getD j (0, 0)).1 < 12
    omega
  have x0 := hx 0 (by omega)
  have x1 := hx 1 (by omega)
  have x2 := hx 2 (by omega)
  have hri : ∀ p : Nat × Nat, p.1 < 12 → isI64 (o.num p) := fun p hp => hr _ (by
    unfold Own.num
    rw [List.getD_eq_getElem?_getD, List.getElem?_eq_getElem (by rw [h.ints]; exact hp)]; exact List.getElem_mem _)
  have r1 := hri _ x1
  have r2 := hri _ x2
  have KC := fun w' => calculated_any l.op (o.num (QLine.pl l 1)) (o.num (QLine.pl l 2)) w' hd ho r1 r2
  unfold QLine.pl at *
  have HA := h.below hbA
  have KN1 := fun (W : World) (hb : Below w.heap.size w W) => number_any (h.below hb) (l.places.getD 1 (0, 0)) x1
  have KN2 := fun (W : World) (hb : Below w.heap.size w W) => number_any (h.below hb) (l.places.getD 2 (0, 0)) x2
  have hb : ∀ W, Below w.heap.size w W → (W.cell? ⟨g, 0, none⟩ = some (.int .i64 ((l.places.getD 0 (0, 0)).1 : Nat)) ∧ W.cell? ⟨g, 2, none⟩ = some (.int .i64 ((l.places.getD 1 (0, 0)).1 : Nat)) ∧ W.cell? ⟨g, 3, none⟩ = some (.int .i64 ((l.places.getD 1 (0, 0)).2 : Nat)) ∧ W.cell? ⟨g, 4, none⟩ = some (.int .i64 ((l.places.getD 2 (0, 0)).1 : Nat)) ∧ W.cell? ⟨g, 5, none⟩ = some (.int .i64 ((l.places.getD 2 (0, 0)).2 : Nat))) := fun W hW =>
    ⟨(hW.cell (p := ⟨g, 0, none⟩) hg).trans c1, (hW.cell (p := ⟨g, 2, none⟩) hg).trans c3, (hW.cell (p := ⟨g, 3, none⟩) hg).trans c4, (hW.cell (p := ⟨g, 4, none⟩) hg).trans c5, (hW.cell (p := ⟨g, 5, none⟩) hg).trans c6⟩
  obtain ⟨d0, d2, d3, d4, d5⟩ := hb _ hbA
  have x0i : ((l.places.getD 0 (0, 0)).1 : Int) < 12 := by omega
  rw [hlen] at hbA d0 d2 d3 d4 d5 HA ⊢
  clear hx c1 c2 c3 c4 c5 c6 hl hk
  generalize l.places.getD 0 (0, 0) = p0 at *
  generalize l.places.getD 1 (0, 0) = p1 at *
  generalize l.places.getD 2 (0, 0) = p2 at *
  clear hlen
  go_enter Tryz.func59, Tryz.ntmps59
  go_wp2
  have hbD : Below w.heap.size w (w.alloc (.cells #[.int .i64 (l.num : Nat), .int .i64 (l.op : Nat), .slice (some ⟨g, 0, none⟩) 3 cp, .int .i64 l.number, .int .i64 l.flag, .slice an l.next.length cn] 115)).drew := ⟨hbA.os, hbA.tape, hbA.output, hbA.size, hbA.block⟩
  have hLb : ∀ W, Below (w.alloc (.cells #[.int .i64 (l.num : Nat), .int .i64 (l.op : Nat), .slice (some ⟨g, 0, none⟩) 3 cp, .int .i64 l.number, .int .i64 l.flag, .slice an l.next.length cn] 115)).heap.size (w.alloc (.cells #[.int .i64 (l.num : Nat), .int .i64 (l.op : Nat), .slice (some ⟨g, 0, none⟩) 3 cp, .int .i64 l.number, .int .i64 l.flag, .slice an l.next.length cn] 115)) W → W.cell? ⟨w.heap.size, 1, none⟩ = some (.int .i64 (l.op : Nat)) := fun W hW => (hW.cell (p := ⟨w.heap.size, 1, none⟩) (by simp)).trans (by rw [cell_of_heap Array.getElem?_push_size]; rfl)
  have hxg : x ≠ g := fun e => by
    have h1 := h.yat.blk
    rw [e] at h1
    exact own_at_ne HPL.out h1 (by decide) rfl
  have hxw : x ≠ w.heap.size := by have := h.lt; omega
  have hgx : g ≠ x := fun e => hxg e.symm
  have hwx : w.heap.size ≠ x := fun e => hxw e.symm
  have y0 := hLb _ (Below.refl _ _)
  go_region_held3 (fun W => W.cell? ⟨g, 0, none⟩ = some (.int .i64 (p0.1 : Nat)) ∧ W.cell? ⟨g, 2, none⟩ = some (.int .i64 (p1.1 : Nat)) ∧ W.cell? ⟨g, 3, none⟩ = some (.int .i64 (p1.2 : Nat)) ∧ W.cell? ⟨g, 4, none⟩ = some (.int .i64 (p2.1 : Nat)) ∧ W.cell? ⟨g, 5, none⟩ = some (.int .i64 (p2.2 : Nat)) ∧ W.cell? ⟨w.heap.size, 1, none⟩ = some (.int .i64 (l.op : Nat))) (go_keep)
    (first
    | (go_at_call 95; go_fit (KC _); rintro e w3 ⟨rfl, rfl⟩)
    | (go_at_call 58; go_fit (KN2 _ hb1); rintro e w2 ⟨rfl, h2⟩; have hb2 : Below w.heap.size w w2 := hb1.trans (h2.mono hb1.size); have y2 := hLb _ (hB1.trans (h2.mono hB1.size)); obtain ⟨v0, v2, v3, v4, v5⟩ := hb _ hb2; obtain ⟨q1, q2⟩ := (h.below hb2).int x0)
    | (go_at_call 58; go_fit (KN1 _ hb1); rintro e w2 ⟨rfl, h2⟩; have hb2 : Below w.heap.size w w2 := hb1.trans (h2.mono hb1.size); have y2 := hLb _ (hB1.trans (h2.mono hB1.size)); obtain ⟨v0, v2, v3, v4, v5⟩ := hb _ hb2; obtain ⟨q1, q2⟩ := (h.below hb2).int x0)
    | (go_at_call 58; go_fit (KN1 _ hbD); rintro e w1 ⟨rfl, h1⟩; have hb1 : Below w.heap.size w w1 := hbD.trans (h1.mono hbD.size); have hB1 : Below (w.alloc (.cells #[.int .i64 (l.num : Nat), .int .i64 (l.op : Nat), .slice (some ⟨g, 0, none⟩) 3 cp, .int .i64 l.number, .int .i64 l.flag, .slice an l.next.length cn] 115)).heap.size (w.alloc (.cells #[.int .i64 (l.num : Nat), .int .i64 (l.op : Nat), .slice (some ⟨g, 0, none⟩) 3 cp, .int .i64 l.number, .int .i64 l.flag, .slice an l.next.length cn] 115)) w1 := ⟨h1.os, h1.tape, h1.output, h1.size, h1.block⟩; have y1 := hLb _ hB1; obtain ⟨u0, u2, u3, u4, u5⟩ := hb _ hb1)
    | (go_at_call 58; go_fit (KN2 _ hbD); rintro e w1 ⟨rfl, h1⟩; have hb1 : Below w.heap.size w w1 := hbD.trans (h1.mono hbD.size); have hB1 : Below (w.alloc (.cells #[.int .i64 (l.num : Nat), .int .i64 (l.op : Nat), .slice (some ⟨g, 0, none⟩) 3 cp, .int .i64 l.number, .int .i64 l.flag, .slice an l.next.length cn] 115)).heap.size (w.alloc (.cells #[.int .i64 (l.num : Nat), .int .i64 (l.op : Nat), .slice (some ⟨g, 0, none⟩) 3 cp, .int .i64 l.number, .int .i64 l.flag, .slice an l.next.length cn] 115)) w1 := ⟨h1.os, h1.tape, h1.output, h1.size, h1.block⟩; have y1 := hLb _ hB1; obtain ⟨u0, u2, u3, u4, u5⟩ := hb _ hb1))
  all_goals go_wp2_with fail
  all_goals
    go_end0
    obtain ⟨h5, r5⟩ := (h.below hb2).setInt (j := p0.1) x0 (calcI l.op (o.num p1) (o.num p2))
    exact ⟨rfl, h5, (Roam.of hb2).trans r5⟩
end
end Go.Proofs.YtmlgajhhnojdjaaGreatDoor.Own
