/- The library's iterator over a row, from its end (slices.Backward over the program's locals): its contract. -/
import Derived.RangeFuncNested
import Derived.RangeFuncBound
import Derived.RangeFuncCalls
import Derived.RangeFuncLeaves
import Derived.Shelf.Abstract
import Derived.Shelf.RegionOpen
import Derived.WalkKit
import Derived.OwnWalkIn
import Derived.TacticsInMore
import Derived.LoopNIn
import Derived.LoopIn
import Derived.Test.YtmlgajhhnojdjaaGreatDoorBAT
import Derived.Test.YtmlgajhhnojdjaaGreatDoorBAW
import Derived.WalkMore
import Derived.ScopeJumps
import Derived.Deep.MidRow
namespace Go.Proofs.YtmlgajhhnojdjaaGreatDoor.Own
open Go Go.RowKit Go.Shelf Go.Proofs.YtmlgajhhnojdjaaGreatDoor.Spec Go.Proofs.YtmlgajhhnojdjaaGreatDoor.Aux Go.Proofs.YtmlgajhhnojdjaaGreatDoor.PrjJ Go.Proofs.YtmlgajhhnojdjaaGreatDoor.PrjM Go.Proofs.YtmlgajhhnojdjaaGreatDoor.FlwA
attribute [local go_sem] Oper.semAt_some

/-- the numbers below N, the greatest first: the first k of them -/
def downL (N k : Nat) : List (Fin N) := (List.range k).filterMap fun j => if h : N - 1 - j < N then some ⟨N - 1 - j, h⟩ else none
theorem down_succ {N k : Nat} (hk : k < N) : downL N (k + 1) = downL N k ++ [⟨N - 1 - k, by omega⟩] := by
  unfold downL
  rw [List.range_succ, List.filterMap_append]
  congr 1
  simp only [List.filterMap_cons, List.filterMap_nil]
  rw [dif_pos (by omega)]
theorem down_len {N : Nat} : ∀ k, k ≤ N → (downL N k).length = k
  | 0, _ => rfl
  | k + 1, hk => by rw [down_succ (by omega), List.length_append, down_len k (by omega)]; rfl
def dropL (q : QP) {N : Nat} (ys : List (Fin N)) (o : Own) : Own := ys.foldl (fun o i => o.drop (QP.halvesQ q (i.val, 0))) o
theorem dropL_all (q : QP) {N : Nat} (o : Own) : ∀ k, k ≤ N → Own.dropAll q (N - k) (dropL q (downL N k) o) = Own.dropAll q N o
  | 0, _ => rfl
  | k + 1, hk => by
    rw [← dropL_all q o k (by omega), down_succ (by omega)]
    unfold dropL
    rw [List.foldl_append, show N - k = (N - (k + 1)) + 1 by omega, Own.dropAll]
    simp only [List.foldl_cons, List.foldl_nil]
    rw [show N - 1 - k = N - (k + 1) by omega]
/-- a local's value -/
def locV (ls : List (B × Nat)) (j : Nat) : Value := .agg #[.string (bs (ls.getD j ([], 0)).1), .int .i64 ((ls.getD j ([], 0)).2 : Nat)]
def encL (ls : List (B × Nat)) (x : Fin ls.length) : Array Value := #[.int .i64 (x.val : Int), locV ls x.val]
/-- what a round keeps: what lay below n₀, and the iterator's own box -/
def KeepB (n₀ Bs : Nat) (A C : World) : Prop := Below n₀ A C ∧ C.cell? ⟨Bs, 0, none⟩ = A.cell? ⟨Bs, 0, none⟩
set_option maxRecDepth 100000 in
set_option maxHeartbeats 2000000 in
theorem back1_in (F : Fence) (n : Nat) (hf : F.fn 157) (hro : F.round = none) (hn : 1 ≤ n) (lp Bs n₀ g cap : Nat) (ls : List (B × Nat)) (hlen : ls.length ≤ 4000) (hg : g < n₀) (J Jx : List (Fin ls.length) → World → Prop)
    (hY : ∀ pre x W, J pre W → pre.length < ls.length → YieldAt F (n - 1) Tryz.prog lp (encL ls x) W fun e W' =>
      (e = .returned (.bool true) ∧ J (pre ++ [x]) W' ∧ KeepB n₀ Bs W W') ∨ (e = .returned (.bool false) ∧ Jx (pre ++ [x]) W'))
    (W : World) (hBs : W.cell? ⟨Bs, 0, none⟩ = some (.slice (some ⟨g, 0, none⟩) ls.length cap)) (_hcap : ls.length ≤ cap)
    (hc : ∀ j, j < ls.length → W.cell? ⟨g, j * 2, none⟩ = some (.string (bs (ls.getD j ([], 0)).1)) ∧ W.cell? ⟨g, j * 2 + 1, none⟩ = some (.int .i64 ((ls.getD j ([], 0)).2 : Nat))) (h0 : J [] W) :
    CallsIn F n Tryz.prog 157 #[.func (.yield lp) #[] #[], .pointer (some ⟨Bs, 0, none⟩)] W fun e W' => (∃ v, e = .returned v) ∧
      ((∃ ys, ys = downL ls.length ls.length ∧ J ys W') ∨ (∃ pre, True ∧ Jx pre W')) := by
  refine callsIn_of_wp Tryz.func157 rfl hf ?_ hro
  simp only [Tryz.ntmps157, List.size_toArray, List.length_cons, List.length_nil, Nat.reduceAdd, Nat.reduceSub, Array.replicate_succ, Array.replicate_zero, List.push_toArray, List.append_toArray, List.nil_append, List.cons_append]
  gi_wp2
  gi_loopw [3] (fun i wr => ∃ k : Nat, k ≤ ls.length ∧ i = .int .i64 ((ls.length : Int) - 1 - (k : Int)) ∧ J (downL ls.length k) wr ∧ KeepB n₀ Bs W wr)
    (fun i _ => (intOf i + 1).toNat)
  case atStart => exact ⟨0, Nat.zero_le _, by simp, h0, Below.refl _ _, rfl⟩
  case round =>
    obtain ⟨k, hk, rfl, hJs, hnx, hbx⟩ := hrel
    by_cases hlt : k < ls.length
    · obtain ⟨fn, tmps, assign, body, hy, hR⟩ := hY _ ⟨ls.length - 1 - k, by omega⟩ wr hJs (by rw [down_len k hk]; exact hlt)
      obtain ⟨d1, d2⟩ := hc (ls.length - 1 - k) (by omega)
      have e1 := (hnx.cell (p := ⟨g, (ls.length - 1 - k) * 2, none⟩) hg).trans d1
      have e2 := (hnx.cell (p := ⟨g, (ls.length - 1 - k) * 2 + 1, none⟩) hg).trans d2
      have e3 := hbx.trans hBs
      unfold encL locV at hy
      dsimp only at hy
      have hidx : (ls.length : Int) - 1 - (k : Int) = ((ls.length - 1 - k : Nat) : Int) := by omega
      have hds := down_succ hlt
      have hm1 : ls.length - 1 - k < ls.length := by omega
      rw [hidx]
      have hBs' : Hid (_) := hBs
      clear hidx hc hBs hbx d1 d2
      obtain ⟨m, hm⟩ : ∃ m, Hid (ls.length - 1 - k = m) := ⟨_, rfl⟩
      rw [hm.out] at e1 e2 hy hm1 ⊢
      have hmI : (m : Int) < ls.length := by omega
      have hm0 : (0 : Int) ≤ m := by omega
      generalize ls.getD m ([], 0) = b at *
      gi_wp2
      refine hR.mono ?_
      rintro e W3 (⟨rfl, hJ3, hk3⟩ | ⟨rfl, hJx3⟩)
      · gi_wp2
        go_roundw
        case rel => exact ⟨k + 1, by omega, by have := hm.out; congr 1; omega, by rw [hds]; exact hJ3, hnx.trans hk3.1, hk3.2.trans (e3.trans hBs'.out.symm)⟩
        case measure => first | (simp [intOf]; done) | (simp [intOf]; omega)
      · gi_wp2
        refine bodyPost_ret (results_none rfl _ _ _) rfl ?_
        exact ⟨⟨_, rfl⟩, .inr ⟨_, trivial, hJx3⟩⟩
    · obtain rfl : k = ls.length := by omega
      have hidx : (ls.length : Int) - 1 - (ls.length : Int) = -1 := by omega
      rw [hidx]
      gi_wp2
      go_end0
      exact ⟨⟨_, rfl⟩, .inl ⟨_, rfl, hJs⟩⟩
set_option maxHeartbeats 1000000 in
/-- slices.Backward: the slice is boxed; the function value captures the box -/
theorem back_in (F : Fence) (n : Nat) (hf : F.fn 101) (hro : F.round = none) (a : Option Addr) (len cap : Nat) (w : World) :
    CallsIn F n Tryz.prog 101 #[.slice a len cap] w fun e w' => e = .returned (.func (.func 157) #[] #[.pointer (some ⟨w.heap.size, 0, none⟩)]) ∧ w' = w.alloc (.cells #[.slice a len cap] 107) := by
  refine callsIn_of_wp Tryz.func101 rfl hf ?_ hro
  simp only [Tryz.ntmps101, List.size_toArray, List.length_cons, List.length_nil, Nat.reduceAdd, Nat.reduceSub, Array.replicate_succ, Array.replicate_zero, List.push_toArray, List.append_toArray, List.nil_append, List.cons_append]
  gi_wp2
  go_ret
  exact ⟨rfl, rfl⟩
theorem back_stops (F : Fence) (n : Nat) (hf : F.fn 157) (hro : F.round = none) (hn : 1 ≤ n) (Bs n₀ g cap : Nat) (ls : List (B × Nat)) (hlen : ls.length ≤ 4000) (hg : g < n₀) (hcap : ls.length ≤ cap) (w : World) (hBs : Bs < w.heap.size) (hn₀ : n₀ ≤ w.heap.size)
    (hb : w.cell? ⟨Bs, 0, none⟩ = some (.slice (some ⟨g, 0, none⟩) ls.length cap))
    (hc : ∀ j, j < ls.length → w.cell? ⟨g, j * 2, none⟩ = some (.string (bs (ls.getD j ([], 0)).1)) ∧ w.cell? ⟨g, j * 2 + 1, none⟩ = some (.int .i64 ((ls.getD j ([], 0)).2 : Nat))) :
    SeqStopsK F n Tryz.prog 157 #[.pointer (some ⟨Bs, 0, none⟩)] (encL ls) (KeepB n₀ Bs) (fun ys => ys = downL ls.length ls.length) (fun _ => True) ls.length w := fun l J Jx W hW _ _ hY h0 =>
  back1_in F n hf hro hn l Bs n₀ g cap ls hlen hg J Jx hY W ((hW.cell (p := ⟨Bs, 0, none⟩) hBs).trans hb) hcap
    (fun j hj => ⟨(hW.cell (p := ⟨g, j * 2, none⟩) (Nat.lt_of_lt_of_le hg hn₀)).trans (hc j hj).1, (hW.cell (p := ⟨g, j * 2 + 1, none⟩) (Nat.lt_of_lt_of_le hg hn₀)).trans (hc j hj).2⟩) h0
/-! what abides a turn of what is no cells -/
section
variable {x a : Nat} {w w0 W W' : World} {vm vt vi vm1 vt1 : Value} {o : Own} {row : Option Nat}
theorem cells_ne {k : Nat} {cs : Array Value} {e : TypeId} {f : Nat × Nat} (hk : W.heap[k]? = some (.cells cs e f)) (hr : ∀ r, row = some r → ∃ ob : Obj, W.heap[r]? = some ob ∧ ob.isCells = false) : some k ≠ row := fun e' => by
  obtain ⟨ob, h1, h2⟩ := hr k e'.symm
  rw [hk] at h1
  cases h1
  simp [Obj.isCells] at h2
theorem row_ne {b s n : Nat} {e : TypeId} {v : Value} {xs : List Value} (hv : W.ownsRow b e s v n xs) (hr : ∀ r, row = some r → ∃ ob : Obj, W.heap[r]? = some ob ∧ ob.isCells = false) : v.ownBlock = none ∨ v.ownBlock ≠ row := by
  rcases hv.2 with ⟨rfl, -⟩ | ⟨g, cap, cur, rfl, -, hg, -⟩
  · exact .inl rfl
  · exact .inr (cells_ne hg hr)
theorem OAt.abide (h : OAt w0 x a W o vi vm vt) (hg : W.grownBy W' row) (hr : ∀ r, row = some r → w0.heap.size ≤ r ∧ ∃ ob : Obj, W.heap[r]? = some ob ∧ ob.isCells = false) : OAt w0 x a W' o vi vm vt := by
  have hr2 : ∀ r, row = some r → ∃ ob : Obj, W.heap[r]? = some ob ∧ ob.isCells = false := fun r e => (hr r e).2
  refine ⟨⟨h.yat.base, h.yat.ty, ?_, h.yat.made.kept hg (row_ne h.yat.made hr2), h.yat.trace.kept hg (row_ne h.yat.trace hr2)⟩, h.old.trans ⟨hg.os, hg.tape, hg.output, hg.size, fun k hk => hg.block k (Nat.lt_of_lt_of_le hk h.old.size) (fun e => ?_)⟩, h.ints, h.boxes, h.feed⟩
  · rw [hg.block x h.lt (cells_ne h.yat.blk hr2)]; exact h.yat.blk
  · have := (hr k e.symm).1; omega
theorem Roam.abide {w1 : World} (h : Roam x vm vt w1 vm1 vt1 W) (hg : W.grownBy W' row) (hr : ∀ r, row = some r → w1.heap.size ≤ r) : Roam x vm vt w1 vm1 vt1 W' :=
  ⟨hg.os.trans h.os, hg.tape.trans h.tape, hg.output.trans h.output, Nat.le_trans h.size hg.size, fun k hk h1 h2 h3 => (hg.block k (Nat.lt_of_lt_of_le hk h.size) (fun e => by have := hr k e.symm; omega)).trans (h.block k hk h1 h2 h3), h.fm, h.ft⟩
theorem Roam.keeps (h : Roam x vm vt W vm1 vt1 W') (hO : OAt w0 x a W o vi vm vt) : KeepsOthers W W' := by
  refine ⟨h.size, fun k ob hk hc => ?_⟩
  have ne : ∀ {j : Nat} {cs : Array Value} {e : TypeId} {f : Nat × Nat}, W.heap[j]? = some (.cells cs e f) → k ≠ j := fun hj e => by
    subst e
    rw [hk] at hj
    cases hj
    simp [Obj.isCells] at hc
  rw [h.block k (lt_of_heap hk) (ne hO.yat.blk) (fun e => ?_) (fun e => ?_)]
  · exact hk
  · rcases hO.yat.made.2 with ⟨e', -⟩ | ⟨g, cap, cur, e', -, hg, -⟩
    · rw [e'] at e; cases e
    · rw [e'] at e
      simp only [Value.ownBlock, Option.some.injEq] at e
      exact ne hg e.symm
  · rcases hO.yat.trace.2 with ⟨e', -⟩ | ⟨g, cap, cur, e', -, hg, -⟩
    · rw [e'] at e; cases e
    · rw [e'] at e
      simp only [Value.ownBlock, Option.some.injEq] at e
      exact ne hg e.symm
/-- a block of another kind is not turned -/
theorem OAt.other' (hO : OAt w0 x a W o vi vm vt) (h : Roam x vm vt W vm1 vt1 W') {k : Nat} {cs : Array Value} {e : TypeId} {f : Nat × Nat} (hk : W.heap[k]? = some (.cells cs e f)) (h1 : e ≠ 104) (h2 : 175 ≠ e) (h3 : 9 ≠ e) : W'.heap[k]? = some (.cells cs e f) := by
  rw [h.block k (lt_of_heap hk) (fun e' => ?_) (fun e' => own_at_ne hO.yat.made hk h2 e') (fun e' => own_at_ne hO.yat.trace hk h3 e')]
  · exact hk
  · subst e'
    have := hO.yat.blk
    rw [hk] at this
    simp only [Option.some.injEq, Obj.cells.injEq] at this
    exact h1 this.2.1
end
end Go.Proofs.YtmlgajhhnojdjaaGreatDoor.Own
/- The project's machine that owns: all locals dropped at an end. -/
namespace Go.Proofs.YtmlgajhhnojdjaaGreatDoor.Own
open Go Go.RowKit Go.Shelf Go.Proofs.YtmlgajhhnojdjaaGreatDoor.Spec Go.Proofs.YtmlgajhhnojdjaaGreatDoor.Aux Go.Proofs.YtmlgajhhnojdjaaGreatDoor.PrjJ Go.Proofs.YtmlgajhhnojdjaaGreatDoor.PrjK Go.Proofs.YtmlgajhhnojdjaaGreatDoor.PrjL Go.Proofs.YtmlgajhhnojdjaaGreatDoor.PrjM Go.Proofs.YtmlgajhhnojdjaaGreatDoor.PrjR Go.Proofs.YtmlgajhhnojdjaaGreatDoor.PrjS Go.Proofs.YtmlgajhhnojdjaaGreatDoor.PrjT Go.Proofs.YtmlgajhhnojdjaaGreatDoor.FlwA Go.Proofs.YtmlgajhhnojdjaaGreatDoor.FlwB Go.Proofs.YtmlgajhhnojdjaaGreatDoor.FlwD Go.Proofs.YtmlgajhhnojdjaaGreatDoor.FlwE
attribute [local go_sem] Oper.semAt_some

theorem dropL_in (q : QP) {N : Nat} : ∀ (ys : List (Fin N)) {o : Own} {t : Nat}, o.In t → t + 2 * ys.length ≤ 1000000 → (dropL q ys o).In (t + 2 * ys.length)
  | [], _, _, h, _ => h
  | y :: ys, o, t, h, ht => by
    have h2 := halves_len q (y.val, 0)
    rw [List.length_cons] at ht
    rw [List.length_cons, show t + 2 * (ys.length + 1) = (t + 2) + 2 * ys.length by omega]
    exact dropL_in q ys ((h.drop (QP.halvesQ q (y.val, 0)) (by omega)).mono (by omega)) (by omega)
theorem dropL_last (q : QP) {N : Nat} (ys : List (Fin N)) (y : Fin N) (o : Own) : dropL q (ys ++ [y]) o = (dropL q ys o).drop (QP.halvesQ q (y.val, 0)) := by simp [dropL]
section
variable {x a : Nat} {w w0 : World} {vm vt vi : Value} {o : Own}
set_option maxRecDepth 100000 in
set_option maxHeartbeats 4000000 in
theorem dropAll_any (h : OAt w0 x a w o vi vm vt) {q : QP} {v u : Value} {t : Nat} (hq : PQ w0 a q v u) (hl0 : 0 < q.locals.length) (hl12 : q.locals.length ≤ 12) (hin : o.In t) (ht : t ≤ 900000) (hpw : Pow w0) (h11 : 11 ≤ w0.heap.size) :
    Calls Tryz.prog 64 #[.pointer (some ⟨x, 0, none⟩)] w fun e w' => e = .returned (.tuple #[]) ∧ ∃ vm' vt', OAt w0 x a w' (o.dropAll q q.locals.length) vi vm' vt' ∧ Roam x vm vt w vm' vt' w' := by
  refine (callsIn_wide (n := 3)).1 ?_
  obtain ⟨g, cap, rfl, hcap, hg, -⟩ := locs_cell hq.loc 0 hl0
  have hlc : ∀ j, j < q.locals.length → w0.cell? ⟨g, j * 2, none⟩ = some (.string (bs (q.locals.getD j ([], 0)).1)) ∧ w0.cell? ⟨g, j * 2 + 1, none⟩ = some (.int .i64 ((q.locals.getD j ([], 0)).2 : Nat)) := fun j hj => by
    obtain ⟨g', cap', e, -, -, c1, c2⟩ := locs_cell hq.loc j hj
    simp only [Value.slice.injEq, Option.some.injEq, Addr.mk.injEq, and_true, true_and] at e
    obtain ⟨rfl, -⟩ := e
    exact ⟨c1, c2⟩
  have hb1 : Below w.heap.size w (w.alloc (.cells #[.pointer (some ⟨x, 0, none⟩)] 170)) := (Below.refl _ _).alloc (Nat.le_refl _) _
  have H1 := h.below hb1
  have m1 := H1.prog
  have Q1 := hq.below H1.old
  have m2 : (w.alloc (.cells #[.pointer (some ⟨x, 0, none⟩)] 170)).cell? ⟨a, 0, none⟩ = some (.slice (some ⟨g, 0, none⟩) q.locals.length cap) := by rw [cell_of_heap Q1.blk]; rfl
  refine callsIn_of_wp_marks Tryz.func64 rfl trivial ?_ rfl
  simp only [Tryz.ntmps64, List.size_toArray, List.length_cons, List.length_nil, Nat.reduceAdd, Nat.reduceSub, Array.replicate_succ, Array.replicate_zero, List.push_toArray, List.append_toArray, List.nil_append, List.cons_append]
  gi_wp2_with (refine ⟨trivial, ?_⟩; gi_at_call 101; refine (back_in _ _ trivial rfl _ _ _ _).mono ?_; rintro e w' ⟨rfl, rfl⟩)
  have hb2 : Below w.heap.size w ((w.alloc (.cells #[.pointer (some ⟨x, 0, none⟩)] 170)).alloc (.cells #[.slice (some ⟨g, 0, none⟩) q.locals.length cap] 107)) := hb1.alloc hb1.size _
  have H2 := h.below hb2
  have hB1 : ((w.alloc (.cells #[.pointer (some ⟨x, 0, none⟩)] 170)).alloc (.cells #[.slice (some ⟨g, 0, none⟩) q.locals.length cap] 107)).heap[w.heap.size]? = some (.cells #[.pointer (some ⟨x, 0, none⟩)] 170 (0, 0)) := by
    rw [Below.heap_alloc _ _ _ (by simp)]; exact Array.getElem?_push_size
  have hB2 : ((w.alloc (.cells #[.pointer (some ⟨x, 0, none⟩)] 170)).alloc (.cells #[.slice (some ⟨g, 0, none⟩) q.locals.length cap] 107)).heap[w.heap.size + 1]? = some (.cells #[.slice (some ⟨g, 0, none⟩) q.locals.length cap] 107 (0, 0)) := by
    have := World.alloc_heap_new (w.alloc (.cells #[.pointer (some ⟨x, 0, none⟩)] 170)) (.cells #[.slice (some ⟨g, 0, none⟩) q.locals.length cap] 107)
    rwa [World.size_alloc] at this
  have hc2 : ((w.alloc (.cells #[.pointer (some ⟨x, 0, none⟩)] 170)).alloc (.cells #[.slice (some ⟨g, 0, none⟩) q.locals.length cap] 107)).cell? ⟨w.heap.size + 1, 0, none⟩ = some (.slice (some ⟨g, 0, none⟩) q.locals.length cap) := by rw [cell_of_heap hB2]; rfl
  have hs2 : ((w.alloc (.cells #[.pointer (some ⟨x, 0, none⟩)] 170)).alloc (.cells #[.slice (some ⟨g, 0, none⟩) q.locals.length cap] 107)).heap.size = w.heap.size + 2 := by simp
  have hw0 := h.old.size
  obtain ⟨W1, hW1⟩ : ∃ W1, ((w.alloc (.cells #[.pointer (some ⟨x, 0, none⟩)] 170)).alloc (.cells #[.slice (some ⟨g, 0, none⟩) q.locals.length cap] 107)) = W1 := ⟨_, rfl⟩
  rw [hW1] at hb2 H2 hB1 hB2 hc2 hs2 ⊢
  refine wpIn_rangeFunc_ownF rfl (by decide) (gf := 157) (lb := #[.pointer (some ⟨w.heap.size + 1, 0, none⟩)]) rfl trivial (enters_of Tryz.func157 (by kernel_rfl) rfl)
    (back_stops _ _ trivial rfl (by decide) (w.heap.size + 1) w0.heap.size g cap q.locals (by omega) hg hcap W1 (by omega) (by omega) hc2 (fun j hj => ⟨(H2.old.cell (p := ⟨g, j * 2, none⟩) hg).trans (hlc j hj).1, (H2.old.cell (p := ⟨g, j * 2 + 1, none⟩) hg).trans (hlc j hj).2⟩))
    (fun h1 h2 => ⟨h1.1.trans h2.1, h2.2.trans h1.2⟩)
    (fun W l ob ob' hl hk hc _ => ⟨belowK_b (w := W1) (by omega) W l ob ob' hl hk hc (by assumption), by
      have hne : W1.heap.size ≤ l := hl
      simp only [World.cell?]
      rw [World.putObj_heap_other (by show w.heap.size + 1 ≠ l; omega)]⟩)
    (Below.refl _ _) (fun _ => rfl)
    (fun pre W => ∃ vm' vt', OAt w0 x a W (dropL q pre o) vi vm' vt' ∧ Roam x vm vt W1 vm' vt' W ∧ W.heap[w.heap.size]? = some (.cells #[.pointer (some ⟨x, 0, none⟩)] 170 (0, 0)) ∧ W.heap[w.heap.size + 1]? = some (.cells #[.slice (some ⟨g, 0, none⟩) q.locals.length cap] 107 (0, 0)))
    (fun _ _ _ => False)
    (fun pre W W' row hs hgr hr => by
      obtain ⟨vm', vt', i1, i2, i3, i4⟩ := hs
      have hr2 : ∀ r, row = some r → ∃ ob : Obj, W.heap[r]? = some ob ∧ ob.isCells = false := fun r e => (hr r e).2
      refine ⟨vm', vt', i1.abide hgr (fun r e => ⟨by have := (hr r e).1; omega, (hr r e).2⟩), i2.abide hgr (fun r e => (hr r e).1), ?_, ?_⟩
      · rw [hgr.block _ (lt_of_heap i3) (cells_ne i3 hr2)]; exact i3
      · rw [hgr.block _ (lt_of_heap i4) (cells_ne i4 hr2)]; exact i4)
    (fun _ _ _ _ _ hs _ _ => hs)
    ⟨vm, vt, H2, Roam.refl _ _ _ _, hB1, hB2⟩
    (fun y => { tmps := #[.pointer (some ⟨x, 0, none⟩), .pointer (some ⟨w.heap.size, 0, none⟩), .int .i64 (y.val : Int), .pointer (some ⟨x, 0, none⟩), .pointer (some ⟨x, 0, none⟩), .pointer (some ⟨x, 3, none⟩), .pointer (some ⟨a, 0, none⟩), .pointer (some ⟨a, 0, none⟩), .pointer (some ⟨a, 0, none⟩), .slice (some ⟨g, 0, none⟩) q.locals.length cap, .func (.func 157) #[] #[.pointer (some ⟨w.heap.size + 1, 0, none⟩)], .int .i64 (y.val : Int), locV q.locals y.val, undef, undef, undef, undef, undef, undef, undef, undef, undef], defers := [] }) ?assign ?body ?done ?stop
  case assign =>
    intro l y W K hK
    unfold encL
    gi_wp2
    exact hK
  case body =>
    rintro l pre y W ⟨vm', vt', i1, i2, i3, i4⟩ hpl
    have hd : 1 ≤ 3 - 1 - 1 := by omega
    have hmx : Tryz.prog.follows .mixedOrders = true := by kernel_rfl
    have c1 : W.cell? ⟨w.heap.size, 0, none⟩ = some (.pointer (some ⟨x, 0, none⟩)) := by rw [cell_of_heap i3]; rfl
    have c3 := i1.prog
    have i1d := i1.drew
    have QW := hq.below i1d.old
    have hyl : y.val < q.locals.length := y.isLt
    have KH : Calls Tryz.prog 102 #[.pointer (some ⟨a, 0, none⟩), .agg #[.int .i64 (y.val : Int), .int .i64 0]] W.drew _ := halves_any q (y.val, 0) _ u a W.drew QW.blk QW.loc hyl
    have hdi := dropL_in q pre hin (by omega)
    have hin2 := halves_in (q := q) (x := (y.val, 0)) (n := 12) (by show y.val < 12; omega)
    have hhl := halves_len q (y.val, 0)
    have KD := fun (V : World) (hV : OAt w0 x a V (dropL q pre o) vi vm' vt') (zz gg cc : Nat) (hP : PlacesAt zz V (.slice (some ⟨gg, 0, none⟩) (QP.halvesQ q (y.val, 0)).length cc) (QP.halvesQ q (y.val, 0))) => drop_any hV hP hin2 (by omega) hdi.bx (hdi.sz (by omega)) (by omega) hpw h11
    have hds := dropL_last q pre y o
    gi_wp2
    gi_region_with_o (first
      | (refine ⟨trivial, ?_⟩; gi_at_call 102; refine (CallsIn.inRound l (callsIn_wide.2 KH)).mono ?_; rintro e w2 ⟨g2, c2, rfl, hP2, h2⟩; have hO2 := i1d.below h2; have d1 : w2.cell? ⟨w.heap.size, 0, none⟩ = some (.pointer (some ⟨x, 0, none⟩)) := (h2.cell (p := ⟨w.heap.size, 0, none⟩) (lt_of_heap i3)).trans c1)
      | (refine ⟨trivial, ?_⟩; gi_at_call 60; refine (CallsIn.inRound l (callsIn_wide.2 (KD _ hO2 _ g2 c2 hP2))).mono ?_; rintro e w3 ⟨rfl, vm3, vt3, h3, r3⟩))
    all_goals gi_wp2
    all_goals
      have r : Roam x vm' vt' W vm3 vt3 w3 := ((Roam.of (drewed W)).trans (Roam.of h2)).trans r3
      have j3 := i1.other' r i3 (by decide) (by decide) (by decide)
      have j4 := i1.other' r i4 (by decide) (by decide) (by decide)
      exact ⟨r.keeps i1, ⟨r.below i1.yat (Nat.le_refl _) i1.old.size, by rw [cell_of_heap j4, cell_of_heap i4]⟩, vm3, vt3, by rw [hds]; exact h3, i2.trans r, j3, j4⟩
  case done =>
    rintro D ys W hD rfl ⟨vm', vt', i1, i2, i3, i4⟩ hK
    have hfin := dropL_all q (N := q.locals.length) o q.locals.length (Nat.le_refl _)
    rw [Nat.sub_self, Own.dropAll] at hfin
    rw [hfin] at i1
    gi_wp2
    refine ⟨by simp, .inl ⟨_, _, rfl, run_takeDeferred hK, ?_⟩⟩
    have hab : ∀ r, some D = some r → W1.heap.size ≤ r ∧ ∃ ob : Obj, W.heap[r]? = some ob ∧ ob.isCells = false := fun r e => by cases e; exact ⟨hD, _, hK, rfl⟩
    exact ⟨_, results_none rfl _ _ _, rfl, vm', vt', i1.abide (grownBy_putObj' W D _) (fun r e => ⟨by have := (hab r e).1; omega, (hab r e).2⟩), ((Roam.of hb2).trans i2).abide (grownBy_putObj' W D _) (fun r e => by have := (hab r e).1; omega)⟩
  case stop =>
    rintro D c pre W _ _ hx _
    exact hx.elim
end
end Go.Proofs.YtmlgajhhnojdjaaGreatDoor.Own
/- Plain laws for walks, over whatever program: a scope that is left by gotos forward: each goto goes on at its label. -/
namespace Go.Proofs.YtmlgajhhnojdjaaGreatDoor.Aux
open Go

/-- As Q; by a goto: on from its label, with no goto more. -/
def goTo (P : Program) (c : Code) (Q : Exit → Act → World → Prop) : Exit → Act → World → Prop
  | .goto l, a, w => ∃ r, findLabel c l = some r ∧ r.wp P (Exit.noGoto Q) a w
  | e, a, w => Q e a w
section
variable {P : Program} {a : Act} {w : World} {Q : Exit → Act → World → Prop} {c : Code}
theorem wp_scope_go (h : c.wp P (goTo P c Q) a w) : (Code.scope c).wp P Q a w := by
  intro b k cs
  obtain ⟨e, a₁, w₁, hq, harr⟩ := h b (.inScope c :: k) cs
  cases e with
  | normal => exact ⟨.normal, a₁, w₁, hq, .head step_scope (Steps.trans harr (.one step_inScope))⟩
  | exit id => exact ⟨.exit id, a₁, w₁, hq, fun k' hk => .head step_scope (harr k' (by simp [exitTo, hk]))⟩
  | goto l =>
    obtain ⟨r, hf, hr⟩ := hq
    have hg : gotoIn l (.inScope c :: k) = some (.code r :: .inScope c :: k) := by simp [gotoIn, hf]
    obtain ⟨e₂, a₂, w₂, hq₂, harr₂⟩ := hr b (.inScope c :: k) cs
    have h1 := harr _ hg
    cases e₂ with
    | normal => exact ⟨.normal, a₂, w₂, hq₂, .head step_scope (Steps.trans h1 (Steps.trans harr₂ (.one step_inScope)))⟩
    | exit id => exact ⟨.exit id, a₂, w₂, hq₂, fun k' hk => .head step_scope (Steps.trans h1 (harr₂ k' (by simp [exitTo, hk])))⟩
    | goto l' => exact hq₂.elim
    | ret => exact ⟨_, a₂, w₂, hq₂, .of_steps (.head step_scope h1) harr₂⟩
    | panic ch => exact ⟨_, a₂, w₂, hq₂, .of_steps (.head step_scope h1) harr₂⟩
    | outgrown => exact ⟨_, a₂, w₂, hq₂, .of_steps (.head step_scope h1) harr₂⟩
  | ret => exact ⟨_, a₁, w₁, hq, .of_steps (.one step_scope) harr⟩
  | panic ch => exact ⟨_, a₁, w₁, hq, .of_steps (.one step_scope) harr⟩
  | outgrown => exact ⟨_, a₁, w₁, hq, .of_steps (.one step_scope) harr⟩
/-- As Q; by a goto to l: J l. -/
def jumpTo (J : Nat → Act → World → Prop) (Q : Exit → Act → World → Prop) : Exit → Act → World → Prop
  | .goto l, a, w => J l a w
  | e, a, w => Q e a w
/-- the labels' code under one name: what is asked at a goto is not written out -/
theorem wp_scope_to (h : ∀ J : Nat → Act → World → Prop, (∀ l r a w, findLabel c l = some r → r.wp P (Exit.noGoto Q) a w → J l a w) → c.wp P (jumpTo J Q) a w) : (Code.scope c).wp P Q a w := by
  refine wp_scope_go ?_
  have := h (fun l a w => ∃ r, findLabel c l = some r ∧ r.wp P (Exit.noGoto Q) a w) (fun l r a w h1 h2 => ⟨r, h1, h2⟩)
  refine Code.wp_mono (fun e a w he => ?_) this
  cases e <;> exact he
end
end Go.Proofs.YtmlgajhhnojdjaaGreatDoor.Aux
/- The project's machine that owns, made: as rules for a walk, its cells behind a name. -/
namespace Go.Proofs.YtmlgajhhnojdjaaGreatDoor.Own
open Go Go.RowKit Go.Proofs.YtmlgajhhnojdjaaGreatDoor.Spec Go.Proofs.YtmlgajhhnojdjaaGreatDoor.Aux Go.Proofs.YtmlgajhhnojdjaaGreatDoor.PrjJ Go.Proofs.YtmlgajhhnojdjaaGreatDoor.PrjK Go.Proofs.YtmlgajhhnojdjaaGreatDoor.PrjL Go.Proofs.YtmlgajhhnojdjaaGreatDoor.PrjM Go.Proofs.YtmlgajhhnojdjaaGreatDoor.FlwA Go.Proofs.YtmlgajhhnojdjaaGreatDoor.FlwB

/-- a machine's cells as they are made -/
def ownCells (u v : Value) : List Value := [.slice none 0 0, .int .i64 0, .slice none 0 0, u, v] ++ List.replicate 36 (.int .i64 0)
def isPtr (v : Value) : Prop := ∃ p, v = .pointer p
def isSl (v : Value) : Prop := ∃ ad l c, v = .slice ad l c
@[simp] theorem isPtr_ptr (p : Option Addr) : isPtr (.pointer p) = True := eq_true ⟨p, rfl⟩
@[simp] theorem isSl_sl (ad : Option Addr) (l c : Nat) : isSl (.slice ad l c) = True := eq_true ⟨ad, l, c, rfl⟩
theorem run_build_own (p ad : Option Addr) (l c : Nat) (w : World) : (Instr.build 104 #[(1, .pointer p), (2, .slice ad l c)]).run Tryz.prog w = .ok (.agg (ownCells (.pointer p) (.slice ad l c)).toArray) w := by
  kernel_rfl
theorem run_alloc_own (w : World) : (Instr.alloc 104 true (.tuple #[])).run Tryz.prog w = .ok (.pointer (some ⟨w.heap.size, 0, none⟩)) (w.alloc (.cells (ownCells (.pointer none) (.slice none 0 0)).toArray 104)) := by
  kernel_rfl
theorem own_len (u v : Value) : (ownCells u v).length = 41 := rfl
theorem info_owner : (Tryz.prog.info? 104).map (·.size) = some 41 := by kernel_rfl
def isOwn (v : Value) : Prop := ∃ p ad l c, v = .agg (ownCells (.pointer p) (.slice ad l c)).toArray
@[simp] theorem isOwn_own (p ad : Option Addr) (l c : Nat) : isOwn (.agg (ownCells (.pointer p) (.slice ad l c)).toArray) = True := eq_true ⟨p, ad, l, c, rfl⟩
def aggV : Value → List Value
  | .agg xs => xs.toList
  | _ => []
@[simp] theorem aggV_own (u v : Value) : aggV (.agg (ownCells u v).toArray) = ownCells u v := rfl
def RoomOwn (w : World) (v : Value) : Prop := ∃ b, v = .pointer (some ⟨b, 0, none⟩) ∧ w.there b 0 41
def blkOf : Value → Nat
  | .pointer (some ad) => ad.block
  | _ => 0
@[simp] theorem blkOf_ptr (ad : Addr) : blkOf (.pointer (some ad)) = ad.block := rfl
theorem own_one (p ad : Option Addr) (l c : Nat) : ∀ u ∈ ownCells (.pointer p) (.slice ad l c), u.oneCell' = true := by
  intro u hu
  simp only [ownCells, List.cons_append, List.nil_append, List.mem_cons, List.mem_replicate] at hu
  rcases hu with rfl | rfl | rfl | rfl | rfl | ⟨-, rfl⟩ <;> rfl
section
variable (d : Option Tmp) (x y : Operand) (t : TypeId) (ps : String) (af : Array Edge) (g : Option (Nat × Bool)) (a : Act) (w : World) (K : Act → World → Prop) (Q : Exit → Act → World → Prop)
theorem wp_build_own (h : isPtr (a.eval x)) (h' : isSl (a.eval y)) : Oper.wp Tryz.prog { dst := d, op := Op.build 104 #[(1, x), (2, y)], type := t, pos := ps, after := af, guard := g } a w K Q = K (a.put d (.agg (ownCells (a.eval x) (a.eval y)).toArray)) w := by
  obtain ⟨p, hp⟩ := h
  obtain ⟨ad, l, c, hs⟩ := h'
  have := run_build_own p ad l c w
  unfold Oper.wp execOp
  simp only [List.map_toArray, List.map_cons, List.map_nil, hp, hs, Sem.run_bind, Sem.run_pure, Result.andThen_ok, this]
  rfl
theorem wp_alloc_own : Oper.wp Tryz.prog { dst := d, op := Op.alloc 104, type := t, pos := ps, after := af, guard := g } a w K Q = K (a.put d (.pointer (some ⟨w.heap.size, 0, none⟩))) (w.alloc (.cells (ownCells (.pointer none) (.slice none 0 0)).toArray 104)) := by
  have := run_alloc_own w
  unfold Oper.wp execOp
  simp only [Sem.run_bind, Sem.run_pure, Result.andThen_ok, this]
  rfl
theorem wp_store_own (h : RoomOwn w (a.eval x)) (h' : isOwn (a.eval y)) : Oper.wp Tryz.prog { dst := d, op := Op.store 104 x y, type := t, pos := ps, after := af, guard := g } a w K Q = K (a.put d undef) (w.setCells (blkOf (a.eval x)) 0 (aggV (a.eval y))) := by
  obtain ⟨b, hb, hh⟩ := h
  obtain ⟨p, ad, l, c, hy⟩ := h'
  have := run_storeAt_mid (P := Tryz.prog) w b 0 104 (ownCells (.pointer p) (.slice ad l c)).toArray hh info_owner (all_oneCell_toArray (own_one p ad l c))
  unfold Oper.wp execOp
  simp only [hb, hy, Sem.run_bind, Sem.run_pure, Result.andThen_ok, this]
  rfl
/-- a machine as it is made -/
theorem roomOwn_new (w : World) (u v : Value) : RoomOwn (w.alloc (.cells (ownCells u v).toArray 104)) (.pointer (some ⟨w.heap.size, 0, none⟩)) := by
  refine ⟨_, rfl, fun j hj => ?_⟩
  have h : (w.alloc (.cells (ownCells u v).toArray 104)).heap[w.heap.size]? = some (.cells (ownCells u v).toArray 104 (0, 0)) := Array.getElem?_push_size
  refine ⟨?_, frozen_of_heap h _⟩
  rw [cell_of_heap h, Nat.zero_add]
  simp only [List.getElem?_toArray]
  rw [List.getElem?_eq_getElem (by rw [own_len]; exact hj)]; rfl
end
theorem own_new (w : World) (u v u' v' : Value) : ((w.alloc (.cells (ownCells u v).toArray 104)).setCells w.heap.size 0 (ownCells u' v')).heap[w.heap.size]? = some (.cells (ownCells u' v').toArray 104 (0, 0)) ∧ Below w.heap.size w ((w.alloc (.cells (ownCells u v).toArray 104)).setCells w.heap.size 0 (ownCells u' v')) := by
  have h : (w.alloc (.cells (ownCells u v).toArray 104)).heap[w.heap.size]? = some (.cells (ownCells u v).toArray 104 (0, 0)) := Array.getElem?_push_size
  refine ⟨?_, below_setCells ((Below.refl _ _).alloc (Nat.le_refl _) _) (Nat.le_refl _) _ _⟩
  obtain ⟨cs', h1, h2, h3⟩ := heap_setCells w.heap.size (ownCells u' v') 0 _ _ _ _ h
  have e : cs' = (ownCells u' v').toArray := by
    apply Array.ext_getElem?
    intro j
    rw [h3]
    by_cases hj : j < 41
    · rw [if_pos (by simp [own_len]; exact hj)]; simp
    · rw [if_neg (by simp [own_len]; omega), Array.getElem?_eq_none (by simp [own_len]; omega), Array.getElem?_eq_none (by simp [own_len]; omega)]
  rw [h1, e]
end Go.Proofs.YtmlgajhhnojdjaaGreatDoor.Own
