/- What a line takes of a state, and what it makes of one. -/
import Derived.Test.YtmlgajhhnojdjaaGreatDoorKAN
import Derived.Test.YtmlgajhhnojdjaaGreatDoorKAM
import Derived.Deep.DeepFit
namespace Go.Proofs.YtmlgajhhnojdjaaGreatDoor.FlwE
open Go Go.RowKit Go.Proofs.YtmlgajhhnojdjaaGreatDoor.Spec Go.Proofs.YtmlgajhhnojdjaaGreatDoor.Aux Go.Proofs.YtmlgajhhnojdjaaGreatDoor.PrjF Go.Proofs.YtmlgajhhnojdjaaGreatDoor.PrjG Go.Proofs.YtmlgajhhnojdjaaGreatDoor.PrjJ Go.Proofs.YtmlgajhhnojdjaaGreatDoor.PrjK Go.Proofs.YtmlgajhhnojdjaaGreatDoor.PrjL Go.Proofs.YtmlgajhhnojdjaaGreatDoor.PrjM Go.Proofs.YtmlgajhhnojdjaaGreatDoor.PrjN Go.Proofs.YtmlgajhhnojdjaaGreatDoor.PrjO Go.Proofs.YtmlgajhhnojdjaaGreatDoor.PrjP Go.Proofs.YtmlgajhhnojdjaaGreatDoor.PrjR Go.Proofs.YtmlgajhhnojdjaaGreatDoor.PrjS Go.Proofs.YtmlgajhhnojdjaaGreatDoor.PrjT Go.Proofs.YtmlgajhhnojdjaaGreatDoor.FlwA Go.Proofs.YtmlgajhhnojdjaaGreatDoor.FlwB Go.Proofs.YtmlgajhhnojdjaaGreatDoor.FlwC Go.Proofs.YtmlgajhhnojdjaaGreatDoor.FlwD

/-- a program as far as the flow of one line asks: its locals -/
structure PQ (w : World) (a : Nat) (q : QP) (v u : Value) : Prop where
  blk : w.heap[a]? = some (.cells #[v, u] 110 (0, 0))
  loc : LocAt w v q.locals
theorem own_turn {w w' : World} {z b : Nat} {e : TypeId} {sz n : Nat} {v : Value} {xs : List Value} (h : w.ownsRow z e sz v n xs) (hT : Turn b w w') {cs : Array Value} {t : TypeId} {f : Nat × Nat} (hb : w.heap[b]? = some (.cells cs t f)) (he : e ≠ t) : w'.ownsRow z e sz v n xs :=
  own_heap h fun g hg => hT.block g (h.lt g hg).2 fun x => by subst x; exact own_at_ne h hb he hg
section
variable {w w' : World} {a b : Nat} {q : QP} {v u : Value} {s : List Nat}
theorem PQ.below (h : PQ w a q v u) (hb : Below w.heap.size w w') : PQ w' a q v u := ⟨by rw [hb.block a (lt_of_heap h.blk)]; exact h.blk, h.loc.below hb⟩
theorem PQ.turn (h : PQ w a q v u) (hT : Turn b w w') (hs : StAt w b s) : PQ w' a q v u := by
  refine ⟨?_, ?_⟩
  · rw [hT.block a (lt_of_heap h.blk) (fun x => by
      have h1 := h.blk; rw [x, hs.2] at h1; simp only [Option.some.injEq, Obj.cells.injEq] at h1; exact absurd h1.2.1 (by decide))]
    exact h.blk
  · obtain ⟨z, hz⟩ := h.loc
    exact ⟨z, own_turn hz hT hs.2 (by decide)⟩
theorem line_turn {z : Nat} {l : QLine} {vp vn : Value} (h : LineAt z w l vp vn) (hT : Turn b w w') (hs : StAt w b s) : LineAt z w' l vp vn :=
  ⟨own_turn h.places hT hs.2 (by decide), own_turn h.next hT hs.2 (by decide)⟩
end
def takeQ (q : QP) (l : QLine) (s : List Nat) : List Nat :=
  if l.op = 12 then takeL (QP.halvesQ q (l.places.getD 1 (0, 0))) s else if l.op = 14 then takeL [l.places.getD 1 (0, 0)] s else s
theorem place_at {z : Nat} {w : World} {ap : Option Addr} {cp : Nat} {l : QLine} {vn : Value} (h : LineAt z w l (.slice ap l.places.length cp) vn) {n : Nat} (hn : l.places.length = n) (j : Nat) (hj : j < n) :
    ∃ g, ap = some ⟨g, 0, none⟩ ∧ n ≤ cp ∧ g < w.heap.size ∧ w.cell? ⟨g, j * 2, none⟩ = some (.int .i64 ((l.places.getD j (0, 0)).1 : Nat)) ∧ w.cell? ⟨g, j * 2 + 1, none⟩ = some (.int .i64 ((l.places.getD j (0, 0)).2 : Nat)) := by
  obtain ⟨g, e, -, hc, hg, c1, c2⟩ := places_cells h.places j (by omega)
  exact ⟨g, e, by omega, hg, c1, c2⟩
set_option maxRecDepth 20000 in
set_option maxHeartbeats 1000000 in
theorem take_line (q : QP) (l : QLine) (nb z a b : Nat) (v u : Value) (ap an : Option Addr) (cp cn : Nat) (s : List Nat) (w : World) (hp : PQ w a q v u) (hls : q.locals.length ≤ 12) (hl : LOk q.locals.length nb l)
    (hA : LineAt z w l (.slice ap l.places.length cp) (.slice an l.next.length cn)) (hs : StAt w b s) :
    Calls Tryz.prog 125 #[.pointer (some ⟨b, 0, none⟩), .pointer (some ⟨a, 0, none⟩), .agg #[.int .i64 (l.num : Nat), .int .i64 (l.op : Nat), .slice ap l.places.length cp, .int .i64 l.number, .int .i64 l.flag, .slice an l.next.length cn]] w fun e w' => e = .returned (.tuple #[]) ∧ StAt w' b (takeQ q l s) ∧ Turn b w w' := by
  have hbA : Below w.heap.size w (w.alloc (.cells #[.int .i64 (l.num : Nat), .int .i64 (l.op : Nat), .slice ap l.places.length cp, .int .i64 l.number, .int .i64 l.flag, .slice an l.next.length cn] 115)) := (Below.refl _ _).alloc (Nat.le_refl _) _
  by_cases h12 : l.op = 12
  · have hlen : l.places.length = 2 := by rw [hl.plen, h12]; rfl
    obtain ⟨g, rfl, hcp, hg, c1, c2⟩ := place_at hA hlen 1 (by omega)
    have d1 := (hbA.cell (p := ⟨g, 2, none⟩) hg).trans c1
    have d2 := (hbA.cell (p := ⟨g, 3, none⟩) hg).trans c2
    have hx := (hl.places (l.places.getD 1 (0, 0)) (by simp [hlen])).1
    have hr : takeQ q l s = takeL (QP.halvesQ q (l.places.getD 1 (0, 0))) s := by rw [takeQ, if_pos h12]
    have b12 : (((l.op : Nat) : Int) == 12) = true := by rw [h12]; rfl
    have hpA := hp.below hbA
    have KH := halves_any q (l.places.getD 1 (0, 0)) v u a _ hpA.blk hpA.loc hx
    rw [hr]
    clear hr c1 c2
    generalize l.places.getD 1 (0, 0) = x at *
    have KT := fun (W : World) (g c : Nat) (hb : Below w.heap.size w W) (z : Nat) (hP : PlacesAt z W (.slice (some ⟨g, 0, none⟩) (QP.halvesQ q x).length c) (QP.halvesQ q x)) => take_any b z _ c _ (QP.halvesQ q x) s W (hs.below hb hs.lt) hP (halves_in (by omega))
    have hop : Hid (l.op = 12) := h12
    rw [hlen] at hbA d1 d2 KH ⊢
    clear h12
    go_enter Tryz.func125, Tryz.ntmps125
    go_wp2_with (first
      | (go_at_call 102; refine KH.mono ?_; rintro e w2 ⟨g2, c2, rfl, hP2, hb2⟩; have hB2 := hbA.trans (hb2.mono hbA.size))
      | (go_at_call 174; refine (KT w2 g2 c2 hB2 _ hP2).mono ?_; rintro e w3 ⟨rfl, hS3, hT3⟩))
    go_end0
    exact ⟨rfl, hS3, (Turn.of hB2).trans hT3⟩
  · have b12 : (((l.op : Nat) : Int) == 12) = false := by rw [beq_eq_false_iff_ne]; omega
    by_cases h14 : l.op = 14
    · have hlen : l.places.length = 2 := by rw [hl.plen, h14]; rfl
      obtain ⟨g, rfl, hcp, hg, c1, c2⟩ := place_at hA hlen 1 (by omega)
      have d1 := (hbA.cell (p := ⟨g, 2, none⟩) hg).trans c1
      have d2 := (hbA.cell (p := ⟨g, 3, none⟩) hg).trans c2
      have hx := (hl.places (l.places.getD 1 (0, 0)) (by simp [hlen])).1
      have hr : takeQ q l s = takeL [l.places.getD 1 (0, 0)] s := by rw [takeQ, if_neg h12, if_pos h14]
      have b14 : (((l.op : Nat) : Int) == 14) = true := by rw [h14]; rfl
      rw [hr]
      clear hr c1 c2
      generalize l.places.getD 1 (0, 0) = x at *
      rw [hlen] at hbA d1 d2 ⊢
      have hbB := hbA.alloc hbA.size (.cells #[.int .i64 (x.1 : Nat), .int .i64 (x.2 : Nat)] 119)
      have KT := take_any b _ 1 1 _ [x] s _ (hs.below hbB hs.lt) (place_one (w.alloc (.cells #[.int .i64 (l.num : Nat), .int .i64 (l.op : Nat), .slice (some ⟨g, 0, none⟩) 2 cp, .int .i64 l.number, .int .i64 l.flag, .slice an l.next.length cn] 115)) x (n := w.heap.size + 1) (by simp)) (fun y hy => by simp only [List.mem_singleton] at hy; subst hy; omega)
      clear h12 h14
      go_enter Tryz.func125, Tryz.ntmps125
      go_wp2_with (go_at_call 174; refine KT.mono ?_; rintro e w3 ⟨rfl, hS3, hT3⟩)
      go_end0
      exact ⟨rfl, hS3, (Turn.of hbB).trans hT3⟩
    · have b14 : (((l.op : Nat) : Int) == 14) = false := by rw [beq_eq_false_iff_ne]; omega
      have hr : takeQ q l s = s := by rw [takeQ, if_neg h12, if_neg h14]
      rw [hr]
      clear hr h12 h14
      go_enter Tryz.func125, Tryz.ntmps125
      go_wp2
      go_end0
      exact ⟨rfl, hs.below hbA hs.lt, Turn.of hbA⟩
end Go.Proofs.YtmlgajhhnojdjaaGreatDoor.FlwE
/- The project's machine that owns: inputs taken; places emptied. -/
namespace Go.Proofs.YtmlgajhhnojdjaaGreatDoor.Own
open Go Go.RowKit Go.Proofs.YtmlgajhhnojdjaaGreatDoor.Spec Go.Proofs.YtmlgajhhnojdjaaGreatDoor.Aux Go.Proofs.YtmlgajhhnojdjaaGreatDoor.PrjJ Go.Proofs.YtmlgajhhnojdjaaGreatDoor.PrjK Go.Proofs.YtmlgajhhnojdjaaGreatDoor.PrjL Go.Proofs.YtmlgajhhnojdjaaGreatDoor.PrjM Go.Proofs.YtmlgajhhnojdjaaGreatDoor.PrjS Go.Proofs.YtmlgajhhnojdjaaGreatDoor.PrjT Go.Proofs.YtmlgajhhnojdjaaGreatDoor.FlwA Go.Proofs.YtmlgajhhnojdjaaGreatDoor.FlwB Go.Proofs.YtmlgajhhnojdjaaGreatDoor.FlwE

section
variable {x a : Nat} {w w0 : World} {vm vt vi : Value} {o : Own}
theorem OAt.fd (h : OAt w0 x a w o vi vm vt) : w.cell? ⟨x, 4, none⟩ = some vi ∧ w.frozen? ⟨x, 4, none⟩ = false := h.yat.more 1
theorem OAt.setFeed (h : OAt w0 x a w o vi vm vt) {vi' : Value} {l : List Int} (hf : FeedAt w0 vi' l) : OAt w0 x a (w.setCell ⟨x, 4, none⟩ vi') { o with inp := l } vi' vm vt ∧ Roam x vm vt w vm vt (w.setCell ⟨x, 4, none⟩ vi') := by
  obtain ⟨h1, h2⟩ := h.yat.setRest 1 vi'
  exact ⟨⟨h1, h.old.trans (h2.below h.yat (Nat.le_refl _) h.old.size), h.ints, h.boxes, hf⟩, h2⟩
theorem FeedAt.tail {v : Int} {r : List Int} {g f c : Nat} (h : FeedAt w0 (.slice (some ⟨g, f, none⟩) (v :: r).length c) (v :: r)) : FeedAt w0 (.slice (some ⟨g, f + 1, none⟩) r.length (c - 1)) r := by
  obtain ⟨ad, c', e, h1, h2, h3⟩ := h
  simp only [Value.slice.injEq] at e
  obtain ⟨rfl, -, rfl⟩ := e
  simp only [List.length_cons] at h1
  refine ⟨_, _, rfl, by omega, by omega, fun j hj => ?_⟩
  obtain ⟨g', f', e, hg, hc⟩ := h3 (j + 1) (by simp; omega)
  simp only [Option.some.injEq, Addr.mk.injEq, and_true] at e
  obtain ⟨rfl, rfl⟩ := e
  exact ⟨g, f + 1, rfl, hg, by rw [show f + 1 + j = f + (j + 1) by omega, hc]; rfl⟩
set_option maxRecDepth 20000 in
theorem feed_any (h : OAt w0 x a w o vi vm vt) :
    Calls Tryz.prog 103 #[.pointer (some ⟨x, 4, none⟩)] w fun e w' => e = .returned (.int .i64 (o.inp.headD 0)) ∧ ∃ vi', OAt w0 x a w' { o with inp := o.inp.tail } vi' vm vt ∧ Roam x vm vt w vm vt w' := by
  obtain ⟨c4, f4⟩ := h.fd
  have hF := h.feed
  cases hin : o.inp with
  | nil =>
    rw [hin] at hF
    obtain ⟨ad, c, rfl, h1, h2, -⟩ := hF
    have hO : { o with inp := ([] : List Int) } = o := by rw [← hin]
    go_enter Tryz.func103, Tryz.ntmps103
    go_wp2
    go_ret
    exact ⟨rfl, _, by rw [List.tail_nil, hO]; exact h, Roam.refl _ _ _ _⟩
  | cons v r =>
    rw [hin] at hF
    have hF' := hF
    obtain ⟨ad, c, rfl, h1, h2, h3⟩ := hF
    obtain ⟨g, f, rfl, hg, hc⟩ := h3 0 (by simp)
    have hT := FeedAt.tail hF'
    obtain ⟨h5, h6⟩ := h.setFeed hT
    have c0 : w.cell? ⟨g, f, none⟩ = some (.int .i64 v) := by
      rw [Nat.add_zero] at hc
      exact (h.old.cell (p := ⟨g, f, none⟩) hg).trans hc
    simp only [List.length_cons] at h1 h2 h5 c4
    have i0 : ¬ ((r.length : Int) + 1 = 0) := by omega
    have i1 : (((r.length : Int) + 1) == 0) = false := by rw [beq_eq_false_iff_ne]; omega
    have i2 : (1 : Int) ≤ (r.length : Int) + 1 := by omega
    have hcI : (r.length : Int) + 1 ≤ (c : Int) := by omega
    unfold maxLen at h2
    by_cases hc1 : c = 1
    · subst hc1
      have hr : r = [] := List.length_eq_zero_iff.mp (by omega)
      subst hr
      have hT0 : FeedAt w0 (.slice (some ⟨g, f, none⟩) 0 0) [] := ⟨_, _, rfl, Nat.le_refl _, Nat.zero_le _, fun j hj => absurd hj (Nat.not_lt_zero _)⟩
      obtain ⟨k5, k6⟩ := h.setFeed hT0
      go_enter Tryz.func103, Tryz.ntmps103
      go_wp2
      go_ret
      exact ⟨rfl, _, k5, k6⟩
    · have hc2 : ¬ c - 1 = 0 := by omega
      have hc3 : ¬ c ≤ 1 := by omega
      go_enter Tryz.func103, Tryz.ntmps103
      go_wp2
      go_ret
      exact ⟨rfl, _, h5, h6⟩
end
/-- places emptied, one by one -/
def Own.clear (o : Own) (p : Nat × Nat) : Own := { o with boxes := o.boxes.set (slotQ p) 0 }
def Own.take : List (Nat × Nat) → Own → List Nat × Own
  | [], o => ([], o)
  | p :: ps, o => (o.box p :: (Own.take ps (o.clear p)).1, (Own.take ps (o.clear p)).2)
theorem take_last : ∀ (ps : List (Nat × Nat)) (p : Nat × Nat) (o : Own), Own.take (ps ++ [p]) o = ((Own.take ps o).1 ++ [(Own.take ps o).2.box p], (Own.take ps o).2.clear p)
  | [], _, _ => rfl
  | q :: ps, p, o => by rw [List.cons_append, Own.take, take_last ps p, Own.take]; rfl
end Go.Proofs.YtmlgajhhnojdjaaGreatDoor.Own
/- The project's machine that owns: places emptied, walked. -/
namespace Go.Proofs.YtmlgajhhnojdjaaGreatDoor.Own
open Go Go.RowKit Go.Proofs.YtmlgajhhnojdjaaGreatDoor.Spec Go.Proofs.YtmlgajhhnojdjaaGreatDoor.Aux Go.Proofs.YtmlgajhhnojdjaaGreatDoor.PrjJ Go.Proofs.YtmlgajhhnojdjaaGreatDoor.PrjK Go.Proofs.YtmlgajhhnojdjaaGreatDoor.PrjL Go.Proofs.YtmlgajhhnojdjaaGreatDoor.PrjM Go.Proofs.YtmlgajhhnojdjaaGreatDoor.PrjS Go.Proofs.YtmlgajhhnojdjaaGreatDoor.PrjT Go.Proofs.YtmlgajhhnojdjaaGreatDoor.FlwA Go.Proofs.YtmlgajhhnojdjaaGreatDoor.FlwB Go.Proofs.YtmlgajhhnojdjaaGreatDoor.FlwE

theorem info_i : (Tryz.prog.info? 3).map (fun i => (i.zero, i.size, i.bytes)) = some (some (.int .i64 0), 1, 8) := by kernel_rfl
theorem take_step {ps : List (Nat × Nat)} {k : Nat} (hk : k < ps.length) (o : Own) : Own.take (ps.take (k + 1)) o = ((Own.take (ps.take k) o).1 ++ [(Own.take (ps.take k) o).2.box (ps.getD k (0, 0))], (Own.take (ps.take k) o).2.clear (ps.getD k (0, 0))) := by
  have e : ps.take (k + 1) = ps.take k ++ [ps.getD k (0, 0)] := by
    rw [List.take_add_one, List.getElem?_eq_getElem hk, List.getD_eq_getElem?_getD, List.getElem?_eq_getElem hk]; rfl
  rw [e, take_last]
theorem take_len : ∀ (ps : List (Nat × Nat)) (o : Own), (Own.take ps o).1.length = ps.length
  | [], _ => rfl
  | p :: ps, o => by rw [Own.take]; simp [take_len ps]
section
variable {x a : Nat} {w w0 w1 : World} {vm vt vi : Value} {o : Own}
theorem Roam.turn (h : Turn x w w1) : Roam x vm vt w vm vt w1 := ⟨h.os, h.tape, h.output, h.size, fun k hk h1 _ _ => h.block k hk h1, fun _ h => .inl h, fun _ h => .inl h⟩
theorem OAt.grown (h : OAt w0 x a w o vi vm vt) {b n : Nat} {v : Value} {xs : List Value} (hb : w0.heap.size ≤ b) (hr : w.ownsRow b 3 1 v n xs) (hg : w.grownBy w1 v.ownBlock) : OAt w0 x a w1 o vi vm vt := by
  refine ⟨⟨h.yat.base, h.yat.ty, ?_, h.yat.made.kept hg (own_ne h.yat.made hr (by decide)), h.yat.trace.kept hg (own_ne h.yat.trace hr (by decide))⟩, h.old.trans ⟨hg.os, hg.tape, hg.output, hg.size, fun k hk => hg.block k (Nat.lt_of_lt_of_le hk h.old.size) (fun e => ?_)⟩, h.ints, h.boxes, h.feed⟩
  · rw [hg.block x h.lt (own_type_ne hr h.yat.blk (by decide))]; exact h.yat.blk
  · have := (hr.lt k e.symm).1; omega
theorem turn_grown (h : Turn x w w1) {w2 : World} {b n : Nat} {e : TypeId} {v : Value} {xs : List Value} (hb : w.heap.size ≤ b) (hr : w1.ownsRow b e 1 v n xs) (hg : w1.grownBy w2 v.ownBlock) : Turn x w w2 :=
  ⟨hg.os.trans h.os, hg.tape.trans h.tape, hg.output.trans h.output, Nat.le_trans h.size hg.size, fun k hk h1 => (hg.block k (Nat.lt_of_lt_of_le hk h.size) (fun e => by have := (hr.lt k e.symm).1; omega)).trans (h.block k hk h1)⟩
theorem OAt.clear (h : OAt w0 x a w o vi vm vt) (p : Nat × Nat) : OAt w0 x a (w.setCell ⟨x, 17 + slotQ p, none⟩ (.int .i64 0)) (o.clear p) vi vm vt := (h.setBx (slotQ p) 0).1
set_option maxRecDepth 20000 in
set_option maxHeartbeats 2000000 in
theorem otake_any {z n c : Nat} {ad : Option Addr} {ps : List (Nat × Nat)} (h : OAt w0 x a w o vi vm vt) (hp : PlacesAt z w (.slice ad n c) ps) (hx : ∀ p ∈ ps, p.1 < 12) (hps : ps.length ≤ 1000) :
    Calls Tryz.prog 96 #[.pointer (some ⟨x, 0, none⟩), .slice ad n c] w fun e w' => ∃ v, e = .returned v ∧ w'.ownsRow w.heap.size 3 1 v ps.length (boxVals (Own.take ps o).1) ∧ OAt w0 x a w' (Own.take ps o).2 vi vm vt ∧ Turn x w w' := by
  have hn : n = ps.length := by
    obtain ⟨ad', c', e⟩ := PrjP.own_slice hp
    simp only [Value.slice.injEq] at e; exact e.2.1
  have hlen : ps.length ≤ maxLen := by
    rcases hp.2 with ⟨-, h⟩ | ⟨g, cap, cur, -, -, -, h1, h2, -⟩
    · omega
    · omega
  unfold maxLen at hlen
  subst hn
  obtain ⟨i, hi, hz0, hz1, hz2⟩ := info_parts info_i
  go_enter Tryz.func96, Tryz.ntmps96
  go_wp2
  go_loopg [5, 10] (ps.length) (fun g v5 v10 wr => ∃ (k : Nat), k ≤ ps.length ∧ g + k = ps.length ∧ v10 = .int .i64 k ∧ OAt w0 x a wr (Own.take (ps.take k) o).2 vi vm vt ∧ wr.ownsRow w.heap.size 3 1 v5 k (boxVals (Own.take (ps.take k) o).1) ∧ Turn x w wr)
  case atStart => exact ⟨0, Nat.zero_le _, rfl, rfl, h, World.ownsRow_nil _ _ _ _, Turn.refl _ _⟩
  case round =>
    obtain ⟨k, hk, hgk, rfl, hO, hR, hT⟩ := hrel
    by_cases hlt : k < ps.length
    · have hpr : PlacesAt z wr (.slice ad ps.length c) ps := own_heap hp fun g hg => hT.block g (hp.lt g hg).2 fun e => by
        subst e; exact own_at_ne hp h.yat.blk (by decide) hg
      obtain ⟨gp, rfl, -, hcp, hgp, c1, c2⟩ := places_cells hpr k hlt
      have hx1 := hx (ps.getD k (0, 0)) (by simp [hlt])
      have HS := take_step hlt o
      generalize ps.getD k (0, 0) = p at *
      generalize (Own.take (ps.take k) o).2 = ok at *
      generalize (Own.take (ps.take k) o).1 = tk at *
      have hbx : Below wr.heap.size wr (wr.alloc (.cells #[.int .i64 (p.1 : Nat), .int .i64 (p.2 : Nat)] 119)) := (Below.refl _ _).alloc (Nat.le_refl _) _
      have hOx := hO.below hbx
      have KB := box_any hOx p hx1
      have hkI : (k : Int) < ps.length := by omega
      obtain ⟨ad5, c5, rfl⟩ := PrjP.own_slice hR
      have hszr : w.heap.size ≤ wr.heap.size := hT.size
      go_upto_region 6 with (first
        | (go_at_call 99; go_fit KB; rintro e w2 ⟨rfl, hb2⟩; have hB2 : Below wr.heap.size wr w2 := hbx.trans (hb2.mono hbx.size); have hbA : Below w2.heap.size w2 (w2.alloc (.cells #[.int .i64 ((ok.box p : Nat) : Int)] 3)) := (Below.refl _ _).alloc (Nat.le_refl _) _; have hRA := own_below (own_below hR hB2) hbA; have hsA : w.heap.size ≤ (w2.alloc (.cells #[.int .i64 ((ok.box p : Nat) : Int)] 3)).heap.size := (by have := hB2.size; have := hbA.size; omega))
        | (at_builtin; go_must (refine append_blk rfl _ _ 113 rfl w.heap.size 3 i (.int .i64 0) 1 8 Tryz.underlying113 hi hz0 hz1 hz2 rfl (by decide) _ _ _ rfl hRA w2.heap.size [.int .i64 ((ok.box p : Nat) : Int)] rfl Array.getElem?_push_size rfl (by intro u' hu; simp at hu; subst hu; rfl) (by decide) (by omega) hsA ?_); intro g4 c4 w4 hown4 hgrow4 hat4 hlt4))
      have hO4 : OAt w0 x a w4 ok vi vm vt := ((hO.below hB2).below hbA).grown h.old.size hRA hgrow4
      have hT4 : Turn x w w4 := turn_grown ((hT.on hB2).on hbA) (Nat.le_refl _) hRA hgrow4
      have hpb : w2.heap[wr.heap.size]? = some (.cells #[.int .i64 (p.1 : Nat), .int .i64 (p.2 : Nat)] 119 (0, 0)) := (hb2.block _ (by simp)).trans Array.getElem?_push_size
      have hpbA := (hbA.block _ (lt_of_heap hpb)).trans hpb
      have hpb4 := (hgrow4.block _ (lt_of_heap hpbA) (own_type_ne hRA hpbA (by decide))).trans hpbA
      have q0 : w4.cell? ⟨wr.heap.size, 0, none⟩ = some (.int .i64 (p.1 : Nat)) := by rw [cell_of_heap hpb4]; rfl
      have q1 : w4.cell? ⟨wr.heap.size, 1, none⟩ = some (.int .i64 (p.2 : Nat)) := by rw [cell_of_heap hpb4]; rfl
      have hsl : slotQ p < 24 := by unfold slotQ; split <;> omega
      have hsi : (slotQ p : Int) < 24 := by omega
      have KS := slot_any p w4.drew (by omega)
      have hrow4 : w4.ownsRow w.heap.size 3 1 (.slice (some ⟨g4, 0, none⟩) (k + 1) c4) (k + 1) (boxVals (tk ++ [ok.box p])) := by simpa [boxVals] using hown4
      clear hgrow4 hown4 hRA hbA hB2 hb2 hpb hpbA hpb4 hbx hOx KB hR c1 c2
      go_region_with (go_at_call 62; go_fit KS; rintro e w5 ⟨rfl, hb5⟩; have hB5 : Below w4.heap.size w4 w5 := ⟨hb5.os, hb5.tape, hb5.output, hb5.size, hb5.block⟩; have hO5 := hO4.below hB5; obtain ⟨s1, s2⟩ := hO5.bx hsl)
      all_goals go_wp2_with fail
      all_goals
        go_roundg (ps.length - (k + 1))
        case measure => omega
        case rel =>
          have hO6 := hO5.clear p
          have hr5 := own_below hrow4 hB5
          have hr6 := own_setCell hr5 (a := ⟨x, 17 + slotQ p, none⟩) (.int .i64 0) (own_at_ne hr5 hO5.yat.blk (by decide))
          exact ⟨k + 1, by omega, by omega, by go_num, by rw [HS]; exact hO6, by rw [HS]; exact hr6, (hT4.on hB5).setCell _ _⟩
    · have hk' : k = ps.length := by omega
      subst hk'
      rw [List.take_length] at hO hR
      obtain ⟨ad5, c5, rfl⟩ := PrjP.own_slice hR
      go_wp2
      go_ret
      exact ⟨_, rfl, hR, hO, hT⟩
end
end Go.Proofs.YtmlgajhhnojdjaaGreatDoor.Own
/- The project's machine that owns: what was in places is freed. -/
namespace Go.Proofs.YtmlgajhhnojdjaaGreatDoor.Own
open Go Go.RowKit Go.Proofs.YtmlgajhhnojdjaaGreatDoor.Spec Go.Proofs.YtmlgajhhnojdjaaGreatDoor.Aux Go.Proofs.YtmlgajhhnojdjaaGreatDoor.PrjJ Go.Proofs.YtmlgajhhnojdjaaGreatDoor.PrjK Go.Proofs.YtmlgajhhnojdjaaGreatDoor.PrjL Go.Proofs.YtmlgajhhnojdjaaGreatDoor.PrjM Go.Proofs.YtmlgajhhnojdjaaGreatDoor.PrjS Go.Proofs.YtmlgajhhnojdjaaGreatDoor.PrjT Go.Proofs.YtmlgajhhnojdjaaGreatDoor.FlwA Go.Proofs.YtmlgajhhnojdjaaGreatDoor.FlwB Go.Proofs.YtmlgajhhnojdjaaGreatDoor.FlwE

/-- a yard, and how much has come about in it at most -/
structure Yd.Sz (y : Yd) (t : Nat) : Prop where
  made : y.made.length ≤ 1000000
  trace : y.trace.length ≤ t
  live : -(t : Int) ≤ y.live ∧ y.live ≤ t
  words : ∀ b ∈ y.trace, b.length ≤ 30
theorem Yd.Sz.ok {y : Yd} {t : Nat} (h : y.Sz t) (ht : t ≤ 9000000) : y.Ok := ⟨h.made, by have := h.trace; omega, by have := h.live; omega, h.words⟩
theorem Yd.Sz.mono {y : Yd} {t u : Nat} (h : y.Sz t) (ht : t ≤ u) : y.Sz u := ⟨h.made, by have := h.trace; omega, by have := h.live; omega, h.words⟩
theorem note_words {y : Yd} {c : UInt8} {n : Int} (hn : -9223372036854775808 ≤ n ∧ n ≤ 9223372036854775807) (h : ∀ b ∈ y.trace, b.length ≤ 30) : ∀ b ∈ (y.note c n).trace, b.length ≤ 30 := by
  intro b hb
  rcases List.mem_append.mp hb with hb | hb
  · exact h b hb
  · rw [List.mem_singleton.mp hb, List.length_cons]
    have := Lib.itoa_length_le n hn.1 hn.2
    omega
theorem Yd.Sz.free {y : Yd} {t : Nat} (h : y.Sz t) {n : Nat} (hn : n ≤ y.made.length) : (y.free n).Sz (t + 1) := by
  have hm := h.made
  refine ⟨by simpa [Yd.free, Yd.note] using hm, by have := h.trace; simp [Yd.free, Yd.note]; omega, by have := h.live; show -((t + 1 : Nat) : Int) ≤ y.live - 1 ∧ y.live - 1 ≤ ((t + 1 : Nat) : Int); omega, ?_⟩
  exact note_words (y := { y with made := y.made.set (n - 1) ((y.at n).1, false), live := y.live - 1 }) (by omega) h.words
theorem free_len (y : Yd) (n : Nat) : (y.free n).made.length = y.made.length := by simp [Yd.free, Yd.note]
def Own.free1 (o : Own) (n : Nat) : Own := if n = 0 then o else { o with yd := o.yd.free n }
def Own.frees : List Nat → Own → Own
  | [], o => o
  | n :: ns, o => Own.frees ns (o.free1 n)
def Own.drop (ps : List (Nat × Nat)) (o : Own) : Own := Own.frees (Own.take ps o).1 (Own.take ps o).2
theorem frees_last : ∀ (ns : List Nat) (n : Nat) (o : Own), Own.frees (ns ++ [n]) o = (Own.frees ns o).free1 n
  | [], _, _ => rfl
  | m :: ns, n, o => by rw [List.cons_append, Own.frees, frees_last ns n, Own.frees]
theorem frees_step {ns : List Nat} {k : Nat} (hk : k < ns.length) (o : Own) : Own.frees (ns.take (k + 1)) o = (Own.frees (ns.take k) o).free1 (ns.getD k 0) := by
  have e : ns.take (k + 1) = ns.take k ++ [ns.getD k 0] := by
    rw [List.take_add_one, List.getElem?_eq_getElem hk, List.getD_eq_getElem?_getD, List.getElem?_eq_getElem hk]; rfl
  rw [e, frees_last]
theorem free1_boxes (o : Own) (n : Nat) : (o.free1 n).boxes = o.boxes ∧ (o.free1 n).yd.made.length = o.yd.made.length ∧ (o.free1 n).ints = o.ints ∧ (o.free1 n).inp = o.inp := by
  unfold Own.free1; split
  · exact ⟨rfl, rfl, rfl, rfl⟩
  · exact ⟨rfl, free_len _ _, rfl, rfl⟩
theorem frees_boxes : ∀ (ns : List Nat) (o : Own), (Own.frees ns o).boxes = o.boxes ∧ (Own.frees ns o).yd.made.length = o.yd.made.length ∧ (Own.frees ns o).ints = o.ints ∧ (Own.frees ns o).inp = o.inp
  | [], _ => ⟨rfl, rfl, rfl, rfl⟩
  | n :: ns, o => by
    obtain ⟨h1, h2, h3, h4⟩ := frees_boxes ns (o.free1 n)
    obtain ⟨g1, g2, g3, g4⟩ := free1_boxes o n
    rw [Own.frees]
    exact ⟨h1.trans g1, h2.trans g2, h3.trans g3, h4.trans g4⟩
theorem take_yd : ∀ (ps : List (Nat × Nat)) (o : Own), (Own.take ps o).2.yd = o.yd ∧ (Own.take ps o).2.ints = o.ints ∧ (Own.take ps o).2.inp = o.inp
  | [], _ => ⟨rfl, rfl, rfl⟩
  | p :: ps, o => by rw [Own.take]; exact take_yd ps (o.clear p)
theorem frees_sz : ∀ (ns : List Nat) (o : Own) (t : Nat), o.yd.Sz t → (∀ n ∈ ns, n ≤ o.yd.made.length) → (Own.frees ns o).yd.Sz (t + ns.length)
  | [], _, _, h, _ => h
  | n :: ns, o, t, h, hn => by
    rw [Own.frees, List.length_cons, show t + (ns.length + 1) = (t + 1) + ns.length by omega]
    refine frees_sz ns _ _ ?_ (fun m hm => by rw [(free1_boxes o n).2.1]; exact hn m (List.mem_cons_of_mem _ hm))
    unfold Own.free1; split
    · exact h.mono (by omega)
    · exact h.free (hn n (List.mem_cons_self ..))
/-- no box that was not made -/
def Own.Bx (o : Own) : Prop := ∀ n ∈ o.boxes, n ≤ o.yd.made.length
theorem box_le {o : Own} (h : o.Bx) (p : Nat × Nat) : o.box p ≤ o.yd.made.length := by
  unfold Own.box
  rw [List.getD_eq_getElem?_getD]
  cases hg : o.boxes[slotQ p]? with
  | none => exact Nat.zero_le _
  | some n => exact h n (List.mem_of_getElem? hg)
theorem clear_bx {o : Own} (h : o.Bx) (p : Nat × Nat) : (o.clear p).Bx := fun n hn => by
  rcases List.mem_or_eq_of_mem_set hn with hn | rfl
  · exact h n hn
  · exact Nat.zero_le _
theorem take_bx : ∀ (ps : List (Nat × Nat)) {o : Own}, o.Bx → (Own.take ps o).2.Bx ∧ ∀ n ∈ (Own.take ps o).1, n ≤ o.yd.made.length
  | [], _, h => ⟨h, fun n hn => by cases hn⟩
  | p :: ps, o, h => by
    obtain ⟨h1, h2⟩ := take_bx ps (clear_bx h p)
    rw [Own.take]
    refine ⟨h1, fun n hn => ?_⟩
    rcases List.mem_cons.mp hn with rfl | hn
    · exact box_le h p
    · exact h2 n hn
section
variable {x a : Nat} {w w0 w1 : World} {vm vt vi : Value} {o : Own}
set_option maxRecDepth 20000 in
set_option maxHeartbeats 2000000 in
theorem drop_any {z n c t : Nat} {ad : Option Addr} {ps : List (Nat × Nat)} (h : OAt w0 x a w o vi vm vt) (hp : PlacesAt z w (.slice ad n c) ps) (hx : ∀ p ∈ ps, p.1 < 12) (hps : ps.length ≤ 1000) (hb : o.Bx) (hs : o.yd.Sz t) (ht : t + ps.length ≤ 9000000) (hpw : Pow w0) (h11 : 11 ≤ w0.heap.size) :
    Calls Tryz.prog 60 #[.pointer (some ⟨x, 0, none⟩), .slice ad n c] w fun e w' => e = .returned (.tuple #[]) ∧ ∃ vm' vt', OAt w0 x a w' (o.drop ps) vi vm' vt' ∧ Roam x vm vt w vm' vt' w' := by
  have KT := otake_any h hp hx hps
  obtain ⟨hb1, hb2⟩ := take_bx ps hb
  have hl := take_len ps o
  have hyd := (take_yd ps o).1
  have HD : Hid (o.drop ps = Own.frees (Own.take ps o).1 (Own.take ps o).2) := rfl
  rw [HD.out]
  rw [← hyd] at hs hb2
  generalize (Own.take ps o).1 = ns at *
  generalize (Own.take ps o).2 = o1 at *
  rw [← hl] at hps ht KT
  clear hl hyd HD
  go_enter Tryz.func60, Tryz.ntmps60
  go_wp2_with (go_at_call 96; go_fit KT; rintro e w1 ⟨v1, rfl, hR, hO1, hT1⟩; obtain ⟨ad5, c5, rfl⟩ := PrjP.own_slice hR)
  go_loopg [10] (ns.length) (fun g v10 wr => ∃ (k : Nat) (vm' vt' : Value), k ≤ ns.length ∧ g + k = ns.length ∧ v10 = .int .i64 k ∧ OAt w0 x a wr (Own.frees (ns.take k) o1) vi vm' vt' ∧ Roam x vm vt w1 vm' vt' wr)
  case atStart => exact ⟨0, vm, vt, Nat.zero_le _, rfl, rfl, hO1, Roam.refl _ _ _ _⟩
  case round =>
    obtain ⟨k, vm', vt', hk, hgk, rfl, hO, hr⟩ := hrel
    by_cases hlt : k < ns.length
    · have hRr : wr.ownsRow w.heap.size 3 1 (.slice ad5 ns.length c5) ns.length (boxVals ns) := own_heap hR fun g hg => hr.block g (hR.lt g hg).2 (fun e => own_at_ne hR hO1.yat.blk (by decide) (by rw [hg, e])) (fun e => by
        rcases own_ne hO1.yat.made hR (by decide) with h0 | h0
        · rw [e] at h0; cases h0
        · exact h0 (e.trans hg.symm)) (fun e => by
        rcases own_ne hO1.yat.trace hR (by decide) with h0 | h0
        · rw [e] at h0; cases h0
        · exact h0 (e.trans hg.symm))
      obtain ⟨gr, cr, e, hcr, hgr, hcell⟩ := own_cell hRr (by omega)
      simp only [Value.slice.injEq] at e
      obtain ⟨rfl, -, rfl⟩ := e
      have c1 : wr.cell? ⟨gr, k, none⟩ = some (.int .i64 ((ns.getD k 0 : Nat) : Int)) := by
        rw [hcell k (by omega), boxVals, List.getElem?_map, List.getElem?_eq_getElem hlt, List.getD_eq_getElem?_getD, List.getElem?_eq_getElem hlt]; rfl
      have hmem : ns.getD k 0 ∈ ns := by rw [List.getD_eq_getElem?_getD, List.getElem?_eq_getElem hlt]; exact List.getElem_mem hlt
      have HS := frees_step hlt o1
      have hmk := hb2 _ hmem
      have hsz := frees_sz (ns.take k) o1 t hs (fun m hm => hb2 m (List.mem_of_mem_take hm))
      rw [List.length_take, Nat.min_eq_left hk] at hsz
      have hml := (frees_boxes (ns.take k) o1).2.1
      generalize ns.getD k 0 = m at *
      generalize Own.frees (ns.take k) o1 = ok at *
      clear hcell
      have hkI : (k : Int) < ns.length := by omega
      have hpr : Pow wr := hpw.below hO.old h11
      by_cases hm : m = 0
      · have hf : ok.free1 m = ok := by rw [Own.free1, if_pos hm]
        have hmi : ((m : Int) == 0) = true := by simp [hm]
        rw [hf] at HS
        go_wp2
        go_roundg (ns.length - (k + 1))
        case measure => omega
        case rel => exact ⟨k + 1, vm', vt', by omega, by omega, by go_num, by rw [HS]; exact hO, hr⟩
      · have hf : ok.free1 m = { ok with yd := ok.yd.free m } := by rw [Own.free1, if_neg hm]
        have hmi : ((m : Int) == 0) = false := by rw [beq_eq_false_iff_ne]; omega
        have KF := free_any hO.yat m (by omega) (by rw [hml]; exact hmk) hpr (hsz.ok (by omega)) h11
        rw [hf] at HS
        go_wp2_with (go_at_call 97; go_fit KF; rintro e w3 ⟨rfl, vm3, vt3, h3, r3⟩)
        go_roundg (ns.length - (k + 1))
        case measure => omega
        case rel => exact ⟨k + 1, vm3, vt3, by omega, by omega, by go_num, by rw [HS]; exact hO.yard h3 r3, hr.trans r3⟩
    · have hk' : k = ns.length := by omega
      subst hk'
      rw [List.take_length] at hO
      go_wp2
      go_end0
      exact ⟨rfl, vm', vt', hO, (Roam.turn hT1).trans hr⟩
end
end Go.Proofs.YtmlgajhhnojdjaaGreatDoor.Own
/- The project's machine that owns: what is in places is moved. -/
namespace Go.Proofs.YtmlgajhhnojdjaaGreatDoor.Own
open Go Go.RowKit Go.Proofs.YtmlgajhhnojdjaaGreatDoor.Spec Go.Proofs.YtmlgajhhnojdjaaGreatDoor.Aux Go.Proofs.YtmlgajhhnojdjaaGreatDoor.PrjJ Go.Proofs.YtmlgajhhnojdjaaGreatDoor.PrjK Go.Proofs.YtmlgajhhnojdjaaGreatDoor.PrjL Go.Proofs.YtmlgajhhnojdjaaGreatDoor.PrjM Go.Proofs.YtmlgajhhnojdjaaGreatDoor.PrjS Go.Proofs.YtmlgajhhnojdjaaGreatDoor.PrjT Go.Proofs.YtmlgajhhnojdjaaGreatDoor.FlwA Go.Proofs.YtmlgajhhnojdjaaGreatDoor.FlwB Go.Proofs.YtmlgajhhnojdjaaGreatDoor.FlwE

def Own.put1 (o : Own) (p : Nat × Nat) (n : Nat) : Own := { o with boxes := o.boxes.set (slotQ p) n }
def Own.puts : List (Nat × Nat) → List Nat → Own → Own
  | [], _, o => o
  | p :: ps, ns, o => Own.puts ps (ns.drop 1) (o.put1 p (ns.getD 0 0))
def Own.move (to frm : List (Nat × Nat)) (o : Own) : Own := Own.puts to (Own.take frm o).1 ((Own.take frm o).2.drop to)
theorem puts_last : ∀ (ps : List (Nat × Nat)) (p : Nat × Nat) (ns : List Nat) (o : Own), Own.puts (ps ++ [p]) ns o = (Own.puts ps ns o).put1 p (ns.getD ps.length 0)
  | [], _, _, _ => rfl
  | q :: ps, p, ns, o => by
    rw [List.cons_append, Own.puts, puts_last ps p, Own.puts, List.length_cons]
    congr 1
    simp [List.getD_eq_getElem?_getD]
theorem puts_step {ps : List (Nat × Nat)} {k : Nat} (hk : k < ps.length) (ns : List Nat) (o : Own) : Own.puts (ps.take (k + 1)) ns o = (Own.puts (ps.take k) ns o).put1 (ps.getD k (0, 0)) (ns.getD k 0) := by
  have e : ps.take (k + 1) = ps.take k ++ [ps.getD k (0, 0)] := by
    rw [List.take_add_one, List.getElem?_eq_getElem hk, List.getD_eq_getElem?_getD, List.getElem?_eq_getElem hk]; rfl
  rw [e, puts_last, List.length_take, Nat.min_eq_left (by omega)]
theorem drop_parts (ps : List (Nat × Nat)) (o : Own) : (o.drop ps).yd.made.length = o.yd.made.length ∧ (o.drop ps).ints = o.ints ∧ (o.drop ps).inp = o.inp ∧ (o.drop ps).boxes = (Own.take ps o).2.boxes := by
  unfold Own.drop
  obtain ⟨h1, h2, h3, h4⟩ := frees_boxes (Own.take ps o).1 (Own.take ps o).2
  obtain ⟨g1, g2, g3⟩ := take_yd ps o
  exact ⟨by rw [h2, g1], h3.trans g2, h4.trans g3, h1⟩
section
variable {x a : Nat} {w w0 w1 : World} {vm vt vm1 vt1 vi : Value} {o : Own}
/-- rows of another kind are not turned -/
theorem OAt.keep (h : OAt w0 x a w o vi vm vt) {b s n : Nat} {e : TypeId} {v : Value} {xs : List Value} (hv : w.ownsRow b e s v n xs) (he : e = 3 ∨ e = 119) (hr : Roam x vm vt w vm1 vt1 w1) : w1.ownsRow b e s v n xs := by
  have h1 : e ≠ 104 := by rcases he with rfl | rfl <;> decide
  have h2 : 175 ≠ e := by rcases he with rfl | rfl <;> decide
  have h3 : 9 ≠ e := by rcases he with rfl | rfl <;> decide
  refine own_heap hv fun g hg => hr.block g (hv.lt g hg).2 (fun e => own_at_ne hv h.yat.blk h1 (by rw [hg, e])) (fun e => ?_) (fun e => ?_)
  · rcases own_ne h.yat.made hv h2 with h0 | h0
    · rw [e] at h0; cases h0
    · exact h0 (e.trans hg.symm)
  · rcases own_ne h.yat.trace hv h3 with h0 | h0
    · rw [e] at h0; cases h0
    · exact h0 (e.trans hg.symm)
set_option maxRecDepth 20000 in
set_option maxHeartbeats 2000000 in
theorem move_any {z1 z2 n1 n2 c1 c2 t : Nat} {ad1 ad2 : Option Addr} {to frm : List (Nat × Nat)} (h : OAt w0 x a w o vi vm vt) (hp1 : PlacesAt z1 w (.slice ad1 n1 c1) to) (hp2 : PlacesAt z2 w (.slice ad2 n2 c2) frm) (hx1 : ∀ p ∈ to, p.1 < 12) (hx2 : ∀ p ∈ frm, p.1 < 12)
    (hl1 : to.length ≤ 100) (hl : to.length = frm.length) (hb : o.Bx) (hs : o.yd.Sz t) (ht : t + 100 ≤ 9000000) (hpw : Pow w0) (h11 : 11 ≤ w0.heap.size) :
    Calls Tryz.prog 107 #[.pointer (some ⟨x, 0, none⟩), .slice ad1 n1 c1, .slice ad2 n2 c2] w fun e w' => e = .returned (.tuple #[]) ∧ ∃ vm' vt', OAt w0 x a w' (o.move to frm) vi vm' vt' ∧ Roam x vm vt w vm' vt' w' := by
  have hn1 : n1 = to.length := by
    obtain ⟨ad', c', e⟩ := PrjP.own_slice hp1
    simp only [Value.slice.injEq] at e; exact e.2.1
  subst hn1
  have KT := otake_any h hp2 hx2 (by omega)
  obtain ⟨hb1, hb2⟩ := take_bx frm hb
  have hlt := take_len frm o
  rw [← (take_yd frm o).1] at hs
  have HM : Hid (o.move to frm = Own.puts to (Own.take frm o).1 ((Own.take frm o).2.drop to)) := rfl
  rw [HM.out]
  generalize (Own.take frm o).1 = ns at *
  generalize (Own.take frm o).2 = o1 at *
  have hnl : ns.length = to.length := by omega
  rw [← hl] at KT
  clear hlt hl HM hb2
  have KD := fun (W : World) (hW : OAt w0 x a W o1 vi vm vt) (hT : Turn x w W) => drop_any hW (h.keep hp1 (.inr rfl) (Roam.turn hT)) hx1 (by omega) hb1 hs (by omega) hpw h11
  go_enter Tryz.func107, Tryz.ntmps107
  go_wp2_with (first
    | (go_at_call 96; go_fit KT; rintro e w1 ⟨v1, rfl, hR, hO1, hT1⟩; obtain ⟨ad5, c5, rfl⟩ := PrjP.own_slice hR)
    | (go_at_call 60; go_fit (KD _ hO1 hT1); rintro e w2 ⟨rfl, vm2, vt2, hO2, hr2⟩))
  have hR2 := hO1.keep hR (.inl rfl) hr2
  have hp12 := hO1.keep (h.keep hp1 (.inr rfl) (Roam.turn hT1)) (.inr rfl) hr2
  have hrw := (Roam.turn hT1).trans hr2
  clear KT KD hR hr2 hT1 hO1 hs hb1
  go_loopg [17] (to.length) (fun g v17 wr => ∃ (k : Nat), k ≤ to.length ∧ g + k = to.length ∧ v17 = .int .i64 k ∧ OAt w0 x a wr (Own.puts (to.take k) ns (o1.drop to)) vi vm2 vt2 ∧ Turn x w2 wr)
  case atStart => exact ⟨0, Nat.zero_le _, rfl, rfl, hO2, Turn.refl _ _⟩
  case round =>
    obtain ⟨k, hk, hgk, rfl, hO, hT⟩ := hrel
    by_cases hlt : k < to.length
    · have hpr := hO2.keep hp12 (.inr rfl) (Roam.turn hT)
      have hRr := hO2.keep hR2 (.inl rfl) (Roam.turn hT)
      obtain ⟨gp, rfl, -, hcp, hgp, q1, q2⟩ := places_cells hpr k hlt
      obtain ⟨gr, cr, e, hcr, hgr, hcell⟩ := own_cell hRr (by omega)
      simp only [Value.slice.injEq] at e
      obtain ⟨rfl, -, rfl⟩ := e
      have r1 : wr.cell? ⟨gr, k, none⟩ = some (.int .i64 ((ns.getD k 0 : Nat) : Int)) := by
        rw [hcell k (by omega), boxVals, List.getElem?_map, List.getElem?_eq_getElem (by omega), List.getD_eq_getElem?_getD, List.getElem?_eq_getElem (by omega)]; rfl
      have hxx := hx1 (to.getD k (0, 0)) (by simp [hlt])
      have HS := puts_step hlt ns (o1.drop to)
      generalize to.getD k (0, 0) = p at *
      generalize ns.getD k 0 = m at *
      generalize Own.puts (to.take k) ns (o1.drop to) = ok at *
      clear hcell hnl
      have hbx : Below wr.heap.size wr (wr.alloc (.cells #[.int .i64 (p.1 : Nat), .int .i64 (p.2 : Nat)] 119)) := (Below.refl _ _).alloc (Nat.le_refl _) _
      have hkI : (k : Int) < to.length := by omega
      have hsl : slotQ p < 24 := by unfold slotQ; split <;> omega
      have hsi : (slotQ p : Int) < 24 := by omega
      have r1x := (hbx.cell (p := ⟨gr, k, none⟩) hgr).trans r1
      have KS := slot_any p (wr.alloc (.cells #[.int .i64 (p.1 : Nat), .int .i64 (p.2 : Nat)] 119)).drew (by omega)
      go_upto_region 5 with fail
      go_region_with (go_at_call 62; go_fit KS; rintro e w5 ⟨rfl, hb5⟩; have hB5 : Below wr.heap.size wr w5 := hbx.trans ((⟨hb5.os, hb5.tape, hb5.output, hb5.size, hb5.block⟩ : Below _ (wr.alloc (.cells #[.int .i64 (p.1 : Nat), .int .i64 (p.2 : Nat)] 119)) w5).mono hbx.size); have hO5 := hO.below hB5; obtain ⟨s1, s2⟩ := hO5.bx hsl; have r5 := (hB5.cell (p := ⟨gr, k, none⟩) hgr).trans r1)
      all_goals go_wp2_with fail
      all_goals
        go_roundg (to.length - (k + 1))
        case measure => omega
        case rel => exact ⟨k + 1, by omega, by omega, by go_num, by rw [HS]; exact (hO5.setBx (slotQ p) m).1, (hT.on hB5).setCell _ _⟩
    · have hk' : k = to.length := by omega
      subst hk'
      rw [List.take_length] at hO
      go_wp2
      go_end0
      exact ⟨rfl, vm2, vt2, hO, hrw.trans (Roam.turn hT)⟩
end
end Go.Proofs.YtmlgajhhnojdjaaGreatDoor.Own
