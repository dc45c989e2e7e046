/- The project's bare machine: statements behind which a run goes on. -/
import Derived.Test.YtmlgajhhnojdjaaGreatDoorSBG
import Derived.Test.YtmlgajhhnojdjaaGreatDoorSBC
namespace Go.Proofs.YtmlgajhhnojdjaaGreatDoor.Ex
open Go Go.RowKit Go.Proofs.YtmlgajhhnojdjaaGreatDoor.Spec Go.Proofs.YtmlgajhhnojdjaaGreatDoor.Aux Go.Proofs.YtmlgajhhnojdjaaGreatDoor.PrjJ Go.Proofs.YtmlgajhhnojdjaaGreatDoor.PrjK Go.Proofs.YtmlgajhhnojdjaaGreatDoor.PrjL Go.Proofs.YtmlgajhhnojdjaaGreatDoor.PrjM Go.Proofs.YtmlgajhhnojdjaaGreatDoor.PrjR Go.Proofs.YtmlgajhhnojdjaaGreatDoor.PrjS Go.Proofs.YtmlgajhhnojdjaaGreatDoor.PrjT Go.Proofs.YtmlgajhhnojdjaaGreatDoor.FlwA Go.Proofs.YtmlgajhhnojdjaaGreatDoor.FlwE Go.Proofs.YtmlgajhhnojdjaaGreatDoor.Own

section
variable {x a : Nat} {w w0 : World} {vm vt vi v u : Value} {b : Br} {q : QP}
set_option maxRecDepth 20000 in
set_option maxHeartbeats 4000000 in
theorem do_set (h : BAt w0 x a w b vi vm vt) (hq : PQ w0 a q v u) (hls : q.locals.length ≤ 12) {z nb : Nat} {l : QLine} {ap an : Option Addr} {cp cn : Nat} (hl : LineAt z w0 l (.slice ap l.places.length cp) (.slice an l.next.length cn)) (hk : LOk q.locals.length nb l) (hop : l.op = 2) :
    Calls Tryz.prog 78 #[.pointer (some ⟨x, 0, none⟩), .agg #[.int .i64 (l.num : Nat), .int .i64 (l.op : Nat), .slice ap l.places.length cp, .int .i64 l.number, .int .i64 l.flag, .slice an l.next.length cn]] w fun e w' => e = .returned (.tuple #[]) ∧ ∃ vi' vm' vt', BAt w0 x a w' (b.write q (l.places.getD 0 (0, 0)) l.number) vi' vm' vt' ∧ Roam x vm vt w vm' vt' w' := by
  have hlen : l.places.length = 1 := by rw [hk.plen, hop]; rfl
  obtain ⟨g, rfl, hcp, hg, c0, c1⟩ := place_at hl hlen 0 (by omega)
  have x0 := (hk.places (l.places.getD 0 (0, 0)) (by rw [List.getD_eq_getElem?_getD, List.getElem?_eq_getElem (by omega)]; exact List.getElem_mem _)).1
  have hb : ∀ W, Below w0.heap.size w0 W → (W.cell? ⟨g, 0, none⟩ = some (.int .i64 ((l.places.getD 0 (0, 0)).1 : Nat)) ∧ W.cell? ⟨g, 1, none⟩ = some (.int .i64 ((l.places.getD 0 (0, 0)).2 : Nat))) := fun W hW => ⟨(hW.cell (p := ⟨g, 0, none⟩) hg).trans c0, (hW.cell (p := ⟨g, 1, none⟩) hg).trans c1⟩
  have hbA : Below w.heap.size w (w.alloc (.cells #[.int .i64 (l.num : Nat), .int .i64 (l.op : Nat), .slice (some ⟨g, 0, none⟩) 1 cp, .int .i64 l.number, .int .i64 l.flag, .slice an l.next.length cn] 115)) := (Below.refl _ _).alloc (Nat.le_refl _) _
  have hhA : (w.alloc (.cells #[.int .i64 (l.num : Nat), .int .i64 (l.op : Nat), .slice (some ⟨g, 0, none⟩) 1 cp, .int .i64 l.number, .int .i64 l.flag, .slice an l.next.length cn] 115)).heap[w.heap.size]? = some (.cells #[.int .i64 (l.num : Nat), .int .i64 (l.op : Nat), .slice (some ⟨g, 0, none⟩) 1 cp, .int .i64 l.number, .int .i64 l.flag, .slice an l.next.length cn] 115 (0, 0)) := Array.getElem?_push_size
  have hsA : (w.alloc (.cells #[.int .i64 (l.num : Nat), .int .i64 (l.op : Nat), .slice (some ⟨g, 0, none⟩) 1 cp, .int .i64 l.number, .int .i64 l.flag, .slice an l.next.length cn] 115)).heap.size = w.heap.size + 1 := by simp
  have HA := h.below hbA
  have hfr := h.fresh (Nat.le_refl _)
  have HL : Hid (∀ W vm' vt', Roam x vm vt (w.alloc (.cells #[.int .i64 (l.num : Nat), .int .i64 (l.op : Nat), .slice (some ⟨g, 0, none⟩) 1 cp, .int .i64 l.number, .int .i64 l.flag, .slice an l.next.length cn] 115)) vm' vt' W → W.cell? ⟨w.heap.size, 1, none⟩ = some (.int .i64 (l.op : Nat)) ∧ W.cell? ⟨w.heap.size, 3, none⟩ = some (.int .i64 l.number) ∧ W.cell? ⟨w.heap.size, 4, none⟩ = some (.int .i64 l.flag)) := fun W vm' vt' r => ⟨(roam_cell r (by omega) hfr 1).trans (by rw [cell_of_heap hhA]; rfl), (roam_cell r (by omega) hfr 3).trans (by rw [cell_of_heap hhA]; rfl), (roam_cell r (by omega) hfr 4).trans (by rw [cell_of_heap hhA]; rfl)⟩
  obtain ⟨d0, d1⟩ := hb _ HA.old
  rw [hlen]
  have b2 : (((l.op : Nat) : Int) == 2) = true := by rw [hop]; rfl
  have KW := fun (W : World) (hb : Below w.heap.size w W) => write_any (h.below hb) hq hls (l.places.getD 0 (0, 0)) x0 l.number
  clear hl hk hop hlen c0 c1
  generalize l.places.getD 0 (0, 0) = p0 at *
  have hbD : Below w.heap.size w (w.alloc (.cells #[.int .i64 (l.num : Nat), .int .i64 (l.op : Nat), .slice (some ⟨g, 0, none⟩) 1 cp, .int .i64 l.number, .int .i64 l.flag, .slice an l.next.length cn] 115)).drew := hbA.drew
  have hdA : Below (w.alloc (.cells #[.int .i64 (l.num : Nat), .int .i64 (l.op : Nat), .slice (some ⟨g, 0, none⟩) 1 cp, .int .i64 l.number, .int .i64 l.flag, .slice an l.next.length cn] 115)).heap.size (w.alloc (.cells #[.int .i64 (l.num : Nat), .int .i64 (l.op : Nat), .slice (some ⟨g, 0, none⟩) 1 cp, .int .i64 l.number, .int .i64 l.flag, .slice an l.next.length cn] 115)) (w.alloc (.cells #[.int .i64 (l.num : Nat), .int .i64 (l.op : Nat), .slice (some ⟨g, 0, none⟩) 1 cp, .int .i64 l.number, .int .i64 l.flag, .slice an l.next.length cn] 115)).drew := (Below.refl _ _).drew
  obtain ⟨y1, y3, y4⟩ := HL.out _ _ _ (Roam.refl _ _ _ _)
  go_enter Tryz.func78, Tryz.ntmps78
  go_upto_region 4 with fail
  go_region_held3 (fun W' => W'.cell? ⟨g, 0, none⟩ = some (.int .i64 (p0.1 : Nat)) ∧ W'.cell? ⟨g, 1, none⟩ = some (.int .i64 (p0.2 : Nat)) ∧ W'.cell? ⟨w.heap.size, 3, none⟩ = some (.int .i64 l.number)) (go_keep)
    (first
    | (go_at_call 76; go_fit (KW _ hbD); rintro e w4 ⟨rfl, h4, r4⟩; obtain ⟨z0, z1⟩ := hb _ h4.old; obtain ⟨z2, z3, z4⟩ := HL.out _ _ _ ((Roam.of hdA).trans r4)))
  all_goals go_wp2_with fail
  all_goals
    go_end0
    exact ⟨rfl, _, _, _, h4, (Roam.of hbD).trans r4⟩
theorem BAt.fd (h : BAt w0 x a w b vi vm vt) : w.cell? ⟨x, 4, none⟩ = some vi ∧ w.frozen? ⟨x, 4, none⟩ = false := h.yat.more 1
theorem BAt.setFeed (h : BAt w0 x a w b vi vm vt) {vi' : Value} {l : List Int} (hf : FeedAt w0 vi' l) : BAt w0 x a (w.setCell ⟨x, 4, none⟩ vi') { b with inp := l } vi' vm vt ∧ Roam x vm vt w vm vt (w.setCell ⟨x, 4, none⟩ vi') := by
  obtain ⟨h1, h2⟩ := h.yat.setRest 1 vi'
  exact ⟨⟨h1, h.old.trans (h2.below h.yat (Nat.le_refl _) h.old.size), h.cs, h.flags, hf⟩, h2⟩
set_option maxRecDepth 20000 in
theorem feed_any (h : BAt w0 x a w b vi vm vt) :
    Calls Tryz.prog 103 #[.pointer (some ⟨x, 4, none⟩)] w fun e w' => e = .returned (.int .i64 (b.inp.headD 0)) ∧ ∃ vi', BAt w0 x a w' { b with inp := b.inp.tail } vi' vm vt ∧ Roam x vm vt w vm vt w' := by
  obtain ⟨c4, f4⟩ := h.fd
  have hF := h.feed
  cases hin : b.inp with
  | nil =>
    rw [hin] at hF
    obtain ⟨ad, c, rfl, h1, h2, -⟩ := hF
    have hO : { b with inp := ([] : List Int) } = b := by rw [← hin]
    go_enter Tryz.func103, Tryz.ntmps103
    go_wp2
    go_ret
    exact ⟨rfl, _, by rw [List.tail_nil, hO]; exact h, Roam.refl _ _ _ _⟩
  | cons v r =>
    rw [hin] at hF
    have hF' := hF
    obtain ⟨ad, c, rfl, h1, h2, h3⟩ := hF
    obtain ⟨g, f, rfl, hg, hc⟩ := h3 0 (by simp)
    have hT := FeedAt.tail hF'
    obtain ⟨h5, h6⟩ := h.setFeed hT
    have c0 : w.cell? ⟨g, f, none⟩ = some (.int .i64 v) := by
      rw [Nat.add_zero] at hc
      exact (h.old.cell (p := ⟨g, f, none⟩) hg).trans hc
    simp only [List.length_cons] at h1 h2 h5 c4
    have i0 : ¬ ((r.length : Int) + 1 = 0) := by omega
    have i1 : (((r.length : Int) + 1) == 0) = false := by rw [beq_eq_false_iff_ne]; omega
    have i2 : (1 : Int) ≤ (r.length : Int) + 1 := by omega
    have hcI : (r.length : Int) + 1 ≤ (c : Int) := by omega
    unfold maxLen at h2
    by_cases hc1 : c = 1
    · subst hc1
      have hr : r = [] := List.length_eq_zero_iff.mp (by omega)
      subst hr
      have hT0 : FeedAt w0 (.slice (some ⟨g, f, none⟩) 0 0) [] := ⟨_, _, rfl, Nat.le_refl _, Nat.zero_le _, fun j hj => absurd hj (Nat.not_lt_zero _)⟩
      obtain ⟨k5, k6⟩ := h.setFeed hT0
      go_enter Tryz.func103, Tryz.ntmps103
      go_wp2
      go_ret
      exact ⟨rfl, _, k5, k6⟩
    · have hc2 : ¬ c - 1 = 0 := by omega
      have hc3 : ¬ c ≤ 1 := by omega
      go_enter Tryz.func103, Tryz.ntmps103
      go_wp2
      go_ret
      exact ⟨rfl, _, h5, h6⟩
set_option maxRecDepth 20000 in
set_option maxHeartbeats 4000000 in
theorem do_arith (h : BAt w0 x a w b vi vm vt) (hq : PQ w0 a q v u) (hls : q.locals.length ≤ 12) {z nb : Nat} {l : QLine} {ap an : Option Addr} {cp cn : Nat} (hl : LineAt z w0 l (.slice ap l.places.length cp) (.slice an l.next.length cn)) (hk : LOk q.locals.length nb l) (hop : l.op = 3 ∨ l.op = 4 ∨ l.op = 5) (hr : ∀ p, isI64 (b.val q p)) :
    Calls Tryz.prog 78 #[.pointer (some ⟨x, 0, none⟩), .agg #[.int .i64 (l.num : Nat), .int .i64 (l.op : Nat), .slice ap l.places.length cp, .int .i64 l.number, .int .i64 l.flag, .slice an l.next.length cn]] w fun e w' => e = .returned (.tuple #[]) ∧ ∃ vi' vm' vt', BAt w0 x a w' (b.calc q l) vi' vm' vt' ∧ Roam x vm vt w vm' vt' w' := by
  have hlen : l.places.length = 3 := by rcases hop with e | e | e <;> (rw [hk.plen, e]; rfl)
  obtain ⟨g, rfl, hcp, hg, c0, c1⟩ := place_at hl hlen 0 (by omega)
  obtain ⟨g', e', -, -, c2, c3⟩ := place_at hl hlen 1 (by omega)
  simp only [Option.some.injEq, Addr.mk.injEq, and_true] at e'
  subst e'
  obtain ⟨g', e', -, -, c4, c5⟩ := place_at hl hlen 2 (by omega)
  simp only [Option.some.injEq, Addr.mk.injEq, and_true] at e'
  subst e'
  have x0 := (hk.places (l.places.getD 0 (0, 0)) (by rw [List.getD_eq_getElem?_getD, List.getElem?_eq_getElem (by omega)]; exact List.getElem_mem _)).1
  have x1 := (hk.places (l.places.getD 1 (0, 0)) (by rw [List.getD_eq_getElem?_getD, List.getElem?_eq_getElem (by omega)]; exact List.getElem_mem _)).1
  have x2 := (hk.places (l.places.getD 2 (0, 0)) (by rw [List.getD_eq_getElem?_getD, List.getElem?_eq_getElem (by omega)]; exact List.getElem_mem _)).1
  have hb : ∀ W, Below w0.heap.size w0 W → (W.cell? ⟨g, 0, none⟩ = some (.int .i64 ((l.places.getD 0 (0, 0)).1 : Nat)) ∧ W.cell? ⟨g, 1, none⟩ = some (.int .i64 ((l.places.getD 0 (0, 0)).2 : Nat)) ∧ W.cell? ⟨g, 2, none⟩ = some (.int .i64 ((l.places.getD 1 (0, 0)).1 : Nat)) ∧ W.cell? ⟨g, 3, none⟩ = some (.int .i64 ((l.places.getD 1 (0, 0)).2 : Nat)) ∧ W.cell? ⟨g, 4, none⟩ = some (.int .i64 ((l.places.getD 2 (0, 0)).1 : Nat)) ∧ W.cell? ⟨g, 5, none⟩ = some (.int .i64 ((l.places.getD 2 (0, 0)).2 : Nat))) := fun W hW => ⟨(hW.cell (p := ⟨g, 0, none⟩) hg).trans c0, (hW.cell (p := ⟨g, 1, none⟩) hg).trans c1, (hW.cell (p := ⟨g, 2, none⟩) hg).trans c2, (hW.cell (p := ⟨g, 3, none⟩) hg).trans c3, (hW.cell (p := ⟨g, 4, none⟩) hg).trans c4, (hW.cell (p := ⟨g, 5, none⟩) hg).trans c5⟩
  have hbA : Below w.heap.size w (w.alloc (.cells #[.int .i64 (l.num : Nat), .int .i64 (l.op : Nat), .slice (some ⟨g, 0, none⟩) 3 cp, .int .i64 l.number, .int .i64 l.flag, .slice an l.next.length cn] 115)) := (Below.refl _ _).alloc (Nat.le_refl _) _
  have hhA : (w.alloc (.cells #[.int .i64 (l.num : Nat), .int .i64 (l.op : Nat), .slice (some ⟨g, 0, none⟩) 3 cp, .int .i64 l.number, .int .i64 l.flag, .slice an l.next.length cn] 115)).heap[w.heap.size]? = some (.cells #[.int .i64 (l.num : Nat), .int .i64 (l.op : Nat), .slice (some ⟨g, 0, none⟩) 3 cp, .int .i64 l.number, .int .i64 l.flag, .slice an l.next.length cn] 115 (0, 0)) := Array.getElem?_push_size
  have hsA : (w.alloc (.cells #[.int .i64 (l.num : Nat), .int .i64 (l.op : Nat), .slice (some ⟨g, 0, none⟩) 3 cp, .int .i64 l.number, .int .i64 l.flag, .slice an l.next.length cn] 115)).heap.size = w.heap.size + 1 := by simp
  have HA := h.below hbA
  have hfr := h.fresh (Nat.le_refl _)
  have HL : Hid (∀ W vm' vt', Roam x vm vt (w.alloc (.cells #[.int .i64 (l.num : Nat), .int .i64 (l.op : Nat), .slice (some ⟨g, 0, none⟩) 3 cp, .int .i64 l.number, .int .i64 l.flag, .slice an l.next.length cn] 115)) vm' vt' W → W.cell? ⟨w.heap.size, 1, none⟩ = some (.int .i64 (l.op : Nat)) ∧ W.cell? ⟨w.heap.size, 3, none⟩ = some (.int .i64 l.number) ∧ W.cell? ⟨w.heap.size, 4, none⟩ = some (.int .i64 l.flag)) := fun W vm' vt' r => ⟨(roam_cell r (by omega) hfr 1).trans (by rw [cell_of_heap hhA]; rfl), (roam_cell r (by omega) hfr 3).trans (by rw [cell_of_heap hhA]; rfl), (roam_cell r (by omega) hfr 4).trans (by rw [cell_of_heap hhA]; rfl)⟩
  obtain ⟨d0, d1, d2, d3, d4, d5⟩ := hb _ HA.old
  rw [hlen]
  have b2 : (((l.op : Nat) : Int) == 2) = false := by rw [beq_eq_false_iff_ne]; omega
  have KC := calculate_any (b := b) HA hq hls hl hk (by omega) (fun e => by omega) hr
  rw [hlen] at KC
  obtain ⟨y1, y3, y4⟩ := HL.out _ _ _ (Roam.refl _ _ _ _)
  have hop2 : ((((l.op : Nat) : Int) == 3) = true) ∨ ((((l.op : Nat) : Int) == 3) = false ∧ (((l.op : Nat) : Int) == 4) = true) ∨ ((((l.op : Nat) : Int) == 3) = false ∧ (((l.op : Nat) : Int) == 4) = false ∧ (((l.op : Nat) : Int) == 5) = true) := by
    rcases hop with e | e | e <;> rw [e] <;> simp
  clear hl hk hop hlen c0 c1 c2 c3 c4 c5 hr
  rcases hop2 with b3 | ⟨b3, b4⟩ | ⟨b3, b4, b5⟩
  all_goals
    go_enter Tryz.func78, Tryz.ntmps78
    go_wp2_with (go_at_call 75; go_fit KC; rintro e w4 ⟨rfl, h4, r4⟩)
    go_end0
    exact ⟨rfl, _, _, _, h4, (Roam.of hbA).trans r4⟩
set_option maxRecDepth 20000 in
set_option maxHeartbeats 4000000 in
theorem do_in (h : BAt w0 x a w b vi vm vt) (hq : PQ w0 a q v u) (hls : q.locals.length ≤ 12) {z nb : Nat} {l : QLine} {ap an : Option Addr} {cp cn : Nat} (hl : LineAt z w0 l (.slice ap l.places.length cp) (.slice an l.next.length cn)) (hk : LOk q.locals.length nb l) (hop : l.op = 7) :
    Calls Tryz.prog 78 #[.pointer (some ⟨x, 0, none⟩), .agg #[.int .i64 (l.num : Nat), .int .i64 (l.op : Nat), .slice ap l.places.length cp, .int .i64 l.number, .int .i64 l.flag, .slice an l.next.length cn]] w fun e w' => e = .returned (.tuple #[]) ∧ ∃ vi' vm' vt', BAt w0 x a w' (({ b with inp := b.inp.tail } : Br).write q (l.places.getD 0 (0, 0)) (b.inp.headD 0)) vi' vm' vt' ∧ Roam x vm vt w vm' vt' w' := by
  have hlen : l.places.length = 1 := by rw [hk.plen, hop]; rfl
  obtain ⟨g, rfl, hcp, hg, c0, c1⟩ := place_at hl hlen 0 (by omega)
  have x0 := (hk.places (l.places.getD 0 (0, 0)) (by rw [List.getD_eq_getElem?_getD, List.getElem?_eq_getElem (by omega)]; exact List.getElem_mem _)).1
  have hb : ∀ W, Below w0.heap.size w0 W → (W.cell? ⟨g, 0, none⟩ = some (.int .i64 ((l.places.getD 0 (0, 0)).1 : Nat)) ∧ W.cell? ⟨g, 1, none⟩ = some (.int .i64 ((l.places.getD 0 (0, 0)).2 : Nat))) := fun W hW => ⟨(hW.cell (p := ⟨g, 0, none⟩) hg).trans c0, (hW.cell (p := ⟨g, 1, none⟩) hg).trans c1⟩
  have hbA : Below w.heap.size w (w.alloc (.cells #[.int .i64 (l.num : Nat), .int .i64 (l.op : Nat), .slice (some ⟨g, 0, none⟩) 1 cp, .int .i64 l.number, .int .i64 l.flag, .slice an l.next.length cn] 115)) := (Below.refl _ _).alloc (Nat.le_refl _) _
  have hhA : (w.alloc (.cells #[.int .i64 (l.num : Nat), .int .i64 (l.op : Nat), .slice (some ⟨g, 0, none⟩) 1 cp, .int .i64 l.number, .int .i64 l.flag, .slice an l.next.length cn] 115)).heap[w.heap.size]? = some (.cells #[.int .i64 (l.num : Nat), .int .i64 (l.op : Nat), .slice (some ⟨g, 0, none⟩) 1 cp, .int .i64 l.number, .int .i64 l.flag, .slice an l.next.length cn] 115 (0, 0)) := Array.getElem?_push_size
  have hsA : (w.alloc (.cells #[.int .i64 (l.num : Nat), .int .i64 (l.op : Nat), .slice (some ⟨g, 0, none⟩) 1 cp, .int .i64 l.number, .int .i64 l.flag, .slice an l.next.length cn] 115)).heap.size = w.heap.size + 1 := by simp
  have HA := h.below hbA
  have hfr := h.fresh (Nat.le_refl _)
  have HL : Hid (∀ W vm' vt', Roam x vm vt (w.alloc (.cells #[.int .i64 (l.num : Nat), .int .i64 (l.op : Nat), .slice (some ⟨g, 0, none⟩) 1 cp, .int .i64 l.number, .int .i64 l.flag, .slice an l.next.length cn] 115)) vm' vt' W → W.cell? ⟨w.heap.size, 1, none⟩ = some (.int .i64 (l.op : Nat)) ∧ W.cell? ⟨w.heap.size, 3, none⟩ = some (.int .i64 l.number) ∧ W.cell? ⟨w.heap.size, 4, none⟩ = some (.int .i64 l.flag)) := fun W vm' vt' r => ⟨(roam_cell r (by omega) hfr 1).trans (by rw [cell_of_heap hhA]; rfl), (roam_cell r (by omega) hfr 3).trans (by rw [cell_of_heap hhA]; rfl), (roam_cell r (by omega) hfr 4).trans (by rw [cell_of_heap hhA]; rfl)⟩
  obtain ⟨d0, d1⟩ := hb _ HA.old
  rw [hlen]
  have b2 : (((l.op : Nat) : Int) == 2) = false := by rw [hop]; rfl
  have b3 : (((l.op : Nat) : Int) == 3) = false := by rw [hop]; rfl
  have b4 : (((l.op : Nat) : Int) == 4) = false := by rw [hop]; rfl
  have b5 : (((l.op : Nat) : Int) == 5) = false := by rw [hop]; rfl
  have b7 : (((l.op : Nat) : Int) == 7) = true := by rw [hop]; rfl
  have KF := fun (W : World) (hb : Below w.heap.size w W) => feed_any (h.below hb)
  have KW := fun (W : World) (vi' : Value) (hW : BAt w0 x a W { b with inp := b.inp.tail } vi' vm vt) => write_any hW hq hls (l.places.getD 0 (0, 0)) x0 (b.inp.headD 0)
  generalize b.inp.headD 0 = hv at *
  clear hl hk hop hlen c0 c1
  generalize l.places.getD 0 (0, 0) = p0 at *
  have hbD : Below w.heap.size w (w.alloc (.cells #[.int .i64 (l.num : Nat), .int .i64 (l.op : Nat), .slice (some ⟨g, 0, none⟩) 1 cp, .int .i64 l.number, .int .i64 l.flag, .slice an l.next.length cn] 115)).drew := hbA.drew
  go_enter Tryz.func78, Tryz.ntmps78
  go_upto_region 10 with fail
  go_region_held3 (fun W' => W'.cell? ⟨g, 0, none⟩ = some (.int .i64 (p0.1 : Nat)) ∧ W'.cell? ⟨g, 1, none⟩ = some (.int .i64 (p0.2 : Nat))) (go_keep)
    (first
    | (go_at_call 103; go_fit (KF _ hbD); rintro e w3 ⟨rfl, vi3, h3, r3⟩; obtain ⟨o0, o1⟩ := hb _ h3.old)
    | (go_at_call 76; go_fit (KW _ _ h3); rintro e w4 ⟨rfl, h4, r4⟩; obtain ⟨z0, z1⟩ := hb _ h4.old))
  all_goals go_wp2_with fail
  all_goals
    go_end0
    exact ⟨rfl, _, _, _, h4, (Roam.of hbD).trans (r3.trans r4)⟩
set_option maxRecDepth 20000 in
set_option maxHeartbeats 4000000 in
theorem do_out (h : BAt w0 x a w b vi vm vt) (hq : PQ w0 a q v u) (hls : q.locals.length ≤ 12) {z nb : Nat} {l : QLine} {ap an : Option Addr} {cp cn : Nat} (hl : LineAt z w0 l (.slice ap l.places.length cp) (.slice an l.next.length cn)) (hk : LOk q.locals.length nb l) (hop : l.op = 8) (hr : ∀ p, isI64 (b.val q p)) (ok : b.yd.Ok) (hpw : Pow w0) (h11 : 11 ≤ w0.heap.size) :
    Calls Tryz.prog 78 #[.pointer (some ⟨x, 0, none⟩), .agg #[.int .i64 (l.num : Nat), .int .i64 (l.op : Nat), .slice ap l.places.length cp, .int .i64 l.number, .int .i64 l.flag, .slice an l.next.length cn]] w fun e w' => e = .returned (.tuple #[]) ∧ ∃ vi' vm' vt', BAt w0 x a w' ({ b with yd := b.yd.note 111 (b.val q (l.places.getD 0 (0, 0))) }) vi' vm' vt' ∧ Roam x vm vt w vm' vt' w' := by
  have hlen : l.places.length = 1 := by rw [hk.plen, hop]; rfl
  obtain ⟨g, rfl, hcp, hg, c0, c1⟩ := place_at hl hlen 0 (by omega)
  have x0 := (hk.places (l.places.getD 0 (0, 0)) (by rw [List.getD_eq_getElem?_getD, List.getElem?_eq_getElem (by omega)]; exact List.getElem_mem _)).1
  have hb : ∀ W, Below w0.heap.size w0 W → (W.cell? ⟨g, 0, none⟩ = some (.int .i64 ((l.places.getD 0 (0, 0)).1 : Nat)) ∧ W.cell? ⟨g, 1, none⟩ = some (.int .i64 ((l.places.getD 0 (0, 0)).2 : Nat))) := fun W hW => ⟨(hW.cell (p := ⟨g, 0, none⟩) hg).trans c0, (hW.cell (p := ⟨g, 1, none⟩) hg).trans c1⟩
  have hbA : Below w.heap.size w (w.alloc (.cells #[.int .i64 (l.num : Nat), .int .i64 (l.op : Nat), .slice (some ⟨g, 0, none⟩) 1 cp, .int .i64 l.number, .int .i64 l.flag, .slice an l.next.length cn] 115)) := (Below.refl _ _).alloc (Nat.le_refl _) _
  have hhA : (w.alloc (.cells #[.int .i64 (l.num : Nat), .int .i64 (l.op : Nat), .slice (some ⟨g, 0, none⟩) 1 cp, .int .i64 l.number, .int .i64 l.flag, .slice an l.next.length cn] 115)).heap[w.heap.size]? = some (.cells #[.int .i64 (l.num : Nat), .int .i64 (l.op : Nat), .slice (some ⟨g, 0, none⟩) 1 cp, .int .i64 l.number, .int .i64 l.flag, .slice an l.next.length cn] 115 (0, 0)) := Array.getElem?_push_size
  have hsA : (w.alloc (.cells #[.int .i64 (l.num : Nat), .int .i64 (l.op : Nat), .slice (some ⟨g, 0, none⟩) 1 cp, .int .i64 l.number, .int .i64 l.flag, .slice an l.next.length cn] 115)).heap.size = w.heap.size + 1 := by simp
  have HA := h.below hbA
  have hfr := h.fresh (Nat.le_refl _)
  have HL : Hid (∀ W vm' vt', Roam x vm vt (w.alloc (.cells #[.int .i64 (l.num : Nat), .int .i64 (l.op : Nat), .slice (some ⟨g, 0, none⟩) 1 cp, .int .i64 l.number, .int .i64 l.flag, .slice an l.next.length cn] 115)) vm' vt' W → W.cell? ⟨w.heap.size, 1, none⟩ = some (.int .i64 (l.op : Nat)) ∧ W.cell? ⟨w.heap.size, 3, none⟩ = some (.int .i64 l.number) ∧ W.cell? ⟨w.heap.size, 4, none⟩ = some (.int .i64 l.flag)) := fun W vm' vt' r => ⟨(roam_cell r (by omega) hfr 1).trans (by rw [cell_of_heap hhA]; rfl), (roam_cell r (by omega) hfr 3).trans (by rw [cell_of_heap hhA]; rfl), (roam_cell r (by omega) hfr 4).trans (by rw [cell_of_heap hhA]; rfl)⟩
  obtain ⟨d0, d1⟩ := hb _ HA.old
  rw [hlen]
  have b2 : (((l.op : Nat) : Int) == 2) = false := by rw [hop]; rfl
  have b3 : (((l.op : Nat) : Int) == 3) = false := by rw [hop]; rfl
  have b4 : (((l.op : Nat) : Int) == 4) = false := by rw [hop]; rfl
  have b5 : (((l.op : Nat) : Int) == 5) = false := by rw [hop]; rfl
  have b7 : (((l.op : Nat) : Int) == 7) = false := by rw [hop]; rfl
  have b8 : (((l.op : Nat) : Int) == 8) = true := by rw [hop]; rfl
  have KV := fun (W : World) (hb : Below w.heap.size w W) => value_any (h.below hb) hq hls (l.places.getD 0 (0, 0)) x0
  have KP := fun (W : World) (hb : Below w.heap.size w W) => putOut_any (h.below hb).yat (b.val q (l.places.getD 0 (0, 0))) (hr _) (hpw.below (h.below hb).old h11) ok
  clear hl hk hop hlen c0 c1 hr
  generalize l.places.getD 0 (0, 0) = p0 at *
  have hbD : Below w.heap.size w (w.alloc (.cells #[.int .i64 (l.num : Nat), .int .i64 (l.op : Nat), .slice (some ⟨g, 0, none⟩) 1 cp, .int .i64 l.number, .int .i64 l.flag, .slice an l.next.length cn] 115)).drew := hbA.drew
  go_enter Tryz.func78, Tryz.ntmps78
  go_upto_region 12 with fail
  go_region_held3 (fun W' => W'.cell? ⟨g, 0, none⟩ = some (.int .i64 (p0.1 : Nat)) ∧ W'.cell? ⟨g, 1, none⟩ = some (.int .i64 (p0.2 : Nat))) (go_keep)
    (first
    | (go_at_call 74; go_fit (KV _ hbD); rintro e w3 ⟨rfl, hb3'⟩; have hb3 := hbD.trans (hb3'.mono hbD.size); obtain ⟨o0, o1⟩ := hb _ (h.below hb3).old)
    | (go_at_call 104; go_fit (KP _ hb3); rintro e w4 ⟨rfl, vm4, vt4, y4, r4⟩; have h4 := (h.below hb3).yard y4 r4; obtain ⟨z0, z1⟩ := hb _ h4.old))
  all_goals go_wp2_with fail
  all_goals
    go_end0
    exact ⟨rfl, _, _, _, h4, (Roam.of hb3).trans r4⟩
set_option maxRecDepth 20000 in
set_option maxHeartbeats 4000000 in
theorem do_load (h : BAt w0 x a w b vi vm vt) (hq : PQ w0 a q v u) (hls : q.locals.length ≤ 12) {z nb : Nat} {l : QLine} {ap an : Option Addr} {cp cn : Nat} (hl : LineAt z w0 l (.slice ap l.places.length cp) (.slice an l.next.length cn)) (hk : LOk q.locals.length nb l) (hop : l.op = 10) (_hr : ∀ p, isI64 (b.val q p)) (ok : b.yd.Ok) (hpw : Pow w0) (h11 : 11 ≤ w0.heap.size) (hbx : 1 ≤ b.val q (l.places.getD 1 (0, 0)) ∧ b.val q (l.places.getD 1 (0, 0)) ≤ b.yd.made.length) :
    Calls Tryz.prog 78 #[.pointer (some ⟨x, 0, none⟩), .agg #[.int .i64 (l.num : Nat), .int .i64 (l.op : Nat), .slice ap l.places.length cp, .int .i64 l.number, .int .i64 l.flag, .slice an l.next.length cn]] w fun e w' => e = .returned (.tuple #[]) ∧ ∃ vi' vm' vt', BAt w0 x a w' (({ b with yd := b.yd.load (b.val q (l.places.getD 1 (0, 0))).toNat } : Br).write q (l.places.getD 0 (0, 0)) (b.yd.at (b.val q (l.places.getD 1 (0, 0))).toNat).1) vi' vm' vt' ∧ Roam x vm vt w vm' vt' w' := by
  have hlen : l.places.length = 2 := by rw [hk.plen, hop]; rfl
  obtain ⟨g, rfl, hcp, hg, c0, c1⟩ := place_at hl hlen 0 (by omega)
  obtain ⟨g', e', -, -, c2, c3⟩ := place_at hl hlen 1 (by omega)
  simp only [Option.some.injEq, Addr.mk.injEq, and_true] at e'
  subst e'
  have x0 := (hk.places (l.places.getD 0 (0, 0)) (by rw [List.getD_eq_getElem?_getD, List.getElem?_eq_getElem (by omega)]; exact List.getElem_mem _)).1
  have x1 := (hk.places (l.places.getD 1 (0, 0)) (by rw [List.getD_eq_getElem?_getD, List.getElem?_eq_getElem (by omega)]; exact List.getElem_mem _)).1
  have hb : ∀ W, Below w0.heap.size w0 W → (W.cell? ⟨g, 0, none⟩ = some (.int .i64 ((l.places.getD 0 (0, 0)).1 : Nat)) ∧ W.cell? ⟨g, 1, none⟩ = some (.int .i64 ((l.places.getD 0 (0, 0)).2 : Nat)) ∧ W.cell? ⟨g, 2, none⟩ = some (.int .i64 ((l.places.getD 1 (0, 0)).1 : Nat)) ∧ W.cell? ⟨g, 3, none⟩ = some (.int .i64 ((l.places.getD 1 (0, 0)).2 : Nat))) := fun W hW => ⟨(hW.cell (p := ⟨g, 0, none⟩) hg).trans c0, (hW.cell (p := ⟨g, 1, none⟩) hg).trans c1, (hW.cell (p := ⟨g, 2, none⟩) hg).trans c2, (hW.cell (p := ⟨g, 3, none⟩) hg).trans c3⟩
  have hbA : Below w.heap.size w (w.alloc (.cells #[.int .i64 (l.num : Nat), .int .i64 (l.op : Nat), .slice (some ⟨g, 0, none⟩) 2 cp, .int .i64 l.number, .int .i64 l.flag, .slice an l.next.length cn] 115)) := (Below.refl _ _).alloc (Nat.le_refl _) _
  have hhA : (w.alloc (.cells #[.int .i64 (l.num : Nat), .int .i64 (l.op : Nat), .slice (some ⟨g, 0, none⟩) 2 cp, .int .i64 l.number, .int .i64 l.flag, .slice an l.next.length cn] 115)).heap[w.heap.size]? = some (.cells #[.int .i64 (l.num : Nat), .int .i64 (l.op : Nat), .slice (some ⟨g, 0, none⟩) 2 cp, .int .i64 l.number, .int .i64 l.flag, .slice an l.next.length cn] 115 (0, 0)) := Array.getElem?_push_size
  have hsA : (w.alloc (.cells #[.int .i64 (l.num : Nat), .int .i64 (l.op : Nat), .slice (some ⟨g, 0, none⟩) 2 cp, .int .i64 l.number, .int .i64 l.flag, .slice an l.next.length cn] 115)).heap.size = w.heap.size + 1 := by simp
  have HA := h.below hbA
  have hfr := h.fresh (Nat.le_refl _)
  have HL : Hid (∀ W vm' vt', Roam x vm vt (w.alloc (.cells #[.int .i64 (l.num : Nat), .int .i64 (l.op : Nat), .slice (some ⟨g, 0, none⟩) 2 cp, .int .i64 l.number, .int .i64 l.flag, .slice an l.next.length cn] 115)) vm' vt' W → W.cell? ⟨w.heap.size, 1, none⟩ = some (.int .i64 (l.op : Nat)) ∧ W.cell? ⟨w.heap.size, 3, none⟩ = some (.int .i64 l.number) ∧ W.cell? ⟨w.heap.size, 4, none⟩ = some (.int .i64 l.flag)) := fun W vm' vt' r => ⟨(roam_cell r (by omega) hfr 1).trans (by rw [cell_of_heap hhA]; rfl), (roam_cell r (by omega) hfr 3).trans (by rw [cell_of_heap hhA]; rfl), (roam_cell r (by omega) hfr 4).trans (by rw [cell_of_heap hhA]; rfl)⟩
  obtain ⟨d0, d1, d2, d3⟩ := hb _ HA.old
  rw [hlen]
  have b2 : (((l.op : Nat) : Int) == 2) = false := by rw [hop]; rfl
  have b3 : (((l.op : Nat) : Int) == 3) = false := by rw [hop]; rfl
  have b4 : (((l.op : Nat) : Int) == 4) = false := by rw [hop]; rfl
  have b5 : (((l.op : Nat) : Int) == 5) = false := by rw [hop]; rfl
  have b7 : (((l.op : Nat) : Int) == 7) = false := by rw [hop]; rfl
  have b8 : (((l.op : Nat) : Int) == 8) = false := by rw [hop]; rfl
  have b10 : (((l.op : Nat) : Int) == 10) = true := by rw [hop]; rfl
  obtain ⟨m, hm⟩ : ∃ m : Nat, b.val q (l.places.getD 1 (0, 0)) = m := ⟨(b.val q (l.places.getD 1 (0, 0))).toNat, by omega⟩
  have hmn : (b.val q (l.places.getD 1 (0, 0))).toNat = m := by omega
  rw [hmn]
  have KN := fun (W : World) (hb : Below w.heap.size w W) => named_any (h.below hb) hq hls (l.places.getD 1 (0, 0)) x1
  rw [hm] at KN
  have KL := fun (W : World) (hb : Below w.heap.size w W) => load_any (h.below hb).yat m (by omega) (by omega) (hpw.below (h.below hb).old h11) ok
  have KW := fun (W : World) (vm' vt' : Value) (hW : BAt w0 x a W { b with yd := b.yd.load m } vi vm' vt') => write_any hW hq hls (l.places.getD 0 (0, 0)) x0 (b.yd.at m).1
  clear hl hk hop hlen c0 c1 c2 c3 _hr hm hmn hbx
  generalize l.places.getD 0 (0, 0) = p0 at *
  generalize l.places.getD 1 (0, 0) = p1 at *
  have hbD : Below w.heap.size w (w.alloc (.cells #[.int .i64 (l.num : Nat), .int .i64 (l.op : Nat), .slice (some ⟨g, 0, none⟩) 2 cp, .int .i64 l.number, .int .i64 l.flag, .slice an l.next.length cn] 115)).drew := hbA.drew
  go_enter Tryz.func78, Tryz.ntmps78
  go_upto_region 14 with fail
  go_region_held3 (fun W' => W'.cell? ⟨g, 0, none⟩ = some (.int .i64 (p0.1 : Nat)) ∧ W'.cell? ⟨g, 1, none⟩ = some (.int .i64 (p0.2 : Nat)) ∧ W'.cell? ⟨g, 2, none⟩ = some (.int .i64 (p1.1 : Nat)) ∧ W'.cell? ⟨g, 3, none⟩ = some (.int .i64 (p1.2 : Nat))) (go_keep)
    (first
    | (go_at_call 122; go_fit (KN _ hbD); rintro e w3 ⟨rfl, hb3'⟩; have hb3 := hbD.trans (hb3'.mono hbD.size); obtain ⟨o0, o1, o2, o3⟩ := hb _ (h.below hb3).old)
    | (go_at_call 105; go_fit (KL _ hb3); rintro e w4 ⟨rfl, vm4, vt4, y4, r4⟩; have h4 := (h.below hb3).yard y4 r4; obtain ⟨z0, z1, z2, z3⟩ := hb _ h4.old)
    | (go_at_call 76; go_fit (KW _ _ _ h4); rintro e w5 ⟨rfl, h5, r5⟩; obtain ⟨t0, t1, t2, t3⟩ := hb _ h5.old))
  all_goals go_wp2_with fail
  all_goals
    go_end0
    exact ⟨rfl, _, _, _, h5, (Roam.of hb3).trans (r4.trans r5)⟩
set_option maxRecDepth 20000 in
set_option maxHeartbeats 4000000 in
theorem do_store (h : BAt w0 x a w b vi vm vt) (hq : PQ w0 a q v u) (hls : q.locals.length ≤ 12) {z nb : Nat} {l : QLine} {ap an : Option Addr} {cp cn : Nat} (hl : LineAt z w0 l (.slice ap l.places.length cp) (.slice an l.next.length cn)) (hk : LOk q.locals.length nb l) (hop : l.op = 11) (_hr : ∀ p, isI64 (b.val q p)) (ok : b.yd.Ok) (hpw : Pow w0) (h11 : 11 ≤ w0.heap.size) (hbx : 1 ≤ b.val q (l.places.getD 0 (0, 0)) ∧ b.val q (l.places.getD 0 (0, 0)) ≤ b.yd.made.length) :
    Calls Tryz.prog 78 #[.pointer (some ⟨x, 0, none⟩), .agg #[.int .i64 (l.num : Nat), .int .i64 (l.op : Nat), .slice ap l.places.length cp, .int .i64 l.number, .int .i64 l.flag, .slice an l.next.length cn]] w fun e w' => e = .returned (.tuple #[]) ∧ ∃ vi' vm' vt', BAt w0 x a w' ({ b with yd := b.yd.store (b.val q (l.places.getD 0 (0, 0))).toNat (b.val q (l.places.getD 1 (0, 0))) }) vi' vm' vt' ∧ Roam x vm vt w vm' vt' w' := by
  have hlen : l.places.length = 2 := by rw [hk.plen, hop]; rfl
  obtain ⟨g, rfl, hcp, hg, c0, c1⟩ := place_at hl hlen 0 (by omega)
  obtain ⟨g', e', -, -, c2, c3⟩ := place_at hl hlen 1 (by omega)
  simp only [Option.some.injEq, Addr.mk.injEq, and_true] at e'
  subst e'
  have x0 := (hk.places (l.places.getD 0 (0, 0)) (by rw [List.getD_eq_getElem?_getD, List.getElem?_eq_getElem (by omega)]; exact List.getElem_mem _)).1
  have x1 := (hk.places (l.places.getD 1 (0, 0)) (by rw [List.getD_eq_getElem?_getD, List.getElem?_eq_getElem (by omega)]; exact List.getElem_mem _)).1
  have hb : ∀ W, Below w0.heap.size w0 W → (W.cell? ⟨g, 0, none⟩ = some (.int .i64 ((l.places.getD 0 (0, 0)).1 : Nat)) ∧ W.cell? ⟨g, 1, none⟩ = some (.int .i64 ((l.places.getD 0 (0, 0)).2 : Nat)) ∧ W.cell? ⟨g, 2, none⟩ = some (.int .i64 ((l.places.getD 1 (0, 0)).1 : Nat)) ∧ W.cell? ⟨g, 3, none⟩ = some (.int .i64 ((l.places.getD 1 (0, 0)).2 : Nat))) := fun W hW => ⟨(hW.cell (p := ⟨g, 0, none⟩) hg).trans c0, (hW.cell (p := ⟨g, 1, none⟩) hg).trans c1, (hW.cell (p := ⟨g, 2, none⟩) hg).trans c2, (hW.cell (p := ⟨g, 3, none⟩) hg).trans c3⟩
  have hbA : Below w.heap.size w (w.alloc (.cells #[.int .i64 (l.num : Nat), .int .i64 (l.op : Nat), .slice (some ⟨g, 0, none⟩) 2 cp, .int .i64 l.number, .int .i64 l.flag, .slice an l.next.length cn] 115)) := (Below.refl _ _).alloc (Nat.le_refl _) _
  have hhA : (w.alloc (.cells #[.int .i64 (l.num : Nat), .int .i64 (l.op : Nat), .slice (some ⟨g, 0, none⟩) 2 cp, .int .i64 l.number, .int .i64 l.flag, .slice an l.next.length cn] 115)).heap[w.heap.size]? = some (.cells #[.int .i64 (l.num : Nat), .int .i64 (l.op : Nat), .slice (some ⟨g, 0, none⟩) 2 cp, .int .i64 l.number, .int .i64 l.flag, .slice an l.next.length cn] 115 (0, 0)) := Array.getElem?_push_size
  have hsA : (w.alloc (.cells #[.int .i64 (l.num : Nat), .int .i64 (l.op : Nat), .slice (some ⟨g, 0, none⟩) 2 cp, .int .i64 l.number, .int .i64 l.flag, .slice an l.next.length cn] 115)).heap.size = w.heap.size + 1 := by simp
  have HA := h.below hbA
  have hfr := h.fresh (Nat.le_refl _)
  have HL : Hid (∀ W vm' vt', Roam x vm vt (w.alloc (.cells #[.int .i64 (l.num : Nat), .int .i64 (l.op : Nat), .slice (some ⟨g, 0, none⟩) 2 cp, .int .i64 l.number, .int .i64 l.flag, .slice an l.next.length cn] 115)) vm' vt' W → W.cell? ⟨w.heap.size, 1, none⟩ = some (.int .i64 (l.op : Nat)) ∧ W.cell? ⟨w.heap.size, 3, none⟩ = some (.int .i64 l.number) ∧ W.cell? ⟨w.heap.size, 4, none⟩ = some (.int .i64 l.flag)) := fun W vm' vt' r => ⟨(roam_cell r (by omega) hfr 1).trans (by rw [cell_of_heap hhA]; rfl), (roam_cell r (by omega) hfr 3).trans (by rw [cell_of_heap hhA]; rfl), (roam_cell r (by omega) hfr 4).trans (by rw [cell_of_heap hhA]; rfl)⟩
  obtain ⟨d0, d1, d2, d3⟩ := hb _ HA.old
  rw [hlen]
  have b2 : (((l.op : Nat) : Int) == 2) = false := by rw [hop]; rfl
  have b3 : (((l.op : Nat) : Int) == 3) = false := by rw [hop]; rfl
  have b4 : (((l.op : Nat) : Int) == 4) = false := by rw [hop]; rfl
  have b5 : (((l.op : Nat) : Int) == 5) = false := by rw [hop]; rfl
  have b7 : (((l.op : Nat) : Int) == 7) = false := by rw [hop]; rfl
  have b8 : (((l.op : Nat) : Int) == 8) = false := by rw [hop]; rfl
  have b10 : (((l.op : Nat) : Int) == 10) = false := by rw [hop]; rfl
  have b11 : (((l.op : Nat) : Int) == 11) = true := by rw [hop]; rfl
  obtain ⟨m, hm⟩ : ∃ m : Nat, b.val q (l.places.getD 0 (0, 0)) = m := ⟨(b.val q (l.places.getD 0 (0, 0))).toNat, by omega⟩
  have hmn : (b.val q (l.places.getD 0 (0, 0))).toNat = m := by omega
  rw [hmn]
  have KN := fun (W : World) (hb : Below w.heap.size w W) => named_any (h.below hb) hq hls (l.places.getD 0 (0, 0)) x0
  rw [hm] at KN
  have KV := fun (W : World) (hb : Below w.heap.size w W) => value_any (h.below hb) hq hls (l.places.getD 1 (0, 0)) x1
  have KS := fun (W : World) (hb : Below w.heap.size w W) => store_any (h.below hb).yat m (by omega) (by omega) (b.val q (l.places.getD 1 (0, 0))) (hpw.below (h.below hb).old h11) ok
  clear hl hk hop hlen c0 c1 c2 c3 _hr hm hmn hbx
  generalize l.places.getD 0 (0, 0) = p0 at *
  generalize l.places.getD 1 (0, 0) = p1 at *
  have hbD : Below w.heap.size w (w.alloc (.cells #[.int .i64 (l.num : Nat), .int .i64 (l.op : Nat), .slice (some ⟨g, 0, none⟩) 2 cp, .int .i64 l.number, .int .i64 l.flag, .slice an l.next.length cn] 115)).drew := hbA.drew
  go_enter Tryz.func78, Tryz.ntmps78
  go_upto_region 16 with fail
  go_region_held3 (fun W' => W'.cell? ⟨g, 0, none⟩ = some (.int .i64 (p0.1 : Nat)) ∧ W'.cell? ⟨g, 1, none⟩ = some (.int .i64 (p0.2 : Nat)) ∧ W'.cell? ⟨g, 2, none⟩ = some (.int .i64 (p1.1 : Nat)) ∧ W'.cell? ⟨g, 3, none⟩ = some (.int .i64 (p1.2 : Nat))) (go_keep)
    (first
    | (go_at_call 122; go_fit (KN _ hbD); rintro e w3 ⟨rfl, hb3'⟩; have hb3 := hbD.trans (hb3'.mono hbD.size); obtain ⟨o0, o1, o2, o3⟩ := hb _ (h.below hb3).old)
    | (go_at_call 74; go_fit (KV _ hb3); rintro e w6 ⟨rfl, hb6'⟩; have hb6 := hb3.trans (hb6'.mono hb3.size); obtain ⟨t0, t1, t2, t3⟩ := hb _ (h.below hb6).old)
    | (go_at_call 106; go_fit (KS _ hb6); rintro e w4 ⟨rfl, vm4, vt4, y4, r4⟩; have h4 := (h.below hb6).yard y4 r4; obtain ⟨z0, z1, z2, z3⟩ := hb _ h4.old))
  all_goals go_wp2_with fail
  all_goals
    go_end0
    exact ⟨rfl, _, _, _, h4, (Roam.of hb6).trans r4⟩
set_option maxRecDepth 20000 in
set_option maxHeartbeats 4000000 in
theorem do_free (h : BAt w0 x a w b vi vm vt) (hq : PQ w0 a q v u) (hls : q.locals.length ≤ 12) {z nb : Nat} {l : QLine} {ap an : Option Addr} {cp cn : Nat} (hl : LineAt z w0 l (.slice ap l.places.length cp) (.slice an l.next.length cn)) (hk : LOk q.locals.length nb l) (hop : l.op = 16) (_hr : ∀ p, isI64 (b.val q p)) (ok : b.yd.Ok) (hpw : Pow w0) (h11 : 11 ≤ w0.heap.size) (hbx : 1 ≤ b.val q (l.places.getD 0 (0, 0)) ∧ b.val q (l.places.getD 0 (0, 0)) ≤ b.yd.made.length) :
    Calls Tryz.prog 78 #[.pointer (some ⟨x, 0, none⟩), .agg #[.int .i64 (l.num : Nat), .int .i64 (l.op : Nat), .slice ap l.places.length cp, .int .i64 l.number, .int .i64 l.flag, .slice an l.next.length cn]] w fun e w' => e = .returned (.tuple #[]) ∧ ∃ vi' vm' vt', BAt w0 x a w' ({ b with yd := b.yd.free (b.val q (l.places.getD 0 (0, 0))).toNat }) vi' vm' vt' ∧ Roam x vm vt w vm' vt' w' := by
  have hlen : l.places.length = 1 := by rw [hk.plen, hop]; rfl
  obtain ⟨g, rfl, hcp, hg, c0, c1⟩ := place_at hl hlen 0 (by omega)
  have x0 := (hk.places (l.places.getD 0 (0, 0)) (by rw [List.getD_eq_getElem?_getD, List.getElem?_eq_getElem (by omega)]; exact List.getElem_mem _)).1
  have hb : ∀ W, Below w0.heap.size w0 W → (W.cell? ⟨g, 0, none⟩ = some (.int .i64 ((l.places.getD 0 (0, 0)).1 : Nat)) ∧ W.cell? ⟨g, 1, none⟩ = some (.int .i64 ((l.places.getD 0 (0, 0)).2 : Nat))) := fun W hW => ⟨(hW.cell (p := ⟨g, 0, none⟩) hg).trans c0, (hW.cell (p := ⟨g, 1, none⟩) hg).trans c1⟩
  have hbA : Below w.heap.size w (w.alloc (.cells #[.int .i64 (l.num : Nat), .int .i64 (l.op : Nat), .slice (some ⟨g, 0, none⟩) 1 cp, .int .i64 l.number, .int .i64 l.flag, .slice an l.next.length cn] 115)) := (Below.refl _ _).alloc (Nat.le_refl _) _
  have hhA : (w.alloc (.cells #[.int .i64 (l.num : Nat), .int .i64 (l.op : Nat), .slice (some ⟨g, 0, none⟩) 1 cp, .int .i64 l.number, .int .i64 l.flag, .slice an l.next.length cn] 115)).heap[w.heap.size]? = some (.cells #[.int .i64 (l.num : Nat), .int .i64 (l.op : Nat), .slice (some ⟨g, 0, none⟩) 1 cp, .int .i64 l.number, .int .i64 l.flag, .slice an l.next.length cn] 115 (0, 0)) := Array.getElem?_push_size
  have hsA : (w.alloc (.cells #[.int .i64 (l.num : Nat), .int .i64 (l.op : Nat), .slice (some ⟨g, 0, none⟩) 1 cp, .int .i64 l.number, .int .i64 l.flag, .slice an l.next.length cn] 115)).heap.size = w.heap.size + 1 := by simp
  have HA := h.below hbA
  have hfr := h.fresh (Nat.le_refl _)
  have HL : Hid (∀ W vm' vt', Roam x vm vt (w.alloc (.cells #[.int .i64 (l.num : Nat), .int .i64 (l.op : Nat), .slice (some ⟨g, 0, none⟩) 1 cp, .int .i64 l.number, .int .i64 l.flag, .slice an l.next.length cn] 115)) vm' vt' W → W.cell? ⟨w.heap.size, 1, none⟩ = some (.int .i64 (l.op : Nat)) ∧ W.cell? ⟨w.heap.size, 3, none⟩ = some (.int .i64 l.number) ∧ W.cell? ⟨w.heap.size, 4, none⟩ = some (.int .i64 l.flag)) := fun W vm' vt' r => ⟨(roam_cell r (by omega) hfr 1).trans (by rw [cell_of_heap hhA]; rfl), (roam_cell r (by omega) hfr 3).trans (by rw [cell_of_heap hhA]; rfl), (roam_cell r (by omega) hfr 4).trans (by rw [cell_of_heap hhA]; rfl)⟩
  obtain ⟨d0, d1⟩ := hb _ HA.old
  rw [hlen]
  have b2 : (((l.op : Nat) : Int) == 2) = false := by rw [hop]; rfl
  have b3 : (((l.op : Nat) : Int) == 3) = false := by rw [hop]; rfl
  have b4 : (((l.op : Nat) : Int) == 4) = false := by rw [hop]; rfl
  have b5 : (((l.op : Nat) : Int) == 5) = false := by rw [hop]; rfl
  have b7 : (((l.op : Nat) : Int) == 7) = false := by rw [hop]; rfl
  have b8 : (((l.op : Nat) : Int) == 8) = false := by rw [hop]; rfl
  have b10 : (((l.op : Nat) : Int) == 10) = false := by rw [hop]; rfl
  have b11 : (((l.op : Nat) : Int) == 11) = false := by rw [hop]; rfl
  have b16 : (((l.op : Nat) : Int) == 16) = true := by rw [hop]; rfl
  obtain ⟨m, hm⟩ : ∃ m : Nat, b.val q (l.places.getD 0 (0, 0)) = m := ⟨(b.val q (l.places.getD 0 (0, 0))).toNat, by omega⟩
  have hmn : (b.val q (l.places.getD 0 (0, 0))).toNat = m := by omega
  rw [hmn]
  have KN := fun (W : World) (hb : Below w.heap.size w W) => named_any (h.below hb) hq hls (l.places.getD 0 (0, 0)) x0
  rw [hm] at KN
  have KS := fun (W : World) (hb : Below w.heap.size w W) => free_any (h.below hb).yat m (by omega) (by omega) (hpw.below (h.below hb).old h11) ok h11
  clear hl hk hop hlen c0 c1 _hr hm hmn hbx
  generalize l.places.getD 0 (0, 0) = p0 at *
  have hbD : Below w.heap.size w (w.alloc (.cells #[.int .i64 (l.num : Nat), .int .i64 (l.op : Nat), .slice (some ⟨g, 0, none⟩) 1 cp, .int .i64 l.number, .int .i64 l.flag, .slice an l.next.length cn] 115)).drew := hbA.drew
  go_enter Tryz.func78, Tryz.ntmps78
  go_upto_region 18 with fail
  go_region_held3 (fun W' => W'.cell? ⟨g, 0, none⟩ = some (.int .i64 (p0.1 : Nat)) ∧ W'.cell? ⟨g, 1, none⟩ = some (.int .i64 (p0.2 : Nat))) (go_keep)
    (first
    | (go_at_call 122; go_fit (KN _ hbD); rintro e w3 ⟨rfl, hb3'⟩; have hb3 := hbD.trans (hb3'.mono hbD.size); obtain ⟨o0, o1⟩ := hb _ (h.below hb3).old)
    | (go_at_call 97; go_fit (KS _ hb3); rintro e w4 ⟨rfl, vm4, vt4, y4, r4⟩; have h4 := (h.below hb3).yard y4 r4; obtain ⟨z0, z1⟩ := hb _ h4.old))
  all_goals go_wp2_with fail
  all_goals
    go_end0
    exact ⟨rfl, _, _, _, h4, (Roam.of hb3).trans r4⟩
set_option maxRecDepth 20000 in
set_option maxHeartbeats 4000000 in
theorem do_move (h : BAt w0 x a w b vi vm vt) (hq : PQ w0 a q v u) (hls : q.locals.length ≤ 12) {z nb : Nat} {l : QLine} {ap an : Option Addr} {cp cn : Nat} (hl : LineAt z w0 l (.slice ap l.places.length cp) (.slice an l.next.length cn)) (hk : LOk q.locals.length nb l) (hop : l.op = 12) (hhl : (QP.halvesQ q (l.places.getD 0 (0, 0))).length = (QP.halvesQ q (l.places.getD 1 (0, 0))).length) :
    Calls Tryz.prog 78 #[.pointer (some ⟨x, 0, none⟩), .agg #[.int .i64 (l.num : Nat), .int .i64 (l.op : Nat), .slice ap l.places.length cp, .int .i64 l.number, .int .i64 l.flag, .slice an l.next.length cn]] w fun e w' => e = .returned (.tuple #[]) ∧ ∃ vi' vm' vt', BAt w0 x a w' (b.move q (l.places.getD 0 (0, 0)) (l.places.getD 1 (0, 0))) vi' vm' vt' ∧ Roam x vm vt w vm' vt' w' := by
  have hlen : l.places.length = 2 := by rw [hk.plen, hop]; rfl
  obtain ⟨g, rfl, hcp, hg, c0, c1⟩ := place_at hl hlen 0 (by omega)
  obtain ⟨g', e', -, -, c2, c3⟩ := place_at hl hlen 1 (by omega)
  simp only [Option.some.injEq, Addr.mk.injEq, and_true] at e'
  subst e'
  have x0 := (hk.places (l.places.getD 0 (0, 0)) (by rw [List.getD_eq_getElem?_getD, List.getElem?_eq_getElem (by omega)]; exact List.getElem_mem _)).1
  have x1 := (hk.places (l.places.getD 1 (0, 0)) (by rw [List.getD_eq_getElem?_getD, List.getElem?_eq_getElem (by omega)]; exact List.getElem_mem _)).1
  have hb : ∀ W, Below w0.heap.size w0 W → (W.cell? ⟨g, 0, none⟩ = some (.int .i64 ((l.places.getD 0 (0, 0)).1 : Nat)) ∧ W.cell? ⟨g, 1, none⟩ = some (.int .i64 ((l.places.getD 0 (0, 0)).2 : Nat)) ∧ W.cell? ⟨g, 2, none⟩ = some (.int .i64 ((l.places.getD 1 (0, 0)).1 : Nat)) ∧ W.cell? ⟨g, 3, none⟩ = some (.int .i64 ((l.places.getD 1 (0, 0)).2 : Nat))) := fun W hW => ⟨(hW.cell (p := ⟨g, 0, none⟩) hg).trans c0, (hW.cell (p := ⟨g, 1, none⟩) hg).trans c1, (hW.cell (p := ⟨g, 2, none⟩) hg).trans c2, (hW.cell (p := ⟨g, 3, none⟩) hg).trans c3⟩
  have hbA : Below w.heap.size w (w.alloc (.cells #[.int .i64 (l.num : Nat), .int .i64 (l.op : Nat), .slice (some ⟨g, 0, none⟩) 2 cp, .int .i64 l.number, .int .i64 l.flag, .slice an l.next.length cn] 115)) := (Below.refl _ _).alloc (Nat.le_refl _) _
  have hhA : (w.alloc (.cells #[.int .i64 (l.num : Nat), .int .i64 (l.op : Nat), .slice (some ⟨g, 0, none⟩) 2 cp, .int .i64 l.number, .int .i64 l.flag, .slice an l.next.length cn] 115)).heap[w.heap.size]? = some (.cells #[.int .i64 (l.num : Nat), .int .i64 (l.op : Nat), .slice (some ⟨g, 0, none⟩) 2 cp, .int .i64 l.number, .int .i64 l.flag, .slice an l.next.length cn] 115 (0, 0)) := Array.getElem?_push_size
  have hsA : (w.alloc (.cells #[.int .i64 (l.num : Nat), .int .i64 (l.op : Nat), .slice (some ⟨g, 0, none⟩) 2 cp, .int .i64 l.number, .int .i64 l.flag, .slice an l.next.length cn] 115)).heap.size = w.heap.size + 1 := by simp
  have HA := h.below hbA
  have hfr := h.fresh (Nat.le_refl _)
  have HL : Hid (∀ W vm' vt', Roam x vm vt (w.alloc (.cells #[.int .i64 (l.num : Nat), .int .i64 (l.op : Nat), .slice (some ⟨g, 0, none⟩) 2 cp, .int .i64 l.number, .int .i64 l.flag, .slice an l.next.length cn] 115)) vm' vt' W → W.cell? ⟨w.heap.size, 1, none⟩ = some (.int .i64 (l.op : Nat)) ∧ W.cell? ⟨w.heap.size, 3, none⟩ = some (.int .i64 l.number) ∧ W.cell? ⟨w.heap.size, 4, none⟩ = some (.int .i64 l.flag)) := fun W vm' vt' r => ⟨(roam_cell r (by omega) hfr 1).trans (by rw [cell_of_heap hhA]; rfl), (roam_cell r (by omega) hfr 3).trans (by rw [cell_of_heap hhA]; rfl), (roam_cell r (by omega) hfr 4).trans (by rw [cell_of_heap hhA]; rfl)⟩
  obtain ⟨d0, d1, d2, d3⟩ := hb _ HA.old
  rw [hlen]
  have b2 : (((l.op : Nat) : Int) == 2) = false := by rw [hop]; rfl
  have b3 : (((l.op : Nat) : Int) == 3) = false := by rw [hop]; rfl
  have b4 : (((l.op : Nat) : Int) == 4) = false := by rw [hop]; rfl
  have b5 : (((l.op : Nat) : Int) == 5) = false := by rw [hop]; rfl
  have b7 : (((l.op : Nat) : Int) == 7) = false := by rw [hop]; rfl
  have b8 : (((l.op : Nat) : Int) == 8) = false := by rw [hop]; rfl
  have b10 : (((l.op : Nat) : Int) == 10) = false := by rw [hop]; rfl
  have b11 : (((l.op : Nat) : Int) == 11) = false := by rw [hop]; rfl
  have b16 : (((l.op : Nat) : Int) == 16) = false := by rw [hop]; rfl
  have b12 : (((l.op : Nat) : Int) == 12) = true := by rw [hop]; rfl
  have KM := fun (W : World) (hb : Below w.heap.size w W) => move_any (h.below hb) hq hls (l.places.getD 0 (0, 0)) (l.places.getD 1 (0, 0)) x0 x1 hhl
  clear hl hk hop hlen c0 c1 c2 c3 hhl
  generalize l.places.getD 0 (0, 0) = p0 at *
  generalize l.places.getD 1 (0, 0) = p1 at *
  have hbD : Below w.heap.size w (w.alloc (.cells #[.int .i64 (l.num : Nat), .int .i64 (l.op : Nat), .slice (some ⟨g, 0, none⟩) 2 cp, .int .i64 l.number, .int .i64 l.flag, .slice an l.next.length cn] 115)).drew := hbA.drew
  go_enter Tryz.func78, Tryz.ntmps78
  go_upto_region 20 with fail
  go_region_held3 (fun W' => W'.cell? ⟨g, 0, none⟩ = some (.int .i64 (p0.1 : Nat)) ∧ W'.cell? ⟨g, 1, none⟩ = some (.int .i64 (p0.2 : Nat)) ∧ W'.cell? ⟨g, 2, none⟩ = some (.int .i64 (p1.1 : Nat)) ∧ W'.cell? ⟨g, 3, none⟩ = some (.int .i64 (p1.2 : Nat))) (go_keep)
    (first
    | (go_at_call 123; go_fit (KM _ hbD); rintro e w4 ⟨rfl, h4, r4⟩; obtain ⟨z0, z1, z2, z3⟩ := hb _ h4.old))
  all_goals go_wp2_with fail
  all_goals
    go_end0
    exact ⟨rfl, _, _, _, h4, (Roam.of hbD).trans r4⟩
set_option maxRecDepth 20000 in
set_option maxHeartbeats 4000000 in
theorem do_none (h : BAt w0 x a w b vi vm vt) (hq : PQ w0 a q v u) (hls : q.locals.length ≤ 12) {z nb : Nat} {l : QLine} {ap an : Option Addr} {cp cn : Nat} (hl : LineAt z w0 l (.slice ap l.places.length cp) (.slice an l.next.length cn)) (hk : LOk q.locals.length nb l) (hop : l.op = 13) :
    Calls Tryz.prog 78 #[.pointer (some ⟨x, 0, none⟩), .agg #[.int .i64 (l.num : Nat), .int .i64 (l.op : Nat), .slice ap l.places.length cp, .int .i64 l.number, .int .i64 l.flag, .slice an l.next.length cn]] w fun e w' => e = .returned (.tuple #[]) ∧ ∃ vi' vm' vt', BAt w0 x a w' (b.write q (l.places.getD 0 (0, 0)) 0) vi' vm' vt' ∧ Roam x vm vt w vm' vt' w' := by
  have hlen : l.places.length = 1 := by rw [hk.plen, hop]; rfl
  obtain ⟨g, rfl, hcp, hg, c0, c1⟩ := place_at hl hlen 0 (by omega)
  have x0 := (hk.places (l.places.getD 0 (0, 0)) (by rw [List.getD_eq_getElem?_getD, List.getElem?_eq_getElem (by omega)]; exact List.getElem_mem _)).1
  have hb : ∀ W, Below w0.heap.size w0 W → (W.cell? ⟨g, 0, none⟩ = some (.int .i64 ((l.places.getD 0 (0, 0)).1 : Nat)) ∧ W.cell? ⟨g, 1, none⟩ = some (.int .i64 ((l.places.getD 0 (0, 0)).2 : Nat))) := fun W hW => ⟨(hW.cell (p := ⟨g, 0, none⟩) hg).trans c0, (hW.cell (p := ⟨g, 1, none⟩) hg).trans c1⟩
  have hbA : Below w.heap.size w (w.alloc (.cells #[.int .i64 (l.num : Nat), .int .i64 (l.op : Nat), .slice (some ⟨g, 0, none⟩) 1 cp, .int .i64 l.number, .int .i64 l.flag, .slice an l.next.length cn] 115)) := (Below.refl _ _).alloc (Nat.le_refl _) _
  have hhA : (w.alloc (.cells #[.int .i64 (l.num : Nat), .int .i64 (l.op : Nat), .slice (some ⟨g, 0, none⟩) 1 cp, .int .i64 l.number, .int .i64 l.flag, .slice an l.next.length cn] 115)).heap[w.heap.size]? = some (.cells #[.int .i64 (l.num : Nat), .int .i64 (l.op : Nat), .slice (some ⟨g, 0, none⟩) 1 cp, .int .i64 l.number, .int .i64 l.flag, .slice an l.next.length cn] 115 (0, 0)) := Array.getElem?_push_size
  have hsA : (w.alloc (.cells #[.int .i64 (l.num : Nat), .int .i64 (l.op : Nat), .slice (some ⟨g, 0, none⟩) 1 cp, .int .i64 l.number, .int .i64 l.flag, .slice an l.next.length cn] 115)).heap.size = w.heap.size + 1 := by simp
  have HA := h.below hbA
  have hfr := h.fresh (Nat.le_refl _)
  have HL : Hid (∀ W vm' vt', Roam x vm vt (w.alloc (.cells #[.int .i64 (l.num : Nat), .int .i64 (l.op : Nat), .slice (some ⟨g, 0, none⟩) 1 cp, .int .i64 l.number, .int .i64 l.flag, .slice an l.next.length cn] 115)) vm' vt' W → W.cell? ⟨w.heap.size, 1, none⟩ = some (.int .i64 (l.op : Nat)) ∧ W.cell? ⟨w.heap.size, 3, none⟩ = some (.int .i64 l.number) ∧ W.cell? ⟨w.heap.size, 4, none⟩ = some (.int .i64 l.flag)) := fun W vm' vt' r => ⟨(roam_cell r (by omega) hfr 1).trans (by rw [cell_of_heap hhA]; rfl), (roam_cell r (by omega) hfr 3).trans (by rw [cell_of_heap hhA]; rfl), (roam_cell r (by omega) hfr 4).trans (by rw [cell_of_heap hhA]; rfl)⟩
  obtain ⟨d0, d1⟩ := hb _ HA.old
  rw [hlen]
  have b2 : (((l.op : Nat) : Int) == 2) = false := by rw [hop]; rfl
  have b3 : (((l.op : Nat) : Int) == 3) = false := by rw [hop]; rfl
  have b4 : (((l.op : Nat) : Int) == 4) = false := by rw [hop]; rfl
  have b5 : (((l.op : Nat) : Int) == 5) = false := by rw [hop]; rfl
  have b7 : (((l.op : Nat) : Int) == 7) = false := by rw [hop]; rfl
  have b8 : (((l.op : Nat) : Int) == 8) = false := by rw [hop]; rfl
  have b10 : (((l.op : Nat) : Int) == 10) = false := by rw [hop]; rfl
  have b11 : (((l.op : Nat) : Int) == 11) = false := by rw [hop]; rfl
  have b16 : (((l.op : Nat) : Int) == 16) = false := by rw [hop]; rfl
  have b12 : (((l.op : Nat) : Int) == 12) = false := by rw [hop]; rfl
  have b13 : (((l.op : Nat) : Int) == 13) = true := by rw [hop]; rfl
  have KW := write_any HA hq hls (l.places.getD 0 (0, 0)) x0 0
  clear hl hk hop hlen c0 c1
  generalize l.places.getD 0 (0, 0) = p0 at *
  go_enter Tryz.func78, Tryz.ntmps78
  go_wp2_with (go_at_call 76; go_fit KW; rintro e w4 ⟨rfl, h4, r4⟩)
  go_end0
  exact ⟨rfl, _, _, _, h4, (Roam.of hbA).trans r4⟩
set_option maxRecDepth 20000 in
set_option maxHeartbeats 4000000 in
theorem do_some (h : BAt w0 x a w b vi vm vt) (hq : PQ w0 a q v u) (hls : q.locals.length ≤ 12) {z nb : Nat} {l : QLine} {ap an : Option Addr} {cp cn : Nat} (hl : LineAt z w0 l (.slice ap l.places.length cp) (.slice an l.next.length cn)) (hk : LOk q.locals.length nb l) (hop : l.op = 14) :
    Calls Tryz.prog 78 #[.pointer (some ⟨x, 0, none⟩), .agg #[.int .i64 (l.num : Nat), .int .i64 (l.op : Nat), .slice ap l.places.length cp, .int .i64 l.number, .int .i64 l.flag, .slice an l.next.length cn]] w fun e w' => e = .returned (.tuple #[]) ∧ ∃ vi' vm' vt', BAt w0 x a w' ((b.write q (l.places.getD 0 (0, 0)) 1).write q ((l.places.getD 0 (0, 0)).1, 3) ((b.write q (l.places.getD 0 (0, 0)) 1).val q (l.places.getD 1 (0, 0)))) vi' vm' vt' ∧ Roam x vm vt w vm' vt' w' := by
  have hlen : l.places.length = 2 := by rw [hk.plen, hop]; rfl
  obtain ⟨g, rfl, hcp, hg, c0, c1⟩ := place_at hl hlen 0 (by omega)
  obtain ⟨g', e', -, -, c2, c3⟩ := place_at hl hlen 1 (by omega)
  simp only [Option.some.injEq, Addr.mk.injEq, and_true] at e'
  subst e'
  have x0 := (hk.places (l.places.getD 0 (0, 0)) (by rw [List.getD_eq_getElem?_getD, List.getElem?_eq_getElem (by omega)]; exact List.getElem_mem _)).1
  have x1 := (hk.places (l.places.getD 1 (0, 0)) (by rw [List.getD_eq_getElem?_getD, List.getElem?_eq_getElem (by omega)]; exact List.getElem_mem _)).1
  have hb : ∀ W, Below w0.heap.size w0 W → (W.cell? ⟨g, 0, none⟩ = some (.int .i64 ((l.places.getD 0 (0, 0)).1 : Nat)) ∧ W.cell? ⟨g, 1, none⟩ = some (.int .i64 ((l.places.getD 0 (0, 0)).2 : Nat)) ∧ W.cell? ⟨g, 2, none⟩ = some (.int .i64 ((l.places.getD 1 (0, 0)).1 : Nat)) ∧ W.cell? ⟨g, 3, none⟩ = some (.int .i64 ((l.places.getD 1 (0, 0)).2 : Nat))) := fun W hW => ⟨(hW.cell (p := ⟨g, 0, none⟩) hg).trans c0, (hW.cell (p := ⟨g, 1, none⟩) hg).trans c1, (hW.cell (p := ⟨g, 2, none⟩) hg).trans c2, (hW.cell (p := ⟨g, 3, none⟩) hg).trans c3⟩
  have hbA : Below w.heap.size w (w.alloc (.cells #[.int .i64 (l.num : Nat), .int .i64 (l.op : Nat), .slice (some ⟨g, 0, none⟩) 2 cp, .int .i64 l.number, .int .i64 l.flag, .slice an l.next.length cn] 115)) := (Below.refl _ _).alloc (Nat.le_refl _) _
  have hhA : (w.alloc (.cells #[.int .i64 (l.num : Nat), .int .i64 (l.op : Nat), .slice (some ⟨g, 0, none⟩) 2 cp, .int .i64 l.number, .int .i64 l.flag, .slice an l.next.length cn] 115)).heap[w.heap.size]? = some (.cells #[.int .i64 (l.num : Nat), .int .i64 (l.op : Nat), .slice (some ⟨g, 0, none⟩) 2 cp, .int .i64 l.number, .int .i64 l.flag, .slice an l.next.length cn] 115 (0, 0)) := Array.getElem?_push_size
  have hsA : (w.alloc (.cells #[.int .i64 (l.num : Nat), .int .i64 (l.op : Nat), .slice (some ⟨g, 0, none⟩) 2 cp, .int .i64 l.number, .int .i64 l.flag, .slice an l.next.length cn] 115)).heap.size = w.heap.size + 1 := by simp
  have HA := h.below hbA
  have hfr := h.fresh (Nat.le_refl _)
  have HL : Hid (∀ W vm' vt', Roam x vm vt (w.alloc (.cells #[.int .i64 (l.num : Nat), .int .i64 (l.op : Nat), .slice (some ⟨g, 0, none⟩) 2 cp, .int .i64 l.number, .int .i64 l.flag, .slice an l.next.length cn] 115)) vm' vt' W → W.cell? ⟨w.heap.size, 1, none⟩ = some (.int .i64 (l.op : Nat)) ∧ W.cell? ⟨w.heap.size, 3, none⟩ = some (.int .i64 l.number) ∧ W.cell? ⟨w.heap.size, 4, none⟩ = some (.int .i64 l.flag)) := fun W vm' vt' r => ⟨(roam_cell r (by omega) hfr 1).trans (by rw [cell_of_heap hhA]; rfl), (roam_cell r (by omega) hfr 3).trans (by rw [cell_of_heap hhA]; rfl), (roam_cell r (by omega) hfr 4).trans (by rw [cell_of_heap hhA]; rfl)⟩
  obtain ⟨d0, d1, d2, d3⟩ := hb _ HA.old
  rw [hlen]
  have b2 : (((l.op : Nat) : Int) == 2) = false := by rw [hop]; rfl
  have b3 : (((l.op : Nat) : Int) == 3) = false := by rw [hop]; rfl
  have b4 : (((l.op : Nat) : Int) == 4) = false := by rw [hop]; rfl
  have b5 : (((l.op : Nat) : Int) == 5) = false := by rw [hop]; rfl
  have b7 : (((l.op : Nat) : Int) == 7) = false := by rw [hop]; rfl
  have b8 : (((l.op : Nat) : Int) == 8) = false := by rw [hop]; rfl
  have b10 : (((l.op : Nat) : Int) == 10) = false := by rw [hop]; rfl
  have b11 : (((l.op : Nat) : Int) == 11) = false := by rw [hop]; rfl
  have b16 : (((l.op : Nat) : Int) == 16) = false := by rw [hop]; rfl
  have b12 : (((l.op : Nat) : Int) == 12) = false := by rw [hop]; rfl
  have b13 : (((l.op : Nat) : Int) == 13) = false := by rw [hop]; rfl
  have b14 : (((l.op : Nat) : Int) == 14) = true := by rw [hop]; rfl
  have KW := write_any HA hq hls (l.places.getD 0 (0, 0)) x0 1
  have KC := fun W => contentOf_any (l.places.getD 0 (0, 0)) W
  have KV := fun (W : World) (hW : BAt w0 x a W (b.write q (l.places.getD 0 (0, 0)) 1) vi vm vt) => value_any hW hq hls (l.places.getD 1 (0, 0)) x1
  have KX := fun (W : World) (hW : BAt w0 x a W (b.write q (l.places.getD 0 (0, 0)) 1) vi vm vt) => write_any hW hq hls ((l.places.getD 0 (0, 0)).1, 3) x0 ((b.write q (l.places.getD 0 (0, 0)) 1).val q (l.places.getD 1 (0, 0)))
  generalize b.write q (l.places.getD 0 (0, 0)) 1 = bw at *
  clear hl hk hop hlen c0 c1 c2 c3
  generalize l.places.getD 0 (0, 0) = p0 at *
  generalize l.places.getD 1 (0, 0) = p1 at *
  generalize bw.val q p1 = cv at *
  go_enter Tryz.func78, Tryz.ntmps78
  go_upto_region 25 with (go_at_call 76; go_fit KW; rintro e w4 ⟨rfl, h4, r4⟩; obtain ⟨z0, z1, z2, z3⟩ := hb _ h4.old)
  have hd4 : Below w4.heap.size w4 w4.drew := (Below.refl _ _).drew
  go_region_held3 (fun W' => W'.cell? ⟨g, 0, none⟩ = some (.int .i64 (p0.1 : Nat)) ∧ W'.cell? ⟨g, 1, none⟩ = some (.int .i64 (p0.2 : Nat)) ∧ W'.cell? ⟨g, 2, none⟩ = some (.int .i64 (p1.1 : Nat)) ∧ W'.cell? ⟨g, 3, none⟩ = some (.int .i64 (p1.2 : Nat))) (go_keep)
    (first
    | (go_at_call 124; go_fit (KC _); rintro e w5 ⟨rfl, hb5'⟩; have hb5 := hd4.trans (hb5'.mono hd4.size); have h5 := h4.below hb5; obtain ⟨o0, o1, o2, o3⟩ := hb _ h5.old)
    | (go_at_call 74; go_fit (KV _ h5); rintro e w6 ⟨rfl, hb6⟩; have h6 := h5.below hb6; obtain ⟨t0, t1, t2, t3⟩ := hb _ h6.old)
    | (go_at_call 76; go_fit (KX _ h6); rintro e w7 ⟨rfl, h7, r7⟩; obtain ⟨s0, s1, s2, s3⟩ := hb _ h7.old))
  all_goals go_wp2_with fail
  all_goals
    go_end0
    exact ⟨rfl, _, _, _, h7, (Roam.of hbA).trans (r4.trans ((Roam.of hb5).trans ((Roam.of hb6).trans r7)))⟩
set_option maxRecDepth 20000 in
set_option maxHeartbeats 4000000 in
theorem do_flag (h : BAt w0 x a w b vi vm vt) (_hq : PQ w0 a q v u) (_hls : q.locals.length ≤ 12) {z nb : Nat} {l : QLine} {ap an : Option Addr} {cp cn : Nat} (_hl : LineAt z w0 l (.slice ap l.places.length cp) (.slice an l.next.length cn)) (hk : LOk q.locals.length nb l) (hop : l.op = 17) (hfl : 0 ≤ l.flag ∧ l.flag < 50) :
    Calls Tryz.prog 78 #[.pointer (some ⟨x, 0, none⟩), .agg #[.int .i64 (l.num : Nat), .int .i64 (l.op : Nat), .slice ap l.places.length cp, .int .i64 l.number, .int .i64 l.flag, .slice an l.next.length cn]] w fun e w' => e = .returned (.tuple #[]) ∧ ∃ vi' vm' vt', BAt w0 x a w' ({ b with flags := b.flags.set l.flag.toNat (l.number == 1) }) vi' vm' vt' ∧ Roam x vm vt w vm' vt' w' := by
  have hlen : l.places.length = 0 := by rw [hk.plen, hop]; rfl
  have hbA : Below w.heap.size w (w.alloc (.cells #[.int .i64 (l.num : Nat), .int .i64 (l.op : Nat), .slice ap 0 cp, .int .i64 l.number, .int .i64 l.flag, .slice an l.next.length cn] 115)) := (Below.refl _ _).alloc (Nat.le_refl _) _
  have hhA : (w.alloc (.cells #[.int .i64 (l.num : Nat), .int .i64 (l.op : Nat), .slice ap 0 cp, .int .i64 l.number, .int .i64 l.flag, .slice an l.next.length cn] 115)).heap[w.heap.size]? = some (.cells #[.int .i64 (l.num : Nat), .int .i64 (l.op : Nat), .slice ap 0 cp, .int .i64 l.number, .int .i64 l.flag, .slice an l.next.length cn] 115 (0, 0)) := Array.getElem?_push_size
  have hsA : (w.alloc (.cells #[.int .i64 (l.num : Nat), .int .i64 (l.op : Nat), .slice ap 0 cp, .int .i64 l.number, .int .i64 l.flag, .slice an l.next.length cn] 115)).heap.size = w.heap.size + 1 := by simp
  have HA := h.below hbA
  have hfr := h.fresh (Nat.le_refl _)
  have HL : Hid (∀ W vm' vt', Roam x vm vt (w.alloc (.cells #[.int .i64 (l.num : Nat), .int .i64 (l.op : Nat), .slice ap 0 cp, .int .i64 l.number, .int .i64 l.flag, .slice an l.next.length cn] 115)) vm' vt' W → W.cell? ⟨w.heap.size, 1, none⟩ = some (.int .i64 (l.op : Nat)) ∧ W.cell? ⟨w.heap.size, 3, none⟩ = some (.int .i64 l.number) ∧ W.cell? ⟨w.heap.size, 4, none⟩ = some (.int .i64 l.flag)) := fun W vm' vt' r => ⟨(roam_cell r (by omega) hfr 1).trans (by rw [cell_of_heap hhA]; rfl), (roam_cell r (by omega) hfr 3).trans (by rw [cell_of_heap hhA]; rfl), (roam_cell r (by omega) hfr 4).trans (by rw [cell_of_heap hhA]; rfl)⟩
  rw [hlen]
  have b2 : (((l.op : Nat) : Int) == 2) = false := by rw [hop]; rfl
  have b3 : (((l.op : Nat) : Int) == 3) = false := by rw [hop]; rfl
  have b4 : (((l.op : Nat) : Int) == 4) = false := by rw [hop]; rfl
  have b5 : (((l.op : Nat) : Int) == 5) = false := by rw [hop]; rfl
  have b7 : (((l.op : Nat) : Int) == 7) = false := by rw [hop]; rfl
  have b8 : (((l.op : Nat) : Int) == 8) = false := by rw [hop]; rfl
  have b10 : (((l.op : Nat) : Int) == 10) = false := by rw [hop]; rfl
  have b11 : (((l.op : Nat) : Int) == 11) = false := by rw [hop]; rfl
  have b16 : (((l.op : Nat) : Int) == 16) = false := by rw [hop]; rfl
  have b12 : (((l.op : Nat) : Int) == 12) = false := by rw [hop]; rfl
  have b13 : (((l.op : Nat) : Int) == 13) = false := by rw [hop]; rfl
  have b14 : (((l.op : Nat) : Int) == 14) = false := by rw [hop]; rfl
  have b17 : (((l.op : Nat) : Int) == 17) = true := by rw [hop]; rfl
  have hfn : l.flag.toNat < 50 := by omega
  obtain ⟨f1, f2⟩ := hfl
  obtain ⟨cF, cG⟩ := HA.flagAt hfn
  obtain ⟨h5, r5⟩ := HA.setFlag l.flag.toNat (l.number == 1)
  clear _hl hk hop hlen
  go_enter Tryz.func78, Tryz.ntmps78
  go_upto_region 27 with fail
  go_region
  all_goals go_wp2_with fail
  all_goals
    go_end0
    exact ⟨rfl, _, _, _, h5.below ((Below.refl _ _).drew), (Roam.of hbA).trans (r5.trans (Roam.of ((Below.refl _ _).drew)))⟩
end
end Go.Proofs.YtmlgajhhnojdjaaGreatDoor.Ex
