/- The project's machine that owns: numbers put together in their place; inputs taken; the way on. -/
import Derived.Test.YtmlgajhhnojdjaaGreatDoorKAM
import Derived.Test.YtmlgajhhnojdjaaGreatDoorKAO
import Derived.Deep.DeepFit
import Derived.Deep.RegionHeld3
import Derived.Test.YtmlgajhhnojdjaaGreatDoorKAP
namespace Go.Proofs.YtmlgajhhnojdjaaGreatDoor.Own
open Go Go.RowKit Go.Proofs.YtmlgajhhnojdjaaGreatDoor.Spec Go.Proofs.YtmlgajhhnojdjaaGreatDoor.Aux Go.Proofs.YtmlgajhhnojdjaaGreatDoor.PrjJ Go.Proofs.YtmlgajhhnojdjaaGreatDoor.PrjK Go.Proofs.YtmlgajhhnojdjaaGreatDoor.PrjL Go.Proofs.YtmlgajhhnojdjaaGreatDoor.PrjM Go.Proofs.YtmlgajhhnojdjaaGreatDoor.PrjS Go.Proofs.YtmlgajhhnojdjaaGreatDoor.FlwA Go.Proofs.YtmlgajhhnojdjaaGreatDoor.FlwE

/-- numbers within Go's own bounds -/

def QLine.pl (l : QLine) (j : Nat) : Nat × Nat := l.places.getD j (0, 0)
section
variable {x a : Nat} {w w0 : World} {vm vt vi : Value} {o : Own}
set_option maxRecDepth 20000 in
set_option maxHeartbeats 4000000 in
theorem calculate_any (h : OAt w0 x a w o vi vm vt) {z nl nb : Nat} {l : QLine} {ap an : Option Addr} {cp cn : Nat} (hl : LineAt z w l (.slice ap l.places.length cp) (.slice an l.next.length cn)) (hk : LOk nl nb l) (hnl : nl ≤ 12)
    (ho : l.op = 3 ∨ l.op = 4 ∨ l.op = 5 ∨ l.op = 6) (hd : l.op = 6 → ¬ o.num (QLine.pl l 2) = 0) (hr : ∀ n ∈ o.ints, isI64 n) :
    Calls Tryz.prog 59 #[.pointer (some ⟨x, 0, none⟩), .agg #[.int .i64 (l.num : Nat), .int .i64 (l.op : Nat), .slice ap l.places.length cp, .int .i64 l.number, .int .i64 l.flag, .slice an l.next.length cn]] w fun e w' =>
      e = .returned (.tuple #[]) ∧ OAt w0 x a w' { o with ints := o.ints.set (QLine.pl l 0).1 (calcI l.op (o.num (QLine.pl l 1)) (o.num (QLine.pl l 2))) } vi vm vt ∧ Roam x vm vt w vm vt w' := by
  have hlen : l.places.length = 3 := by rcases ho with e | e | e | e <;> (rw [hk.plen, e]; rfl)
  have hbA : Below w.heap.size w (w.alloc (.cells #[.int .i64 (l.num : Nat), .int .i64 (l.op : Nat), .slice ap l.places.length cp, .int .i64 l.number, .int .i64 l.flag, .slice an l.next.length cn] 115)) := (Below.refl _ _).alloc (Nat.le_refl _) _
  obtain ⟨g, rfl, hcp, hg, c1, c2⟩ := place_at hl hlen 0 (by omega)
  obtain ⟨g', e', -, -, c3, c4⟩ := place_at hl hlen 1 (by omega)
  simp only [Option.some.injEq, Addr.mk.injEq, and_true] at e'
  subst e'
  obtain ⟨g', e', -, -, c5, c6⟩ := place_at hl hlen 2 (by omega)
  simp only [Option.some.injEq, Addr.mk.injEq, and_true] at e'
  subst e'
  have HPL : Hid (_) := hl.places
  have hx : ∀ j, j < 3 → (QLine.pl l j).1 < 12 := fun j hj => by
    have := (hk.places (l.places.getD j (0, 0)) (by rw [List.getD_eq_getElem?_getD, List.getElem?_eq_getElem (by omega)]; exact List.getElem_mem _)).1
    show (l.places.getD j (0, 0)).1 < 12
    omega
  have x0 := hx 0 (by omega)
  have x1 := hx 1 (by omega)
  have x2 := hx 2 (by omega)
  have hri : ∀ p : Nat × Nat, p.1 < 12 → isI64 (o.num p) := fun p hp => hr _ (by
    unfold Own.num
    rw [List.getD_eq_getElem?_getD, List.getElem?_eq_getElem (by rw [h.ints]; exact hp)]; exact List.getElem_mem _)
  have r1 := hri _ x1
  have r2 := hri _ x2
  have KC := fun w' => calculated_any l.op (o.num (QLine.pl l 1)) (o.num (QLine.pl l 2)) w' hd ho r1 r2
  unfold QLine.pl at *
  have HA := h.below hbA
  have KN1 := fun (W : World) (hb : Below w.heap.size w W) => number_any (h.below hb) (l.places.getD 1 (0, 0)) x1
  have KN2 := fun (W : World) (hb : Below w.heap.size w W) => number_any (h.below hb) (l.places.getD 2 (0, 0)) x2
  have hb : ∀ W, Below w.heap.size w W → (W.cell? ⟨g, 0, none⟩ = some (.int .i64 ((l.places.getD 0 (0, 0)).1 : Nat)) ∧ W.cell? ⟨g, 2, none⟩ = some (.int .i64 ((l.places.getD 1 (0, 0)).1 : Nat)) ∧ W.cell? ⟨g, 3, none⟩ = some (.int .i64 ((l.places.getD 1 (0, 0)).2 : Nat)) ∧ W.cell? ⟨g, 4, none⟩ = some (.int .i64 ((l.places.getD 2 (0, 0)).1 : Nat)) ∧ W.cell? ⟨g, 5, none⟩ = some (.int .i64 ((l.places.getD 2 (0, 0)).2 : Nat))) := fun W hW =>
    ⟨(hW.cell (p := ⟨g, 0, none⟩) hg).trans c1, (hW.cell (p := ⟨g, 2, none⟩) hg).trans c3, (hW.cell (p := ⟨g, 3, none⟩) hg).trans c4, (hW.cell (p := ⟨g, 4, none⟩) hg).trans c5, (hW.cell (p := ⟨g, 5, none⟩) hg).trans c6⟩
  obtain ⟨d0, d2, d3, d4, d5⟩ := hb _ hbA
  have x0i : ((l.places.getD 0 (0, 0)).1 : Int) < 12 := by omega
  rw [hlen] at hbA d0 d2 d3 d4 d5 HA ⊢
  clear hx c1 c2 c3 c4 c5 c6 hl hk
  generalize l.places.getD 0 (0, 0) = p0 at *
  generalize l.places.getD 1 (0, 0) = p1 at *
  generalize l.places.getD 2 (0, 0) = p2 at *
  clear hlen
  go_enter Tryz.func59, Tryz.ntmps59
  go_wp2
  have hbD : Below w.heap.size w (w.alloc (.cells #[.int .i64 (l.num : Nat), .int .i64 (l.op : Nat), .slice (some ⟨g, 0, none⟩) 3 cp, .int .i64 l.number, .int .i64 l.flag, .slice an l.next.length cn] 115)).drew := ⟨hbA.os, hbA.tape, hbA.output, hbA.size, hbA.block⟩
  have hLb : ∀ W, Below (w.alloc (.cells #[.int .i64 (l.num : Nat), .int .i64 (l.op : Nat), .slice (some ⟨g, 0, none⟩) 3 cp, .int .i64 l.number, .int .i64 l.flag, .slice an l.next.length cn] 115)).heap.size (w.alloc (.cells #[.int .i64 (l.num : Nat), .int .i64 (l.op : Nat), .slice (some ⟨g, 0, none⟩) 3 cp, .int .i64 l.number, .int .i64 l.flag, .slice an l.next.length cn] 115)) W → W.cell? ⟨w.heap.size, 1, none⟩ = some (.int .i64 (l.op : Nat)) := fun W hW => (hW.cell (p := ⟨w.heap.size, 1, none⟩) (by simp)).trans (by rw [cell_of_heap Array.getElem?_push_size]; rfl)
  have hxg : x ≠ g := fun e => by
    have h1 := h.yat.blk
    rw [e] at h1
    exact own_at_ne HPL.out h1 (by decide) rfl
  have hxw : x ≠ w.heap.size := by have := h.lt; omega
  have hgx : g ≠ x := fun e => hxg e.symm
  have hwx : w.heap.size ≠ x := fun e => hxw e.symm
  have y0 := hLb _ (Below.refl _ _)
  go_region_held3 (fun W => W.cell? ⟨g, 0, none⟩ = some (.int .i64 (p0.1 : Nat)) ∧ W.cell? ⟨g, 2, none⟩ = some (.int .i64 (p1.1 : Nat)) ∧ W.cell? ⟨g, 3, none⟩ = some (.int .i64 (p1.2 : Nat)) ∧ W.cell? ⟨g, 4, none⟩ = some (.int .i64 (p2.1 : Nat)) ∧ W.cell? ⟨g, 5, none⟩ = some (.int .i64 (p2.2 : Nat)) ∧ W.cell? ⟨w.heap.size, 1, none⟩ = some (.int .i64 (l.op : Nat))) (go_keep)
    (first
    | (go_at_call 95; go_fit (KC _); rintro e w3 ⟨rfl, rfl⟩)
    | (go_at_call 58; go_fit (KN2 _ hb1); rintro e w2 ⟨rfl, h2⟩; have hb2 : Below w.heap.size w w2 := hb1.trans (h2.mono hb1.size); have y2 := hLb _ (hB1.trans (h2.mono hB1.size)); obtain ⟨v0, v2, v3, v4, v5⟩ := hb _ hb2; obtain ⟨q1, q2⟩ := (h.below hb2).int x0)
    | (go_at_call 58; go_fit (KN1 _ hb1); rintro e w2 ⟨rfl, h2⟩; have hb2 : Below w.heap.size w w2 := hb1.trans (h2.mono hb1.size); have y2 := hLb _ (hB1.trans (h2.mono hB1.size)); obtain ⟨v0, v2, v3, v4, v5⟩ := hb _ hb2; obtain ⟨q1, q2⟩ := (h.below hb2).int x0)
    | (go_at_call 58; go_fit (KN1 _ hbD); rintro e w1 ⟨rfl, h1⟩; have hb1 : Below w.heap.size w w1 := hbD.trans (h1.mono hbD.size); have hB1 : Below (w.alloc (.cells #[.int .i64 (l.num : Nat), .int .i64 (l.op : Nat), .slice (some ⟨g, 0, none⟩) 3 cp, .int .i64 l.number, .int .i64 l.flag, .slice an l.next.length cn] 115)).heap.size (w.alloc (.cells #[.int .i64 (l.num : Nat), .int .i64 (l.op : Nat), .slice (some ⟨g, 0, none⟩) 3 cp, .int .i64 l.number, .int .i64 l.flag, .slice an l.next.length cn] 115)) w1 := ⟨h1.os, h1.tape, h1.output, h1.size, h1.block⟩; have y1 := hLb _ hB1; obtain ⟨u0, u2, u3, u4, u5⟩ := hb _ hb1)
    | (go_at_call 58; go_fit (KN2 _ hbD); rintro e w1 ⟨rfl, h1⟩; have hb1 : Below w.heap.size w w1 := hbD.trans (h1.mono hbD.size); have hB1 : Below (w.alloc (.cells #[.int .i64 (l.num : Nat), .int .i64 (l.op : Nat), .slice (some ⟨g, 0, none⟩) 3 cp, .int .i64 l.number, .int .i64 l.flag, .slice an l.next.length cn] 115)).heap.size (w.alloc (.cells #[.int .i64 (l.num : Nat), .int .i64 (l.op : Nat), .slice (some ⟨g, 0, none⟩) 3 cp, .int .i64 l.number, .int .i64 l.flag, .slice an l.next.length cn] 115)) w1 := ⟨h1.os, h1.tape, h1.output, h1.size, h1.block⟩; have y1 := hLb _ hB1; obtain ⟨u0, u2, u3, u4, u5⟩ := hb _ hb1))
  all_goals go_wp2_with fail
  all_goals
    go_end0
    obtain ⟨h5, r5⟩ := (h.below hb2).setInt (j := p0.1) x0 (calcI l.op (o.num p1) (o.num p2))
    exact ⟨rfl, h5, (Roam.of hb2).trans r5⟩
end
end Go.Proofs.YtmlgajhhnojdjaaGreatDoor.Own
/- The project's machine that owns: statements behind which a run goes on. -/
namespace Go.Proofs.YtmlgajhhnojdjaaGreatDoor.Own
open Go Go.RowKit Go.Proofs.YtmlgajhhnojdjaaGreatDoor.Spec Go.Proofs.YtmlgajhhnojdjaaGreatDoor.Aux Go.Proofs.YtmlgajhhnojdjaaGreatDoor.PrjJ Go.Proofs.YtmlgajhhnojdjaaGreatDoor.PrjK Go.Proofs.YtmlgajhhnojdjaaGreatDoor.PrjL Go.Proofs.YtmlgajhhnojdjaaGreatDoor.PrjM Go.Proofs.YtmlgajhhnojdjaaGreatDoor.PrjS Go.Proofs.YtmlgajhhnojdjaaGreatDoor.PrjT Go.Proofs.YtmlgajhhnojdjaaGreatDoor.FlwA Go.Proofs.YtmlgajhhnojdjaaGreatDoor.FlwB Go.Proofs.YtmlgajhhnojdjaaGreatDoor.FlwE

section
variable {x a : Nat} {w w0 w1 : World} {vm vt vi vm1 vt1 : Value} {o : Own}
theorem drewed (w : World) : Below w.heap.size w w.drew := ⟨rfl, rfl, rfl, Nat.le_refl _, fun _ _ => rfl⟩
theorem OAt.drew (h : OAt w0 x a w o vi vm vt) : OAt w0 x a w.drew o vi vm vt := h.below (drewed w)
theorem Roam.drew (h : Roam x vm vt w vm1 vt1 w1) : Roam x vm vt w vm1 vt1 w1.drew := h.trans (Roam.of (drewed w1))
theorem place_of {z g cp : Nat} {l : QLine} {W : World} (h : W.ownsRow z 119 2 (.slice (some ⟨g, 0, none⟩) l.places.length cp) l.places.length (plCells l.places)) {j : Nat} (hj : j < l.places.length) :
    W.cell? ⟨g, j * 2, none⟩ = some (.int .i64 ((l.places.getD j (0, 0)).1 : Nat)) ∧ W.cell? ⟨g, j * 2 + 1, none⟩ = some (.int .i64 ((l.places.getD j (0, 0)).2 : Nat)) := by
  obtain ⟨g', e, -, -, -, c1, c2⟩ := places_cells h j hj
  simp only [Option.some.injEq, Addr.mk.injEq, and_true] at e
  subst e
  exact ⟨c1, c2⟩
set_option maxRecDepth 20000 in
set_option maxHeartbeats 4000000 in
theorem do_set (h : OAt w0 x a w o vi vm vt) {z nl nb : Nat} {l : QLine} {ap an : Option Addr} {cp cn : Nat} (hl : LineAt z w l (.slice ap l.places.length cp) (.slice an l.next.length cn)) (hk : LOk nl nb l) (hnl : nl ≤ 12) (hop : l.op = 2) :
    Calls Tryz.prog 65 #[.pointer (some ⟨x, 0, none⟩), .agg #[.int .i64 (l.num : Nat), .int .i64 (l.op : Nat), .slice ap l.places.length cp, .int .i64 l.number, .int .i64 l.flag, .slice an l.next.length cn]] w fun e w' => e = .returned (.tuple #[]) ∧ OAt w0 x a w' { o with ints := o.ints.set (l.places.getD 0 (0, 0)).1 l.number } vi vm vt ∧ Roam x vm vt w vm vt w' := by
  have hlen : l.places.length = 1 := by rw [hk.plen, hop]; rfl
  have hbA : Below w.heap.size w (w.alloc (.cells #[.int .i64 (l.num : Nat), .int .i64 (l.op : Nat), .slice ap l.places.length cp, .int .i64 l.number, .int .i64 l.flag, .slice an l.next.length cn] 115)) := (Below.refl _ _).alloc (Nat.le_refl _) _
  obtain ⟨g, rfl, hcp, hg, -, -⟩ := place_at hl hlen 0 (by omega)
  have hpl : w.ownsRow z 119 2 (.slice (some ⟨g, 0, none⟩) l.places.length cp) l.places.length (plCells l.places) := hl.places
  have hplA := own_below hpl hbA
  have pc : ∀ W : World, W.ownsRow z 119 2 (.slice (some ⟨g, 0, none⟩) l.places.length cp) l.places.length (plCells l.places) → W.cell? ⟨g, 0, none⟩ = some (.int .i64 ((l.places.getD 0 (0, 0)).1 : Nat)) ∧ W.cell? ⟨g, 1, none⟩ = some (.int .i64 ((l.places.getD 0 (0, 0)).2 : Nat)) := fun W hW => ⟨(place_of hW (j := 0) (by omega)).1, (place_of hW (j := 0) (by omega)).2⟩
  have hx : ∀ j, j < 1 → (l.places.getD j (0, 0)).1 < nl := fun j hj => (hk.places (l.places.getD j (0, 0)) (by rw [List.getD_eq_getElem?_getD, List.getElem?_eq_getElem (by omega)]; exact List.getElem_mem _)).1
  have x0 := hx 0 (by omega)
  have HA := h.below hbA
  have HPA : Hid (_) := hplA
  have HP : Hid (_) := hpl
  have PC : Hid (_) := pc
  have hd := pc _ hplA
  rw [hlen] at hbA HA hd
  rw [hlen]
  clear hx hl hk pc hpl hplA
  have b2 : (((l.op : Nat) : Int) == 2) = true := by rw [hop]; rfl
  have b3 : (((l.op : Nat) : Int) == 3) = false := by rw [hop]; rfl
  have b4 : (((l.op : Nat) : Int) == 4) = false := by rw [hop]; rfl
  have b5 : (((l.op : Nat) : Int) == 5) = false := by rw [hop]; rfl
  have b7 : (((l.op : Nat) : Int) == 7) = false := by rw [hop]; rfl
  have b8 : (((l.op : Nat) : Int) == 8) = false := by rw [hop]; rfl
  have b10 : (((l.op : Nat) : Int) == 10) = false := by rw [hop]; rfl
  have b11 : (((l.op : Nat) : Int) == 11) = false := by rw [hop]; rfl
  have b12 : (((l.op : Nat) : Int) == 12) = false := by rw [hop]; rfl
  have b14 : (((l.op : Nat) : Int) == 14) = false := by rw [hop]; rfl
  have b13 : (((l.op : Nat) : Int) == 13) = false := by rw [hop]; rfl
  have b15 : (((l.op : Nat) : Int) == 15) = false := by rw [hop]; rfl
  generalize l.places.getD 0 (0, 0) = p0 at *
  clear hop
  obtain ⟨d0, d1⟩ := hd
  have x0i : (p0.1 : Int) < 12 := by omega
  obtain ⟨i1, i2⟩ := HA.int (j := p0.1) (by omega)
  clear hlen
  go_enter Tryz.func65, Tryz.ntmps65
  go_wp2
  go_region
  all_goals go_wp2_with fail
  all_goals
    go_end0
    obtain ⟨h1, h2⟩ := HA.setInt (j := p0.1) (by omega) l.number
    exact ⟨rfl, h1.drew, ((Roam.of hbA).trans h2).drew⟩
set_option maxRecDepth 20000 in
set_option maxHeartbeats 4000000 in
theorem do_in (h : OAt w0 x a w o vi vm vt) {z nl nb : Nat} {l : QLine} {ap an : Option Addr} {cp cn : Nat} (hl : LineAt z w l (.slice ap l.places.length cp) (.slice an l.next.length cn)) (hk : LOk nl nb l) (hnl : nl ≤ 12) (hop : l.op = 7) :
    Calls Tryz.prog 65 #[.pointer (some ⟨x, 0, none⟩), .agg #[.int .i64 (l.num : Nat), .int .i64 (l.op : Nat), .slice ap l.places.length cp, .int .i64 l.number, .int .i64 l.flag, .slice an l.next.length cn]] w fun e w' => e = .returned (.tuple #[]) ∧ (∃ vi', OAt w0 x a w' { o with inp := o.inp.tail, ints := o.ints.set (l.places.getD 0 (0, 0)).1 (o.inp.headD 0) } vi' vm vt) ∧ Roam x vm vt w vm vt w' := by
  have hlen : l.places.length = 1 := by rw [hk.plen, hop]; rfl
  have hbA : Below w.heap.size w (w.alloc (.cells #[.int .i64 (l.num : Nat), .int .i64 (l.op : Nat), .slice ap l.places.length cp, .int .i64 l.number, .int .i64 l.flag, .slice an l.next.length cn] 115)) := (Below.refl _ _).alloc (Nat.le_refl _) _
  obtain ⟨g, rfl, hcp, hg, -, -⟩ := place_at hl hlen 0 (by omega)
  have hpl : w.ownsRow z 119 2 (.slice (some ⟨g, 0, none⟩) l.places.length cp) l.places.length (plCells l.places) := hl.places
  have hplA := own_below hpl hbA
  have pc : ∀ W : World, W.ownsRow z 119 2 (.slice (some ⟨g, 0, none⟩) l.places.length cp) l.places.length (plCells l.places) → W.cell? ⟨g, 0, none⟩ = some (.int .i64 ((l.places.getD 0 (0, 0)).1 : Nat)) ∧ W.cell? ⟨g, 1, none⟩ = some (.int .i64 ((l.places.getD 0 (0, 0)).2 : Nat)) := fun W hW => ⟨(place_of hW (j := 0) (by omega)).1, (place_of hW (j := 0) (by omega)).2⟩
  have hx : ∀ j, j < 1 → (l.places.getD j (0, 0)).1 < nl := fun j hj => (hk.places (l.places.getD j (0, 0)) (by rw [List.getD_eq_getElem?_getD, List.getElem?_eq_getElem (by omega)]; exact List.getElem_mem _)).1
  have x0 := hx 0 (by omega)
  have HA := h.below hbA
  have HPA : Hid (_) := hplA
  have HP : Hid (_) := hpl
  have PC : Hid (_) := pc
  have hd := pc _ hplA
  rw [hlen] at hbA HA hd
  rw [hlen]
  clear hx hl hk pc hpl hplA
  have b2 : (((l.op : Nat) : Int) == 2) = false := by rw [hop]; rfl
  have b3 : (((l.op : Nat) : Int) == 3) = false := by rw [hop]; rfl
  have b4 : (((l.op : Nat) : Int) == 4) = false := by rw [hop]; rfl
  have b5 : (((l.op : Nat) : Int) == 5) = false := by rw [hop]; rfl
  have b7 : (((l.op : Nat) : Int) == 7) = true := by rw [hop]; rfl
  have b8 : (((l.op : Nat) : Int) == 8) = false := by rw [hop]; rfl
  have b10 : (((l.op : Nat) : Int) == 10) = false := by rw [hop]; rfl
  have b11 : (((l.op : Nat) : Int) == 11) = false := by rw [hop]; rfl
  have b12 : (((l.op : Nat) : Int) == 12) = false := by rw [hop]; rfl
  have b14 : (((l.op : Nat) : Int) == 14) = false := by rw [hop]; rfl
  have b13 : (((l.op : Nat) : Int) == 13) = false := by rw [hop]; rfl
  have b15 : (((l.op : Nat) : Int) == 15) = false := by rw [hop]; rfl
  generalize l.places.getD 0 (0, 0) = p0 at *
  clear hop
  obtain ⟨d0, d1⟩ := hd
  have x0i : (p0.1 : Int) < 12 := by omega
  have KPA : ∀ {vm2 vt2 : Value} {W : World}, Roam x vm vt (w.alloc (.cells #[.int .i64 (l.num : Nat), .int .i64 (l.op : Nat), .slice (some ⟨g, 0, none⟩) 1 cp, .int .i64 l.number, .int .i64 l.flag, .slice an l.next.length cn] 115)) vm2 vt2 W → W.ownsRow z 119 2 (.slice (some ⟨g, 0, none⟩) l.places.length cp) l.places.length (plCells l.places) := fun hr => HA.keep (by have := HPA.out; rw [hlen] at this; rw [hlen]; exact this) (.inr rfl) hr
  have KF := feed_any HA.drew
  generalize hv : o.inp.headD 0 = v at KF ⊢
  clear hv
  clear hlen
  go_enter Tryz.func65, Tryz.ntmps65
  go_wp2
  go_region_with (go_at_call 103; go_fit KF; rintro e w2 ⟨rfl, vi', h2, r2⟩; have r2' := (Roam.of (drewed (w.alloc (.cells #[.int .i64 (l.num : Nat), .int .i64 (l.op : Nat), .slice (some ⟨g, 0, none⟩) 1 cp, .int .i64 l.number, .int .i64 l.flag, .slice an l.next.length cn] 115)))).trans r2; obtain ⟨i1, i2⟩ := h2.int (j := p0.1) (by omega); obtain ⟨e0, e1⟩ := PC.out _ (KPA r2'))
  all_goals go_wp2_with fail
  all_goals
    go_end0
    obtain ⟨h3, h4⟩ := h2.setInt (j := p0.1) (by omega) v
    exact ⟨rfl, ⟨vi', h3⟩, ((Roam.of hbA).trans r2').trans h4⟩
set_option maxRecDepth 20000 in
set_option maxHeartbeats 4000000 in
theorem do_out (h : OAt w0 x a w o vi vm vt) {z nl nb : Nat} {l : QLine} {ap an : Option Addr} {cp cn : Nat} (hl : LineAt z w l (.slice ap l.places.length cp) (.slice an l.next.length cn)) (hk : LOk nl nb l) (hnl : nl ≤ 12) (hop : l.op = 8) {t : Nat} (hs : o.yd.Sz t) (ht : t + 100 ≤ 9000000) (hpw : Pow w0) (h11 : 11 ≤ w0.heap.size) (hr : ∀ n ∈ o.ints, isI64 n) :
    Calls Tryz.prog 65 #[.pointer (some ⟨x, 0, none⟩), .agg #[.int .i64 (l.num : Nat), .int .i64 (l.op : Nat), .slice ap l.places.length cp, .int .i64 l.number, .int .i64 l.flag, .slice an l.next.length cn]] w fun e w' => e = .returned (.tuple #[]) ∧ (∃ vm' vt', OAt w0 x a w' { o with yd := o.yd.note 111 (o.num (l.places.getD 0 (0, 0))) } vi vm' vt' ∧ Roam x vm vt w vm' vt' w') := by
  have hlen : l.places.length = 1 := by rw [hk.plen, hop]; rfl
  have hbA : Below w.heap.size w (w.alloc (.cells #[.int .i64 (l.num : Nat), .int .i64 (l.op : Nat), .slice ap l.places.length cp, .int .i64 l.number, .int .i64 l.flag, .slice an l.next.length cn] 115)) := (Below.refl _ _).alloc (Nat.le_refl _) _
  obtain ⟨g, rfl, hcp, hg, -, -⟩ := place_at hl hlen 0 (by omega)
  have hpl : w.ownsRow z 119 2 (.slice (some ⟨g, 0, none⟩) l.places.length cp) l.places.length (plCells l.places) := hl.places
  have hplA := own_below hpl hbA
  have pc : ∀ W : World, W.ownsRow z 119 2 (.slice (some ⟨g, 0, none⟩) l.places.length cp) l.places.length (plCells l.places) → W.cell? ⟨g, 0, none⟩ = some (.int .i64 ((l.places.getD 0 (0, 0)).1 : Nat)) ∧ W.cell? ⟨g, 1, none⟩ = some (.int .i64 ((l.places.getD 0 (0, 0)).2 : Nat)) := fun W hW => ⟨(place_of hW (j := 0) (by omega)).1, (place_of hW (j := 0) (by omega)).2⟩
  have hx : ∀ j, j < 1 → (l.places.getD j (0, 0)).1 < nl := fun j hj => (hk.places (l.places.getD j (0, 0)) (by rw [List.getD_eq_getElem?_getD, List.getElem?_eq_getElem (by omega)]; exact List.getElem_mem _)).1
  have x0 := hx 0 (by omega)
  have HA := h.below hbA
  have HPA : Hid (_) := hplA
  have HP : Hid (_) := hpl
  have PC : Hid (_) := pc
  have hd := pc _ hplA
  rw [hlen] at hbA HA hd
  rw [hlen]
  clear hx hl hk pc hpl hplA
  have b2 : (((l.op : Nat) : Int) == 2) = false := by rw [hop]; rfl
  have b3 : (((l.op : Nat) : Int) == 3) = false := by rw [hop]; rfl
  have b4 : (((l.op : Nat) : Int) == 4) = false := by rw [hop]; rfl
  have b5 : (((l.op : Nat) : Int) == 5) = false := by rw [hop]; rfl
  have b7 : (((l.op : Nat) : Int) == 7) = false := by rw [hop]; rfl
  have b8 : (((l.op : Nat) : Int) == 8) = true := by rw [hop]; rfl
  have b10 : (((l.op : Nat) : Int) == 10) = false := by rw [hop]; rfl
  have b11 : (((l.op : Nat) : Int) == 11) = false := by rw [hop]; rfl
  have b12 : (((l.op : Nat) : Int) == 12) = false := by rw [hop]; rfl
  have b14 : (((l.op : Nat) : Int) == 14) = false := by rw [hop]; rfl
  have b13 : (((l.op : Nat) : Int) == 13) = false := by rw [hop]; rfl
  have b15 : (((l.op : Nat) : Int) == 15) = false := by rw [hop]; rfl
  generalize l.places.getD 0 (0, 0) = p0 at *
  clear hop
  obtain ⟨d0, d1⟩ := hd
  have x0i : (p0.1 : Int) < 12 := by omega
  have KPA : ∀ {vm2 vt2 : Value} {W : World}, Roam x vm vt (w.alloc (.cells #[.int .i64 (l.num : Nat), .int .i64 (l.op : Nat), .slice (some ⟨g, 0, none⟩) 1 cp, .int .i64 l.number, .int .i64 l.flag, .slice an l.next.length cn] 115)) vm2 vt2 W → W.ownsRow z 119 2 (.slice (some ⟨g, 0, none⟩) l.places.length cp) l.places.length (plCells l.places) := fun hr => HA.keep (by have := HPA.out; rw [hlen] at this; rw [hlen]; exact this) (.inr rfl) hr
  have KN := number_any HA.drew p0 (by omega)
  have hnr : isI64 (o.num p0) := hr _ (by unfold Own.num; rw [List.getD_eq_getElem?_getD, List.getElem?_eq_getElem (by rw [h.ints]; omega)]; exact List.getElem_mem _)
  have KO := fun (W : World) (hW : OAt w0 x a W o vi vm vt) => putOut_any hW.yat (o.num p0) hnr (hpw.below hW.old h11) (hs.ok (by omega))
  clear hlen
  go_enter Tryz.func65, Tryz.ntmps65
  go_wp2
  go_region_with (first
    | (go_at_call 58; go_fit KN; rintro e w2 ⟨rfl, h2⟩; have hO2 := HA.drew.below h2; have r2 := ((Roam.of hbA).drew (vm := vm) (vt := vt) (x := x)).trans (Roam.of h2))
    | (go_at_call 104; go_fit (KO _ hO2); rintro e w3 ⟨rfl, vm3, vt3, h3, r3⟩))
  all_goals go_wp2_with fail
  all_goals
    go_end0
    exact ⟨rfl, vm3, vt3, hO2.yard h3 r3, r2.trans r3⟩
set_option maxRecDepth 20000 in
set_option maxHeartbeats 4000000 in
theorem do_load (h : OAt w0 x a w o vi vm vt) {z nl nb : Nat} {l : QLine} {ap an : Option Addr} {cp cn : Nat} (hl : LineAt z w l (.slice ap l.places.length cp) (.slice an l.next.length cn)) (hk : LOk nl nb l) (hnl : nl ≤ 12) (hop : l.op = 10) {t : Nat} (hs : o.yd.Sz t) (ht : t + 100 ≤ 9000000) (hpw : Pow w0) (h11 : 11 ≤ w0.heap.size) (hbx : o.Bx) (hne : 1 ≤ o.box (l.places.getD 1 (0, 0))) :
    Calls Tryz.prog 65 #[.pointer (some ⟨x, 0, none⟩), .agg #[.int .i64 (l.num : Nat), .int .i64 (l.op : Nat), .slice ap l.places.length cp, .int .i64 l.number, .int .i64 l.flag, .slice an l.next.length cn]] w fun e w' => e = .returned (.tuple #[]) ∧ (∃ vm' vt', OAt w0 x a w' { o with yd := o.yd.load (o.box (l.places.getD 1 (0, 0))), ints := o.ints.set (l.places.getD 0 (0, 0)).1 (o.yd.at (o.box (l.places.getD 1 (0, 0)))).1 } vi vm' vt' ∧ Roam x vm vt w vm' vt' w') := by
  have hlen : l.places.length = 2 := by rw [hk.plen, hop]; rfl
  have hbA : Below w.heap.size w (w.alloc (.cells #[.int .i64 (l.num : Nat), .int .i64 (l.op : Nat), .slice ap l.places.length cp, .int .i64 l.number, .int .i64 l.flag, .slice an l.next.length cn] 115)) := (Below.refl _ _).alloc (Nat.le_refl _) _
  obtain ⟨g, rfl, hcp, hg, -, -⟩ := place_at hl hlen 0 (by omega)
  have hpl : w.ownsRow z 119 2 (.slice (some ⟨g, 0, none⟩) l.places.length cp) l.places.length (plCells l.places) := hl.places
  have hplA := own_below hpl hbA
  have pc : ∀ W : World, W.ownsRow z 119 2 (.slice (some ⟨g, 0, none⟩) l.places.length cp) l.places.length (plCells l.places) → W.cell? ⟨g, 0, none⟩ = some (.int .i64 ((l.places.getD 0 (0, 0)).1 : Nat)) ∧ W.cell? ⟨g, 1, none⟩ = some (.int .i64 ((l.places.getD 0 (0, 0)).2 : Nat)) ∧ W.cell? ⟨g, 2, none⟩ = some (.int .i64 ((l.places.getD 1 (0, 0)).1 : Nat)) ∧ W.cell? ⟨g, 3, none⟩ = some (.int .i64 ((l.places.getD 1 (0, 0)).2 : Nat)) := fun W hW => ⟨(place_of hW (j := 0) (by omega)).1, (place_of hW (j := 0) (by omega)).2, (place_of hW (j := 1) (by omega)).1, (place_of hW (j := 1) (by omega)).2⟩
  have hx : ∀ j, j < 2 → (l.places.getD j (0, 0)).1 < nl := fun j hj => (hk.places (l.places.getD j (0, 0)) (by rw [List.getD_eq_getElem?_getD, List.getElem?_eq_getElem (by omega)]; exact List.getElem_mem _)).1
  have x0 := hx 0 (by omega)
  have x1 := hx 1 (by omega)
  have HA := h.below hbA
  have HPA : Hid (_) := hplA
  have HP : Hid (_) := hpl
  have PC : Hid (_) := pc
  have hd := pc _ hplA
  rw [hlen] at hbA HA hd
  rw [hlen]
  clear hx hl hk pc hpl hplA
  have b2 : (((l.op : Nat) : Int) == 2) = false := by rw [hop]; rfl
  have b3 : (((l.op : Nat) : Int) == 3) = false := by rw [hop]; rfl
  have b4 : (((l.op : Nat) : Int) == 4) = false := by rw [hop]; rfl
  have b5 : (((l.op : Nat) : Int) == 5) = false := by rw [hop]; rfl
  have b7 : (((l.op : Nat) : Int) == 7) = false := by rw [hop]; rfl
  have b8 : (((l.op : Nat) : Int) == 8) = false := by rw [hop]; rfl
  have b10 : (((l.op : Nat) : Int) == 10) = true := by rw [hop]; rfl
  have b11 : (((l.op : Nat) : Int) == 11) = false := by rw [hop]; rfl
  have b12 : (((l.op : Nat) : Int) == 12) = false := by rw [hop]; rfl
  have b14 : (((l.op : Nat) : Int) == 14) = false := by rw [hop]; rfl
  have b13 : (((l.op : Nat) : Int) == 13) = false := by rw [hop]; rfl
  have b15 : (((l.op : Nat) : Int) == 15) = false := by rw [hop]; rfl
  generalize l.places.getD 0 (0, 0) = p0 at *
  generalize l.places.getD 1 (0, 0) = p1 at *
  clear hop
  obtain ⟨d0, d1, d2, d3⟩ := hd
  have x0i : (p0.1 : Int) < 12 := by omega
  have KPA : ∀ {vm2 vt2 : Value} {W : World}, Roam x vm vt (w.alloc (.cells #[.int .i64 (l.num : Nat), .int .i64 (l.op : Nat), .slice (some ⟨g, 0, none⟩) 2 cp, .int .i64 l.number, .int .i64 l.flag, .slice an l.next.length cn] 115)) vm2 vt2 W → W.ownsRow z 119 2 (.slice (some ⟨g, 0, none⟩) l.places.length cp) l.places.length (plCells l.places) := fun hr => HA.keep (by have := HPA.out; rw [hlen] at this; rw [hlen]; exact this) (.inr rfl) hr
  have hle := box_le hbx p1
  have KB := box_any HA.drew p1 (by omega)
  have KL := fun (W : World) (hW : OAt w0 x a W o vi vm vt) => load_any hW.yat (o.box p1) hne hle (hpw.below hW.old h11) (hs.ok (by omega))
  generalize o.box p1 = n at *
  clear hlen
  go_enter Tryz.func65, Tryz.ntmps65
  go_wp2
  go_region_with (first
    | (go_at_call 99; go_fit KB; rintro e w2 ⟨rfl, h2⟩; have hO2 := HA.drew.below h2; have r2a : Roam x vm vt (w.alloc (.cells #[.int .i64 (l.num : Nat), .int .i64 (l.op : Nat), .slice (some ⟨g, 0, none⟩) 2 cp, .int .i64 l.number, .int .i64 l.flag, .slice an l.next.length cn] 115)) vm vt w2 := (Roam.of (drewed _)).trans (Roam.of h2); obtain ⟨e0, e1, e2, e3⟩ := PC.out _ (KPA r2a))
    | (go_at_call 105; go_fit (KL _ hO2); rintro e w3 ⟨rfl, vm3, vt3, h3, r3⟩; have hO3 := hO2.yard h3 r3; obtain ⟨f0, f1, f2, f3⟩ := PC.out _ (KPA (r2a.trans r3)); obtain ⟨i1, i2⟩ := hO3.int (j := p0.1) (by omega)))
  all_goals go_wp2_with fail
  all_goals
    go_end0
    obtain ⟨h4, r4⟩ := hO3.setInt (j := p0.1) (by omega) (o.yd.at n).1
    exact ⟨rfl, vm3, vt3, h4, (((Roam.of hbA).trans r2a).trans r3).trans r4⟩
end
end Go.Proofs.YtmlgajhhnojdjaaGreatDoor.Own
