/- The project's machine that owns: statements behind which a run goes on: move, some. -/
import Derived.Test.YtmlgajhhnojdjaaGreatDoorBAV
import Derived.Deep.RegionHeld3
import Derived.Test.YtmlgajhhnojdjaaGreatDoorBAT
namespace Go.Proofs.YtmlgajhhnojdjaaGreatDoor.Own
open Go Go.RowKit Go.Proofs.YtmlgajhhnojdjaaGreatDoor.Spec Go.Proofs.YtmlgajhhnojdjaaGreatDoor.Aux Go.Proofs.YtmlgajhhnojdjaaGreatDoor.PrjJ Go.Proofs.YtmlgajhhnojdjaaGreatDoor.PrjK Go.Proofs.YtmlgajhhnojdjaaGreatDoor.PrjL Go.Proofs.YtmlgajhhnojdjaaGreatDoor.PrjM Go.Proofs.YtmlgajhhnojdjaaGreatDoor.PrjS Go.Proofs.YtmlgajhhnojdjaaGreatDoor.PrjT Go.Proofs.YtmlgajhhnojdjaaGreatDoor.FlwA Go.Proofs.YtmlgajhhnojdjaaGreatDoor.FlwB Go.Proofs.YtmlgajhhnojdjaaGreatDoor.FlwD Go.Proofs.YtmlgajhhnojdjaaGreatDoor.FlwE

section
variable {x a : Nat} {w w0 w1 : World} {vm vt vi vm1 vt1 : Value} {o : Own}
set_option maxRecDepth 20000 in
set_option maxHeartbeats 4000000 in
theorem do_move (h : OAt w0 x a w o vi vm vt) {z nl nb : Nat} {l : QLine} {ap an : Option Addr} {cp cn : Nat} (hl : LineAt z w l (.slice ap l.places.length cp) (.slice an l.next.length cn)) (hk : LOk nl nb l) (hnl : nl ≤ 12) (hop : l.op = 12) {t : Nat} (hs : o.yd.Sz t) (ht : t + 100 ≤ 9000000) (hpw : Pow w0) (h11 : 11 ≤ w0.heap.size) (hbx : o.Bx) {q : QP} {v u : Value} (hq : PQ w0 a q v u) (hnq : nl = q.locals.length) (hhl : (QP.halvesQ q (l.places.getD 0 (0, 0))).length = (QP.halvesQ q (l.places.getD 1 (0, 0))).length) :
    Calls Tryz.prog 65 #[.pointer (some ⟨x, 0, none⟩), .agg #[.int .i64 (l.num : Nat), .int .i64 (l.op : Nat), .slice ap l.places.length cp, .int .i64 l.number, .int .i64 l.flag, .slice an l.next.length cn]] w fun e w' => e = .returned (.tuple #[]) ∧ (∃ vm' vt', OAt w0 x a w' (o.move (QP.halvesQ q (l.places.getD 0 (0, 0))) (QP.halvesQ q (l.places.getD 1 (0, 0)))) vi vm' vt' ∧ Roam x vm vt w vm' vt' w') := by
  have hlen : l.places.length = 2 := by rw [hk.plen, hop]; rfl
  have hbA : Below w.heap.size w (w.alloc (.cells #[.int .i64 (l.num : Nat), .int .i64 (l.op : Nat), .slice ap l.places.length cp, .int .i64 l.number, .int .i64 l.flag, .slice an l.next.length cn] 115)) := (Below.refl _ _).alloc (Nat.le_refl _) _
  obtain ⟨g, rfl, hcp, hg, -, -⟩ := place_at hl hlen 0 (by omega)
  have hpl : w.ownsRow z 119 2 (.slice (some ⟨g, 0, none⟩) l.places.length cp) l.places.length (plCells l.places) := hl.places
  have hplA := own_below hpl hbA
  have pc : ∀ W : World, W.ownsRow z 119 2 (.slice (some ⟨g, 0, none⟩) l.places.length cp) l.places.length (plCells l.places) → W.cell? ⟨g, 0, none⟩ = some (.int .i64 ((l.places.getD 0 (0, 0)).1 : Nat)) ∧ W.cell? ⟨g, 1, none⟩ = some (.int .i64 ((l.places.getD 0 (0, 0)).2 : Nat)) ∧ W.cell? ⟨g, 2, none⟩ = some (.int .i64 ((l.places.getD 1 (0, 0)).1 : Nat)) ∧ W.cell? ⟨g, 3, none⟩ = some (.int .i64 ((l.places.getD 1 (0, 0)).2 : Nat)) := fun W hW => ⟨(place_of hW (j := 0) (by omega)).1, (place_of hW (j := 0) (by omega)).2, (place_of hW (j := 1) (by omega)).1, (place_of hW (j := 1) (by omega)).2⟩
  have hx : ∀ j, j < 2 → (l.places.getD j (0, 0)).1 < nl := fun j hj => (hk.places (l.places.getD j (0, 0)) (by rw [List.getD_eq_getElem?_getD, List.getElem?_eq_getElem (by omega)]; exact List.getElem_mem _)).1
  have x0 := hx 0 (by omega)
  have x1 := hx 1 (by omega)
  have HA := h.below hbA
  have HPA : Hid (_) := hplA
  have HP : Hid (_) := hpl
  have PC : Hid (_) := pc
  have hd := pc _ hplA
  rw [hlen] at hbA HA hd
  rw [hlen]
  clear hx hl hk pc hpl hplA
  have b2 : (((l.op : Nat) : Int) == 2) = false := by rw [hop]; rfl
  have b3 : (((l.op : Nat) : Int) == 3) = false := by rw [hop]; rfl
  have b4 : (((l.op : Nat) : Int) == 4) = false := by rw [hop]; rfl
  have b5 : (((l.op : Nat) : Int) == 5) = false := by rw [hop]; rfl
  have b7 : (((l.op : Nat) : Int) == 7) = false := by rw [hop]; rfl
  have b8 : (((l.op : Nat) : Int) == 8) = false := by rw [hop]; rfl
  have b10 : (((l.op : Nat) : Int) == 10) = false := by rw [hop]; rfl
  have b11 : (((l.op : Nat) : Int) == 11) = false := by rw [hop]; rfl
  have b12 : (((l.op : Nat) : Int) == 12) = true := by rw [hop]; rfl
  have b14 : (((l.op : Nat) : Int) == 14) = false := by rw [hop]; rfl
  have b13 : (((l.op : Nat) : Int) == 13) = false := by rw [hop]; rfl
  have b15 : (((l.op : Nat) : Int) == 15) = false := by rw [hop]; rfl
  generalize l.places.getD 0 (0, 0) = p0 at *
  generalize l.places.getD 1 (0, 0) = p1 at *
  clear hop
  obtain ⟨d0, d1, d2, d3⟩ := hd
  have x0i : (p0.1 : Int) < 12 := by omega
  have KPA : ∀ {vm2 vt2 : Value} {W : World}, Roam x vm vt (w.alloc (.cells #[.int .i64 (l.num : Nat), .int .i64 (l.op : Nat), .slice (some ⟨g, 0, none⟩) 2 cp, .int .i64 l.number, .int .i64 l.flag, .slice an l.next.length cn] 115)) vm2 vt2 W → W.ownsRow z 119 2 (.slice (some ⟨g, 0, none⟩) l.places.length cp) l.places.length (plCells l.places) := fun hr => HA.keep (by have := HPA.out; rw [hlen] at this; rw [hlen]; exact this) (.inr rfl) hr
  have x0q : p0.1 < q.locals.length := by omega
  have x1q : p1.1 < q.locals.length := by omega
  have hin0 := halves_in (q := q) (x := p0) (n := 12) (by omega)
  have hin1 := halves_in (q := q) (x := p1) (n := 12) (by omega)
  have hlq : (QP.halvesQ q p0).length ≤ 2 := by unfold QP.halvesQ; split <;> simp
  have m3 := HA.prog
  have KH0 := fun (W : World) (hW : OAt w0 x a W o vi vm vt) => halves_any q p0 v u a W (hq.below hW.old).blk (hq.below hW.old).loc x0q
  have KH1 := fun (W : World) (hW : OAt w0 x a W o vi vm vt) => halves_any q p1 v u a W (hq.below hW.old).blk (hq.below hW.old).loc x1q
  have KM := fun (W : World) (hW : OAt w0 x a W o vi vm vt) (z1 z2 g1 g2 c1 c2 : Nat) (hP1 : PlacesAt z1 W (.slice (some ⟨g1, 0, none⟩) (QP.halvesQ q p0).length c1) (QP.halvesQ q p0)) (hP2 : PlacesAt z2 W (.slice (some ⟨g2, 0, none⟩) (QP.halvesQ q p1).length c2) (QP.halvesQ q p1)) => move_any hW hP1 hP2 hin0 hin1 (by omega) hhl hbx hs (by omega) hpw h11
  clear hhl
  clear hlen
  go_enter Tryz.func65, Tryz.ntmps65
  go_wp2
  go_region_held3 (fun W => W.cell? ⟨g, 0, none⟩ = some (.int .i64 (p0.1 : Nat)) ∧ W.cell? ⟨g, 1, none⟩ = some (.int .i64 (p0.2 : Nat)) ∧ W.cell? ⟨g, 2, none⟩ = some (.int .i64 (p1.1 : Nat)) ∧ W.cell? ⟨g, 3, none⟩ = some (.int .i64 (p1.2 : Nat)) ∧ W.cell? ⟨x, 3, none⟩ = some (.pointer (some ⟨a, 0, none⟩))) (go_keep)
    (first
    | (go_at_call 107; have _ := tk0; go_fit (KM _ hO2 _ _ g1 g2 c1 c2 hP1' hP2); rintro e w3 ⟨rfl, vm3, vt3, h3, r3⟩; obtain ⟨k0, k1, k2, k3⟩ := PC.out _ (KPA (r2a.trans r3)); have m4 := h3.prog)
    | (go_at_call 107; have _ := tk1; go_fit (KM _ hO2 _ _ g2 g1 c2 c1 hP2 hP1'); rintro e w3 ⟨rfl, vm3, vt3, h3, r3⟩; obtain ⟨k0, k1, k2, k3⟩ := PC.out _ (KPA (r2a.trans r3)); have m4 := h3.prog)
    | (go_at_call 102; have _ := tk0; go_fit (KH1 _ hO1); rintro e w2 ⟨g2, c2, rfl, hP2, h2⟩; have hO2 := hO1.below h2; have r2a := r1a.trans (Roam.of h2 (x := x) (vm := vm) (vt := vt)); obtain ⟨f0, f1, f2, f3⟩ := PC.out _ (KPA r2a); have m2 := hO2.prog; have hP1' := own_below hP1 h2)
    | (go_at_call 102; have _ := tk1; go_fit (KH0 _ hO1); rintro e w2 ⟨g2, c2, rfl, hP2, h2⟩; have hO2 := hO1.below h2; have r2a := r1a.trans (Roam.of h2 (x := x) (vm := vm) (vt := vt)); obtain ⟨f0, f1, f2, f3⟩ := PC.out _ (KPA r2a); have m2 := hO2.prog; have hP1' := own_below hP1 h2)
    | (go_at_call 102; go_fit (KH0 _ HA.drew); rintro e w1 ⟨g1, c1, rfl, hP1, h1⟩; have hO1 := HA.drew.below h1; have r1a : Roam x vm vt (w.alloc (.cells #[.int .i64 (l.num : Nat), .int .i64 (l.op : Nat), .slice (some ⟨g, 0, none⟩) 2 cp, .int .i64 l.number, .int .i64 l.flag, .slice an l.next.length cn] 115)) vm vt w1 := (Roam.of (drewed _)).trans (Roam.of h1); obtain ⟨e0, e1, e2, e3⟩ := PC.out _ (KPA r1a); have m1 := hO1.prog; have tk0 : True := trivial)
    | (go_at_call 102; go_fit (KH1 _ HA.drew); rintro e w1 ⟨g1, c1, rfl, hP1, h1⟩; have hO1 := HA.drew.below h1; have r1a : Roam x vm vt (w.alloc (.cells #[.int .i64 (l.num : Nat), .int .i64 (l.op : Nat), .slice (some ⟨g, 0, none⟩) 2 cp, .int .i64 l.number, .int .i64 l.flag, .slice an l.next.length cn] 115)) vm vt w1 := (Roam.of (drewed _)).trans (Roam.of h1); obtain ⟨e0, e1, e2, e3⟩ := PC.out _ (KPA r1a); have m1 := hO1.prog; have tk1 : True := trivial))
  all_goals go_wp2_with fail
  all_goals
    go_end0
    exact ⟨rfl, vm3, vt3, h3, ((Roam.of hbA).trans r2a).trans r3⟩
set_option maxRecDepth 20000 in
set_option maxHeartbeats 4000000 in
theorem do_some (h : OAt w0 x a w o vi vm vt) {z nl nb : Nat} {l : QLine} {ap an : Option Addr} {cp cn : Nat} (hl : LineAt z w l (.slice ap l.places.length cp) (.slice an l.next.length cn)) (hk : LOk nl nb l) (hnl : nl ≤ 12) (hop : l.op = 14) {t : Nat} (hs : o.yd.Sz t) (ht : t + 100 ≤ 9000000) (hpw : Pow w0) (h11 : 11 ≤ w0.heap.size) (hbx : o.Bx) {q : QP} {v u : Value} (hq : PQ w0 a q v u) (hnq : nl = q.locals.length) (hhl : (QP.halvesQ q (l.places.getD 0 (0, 0))).length = (QP.halvesQ q (l.places.getD 1 (0, 0))).length) :
    Calls Tryz.prog 65 #[.pointer (some ⟨x, 0, none⟩), .agg #[.int .i64 (l.num : Nat), .int .i64 (l.op : Nat), .slice ap l.places.length cp, .int .i64 l.number, .int .i64 l.flag, .slice an l.next.length cn]] w fun e w' => e = .returned (.tuple #[]) ∧ (∃ vm' vt', OAt w0 x a w' (o.move (QP.halvesQ q (l.places.getD 0 (0, 0))) (QP.halvesQ q (l.places.getD 1 (0, 0)))) vi vm' vt' ∧ Roam x vm vt w vm' vt' w') := by
  have hlen : l.places.length = 2 := by rw [hk.plen, hop]; rfl
  have hbA : Below w.heap.size w (w.alloc (.cells #[.int .i64 (l.num : Nat), .int .i64 (l.op : Nat), .slice ap l.places.length cp, .int .i64 l.number, .int .i64 l.flag, .slice an l.next.length cn] 115)) := (Below.refl _ _).alloc (Nat.le_refl _) _
  obtain ⟨g, rfl, hcp, hg, -, -⟩ := place_at hl hlen 0 (by omega)
  have hpl : w.ownsRow z 119 2 (.slice (some ⟨g, 0, none⟩) l.places.length cp) l.places.length (plCells l.places) := hl.places
  have hplA := own_below hpl hbA
  have pc : ∀ W : World, W.ownsRow z 119 2 (.slice (some ⟨g, 0, none⟩) l.places.length cp) l.places.length (plCells l.places) → W.cell? ⟨g, 0, none⟩ = some (.int .i64 ((l.places.getD 0 (0, 0)).1 : Nat)) ∧ W.cell? ⟨g, 1, none⟩ = some (.int .i64 ((l.places.getD 0 (0, 0)).2 : Nat)) ∧ W.cell? ⟨g, 2, none⟩ = some (.int .i64 ((l.places.getD 1 (0, 0)).1 : Nat)) ∧ W.cell? ⟨g, 3, none⟩ = some (.int .i64 ((l.places.getD 1 (0, 0)).2 : Nat)) := fun W hW => ⟨(place_of hW (j := 0) (by omega)).1, (place_of hW (j := 0) (by omega)).2, (place_of hW (j := 1) (by omega)).1, (place_of hW (j := 1) (by omega)).2⟩
  have hx : ∀ j, j < 2 → (l.places.getD j (0, 0)).1 < nl := fun j hj => (hk.places (l.places.getD j (0, 0)) (by rw [List.getD_eq_getElem?_getD, List.getElem?_eq_getElem (by omega)]; exact List.getElem_mem _)).1
  have x0 := hx 0 (by omega)
  have x1 := hx 1 (by omega)
  have HA := h.below hbA
  have HPA : Hid (_) := hplA
  have HP : Hid (_) := hpl
  have PC : Hid (_) := pc
  have hd := pc _ hplA
  rw [hlen] at hbA HA hd
  rw [hlen]
  clear hx hl hk pc hpl hplA
  have b2 : (((l.op : Nat) : Int) == 2) = false := by rw [hop]; rfl
  have b3 : (((l.op : Nat) : Int) == 3) = false := by rw [hop]; rfl
  have b4 : (((l.op : Nat) : Int) == 4) = false := by rw [hop]; rfl
  have b5 : (((l.op : Nat) : Int) == 5) = false := by rw [hop]; rfl
  have b7 : (((l.op : Nat) : Int) == 7) = false := by rw [hop]; rfl
  have b8 : (((l.op : Nat) : Int) == 8) = false := by rw [hop]; rfl
  have b10 : (((l.op : Nat) : Int) == 10) = false := by rw [hop]; rfl
  have b11 : (((l.op : Nat) : Int) == 11) = false := by rw [hop]; rfl
  have b12 : (((l.op : Nat) : Int) == 12) = false := by rw [hop]; rfl
  have b14 : (((l.op : Nat) : Int) == 14) = true := by rw [hop]; rfl
  have b13 : (((l.op : Nat) : Int) == 13) = false := by rw [hop]; rfl
  have b15 : (((l.op : Nat) : Int) == 15) = false := by rw [hop]; rfl
  generalize l.places.getD 0 (0, 0) = p0 at *
  generalize l.places.getD 1 (0, 0) = p1 at *
  clear hop
  obtain ⟨d0, d1, d2, d3⟩ := hd
  have x0i : (p0.1 : Int) < 12 := by omega
  have KPA : ∀ {vm2 vt2 : Value} {W : World}, Roam x vm vt (w.alloc (.cells #[.int .i64 (l.num : Nat), .int .i64 (l.op : Nat), .slice (some ⟨g, 0, none⟩) 2 cp, .int .i64 l.number, .int .i64 l.flag, .slice an l.next.length cn] 115)) vm2 vt2 W → W.ownsRow z 119 2 (.slice (some ⟨g, 0, none⟩) l.places.length cp) l.places.length (plCells l.places) := fun hr => HA.keep (by have := HPA.out; rw [hlen] at this; rw [hlen]; exact this) (.inr rfl) hr
  have x0q : p0.1 < q.locals.length := by omega
  have x1q : p1.1 < q.locals.length := by omega
  have hin0 := halves_in (q := q) (x := p0) (n := 12) (by omega)
  have hin1 := halves_in (q := q) (x := p1) (n := 12) (by omega)
  have hlq : (QP.halvesQ q p0).length ≤ 2 := by unfold QP.halvesQ; split <;> simp
  have m3 := HA.prog
  have KH0 := fun (W : World) (hW : OAt w0 x a W o vi vm vt) => halves_any q p0 v u a W (hq.below hW.old).blk (hq.below hW.old).loc x0q
  have KH1 := fun (W : World) (hW : OAt w0 x a W o vi vm vt) => halves_any q p1 v u a W (hq.below hW.old).blk (hq.below hW.old).loc x1q
  have KM := fun (W : World) (hW : OAt w0 x a W o vi vm vt) (z1 z2 g1 g2 c1 c2 : Nat) (hP1 : PlacesAt z1 W (.slice (some ⟨g1, 0, none⟩) (QP.halvesQ q p0).length c1) (QP.halvesQ q p0)) (hP2 : PlacesAt z2 W (.slice (some ⟨g2, 0, none⟩) (QP.halvesQ q p1).length c2) (QP.halvesQ q p1)) => move_any hW hP1 hP2 hin0 hin1 (by omega) hhl hbx hs (by omega) hpw h11
  clear hhl
  clear hlen
  go_enter Tryz.func65, Tryz.ntmps65
  go_wp2
  go_region_held3 (fun W => W.cell? ⟨g, 0, none⟩ = some (.int .i64 (p0.1 : Nat)) ∧ W.cell? ⟨g, 1, none⟩ = some (.int .i64 (p0.2 : Nat)) ∧ W.cell? ⟨g, 2, none⟩ = some (.int .i64 (p1.1 : Nat)) ∧ W.cell? ⟨g, 3, none⟩ = some (.int .i64 (p1.2 : Nat)) ∧ W.cell? ⟨x, 3, none⟩ = some (.pointer (some ⟨a, 0, none⟩))) (go_keep)
    (first
    | (go_at_call 107; have _ := tk0; go_fit (KM _ hO2 _ _ g1 g2 c1 c2 hP1' hP2); rintro e w3 ⟨rfl, vm3, vt3, h3, r3⟩; obtain ⟨k0, k1, k2, k3⟩ := PC.out _ (KPA (r2a.trans r3)); have m4 := h3.prog)
    | (go_at_call 107; have _ := tk1; go_fit (KM _ hO2 _ _ g2 g1 c2 c1 hP2 hP1'); rintro e w3 ⟨rfl, vm3, vt3, h3, r3⟩; obtain ⟨k0, k1, k2, k3⟩ := PC.out _ (KPA (r2a.trans r3)); have m4 := h3.prog)
    | (go_at_call 102; have _ := tk0; go_fit (KH1 _ hO1); rintro e w2 ⟨g2, c2, rfl, hP2, h2⟩; have hO2 := hO1.below h2; have r2a := r1a.trans (Roam.of h2 (x := x) (vm := vm) (vt := vt)); obtain ⟨f0, f1, f2, f3⟩ := PC.out _ (KPA r2a); have m2 := hO2.prog; have hP1' := own_below hP1 h2)
    | (go_at_call 102; have _ := tk1; go_fit (KH0 _ hO1); rintro e w2 ⟨g2, c2, rfl, hP2, h2⟩; have hO2 := hO1.below h2; have r2a := r1a.trans (Roam.of h2 (x := x) (vm := vm) (vt := vt)); obtain ⟨f0, f1, f2, f3⟩ := PC.out _ (KPA r2a); have m2 := hO2.prog; have hP1' := own_below hP1 h2)
    | (go_at_call 102; go_fit (KH0 _ HA.drew); rintro e w1 ⟨g1, c1, rfl, hP1, h1⟩; have hO1 := HA.drew.below h1; have r1a : Roam x vm vt (w.alloc (.cells #[.int .i64 (l.num : Nat), .int .i64 (l.op : Nat), .slice (some ⟨g, 0, none⟩) 2 cp, .int .i64 l.number, .int .i64 l.flag, .slice an l.next.length cn] 115)) vm vt w1 := (Roam.of (drewed _)).trans (Roam.of h1); obtain ⟨e0, e1, e2, e3⟩ := PC.out _ (KPA r1a); have m1 := hO1.prog; have tk0 : True := trivial)
    | (go_at_call 102; go_fit (KH1 _ HA.drew); rintro e w1 ⟨g1, c1, rfl, hP1, h1⟩; have hO1 := HA.drew.below h1; have r1a : Roam x vm vt (w.alloc (.cells #[.int .i64 (l.num : Nat), .int .i64 (l.op : Nat), .slice (some ⟨g, 0, none⟩) 2 cp, .int .i64 l.number, .int .i64 l.flag, .slice an l.next.length cn] 115)) vm vt w1 := (Roam.of (drewed _)).trans (Roam.of h1); obtain ⟨e0, e1, e2, e3⟩ := PC.out _ (KPA r1a); have m1 := hO1.prog; have tk1 : True := trivial))
  all_goals go_wp2_with fail
  all_goals
    go_end0
    exact ⟨rfl, vm3, vt3, h3, ((Roam.of hbA).trans r2a).trans r3⟩
end
end Go.Proofs.YtmlgajhhnojdjaaGreatDoor.Own
/- The project's machine that owns: every statement behind which a run goes on. -/
namespace Go.Proofs.YtmlgajhhnojdjaaGreatDoor.Own
open Go Go.RowKit Go.Proofs.YtmlgajhhnojdjaaGreatDoor.Spec Go.Proofs.YtmlgajhhnojdjaaGreatDoor.Aux Go.Proofs.YtmlgajhhnojdjaaGreatDoor.PrjJ Go.Proofs.YtmlgajhhnojdjaaGreatDoor.PrjK Go.Proofs.YtmlgajhhnojdjaaGreatDoor.PrjL Go.Proofs.YtmlgajhhnojdjaaGreatDoor.PrjM Go.Proofs.YtmlgajhhnojdjaaGreatDoor.PrjS Go.Proofs.YtmlgajhhnojdjaaGreatDoor.PrjT Go.Proofs.YtmlgajhhnojdjaaGreatDoor.FlwA Go.Proofs.YtmlgajhhnojdjaaGreatDoor.FlwB Go.Proofs.YtmlgajhhnojdjaaGreatDoor.FlwD Go.Proofs.YtmlgajhhnojdjaaGreatDoor.FlwE

section
variable {x a : Nat} {w w0 w1 : World} {vm vt vi vm1 vt1 : Value} {o : Own}
set_option maxRecDepth 20000 in
set_option maxHeartbeats 1000000 in
theorem do_calc (h : OAt w0 x a w o vi vm vt) {z nl nb : Nat} {l : QLine} {ap an : Option Addr} {cp cn : Nat} (hl : LineAt z w l (.slice ap l.places.length cp) (.slice an l.next.length cn)) (hk : LOk nl nb l) (hnl : nl ≤ 12)
    (hop : l.op = 3 ∨ l.op = 4 ∨ l.op = 5) (hr : ∀ n ∈ o.ints, isI64 n) :
    Calls Tryz.prog 65 #[.pointer (some ⟨x, 0, none⟩), .agg #[.int .i64 (l.num : Nat), .int .i64 (l.op : Nat), .slice ap l.places.length cp, .int .i64 l.number, .int .i64 l.flag, .slice an l.next.length cn]] w fun e w' =>
      e = .returned (.tuple #[]) ∧ OAt w0 x a w' (o.calc l) vi vm vt ∧ Roam x vm vt w vm vt w' := by
  have hbA : Below w.heap.size w (w.alloc (.cells #[.int .i64 (l.num : Nat), .int .i64 (l.op : Nat), .slice ap l.places.length cp, .int .i64 l.number, .int .i64 l.flag, .slice an l.next.length cn] 115)) := (Below.refl _ _).alloc (Nat.le_refl _) _
  have KC := calculate_any (h.below hbA) (hl.below hbA) hk hnl (by omega) (fun e => by omega) hr
  have hC : Hid (({ o with ints := o.ints.set (QLine.pl l 0).1 (calcI l.op (o.num (QLine.pl l 1)) (o.num (QLine.pl l 2))) } : Own) = o.calc l) := rfl
  rw [hC.out] at KC
  clear hl hk hC
  rcases hop with e | e | e
  all_goals
    have b2 : (((l.op : Nat) : Int) == 2) = false := by rw [e]; rfl
    have b3 : (((l.op : Nat) : Int) == 3) = decide (l.op = 3) := by rw [e]; rfl
    have b4 : (((l.op : Nat) : Int) == 4) = decide (l.op = 4) := by rw [e]; rfl
    have b5 : (((l.op : Nat) : Int) == 5) = decide (l.op = 5) := by rw [e]; rfl
    simp only [e] at b3 b4 b5
    simp only [Nat.reduceEqDiff, decide_true, decide_false] at b3 b4 b5
    rw [← e] at b3 b4 b5
    clear e
    go_enter Tryz.func65, Tryz.ntmps65
    go_wp2_with (go_at_call 59; go_fit KC; rintro e w2 ⟨rfl, h2, r2⟩)
    go_end0
    exact ⟨rfl, h2, (Roam.of hbA).trans r2⟩
/-- the operations that go on -/
def goesOn (op : Nat) : Prop := op = 2 ∨ op = 3 ∨ op = 4 ∨ op = 5 ∨ op = 7 ∨ op = 8 ∨ op = 10 ∨ op = 11 ∨ op = 12 ∨ op = 13 ∨ op = 14 ∨ op = 15
theorem do_any (h : OAt w0 x a w o vi vm vt) {z nb t : Nat} {q : QP} {v u : Value} {l : QLine} {ap an : Option Addr} {cp cn : Nat} (hl : LineAt z w l (.slice ap l.places.length cp) (.slice an l.next.length cn)) (hk : LOk q.locals.length nb l) (hnl : q.locals.length ≤ 12)
    (hop : goesOn l.op) (hin : o.In t) (ht : t ≤ 900000) (hneed : o.need l = true) (hq : PQ w0 a q v u) (hhl : l.op = 12 ∨ l.op = 14 → (QP.halvesQ q (plOf l 0)).length = (QP.halvesQ q (plOf l 1)).length) (hpw : Pow w0) (h11 : 11 ≤ w0.heap.size) :
    Calls Tryz.prog 65 #[.pointer (some ⟨x, 0, none⟩), .agg #[.int .i64 (l.num : Nat), .int .i64 (l.op : Nat), .slice ap l.places.length cp, .int .i64 l.number, .int .i64 l.flag, .slice an l.next.length cn]] w fun e w' =>
      e = .returned (.tuple #[]) ∧ ∃ vi' vm' vt', OAt w0 x a w' (o.do1 q l) vi' vm' vt' ∧ Roam x vm vt w vm' vt' w' := by
  have hs := hin.sz (by omega)
  have ht' : t + 100 ≤ 9000000 := by omega
  unfold plOf at hhl
  rcases hop with e | e | e | e | e | e | e | e | e | e | e | e
  · have hd : o.do1 q l = { o with ints := o.ints.set (l.places.getD 0 (0, 0)).1 l.number } := by unfold Own.do1; rw [if_pos e]; rfl
    rw [hd]
    exact (do_set h hl hk hnl e).mono fun e w' ⟨h0, h1, h2⟩ => ⟨h0, vi, vm, vt, h1, h2⟩
  · have hd : o.do1 q l = o.calc l := by unfold Own.do1; rw [if_neg (by omega), if_pos (by omega)]
    rw [hd]
    exact (do_calc h hl hk hnl (by omega) hin.nums).mono fun e w' ⟨h0, h1, h2⟩ => ⟨h0, vi, vm, vt, h1, h2⟩
  · have hd : o.do1 q l = o.calc l := by unfold Own.do1; rw [if_neg (by omega), if_pos (by omega)]
    rw [hd]
    exact (do_calc h hl hk hnl (by omega) hin.nums).mono fun e w' ⟨h0, h1, h2⟩ => ⟨h0, vi, vm, vt, h1, h2⟩
  · have hd : o.do1 q l = o.calc l := by unfold Own.do1; rw [if_neg (by omega), if_pos (by omega)]
    rw [hd]
    exact (do_calc h hl hk hnl (by omega) hin.nums).mono fun e w' ⟨h0, h1, h2⟩ => ⟨h0, vi, vm, vt, h1, h2⟩
  · have hd : o.do1 q l = { o with inp := o.inp.tail, ints := o.ints.set (l.places.getD 0 (0, 0)).1 (o.inp.headD 0) } := by unfold Own.do1; rw [if_neg (by omega), if_neg (by omega), if_pos e]; rfl
    rw [hd]
    exact (do_in h hl hk hnl e).mono fun e w' ⟨h0, ⟨vi', h1⟩, h2⟩ => ⟨h0, vi', vm, vt, h1, h2⟩
  · have hd : o.do1 q l = { o with yd := o.yd.note 111 (o.num (l.places.getD 0 (0, 0))) } := by unfold Own.do1; rw [if_neg (by omega), if_neg (by omega), if_neg (by omega), if_pos e]; rfl
    rw [hd]
    exact (do_out h hl hk hnl e hs ht' hpw h11 hin.nums).mono fun e w' ⟨h0, vm', vt', h1, h2⟩ => ⟨h0, vi, vm', vt', h1, h2⟩
  · have hd : o.do1 q l = { o with yd := o.yd.load (o.box (l.places.getD 1 (0, 0))), ints := o.ints.set (l.places.getD 0 (0, 0)).1 (o.yd.at (o.box (l.places.getD 1 (0, 0)))).1 } := by unfold Own.do1; rw [if_neg (by omega), if_neg (by omega), if_neg (by omega), if_neg (by omega), if_pos e]; rfl
    have hn : 1 ≤ o.box (l.places.getD 1 (0, 0)) := by unfold Own.need at hneed; rw [if_pos e] at hneed; exact of_decide_eq_true hneed
    rw [hd]
    exact (do_load h hl hk hnl e hs ht' hpw h11 hin.bx hn).mono fun e w' ⟨h0, vm', vt', h1, h2⟩ => ⟨h0, vi, vm', vt', h1, h2⟩
  · have hd : o.do1 q l = { o with yd := o.yd.store (o.box (l.places.getD 0 (0, 0))) (o.num (l.places.getD 1 (0, 0))) } := by unfold Own.do1; rw [if_neg (by omega), if_neg (by omega), if_neg (by omega), if_neg (by omega), if_neg (by omega), if_pos e]; rfl
    have hn : 1 ≤ o.box (l.places.getD 0 (0, 0)) := by unfold Own.need at hneed; rw [if_neg (by omega), if_pos e] at hneed; exact of_decide_eq_true hneed
    rw [hd]
    exact (do_store h hl hk hnl e hs ht' hpw h11 hin.bx hn).mono fun e w' ⟨h0, vm', vt', h1, h2⟩ => ⟨h0, vi, vm', vt', h1, h2⟩
  · have hd : o.do1 q l = o.move (QP.halvesQ q (l.places.getD 0 (0, 0))) (QP.halvesQ q (l.places.getD 1 (0, 0))) := by unfold Own.do1; rw [if_neg (by omega), if_neg (by omega), if_neg (by omega), if_neg (by omega), if_neg (by omega), if_neg (by omega), if_pos (by omega)]; rfl
    rw [hd]
    exact (do_move h hl hk hnl e hs ht' hpw h11 hin.bx hq rfl (hhl (.inl e))).mono fun e w' ⟨h0, vm', vt', h1, h2⟩ => ⟨h0, vi, vm', vt', h1, h2⟩
  · have hd : o.do1 q l = o.drop (QP.halvesQ q (l.places.getD 0 (0, 0))) := by unfold Own.do1; rw [if_neg (by omega), if_neg (by omega), if_neg (by omega), if_neg (by omega), if_neg (by omega), if_neg (by omega), if_neg (by omega), if_pos (by omega)]; rfl
    rw [hd]
    exact (do_none h hl hk hnl e hs ht' hpw h11 hin.bx hq rfl).mono fun e w' ⟨h0, vm', vt', h1, h2⟩ => ⟨h0, vi, vm', vt', h1, h2⟩
  · have hd : o.do1 q l = o.move (QP.halvesQ q (l.places.getD 0 (0, 0))) (QP.halvesQ q (l.places.getD 1 (0, 0))) := by unfold Own.do1; rw [if_neg (by omega), if_neg (by omega), if_neg (by omega), if_neg (by omega), if_neg (by omega), if_neg (by omega), if_pos (by omega)]; rfl
    rw [hd]
    exact (do_some h hl hk hnl e hs ht' hpw h11 hin.bx hq rfl (hhl (.inr e))).mono fun e w' ⟨h0, vm', vt', h1, h2⟩ => ⟨h0, vi, vm', vt', h1, h2⟩
  · have hd : o.do1 q l = o.drop (QP.halvesQ q (l.places.getD 0 (0, 0))) := by unfold Own.do1; rw [if_neg (by omega), if_neg (by omega), if_neg (by omega), if_neg (by omega), if_neg (by omega), if_neg (by omega), if_neg (by omega), if_pos (by omega)]; rfl
    rw [hd]
    exact (do_drop h hl hk hnl e hs ht' hpw h11 hin.bx hq rfl).mono fun e w' ⟨h0, vm', vt', h1, h2⟩ => ⟨h0, vi, vm', vt', h1, h2⟩
end
end Go.Proofs.YtmlgajhhnojdjaaGreatDoor.Own
