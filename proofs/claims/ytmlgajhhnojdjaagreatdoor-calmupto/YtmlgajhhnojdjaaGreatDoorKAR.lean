/- The project's machine that owns: statements behind which a run goes on: store, move, some, none, drop. -/
import Derived.Test.YtmlgajhhnojdjaaGreatDoorKAQ
import Derived.Deep.RegionHeld3
namespace Go.Proofs.YtmlgajhhnojdjaaGreatDoor.Own
open Go Go.RowKit Go.Proofs.YtmlgajhhnojdjaaGreatDoor.Spec Go.Proofs.YtmlgajhhnojdjaaGreatDoor.Aux Go.Proofs.YtmlgajhhnojdjaaGreatDoor.PrjJ Go.Proofs.YtmlgajhhnojdjaaGreatDoor.PrjK Go.Proofs.YtmlgajhhnojdjaaGreatDoor.PrjL Go.Proofs.YtmlgajhhnojdjaaGreatDoor.PrjM Go.Proofs.YtmlgajhhnojdjaaGreatDoor.PrjS Go.Proofs.YtmlgajhhnojdjaaGreatDoor.PrjT Go.Proofs.YtmlgajhhnojdjaaGreatDoor.FlwA Go.Proofs.YtmlgajhhnojdjaaGreatDoor.FlwB Go.Proofs.YtmlgajhhnojdjaaGreatDoor.FlwD Go.Proofs.YtmlgajhhnojdjaaGreatDoor.FlwE

section
variable {x a : Nat} {w w0 w1 : World} {vm vt vi vm1 vt1 : Value} {o : Own}
theorem OAt.prog (h : OAt w0 x a w o vi vm vt) : w.cell? ⟨x, 3, none⟩ = some (.pointer (some ⟨a, 0, none⟩)) := (h.yat.more 0).1
set_option maxRecDepth 20000 in
set_option maxHeartbeats 4000000 in
theorem do_store (h : OAt w0 x a w o vi vm vt) {z nl nb : Nat} {l : QLine} {ap an : Option Addr} {cp cn : Nat} (hl : LineAt z w l (.slice ap l.places.length cp) (.slice an l.next.length cn)) (hk : LOk nl nb l) (hnl : nl ≤ 12) (hop : l.op = 11) {t : Nat} (hs : o.yd.Sz t) (ht : t + 100 ≤ 9000000) (hpw : Pow w0) (h11 : 11 ≤ w0.heap.size) (hbx : o.Bx) (hne : 1 ≤ o.box (l.places.getD 0 (0, 0))) :
    Calls Tryz.prog 65 #[.pointer (some ⟨x, 0, none⟩), .agg #[.int .i64 (l.num : Nat), .int .i64 (l.op : Nat), .slice ap l.places.length cp, .int .i64 l.number, .int .i64 l.flag, .slice an l.next.length cn]] w fun e w' => e = .returned (.tuple #[]) ∧ (∃ vm' vt', OAt w0 x a w' { o with yd := o.yd.store (o.box (l.places.getD 0 (0, 0))) (o.num (l.places.getD 1 (0, 0))) } vi vm' vt' ∧ Roam x vm vt w vm' vt' w') := by
  have hlen : l.places.length = 2 := by rw [hk.plen, hop]; rfl
  have hbA : Below w.heap.size w (w.alloc (.cells #[.int .i64 (l.num : Nat), .int .i64 (l.op : Nat), .slice ap l.places.length cp, .int .i64 l.number, .int .i64 l.flag, .slice an l.next.length cn] 115)) := (Below.refl _ _).alloc (Nat.le_refl _) _
  obtain ⟨g, rfl, hcp, hg, -, -⟩ := place_at hl hlen 0 (by omega)
  have hpl : w.ownsRow z 119 2 (.slice (some ⟨g, 0, none⟩) l.places.length cp) l.places.length (plCells l.places) := hl.places
  have hplA := own_below hpl hbA
  have pc : ∀ W : World, W.ownsRow z 119 2 (.slice (some ⟨g, 0, none⟩) l.places.length cp) l.places.length (plCells l.places) → W.cell? ⟨g, 0, none⟩ = some (.int .i64 ((l.places.getD 0 (0, 0)).1 : Nat)) ∧ W.cell? ⟨g, 1, none⟩ = some (.int .i64 ((l.places.getD 0 (0, 0)).2 : Nat)) ∧ W.cell? ⟨g, 2, none⟩ = some (.int .i64 ((l.places.getD 1 (0, 0)).1 : Nat)) ∧ W.cell? ⟨g, 3, none⟩ = some (.int .i64 ((l.places.getD 1 (0, 0)).2 : Nat)) := fun W hW => ⟨(place_of hW (j := 0) (by omega)).1, (place_of hW (j := 0) (by omega)).2, (place_of hW (j := 1) (by omega)).1, (place_of hW (j := 1) (by omega)).2⟩
  have hx : ∀ j, j < 2 → (l.places.getD j (0, 0)).1 < nl := fun j hj => (hk.places (l.places.getD j (0, 0)) (by rw [List.getD_eq_getElem?_getD, List.getElem?_eq_getElem (by omega)]; exact List.getElem_mem _)).1
  have x0 := hx 0 (by omega)
  have x1 := hx 1 (by omega)
  have HA := h.below hbA
  have HPA : Hid (_) := hplA
  have HP : Hid (_) := hpl
  have PC : Hid (_) := pc
  have hd := pc _ hplA
  rw [hlen] at hbA HA hd
  rw [hlen]
  clear hx hl hk pc hpl hplA
  have b2 : (((l.op : Nat) : Int) == 2) = false := by rw [hop]; rfl
  have b3 : (((l.op : Nat) : Int) == 3) = false := by rw [hop]; rfl
  have b4 : (((l.op : Nat) : Int) == 4) = false := by rw [hop]; rfl
  have b5 : (((l.op : Nat) : Int) == 5) = false := by rw [hop]; rfl
  have b7 : (((l.op : Nat) : Int) == 7) = false := by rw [hop]; rfl
  have b8 : (((l.op : Nat) : Int) == 8) = false := by rw [hop]; rfl
  have b10 : (((l.op : Nat) : Int) == 10) = false := by rw [hop]; rfl
  have b11 : (((l.op : Nat) : Int) == 11) = true := by rw [hop]; rfl
  have b12 : (((l.op : Nat) : Int) == 12) = false := by rw [hop]; rfl
  have b14 : (((l.op : Nat) : Int) == 14) = false := by rw [hop]; rfl
  have b13 : (((l.op : Nat) : Int) == 13) = false := by rw [hop]; rfl
  have b15 : (((l.op : Nat) : Int) == 15) = false := by rw [hop]; rfl
  generalize l.places.getD 0 (0, 0) = p0 at *
  generalize l.places.getD 1 (0, 0) = p1 at *
  clear hop
  obtain ⟨d0, d1, d2, d3⟩ := hd
  have x0i : (p0.1 : Int) < 12 := by omega
  have KPA : ∀ {vm2 vt2 : Value} {W : World}, Roam x vm vt (w.alloc (.cells #[.int .i64 (l.num : Nat), .int .i64 (l.op : Nat), .slice (some ⟨g, 0, none⟩) 2 cp, .int .i64 l.number, .int .i64 l.flag, .slice an l.next.length cn] 115)) vm2 vt2 W → W.ownsRow z 119 2 (.slice (some ⟨g, 0, none⟩) l.places.length cp) l.places.length (plCells l.places) := fun hr => HA.keep (by have := HPA.out; rw [hlen] at this; rw [hlen]; exact this) (.inr rfl) hr
  have hle := box_le hbx p0
  have KB := fun (W : World) (hW : OAt w0 x a W o vi vm vt) => box_any hW p0 (by omega)
  have KN := fun (W : World) (hW : OAt w0 x a W o vi vm vt) => number_any hW p1 (by omega)
  have KL := fun (W : World) (hW : OAt w0 x a W o vi vm vt) => store_any hW.yat (o.box p0) hne hle (o.num p1) (hpw.below hW.old h11) (hs.ok (by omega))
  generalize o.box p0 = n at *
  generalize o.num p1 = v at *
  clear hlen
  go_enter Tryz.func65, Tryz.ntmps65
  go_wp2
  go_region_with (first
    | (go_at_call 106; go_fit (KL _ hO2); rintro e w3 ⟨rfl, vm3, vt3, h3, r3⟩)
    | (go_at_call 58; go_fit (KN _ hO1); rintro e w2 ⟨rfl, h2⟩; have hO2 := hO1.below h2; have r2a := r1a.trans (Roam.of h2 (x := x) (vm := vm) (vt := vt)); obtain ⟨f0, f1, f2, f3⟩ := PC.out _ (KPA r2a))
    | (go_at_call 99; go_fit (KB _ hO1); rintro e w2 ⟨rfl, h2⟩; have hO2 := hO1.below h2; have r2a := r1a.trans (Roam.of h2 (x := x) (vm := vm) (vt := vt)); obtain ⟨f0, f1, f2, f3⟩ := PC.out _ (KPA r2a))
    | (go_at_call 99; go_fit (KB _ HA.drew); rintro e w1 ⟨rfl, h1⟩; have hO1 := HA.drew.below h1; have r1a : Roam x vm vt (w.alloc (.cells #[.int .i64 (l.num : Nat), .int .i64 (l.op : Nat), .slice (some ⟨g, 0, none⟩) 2 cp, .int .i64 l.number, .int .i64 l.flag, .slice an l.next.length cn] 115)) vm vt w1 := (Roam.of (drewed _)).trans (Roam.of h1); obtain ⟨e0, e1, e2, e3⟩ := PC.out _ (KPA r1a))
    | (go_at_call 58; go_fit (KN _ HA.drew); rintro e w1 ⟨rfl, h1⟩; have hO1 := HA.drew.below h1; have r1a : Roam x vm vt (w.alloc (.cells #[.int .i64 (l.num : Nat), .int .i64 (l.op : Nat), .slice (some ⟨g, 0, none⟩) 2 cp, .int .i64 l.number, .int .i64 l.flag, .slice an l.next.length cn] 115)) vm vt w1 := (Roam.of (drewed _)).trans (Roam.of h1); obtain ⟨e0, e1, e2, e3⟩ := PC.out _ (KPA r1a)))
  all_goals go_wp2_with fail
  all_goals
    go_end0
    exact ⟨rfl, vm3, vt3, hO2.yard h3 r3, ((Roam.of hbA).trans r2a).trans r3⟩
set_option maxRecDepth 20000 in
set_option maxHeartbeats 4000000 in
theorem do_none (h : OAt w0 x a w o vi vm vt) {z nl nb : Nat} {l : QLine} {ap an : Option Addr} {cp cn : Nat} (hl : LineAt z w l (.slice ap l.places.length cp) (.slice an l.next.length cn)) (hk : LOk nl nb l) (hnl : nl ≤ 12) (hop : l.op = 13) {t : Nat} (hs : o.yd.Sz t) (ht : t + 100 ≤ 9000000) (hpw : Pow w0) (h11 : 11 ≤ w0.heap.size) (hbx : o.Bx) {q : QP} {v u : Value} (hq : PQ w0 a q v u) (hnq : nl = q.locals.length) :
    Calls Tryz.prog 65 #[.pointer (some ⟨x, 0, none⟩), .agg #[.int .i64 (l.num : Nat), .int .i64 (l.op : Nat), .slice ap l.places.length cp, .int .i64 l.number, .int .i64 l.flag, .slice an l.next.length cn]] w fun e w' => e = .returned (.tuple #[]) ∧ (∃ vm' vt', OAt w0 x a w' (o.drop (QP.halvesQ q (l.places.getD 0 (0, 0)))) vi vm' vt' ∧ Roam x vm vt w vm' vt' w') := by
  have hlen : l.places.length = 1 := by rw [hk.plen, hop]; rfl
  have hbA : Below w.heap.size w (w.alloc (.cells #[.int .i64 (l.num : Nat), .int .i64 (l.op : Nat), .slice ap l.places.length cp, .int .i64 l.number, .int .i64 l.flag, .slice an l.next.length cn] 115)) := (Below.refl _ _).alloc (Nat.le_refl _) _
  obtain ⟨g, rfl, hcp, hg, -, -⟩ := place_at hl hlen 0 (by omega)
  have hpl : w.ownsRow z 119 2 (.slice (some ⟨g, 0, none⟩) l.places.length cp) l.places.length (plCells l.places) := hl.places
  have hplA := own_below hpl hbA
  have pc : ∀ W : World, W.ownsRow z 119 2 (.slice (some ⟨g, 0, none⟩) l.places.length cp) l.places.length (plCells l.places) → W.cell? ⟨g, 0, none⟩ = some (.int .i64 ((l.places.getD 0 (0, 0)).1 : Nat)) ∧ W.cell? ⟨g, 1, none⟩ = some (.int .i64 ((l.places.getD 0 (0, 0)).2 : Nat)) := fun W hW => ⟨(place_of hW (j := 0) (by omega)).1, (place_of hW (j := 0) (by omega)).2⟩
  have hx : ∀ j, j < 1 → (l.places.getD j (0, 0)).1 < nl := fun j hj => (hk.places (l.places.getD j (0, 0)) (by rw [List.getD_eq_getElem?_getD, List.getElem?_eq_getElem (by omega)]; exact List.getElem_mem _)).1
  have x0 := hx 0 (by omega)
  have HA := h.below hbA
  have HPA : Hid (_) := hplA
  have HP : Hid (_) := hpl
  have PC : Hid (_) := pc
  have hd := pc _ hplA
  rw [hlen] at hbA HA hd
  rw [hlen]
  clear hx hl hk pc hpl hplA
  have b2 : (((l.op : Nat) : Int) == 2) = false := by rw [hop]; rfl
  have b3 : (((l.op : Nat) : Int) == 3) = false := by rw [hop]; rfl
  have b4 : (((l.op : Nat) : Int) == 4) = false := by rw [hop]; rfl
  have b5 : (((l.op : Nat) : Int) == 5) = false := by rw [hop]; rfl
  have b7 : (((l.op : Nat) : Int) == 7) = false := by rw [hop]; rfl
  have b8 : (((l.op : Nat) : Int) == 8) = false := by rw [hop]; rfl
  have b10 : (((l.op : Nat) : Int) == 10) = false := by rw [hop]; rfl
  have b11 : (((l.op : Nat) : Int) == 11) = false := by rw [hop]; rfl
  have b12 : (((l.op : Nat) : Int) == 12) = false := by rw [hop]; rfl
  have b14 : (((l.op : Nat) : Int) == 14) = false := by rw [hop]; rfl
  have b13 : (((l.op : Nat) : Int) == 13) = true := by rw [hop]; rfl
  have b15 : (((l.op : Nat) : Int) == 15) = false := by rw [hop]; rfl
  generalize l.places.getD 0 (0, 0) = p0 at *
  clear hop
  obtain ⟨d0, d1⟩ := hd
  have x0i : (p0.1 : Int) < 12 := by omega
  have x0q : p0.1 < q.locals.length := by omega
  have hin := halves_in (q := q) (x := p0) (n := 12) (by omega)
  have hlq : (QP.halvesQ q p0).length ≤ 2 := by unfold QP.halvesQ; split <;> simp
  have HQ := hq.below HA.drew.old
  have m3 := HA.prog
  have KH := halves_any q p0 v u a _ HQ.blk HQ.loc x0q
  have KD := fun (W : World) (hW : OAt w0 x a W o vi vm vt) (zz gg cc : Nat) (hP : PlacesAt zz W (.slice (some ⟨gg, 0, none⟩) (QP.halvesQ q p0).length cc) (QP.halvesQ q p0)) => drop_any hW hP hin (by omega) hbx hs (by omega) hpw h11
  clear hlen
  go_enter Tryz.func65, Tryz.ntmps65
  go_wp2
  go_region_with (first
    | (go_at_call 102; go_fit KH; rintro e w2 ⟨g2, c2, rfl, hP2, h2⟩; have hO2 := HA.drew.below h2; have r2a : Roam x vm vt (w.alloc (.cells #[.int .i64 (l.num : Nat), .int .i64 (l.op : Nat), .slice (some ⟨g, 0, none⟩) 1 cp, .int .i64 l.number, .int .i64 l.flag, .slice an l.next.length cn] 115)) vm vt w2 := (Roam.of (drewed _)).trans (Roam.of h2))
    | (go_at_call 60; go_fit (KD _ hO2 _ g2 c2 hP2); rintro e w3 ⟨rfl, vm3, vt3, h3, r3⟩))
  all_goals go_wp2_with fail
  all_goals
    go_end0
    exact ⟨rfl, vm3, vt3, h3, ((Roam.of hbA).trans r2a).trans r3⟩
set_option maxRecDepth 20000 in
set_option maxHeartbeats 4000000 in
theorem do_drop (h : OAt w0 x a w o vi vm vt) {z nl nb : Nat} {l : QLine} {ap an : Option Addr} {cp cn : Nat} (hl : LineAt z w l (.slice ap l.places.length cp) (.slice an l.next.length cn)) (hk : LOk nl nb l) (hnl : nl ≤ 12) (hop : l.op = 15) {t : Nat} (hs : o.yd.Sz t) (ht : t + 100 ≤ 9000000) (hpw : Pow w0) (h11 : 11 ≤ w0.heap.size) (hbx : o.Bx) {q : QP} {v u : Value} (hq : PQ w0 a q v u) (hnq : nl = q.locals.length) :
    Calls Tryz.prog 65 #[.pointer (some ⟨x, 0, none⟩), .agg #[.int .i64 (l.num : Nat), .int .i64 (l.op : Nat), .slice ap l.places.length cp, .int .i64 l.number, .int .i64 l.flag, .slice an l.next.length cn]] w fun e w' => e = .returned (.tuple #[]) ∧ (∃ vm' vt', OAt w0 x a w' (o.drop (QP.halvesQ q (l.places.getD 0 (0, 0)))) vi vm' vt' ∧ Roam x vm vt w vm' vt' w') := by
  have hlen : l.places.length = 1 := by rw [hk.plen, hop]; rfl
  have hbA : Below w.heap.size w (w.alloc (.cells #[.int .i64 (l.num : Nat), .int .i64 (l.op : Nat), .slice ap l.places.length cp, .int .i64 l.number, .int .i64 l.flag, .slice an l.next.length cn] 115)) := (Below.refl _ _).alloc (Nat.le_refl _) _
  obtain ⟨g, rfl, hcp, hg, -, -⟩ := place_at hl hlen 0 (by omega)
  have hpl : w.ownsRow z 119 2 (.slice (some ⟨g, 0, none⟩) l.places.length cp) l.places.length (plCells l.places) := hl.places
  have hplA := own_below hpl hbA
  have pc : ∀ W : World, W.ownsRow z 119 2 (.slice (some ⟨g, 0, none⟩) l.places.length cp) l.places.length (plCells l.places) → W.cell? ⟨g, 0, none⟩ = some (.int .i64 ((l.places.getD 0 (0, 0)).1 : Nat)) ∧ W.cell? ⟨g, 1, none⟩ = some (.int .i64 ((l.places.getD 0 (0, 0)).2 : Nat)) := fun W hW => ⟨(place_of hW (j := 0) (by omega)).1, (place_of hW (j := 0) (by omega)).2⟩
  have hx : ∀ j, j < 1 → (l.places.getD j (0, 0)).1 < nl := fun j hj => (hk.places (l.places.getD j (0, 0)) (by rw [List.getD_eq_getElem?_getD, List.getElem?_eq_getElem (by omega)]; exact List.getElem_mem _)).1
  have x0 := hx 0 (by omega)
  have HA := h.below hbA
  have HPA : Hid (_) := hplA
  have HP : Hid (_) := hpl
  have PC : Hid (_) := pc
  have hd := pc _ hplA
  rw [hlen] at hbA HA hd
  rw [hlen]
  clear hx hl hk pc hpl hplA
  have b2 : (((l.op : Nat) : Int) == 2) = false := by rw [hop]; rfl
  have b3 : (((l.op : Nat) : Int) == 3) = false := by rw [hop]; rfl
  have b4 : (((l.op : Nat) : Int) == 4) = false := by rw [hop]; rfl
  have b5 : (((l.op : Nat) : Int) == 5) = false := by rw [hop]; rfl
  have b7 : (((l.op : Nat) : Int) == 7) = false := by rw [hop]; rfl
  have b8 : (((l.op : Nat) : Int) == 8) = false := by rw [hop]; rfl
  have b10 : (((l.op : Nat) : Int) == 10) = false := by rw [hop]; rfl
  have b11 : (((l.op : Nat) : Int) == 11) = false := by rw [hop]; rfl
  have b12 : (((l.op : Nat) : Int) == 12) = false := by rw [hop]; rfl
  have b14 : (((l.op : Nat) : Int) == 14) = false := by rw [hop]; rfl
  have b13 : (((l.op : Nat) : Int) == 13) = false := by rw [hop]; rfl
  have b15 : (((l.op : Nat) : Int) == 15) = true := by rw [hop]; rfl
  generalize l.places.getD 0 (0, 0) = p0 at *
  clear hop
  obtain ⟨d0, d1⟩ := hd
  have x0i : (p0.1 : Int) < 12 := by omega
  have x0q : p0.1 < q.locals.length := by omega
  have hin := halves_in (q := q) (x := p0) (n := 12) (by omega)
  have hlq : (QP.halvesQ q p0).length ≤ 2 := by unfold QP.halvesQ; split <;> simp
  have HQ := hq.below HA.drew.old
  have m3 := HA.prog
  have KH := halves_any q p0 v u a _ HQ.blk HQ.loc x0q
  have KD := fun (W : World) (hW : OAt w0 x a W o vi vm vt) (zz gg cc : Nat) (hP : PlacesAt zz W (.slice (some ⟨gg, 0, none⟩) (QP.halvesQ q p0).length cc) (QP.halvesQ q p0)) => drop_any hW hP hin (by omega) hbx hs (by omega) hpw h11
  clear hlen
  go_enter Tryz.func65, Tryz.ntmps65
  go_wp2
  go_region_with (first
    | (go_at_call 102; go_fit KH; rintro e w2 ⟨g2, c2, rfl, hP2, h2⟩; have hO2 := HA.drew.below h2; have r2a : Roam x vm vt (w.alloc (.cells #[.int .i64 (l.num : Nat), .int .i64 (l.op : Nat), .slice (some ⟨g, 0, none⟩) 1 cp, .int .i64 l.number, .int .i64 l.flag, .slice an l.next.length cn] 115)) vm vt w2 := (Roam.of (drewed _)).trans (Roam.of h2))
    | (go_at_call 60; go_fit (KD _ hO2 _ g2 c2 hP2); rintro e w3 ⟨rfl, vm3, vt3, h3, r3⟩))
  all_goals go_wp2_with fail
  all_goals
    go_end0
    exact ⟨rfl, vm3, vt3, h3, ((Roam.of hbA).trans r2a).trans r3⟩
end
end Go.Proofs.YtmlgajhhnojdjaaGreatDoor.Own
/- The project's machine that owns: statements behind which a run goes on: move, some. -/
namespace Go.Proofs.YtmlgajhhnojdjaaGreatDoor.Own
open Go Go.RowKit Go.Proofs.YtmlgajhhnojdjaaGreatDoor.Spec Go.Proofs.YtmlgajhhnojdjaaGreatDoor.Aux Go.Proofs.YtmlgajhhnojdjaaGreatDoor.PrjJ Go.Proofs.YtmlgajhhnojdjaaGreatDoor.PrjK Go.Proofs.YtmlgajhhnojdjaaGreatDoor.PrjL Go.Proofs.YtmlgajhhnojdjaaGreatDoor.PrjM Go.Proofs.YtmlgajhhnojdjaaGreatDoor.PrjS Go.Proofs.YtmlgajhhnojdjaaGreatDoor.PrjT Go.Proofs.YtmlgajhhnojdjaaGreatDoor.FlwA Go.Proofs.YtmlgajhhnojdjaaGreatDoor.FlwB Go.Proofs.YtmlgajhhnojdjaaGreatDoor.FlwD Go.Proofs.YtmlgajhhnojdjaaGreatDoor.FlwE

section
variable {x a : Nat} {w w0 w1 : World} {vm vt vi vm1 vt1 : Value} {o : Own}
set_option maxRecDepth 20000 in
set_option maxHeartbeats 4000000 in
theorem do_move (h : OAt w0 x a w o vi vm vt) {z nl nb : Nat} {l : QLine} {ap an : Option Addr} {cp cn : Nat} (hl : LineAt z w l (.slice ap l.places.length cp) (.slice an l.next.length cn)) (hk : LOk nl nb l) (hnl : nl ≤ 12) (hop : l.op = 12) {t : Nat} (hs : o.yd.Sz t) (ht : t + 100 ≤ 9000000) (hpw : Pow w0) (h11 : 11 ≤ w0.heap.size) (hbx : o.Bx) {q : QP} {v u : Value} (hq : PQ w0 a q v u) (hnq : nl = q.locals.length) (hhl : (QP.halvesQ q (l.places.getD 0 (0, 0))).length = (QP.halvesQ q (l.places.getD 1 (0, 0))).length) :
    Calls Tryz.prog 65 #[.pointer (some ⟨x, 0, none⟩), .agg #[.int .i64 (l.num : Nat), .int .i64 (l.op : Nat), .slice ap l.places.length cp, .int .i64 l.number, .int .i64 l.flag, .slice an l.next.length cn]] w fun e w' => e = .returned (.tuple #[]) ∧ (∃ vm' vt', OAt w0 x a w' (o.move (QP.halvesQ q (l.places.getD 0 (0, 0))) (QP.halvesQ q (l.places.getD 1 (0, 0)))) vi vm' vt' ∧ Roam x vm vt w vm' vt' w') := by
  have hlen : l.places.length = 2 := by rw [hk.plen, hop]; rfl
  have hbA : Below w.heap.size w (w.alloc (.cells #[.int .i64 (l.num : Nat), .int .i64 (l.op : Nat), .slice ap l.places.length cp, .int .i64 l.number, .int .i64 l.flag, .slice an l.next.length cn] 115)) := (Below.refl _ _).alloc (Nat.le_refl _) _
  obtain ⟨g, rfl, hcp, hg, -, -⟩ := place_at hl hlen 0 (by omega)
  have hpl : w.ownsRow z 119 2 (.slice (some ⟨g, 0, none⟩) l.places.length cp) l.places.length (plCells l.places) := hl.places
  have hplA := own_below hpl hbA
  have pc : ∀ W : World, W.ownsRow z 119 2 (.slice (some ⟨g, 0, none⟩) l.places.length cp) l.places.length (plCells l.places) → W.cell? ⟨g, 0, none⟩ = some (.int .i64 ((l.places.getD 0 (0, 0)).1 : Nat)) ∧ W.cell? ⟨g, 1, none⟩ = some (.int .i64 ((l.places.getD 0 (0, 0)).2 : Nat)) ∧ W.cell? ⟨g, 2, none⟩ = some (.int .i64 ((l.places.getD 1 (0, 0)).1 : Nat)) ∧ W.cell? ⟨g, 3, none⟩ = some (.int .i64 ((l.places.getD 1 (0, 0)).2 : Nat)) := fun W hW => ⟨(place_of hW (j := 0) (by omega)).1, (place_of hW (j := 0) (by omega)).2, (place_of hW (j := 1) (by omega)).1, (place_of hW (j := 1) (by omega)).2⟩
  have hx : ∀ j, j < 2 → (l.places.getD j (0, 0)).1 < nl := fun j hj => (hk.places (l.places.getD j (0, 0)) (by rw [List.getD_eq_getElem?_getD, List.getElem?_eq_getElem (by omega)]; exact List.getElem_mem _)).1
  have x0 := hx 0 (by omega)
  have x1 := hx 1 (by omega)
  have HA := h.below hbA
  have HPA : Hid (_) := hplA
  have HP : Hid (_) := hpl
  have PC : Hid (_) := pc
  have hd := pc _ hplA
  rw [hlen] at hbA HA hd
  rw [hlen]
  clear hx hl hk pc hpl hplA
  have b2 : (((l.op : Nat) : Int) == 2) = false := by rw [hop]; rfl
  have b3 : (((l.op : Nat) : Int) == 3) = false := by rw [hop]; rfl
  have b4 : (((l.op : Nat) : Int) == 4) = false := by rw [hop]; rfl
  have b5 : (((l.op : Nat) : Int) == 5) = false := by rw [hop]; rfl
  have b7 : (((l.op : Nat) : Int) == 7) = false := by rw [hop]; rfl
  have b8 : (((l.op : Nat) : Int) == 8) = false := by rw [hop]; rfl
  have b10 : (((l.op : Nat) : Int) == 10) = false := by rw [hop]; rfl
  have b11 : (((l.op : Nat) : Int) == 11) = false := by rw [hop]; rfl
  have b12 : (((l.op : Nat) : Int) == 12) = true := by rw [hop]; rfl
  have b14 : (((l.op : Nat) : Int) == 14) = false := by rw [hop]; rfl
  have b13 : (((l.op : Nat) : Int) == 13) = false := by rw [hop]; rfl
  have b15 : (((l.op : Nat) : Int) == 15) = false := by rw [hop]; rfl
  generalize l.places.getD 0 (0, 0) = p0 at *
  generalize l.places.getD 1 (0, 0) = p1 at *
  clear hop
  obtain ⟨d0, d1, d2, d3⟩ := hd
  have x0i : (p0.1 : Int) < 12 := by omega
  have KPA : ∀ {vm2 vt2 : Value} {W : World}, Roam x vm vt (w.alloc (.cells #[.int .i64 (l.num : Nat), .int .i64 (l.op : Nat), .slice (some ⟨g, 0, none⟩) 2 cp, .int .i64 l.number, .int .i64 l.flag, .slice an l.next.length cn] 115)) vm2 vt2 W → W.ownsRow z 119 2 (.slice (some ⟨g, 0, none⟩) l.places.length cp) l.places.length (plCells l.places) := fun hr => HA.keep (by have := HPA.out; rw [hlen] at this; rw [hlen]; exact this) (.inr rfl) hr
  have x0q : p0.1 < q.locals.length := by omega
  have x1q : p1.1 < q.locals.length := by omega
  have hin0 := halves_in (q := q) (x := p0) (n := 12) (by omega)
  have hin1 := halves_in (q := q) (x := p1) (n := 12) (by omega)
  have hlq : (QP.halvesQ q p0).length ≤ 2 := by unfold QP.halvesQ; split <;> simp
  have m3 := HA.prog
  have KH0 := fun (W : World) (hW : OAt w0 x a W o vi vm vt) => halves_any q p0 v u a W (hq.below hW.old).blk (hq.below hW.old).loc x0q
  have KH1 := fun (W : World) (hW : OAt w0 x a W o vi vm vt) => halves_any q p1 v u a W (hq.below hW.old).blk (hq.below hW.old).loc x1q
  have KM := fun (W : World) (hW : OAt w0 x a W o vi vm vt) (z1 z2 g1 g2 c1 c2 : Nat) (hP1 : PlacesAt z1 W (.slice (some ⟨g1, 0, none⟩) (QP.halvesQ q p0).length c1) (QP.halvesQ q p0)) (hP2 : PlacesAt z2 W (.slice (some ⟨g2, 0, none⟩) (QP.halvesQ q p1).length c2) (QP.halvesQ q p1)) => move_any hW hP1 hP2 hin0 hin1 (by omega) hhl hbx hs (by omega) hpw h11
  clear hhl
  clear hlen
  go_enter Tryz.func65, Tryz.ntmps65
  go_wp2
  go_region_held3 (fun W => W.cell? ⟨g, 0, none⟩ = some (.int .i64 (p0.1 : Nat)) ∧ W.cell? ⟨g, 1, none⟩ = some (.int .i64 (p0.2 : Nat)) ∧ W.cell? ⟨g, 2, none⟩ = some (.int .i64 (p1.1 : Nat)) ∧ W.cell? ⟨g, 3, none⟩ = some (.int .i64 (p1.2 : Nat)) ∧ W.cell? ⟨x, 3, none⟩ = some (.pointer (some ⟨a, 0, none⟩))) (go_keep)
    (first
    | (go_at_call 107; have _ := tk0; go_fit (KM _ hO2 _ _ g1 g2 c1 c2 hP1' hP2); rintro e w3 ⟨rfl, vm3, vt3, h3, r3⟩; obtain ⟨k0, k1, k2, k3⟩ := PC.out _ (KPA (r2a.trans r3)); have m4 := h3.prog)
    | (go_at_call 107; have _ := tk1; go_fit (KM _ hO2 _ _ g2 g1 c2 c1 hP2 hP1'); rintro e w3 ⟨rfl, vm3, vt3, h3, r3⟩; obtain ⟨k0, k1, k2, k3⟩ := PC.out _ (KPA (r2a.trans r3)); have m4 := h3.prog)
    | (go_at_call 102; have _ := tk0; go_fit (KH1 _ hO1); rintro e w2 ⟨g2, c2, rfl, hP2, h2⟩; have hO2 := hO1.below h2; have r2a := r1a.trans (Roam.of h2 (x := x) (vm := vm) (vt := vt)); obtain ⟨f0, f1, f2, f3⟩ := PC.out _ (KPA r2a); have m2 := hO2.prog; have hP1' := own_below hP1 h2)
    | (go_at_call 102; have _ := tk1; go_fit (KH0 _ hO1); rintro e w2 ⟨g2, c2, rfl, hP2, h2⟩; have hO2 := hO1.below h2; have r2a := r1a.trans (Roam.of h2 (x := x) (vm := vm) (vt := vt)); obtain ⟨f0, f1, f2, f3⟩ := PC.out _ (KPA r2a); have m2 := hO2.prog; have hP1' := own_below hP1 h2)
    | (go_at_call 102; go_fit (KH0 _ HA.drew); rintro e w1 ⟨g1, c1, rfl, hP1, h1⟩; have hO1 := HA.drew.below h1; have r1a : Roam x vm vt (w.alloc (.cells #[.int .i64 (l.num : Nat), .int .i64 (l.op : Nat), .slice (some ⟨g, 0, none⟩) 2 cp, .int .i64 l.number, .int .i64 l.flag, .slice an l.next.length cn] 115)) vm vt w1 := (Roam.of (drewed _)).trans (Roam.of h1); obtain ⟨e0, e1, e2, e3⟩ := PC.out _ (KPA r1a); have m1 := hO1.prog; have tk0 : True := trivial)
    | (go_at_call 102; go_fit (KH1 _ HA.drew); rintro e w1 ⟨g1, c1, rfl, hP1, h1⟩; have hO1 := HA.drew.below h1; have r1a : Roam x vm vt (w.alloc (.cells #[.int .i64 (l.num : Nat), .int .i64 (l.op : Nat), .slice (some ⟨g, 0, none⟩) 2 cp, .int .i64 l.number, .int .i64 l.flag, .slice an l.next.length cn] 115)) vm vt w1 := (Roam.of (drewed _)).trans (Roam.of h1); obtain ⟨e0, e1, e2, e3⟩ := PC.out _ (KPA r1a); have m1 := hO1.prog; have tk1 : True := trivial))
  all_goals go_wp2_with fail
  all_goals
    go_end0
    exact ⟨rfl, vm3, vt3, h3, ((Roam.of hbA).trans r2a).trans r3⟩
set_option maxRecDepth 20000 in
set_option maxHeartbeats 4000000 in
theorem do_some (h : OAt w0 x a w o vi vm vt) {z nl nb : Nat} {l : QLine} {ap an : Option Addr} {cp cn : Nat} (hl : LineAt z w l (.slice ap l.places.length cp) (.slice an l.next.length cn)) (hk : LOk nl nb l) (hnl : nl ≤ 12) (hop : l.op = 14) {t : Nat} (hs : o.yd.Sz t) (ht : t + 100 ≤ 9000000) (hpw : Pow w0) (h11 : 11 ≤ w0.heap.size) (hbx : o.Bx) {q : QP} {v u : Value} (hq : PQ w0 a q v u) (hnq : nl = q.locals.length) (hhl : (QP.halvesQ q (l.places.getD 0 (0, 0))).length = (QP.halvesQ q (l.places.getD 1 (0, 0))).length) :
    Calls Tryz.prog 65 #[.pointer (some ⟨x, 0, none⟩), .agg #[.int .i64 (l.num : Nat), .int .i64 (l.op : Nat), .slice ap l.places.length cp, .int .i64 l.number, .int .i64 l.flag, .slice an l.next.length cn]] w fun e w' => e = .returned (.tuple #[]) ∧ (∃ vm' vt', OAt w0 x a w' (o.move (QP.halvesQ q (l.places.getD 0 (0, 0))) (QP.halvesQ q (l.places.getD 1 (0, 0)))) vi vm' vt' ∧ Roam x vm vt w vm' vt' w') := by
  have hlen : l.places.length = 2 := by rw [hk.plen, hop]; rfl
  have hbA : Below w.heap.size w (w.alloc (.cells #[.int .i64 (l.num : Nat), .int .i64 (l.op : Nat), .slice ap l.places.length cp, .int .i64 l.number, .int .i64 l.flag, .slice an l.next.length cn] 115)) := (Below.refl _ _).alloc (Nat.le_refl _) _
  obtain ⟨g, rfl, hcp, hg, -, -⟩ := place_at hl hlen 0 (by omega)
  have hpl : w.ownsRow z 119 2 (.slice (some ⟨g, 0, none⟩) l.places.length cp) l.places.length (plCells l.places) := hl.places
  have hplA := own_below hpl hbA
  have pc : ∀ W : World, W.ownsRow z 119 2 (.slice (some ⟨g, 0, none⟩) l.places.length cp) l.places.length (plCells l.places) → W.cell? ⟨g, 0, none⟩ = some (.int .i64 ((l.places.getD 0 (0, 0)).1 : Nat)) ∧ W.cell? ⟨g, 1, none⟩ = some (.int .i64 ((l.places.getD 0 (0, 0)).2 : Nat)) ∧ W.cell? ⟨g, 2, none⟩ = some (.int .i64 ((l.places.getD 1 (0, 0)).1 : Nat)) ∧ W.cell? ⟨g, 3, none⟩ = some (.int .i64 ((l.places.getD 1 (0, 0)).2 : Nat)) := fun W hW => ⟨(place_of hW (j := 0) (by omega)).1, (place_of hW (j := 0) (by omega)).2, (place_of hW (j := 1) (by omega)).1, (place_of hW (j := 1) (by omega)).2⟩
  have hx : ∀ j, j < 2 → (l.places.getD j (0, 0)).1 < nl := fun j hj => (hk.places (l.places.getD j (0, 0)) (by rw [List.getD_eq_getElem?_getD, List.getElem?_eq_getElem (by omega)]; exact List.getElem_mem _)).1
  have x0 := hx 0 (by omega)
  have x1 := hx 1 (by omega)
  have HA := h.below hbA
  have HPA : Hid (_) := hplA
  have HP : Hid (_) := hpl
  have PC : Hid (_) := pc
  have hd := pc _ hplA
  rw [hlen] at hbA HA hd
  rw [hlen]
  clear hx hl hk pc hpl hplA
  have b2 : (((l.op : Nat) : Int) == 2) = false := by rw [hop]; rfl
  have b3 : (((l.op : Nat) : Int) == 3) = false := by rw [hop]; rfl
  have b4 : (((l.op : Nat) : Int) == 4) = false := by rw [hop]; rfl
  have b5 : (((l.op : Nat) : Int) == 5) = false := by rw [hop]; rfl
  have b7 : (((l.op : Nat) : Int) == 7) = false := by rw [hop]; rfl
  have b8 : (((l.op : Nat) : Int) == 8) = false := by rw [hop]; rfl
  have b10 : (((l.op : Nat) : Int) == 10) = false := by rw [hop]; rfl
  have b11 : (((l.op : Nat) : Int) == 11) = false := by rw [hop]; rfl
  have b12 : (((l.op : Nat) : Int) == 12) = false := by rw [hop]; rfl
  have b14 : (((l.op : Nat) : Int) == 14) = true := by rw [hop]; rfl
  have b13 : (((l.op : Nat) : Int) == 13) = false := by rw [hop]; rfl
  have b15 : (((l.op : Nat) : Int) == 15) = false := by rw [hop]; rfl
  generalize l.places.getD 0 (0, 0) = p0 at *
  generalize l.places.getD 1 (0, 0) = p1 at *
  clear hop
  obtain ⟨d0, d1, d2, d3⟩ := hd
  have x0i : (p0.1 : Int) < 12 := by omega
  have KPA : ∀ {vm2 vt2 : Value} {W : World}, Roam x vm vt (w.alloc (.cells #[.int .i64 (l.num : Nat), .int .i64 (l.op : Nat), .slice (some ⟨g, 0, none⟩) 2 cp, .int .i64 l.number, .int .i64 l.flag, .slice an l.next.length cn] 115)) vm2 vt2 W → W.ownsRow z 119 2 (.slice (some ⟨g, 0, none⟩) l.places.length cp) l.places.length (plCells l.places) := fun hr => HA.keep (by have := HPA.out; rw [hlen] at this; rw [hlen]; exact this) (.inr rfl) hr
  have x0q : p0.1 < q.locals.length := by omega
  have x1q : p1.1 < q.locals.length := by omega
  have hin0 := halves_in (q := q) (x := p0) (n := 12) (by omega)
  have hin1 := halves_in (q := q) (x := p1) (n := 12) (by omega)
  have hlq : (QP.halvesQ q p0).length ≤ 2 := by unfold QP.halvesQ; split <;> simp
  have m3 := HA.prog
  have KH0 := fun (W : World) (hW : OAt w0 x a W o vi vm vt) => halves_any q p0 v u a W (hq.below hW.old).blk (hq.below hW.old).loc x0q
  have KH1 := fun (W : World) (hW : OAt w0 x a W o vi vm vt) => halves_any q p1 v u a W (hq.below hW.old).blk (hq.below hW.old).loc x1q
  have KM := fun (W : World) (hW : OAt w0 x a W o vi vm vt) (z1 z2 g1 g2 c1 c2 : Nat) (hP1 : PlacesAt z1 W (.slice (some ⟨g1, 0, none⟩) (QP.halvesQ q p0).length c1) (QP.halvesQ q p0)) (hP2 : PlacesAt z2 W (.slice (some ⟨g2, 0, none⟩) (QP.halvesQ q p1).length c2) (QP.halvesQ q p1)) => move_any hW hP1 hP2 hin0 hin1 (by omega) hhl hbx hs (by omega) hpw h11
  clear hhl
  clear hlen
  go_enter Tryz.func65, Tryz.ntmps65
  go_wp2
  go_region_held3 (fun W => W.cell? ⟨g, 0, none⟩ = some (.int .i64 (p0.1 : Nat)) ∧ W.cell? ⟨g, 1, none⟩ = some (.int .i64 (p0.2 : Nat)) ∧ W.cell? ⟨g, 2, none⟩ = some (.int .i64 (p1.1 : Nat)) ∧ W.cell? ⟨g, 3, none⟩ = some (.int .i64 (p1.2 : Nat)) ∧ W.cell? ⟨x, 3, none⟩ = some (.pointer (some ⟨a, 0, none⟩))) (go_keep)
    (first
    | (go_at_call 107; have _ := tk0; go_fit (KM _ hO2 _ _ g1 g2 c1 c2 hP1' hP2); rintro e w3 ⟨rfl, vm3, vt3, h3, r3⟩; obtain ⟨k0, k1, k2, k3⟩ := PC.out _ (KPA (r2a.trans r3)); have m4 := h3.prog)
    | (go_at_call 107; have _ := tk1; go_fit (KM _ hO2 _ _ g2 g1 c2 c1 hP2 hP1'); rintro e w3 ⟨rfl, vm3, vt3, h3, r3⟩; obtain ⟨k0, k1, k2, k3⟩ := PC.out _ (KPA (r2a.trans r3)); have m4 := h3.prog)
    | (go_at_call 102; have _ := tk0; go_fit (KH1 _ hO1); rintro e w2 ⟨g2, c2, rfl, hP2, h2⟩; have hO2 := hO1.below h2; have r2a := r1a.trans (Roam.of h2 (x := x) (vm := vm) (vt := vt)); obtain ⟨f0, f1, f2, f3⟩ := PC.out _ (KPA r2a); have m2 := hO2.prog; have hP1' := own_below hP1 h2)
    | (go_at_call 102; have _ := tk1; go_fit (KH0 _ hO1); rintro e w2 ⟨g2, c2, rfl, hP2, h2⟩; have hO2 := hO1.below h2; have r2a := r1a.trans (Roam.of h2 (x := x) (vm := vm) (vt := vt)); obtain ⟨f0, f1, f2, f3⟩ := PC.out _ (KPA r2a); have m2 := hO2.prog; have hP1' := own_below hP1 h2)
    | (go_at_call 102; go_fit (KH0 _ HA.drew); rintro e w1 ⟨g1, c1, rfl, hP1, h1⟩; have hO1 := HA.drew.below h1; have r1a : Roam x vm vt (w.alloc (.cells #[.int .i64 (l.num : Nat), .int .i64 (l.op : Nat), .slice (some ⟨g, 0, none⟩) 2 cp, .int .i64 l.number, .int .i64 l.flag, .slice an l.next.length cn] 115)) vm vt w1 := (Roam.of (drewed _)).trans (Roam.of h1); obtain ⟨e0, e1, e2, e3⟩ := PC.out _ (KPA r1a); have m1 := hO1.prog; have tk0 : True := trivial)
    | (go_at_call 102; go_fit (KH1 _ HA.drew); rintro e w1 ⟨g1, c1, rfl, hP1, h1⟩; have hO1 := HA.drew.below h1; have r1a : Roam x vm vt (w.alloc (.cells #[.int .i64 (l.num : Nat), .int .i64 (l.op : Nat), .slice (some ⟨g, 0, none⟩) 2 cp, .int .i64 l.number, .int .i64 l.flag, .slice an l.next.length cn] 115)) vm vt w1 := (Roam.of (drewed _)).trans (Roam.of h1); obtain ⟨e0, e1, e2, e3⟩ := PC.out _ (KPA r1a); have m1 := hO1.prog; have tk1 : True := trivial))
  all_goals go_wp2_with fail
  all_goals
    go_end0
    exact ⟨rfl, vm3, vt3, h3, ((Roam.of hbA).trans r2a).trans r3⟩
end
end Go.Proofs.YtmlgajhhnojdjaaGreatDoor.Own
