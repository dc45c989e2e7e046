/- The project's bare machine: does a line take what must not be taken? -/
import Derived.Test.YtmlgajhhnojdjaaGreatDoorSBH
namespace Go.Proofs.YtmlgajhhnojdjaaGreatDoor.Ex
open Go Go.RowKit Go.Proofs.YtmlgajhhnojdjaaGreatDoor.Spec Go.Proofs.YtmlgajhhnojdjaaGreatDoor.Aux Go.Proofs.YtmlgajhhnojdjaaGreatDoor.PrjJ Go.Proofs.YtmlgajhhnojdjaaGreatDoor.PrjK Go.Proofs.YtmlgajhhnojdjaaGreatDoor.PrjL Go.Proofs.YtmlgajhhnojdjaaGreatDoor.PrjM Go.Proofs.YtmlgajhhnojdjaaGreatDoor.PrjR Go.Proofs.YtmlgajhhnojdjaaGreatDoor.PrjS Go.Proofs.YtmlgajhhnojdjaaGreatDoor.PrjT Go.Proofs.YtmlgajhhnojdjaaGreatDoor.FlwA Go.Proofs.YtmlgajhhnojdjaaGreatDoor.FlwE Go.Proofs.YtmlgajhhnojdjaaGreatDoor.Own

section
variable {x a : Nat} {w w0 : World} {vm vt vi v u : Value} {b : Br} {q : QP}
set_option maxRecDepth 20000 in
set_option maxHeartbeats 4000000 in
theorem breaks_first (h : BAt w0 x a w b vi vm vt) (hq : PQ w0 a q v u) (hls : q.locals.length ≤ 12) {z nb : Nat} {l : QLine} {ap an : Option Addr} {cp cn : Nat} (hl : LineAt z w0 l (.slice ap l.places.length cp) (.slice an l.next.length cn)) (hk : LOk q.locals.length nb l) (hop : l.op = 8 ∨ l.op = 19 ∨ l.op = 20 ∨ l.op = 22) :
    Calls Tryz.prog 73 #[.pointer (some ⟨x, 0, none⟩), .agg #[.int .i64 (l.num : Nat), .int .i64 (l.op : Nat), .slice ap l.places.length cp, .int .i64 l.number, .int .i64 l.flag, .slice an l.next.length cn]] w fun e w' => e = .returned (.bool (b.empty q [l.places.getD 0 (0, 0)])) ∧ Below w.heap.size w w' := by
  have hlen : l.places.length = 1 := by rcases hop with e | e | e | e <;> (rw [hk.plen, e]; rfl)
  obtain ⟨g, rfl, hcp, hg, c0, c1⟩ := place_at hl hlen 0 (by omega)
  have x0 := (hk.places (l.places.getD 0 (0, 0)) (by rw [List.getD_eq_getElem?_getD, List.getElem?_eq_getElem (by omega)]; exact List.getElem_mem _)).1
  have hb : ∀ W, Below w0.heap.size w0 W → (W.cell? ⟨g, 0, none⟩ = some (.int .i64 ((l.places.getD 0 (0, 0)).1 : Nat)) ∧ W.cell? ⟨g, 1, none⟩ = some (.int .i64 ((l.places.getD 0 (0, 0)).2 : Nat))) := fun W hW => ⟨(hW.cell (p := ⟨g, 0, none⟩) hg).trans c0, (hW.cell (p := ⟨g, 1, none⟩) hg).trans c1⟩
  have hbA : Below w.heap.size w (w.alloc (.cells #[.int .i64 (l.num : Nat), .int .i64 (l.op : Nat), .slice (some ⟨g, 0, none⟩) 1 cp, .int .i64 l.number, .int .i64 l.flag, .slice an l.next.length cn] 115)) := (Below.refl _ _).alloc (Nat.le_refl _) _
  have HA := h.below hbA
  obtain ⟨d0, d1⟩ := hb _ HA.old
  rw [hlen]
  have hpn := places_one (w.alloc (.cells #[.int .i64 (l.num : Nat), .int .i64 (l.op : Nat), .slice (some ⟨g, 0, none⟩) 1 cp, .int .i64 l.number, .int .i64 l.flag, .slice an l.next.length cn] 115)) (l.places.getD 0 (0, 0))
  have hbN : Below (w.alloc (.cells #[.int .i64 (l.num : Nat), .int .i64 (l.op : Nat), .slice (some ⟨g, 0, none⟩) 1 cp, .int .i64 l.number, .int .i64 l.flag, .slice an l.next.length cn] 115)).heap.size (w.alloc (.cells #[.int .i64 (l.num : Nat), .int .i64 (l.op : Nat), .slice (some ⟨g, 0, none⟩) 1 cp, .int .i64 l.number, .int .i64 l.flag, .slice an l.next.length cn] 115)) ((w.alloc (.cells #[.int .i64 (l.num : Nat), .int .i64 (l.op : Nat), .slice (some ⟨g, 0, none⟩) 1 cp, .int .i64 l.number, .int .i64 l.flag, .slice an l.next.length cn] 115)).alloc (.cells #[.int .i64 ((l.places.getD 0 (0, 0)).1 : Nat), .int .i64 ((l.places.getD 0 (0, 0)).2 : Nat)] 119)) := (Below.refl _ _).alloc (Nat.le_refl _) _
  have KE := empty_any (HA.below hbN) hq hls hpn (fun y hy => by rw [List.mem_singleton.1 hy]; exact x0)
  have hsA : (w.alloc (.cells #[.int .i64 (l.num : Nat), .int .i64 (l.op : Nat), .slice (some ⟨g, 0, none⟩) 1 cp, .int .i64 l.number, .int .i64 l.flag, .slice an l.next.length cn] 115)).heap.size = w.heap.size + 1 := by simp
  rw [hsA] at KE
  generalize b.empty q [l.places.getD 0 (0, 0)] = r at *
  have hbD : Below w.heap.size w (w.alloc (.cells #[.int .i64 (l.num : Nat), .int .i64 (l.op : Nat), .slice (some ⟨g, 0, none⟩) 1 cp, .int .i64 l.number, .int .i64 l.flag, .slice an l.next.length cn] 115)).drew := hbA.drew
  have hfs : ((((l.op : Nat) : Int) == 3) = false ∧ (((l.op : Nat) : Int) == 4) = false ∧ (((l.op : Nat) : Int) == 5) = false ∧ (((l.op : Nat) : Int) == 6) = false ∧ (((l.op : Nat) : Int) == 8) = true) ∨ ((((l.op : Nat) : Int) == 3) = false ∧ (((l.op : Nat) : Int) == 4) = false ∧ (((l.op : Nat) : Int) == 5) = false ∧ (((l.op : Nat) : Int) == 6) = false ∧ (((l.op : Nat) : Int) == 8) = false ∧ (((l.op : Nat) : Int) == 19) = true) ∨ ((((l.op : Nat) : Int) == 3) = false ∧ (((l.op : Nat) : Int) == 4) = false ∧ (((l.op : Nat) : Int) == 5) = false ∧ (((l.op : Nat) : Int) == 6) = false ∧ (((l.op : Nat) : Int) == 8) = false ∧ (((l.op : Nat) : Int) == 19) = false ∧ (((l.op : Nat) : Int) == 20) = true) ∨ ((((l.op : Nat) : Int) == 3) = false ∧ (((l.op : Nat) : Int) == 4) = false ∧ (((l.op : Nat) : Int) == 5) = false ∧ (((l.op : Nat) : Int) == 6) = false ∧ (((l.op : Nat) : Int) == 8) = false ∧ (((l.op : Nat) : Int) == 19) = false ∧ (((l.op : Nat) : Int) == 20) = false ∧ (((l.op : Nat) : Int) == 22) = true) := by
    rcases hop with e | e | e | e <;> rw [e] <;> simp
  clear hl hk hop hlen c0 c1
  generalize l.places.getD 0 (0, 0) = p0 at *
  rcases hfs with ⟨b3, b4, b5, b6, b8⟩ | ⟨b3, b4, b5, b6, b8, b19⟩ | ⟨b3, b4, b5, b6, b8, b19, b20⟩ | ⟨b3, b4, b5, b6, b8, b19, b20, b22⟩
  all_goals
    go_enter Tryz.func73, Tryz.ntmps73
    go_wp2_with (go_at_call 119; go_fit KE; rintro e w3 ⟨rfl, hb3⟩)
    go_ret
    exact ⟨rfl, hbA.trans ((hbN.trans (hb3.mono hbN.size)).mono hbA.size)⟩
set_option maxRecDepth 20000 in
set_option maxHeartbeats 4000000 in
theorem breaks_second (h : BAt w0 x a w b vi vm vt) (hq : PQ w0 a q v u) (hls : q.locals.length ≤ 12) {z nb : Nat} {l : QLine} {ap an : Option Addr} {cp cn : Nat} (hl : LineAt z w0 l (.slice ap l.places.length cp) (.slice an l.next.length cn)) (hk : LOk q.locals.length nb l) (hop : l.op = 9 ∨ l.op = 14) :
    Calls Tryz.prog 73 #[.pointer (some ⟨x, 0, none⟩), .agg #[.int .i64 (l.num : Nat), .int .i64 (l.op : Nat), .slice ap l.places.length cp, .int .i64 l.number, .int .i64 l.flag, .slice an l.next.length cn]] w fun e w' => e = .returned (.bool (b.empty q [l.places.getD 1 (0, 0)])) ∧ Below w.heap.size w w' := by
  have hlen : l.places.length = 2 := by rcases hop with e | e <;> (rw [hk.plen, e]; rfl)
  obtain ⟨g, rfl, hcp, hg, c0, c1⟩ := place_at hl hlen 0 (by omega)
  obtain ⟨g', e', -, -, c2, c3⟩ := place_at hl hlen 1 (by omega)
  simp only [Option.some.injEq, Addr.mk.injEq, and_true] at e'
  subst e'
  have x0 := (hk.places (l.places.getD 0 (0, 0)) (by rw [List.getD_eq_getElem?_getD, List.getElem?_eq_getElem (by omega)]; exact List.getElem_mem _)).1
  have x1 := (hk.places (l.places.getD 1 (0, 0)) (by rw [List.getD_eq_getElem?_getD, List.getElem?_eq_getElem (by omega)]; exact List.getElem_mem _)).1
  have hb : ∀ W, Below w0.heap.size w0 W → (W.cell? ⟨g, 0, none⟩ = some (.int .i64 ((l.places.getD 0 (0, 0)).1 : Nat)) ∧ W.cell? ⟨g, 1, none⟩ = some (.int .i64 ((l.places.getD 0 (0, 0)).2 : Nat)) ∧ W.cell? ⟨g, 2, none⟩ = some (.int .i64 ((l.places.getD 1 (0, 0)).1 : Nat)) ∧ W.cell? ⟨g, 3, none⟩ = some (.int .i64 ((l.places.getD 1 (0, 0)).2 : Nat))) := fun W hW => ⟨(hW.cell (p := ⟨g, 0, none⟩) hg).trans c0, (hW.cell (p := ⟨g, 1, none⟩) hg).trans c1, (hW.cell (p := ⟨g, 2, none⟩) hg).trans c2, (hW.cell (p := ⟨g, 3, none⟩) hg).trans c3⟩
  have hbA : Below w.heap.size w (w.alloc (.cells #[.int .i64 (l.num : Nat), .int .i64 (l.op : Nat), .slice (some ⟨g, 0, none⟩) 2 cp, .int .i64 l.number, .int .i64 l.flag, .slice an l.next.length cn] 115)) := (Below.refl _ _).alloc (Nat.le_refl _) _
  have HA := h.below hbA
  obtain ⟨d0, d1, d2, d3⟩ := hb _ HA.old
  rw [hlen]
  have hpn := places_one (w.alloc (.cells #[.int .i64 (l.num : Nat), .int .i64 (l.op : Nat), .slice (some ⟨g, 0, none⟩) 2 cp, .int .i64 l.number, .int .i64 l.flag, .slice an l.next.length cn] 115)) (l.places.getD 1 (0, 0))
  have hbN : Below (w.alloc (.cells #[.int .i64 (l.num : Nat), .int .i64 (l.op : Nat), .slice (some ⟨g, 0, none⟩) 2 cp, .int .i64 l.number, .int .i64 l.flag, .slice an l.next.length cn] 115)).heap.size (w.alloc (.cells #[.int .i64 (l.num : Nat), .int .i64 (l.op : Nat), .slice (some ⟨g, 0, none⟩) 2 cp, .int .i64 l.number, .int .i64 l.flag, .slice an l.next.length cn] 115)) ((w.alloc (.cells #[.int .i64 (l.num : Nat), .int .i64 (l.op : Nat), .slice (some ⟨g, 0, none⟩) 2 cp, .int .i64 l.number, .int .i64 l.flag, .slice an l.next.length cn] 115)).alloc (.cells #[.int .i64 ((l.places.getD 1 (0, 0)).1 : Nat), .int .i64 ((l.places.getD 1 (0, 0)).2 : Nat)] 119)) := (Below.refl _ _).alloc (Nat.le_refl _) _
  have KE := empty_any (HA.below hbN) hq hls hpn (fun y hy => by rw [List.mem_singleton.1 hy]; exact x1)
  have hsA : (w.alloc (.cells #[.int .i64 (l.num : Nat), .int .i64 (l.op : Nat), .slice (some ⟨g, 0, none⟩) 2 cp, .int .i64 l.number, .int .i64 l.flag, .slice an l.next.length cn] 115)).heap.size = w.heap.size + 1 := by simp
  rw [hsA] at KE
  generalize b.empty q [l.places.getD 1 (0, 0)] = r at *
  have hbD : Below w.heap.size w (w.alloc (.cells #[.int .i64 (l.num : Nat), .int .i64 (l.op : Nat), .slice (some ⟨g, 0, none⟩) 2 cp, .int .i64 l.number, .int .i64 l.flag, .slice an l.next.length cn] 115)).drew := hbA.drew
  have hfs : ((((l.op : Nat) : Int) == 3) = false ∧ (((l.op : Nat) : Int) == 4) = false ∧ (((l.op : Nat) : Int) == 5) = false ∧ (((l.op : Nat) : Int) == 6) = false ∧ (((l.op : Nat) : Int) == 8) = false ∧ (((l.op : Nat) : Int) == 19) = false ∧ (((l.op : Nat) : Int) == 20) = false ∧ (((l.op : Nat) : Int) == 22) = false ∧ (((l.op : Nat) : Int) == 9) = true) ∨ ((((l.op : Nat) : Int) == 3) = false ∧ (((l.op : Nat) : Int) == 4) = false ∧ (((l.op : Nat) : Int) == 5) = false ∧ (((l.op : Nat) : Int) == 6) = false ∧ (((l.op : Nat) : Int) == 8) = false ∧ (((l.op : Nat) : Int) == 19) = false ∧ (((l.op : Nat) : Int) == 20) = false ∧ (((l.op : Nat) : Int) == 22) = false ∧ (((l.op : Nat) : Int) == 9) = false ∧ (((l.op : Nat) : Int) == 14) = true) := by
    rcases hop with e | e <;> rw [e] <;> simp
  clear hl hk hop hlen c0 c1 c2 c3
  generalize l.places.getD 0 (0, 0) = p0 at *
  generalize l.places.getD 1 (0, 0) = p1 at *
  rcases hfs with ⟨b3, b4, b5, b6, b8, b19, b20, b22, b9⟩ | ⟨b3, b4, b5, b6, b8, b19, b20, b22, b9, b14⟩
  all_goals
    go_enter Tryz.func73, Tryz.ntmps73
    go_wp2_with (go_at_call 119; go_fit KE; rintro e w3 ⟨rfl, hb3⟩)
    go_ret
    exact ⟨rfl, hbA.trans ((hbN.trans (hb3.mono hbN.size)).mono hbA.size)⟩
set_option maxRecDepth 20000 in
set_option maxHeartbeats 4000000 in
theorem breaks_two (h : BAt w0 x a w b vi vm vt) (hq : PQ w0 a q v u) (hls : q.locals.length ≤ 12) {z nb : Nat} {l : QLine} {ap an : Option Addr} {cp cn : Nat} (hl : LineAt z w0 l (.slice ap l.places.length cp) (.slice an l.next.length cn)) (hk : LOk q.locals.length nb l) (hop : l.op = 3 ∨ l.op = 4 ∨ l.op = 5 ∨ l.op = 6) :
    Calls Tryz.prog 73 #[.pointer (some ⟨x, 0, none⟩), .agg #[.int .i64 (l.num : Nat), .int .i64 (l.op : Nat), .slice ap l.places.length cp, .int .i64 l.number, .int .i64 l.flag, .slice an l.next.length cn]] w fun e w' => e = .returned (.bool (b.empty q [l.places.getD 1 (0, 0), l.places.getD 2 (0, 0)])) ∧ Below w.heap.size w w' := by
  have hlen : l.places.length = 3 := by rcases hop with e | e | e | e <;> (rw [hk.plen, e]; rfl)
  obtain ⟨g, rfl, hcp, hg, c0, c1⟩ := place_at hl hlen 0 (by omega)
  obtain ⟨g', e', -, -, c2, c3⟩ := place_at hl hlen 1 (by omega)
  simp only [Option.some.injEq, Addr.mk.injEq, and_true] at e'
  subst e'
  obtain ⟨g', e', -, -, c4, c5⟩ := place_at hl hlen 2 (by omega)
  simp only [Option.some.injEq, Addr.mk.injEq, and_true] at e'
  subst e'
  have x0 := (hk.places (l.places.getD 0 (0, 0)) (by rw [List.getD_eq_getElem?_getD, List.getElem?_eq_getElem (by omega)]; exact List.getElem_mem _)).1
  have x1 := (hk.places (l.places.getD 1 (0, 0)) (by rw [List.getD_eq_getElem?_getD, List.getElem?_eq_getElem (by omega)]; exact List.getElem_mem _)).1
  have x2 := (hk.places (l.places.getD 2 (0, 0)) (by rw [List.getD_eq_getElem?_getD, List.getElem?_eq_getElem (by omega)]; exact List.getElem_mem _)).1
  have hb : ∀ W, Below w0.heap.size w0 W → (W.cell? ⟨g, 0, none⟩ = some (.int .i64 ((l.places.getD 0 (0, 0)).1 : Nat)) ∧ W.cell? ⟨g, 1, none⟩ = some (.int .i64 ((l.places.getD 0 (0, 0)).2 : Nat)) ∧ W.cell? ⟨g, 2, none⟩ = some (.int .i64 ((l.places.getD 1 (0, 0)).1 : Nat)) ∧ W.cell? ⟨g, 3, none⟩ = some (.int .i64 ((l.places.getD 1 (0, 0)).2 : Nat)) ∧ W.cell? ⟨g, 4, none⟩ = some (.int .i64 ((l.places.getD 2 (0, 0)).1 : Nat)) ∧ W.cell? ⟨g, 5, none⟩ = some (.int .i64 ((l.places.getD 2 (0, 0)).2 : Nat))) := fun W hW => ⟨(hW.cell (p := ⟨g, 0, none⟩) hg).trans c0, (hW.cell (p := ⟨g, 1, none⟩) hg).trans c1, (hW.cell (p := ⟨g, 2, none⟩) hg).trans c2, (hW.cell (p := ⟨g, 3, none⟩) hg).trans c3, (hW.cell (p := ⟨g, 4, none⟩) hg).trans c4, (hW.cell (p := ⟨g, 5, none⟩) hg).trans c5⟩
  have hbA : Below w.heap.size w (w.alloc (.cells #[.int .i64 (l.num : Nat), .int .i64 (l.op : Nat), .slice (some ⟨g, 0, none⟩) 3 cp, .int .i64 l.number, .int .i64 l.flag, .slice an l.next.length cn] 115)) := (Below.refl _ _).alloc (Nat.le_refl _) _
  have HA := h.below hbA
  obtain ⟨d0, d1, d2, d3, d4, d5⟩ := hb _ HA.old
  rw [hlen]
  have hpn := places_new (w.alloc (.cells #[.int .i64 (l.num : Nat), .int .i64 (l.op : Nat), .slice (some ⟨g, 0, none⟩) 3 cp, .int .i64 l.number, .int .i64 l.flag, .slice an l.next.length cn] 115)) [l.places.getD 1 (0, 0), l.places.getD 2 (0, 0)] (by simp)
  have hbN : Below (w.alloc (.cells #[.int .i64 (l.num : Nat), .int .i64 (l.op : Nat), .slice (some ⟨g, 0, none⟩) 3 cp, .int .i64 l.number, .int .i64 l.flag, .slice an l.next.length cn] 115)).heap.size (w.alloc (.cells #[.int .i64 (l.num : Nat), .int .i64 (l.op : Nat), .slice (some ⟨g, 0, none⟩) 3 cp, .int .i64 l.number, .int .i64 l.flag, .slice an l.next.length cn] 115)) ((w.alloc (.cells #[.int .i64 (l.num : Nat), .int .i64 (l.op : Nat), .slice (some ⟨g, 0, none⟩) 3 cp, .int .i64 l.number, .int .i64 l.flag, .slice an l.next.length cn] 115)).alloc (.cells (plCells [l.places.getD 1 (0, 0), l.places.getD 2 (0, 0)]).toArray 119)).drew := ((Below.refl _ _).alloc (Nat.le_refl _) _).drew
  have KE : Calls Tryz.prog 119 #[.pointer (some ⟨x, 0, none⟩), .slice (some ⟨(w.alloc (.cells #[.int .i64 (l.num : Nat), .int .i64 (l.op : Nat), .slice (some ⟨g, 0, none⟩) 3 cp, .int .i64 l.number, .int .i64 l.flag, .slice an l.next.length cn] 115)).heap.size, 0, none⟩) 2 2] ((w.alloc (.cells #[.int .i64 (l.num : Nat), .int .i64 (l.op : Nat), .slice (some ⟨g, 0, none⟩) 3 cp, .int .i64 l.number, .int .i64 l.flag, .slice an l.next.length cn] 115)).alloc (.cells #[.int .i64 ((l.places.getD 1 (0, 0)).1 : Nat), .int .i64 ((l.places.getD 1 (0, 0)).2 : Nat), .int .i64 ((l.places.getD 2 (0, 0)).1 : Nat), .int .i64 ((l.places.getD 2 (0, 0)).2 : Nat)] 119)).drew _ := empty_any (HA.below hbN) hq hls (own_below hpn ((Below.refl _ _).drew)) (fun y hy => by
    simp only [List.mem_cons, List.not_mem_nil, or_false] at hy
    rcases hy with rfl | rfl
    · exact x1
    · exact x2)
  have hsA : (w.alloc (.cells #[.int .i64 (l.num : Nat), .int .i64 (l.op : Nat), .slice (some ⟨g, 0, none⟩) 3 cp, .int .i64 l.number, .int .i64 l.flag, .slice an l.next.length cn] 115)).heap.size = w.heap.size + 1 := by simp
  rw [hsA] at KE
  generalize b.empty q [l.places.getD 1 (0, 0), l.places.getD 2 (0, 0)] = r at *
  have hbD : Below w.heap.size w (w.alloc (.cells #[.int .i64 (l.num : Nat), .int .i64 (l.op : Nat), .slice (some ⟨g, 0, none⟩) 3 cp, .int .i64 l.number, .int .i64 l.flag, .slice an l.next.length cn] 115)).drew := hbA.drew
  have hfs : ((((l.op : Nat) : Int) == 3) = true) ∨ ((((l.op : Nat) : Int) == 3) = false ∧ (((l.op : Nat) : Int) == 4) = true) ∨ ((((l.op : Nat) : Int) == 3) = false ∧ (((l.op : Nat) : Int) == 4) = false ∧ (((l.op : Nat) : Int) == 5) = true) ∨ ((((l.op : Nat) : Int) == 3) = false ∧ (((l.op : Nat) : Int) == 4) = false ∧ (((l.op : Nat) : Int) == 5) = false ∧ (((l.op : Nat) : Int) == 6) = true) := by
    rcases hop with e | e | e | e <;> rw [e] <;> simp
  clear hl hk hop hlen c0 c1 c2 c3 c4 c5
  generalize l.places.getD 0 (0, 0) = p0 at *
  generalize l.places.getD 1 (0, 0) = p1 at *
  generalize l.places.getD 2 (0, 0) = p2 at *
  rcases hfs with b3 | ⟨b3, b4⟩ | ⟨b3, b4, b5⟩ | ⟨b3, b4, b5, b6⟩
  all_goals
    go_enter Tryz.func73, Tryz.ntmps73
    go_upto_region 7 with fail
    go_region_held3 (fun W' => W'.cell? ⟨g, 2, none⟩ = some (.int .i64 (p1.1 : Nat)) ∧ W'.cell? ⟨g, 3, none⟩ = some (.int .i64 (p1.2 : Nat)) ∧ W'.cell? ⟨g, 4, none⟩ = some (.int .i64 (p2.1 : Nat)) ∧ W'.cell? ⟨g, 5, none⟩ = some (.int .i64 (p2.2 : Nat))) (go_keep)
      (first
      | (go_at_call 119; go_fit KE; rintro e w3 ⟨rfl, hb3⟩; have hB3 := hbA.trans ((hbN.trans (hb3.mono hbN.size)).mono hbA.size); obtain ⟨o0, o1, o2, o3, o4, o5⟩ := hb _ (h.below hB3).old))
    all_goals go_wp2_with fail
    all_goals
      go_ret
      exact ⟨rfl, hB3⟩
set_option maxRecDepth 20000 in
set_option maxHeartbeats 4000000 in
theorem breaks_move (h : BAt w0 x a w b vi vm vt) (hq : PQ w0 a q v u) (hls : q.locals.length ≤ 12) {z nb : Nat} {l : QLine} {ap an : Option Addr} {cp cn : Nat} (hl : LineAt z w0 l (.slice ap l.places.length cp) (.slice an l.next.length cn)) (hk : LOk q.locals.length nb l) (hop : l.op = 12) :
    Calls Tryz.prog 73 #[.pointer (some ⟨x, 0, none⟩), .agg #[.int .i64 (l.num : Nat), .int .i64 (l.op : Nat), .slice ap l.places.length cp, .int .i64 l.number, .int .i64 l.flag, .slice an l.next.length cn]] w fun e w' => e = .returned (.bool (b.empty q (QP.halvesQ q (l.places.getD 1 (0, 0))))) ∧ Below w.heap.size w w' := by
  have hlen : l.places.length = 2 := by rw [hk.plen, hop]; rfl
  obtain ⟨g, rfl, hcp, hg, c0, c1⟩ := place_at hl hlen 0 (by omega)
  obtain ⟨g', e', -, -, c2, c3⟩ := place_at hl hlen 1 (by omega)
  simp only [Option.some.injEq, Addr.mk.injEq, and_true] at e'
  subst e'
  have x0 := (hk.places (l.places.getD 0 (0, 0)) (by rw [List.getD_eq_getElem?_getD, List.getElem?_eq_getElem (by omega)]; exact List.getElem_mem _)).1
  have x1 := (hk.places (l.places.getD 1 (0, 0)) (by rw [List.getD_eq_getElem?_getD, List.getElem?_eq_getElem (by omega)]; exact List.getElem_mem _)).1
  have hb : ∀ W, Below w0.heap.size w0 W → (W.cell? ⟨g, 0, none⟩ = some (.int .i64 ((l.places.getD 0 (0, 0)).1 : Nat)) ∧ W.cell? ⟨g, 1, none⟩ = some (.int .i64 ((l.places.getD 0 (0, 0)).2 : Nat)) ∧ W.cell? ⟨g, 2, none⟩ = some (.int .i64 ((l.places.getD 1 (0, 0)).1 : Nat)) ∧ W.cell? ⟨g, 3, none⟩ = some (.int .i64 ((l.places.getD 1 (0, 0)).2 : Nat))) := fun W hW => ⟨(hW.cell (p := ⟨g, 0, none⟩) hg).trans c0, (hW.cell (p := ⟨g, 1, none⟩) hg).trans c1, (hW.cell (p := ⟨g, 2, none⟩) hg).trans c2, (hW.cell (p := ⟨g, 3, none⟩) hg).trans c3⟩
  have hbA : Below w.heap.size w (w.alloc (.cells #[.int .i64 (l.num : Nat), .int .i64 (l.op : Nat), .slice (some ⟨g, 0, none⟩) 2 cp, .int .i64 l.number, .int .i64 l.flag, .slice an l.next.length cn] 115)) := (Below.refl _ _).alloc (Nat.le_refl _) _
  have HA := h.below hbA
  obtain ⟨d0, d1, d2, d3⟩ := hb _ HA.old
  rw [hlen]
  have KH := fun (W : World) (hb : Below w.heap.size w W) => halves_any q (l.places.getD 1 (0, 0)) v u a W (hq.below (h.below hb).old).blk (hq.below (h.below hb).old).loc x1
  have KE := fun (W : World) (hb : Below w.heap.size w W) (z n c : Nat) (ad : Option Addr) (hp : PlacesAt z W (.slice ad n c) (QP.halvesQ q (l.places.getD 1 (0, 0)))) => empty_any (h.below hb) hq hls hp (halves_lt q _ x1)
  generalize QP.halvesQ q (l.places.getD 1 (0, 0)) = hs at *
  generalize b.empty q hs = r at *
  have hbD : Below w.heap.size w (w.alloc (.cells #[.int .i64 (l.num : Nat), .int .i64 (l.op : Nat), .slice (some ⟨g, 0, none⟩) 2 cp, .int .i64 l.number, .int .i64 l.flag, .slice an l.next.length cn] 115)).drew := hbA.drew
  have hfs : ((((l.op : Nat) : Int) == 3) = false ∧ (((l.op : Nat) : Int) == 4) = false ∧ (((l.op : Nat) : Int) == 5) = false ∧ (((l.op : Nat) : Int) == 6) = false ∧ (((l.op : Nat) : Int) == 8) = false ∧ (((l.op : Nat) : Int) == 19) = false ∧ (((l.op : Nat) : Int) == 20) = false ∧ (((l.op : Nat) : Int) == 22) = false ∧ (((l.op : Nat) : Int) == 9) = false ∧ (((l.op : Nat) : Int) == 14) = false ∧ (((l.op : Nat) : Int) == 12) = true) := by
    rw [hop]; simp
  clear hl hk hop hlen c0 c1 c2 c3
  generalize l.places.getD 0 (0, 0) = p0 at *
  generalize l.places.getD 1 (0, 0) = p1 at *
  obtain ⟨b3, b4, b5, b6, b8, b19, b20, b22, b9, b14, b12⟩ := hfs
  go_enter Tryz.func73, Tryz.ntmps73
  have c3 := HA.prog
  go_upto_region 17 with fail
  go_region_held3 (fun W' => W'.cell? ⟨g, 2, none⟩ = some (.int .i64 (p1.1 : Nat)) ∧ W'.cell? ⟨g, 3, none⟩ = some (.int .i64 (p1.2 : Nat)) ∧ W'.cell? ⟨x, 3, none⟩ = some (.pointer (some ⟨a, 0, none⟩))) (go_keep)
    (first
    | (go_at_call 102; go_fit (KH _ hbD); rintro e w3 ⟨g3, k3, rfl, hP3, hb3'⟩; have hb3 := hbD.trans (hb3'.mono hbD.size); obtain ⟨o0, o1, o2, o3⟩ := hb _ (h.below hb3).old; have c4 := (h.below hb3).prog)
    | (go_at_call 119; go_fit (KE _ hb3 _ _ _ _ hP3); rintro e w4 ⟨rfl, hb4'⟩; have hb4 := hb3.trans (hb4'.mono hb3.size); obtain ⟨z0, z1, z2, z3⟩ := hb _ (h.below hb4).old; have c5 := (h.below hb4).prog))
  all_goals go_wp2_with fail
  all_goals
    go_ret
    exact ⟨rfl, hb4⟩
set_option maxRecDepth 20000 in
set_option maxHeartbeats 4000000 in
theorem breaks_load (h : BAt w0 x a w b vi vm vt) (hq : PQ w0 a q v u) (hls : q.locals.length ≤ 12) {z nb : Nat} {l : QLine} {ap an : Option Addr} {cp cn : Nat} (hl : LineAt z w0 l (.slice ap l.places.length cp) (.slice an l.next.length cn)) (hk : LOk q.locals.length nb l) (hop : l.op = 10) (ho : b.yd.Ok) (hbx : (b.cell q (l.places.getD 1 (0, 0))).1 = true → 1 ≤ b.val q (l.places.getD 1 (0, 0)) ∧ b.val q (l.places.getD 1 (0, 0)) ≤ b.yd.made.length) :
    Calls Tryz.prog 73 #[.pointer (some ⟨x, 0, none⟩), .agg #[.int .i64 (l.num : Nat), .int .i64 (l.op : Nat), .slice ap l.places.length cp, .int .i64 l.number, .int .i64 l.flag, .slice an l.next.length cn]] w fun e w' => e = .returned (.bool (b.dead q (l.places.getD 1 (0, 0)))) ∧ Below w.heap.size w w' := by
  have hlen : l.places.length = 2 := by rw [hk.plen, hop]; rfl
  obtain ⟨g, rfl, hcp, hg, c0, c1⟩ := place_at hl hlen 0 (by omega)
  obtain ⟨g', e', -, -, c2, c3⟩ := place_at hl hlen 1 (by omega)
  simp only [Option.some.injEq, Addr.mk.injEq, and_true] at e'
  subst e'
  have x0 := (hk.places (l.places.getD 0 (0, 0)) (by rw [List.getD_eq_getElem?_getD, List.getElem?_eq_getElem (by omega)]; exact List.getElem_mem _)).1
  have x1 := (hk.places (l.places.getD 1 (0, 0)) (by rw [List.getD_eq_getElem?_getD, List.getElem?_eq_getElem (by omega)]; exact List.getElem_mem _)).1
  have hb : ∀ W, Below w0.heap.size w0 W → (W.cell? ⟨g, 0, none⟩ = some (.int .i64 ((l.places.getD 0 (0, 0)).1 : Nat)) ∧ W.cell? ⟨g, 1, none⟩ = some (.int .i64 ((l.places.getD 0 (0, 0)).2 : Nat)) ∧ W.cell? ⟨g, 2, none⟩ = some (.int .i64 ((l.places.getD 1 (0, 0)).1 : Nat)) ∧ W.cell? ⟨g, 3, none⟩ = some (.int .i64 ((l.places.getD 1 (0, 0)).2 : Nat))) := fun W hW => ⟨(hW.cell (p := ⟨g, 0, none⟩) hg).trans c0, (hW.cell (p := ⟨g, 1, none⟩) hg).trans c1, (hW.cell (p := ⟨g, 2, none⟩) hg).trans c2, (hW.cell (p := ⟨g, 3, none⟩) hg).trans c3⟩
  have hbA : Below w.heap.size w (w.alloc (.cells #[.int .i64 (l.num : Nat), .int .i64 (l.op : Nat), .slice (some ⟨g, 0, none⟩) 2 cp, .int .i64 l.number, .int .i64 l.flag, .slice an l.next.length cn] 115)) := (Below.refl _ _).alloc (Nat.le_refl _) _
  have HA := h.below hbA
  obtain ⟨d0, d1, d2, d3⟩ := hb _ HA.old
  rw [hlen]
  have KD := dead_any HA hq hls (l.places.getD 1 (0, 0)) x1 ho hbx
  generalize b.dead q (l.places.getD 1 (0, 0)) = r at *
  clear hbx
  have hbD : Below w.heap.size w (w.alloc (.cells #[.int .i64 (l.num : Nat), .int .i64 (l.op : Nat), .slice (some ⟨g, 0, none⟩) 2 cp, .int .i64 l.number, .int .i64 l.flag, .slice an l.next.length cn] 115)).drew := hbA.drew
  have hfs : ((((l.op : Nat) : Int) == 3) = false ∧ (((l.op : Nat) : Int) == 4) = false ∧ (((l.op : Nat) : Int) == 5) = false ∧ (((l.op : Nat) : Int) == 6) = false ∧ (((l.op : Nat) : Int) == 8) = false ∧ (((l.op : Nat) : Int) == 19) = false ∧ (((l.op : Nat) : Int) == 20) = false ∧ (((l.op : Nat) : Int) == 22) = false ∧ (((l.op : Nat) : Int) == 9) = false ∧ (((l.op : Nat) : Int) == 14) = false ∧ (((l.op : Nat) : Int) == 12) = false ∧ (((l.op : Nat) : Int) == 10) = true) := by
    rw [hop]; simp
  clear hl hk hop hlen c0 c1 c2 c3
  generalize l.places.getD 0 (0, 0) = p0 at *
  generalize l.places.getD 1 (0, 0) = p1 at *
  obtain ⟨b3, b4, b5, b6, b8, b19, b20, b22, b9, b14, b12, b10⟩ := hfs
  go_enter Tryz.func73, Tryz.ntmps73
  go_wp2_with (go_at_call 120; go_fit KD; rintro e w3 ⟨rfl, hb3⟩)
  go_ret
  exact ⟨rfl, hbA.trans (hb3.mono hbA.size)⟩
set_option maxRecDepth 20000 in
set_option maxHeartbeats 4000000 in
theorem breaks_free (h : BAt w0 x a w b vi vm vt) (hq : PQ w0 a q v u) (hls : q.locals.length ≤ 12) {z nb : Nat} {l : QLine} {ap an : Option Addr} {cp cn : Nat} (hl : LineAt z w0 l (.slice ap l.places.length cp) (.slice an l.next.length cn)) (hk : LOk q.locals.length nb l) (hop : l.op = 16) (ho : b.yd.Ok) (hbx : (b.cell q (l.places.getD 0 (0, 0))).1 = true → 1 ≤ b.val q (l.places.getD 0 (0, 0)) ∧ b.val q (l.places.getD 0 (0, 0)) ≤ b.yd.made.length) :
    Calls Tryz.prog 73 #[.pointer (some ⟨x, 0, none⟩), .agg #[.int .i64 (l.num : Nat), .int .i64 (l.op : Nat), .slice ap l.places.length cp, .int .i64 l.number, .int .i64 l.flag, .slice an l.next.length cn]] w fun e w' => e = .returned (.bool (b.dead q (l.places.getD 0 (0, 0)))) ∧ Below w.heap.size w w' := by
  have hlen : l.places.length = 1 := by rw [hk.plen, hop]; rfl
  obtain ⟨g, rfl, hcp, hg, c0, c1⟩ := place_at hl hlen 0 (by omega)
  have x0 := (hk.places (l.places.getD 0 (0, 0)) (by rw [List.getD_eq_getElem?_getD, List.getElem?_eq_getElem (by omega)]; exact List.getElem_mem _)).1
  have hb : ∀ W, Below w0.heap.size w0 W → (W.cell? ⟨g, 0, none⟩ = some (.int .i64 ((l.places.getD 0 (0, 0)).1 : Nat)) ∧ W.cell? ⟨g, 1, none⟩ = some (.int .i64 ((l.places.getD 0 (0, 0)).2 : Nat))) := fun W hW => ⟨(hW.cell (p := ⟨g, 0, none⟩) hg).trans c0, (hW.cell (p := ⟨g, 1, none⟩) hg).trans c1⟩
  have hbA : Below w.heap.size w (w.alloc (.cells #[.int .i64 (l.num : Nat), .int .i64 (l.op : Nat), .slice (some ⟨g, 0, none⟩) 1 cp, .int .i64 l.number, .int .i64 l.flag, .slice an l.next.length cn] 115)) := (Below.refl _ _).alloc (Nat.le_refl _) _
  have HA := h.below hbA
  obtain ⟨d0, d1⟩ := hb _ HA.old
  rw [hlen]
  have KD := dead_any HA hq hls (l.places.getD 0 (0, 0)) x0 ho hbx
  generalize b.dead q (l.places.getD 0 (0, 0)) = r at *
  clear hbx
  have hbD : Below w.heap.size w (w.alloc (.cells #[.int .i64 (l.num : Nat), .int .i64 (l.op : Nat), .slice (some ⟨g, 0, none⟩) 1 cp, .int .i64 l.number, .int .i64 l.flag, .slice an l.next.length cn] 115)).drew := hbA.drew
  have hfs : ((((l.op : Nat) : Int) == 3) = false ∧ (((l.op : Nat) : Int) == 4) = false ∧ (((l.op : Nat) : Int) == 5) = false ∧ (((l.op : Nat) : Int) == 6) = false ∧ (((l.op : Nat) : Int) == 8) = false ∧ (((l.op : Nat) : Int) == 19) = false ∧ (((l.op : Nat) : Int) == 20) = false ∧ (((l.op : Nat) : Int) == 22) = false ∧ (((l.op : Nat) : Int) == 9) = false ∧ (((l.op : Nat) : Int) == 14) = false ∧ (((l.op : Nat) : Int) == 12) = false ∧ (((l.op : Nat) : Int) == 10) = false ∧ (((l.op : Nat) : Int) == 11) = false ∧ (((l.op : Nat) : Int) == 16) = true) := by
    rw [hop]; simp
  clear hl hk hop hlen c0 c1
  generalize l.places.getD 0 (0, 0) = p0 at *
  obtain ⟨b3, b4, b5, b6, b8, b19, b20, b22, b9, b14, b12, b10, b11, b16⟩ := hfs
  go_enter Tryz.func73, Tryz.ntmps73
  go_wp2_with (go_at_call 120; go_fit KD; rintro e w3 ⟨rfl, hb3⟩)
  go_ret
  exact ⟨rfl, hbA.trans (hb3.mono hbA.size)⟩
set_option maxRecDepth 20000 in
set_option maxHeartbeats 4000000 in
theorem breaks_store (h : BAt w0 x a w b vi vm vt) (hq : PQ w0 a q v u) (hls : q.locals.length ≤ 12) {z nb : Nat} {l : QLine} {ap an : Option Addr} {cp cn : Nat} (hl : LineAt z w0 l (.slice ap l.places.length cp) (.slice an l.next.length cn)) (hk : LOk q.locals.length nb l) (hop : l.op = 11) (ho : b.yd.Ok) (hbx : (b.cell q (l.places.getD 0 (0, 0))).1 = true → 1 ≤ b.val q (l.places.getD 0 (0, 0)) ∧ b.val q (l.places.getD 0 (0, 0)) ≤ b.yd.made.length) :
    Calls Tryz.prog 73 #[.pointer (some ⟨x, 0, none⟩), .agg #[.int .i64 (l.num : Nat), .int .i64 (l.op : Nat), .slice ap l.places.length cp, .int .i64 l.number, .int .i64 l.flag, .slice an l.next.length cn]] w fun e w' => e = .returned (.bool (b.dead q (l.places.getD 0 (0, 0)) || b.empty q [l.places.getD 1 (0, 0)])) ∧ Below w.heap.size w w' := by
  have hlen : l.places.length = 2 := by rw [hk.plen, hop]; rfl
  obtain ⟨g, rfl, hcp, hg, c0, c1⟩ := place_at hl hlen 0 (by omega)
  obtain ⟨g', e', -, -, c2, c3⟩ := place_at hl hlen 1 (by omega)
  simp only [Option.some.injEq, Addr.mk.injEq, and_true] at e'
  subst e'
  have x0 := (hk.places (l.places.getD 0 (0, 0)) (by rw [List.getD_eq_getElem?_getD, List.getElem?_eq_getElem (by omega)]; exact List.getElem_mem _)).1
  have x1 := (hk.places (l.places.getD 1 (0, 0)) (by rw [List.getD_eq_getElem?_getD, List.getElem?_eq_getElem (by omega)]; exact List.getElem_mem _)).1
  have hb : ∀ W, Below w0.heap.size w0 W → (W.cell? ⟨g, 0, none⟩ = some (.int .i64 ((l.places.getD 0 (0, 0)).1 : Nat)) ∧ W.cell? ⟨g, 1, none⟩ = some (.int .i64 ((l.places.getD 0 (0, 0)).2 : Nat)) ∧ W.cell? ⟨g, 2, none⟩ = some (.int .i64 ((l.places.getD 1 (0, 0)).1 : Nat)) ∧ W.cell? ⟨g, 3, none⟩ = some (.int .i64 ((l.places.getD 1 (0, 0)).2 : Nat))) := fun W hW => ⟨(hW.cell (p := ⟨g, 0, none⟩) hg).trans c0, (hW.cell (p := ⟨g, 1, none⟩) hg).trans c1, (hW.cell (p := ⟨g, 2, none⟩) hg).trans c2, (hW.cell (p := ⟨g, 3, none⟩) hg).trans c3⟩
  have hbA : Below w.heap.size w (w.alloc (.cells #[.int .i64 (l.num : Nat), .int .i64 (l.op : Nat), .slice (some ⟨g, 0, none⟩) 2 cp, .int .i64 l.number, .int .i64 l.flag, .slice an l.next.length cn] 115)) := (Below.refl _ _).alloc (Nat.le_refl _) _
  have HA := h.below hbA
  obtain ⟨d0, d1, d2, d3⟩ := hb _ HA.old
  rw [hlen]
  have KD := dead_any HA hq hls (l.places.getD 0 (0, 0)) x0 ho hbx
  have KE := fun (W : World) (hb : Below w.heap.size w W) => empty_any ((h.below hb).below ((Below.refl _ _).alloc (Nat.le_refl _) _)) hq hls (places_one W (l.places.getD 1 (0, 0))) (fun y hy => by rw [List.mem_singleton.1 hy]; exact x1)
  generalize b.empty q [l.places.getD 1 (0, 0)] = r at *
  generalize b.dead q (l.places.getD 0 (0, 0)) = d at *
  clear hbx
  have hbD : Below w.heap.size w (w.alloc (.cells #[.int .i64 (l.num : Nat), .int .i64 (l.op : Nat), .slice (some ⟨g, 0, none⟩) 2 cp, .int .i64 l.number, .int .i64 l.flag, .slice an l.next.length cn] 115)).drew := hbA.drew
  have hfs : ((((l.op : Nat) : Int) == 3) = false ∧ (((l.op : Nat) : Int) == 4) = false ∧ (((l.op : Nat) : Int) == 5) = false ∧ (((l.op : Nat) : Int) == 6) = false ∧ (((l.op : Nat) : Int) == 8) = false ∧ (((l.op : Nat) : Int) == 19) = false ∧ (((l.op : Nat) : Int) == 20) = false ∧ (((l.op : Nat) : Int) == 22) = false ∧ (((l.op : Nat) : Int) == 9) = false ∧ (((l.op : Nat) : Int) == 14) = false ∧ (((l.op : Nat) : Int) == 12) = false ∧ (((l.op : Nat) : Int) == 10) = false ∧ (((l.op : Nat) : Int) == 11) = true) := by
    rw [hop]; simp
  clear hl hk hop hlen c0 c1 c2 c3
  generalize l.places.getD 0 (0, 0) = p0 at *
  generalize l.places.getD 1 (0, 0) = p1 at *
  obtain ⟨b3, b4, b5, b6, b8, b19, b20, b22, b9, b14, b12, b10, b11⟩ := hfs
  go_enter Tryz.func73, Tryz.ntmps73
  cases d
  · go_wp2_with (first
      | (go_at_call 120; go_fit KD; rintro e w3 ⟨rfl, hb3'⟩; have hb3 := hbA.trans (hb3'.mono hbA.size); obtain ⟨o0, o1, o2, o3⟩ := hb _ (h.below hb3).old)
      | (go_at_call 119; go_fit (KE _ hb3); rintro e w4 ⟨rfl, hb4⟩))
    go_ret
    exact ⟨rfl, hb3.trans ((((Below.refl _ _).alloc (Nat.le_refl _) _).trans (hb4.mono (by simp))).mono hb3.size)⟩
  · go_wp2_with (go_at_call 120; go_fit KD; rintro e w3 ⟨rfl, hb3⟩)
    go_ret
    exact ⟨rfl, hbA.trans (hb3.mono hbA.size)⟩
set_option maxRecDepth 20000 in
set_option maxHeartbeats 4000000 in
theorem breaks_none {l : QLine} {ap an : Option Addr} {cp cn : Nat} (hop : l.op = 2 ∨ l.op = 7 ∨ l.op = 13 ∨ l.op = 17 ∨ l.op = 18 ∨ l.op = 21) :
    Calls Tryz.prog 73 #[.pointer (some ⟨x, 0, none⟩), .agg #[.int .i64 (l.num : Nat), .int .i64 (l.op : Nat), .slice ap l.places.length cp, .int .i64 l.number, .int .i64 l.flag, .slice an l.next.length cn]] w fun e w' => e = .returned (.bool false) ∧ Below w.heap.size w w' := by
  have hbA : Below w.heap.size w (w.alloc (.cells #[.int .i64 (l.num : Nat), .int .i64 (l.op : Nat), .slice ap l.places.length cp, .int .i64 l.number, .int .i64 l.flag, .slice an l.next.length cn] 115)) := (Below.refl _ _).alloc (Nat.le_refl _) _
  have b3 : (((l.op : Nat) : Int) == 3) = false := by rw [beq_eq_false_iff_ne]; omega
  have b4 : (((l.op : Nat) : Int) == 4) = false := by rw [beq_eq_false_iff_ne]; omega
  have b5 : (((l.op : Nat) : Int) == 5) = false := by rw [beq_eq_false_iff_ne]; omega
  have b6 : (((l.op : Nat) : Int) == 6) = false := by rw [beq_eq_false_iff_ne]; omega
  have b8 : (((l.op : Nat) : Int) == 8) = false := by rw [beq_eq_false_iff_ne]; omega
  have b19 : (((l.op : Nat) : Int) == 19) = false := by rw [beq_eq_false_iff_ne]; omega
  have b20 : (((l.op : Nat) : Int) == 20) = false := by rw [beq_eq_false_iff_ne]; omega
  have b22 : (((l.op : Nat) : Int) == 22) = false := by rw [beq_eq_false_iff_ne]; omega
  have b9 : (((l.op : Nat) : Int) == 9) = false := by rw [beq_eq_false_iff_ne]; omega
  have b14 : (((l.op : Nat) : Int) == 14) = false := by rw [beq_eq_false_iff_ne]; omega
  have b12 : (((l.op : Nat) : Int) == 12) = false := by rw [beq_eq_false_iff_ne]; omega
  have b10 : (((l.op : Nat) : Int) == 10) = false := by rw [beq_eq_false_iff_ne]; omega
  have b11 : (((l.op : Nat) : Int) == 11) = false := by rw [beq_eq_false_iff_ne]; omega
  have b16 : (((l.op : Nat) : Int) == 16) = false := by rw [beq_eq_false_iff_ne]; omega
  clear hop
  go_enter Tryz.func73, Tryz.ntmps73
  go_wp2
  go_ret
  exact ⟨rfl, hbA⟩
end
end Go.Proofs.YtmlgajhhnojdjaaGreatDoor.Ex
