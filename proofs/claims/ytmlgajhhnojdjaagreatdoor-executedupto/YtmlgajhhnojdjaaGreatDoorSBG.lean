/- The project's bare machine: the block that comes behind a terminator. -/
import Derived.Test.YtmlgajhhnojdjaaGreatDoorSBF
namespace Go.Proofs.YtmlgajhhnojdjaaGreatDoor.Ex
open Go Go.RowKit Go.Proofs.YtmlgajhhnojdjaaGreatDoor.Spec Go.Proofs.YtmlgajhhnojdjaaGreatDoor.Aux Go.Proofs.YtmlgajhhnojdjaaGreatDoor.PrjJ Go.Proofs.YtmlgajhhnojdjaaGreatDoor.PrjK Go.Proofs.YtmlgajhhnojdjaaGreatDoor.PrjL Go.Proofs.YtmlgajhhnojdjaaGreatDoor.PrjM Go.Proofs.YtmlgajhhnojdjaaGreatDoor.PrjR Go.Proofs.YtmlgajhhnojdjaaGreatDoor.PrjS Go.Proofs.YtmlgajhhnojdjaaGreatDoor.PrjT Go.Proofs.YtmlgajhhnojdjaaGreatDoor.FlwA Go.Proofs.YtmlgajhhnojdjaaGreatDoor.FlwE Go.Proofs.YtmlgajhhnojdjaaGreatDoor.Own

def Br.other (b : Br) (q : QP) (l : QLine) : Bool := if l.op = 19 then b.val q (l.places.getD 0 (0, 0)) == 0 else if l.op = 20 then b.val q (l.places.getD 0 (0, 0)) == 1 else if l.op = 21 then !(b.flags.getD l.flag.toNat false) else false
section
variable {x a : Nat} {w w0 : World} {vm vt vi v u : Value} {b : Br} {q : QP}
set_option maxRecDepth 20000 in
set_option maxHeartbeats 2000000 in
theorem next_any (h : BAt w0 x a w b vi vm vt) (hq : PQ w0 a q v u) (hls : q.locals.length ≤ 12) {z nb : Nat} {l : QLine} {ap an : Option Addr} {cp cn : Nat} (hl0 : LineAt z w0 l (.slice ap l.places.length cp) (.slice an l.next.length cn)) (hk : LOk q.locals.length nb l)
    (ho : l.op = 18 ∨ l.op = 19 ∨ l.op = 20 ∨ l.op = 21) (hfl : l.op = 21 → 0 ≤ l.flag ∧ l.flag < 50) (hn : (if b.other q l then 1 else 0) < l.next.length) :
    Calls Tryz.prog 77 #[.pointer (some ⟨x, 0, none⟩), .agg #[.int .i64 (l.num : Nat), .int .i64 (l.op : Nat), .slice ap l.places.length cp, .int .i64 l.number, .int .i64 l.flag, .slice an l.next.length cn]] w fun e w' =>
      e = .returned (.int .i64 ((l.next.getD (if b.other q l then 1 else 0) 0 : Nat) : Int)) ∧ Below w.heap.size w w' := by
  have hl := PrjM.LineAt.below hl0 h.old
  have hbA : Below w.heap.size w (w.alloc (.cells #[.int .i64 (l.num : Nat), .int .i64 (l.op : Nat), .slice ap l.places.length cp, .int .i64 l.number, .int .i64 l.flag, .slice an l.next.length cn] 115)) := (Below.refl _ _).alloc (Nat.le_refl _) _
  have HA := h.below hbA
  have KW := fun (W : World) (hW : Below w.heap.size w W) => way_any (hl.below hW) (b.other q l) hn
  unfold lnV at KW
  have hblk : (w.alloc (.cells #[.int .i64 (l.num : Nat), .int .i64 (l.op : Nat), .slice ap l.places.length cp, .int .i64 l.number, .int .i64 l.flag, .slice an l.next.length cn] 115)).heap[w.heap.size]? = some (.cells #[.int .i64 (l.num : Nat), .int .i64 (l.op : Nat), .slice ap l.places.length cp, .int .i64 l.number, .int .i64 l.flag, .slice an l.next.length cn] 115 (0, 0)) := Array.getElem?_push_size
  generalize hR : l.next.getD (if b.other q l then 1 else 0) 0 = r at KW ⊢
  have ho2 : (l.op = 18 ∨ l.op = 21) ∨ (l.op = 19 ∨ l.op = 20) := by omega
  rcases ho2 with ho2 | ho2
  · rcases ho2 with hop | hop
    · have hoth : b.other q l = false := by rw [Br.other, if_neg (by omega), if_neg (by omega), if_neg (by omega)]
      rw [hoth] at KW
      have b1 : (((l.op : Nat) : Int) == 19) = false := by rw [hop]; rfl
      have b2 : (((l.op : Nat) : Int) == 20) = false := by rw [hop]; rfl
      have b3 : (((l.op : Nat) : Int) == 21) = false := by rw [hop]; rfl
      clear hn hR hoth ho hop hk hl hfl
      go_enter Tryz.func77, Tryz.ntmps77
      go_wp2_with (go_at_call 100; go_fit (KW _ hbA); rintro e w1 ⟨rfl, h1⟩)
      go_ret
      exact ⟨rfl, hbA.trans (h1.mono hbA.size)⟩
    · have hoth : b.other q l = !(b.flags.getD l.flag.toNat false) := by rw [Br.other, if_neg (by omega), if_neg (by omega), if_pos hop]
      rw [hoth] at KW
      have b1 : (((l.op : Nat) : Int) == 19) = false := by rw [hop]; rfl
      have b2 : (((l.op : Nat) : Int) == 20) = false := by rw [hop]; rfl
      have b3 : (((l.op : Nat) : Int) == 21) = true := by rw [hop]; rfl
      obtain ⟨f1, f2⟩ := hfl hop
      have hfn : l.flag.toNat < 50 := by omega
      have cF := (HA.flagAt hfn).1
      clear hn hR hoth ho hop hk hl hfl
      go_enter Tryz.func77, Tryz.ntmps77
      go_upto_region 8 with fail
      go_quiet (fail)
      go_wp2_with (go_at_call 100; go_fit (KW _ (below_drewN hbA _)); rintro e w1 ⟨rfl, h1⟩)
      go_ret
      exact ⟨rfl, (below_drewN hbA _).trans (h1.mono hbA.size)⟩
  · have hlen : 1 ≤ l.places.length := by rcases ho2 with e | e <;> (rw [hk.plen, e]; decide)
    obtain ⟨g, e, -, hcp, hg, c1, c2⟩ := places_cells hl.places 0 (by omega)
    subst e
    have hx := (hk.places (l.places.getD 0 (0, 0)) (by rw [List.getD_eq_getElem?_getD, List.getElem?_eq_getElem (by omega)]; exact List.getElem_mem _)).1
    have d1 := (hbA.cell (p := ⟨g, 0, none⟩) hg).trans c1
    have d2 := (hbA.cell (p := ⟨g, 1, none⟩) hg).trans c2
    have hlI : (0 : Int) < l.places.length := by omega
    have KN := value_any HA hq hls (l.places.getD 0 (0, 0)) hx
    rcases ho2 with hop | hop
    · have hoth : b.other q l = (b.val q (l.places.getD 0 (0, 0)) == 0) := by rw [Br.other, if_pos (by omega)]
      rw [hoth] at KW
      have b1 : (((l.op : Nat) : Int) == 19) = true := by rw [hop]; rfl
      have b2 : (((l.op : Nat) : Int) == 20) = false := by rw [hop]; rfl
      have b3 : (((l.op : Nat) : Int) == 21) = false := by rw [hop]; rfl
      clear hn hR hoth ho c1 c2 hop hk hl hfl
      generalize l.places.getD 0 (0, 0) = p at *
      go_enter Tryz.func77, Tryz.ntmps77
      go_wp2_with (first
        | (go_at_call 74; go_fit KN; rintro e w2 ⟨rfl, h2⟩; have hb2 := hbA.trans (h2.mono hbA.size); have hblk2 := (h2.block _ (lt_of_heap hblk)).trans hblk; have m0 : w2.cell? ⟨w.heap.size, 0, none⟩ = _ := cell_of_heap hblk2 0; have m1 : w2.cell? ⟨w.heap.size, 1, none⟩ = _ := cell_of_heap hblk2 1; have m2 : w2.cell? ⟨w.heap.size, 2, none⟩ = _ := cell_of_heap hblk2 2; have m3 : w2.cell? ⟨w.heap.size, 3, none⟩ = _ := cell_of_heap hblk2 3; have m4 : w2.cell? ⟨w.heap.size, 4, none⟩ = _ := cell_of_heap hblk2 4; have m5 : w2.cell? ⟨w.heap.size, 5, none⟩ = _ := cell_of_heap hblk2 5; simp at m0 m1 m2 m3 m4 m5)
        | (go_at_call 100; go_fit (KW _ hb2); rintro e w1 ⟨rfl, h1⟩))
      go_ret
      exact ⟨rfl, hb2.trans (h1.mono hb2.size)⟩
    · have hoth : b.other q l = (b.val q (l.places.getD 0 (0, 0)) == 1) := by rw [Br.other, if_neg (by omega), if_pos (by omega)]
      rw [hoth] at KW
      have b1 : (((l.op : Nat) : Int) == 19) = false := by rw [hop]; rfl
      have b2 : (((l.op : Nat) : Int) == 20) = true := by rw [hop]; rfl
      have b3 : (((l.op : Nat) : Int) == 21) = false := by rw [hop]; rfl
      clear hn hR hoth ho c1 c2 hop hk hl hfl
      generalize l.places.getD 0 (0, 0) = p at *
      go_enter Tryz.func77, Tryz.ntmps77
      go_wp2_with (first
        | (go_at_call 74; go_fit KN; rintro e w2 ⟨rfl, h2⟩; have hb2 := hbA.trans (h2.mono hbA.size); have hblk2 := (h2.block _ (lt_of_heap hblk)).trans hblk; have m0 : w2.cell? ⟨w.heap.size, 0, none⟩ = _ := cell_of_heap hblk2 0; have m1 : w2.cell? ⟨w.heap.size, 1, none⟩ = _ := cell_of_heap hblk2 1; have m2 : w2.cell? ⟨w.heap.size, 2, none⟩ = _ := cell_of_heap hblk2 2; have m3 : w2.cell? ⟨w.heap.size, 3, none⟩ = _ := cell_of_heap hblk2 3; have m4 : w2.cell? ⟨w.heap.size, 4, none⟩ = _ := cell_of_heap hblk2 4; have m5 : w2.cell? ⟨w.heap.size, 5, none⟩ = _ := cell_of_heap hblk2 5; simp at m0 m1 m2 m3 m4 m5)
        | (go_at_call 100; go_fit (KW _ hb2); rintro e w1 ⟨rfl, h1⟩))
      go_ret
      exact ⟨rfl, hb2.trans (h1.mono hb2.size)⟩
end
end Go.Proofs.YtmlgajhhnojdjaaGreatDoor.Ex
/- The project's bare machine: cells are copied. -/
namespace Go.Proofs.YtmlgajhhnojdjaaGreatDoor.Ex
open Go Go.RowKit Go.Proofs.YtmlgajhhnojdjaaGreatDoor.Spec Go.Proofs.YtmlgajhhnojdjaaGreatDoor.Aux Go.Proofs.YtmlgajhhnojdjaaGreatDoor.PrjJ Go.Proofs.YtmlgajhhnojdjaaGreatDoor.PrjK Go.Proofs.YtmlgajhhnojdjaaGreatDoor.PrjL Go.Proofs.YtmlgajhhnojdjaaGreatDoor.PrjM Go.Proofs.YtmlgajhhnojdjaaGreatDoor.PrjR Go.Proofs.YtmlgajhhnojdjaaGreatDoor.PrjS Go.Proofs.YtmlgajhhnojdjaaGreatDoor.PrjT Go.Proofs.YtmlgajhhnojdjaaGreatDoor.FlwA Go.Proofs.YtmlgajhhnojdjaaGreatDoor.FlwE Go.Proofs.YtmlgajhhnojdjaaGreatDoor.Own

/-- cell by cell, in their order -/
def Br.copies (q : QP) (ts fs : List (Nat × Nat)) : Nat → Br → Br
  | 0, b => b
  | k + 1, b => (Br.copies q ts fs k b).write q (ts.getD k (0, 0)) ((Br.copies q ts fs k b).val q (fs.getD k (0, 0)))
def Br.moved (b : Br) (q : QP) (t f : Nat × Nat) : Br := Br.copies q (QP.halvesQ q t) (QP.halvesQ q f) (QP.halvesQ q f).length b
/-- what a move leaves -/
def Br.move (b : Br) (q : QP) (t f : Nat × Nat) : Br :=
  if isTag q f = true ∧ (b.moved q t f).val q f = 1 then (b.moved q t f).write q (t.1, 3) ((b.moved q t f).val q (f.1, 3)) else b.moved q t f
section
variable {x a : Nat} {w w0 w1 : World} {vm vt vi v u : Value} {b : Br} {q : QP}
theorem places_roam {z : Nat} {v : Value} {ps : List (Nat × Nat)} (hp : PlacesAt z w v ps) (r : Roam x vm vt w vm vt w1) (hf : ∀ g, v.ownBlock = some g → g ≠ x ∧ vm.ownBlock ≠ some g ∧ vt.ownBlock ≠ some g) : PlacesAt z w1 v ps :=
  own_heap hp fun g hg => r.block g (hp.lt g hg).2 (hf g hg).1 (hf g hg).2.1 (hf g hg).2.2
theorem halves_lt (q : QP) (p : Nat × Nat) (hp : p.1 < q.locals.length) : ∀ y ∈ QP.halvesQ q p, y.1 < q.locals.length := fun y hy => by
  unfold QP.halvesQ at hy; split at hy <;> simp at hy
  · rcases hy with rfl | rfl <;> exact hp
  · rw [hy]; exact hp
theorem halves_le (q : QP) (p : Nat × Nat) : (QP.halvesQ q p).length ≤ 2 := by unfold QP.halvesQ; split <;> simp
set_option maxRecDepth 20000 in
set_option maxHeartbeats 4000000 in
theorem move_any (h : BAt w0 x a w b vi vm vt) (hq : PQ w0 a q v u) (hls : q.locals.length ≤ 12) (t f : Nat × Nat) (ht : t.1 < q.locals.length) (hf : f.1 < q.locals.length) (hl : (QP.halvesQ q t).length = (QP.halvesQ q f).length) :
    Calls Tryz.prog 123 #[.pointer (some ⟨x, 0, none⟩), .agg #[.int .i64 (t.1 : Nat), .int .i64 (t.2 : Nat)], .agg #[.int .i64 (f.1 : Nat), .int .i64 (f.2 : Nat)]] w fun e w' => e = .returned (.tuple #[]) ∧ BAt w0 x a w' (b.move q t f) vi vm vt ∧ Roam x vm vt w vm vt w' := by
  obtain ⟨W, hW⟩ : ∃ W, (w.alloc (.cells #[.int .i64 (t.1 : Nat), .int .i64 (t.2 : Nat)] 119)).alloc (.cells #[.int .i64 (f.1 : Nat), .int .i64 (f.2 : Nat)] 119) = W := ⟨_, rfl⟩
  have hb1 : Below w.heap.size w (w.alloc (.cells #[.int .i64 (t.1 : Nat), .int .i64 (t.2 : Nat)] 119)) := (Below.refl _ _).alloc (Nat.le_refl _) _
  have hs1 : (w.alloc (.cells #[.int .i64 (t.1 : Nat), .int .i64 (t.2 : Nat)] 119)).heap.size = w.heap.size + 1 := by simp
  have hbW : Below w.heap.size w W := by rw [← hW]; exact hb1.alloc hb1.size _
  have hsW : W.heap.size = w.heap.size + 2 := by rw [← hW]; simp
  have hT : W.heap[w.heap.size]? = some (.cells #[.int .i64 (t.1 : Nat), .int .i64 (t.2 : Nat)] 119 (0, 0)) := by
    rw [← hW]
    exact ((((Below.refl _ (w.alloc (.cells #[.int .i64 (t.1 : Nat), .int .i64 (t.2 : Nat)] 119))).alloc (Nat.le_refl _) _).block _ (by omega))).trans Array.getElem?_push_size
  have hF : W.heap[w.heap.size + 1]? = some (.cells #[.int .i64 (f.1 : Nat), .int .i64 (f.2 : Nat)] 119 (0, 0)) := by
    rw [← hW, ← hs1]; exact Array.getElem?_push_size
  have HW := h.below hbW
  have hfr : ∀ k, w.heap.size ≤ k → k ≠ x ∧ vm.ownBlock ≠ some k ∧ vt.ownBlock ≠ some k := fun k hk => h.fresh hk
  have HC : Hid (∀ W' vm' vt', Roam x vm vt W vm' vt' W' → W'.cell? ⟨w.heap.size, 0, none⟩ = some (.int .i64 (t.1 : Nat)) ∧ W'.cell? ⟨w.heap.size, 1, none⟩ = some (.int .i64 (t.2 : Nat)) ∧ W'.cell? ⟨w.heap.size + 1, 0, none⟩ = some (.int .i64 (f.1 : Nat)) ∧ W'.cell? ⟨w.heap.size + 1, 1, none⟩ = some (.int .i64 (f.2 : Nat))) := fun W' vm' vt' r =>
    ⟨(roam_cell r (by omega) (hfr _ (Nat.le_refl _)) 0).trans (by rw [cell_of_heap hT]; rfl), (roam_cell r (by omega) (hfr _ (Nat.le_refl _)) 1).trans (by rw [cell_of_heap hT]; rfl), (roam_cell r (by omega) (hfr _ (by omega)) 0).trans (by rw [cell_of_heap hF]; rfl), (roam_cell r (by omega) (hfr _ (by omega)) 1).trans (by rw [cell_of_heap hF]; rfl)⟩
  obtain ⟨y0, y1, y2, y3⟩ := HC.out W vm vt (Roam.refl _ _ _ _)
  have c3 := HW.prog
  have KH := fun (p : Nat × Nat) (hp : p.1 < q.locals.length) (W' : World) (hb : Below W.heap.size W W') => halves_any q p v u a W' (hq.below (HW.below hb).old).blk (hq.below (HW.below hb).old).loc hp
  have hdW : Below W.heap.size W W.drew := (Below.refl _ _).drew
  go_enter Tryz.func123, Tryz.ntmps123
  go_upto_region 1 with fail
  try rw [hW]
  clear hW
  go_region_held3 (fun W' => W'.cell? ⟨w.heap.size, 0, none⟩ = some (.int .i64 (t.1 : Nat)) ∧ W'.cell? ⟨w.heap.size, 1, none⟩ = some (.int .i64 (t.2 : Nat)) ∧ W'.cell? ⟨x, 3, none⟩ = some (.pointer (some ⟨a, 0, none⟩))) (go_keep)
    (first
    | (go_at_call 102; go_fit (KH t ht _ hdW); rintro e w1 ⟨g1, k1, rfl, hP1, hb1'⟩; have hB1 : Below W.heap.size W w1 := ⟨hb1'.os, hb1'.tape, hb1'.output, hb1'.size, hb1'.block⟩; obtain ⟨z0, z1, z2, z3⟩ := HC.out w1 vm vt (Roam.of hB1); have c4 := (HW.below hB1).prog; clear hb1'))
  have hd1 : Below W.heap.size W w1.drew := hB1.drew
  go_upto_region 2 with fail
  go_region_held3 (fun W' => W'.cell? ⟨w.heap.size + 1, 0, none⟩ = some (.int .i64 (f.1 : Nat)) ∧ W'.cell? ⟨w.heap.size + 1, 1, none⟩ = some (.int .i64 (f.2 : Nat)) ∧ W'.cell? ⟨x, 3, none⟩ = some (.pointer (some ⟨a, 0, none⟩))) (go_keep)
    (first
    | (go_at_call 102; go_fit (KH f hf _ hd1); rintro e w2 ⟨g2, k2, rfl, hP2, hb2'⟩; have hB2 : Below w1.heap.size w1 w2 := ⟨hb2'.os, hb2'.tape, hb2'.output, hb2'.size, hb2'.block⟩; have hBW2 := hB1.trans (hB2.mono hB1.size); obtain ⟨z4, z5, z6, z7⟩ := HC.out w2 vm vt (Roam.of hBW2); have c5 := (HW.below hBW2).prog; clear hb2'))
  have hO2 := HW.below hBW2
  have hP1' : PlacesAt W.heap.size w2 (.slice (some ⟨g1, 0, none⟩) (QP.halvesQ q f).length k1) (QP.halvesQ q t) := own_below (hl ▸ hP1) hB2
  have hg1 : w.heap.size ≤ g1 := by have := (hP1.lt g1 rfl).1; simp at this; omega
  have hg2 : w.heap.size ≤ g2 := by have := (hP2.lt g2 rfl).1; have := hB1.size; simp at *; omega
  have hxt := halves_lt q t ht
  have hxf := halves_lt q f hf
  have HMV : Hid (b.moved q t f = Br.copies q (QP.halvesQ q t) (QP.halvesQ q f) (QP.halvesQ q f).length b) := rfl
  have hNle := halves_le q f
  have HRW : Hid (Roam x vm vt w vm vt w2) := Roam.of (hbW.trans (hBW2.mono hbW.size))
  clear KH hP1 hd1 hdW z0 z1 z2 z3 c4 y0 y1 y2 y3 c3 hT hF hb1 hs1 z4 z5 z6 z7 c5
  generalize hTS : QP.halvesQ q t = ts at *
  generalize hFS : QP.halvesQ q f = fs at *
  clear hTS hFS
  go_wp2
  go_loopg [22] (fs.length) (fun g v22 wr => ∃ (k : Nat), k ≤ fs.length ∧ g + k = fs.length ∧ v22 = .int .i64 k ∧ BAt w0 x a wr (Br.copies q ts fs k b) vi vm vt ∧ Roam x vm vt w2 vm vt wr)
  case atStart => exact ⟨0, Nat.zero_le _, rfl, rfl, hO2, Roam.refl _ _ _ _⟩
  case round =>
    obtain ⟨k, hk, hgk, rfl, hO, hR⟩ := hrel
    by_cases hlt : k < fs.length
    · have hpt := places_roam hP1' hR (fun g hg => hfr g (by simp only [Value.ownBlock, Option.some.injEq] at hg; omega))
      have hpf := places_roam hP2 hR (fun g hg => hfr g (by simp only [Value.ownBlock, Option.some.injEq] at hg; omega))
      obtain ⟨ga, ea, -, hca, hga, q1, q2⟩ := places_cells hpt k (by omega)
      simp only [Option.some.injEq, Addr.mk.injEq, and_true] at ea
      subst ea
      obtain ⟨gb, eb, -, hcb, hgb, q3, q4⟩ := places_cells hpf k hlt
      simp only [Option.some.injEq, Addr.mk.injEq, and_true] at eb
      subst eb
      have x1 := hxt (ts.getD k (0, 0)) (by rw [List.getD_eq_getElem?_getD, List.getElem?_eq_getElem (by omega)]; exact List.getElem_mem _)
      have x2 := hxf (fs.getD k (0, 0)) (by rw [List.getD_eq_getElem?_getD, List.getElem?_eq_getElem (by omega)]; exact List.getElem_mem _)
      have HS : Hid (Br.copies q ts fs (k + 1) b = (Br.copies q ts fs k b).write q (ts.getD k (0, 0)) ((Br.copies q ts fs k b).val q (fs.getD k (0, 0)))) := rfl
      generalize ts.getD k (0, 0) = pt at *
      generalize fs.getD k (0, 0) = pf at *
      generalize Br.copies q ts fs k b = bk at *
      have hbx : Below wr.heap.size wr (wr.alloc (.cells #[.int .i64 (pf.1 : Nat), .int .i64 (pf.2 : Nat)] 119)) := (Below.refl _ _).alloc (Nat.le_refl _) _
      have hhx : (wr.alloc (.cells #[.int .i64 (pf.1 : Nat), .int .i64 (pf.2 : Nat)] 119)).heap[wr.heap.size]? = some (.cells #[.int .i64 (pf.1 : Nat), .int .i64 (pf.2 : Nat)] 119 (0, 0)) := Array.getElem?_push_size
      have hsx : (wr.alloc (.cells #[.int .i64 (pf.1 : Nat), .int .i64 (pf.2 : Nat)] 119)).heap.size = wr.heap.size + 1 := by simp
      have hkI : (k : Int) < fs.length := by omega
      have hbD : Below wr.heap.size wr (wr.alloc (.cells #[.int .i64 (pf.1 : Nat), .int .i64 (pf.2 : Nat)] 119)).drew := hbx.drew
      have KV := value_any (hO.below hbD) hq hls pf x2
      have KW := fun (W' : World) (hb : Below wr.heap.size wr W') => write_any (hO.below hb) hq hls pt x1 (bk.val q pf)
      have hfx := hO.fresh (Nat.le_refl _)
      have hfg := hfr g1 hg1
      have p1 := (hbx.cell (p := ⟨g1, k * 2, none⟩) hga).trans q1
      have p2 := (hbx.cell (p := ⟨g1, k * 2 + 1, none⟩) hga).trans q2
      go_upto_region 5 with fail
      go_region_held3 (fun W' => W'.cell? ⟨g1, k * 2, none⟩ = some (.int .i64 (pt.1 : Nat)) ∧ W'.cell? ⟨g1, k * 2 + 1, none⟩ = some (.int .i64 (pt.2 : Nat)) ∧ W'.cell? ⟨wr.heap.size, 0, none⟩ = some (.int .i64 (pf.1 : Nat)) ∧ W'.cell? ⟨wr.heap.size, 1, none⟩ = some (.int .i64 (pf.2 : Nat))) (go_keep)
        (first
        | (go_at_call 74; go_fit KV; rintro e w3 ⟨rfl, hb3⟩; have hB3 : Below wr.heap.size wr w3 := hbD.trans (hb3.mono hbD.size); have hh3 := (hb3.block wr.heap.size (by simp)).trans hhx; have o1 := (hB3.cell (p := ⟨g1, k * 2, none⟩) hga).trans q1; have o2 := (hB3.cell (p := ⟨g1, k * 2 + 1, none⟩) hga).trans q2; have o3 : w3.cell? ⟨wr.heap.size, 0, none⟩ = some (.int .i64 (pf.1 : Nat)) := (by rw [cell_of_heap hh3]; rfl); have o4 : w3.cell? ⟨wr.heap.size, 1, none⟩ = some (.int .i64 (pf.2 : Nat)) := (by rw [cell_of_heap hh3]; rfl); have hsz3 : wr.heap.size < w3.heap.size := lt_of_heap hh3)
        | (go_at_call 76; go_fit (KW _ hB3); rintro e w4 ⟨rfl, h4, r4⟩; have j1 := (roam_cell r4 (Nat.lt_of_lt_of_le hga hB3.size) hfg (k * 2)).trans o1; have j2 := (roam_cell r4 (Nat.lt_of_lt_of_le hga hB3.size) hfg (k * 2 + 1)).trans o2; have j3 := (roam_cell r4 hsz3 hfx 0).trans o3; have j4 := (roam_cell r4 hsz3 hfx 1).trans o4))
      all_goals go_wp2_with fail
      all_goals
        go_roundg (fs.length - (k + 1))
        case measure => omega
        case rel => exact ⟨k + 1, by omega, by omega, by go_num, by rw [HS.out]; exact h4, hR.trans ((Roam.of hB3).trans r4)⟩
    · have hk' : k = fs.length := by omega
      subst hk'
      rw [← HMV.out] at hO
      have HMO : Hid (b.move q t f = if isTag q f = true ∧ (b.moved q t f).val q f = 1 then (b.moved q t f).write q (t.1, 3) ((b.moved q t f).val q (f.1, 3)) else b.moved q t f) := rfl
      generalize b.moved q t f = bm at *
      have hRW : Roam x vm vt W vm vt wr := (Roam.of hBW2).trans hR
      obtain ⟨z4, z5, z6, z7⟩ := HC.out wr vm vt hRW
      have hszr : w.heap.size + 1 < wr.heap.size := by have := hRW.size; omega
      have HCB : Hid (∀ W', Below wr.heap.size wr W' → W'.cell? ⟨w.heap.size, 0, none⟩ = some (.int .i64 (t.1 : Nat)) ∧ W'.cell? ⟨w.heap.size, 1, none⟩ = some (.int .i64 (t.2 : Nat)) ∧ W'.cell? ⟨w.heap.size + 1, 0, none⟩ = some (.int .i64 (f.1 : Nat)) ∧ W'.cell? ⟨w.heap.size + 1, 1, none⟩ = some (.int .i64 (f.2 : Nat))) := fun W' hb => HC.out W' vm vt (hRW.trans (Roam.of hb))
      have KI := isTag_any hO hq hls f hf
      have KV := fun (W' : World) (hb : Below wr.heap.size wr W') => value_any (hO.below hb) hq hls f hf
      clear hP1' hP2 hxt hxf HMV hl hNle
      cases hit : isTag q f
      · rw [hit] at KI
        have HE : Hid (b.move q t f = bm) := by unfold Hid; rw [HMO.out, if_neg (by rw [hit]; simp)]
        clear HMO hit KV
        go_wp2_with (go_at_call 173; go_fit KI; rintro e w5 ⟨rfl, hb5⟩)
        go_end0
        exact ⟨rfl, by rw [HE.out]; exact hO.below hb5, HRW.out.trans (hR.trans (Roam.of hb5))⟩
      · rw [hit] at KI
        by_cases hv1 : bm.val q f = 1
        · have HE : Hid (b.move q t f = bm.write q (t.1, 3) (bm.val q (f.1, 3))) := by unfold Hid; rw [HMO.out, if_pos ⟨hit, hv1⟩]
          have bv : (bm.val q f == 1) = true := by rw [hv1]; rfl
          clear HMO hit hv1
          go_upto_region 8 with (first
            | (go_at_call 173; go_fit KI; rintro e w5 ⟨rfl, hb5⟩; obtain ⟨o0, o1, o2, o3⟩ := HCB.out _ hb5)
            | (go_at_call 74; go_fit (KV _ hb5); rintro e w6 ⟨rfl, hb6⟩; have hb6' := hb5.trans (hb6.mono hb5.size); obtain ⟨j0, j1, j2, j3⟩ := HCB.out _ hb6'))
          have KCt := fun W' => contentOf_any t W'
          have KCf := fun W' => contentOf_any f W'
          have KX := fun (W' : World) (hb : Below wr.heap.size wr W') => value_any (hO.below hb) hq hls (f.1, 3) hf
          have KY := fun (W' : World) (hb : Below wr.heap.size wr W') => write_any (hO.below hb) hq hls (t.1, 3) ht (bm.val q (f.1, 3))
          generalize bm.val q (f.1, 3) = cv at *
          have hd6 : Below wr.heap.size wr w6.drew := hb6'.drew
          have hfa := hfr w.heap.size (Nat.le_refl _)
          have hfb := hfr (w.heap.size + 1) (by omega)
          go_region_held3 (fun W' => W'.cell? ⟨w.heap.size, 0, none⟩ = some (.int .i64 (t.1 : Nat)) ∧ W'.cell? ⟨w.heap.size, 1, none⟩ = some (.int .i64 (t.2 : Nat)) ∧ W'.cell? ⟨w.heap.size + 1, 0, none⟩ = some (.int .i64 (f.1 : Nat)) ∧ W'.cell? ⟨w.heap.size + 1, 1, none⟩ = some (.int .i64 (f.2 : Nat))) (go_keep)
            (first
            | (go_at_call 124; have _ := hb7; go_fit (KCf _); rintro e w8 ⟨rfl, hb8'⟩; have hb8 := hb7.trans (hb8'.mono hb7.size); obtain ⟨l0, l1, l2, l3⟩ := HCB.out _ hb8)
            | (go_at_call 124; go_fit (KCt _); rintro e w7 ⟨rfl, hb7'⟩; have hb7 := hd6.trans (hb7'.mono hd6.size); obtain ⟨i0, i1, i2, i3⟩ := HCB.out _ hb7)
            | (go_at_call 74; go_fit (KX _ hb8); rintro e w9 ⟨rfl, hb9'⟩; have hb9 := hb8.trans (hb9'.mono hb8.size); obtain ⟨m0, m1, m2, m3⟩ := HCB.out _ hb9)
            | (go_at_call 76; go_fit (KY _ hb9); rintro e w10 ⟨rfl, h10, r10⟩; have n0 := (roam_cell r10 (Nat.lt_of_lt_of_le (by omega) hb9.size) hfa 0).trans m0; have n1 := (roam_cell r10 (Nat.lt_of_lt_of_le (by omega) hb9.size) hfa 1).trans m1; have n2 := (roam_cell r10 (Nat.lt_of_lt_of_le hszr hb9.size) hfb 0).trans m2; have n3 := (roam_cell r10 (Nat.lt_of_lt_of_le hszr hb9.size) hfb 1).trans m3))
          all_goals go_wp2_with fail
          all_goals
            go_end0
            exact ⟨rfl, by rw [HE.out]; exact h10, HRW.out.trans (hR.trans ((Roam.of hb9).trans r10))⟩
        · have HE : Hid (b.move q t f = bm) := by unfold Hid; rw [HMO.out, if_neg (fun e => hv1 e.2)]
          have bv : (bm.val q f == 1) = false := by rw [beq_eq_false_iff_ne]; exact hv1
          clear HMO hit hv1
          go_wp2_with (first
            | (go_at_call 173; go_fit KI; rintro e w5 ⟨rfl, hb5⟩; obtain ⟨o0, o1, o2, o3⟩ := HCB.out _ hb5)
            | (go_at_call 74; go_fit (KV _ hb5); rintro e w6 ⟨rfl, hb6⟩; have hb6' := hb5.trans (hb6.mono hb5.size)))
          go_end0
          exact ⟨rfl, by rw [HE.out]; exact hO.below hb6', HRW.out.trans (hR.trans (Roam.of hb6'))⟩
end
end Go.Proofs.YtmlgajhhnojdjaaGreatDoor.Ex
