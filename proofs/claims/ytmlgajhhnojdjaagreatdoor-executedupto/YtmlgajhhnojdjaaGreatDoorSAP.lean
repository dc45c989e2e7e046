/- What the project's reader answers on the first line with something of another type than must be. -/
import Derived.Test.YtmlgajhhnojdjaaGreatDoorSAN
import Derived.Test.YtmlgajhhnojdjaaGreatDoorSAO
import Derived.Deep.LoopGhost
import Derived.Deep.DeepCutAuto
import Derived.Laws.MakeOwn
import Derived.Test.YtmlgajhhnojdjaaGreatDoorSAG
import Derived.Deep.Light
namespace Go.Proofs.YtmlgajhhnojdjaaGreatDoor.PrjU
open Go Go.RowKit Go.Proofs.YtmlgajhhnojdjaaGreatDoor.Spec Go.Proofs.YtmlgajhhnojdjaaGreatDoor.Aux Go.Proofs.YtmlgajhhnojdjaaGreatDoor.PrjF Go.Proofs.YtmlgajhhnojdjaaGreatDoor.PrjG Go.Proofs.YtmlgajhhnojdjaaGreatDoor.PrjH Go.Proofs.YtmlgajhhnojdjaaGreatDoor.PrjI Go.Proofs.YtmlgajhhnojdjaaGreatDoor.PrjJ Go.Proofs.YtmlgajhhnojdjaaGreatDoor.PrjK Go.Proofs.YtmlgajhhnojdjaaGreatDoor.PrjL Go.Proofs.YtmlgajhhnojdjaaGreatDoor.PrjM Go.Proofs.YtmlgajhhnojdjaaGreatDoor.PrjN Go.Proofs.YtmlgajhhnojdjaaGreatDoor.PrjO Go.Proofs.YtmlgajhhnojdjaaGreatDoor.PrjP Go.Proofs.YtmlgajhhnojdjaaGreatDoor.PrjQ Go.Proofs.YtmlgajhhnojdjaaGreatDoor.PrjR Go.Proofs.YtmlgajhhnojdjaaGreatDoor.PrjS Go.Proofs.YtmlgajhhnojdjaaGreatDoor.PrjT

/-- a block of lines in memory, line by line -/
theorem block_slice {z : Nat} {w : World} {v : Value} {ls : List QLine} {vs : List (Value × Value)} (h : BlockAt z w v ls vs) : ∃ ad c, v = .slice ad ls.length c := own_slice h.row
theorem block_cells {z : Nat} {w : World} {ad : Option Addr} {n c : Nat} {ls : List QLine} {vs : List (Value × Value)} (h : BlockAt z w (.slice ad n c) ls vs) (j : Nat) (hj : j < ls.length) :
    ∃ g ap cp an cn, ad = some ⟨g, 0, none⟩ ∧ n = ls.length ∧ ls.length ≤ c ∧ g < w.heap.size ∧ w.cell? ⟨g, j * 6, none⟩ = some (.int .i64 ((ls.getD j QLine.nil).num : Nat)) ∧ w.cell? ⟨g, j * 6 + 1, none⟩ = some (.int .i64 ((ls.getD j QLine.nil).op : Nat)) ∧ w.cell? ⟨g, j * 6 + 2, none⟩ = some (.slice ap (ls.getD j QLine.nil).places.length cp) ∧
      w.cell? ⟨g, j * 6 + 3, none⟩ = some (.int .i64 (ls.getD j QLine.nil).number) ∧ w.cell? ⟨g, j * 6 + 4, none⟩ = some (.int .i64 (ls.getD j QLine.nil).flag) ∧ w.cell? ⟨g, j * 6 + 5, none⟩ = some (.slice an (ls.getD j QLine.nil).next.length cn) ∧
      LineAt z w (ls.getD j QLine.nil) (.slice ap (ls.getD j QLine.nil).places.length cp) (.slice an (ls.getD j QLine.nil).next.length cn) := by
  obtain ⟨g, cap, hv, hc, hg, hcell⟩ := own_cell h.row (by omega)
  simp only [Value.slice.injEq] at hv
  obtain ⟨rfl, rfl, rfl⟩ := hv
  have hE := h.each j hj
  obtain ⟨ap, cp, h1⟩ := own_slice hE.places
  obtain ⟨an, cn, h2⟩ := own_slice hE.next
  have hjv : j < vs.length := by rw [h.len]; exact hj
  have hz : (ls.zip vs)[j]? = some (ls.getD j QLine.nil, vs.getD j (undef, undef)) := by
    simp [List.getElem?_zip_eq_some, hj, hjv]
  have key : ∀ i, i < 6 → w.cell? ⟨g, j * 6 + i, none⟩ = (lineCell (ls.getD j QLine.nil, vs.getD j (undef, undef)))[i]? := fun i hi => by
    rw [hcell _ (by omega), lineCells, flat_get lineCell 6 (fun _ => rfl) _ j i hi, hz]; rfl
  have k0 := key 0 (by decide); have k1 := key 1 (by decide); have k2 := key 2 (by decide); have k3 := key 3 (by decide); have k4 := key 4 (by decide); have k5 := key 5 (by decide)
  rw [h1, h2] at hE
  refine ⟨g, ap, cp, an, cn, rfl, rfl, hc, hg, k0, k1, ?_, k3, k4, ?_, hE⟩
  · rw [k2]; show some (vs.getD j (undef, undef)).1 = _; rw [h1]
  · rw [k5]; show some (vs.getD j (undef, undef)).2 = _; rw [h2]
/-- block j of a program -/
theorem blocks_cell {z a : Nat} {w : World} {q : QP} {vl vb : Value} {us : List Value} {vss : List (List (Value × Value))} (h : PAt z a w q vl vb us vss) (j : Nat) (hj : j < q.blocks.length) :
    ∃ gb cb ad c, vb = .slice (some ⟨gb, 0, none⟩) q.blocks.length cb ∧ q.blocks.length ≤ cb ∧ gb < w.heap.size ∧ w.cell? ⟨gb, j, none⟩ = some (.slice ad (q.blocks.getD j []).length c) ∧ BlockAt z w (.slice ad (q.blocks.getD j []).length c) (q.blocks.getD j []) (vss.getD j []) := by
  obtain ⟨g, cap, hv, hc, hg, hcell⟩ := own_cell h.blocks (by omega)
  have hE := h.each j hj
  obtain ⟨ad, c, e⟩ := block_slice hE
  rw [e] at hE
  refine ⟨g, cap, ad, c, hv, hc, hg, ?_, hE⟩
  rw [hcell j (by omega), ← e, List.getD_eq_getElem?_getD, List.getElem?_eq_getElem (by rw [h.usl]; exact hj)]; rfl
/-- what is still to be looked at -/
def restOf (q : QP) (j i : Nat) : List QLine := ((q.blocks.getD j []).drop i) ++ (q.blocks.drop (j + 1)).flatten
def missIn (q : QP) (l : List QLine) : Option Nat := (l.find? fun l => !q.fits l).map (·.num)
theorem miss_start (q : QP) : q.misfit = missIn q (q.blocks.drop 0).flatten := rfl
theorem miss_block (q : QP) (j : Nat) (hj : j < q.blocks.length) : (q.blocks.drop j).flatten = restOf q j 0 := by
  rw [List.drop_eq_getElem_cons hj, List.flatten_cons, restOf, List.drop_zero]
  simp [hj]
theorem miss_step (q : QP) (j i : Nat) (hi : i < (q.blocks.getD j []).length) : missIn q (restOf q j i) = if q.fits ((q.blocks.getD j []).getD i QLine.nil) = true then missIn q (restOf q j (i + 1)) else some ((q.blocks.getD j []).getD i QLine.nil).num := by
  rw [missIn, restOf, List.drop_eq_getElem_cons hi, List.cons_append, List.find?_cons]
  have : (q.blocks.getD j []).getD i QLine.nil = (q.blocks.getD j [])[i] := by rw [List.getD_eq_getElem?_getD, List.getElem?_eq_getElem hi]; rfl
  rw [this]
  cases q.fits (q.blocks.getD j [])[i]
  · rfl
  · rfl
theorem miss_next (q : QP) (j : Nat) : restOf q j (q.blocks.getD j []).length = (q.blocks.drop (j + 1)).flatten := by
  rw [restOf, List.drop_length]; rfl
def MissPost (q : QP) (w : World) (e : Ending) (w' : World) : Prop :=
  Below w.heap.size w w' ∧ match q.misfit with
    | some k => e = .returned (.tuple #[.int .i64 (k : Nat), .bool true])
    | none => e = .returned (.tuple #[.int .i64 0, .bool false])
theorem MissPost.some {q : QP} {w w' : World} {k : Nat} (hb : Below w.heap.size w w') (h : q.misfit = some k) : MissPost q w (.returned (.tuple #[.int .i64 (k : Nat), .bool true])) w' := by
  refine ⟨hb, ?_⟩; rw [h]
theorem MissPost.none {q : QP} {w w' : World} (hb : Below w.heap.size w w') (h : q.misfit = none) : MissPost q w (.returned (.tuple #[.int .i64 0, .bool false])) w' := by
  refine ⟨hb, ?_⟩; rw [h]
set_option maxRecDepth 20000 in
set_option maxHeartbeats 2000000 in
theorem misfit_any (q : QP) (nb z a : Nat) (vl vb : Value) (us : List Value) (vss : List (List (Value × Value))) (w : World) (hP : PAt z a w q vl vb us vss) (hls : q.locals.length ≤ 4000) (hq : QOk nb q) (hbl : q.blocks.length ≤ 4000) (hlines : ∀ j, (q.blocks.getD j []).length ≤ 4000) (E : Env w) :
    Calls Tryz.prog 118 #[.pointer (some ⟨a, 0, none⟩)] w (MissPost q w) := by
  obtain ⟨p0, p1, pf0, pf1⟩ := PAt.facts hP
  have HM : Hid (q.misfit = missIn q (q.blocks.drop 0).flatten) := miss_start q
  obtain ⟨adb, cb, hvb⟩ := own_slice hP.blocks
  subst hvb
  go_enter Tryz.func118, Tryz.ntmps118
  go_wp2
  go_loopg [13] (q.blocks.length) (fun g v13 wr => ∃ j : Nat, j ≤ q.blocks.length ∧ g + j = q.blocks.length ∧ v13 = .int .i64 j ∧ Below w.heap.size w wr ∧ Hid (q.misfit = missIn q (q.blocks.drop j).flatten))
  case atStart => exact ⟨0, Nat.zero_le _, rfl, rfl, Below.refl _ _, HM⟩
  case round =>
    obtain ⟨j, hj, hgj, rfl, hB, HI⟩ := hrel
    by_cases hlt : j < q.blocks.length
    · obtain ⟨gb, cb', ad, c, e, hcb, hgb, hcell, hBk⟩ := blocks_cell (hP.below hB) j hlt
      simp only [Value.slice.injEq, true_and] at e
      obtain ⟨rfl, rfl⟩ := e
      have HI2 : Hid (q.misfit = missIn q (restOf q j 0)) := HI.out.trans (congrArg _ (miss_block q j hlt))
      have hln := hlines j
      have hok : ∀ l ∈ q.blocks.getD j [], LOk q.locals.length nb l := hq.lines _ (by simp [hlt])
      have HN : Hid (restOf q j (q.blocks.getD j []).length = (q.blocks.drop (j + 1)).flatten) := miss_next q j
      have HS : Hid (∀ i, i < (q.blocks.getD j []).length → missIn q (restOf q j i) = if q.fits ((q.blocks.getD j []).getD i QLine.nil) = true then missIn q (restOf q j (i + 1)) else some ((q.blocks.getD j []).getD i QLine.nil).num) := miss_step q j
      generalize q.blocks.getD j [] = blk at *
      generalize vss.getD j [] = vsj at *
      go_wp2
      go_loopg [19] (blk.length) (fun g v19 wn => ∃ i : Nat, i ≤ blk.length ∧ g + i = blk.length ∧ v19 = .int .i64 i ∧ Below w.heap.size w wn ∧ Below wr.heap.size wr wn ∧ Hid (q.misfit = missIn q (restOf q j i)))
      case atStart => exact ⟨0, Nat.zero_le _, rfl, rfl, hB, Below.refl _ _, HI2⟩
      case round =>
        obtain ⟨i, hi, hgi, rfl, hBn, hBrn, HJ⟩ := hrel
        by_cases hli : i < blk.length
        · obtain ⟨gl, ap, cp, an, cn, rfl, -, hcl, hgl, k0, k1, k2, k3, k4, k5, hLA⟩ := block_cells (hBk.below hBrn) i hli
          have hS := HS.out i hli
          have hl := hok (blk.getD i QLine.nil) (by simp [hli])
          generalize blk.getD i QLine.nil = l at *
          have hbL : Below wr.heap.size wr (wr.alloc (.cells #[.int .i64 (l.num : Nat), .int .i64 (l.op : Nat), .slice ap l.places.length cp, .int .i64 l.number, .int .i64 l.flag, .slice an l.next.length cn] 115)) := (Below.refl _ _).alloc (Nat.le_refl _) _
          have hBL := hBn.trans (hbL.mono hBn.size)
          have hPL := (hP.below hBL)
          have KF := fits_any q l nb z a vl _ ap an cp cn _ hPL.blk ⟨_, hPL.locals⟩ hls hl (hLA.below hbL) (E.on hBL)
          have hnum : (wr.alloc (.cells #[.int .i64 (l.num : Nat), .int .i64 (l.op : Nat), .slice ap l.places.length cp, .int .i64 l.number, .int .i64 l.flag, .slice an l.next.length cn] 115)).cell? ⟨wr.heap.size, 0, none⟩ = some (.int .i64 (l.num : Nat)) := by simp
          have hsz : wr.heap.size < (wr.alloc (.cells #[.int .i64 (l.num : Nat), .int .i64 (l.op : Nat), .slice ap l.places.length cp, .int .i64 l.number, .int .i64 l.flag, .slice an l.next.length cn] 115)).heap.size := by simp
          cases hf : q.fits l with
          | false =>
            have hx : q.misfit = some l.num := by rw [HJ.out, hS, hf]; rfl
            rw [hf] at KF
            clear hf hS HS
            go_wp2_with (go_at_call 171; refine KF.mono ?_; rintro e w1 ⟨rfl, hb1⟩; have hnum1 := (hb1.cell (p := ⟨wr.heap.size, 0, none⟩) hsz).trans hnum)
            go_ret2
            exact MissPost.some (hBL.trans (hb1.mono hBL.size)) hx
          | true =>
            have HJ2 : Hid (q.misfit = missIn q (restOf q j (i + 1))) := by unfold Hid; rw [HJ.out, hS, hf]; rfl
            rw [hf] at KF
            clear hf hS HS
            go_wp2_with (go_at_call 171; refine KF.mono ?_; rintro e w1 ⟨rfl, hb1⟩)
            go_roundg (blk.length - (i + 1))
            case measure => omega
            case rel => exact ⟨i + 1, by omega, by omega, by go_num, hBL.trans (hb1.mono hBL.size), (hBrn.trans (hbL.mono hBrn.size)).trans (hb1.mono (Nat.le_trans hBrn.size hbL.size)), HJ2⟩
        · have HI3 : Hid (q.misfit = missIn q (q.blocks.drop (j + 1)).flatten) := by
            unfold Hid
            rw [HJ.out, show i = blk.length by omega, HN.out]
          go_wp2
          go_roundg (q.blocks.length - (j + 1))
          case measure => omega
          case rel => exact ⟨j + 1, by omega, by omega, by go_num, hBn, HI3⟩
    · have hx : q.misfit = none := by rw [HI.out, List.drop_eq_nil_of_le (by omega)]; rfl
      go_wp2
      go_ret2
      exact MissPost.none hB hx
end Go.Proofs.YtmlgajhhnojdjaaGreatDoor.PrjU
/- A block gone through: what it makes of a state as a plain function. -/
namespace Go.Proofs.YtmlgajhhnojdjaaGreatDoor.FlwM
open Go Go.RowKit Go.Proofs.YtmlgajhhnojdjaaGreatDoor.Spec Go.Proofs.YtmlgajhhnojdjaaGreatDoor.Aux Go.Proofs.YtmlgajhhnojdjaaGreatDoor.PrjF Go.Proofs.YtmlgajhhnojdjaaGreatDoor.PrjG Go.Proofs.YtmlgajhhnojdjaaGreatDoor.PrjJ Go.Proofs.YtmlgajhhnojdjaaGreatDoor.PrjK Go.Proofs.YtmlgajhhnojdjaaGreatDoor.PrjL Go.Proofs.YtmlgajhhnojdjaaGreatDoor.PrjM Go.Proofs.YtmlgajhhnojdjaaGreatDoor.PrjO Go.Proofs.YtmlgajhhnojdjaaGreatDoor.PrjP Go.Proofs.YtmlgajhhnojdjaaGreatDoor.PrjS Go.Proofs.YtmlgajhhnojdjaaGreatDoor.PrjU Go.Proofs.YtmlgajhhnojdjaaGreatDoor.FlwA Go.Proofs.YtmlgajhhnojdjaaGreatDoor.FlwB Go.Proofs.YtmlgajhhnojdjaaGreatDoor.FlwC Go.Proofs.YtmlgajhhnojdjaaGreatDoor.FlwD Go.Proofs.YtmlgajhhnojdjaaGreatDoor.FlwE Go.Proofs.YtmlgajhhnojdjaaGreatDoor.FlwF Go.Proofs.YtmlgajhhnojdjaaGreatDoor.FlwG Go.Proofs.YtmlgajhhnojdjaaGreatDoor.FlwH Go.Proofs.YtmlgajhhnojdjaaGreatDoor.FlwI Go.Proofs.YtmlgajhhnojdjaaGreatDoor.FlwJ Go.Proofs.YtmlgajhhnojdjaaGreatDoor.FlwK Go.Proofs.YtmlgajhhnojdjaaGreatDoor.FlwL

/-- a line of a block, and where its rows are -/
theorem block_cells2 {z : Nat} {w : World} {ad : Option Addr} {n c : Nat} {ls : List QLine} {vs : List (Value × Value)} (h : BlockAt z w (.slice ad n c) ls vs) (j : Nat) (hj : j < ls.length) :
    ∃ g ap cp an cn, ad = some ⟨g, 0, none⟩ ∧ n = ls.length ∧ ls.length ≤ c ∧ g < w.heap.size ∧ w.cell? ⟨g, j * 6, none⟩ = some (.int .i64 ((ls.getD j QLine.nil).num : Nat)) ∧ w.cell? ⟨g, j * 6 + 1, none⟩ = some (.int .i64 ((ls.getD j QLine.nil).op : Nat)) ∧ w.cell? ⟨g, j * 6 + 2, none⟩ = some (.slice ap (ls.getD j QLine.nil).places.length cp) ∧
      w.cell? ⟨g, j * 6 + 3, none⟩ = some (.int .i64 (ls.getD j QLine.nil).number) ∧ w.cell? ⟨g, j * 6 + 4, none⟩ = some (.int .i64 (ls.getD j QLine.nil).flag) ∧ w.cell? ⟨g, j * 6 + 5, none⟩ = some (.slice an (ls.getD j QLine.nil).next.length cn) ∧
      vs.getD j (undef, undef) = (.slice ap (ls.getD j QLine.nil).places.length cp, .slice an (ls.getD j QLine.nil).next.length cn) := by
  obtain ⟨g, cap, hv, hc, hg, hcell⟩ := own_cell h.row (by omega)
  simp only [Value.slice.injEq] at hv
  obtain ⟨rfl, rfl, rfl⟩ := hv
  have hE := h.each j hj
  obtain ⟨ap, cp, h1⟩ := own_slice hE.places
  obtain ⟨an, cn, h2⟩ := own_slice hE.next
  have hjv : j < vs.length := by rw [h.len]; exact hj
  have hz : (ls.zip vs)[j]? = some (ls.getD j QLine.nil, vs.getD j (undef, undef)) := by
    simp [List.getElem?_zip_eq_some, hj, hjv]
  have key : ∀ i, i < 6 → w.cell? ⟨g, j * 6 + i, none⟩ = (lineCell (ls.getD j QLine.nil, vs.getD j (undef, undef)))[i]? := fun i hi => by
    rw [hcell _ (by omega), lineCells, flat_get lineCell 6 (fun _ => rfl) _ j i hi, hz]; rfl
  have k0 := key 0 (by decide); have k1 := key 1 (by decide); have k2 := key 2 (by decide); have k3 := key 3 (by decide); have k4 := key 4 (by decide); have k5 := key 5 (by decide)
  refine ⟨g, ap, cp, an, cn, rfl, rfl, hc, hg, k0, k1, ?_, k3, k4, ?_, Prod.ext h1 h2⟩
  · rw [k2]; show some (vs.getD j (undef, undef)).1 = _; rw [h1]
  · rw [k5]; show some (vs.getD j (undef, undef)).2 = _; rw [h2]
theorem blocks_cell2 {z a : Nat} {w : World} {q : QP} {vl vb : Value} {us : List Value} {vss : List (List (Value × Value))} (h : PAt z a w q vl vb us vss) (j : Nat) (hj : j < q.blocks.length) :
    ∃ gb cb ad c, vb = .slice (some ⟨gb, 0, none⟩) q.blocks.length cb ∧ q.blocks.length ≤ cb ∧ gb < w.heap.size ∧ w.cell? ⟨gb, j, none⟩ = some (.slice ad (q.blocks.getD j []).length c) ∧ us.getD j undef = .slice ad (q.blocks.getD j []).length c := by
  obtain ⟨g, cap, hv, hc, hg, hcell⟩ := own_cell h.blocks (by omega)
  obtain ⟨ad, c, e⟩ := block_slice (h.each j hj)
  refine ⟨g, cap, ad, c, hv, hc, hg, ?_, e⟩
  rw [hcell j (by omega), ← e, List.getD_eq_getElem?_getD, List.getElem?_eq_getElem (by rw [h.usl]; exact hj)]; rfl
end Go.Proofs.YtmlgajhhnojdjaaGreatDoor.FlwM
/- A block gone through: goThrough. -/
namespace Go.Proofs.YtmlgajhhnojdjaaGreatDoor.FlwN
theorem hereFlwN : True := trivial
end Go.Proofs.YtmlgajhhnojdjaaGreatDoor.FlwN
/- All ways gone: they come to an end, as bits are only added; whatever holds from step to step holds at the end. -/
namespace Go.Proofs.YtmlgajhhnojdjaaGreatDoor.FlwO
theorem hereFlwO : True := trivial
end Go.Proofs.YtmlgajhhnojdjaaGreatDoor.FlwO
/- The first line of a block that needs what may not be there: faultIn. -/
namespace Go.Proofs.YtmlgajhhnojdjaaGreatDoor.FlwP
theorem hereFlwP : True := trivial
end Go.Proofs.YtmlgajhhnojdjaaGreatDoor.FlwP
/- The first line of all that needs what may not be there: firstFault. -/
namespace Go.Proofs.YtmlgajhhnojdjaaGreatDoor.FlwQ
theorem hereFlwQ : True := trivial
end Go.Proofs.YtmlgajhhnojdjaaGreatDoor.FlwQ
/- All ways of a program, made and gone; its first fault. -/
namespace Go.Proofs.YtmlgajhhnojdjaaGreatDoor.FlwR
theorem hereFlwR : True := trivial
end Go.Proofs.YtmlgajhhnojdjaaGreatDoor.FlwR
/- Plain facts: the ways that were gone to the end are closed, and the least. -/
namespace Go.Proofs.YtmlgajhhnojdjaaGreatDoor.FlwS
open Go Go.Proofs.YtmlgajhhnojdjaaGreatDoor.Spec Go.Proofs.YtmlgajhhnojdjaaGreatDoor.FlwA Go.Proofs.YtmlgajhhnojdjaaGreatDoor.FlwB Go.Proofs.YtmlgajhhnojdjaaGreatDoor.FlwD Go.Proofs.YtmlgajhhnojdjaaGreatDoor.FlwE Go.Proofs.YtmlgajhhnojdjaaGreatDoor.FlwF Go.Proofs.YtmlgajhhnojdjaaGreatDoor.FlwG Go.Proofs.YtmlgajhhnojdjaaGreatDoor.FlwI Go.Proofs.YtmlgajhhnojdjaaGreatDoor.FlwJ Go.Proofs.YtmlgajhhnojdjaaGreatDoor.FlwK Go.Proofs.YtmlgajhhnojdjaaGreatDoor.FlwM Go.Proofs.YtmlgajhhnojdjaaGreatDoor.FlwO Go.Proofs.YtmlgajhhnojdjaaGreatDoor.FlwQ

/-! what a line makes of more is more -/
theorem getD_set1 (s : List Nat) (i v k : Nat) : (s.set i v).getD k 0 = if i = k ∧ k < s.length then v else s.getD k 0 := by
  rw [List.getD_eq_getElem?_getD, List.getElem?_set, List.getD_eq_getElem?_getD]
  by_cases h : i = k
  · subst h
    by_cases h2 : i < s.length
    · simp [h2]
    · simp [h2]
  · rw [if_neg h, if_neg (fun x => h x.1)]
/-! where a block leads, and with what -/
/-! many ways joined -/
/-! what holds from step to step -/
end Go.Proofs.YtmlgajhhnojdjaaGreatDoor.FlwS
/- What the document's own reader answers on places and numbers. No conditions but the strings' lengths. -/
namespace Go.Proofs.YtmlgajhhnojdjaaGreatDoor.RefB
open Go.RowKit Go.Proofs.YtmlgajhhnojdjaaGreatDoor.Spec Go.Proofs.YtmlgajhhnojdjaaGreatDoor.RefA

theorem localOf_le (l : B) : (localOf l).length ≤ l.length := by
  unfold localOf; split <;> simp
theorem isPlace_bs (l : B) (w : World) (h : l.length ≤ maxLen) :
    Calls Tryz.prog 158 #[.string (bs l)] w fun e w' => e = .returned (.bool (isPlace l)) ∧ w' = w := by
  have hl := Nat.le_trans (localOf_le l) h
  have h1 := toList_bs l
  have h2 := toList_bs (localOf l)
  go_enter Tryz.func158, Tryz.ntmps158
  go_wp2_with (first
    | (go_at_call 111; refine (local_bs l _ h).mono ?_; rintro e w' ⟨rfl, rfl⟩)
    | (go_at_call 108; refine (isName_bs _ _ hl).mono ?_; rintro e w' ⟨rfl, rfl⟩)
    | (go_at_call 159; refine (part_bs l _ h).mono ?_; rintro e w' ⟨rfl, rfl⟩))
  all_goals
    go_ret
    refine ⟨ret_bool ?_, rfl⟩
    rw [isPlace_nat, Bool.eq_iff_iff]
    first | (simp [*]; done) | (simp [*]; omega) | simp_all
end Go.Proofs.YtmlgajhhnojdjaaGreatDoor.RefB
/- What the document's own reader answers on numbers. No conditions but the strings' lengths. -/
namespace Go.Proofs.YtmlgajhhnojdjaaGreatDoor.RefC
open Go.RowKit Go.Proofs.YtmlgajhhnojdjaaGreatDoor.Spec Go.Proofs.YtmlgajhhnojdjaaGreatDoor.RefA

theorem ret_num {o : Option Int} {a : Int} {b : Bool} (h : o.getD 0 = a) (h' : o.isSome = b) : Ending.returned (.tuple #[.int .i64 a, .bool b]) = .returned (.tuple #[.int .i64 (o.getD 0), .bool o.isSome]) := by rw [h, h']

theorem numGo_end (m : Int) (d : ByteArray) (k : Nat) (hk : ¬ k < d.size) : numGo m (d.toList.drop k) = some m := by
  rw [List.drop_eq_nil_of_le (by rw [length_toList]; omega)]; rfl
theorem numGo_bad (m : Int) (d : ByteArray) (k : Nat) (hk : k < d.size) (h : d[k].toNat < 48 ∨ 57 < d[k].toNat) : numGo m (d.toList.drop k) = none := by
  rw [List.drop_eq_getElem_cons (by rw [length_toList]; exact hk), ← getElem_toList d k hk, numGo, if_neg]
  simp [digit]; omega
theorem numGo_great (m : Int) (d : ByteArray) (k : Nat) (hk : k < d.size) (h : 1000000000 < 10 * m + ((d[k].toNat : Int) - 48)) : numGo m (d.toList.drop k) = none := by
  rw [List.drop_eq_getElem_cons (by rw [length_toList]; exact hk), ← getElem_toList d k hk, numGo]
  by_cases hd : digit d[k] = true
  · rw [if_pos hd, if_pos h]
  · rw [if_neg hd]
theorem numGo_on (m : Int) (d : ByteArray) (k : Nat) (hk : k < d.size) (h1 : 48 ≤ d[k].toNat) (h2 : d[k].toNat ≤ 57) (h : 10 * m + ((d[k].toNat : Int) - 48) ≤ 1000000000) : numGo m (d.toList.drop k) = numGo (10 * m + ((d[k].toNat : Int) - 48)) (d.toList.drop (k + 1)) := by
  rw [List.drop_eq_getElem_cons (by rw [length_toList]; exact hk), ← getElem_toList d k hk, numGo, if_pos, if_neg (by omega)]
  simp [digit]; omega
theorem unsigned_minus (s : ByteArray) (h : 0 < s.size) (h0 : s[0].toNat = 45) : unsigned s.toList = (s.extract 1 s.size).toList ∧ signed s.toList = true := by
  have e : s.toList = s[0] :: s.toList.drop 1 := by
    conv => lhs; rw [← List.drop_zero (l := s.toList), List.drop_eq_getElem_cons (by rw [length_toList]; exact h), ← getElem_toList s 0 h]
  have h1 : s[0] = 45 := (u8_eq _ 45 (by omega)).mpr h0
  rw [extract_toList]
  constructor
  · rw [e, unsigned, if_pos h1, List.drop_succ_cons, List.drop_zero, List.take_of_length_le (by simp [length_toList])]
  · rw [e, signed]; simp [h1]
theorem unsigned_plain (s : ByteArray) (h : s.size = 0 ∨ ∃ h : 0 < s.size, ¬ s[0].toNat = 45) : unsigned s.toList = s.toList ∧ signed s.toList = false := by
  rcases h with h | ⟨h, h0⟩
  · have : s.toList = [] := List.eq_nil_of_length_eq_zero (by rw [length_toList]; exact h)
    simp [this, unsigned, signed]
  · have e : s.toList = s[0] :: s.toList.drop 1 := by
      conv => lhs; rw [← List.drop_zero (l := s.toList), List.drop_eq_getElem_cons (by rw [length_toList]; exact h), ← getElem_toList s 0 h]
    have h1 : ¬ s[0] = 45 := fun e => h0 ((u8_eq _ 45 (by omega)).mp e)
    constructor
    · conv => lhs; rw [e]
      rw [unsigned, if_neg h1, ← e]
    · rw [e, signed]; simp [h1]

theorem number_stop (s : ByteArray) (d : ByteArray) (hu : unsigned s.toList = d.toList) (h : d.size < 1 ∨ (∃ h : 0 < d.size, d[0].toNat = 48 ∧ ¬ s.toList = [48])) : number s.toList = none := by
  rw [number, if_pos]
  rw [hu, length_toList]
  rcases h with h | ⟨h, h0, h1⟩
  · exact .inl h
  · refine .inr ⟨?_, h1⟩
    rw [List.head?_eq_getElem?, getElem?_toList d 0 h, (u8_eq d[0] 48 (by omega)).mpr h0]
    rfl
theorem number_go (s : ByteArray) (d : ByteArray) (hu : unsigned s.toList = d.toList) (h : 0 < d.size) (h0 : d[0].toNat = 48 → s.toList = [48]) : number s.toList = (numGo 0 d.toList).map fun n => if signed s.toList then -n else n := by
  rw [number, if_neg, hu]
  · cases numGo 0 d.toList <;> rfl
  · rw [hu, length_toList]
    rintro (h' | ⟨h', h2⟩)
    · omega
    · rw [List.head?_eq_getElem?, getElem?_toList d 0 h] at h'
      exact h2 (h0 ((u8_eq d[0] 48 (by omega)).mp (by simpa using h')))


theorem signed_no (s : ByteArray) (h : s.size = 0) : signed s.toList = false := (unsigned_plain s (.inl h)).2
theorem signed_at (s : ByteArray) (h : 0 < s.size) : signed s.toList = decide (s[0].toNat = 45) := by
  by_cases h0 : s[0].toNat = 45
  · rw [(unsigned_minus s h h0).2]; simp [h0]
  · rw [(unsigned_plain s (.inr ⟨h, h0⟩)).2]; simp [h0]
theorem unsigned_yes (s : ByteArray) (h : signed s.toList = true) : unsigned s.toList = (s.extract 1 s.size).toList ∧ 0 < s.size := by
  by_cases h0 : 0 < s.size
  · rw [signed_at s h0] at h
    exact ⟨(unsigned_minus s h0 (by simpa using h)).1, h0⟩
  · rw [signed_no s (by omega)] at h
    cases h
theorem unsigned_no (s : ByteArray) (h : signed s.toList = false) : unsigned s.toList = s.toList := by
  by_cases h0 : 0 < s.size
  · rw [signed_at s h0] at h
    exact (unsigned_plain s (.inr ⟨h0, by simpa using h⟩)).1
  · exact (unsigned_plain s (.inl (by omega))).1

set_option maxHeartbeats 1000000 in
theorem number_any (s : ByteArray) (w : World) (hs : s.size ≤ maxLen) :
    Calls Tryz.prog 112 #[.string s] w fun e w' => e = .returned (.tuple #[.int .i64 ((number s.toList).getD 0), .bool (number s.toList).isSome]) ∧ w' = w := by
  unfold maxLen at hs
  go_enter Tryz.func112, Tryz.ntmps112
  go_upto_region 2 with fail
  go_cut [5] (fun ls wc => wc = w ∧ ls = .bool (signed s.toList))
  case first =>
    by_cases h0 : 0 < s.size
    · have hx : Hid (signed s.toList = decide (s[0].toNat = 45)) := signed_at s h0
      go_wp2
      go_meet
      case rel => exact ⟨rfl, by rw [hx.out]; congr 1; rw [Bool.eq_iff_iff]; simp; omega⟩
    · have hx : Hid (signed s.toList = false) := signed_no s (by omega)
      go_wp2
      go_meet
      case rel => exact ⟨rfl, by rw [hx.out]⟩
  case rest =>
    obtain ⟨rfl, rfl⟩ := hcut
    go_upto_if 17 with fail
    go_cut [4] (fun d wc' => wc' = wc ∧ ∃ d' : ByteArray, d = .string d' ∧ d'.size ≤ 9223372036854775807 ∧ Hid (unsigned s.toList = d'.toList))
    case first =>
      by_cases hg : signed s.toList = true
      · have hu := unsigned_yes s hg
        obtain ⟨hu1, hu2⟩ := hu
        have HU : Hid (unsigned s.toList = (s.extract 1 s.size).toList) := hu1
        clear hu1
        go_wp2
        · go_meet
          case rel => exact ⟨rfl, _, rfl, by simp; omega, HU⟩
        · exact absurd hg (by simp [‹signed s.toList = false›])
      · have HU : Hid (unsigned s.toList = s.toList) := unsigned_no s (by simpa using hg)
        go_wp2
        go_meet
        case rel => exact ⟨rfl, _, rfl, by omega, HU⟩
    case rest =>
      obtain ⟨rfl, d, rfl, hsz, HU⟩ := hcut
      by_cases hz : d.size = 0
      · have hn : Hid (number s.toList = none) := number_stop s _ HU.out (.inl (by omega))
        go_wp2
        go_ret2
        exact ⟨ret_num (by rw [hn.out]; rfl) (by rw [hn.out]; rfl), rfl⟩
      have hz1 : 0 < d.size := by omega
      clear hz
      by_cases hq : d[0].toNat = 48 ∧ ¬ s.toList = [48]
      · have hn : Hid (number s.toList = none) := number_stop s _ HU.out (.inr ⟨by omega, hq⟩)
        obtain ⟨hq1, hq2⟩ := hq
        have hb : (s.toList == [48]) = false := by simpa using hq2
        clear hq2
        go_wp2
        go_ret2
        exact ⟨ret_num (by rw [hn.out]; rfl) (by rw [hn.out]; rfl), rfl⟩
      have Hq : d[0].toNat = 48 → s.toList = [48] := fun e => by
        by_cases h' : s.toList = [48]
        · exact h'
        · exact absurd ⟨e, h'⟩ hq
      clear hq
      have hn : Hid (number s.toList = (numGo 0 d.toList).map fun n => if signed s.toList then -n else n) := number_go s _ HU.out (by omega) Hq
      go_upto_region 5 with fail
      go_cut [31] (fun b wc' => wc' = wc ∧ b = .bool false)
      case first =>
        by_cases hc : d[0].toNat = 48
        · have hb : (s.toList == [48]) = true := by simp [Hq hc]
          clear Hq
          go_wp2
          go_meet
          case rel => exact ⟨rfl, by congr 1; simp; omega⟩
        · clear Hq
          go_wp2
          go_meet
          case rel => exact ⟨rfl, by congr 1; simp; omega⟩
      case rest =>
        obtain ⟨rfl, rfl⟩ := hcut
        clear Hq
        go_wp2
        go_loop [6, 7] (fun n i => ∃ (k : Nat) (m : Int), k ≤ d.size ∧ i = .int .i64 k ∧ n = .int .i64 m ∧ 0 ≤ m ∧ m ≤ 1000000000 ∧ Hid (numGo 0 d.toList = numGo m (d.toList.drop k))) (fun _ i => d.size - (intOf i).toNat)
        case atStart => exact ⟨0, 0, Nat.zero_le _, rfl, rfl, by omega, by omega, rfl⟩
        case round =>
          obtain ⟨k, m, hk, rfl, rfl, hm0, hm1, HM⟩ := hrel
          by_cases hlt : k < d.size
          · go_wp2
            · go_ret2
              have hx : number s.toList = none := by rw [hn.out, HM.out, numGo_bad m _ k hlt (by omega)]; rfl
              exact ⟨ret_num (by rw [hx]; rfl) (by rw [hx]; rfl), rfl⟩
            · go_ret2
              have hx : number s.toList = none := by rw [hn.out, HM.out, numGo_great m _ k hlt (by omega)]; rfl
              exact ⟨ret_num (by rw [hx]; rfl) (by rw [hx]; rfl), rfl⟩
            · go_round
              case rel => exact ⟨k + 1, 10 * m + ((d[k].toNat : Int) - 48), by omega, by go_num, by go_num, by omega, by omega, by rw [HM.out]; exact numGo_on m _ k hlt (by omega) (by omega) (by omega)⟩
              case measure => simp [intOf]; omega
            · go_ret2
              have hx : number s.toList = none := by rw [hn.out, HM.out, numGo_bad m _ k hlt (by omega)]; rfl
              exact ⟨ret_num (by rw [hx]; rfl) (by rw [hx]; rfl), rfl⟩
          · go_wp2
            · go_ret2
              have hx : number s.toList = some (-m) := by rw [hn.out, HM.out, numGo_end m _ k hlt, ‹signed s.toList = true›]; rfl
              exact ⟨ret_num (by rw [hx]; rfl) (by rw [hx]; rfl), rfl⟩
            · go_ret2
              have hx : number s.toList = some m := by rw [hn.out, HM.out, numGo_end m _ k hlt, ‹signed s.toList = false›]; rfl
              exact ⟨ret_num (by rw [hx]; rfl) (by rw [hx]; rfl), rfl⟩
theorem number_bs (l : B) (w : World) (h : l.length ≤ maxLen) :
    Calls Tryz.prog 112 #[.string (bs l)] w fun e w' => e = .returned (.tuple #[.int .i64 ((number l).getD 0), .bool (number l).isSome]) ∧ w' = w := by
  have := number_any (bs l) w (by rw [size_bs]; exact h)
  rwa [toList_bs] at this
end Go.Proofs.YtmlgajhhnojdjaaGreatDoor.RefC
/- What the document's own reader answers on a line's first word: what stands behind it; and whether a word may stand for a kind. No conditions but the strings' lengths. -/
namespace Go.Proofs.YtmlgajhhnojdjaaGreatDoor.RefD
open Go.RowKit Go.Proofs.YtmlgajhhnojdjaaGreatDoor.Spec Go.Proofs.YtmlgajhhnojdjaaGreatDoor.RefA Go.Proofs.YtmlgajhhnojdjaaGreatDoor.RefB Go.Proofs.YtmlgajhhnojdjaaGreatDoor.RefC

def known : List B := [[115, 101, 116], [97, 100, 100], [115, 117, 98], [109, 117, 108], [100, 105, 118], [105, 110], [111, 117, 116], [101, 110, 100], [110, 101, 119], [115, 116, 111, 114, 101], [108, 111, 97, 100], [109, 111, 118, 101], [110, 111, 110, 101], [115, 111, 109, 101], [103, 111, 116, 111], [105, 102], [109, 97, 116, 99, 104], [100, 114, 111, 112], [102, 114, 101, 101], [102, 108, 97, 103], [116, 101, 115, 116]]
theorem ret_beh {a b : ByteArray} {x y : Bool} (h : a = b) (h' : x = y) : Ending.returned (.tuple #[.string a, .bool x]) = .returned (.tuple #[.string b, .bool y]) := by rw [h, h']
theorem behind_not (l : B) (r : Bool) (h : l ∉ known) : behind l r = ([], false) := by
  simp only [known, List.mem_cons, List.not_mem_nil, or_false, not_or] at h
  simp [behind, h]

set_option maxHeartbeats 2000000 in
theorem behind_known (l : B) (r : Bool) (w : World) (h : l ∈ known) :
    Calls Tryz.prog 87 #[.string (bs l), .bool r] w fun e w' => e = .returned (.tuple #[.string (bs (behind l r).1), .bool (behind l r).2]) ∧ w' = w := by
  have ht := toList_bs l
  simp only [known, List.mem_cons, List.not_mem_nil, or_false] at h
  rcases h with rfl | rfl | rfl | rfl | rfl | rfl | rfl | rfl | rfl | rfl | rfl | rfl | rfl | rfl | rfl | rfl | rfl | rfl | rfl | rfl | rfl
  all_goals
    go_enter Tryz.func87, Tryz.ntmps87
    go_wp2
    go_ret2
    exact ⟨ret_beh (by simp [behind, bs]) (by simp [behind]), rfl⟩
set_option maxHeartbeats 2000000 in
theorem behind_other (l : B) (r : Bool) (w : World) (h : l ∉ known) :
    Calls Tryz.prog 87 #[.string (bs l), .bool r] w fun e w' => e = .returned (.tuple #[.string (bs (behind l r).1), .bool (behind l r).2]) ∧ w' = w := by
  have ht := toList_bs l
  rw [behind_not l r h]
  have h' : ∀ x ∈ known, (l == x) = false := fun x hx => beq_eq_false_iff_ne.mpr (fun e => h (e ▸ hx))
  clear h
  simp only [known, List.forall_mem_cons, List.not_mem_nil, false_implies, implies_true, and_true] at h'
  obtain ⟨h1, h2, h3, h4, h5, h6, h7, h8, h9, h10, h11, h12, h13, h14, h15, h16, h17, h18, h19, h20, h21⟩ := h'
  go_enter Tryz.func87, Tryz.ntmps87
  go_wp2
  go_ret2
  exact ⟨rfl, rfl⟩
theorem behind_bs (l : B) (r : Bool) (w : World) :
    Calls Tryz.prog 87 #[.string (bs l), .bool r] w fun e w' => e = .returned (.tuple #[.string (bs (behind l r).1), .bool (behind l r).2]) ∧ w' = w := by
  by_cases h : l ∈ known
  · exact behind_known l r w h
  · exact behind_other l r w h

theorem u8_beq (k : UInt8) (n : Nat) (hn : n < 256) : ((k.toNat : Int) == (n : Int)) = decide (k = UInt8.ofNat n) := by
  rw [Bool.eq_iff_iff, decide_eq_true_eq, u8_eq k n hn]; simp; omega
theorem wordOf_nat (k : UInt8) (l : B) : wordOf k l =
    if ((k.toNat : Int) == 105) = true ∨ ((k.toNat : Int) == 111) = true then isName l
    else if ((k.toNat : Int) == 112) = true ∨ ((k.toNat : Int) == 109) = true ∨ ((k.toNat : Int) == 100) = true then isPlace l
    else if ((k.toNat : Int) == 110) = true then (number l).isSome
    else if ((k.toNat : Int) == 78) = true then (number l).isSome && decide (0 ≤ (number l).getD 0)
    else if ((k.toNat : Int) == 102) = true then (number l).isSome && decide (0 ≤ (number l).getD 0) && decide ((number l).getD 0 < 50)
    else (number l).isSome && (decide ((number l).getD 0 = 0) || decide ((number l).getD 0 = 1)) := by
  have e := fun n hn => u8_beq k n hn
  have e1 := e 105 (by omega); have e2 := e 111 (by omega); have e3 := e 112 (by omega); have e4 := e 109 (by omega); have e5 := e 100 (by omega)
  have e6 := e 110 (by omega); have e7 := e 78 (by omega); have e8 := e 102 (by omega)
  simp only [Int.cast_ofNat_Int] at e1 e2 e3 e4 e5 e6 e7 e8
  rw [e1, e2, e3, e4, e5, e6, e7, e8]
  simp only [decide_eq_true_eq, wordOf]
  cases number l <;> rfl
theorem wordOf_bs (k : UInt8) (l : B) (w : World) (h : l.length ≤ maxLen) :
    Calls Tryz.prog 109 #[.int .u8 k.toNat, .string (bs l)] w fun e w' => e = .returned (.bool (wordOf k l)) ∧ w' = w := by
  go_enter Tryz.func109, Tryz.ntmps109
  go_wp2_with (first
    | (go_at_call 112; refine (number_bs l _ h).mono ?_; rintro e w' ⟨rfl, rfl⟩)
    | (go_at_call 108; refine (isName_bs _ _ h).mono ?_; rintro e w' ⟨rfl, rfl⟩)
    | (go_at_call 158; refine (isPlace_bs l _ h).mono ?_; rintro e w' ⟨rfl, rfl⟩))
  all_goals
    go_ret
    refine ⟨ret_bool ?_, rfl⟩
    go_light
    rw [wordOf_nat]
    first | (simp [*]; done) | (simp [*]; omega) | (rw [Bool.eq_iff_iff]; simp [*]; done) | (rw [Bool.eq_iff_iff]; simp [*]; omega)
end Go.Proofs.YtmlgajhhnojdjaaGreatDoor.RefD
