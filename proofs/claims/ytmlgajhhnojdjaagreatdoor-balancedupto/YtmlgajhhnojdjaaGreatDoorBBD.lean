/- What the project's reader answers on the first line with something of another type than must be. -/
import Derived.Test.YtmlgajhhnojdjaaGreatDoorBAQ
import Derived.Test.YtmlgajhhnojdjaaGreatDoorBBC
import Derived.Deep.LoopGhost
import Derived.Test.YtmlgajhhnojdjaaGreatDoorBBB
namespace Go.Proofs.YtmlgajhhnojdjaaGreatDoor.PrjU
open Go Go.RowKit Go.Proofs.YtmlgajhhnojdjaaGreatDoor.Spec Go.Proofs.YtmlgajhhnojdjaaGreatDoor.Aux Go.Proofs.YtmlgajhhnojdjaaGreatDoor.PrjF Go.Proofs.YtmlgajhhnojdjaaGreatDoor.PrjG Go.Proofs.YtmlgajhhnojdjaaGreatDoor.PrjH Go.Proofs.YtmlgajhhnojdjaaGreatDoor.PrjI Go.Proofs.YtmlgajhhnojdjaaGreatDoor.PrjJ Go.Proofs.YtmlgajhhnojdjaaGreatDoor.PrjK Go.Proofs.YtmlgajhhnojdjaaGreatDoor.PrjL Go.Proofs.YtmlgajhhnojdjaaGreatDoor.PrjM Go.Proofs.YtmlgajhhnojdjaaGreatDoor.PrjN Go.Proofs.YtmlgajhhnojdjaaGreatDoor.PrjO Go.Proofs.YtmlgajhhnojdjaaGreatDoor.PrjP Go.Proofs.YtmlgajhhnojdjaaGreatDoor.PrjQ Go.Proofs.YtmlgajhhnojdjaaGreatDoor.PrjR Go.Proofs.YtmlgajhhnojdjaaGreatDoor.PrjS Go.Proofs.YtmlgajhhnojdjaaGreatDoor.PrjT

/-- a block of lines in memory, line by line -/
theorem block_slice {z : Nat} {w : World} {v : Value} {ls : List QLine} {vs : List (Value × Value)} (h : BlockAt z w v ls vs) : ∃ ad c, v = .slice ad ls.length c := own_slice h.row
theorem block_cells {z : Nat} {w : World} {ad : Option Addr} {n c : Nat} {ls : List QLine} {vs : List (Value × Value)} (h : BlockAt z w (.slice ad n c) ls vs) (j : Nat) (hj : j < ls.length) :
    ∃ g ap cp an cn, ad = some ⟨g, 0, none⟩ ∧ n = ls.length ∧ ls.length ≤ c ∧ g < w.heap.size ∧ w.cell? ⟨g, j * 6, none⟩ = some (.int .i64 ((ls.getD j QLine.nil).num : Nat)) ∧ w.cell? ⟨g, j * 6 + 1, none⟩ = some (.int .i64 ((ls.getD j QLine.nil).op : Nat)) ∧ w.cell? ⟨g, j * 6 + 2, none⟩ = some (.slice ap (ls.getD j QLine.nil).places.length cp) ∧
      w.cell? ⟨g, j * 6 + 3, none⟩ = some (.int .i64 (ls.getD j QLine.nil).number) ∧ w.cell? ⟨g, j * 6 + 4, none⟩ = some (.int .i64 (ls.getD j QLine.nil).flag) ∧ w.cell? ⟨g, j * 6 + 5, none⟩ = some (.slice an (ls.getD j QLine.nil).next.length cn) ∧
      LineAt z w (ls.getD j QLine.nil) (.slice ap (ls.getD j QLine.nil).places.length cp) (.slice an (ls.getD j QLine.nil).next.length cn) := by
  obtain ⟨g, cap, hv, hc, hg, hcell⟩ := own_cell h.row (by omega)
  simp only [Value.slice.injEq] at hv
  obtain ⟨rfl, rfl, rfl⟩ := hv
  have hE := h.each j hj
  obtain ⟨ap, cp, h1⟩ := own_slice hE.places
  obtain ⟨an, cn, h2⟩ := own_slice hE.next
  have hjv : j < vs.length := by rw [h.len]; exact hj
  have hz : (ls.zip vs)[j]? = some (ls.getD j QLine.nil, vs.getD j (undef, undef)) := by
    simp [List.getElem?_zip_eq_some, hj, hjv]
  have key : ∀ i, i < 6 → w.cell? ⟨g, j * 6 + i, none⟩ = (lineCell (ls.getD j QLine.nil, vs.getD j (undef, undef)))[i]? := fun i hi => by
    rw [hcell _ (by omega), lineCells, flat_get lineCell 6 (fun _ => rfl) _ j i hi, hz]; rfl
  have k0 := key 0 (by decide); have k1 := key 1 (by decide); have k2 := key 2 (by decide); have k3 := key 3 (by decide); have k4 := key 4 (by decide); have k5 := key 5 (by decide)
  rw [h1, h2] at hE
  refine ⟨g, ap, cp, an, cn, rfl, rfl, hc, hg, k0, k1, ?_, k3, k4, ?_, hE⟩
  · rw [k2]; show some (vs.getD j (undef, undef)).1 = _; rw [h1]
  · rw [k5]; show some (vs.getD j (undef, undef)).2 = _; rw [h2]
/-- block j of a program -/
theorem blocks_cell {z a : Nat} {w : World} {q : QP} {vl vb : Value} {us : List Value} {vss : List (List (Value × Value))} (h : PAt z a w q vl vb us vss) (j : Nat) (hj : j < q.blocks.length) :
    ∃ gb cb ad c, vb = .slice (some ⟨gb, 0, none⟩) q.blocks.length cb ∧ q.blocks.length ≤ cb ∧ gb < w.heap.size ∧ w.cell? ⟨gb, j, none⟩ = some (.slice ad (q.blocks.getD j []).length c) ∧ BlockAt z w (.slice ad (q.blocks.getD j []).length c) (q.blocks.getD j []) (vss.getD j []) := by
  obtain ⟨g, cap, hv, hc, hg, hcell⟩ := own_cell h.blocks (by omega)
  have hE := h.each j hj
  obtain ⟨ad, c, e⟩ := block_slice hE
  rw [e] at hE
  refine ⟨g, cap, ad, c, hv, hc, hg, ?_, hE⟩
  rw [hcell j (by omega), ← e, List.getD_eq_getElem?_getD, List.getElem?_eq_getElem (by rw [h.usl]; exact hj)]; rfl
/-- what is still to be looked at -/
def restOf (q : QP) (j i : Nat) : List QLine := ((q.blocks.getD j []).drop i) ++ (q.blocks.drop (j + 1)).flatten
def missIn (q : QP) (l : List QLine) : Option Nat := (l.find? fun l => !q.fits l).map (·.num)
theorem miss_start (q : QP) : q.misfit = missIn q (q.blocks.drop 0).flatten := rfl
theorem miss_block (q : QP) (j : Nat) (hj : j < q.blocks.length) : (q.blocks.drop j).flatten = restOf q j 0 := by
  rw [List.drop_eq_getElem_cons hj, List.flatten_cons, restOf, List.drop_zero]
  simp [hj]
theorem miss_step (q : QP) (j i : Nat) (hi : i < (q.blocks.getD j []).length) : missIn q (restOf q j i) = if q.fits ((q.blocks.getD j []).getD i QLine.nil) = true then missIn q (restOf q j (i + 1)) else some ((q.blocks.getD j []).getD i QLine.nil).num := by
  rw [missIn, restOf, List.drop_eq_getElem_cons hi, List.cons_append, List.find?_cons]
  have : (q.blocks.getD j []).getD i QLine.nil = (q.blocks.getD j [])[i] := by rw [List.getD_eq_getElem?_getD, List.getElem?_eq_getElem hi]; rfl
  rw [this]
  cases q.fits (q.blocks.getD j [])[i]
  · rfl
  · rfl
theorem miss_next (q : QP) (j : Nat) : restOf q j (q.blocks.getD j []).length = (q.blocks.drop (j + 1)).flatten := by
  rw [restOf, List.drop_length]; rfl
def MissPost (q : QP) (w : World) (e : Ending) (w' : World) : Prop :=
  Below w.heap.size w w' ∧ match q.misfit with
    | some k => e = .returned (.tuple #[.int .i64 (k : Nat), .bool true])
    | none => e = .returned (.tuple #[.int .i64 0, .bool false])
theorem MissPost.some {q : QP} {w w' : World} {k : Nat} (hb : Below w.heap.size w w') (h : q.misfit = some k) : MissPost q w (.returned (.tuple #[.int .i64 (k : Nat), .bool true])) w' := by
  refine ⟨hb, ?_⟩; rw [h]
theorem MissPost.none {q : QP} {w w' : World} (hb : Below w.heap.size w w') (h : q.misfit = none) : MissPost q w (.returned (.tuple #[.int .i64 0, .bool false])) w' := by
  refine ⟨hb, ?_⟩; rw [h]
set_option maxRecDepth 20000 in
set_option maxHeartbeats 2000000 in
theorem misfit_any (q : QP) (nb z a : Nat) (vl vb : Value) (us : List Value) (vss : List (List (Value × Value))) (w : World) (hP : PAt z a w q vl vb us vss) (hls : q.locals.length ≤ 4000) (hq : QOk nb q) (hbl : q.blocks.length ≤ 4000) (hlines : ∀ j, (q.blocks.getD j []).length ≤ 4000) (E : Env w) :
    Calls Tryz.prog 118 #[.pointer (some ⟨a, 0, none⟩)] w (MissPost q w) := by
  obtain ⟨p0, p1, pf0, pf1⟩ := PAt.facts hP
  have HM : Hid (q.misfit = missIn q (q.blocks.drop 0).flatten) := miss_start q
  obtain ⟨adb, cb, hvb⟩ := own_slice hP.blocks
  subst hvb
  go_enter Tryz.func118, Tryz.ntmps118
  go_wp2
  go_loopg [13] (q.blocks.length) (fun g v13 wr => ∃ j : Nat, j ≤ q.blocks.length ∧ g + j = q.blocks.length ∧ v13 = .int .i64 j ∧ Below w.heap.size w wr ∧ Hid (q.misfit = missIn q (q.blocks.drop j).flatten))
  case atStart => exact ⟨0, Nat.zero_le _, rfl, rfl, Below.refl _ _, HM⟩
  case round =>
    obtain ⟨j, hj, hgj, rfl, hB, HI⟩ := hrel
    by_cases hlt : j < q.blocks.length
    · obtain ⟨gb, cb', ad, c, e, hcb, hgb, hcell, hBk⟩ := blocks_cell (hP.below hB) j hlt
      simp only [Value.slice.injEq, true_and] at e
      obtain ⟨rfl, rfl⟩ := e
      have HI2 : Hid (q.misfit = missIn q (restOf q j 0)) := HI.out.trans (congrArg _ (miss_block q j hlt))
      have hln := hlines j
      have hok : ∀ l ∈ q.blocks.getD j [], LOk q.locals.length nb l := hq.lines _ (by simp [hlt])
      have HN : Hid (restOf q j (q.blocks.getD j []).length = (q.blocks.drop (j + 1)).flatten) := miss_next q j
      have HS : Hid (∀ i, i < (q.blocks.getD j []).length → missIn q (restOf q j i) = if q.fits ((q.blocks.getD j []).getD i QLine.nil) = true then missIn q (restOf q j (i + 1)) else some ((q.blocks.getD j []).getD i QLine.nil).num) := miss_step q j
      generalize q.blocks.getD j [] = blk at *
      generalize vss.getD j [] = vsj at *
      go_wp2
      go_loopg [19] (blk.length) (fun g v19 wn => ∃ i : Nat, i ≤ blk.length ∧ g + i = blk.length ∧ v19 = .int .i64 i ∧ Below w.heap.size w wn ∧ Below wr.heap.size wr wn ∧ Hid (q.misfit = missIn q (restOf q j i)))
      case atStart => exact ⟨0, Nat.zero_le _, rfl, rfl, hB, Below.refl _ _, HI2⟩
      case round =>
        obtain ⟨i, hi, hgi, rfl, hBn, hBrn, HJ⟩ := hrel
        by_cases hli : i < blk.length
        · obtain ⟨gl, ap, cp, an, cn, rfl, -, hcl, hgl, k0, k1, k2, k3, k4, k5, hLA⟩ := block_cells (hBk.below hBrn) i hli
          have hS := HS.out i hli
          have hl := hok (blk.getD i QLine.nil) (by simp [hli])
          generalize blk.getD i QLine.nil = l at *
          have hbL : Below wr.heap.size wr (wr.alloc (.cells #[.int .i64 (l.num : Nat), .int .i64 (l.op : Nat), .slice ap l.places.length cp, .int .i64 l.number, .int .i64 l.flag, .slice an l.next.length cn] 115)) := (Below.refl _ _).alloc (Nat.le_refl _) _
          have hBL := hBn.trans (hbL.mono hBn.size)
          have hPL := (hP.below hBL)
          have KF := fits_any q l nb z a vl _ ap an cp cn _ hPL.blk ⟨_, hPL.locals⟩ hls hl (hLA.below hbL) (E.on hBL)
          have hnum : (wr.alloc (.cells #[.int .i64 (l.num : Nat), .int .i64 (l.op : Nat), .slice ap l.places.length cp, .int .i64 l.number, .int .i64 l.flag, .slice an l.next.length cn] 115)).cell? ⟨wr.heap.size, 0, none⟩ = some (.int .i64 (l.num : Nat)) := by simp
          have hsz : wr.heap.size < (wr.alloc (.cells #[.int .i64 (l.num : Nat), .int .i64 (l.op : Nat), .slice ap l.places.length cp, .int .i64 l.number, .int .i64 l.flag, .slice an l.next.length cn] 115)).heap.size := by simp
          cases hf : q.fits l with
          | false =>
            have hx : q.misfit = some l.num := by rw [HJ.out, hS, hf]; rfl
            rw [hf] at KF
            clear hf hS HS
            go_wp2_with (go_at_call 171; refine KF.mono ?_; rintro e w1 ⟨rfl, hb1⟩; have hnum1 := (hb1.cell (p := ⟨wr.heap.size, 0, none⟩) hsz).trans hnum)
            go_ret2
            exact MissPost.some (hBL.trans (hb1.mono hBL.size)) hx
          | true =>
            have HJ2 : Hid (q.misfit = missIn q (restOf q j (i + 1))) := by unfold Hid; rw [HJ.out, hS, hf]; rfl
            rw [hf] at KF
            clear hf hS HS
            go_wp2_with (go_at_call 171; refine KF.mono ?_; rintro e w1 ⟨rfl, hb1⟩)
            go_roundg (blk.length - (i + 1))
            case measure => omega
            case rel => exact ⟨i + 1, by omega, by omega, by go_num, hBL.trans (hb1.mono hBL.size), (hBrn.trans (hbL.mono hBrn.size)).trans (hb1.mono (Nat.le_trans hBrn.size hbL.size)), HJ2⟩
        · have HI3 : Hid (q.misfit = missIn q (q.blocks.drop (j + 1)).flatten) := by
            unfold Hid
            rw [HJ.out, show i = blk.length by omega, HN.out]
          go_wp2
          go_roundg (q.blocks.length - (j + 1))
          case measure => omega
          case rel => exact ⟨j + 1, by omega, by omega, by go_num, hBn, HI3⟩
    · have hx : q.misfit = none := by rw [HI.out, List.drop_eq_nil_of_le (by omega)]; rfl
      go_wp2
      go_ret2
      exact MissPost.none hB hx
end Go.Proofs.YtmlgajhhnojdjaaGreatDoor.PrjU
/- A block gone through: what it makes of a state as a plain function. -/
namespace Go.Proofs.YtmlgajhhnojdjaaGreatDoor.FlwM
open Go Go.RowKit Go.Proofs.YtmlgajhhnojdjaaGreatDoor.Spec Go.Proofs.YtmlgajhhnojdjaaGreatDoor.Aux Go.Proofs.YtmlgajhhnojdjaaGreatDoor.PrjF Go.Proofs.YtmlgajhhnojdjaaGreatDoor.PrjG Go.Proofs.YtmlgajhhnojdjaaGreatDoor.PrjJ Go.Proofs.YtmlgajhhnojdjaaGreatDoor.PrjK Go.Proofs.YtmlgajhhnojdjaaGreatDoor.PrjL Go.Proofs.YtmlgajhhnojdjaaGreatDoor.PrjM Go.Proofs.YtmlgajhhnojdjaaGreatDoor.PrjO Go.Proofs.YtmlgajhhnojdjaaGreatDoor.PrjP Go.Proofs.YtmlgajhhnojdjaaGreatDoor.PrjS Go.Proofs.YtmlgajhhnojdjaaGreatDoor.PrjU Go.Proofs.YtmlgajhhnojdjaaGreatDoor.FlwA Go.Proofs.YtmlgajhhnojdjaaGreatDoor.FlwB Go.Proofs.YtmlgajhhnojdjaaGreatDoor.FlwC Go.Proofs.YtmlgajhhnojdjaaGreatDoor.FlwD Go.Proofs.YtmlgajhhnojdjaaGreatDoor.FlwE Go.Proofs.YtmlgajhhnojdjaaGreatDoor.FlwF Go.Proofs.YtmlgajhhnojdjaaGreatDoor.FlwG Go.Proofs.YtmlgajhhnojdjaaGreatDoor.FlwH Go.Proofs.YtmlgajhhnojdjaaGreatDoor.FlwI Go.Proofs.YtmlgajhhnojdjaaGreatDoor.FlwJ Go.Proofs.YtmlgajhhnojdjaaGreatDoor.FlwK Go.Proofs.YtmlgajhhnojdjaaGreatDoor.FlwL

theorem sok_set {s : List Nat} (h : SOk s) (k : Nat) {v : Nat} (hv : v < 16) : SOk (s.set k v) :=
  ⟨by simpa using h.len, fun i => by
    rw [List.getD_eq_getElem?_getD, List.getElem?_set]
    split
    · split
      · exact hv
      · decide
    · have := h.lt i; rwa [List.getD_eq_getElem?_getD] at this⟩
theorem putL_ok {m : Nat} (hm : m < 16) : ∀ (ps : List (Nat × Nat)) {s : List Nat}, SOk s → SOk (putL m ps s)
  | [], _, h => h
  | x :: ps, s, h => putL_ok hm ps (s := s.set (slotQ x) m) (sok_set h _ hm)
theorem takeL_ok : ∀ (ps : List (Nat × Nat)) {s : List Nat}, SOk s → SOk (takeL ps s)
  | [], _, h => h
  | x :: ps, s, h => takeL_ok ps (s := s.set (slotQ x) (if x.2 = 3 then 8 else 1)) (sok_set h _ (by split <;> decide))
theorem movedL_lt (q : QP) (x : Nat × Nat) {s : List Nat} (h : SOk s) : movedL q x s < 16 := by
  unfold movedL; split
  · exact h.lt _
  · decide
theorem takeQ_ok (q : QP) (l : QLine) {s : List Nat} (h : SOk s) : SOk (takeQ q l s) := by
  unfold takeQ; split
  · exact takeL_ok _ h
  · split
    · exact takeL_ok _ h
    · exact h
theorem passQ_ok (q : QP) (l : QLine) {s : List Nat} (h : SOk s) : SOk (passQ q l s) := by
  have ht := takeQ_ok q l h
  unfold passQ
  repeat' split
  · exact putL_ok (by decide) _ ht
  · exact putL_ok (movedL_lt q _ h) _ ht
  · exact putL_ok (by decide) _ ht
  · exact takeL_ok _ ht
  · exact ht
/-- what is led on with to the i-th block that a line names -/
def stepS (l : QLine) (i : Nat) (s : List Nat) : List Nat := if l.op = 20 then putL (if i = 0 then 4 else 2) [l.places.getD 0 (0, 0)] s else s
theorem stepS_ok (l : QLine) (i : Nat) {s : List Nat} (h : SOk s) : SOk (stepS l i s) := by
  unfold stepS; split
  · exact putL_ok (by split <;> decide) _ h
  · exact h
abbrev St := List Nat × List (List Nat) × (Nat → Bool)
def goNext (l : QLine) : List Nat → Nat → St → St
  | [], _, t => t
  | n :: ns, i, t => goNext l ns (i + 1) (stepS l i t.1, leadE t.2.1 n (stepS l i t.1), leadO t.2.1 t.2.2 n (stepS l i t.1))
def goLines (q : QP) : List QLine → St → St
  | [], t => t
  | l :: ls, t => goLines q ls (goNext l l.next 0 (passQ q l t.1, t.2))
def goBlk (q : QP) (E : List (List Nat)) (O : Nat → Bool) (b : Nat) : St := goLines q (q.blocks.getD b []) (E.getD b [], E, O)
theorem goLines_step (q : QP) (ls : List QLine) (i : Nat) (hi : i < ls.length) (t : St) : goLines q (ls.drop i) t = goLines q (ls.drop (i + 1)) (goNext (ls.getD i QLine.nil) (ls.getD i QLine.nil).next 0 (passQ q (ls.getD i QLine.nil) t.1, t.2)) := by
  rw [List.drop_eq_getElem_cons hi]
  have : ls.getD i QLine.nil = ls[i] := by simp [hi]
  rw [this]; rfl
theorem goNext_step (l : QLine) (ns : List Nat) (i : Nat) (hi : i < ns.length) (t : St) : goNext l (ns.drop i) i t = goNext l (ns.drop (i + 1)) (i + 1) (stepS l i t.1, leadE t.2.1 (ns.getD i 0) (stepS l i t.1), leadO t.2.1 t.2.2 (ns.getD i 0) (stepS l i t.1)) := by
  rw [List.drop_eq_getElem_cons hi]
  have : ns.getD i 0 = ns[i] := by simp [hi]
  rw [this]; rfl
/-- a line of a block, and where its rows are -/
theorem block_cells2 {z : Nat} {w : World} {ad : Option Addr} {n c : Nat} {ls : List QLine} {vs : List (Value × Value)} (h : BlockAt z w (.slice ad n c) ls vs) (j : Nat) (hj : j < ls.length) :
    ∃ g ap cp an cn, ad = some ⟨g, 0, none⟩ ∧ n = ls.length ∧ ls.length ≤ c ∧ g < w.heap.size ∧ w.cell? ⟨g, j * 6, none⟩ = some (.int .i64 ((ls.getD j QLine.nil).num : Nat)) ∧ w.cell? ⟨g, j * 6 + 1, none⟩ = some (.int .i64 ((ls.getD j QLine.nil).op : Nat)) ∧ w.cell? ⟨g, j * 6 + 2, none⟩ = some (.slice ap (ls.getD j QLine.nil).places.length cp) ∧
      w.cell? ⟨g, j * 6 + 3, none⟩ = some (.int .i64 (ls.getD j QLine.nil).number) ∧ w.cell? ⟨g, j * 6 + 4, none⟩ = some (.int .i64 (ls.getD j QLine.nil).flag) ∧ w.cell? ⟨g, j * 6 + 5, none⟩ = some (.slice an (ls.getD j QLine.nil).next.length cn) ∧
      vs.getD j (undef, undef) = (.slice ap (ls.getD j QLine.nil).places.length cp, .slice an (ls.getD j QLine.nil).next.length cn) := by
  obtain ⟨g, cap, hv, hc, hg, hcell⟩ := own_cell h.row (by omega)
  simp only [Value.slice.injEq] at hv
  obtain ⟨rfl, rfl, rfl⟩ := hv
  have hE := h.each j hj
  obtain ⟨ap, cp, h1⟩ := own_slice hE.places
  obtain ⟨an, cn, h2⟩ := own_slice hE.next
  have hjv : j < vs.length := by rw [h.len]; exact hj
  have hz : (ls.zip vs)[j]? = some (ls.getD j QLine.nil, vs.getD j (undef, undef)) := by
    simp [List.getElem?_zip_eq_some, hj, hjv]
  have key : ∀ i, i < 6 → w.cell? ⟨g, j * 6 + i, none⟩ = (lineCell (ls.getD j QLine.nil, vs.getD j (undef, undef)))[i]? := fun i hi => by
    rw [hcell _ (by omega), lineCells, flat_get lineCell 6 (fun _ => rfl) _ j i hi, hz]; rfl
  have k0 := key 0 (by decide); have k1 := key 1 (by decide); have k2 := key 2 (by decide); have k3 := key 3 (by decide); have k4 := key 4 (by decide); have k5 := key 5 (by decide)
  refine ⟨g, ap, cp, an, cn, rfl, rfl, hc, hg, k0, k1, ?_, k3, k4, ?_, Prod.ext h1 h2⟩
  · rw [k2]; show some (vs.getD j (undef, undef)).1 = _; rw [h1]
  · rw [k5]; show some (vs.getD j (undef, undef)).2 = _; rw [h2]
theorem blocks_cell2 {z a : Nat} {w : World} {q : QP} {vl vb : Value} {us : List Value} {vss : List (List (Value × Value))} (h : PAt z a w q vl vb us vss) (j : Nat) (hj : j < q.blocks.length) :
    ∃ gb cb ad c, vb = .slice (some ⟨gb, 0, none⟩) q.blocks.length cb ∧ q.blocks.length ≤ cb ∧ gb < w.heap.size ∧ w.cell? ⟨gb, j, none⟩ = some (.slice ad (q.blocks.getD j []).length c) ∧ us.getD j undef = .slice ad (q.blocks.getD j []).length c := by
  obtain ⟨g, cap, hv, hc, hg, hcell⟩ := own_cell h.blocks (by omega)
  obtain ⟨ad, c, e⟩ := block_slice (h.each j hj)
  refine ⟨g, cap, ad, c, hv, hc, hg, ?_, e⟩
  rw [hcell j (by omega), ← e, List.getD_eq_getElem?_getD, List.getElem?_eq_getElem (by rw [h.usl]; exact hj)]; rfl
theorem next_at {z : Nat} {w : World} {an : Option Addr} {cn : Nat} {l : QLine} {vp : Value} (h : LineAt z w l vp (.slice an l.next.length cn)) (j : Nat) (hj : j < l.next.length) :
    ∃ g, an = some ⟨g, 0, none⟩ ∧ l.next.length ≤ cn ∧ g < w.heap.size ∧ w.cell? ⟨g, j, none⟩ = some (.int .i64 ((l.next.getD j 0 : Nat) : Int)) := by
  obtain ⟨g, cap, hv, hc, hg, hcell⟩ := own_cell h.next (by omega)
  simp only [Value.slice.injEq] at hv
  obtain ⟨rfl, -, rfl⟩ := hv
  refine ⟨g, rfl, hc, hg, ?_⟩
  rw [hcell j (by omega)]; simp [intCells, hj]
end Go.Proofs.YtmlgajhhnojdjaaGreatDoor.FlwM
