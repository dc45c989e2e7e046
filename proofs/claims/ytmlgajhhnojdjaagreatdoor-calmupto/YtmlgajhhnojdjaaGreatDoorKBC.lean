/- What the project's reader answers on the first line with something of another type than must be. -/
import Derived.Test.YtmlgajhhnojdjaaGreatDoorKAN
import Derived.Test.YtmlgajhhnojdjaaGreatDoorKBB
import Derived.Deep.LoopGhost
import Derived.Test.YtmlgajhhnojdjaaGreatDoorKBA
import Derived.Deep.DeepCutAuto
namespace Go.Proofs.YtmlgajhhnojdjaaGreatDoor.PrjU
open Go Go.RowKit Go.Proofs.YtmlgajhhnojdjaaGreatDoor.Spec Go.Proofs.YtmlgajhhnojdjaaGreatDoor.Aux Go.Proofs.YtmlgajhhnojdjaaGreatDoor.PrjF Go.Proofs.YtmlgajhhnojdjaaGreatDoor.PrjG Go.Proofs.YtmlgajhhnojdjaaGreatDoor.PrjH Go.Proofs.YtmlgajhhnojdjaaGreatDoor.PrjI Go.Proofs.YtmlgajhhnojdjaaGreatDoor.PrjJ Go.Proofs.YtmlgajhhnojdjaaGreatDoor.PrjK Go.Proofs.YtmlgajhhnojdjaaGreatDoor.PrjL Go.Proofs.YtmlgajhhnojdjaaGreatDoor.PrjM Go.Proofs.YtmlgajhhnojdjaaGreatDoor.PrjN Go.Proofs.YtmlgajhhnojdjaaGreatDoor.PrjO Go.Proofs.YtmlgajhhnojdjaaGreatDoor.PrjP Go.Proofs.YtmlgajhhnojdjaaGreatDoor.PrjQ Go.Proofs.YtmlgajhhnojdjaaGreatDoor.PrjR Go.Proofs.YtmlgajhhnojdjaaGreatDoor.PrjS Go.Proofs.YtmlgajhhnojdjaaGreatDoor.PrjT

/-- a block of lines in memory, line by line -/
theorem block_slice {z : Nat} {w : World} {v : Value} {ls : List QLine} {vs : List (Value × Value)} (h : BlockAt z w v ls vs) : ∃ ad c, v = .slice ad ls.length c := own_slice h.row
theorem block_cells {z : Nat} {w : World} {ad : Option Addr} {n c : Nat} {ls : List QLine} {vs : List (Value × Value)} (h : BlockAt z w (.slice ad n c) ls vs) (j : Nat) (hj : j < ls.length) :
    ∃ g ap cp an cn, ad = some ⟨g, 0, none⟩ ∧ n = ls.length ∧ ls.length ≤ c ∧ g < w.heap.size ∧ w.cell? ⟨g, j * 6, none⟩ = some (.int .i64 ((ls.getD j QLine.nil).num : Nat)) ∧ w.cell? ⟨g, j * 6 + 1, none⟩ = some (.int .i64 ((ls.getD j QLine.nil).op : Nat)) ∧ w.cell? ⟨g, j * 6 + 2, none⟩ = some (.slice ap (ls.getD j QLine.nil).places.length cp) ∧
      w.cell? ⟨g, j * 6 + 3, none⟩ = some (.int .i64 (ls.getD j QLine.nil).number) ∧ w.cell? ⟨g, j * 6 + 4, none⟩ = some (.int .i64 (ls.getD j QLine.nil).flag) ∧ w.cell? ⟨g, j * 6 + 5, none⟩ = some (.slice an (ls.getD j QLine.nil).next.length cn) ∧
      LineAt z w (ls.getD j QLine.nil) (.slice ap (ls.getD j QLine.nil).places.length cp) (.slice an (ls.getD j QLine.nil).next.length cn) := by
  obtain ⟨g, cap, hv, hc, hg, hcell⟩ := own_cell h.row (by omega)
  simp only [Value.slice.injEq] at hv
  obtain ⟨rfl, rfl, rfl⟩ := hv
  have hE := h.each j hj
  obtain ⟨ap, cp, h1⟩ := own_slice hE.places
  obtain ⟨an, cn, h2⟩ := own_slice hE.next
  have hjv : j < vs.length := by rw [h.len]; exact hj
  have hz : (ls.zip vs)[j]? = some (ls.getD j QLine.nil, vs.getD j (undef, undef)) := by
    simp [List.getElem?_zip_eq_some, hj, hjv]
  have key : ∀ i, i < 6 → w.cell? ⟨g, j * 6 + i, none⟩ = (lineCell (ls.getD j QLine.nil, vs.getD j (undef, undef)))[i]? := fun i hi => by
    rw [hcell _ (by omega), lineCells, flat_get lineCell 6 (fun _ => rfl) _ j i hi, hz]; rfl
  have k0 := key 0 (by decide); have k1 := key 1 (by decide); have k2 := key 2 (by decide); have k3 := key 3 (by decide); have k4 := key 4 (by decide); have k5 := key 5 (by decide)
  rw [h1, h2] at hE
  refine ⟨g, ap, cp, an, cn, rfl, rfl, hc, hg, k0, k1, ?_, k3, k4, ?_, hE⟩
  · rw [k2]; show some (vs.getD j (undef, undef)).1 = _; rw [h1]
  · rw [k5]; show some (vs.getD j (undef, undef)).2 = _; rw [h2]
/-- block j of a program -/
theorem blocks_cell {z a : Nat} {w : World} {q : QP} {vl vb : Value} {us : List Value} {vss : List (List (Value × Value))} (h : PAt z a w q vl vb us vss) (j : Nat) (hj : j < q.blocks.length) :
    ∃ gb cb ad c, vb = .slice (some ⟨gb, 0, none⟩) q.blocks.length cb ∧ q.blocks.length ≤ cb ∧ gb < w.heap.size ∧ w.cell? ⟨gb, j, none⟩ = some (.slice ad (q.blocks.getD j []).length c) ∧ BlockAt z w (.slice ad (q.blocks.getD j []).length c) (q.blocks.getD j []) (vss.getD j []) := by
  obtain ⟨g, cap, hv, hc, hg, hcell⟩ := own_cell h.blocks (by omega)
  have hE := h.each j hj
  obtain ⟨ad, c, e⟩ := block_slice hE
  rw [e] at hE
  refine ⟨g, cap, ad, c, hv, hc, hg, ?_, hE⟩
  rw [hcell j (by omega), ← e, List.getD_eq_getElem?_getD, List.getElem?_eq_getElem (by rw [h.usl]; exact hj)]; rfl
/-- what is still to be looked at -/
def restOf (q : QP) (j i : Nat) : List QLine := ((q.blocks.getD j []).drop i) ++ (q.blocks.drop (j + 1)).flatten
def missIn (q : QP) (l : List QLine) : Option Nat := (l.find? fun l => !q.fits l).map (·.num)
theorem miss_start (q : QP) : q.misfit = missIn q (q.blocks.drop 0).flatten := rfl
theorem miss_block (q : QP) (j : Nat) (hj : j < q.blocks.length) : (q.blocks.drop j).flatten = restOf q j 0 := by
  rw [List.drop_eq_getElem_cons hj, List.flatten_cons, restOf, List.drop_zero]
  simp [hj]
theorem miss_step (q : QP) (j i : Nat) (hi : i < (q.blocks.getD j []).length) : missIn q (restOf q j i) = if q.fits ((q.blocks.getD j []).getD i QLine.nil) = true then missIn q (restOf q j (i + 1)) else some ((q.blocks.getD j []).getD i QLine.nil).num := by
  rw [missIn, restOf, List.drop_eq_getElem_cons hi, List.cons_append, List.find?_cons]
  have : (q.blocks.getD j []).getD i QLine.nil = (q.blocks.getD j [])[i] := by rw [List.getD_eq_getElem?_getD, List.getElem?_eq_getElem hi]; rfl
  rw [this]
  cases q.fits (q.blocks.getD j [])[i]
  · rfl
  · rfl
theorem miss_next (q : QP) (j : Nat) : restOf q j (q.blocks.getD j []).length = (q.blocks.drop (j + 1)).flatten := by
  rw [restOf, List.drop_length]; rfl
def MissPost (q : QP) (w : World) (e : Ending) (w' : World) : Prop :=
  Below w.heap.size w w' ∧ match q.misfit with
    | some k => e = .returned (.tuple #[.int .i64 (k : Nat), .bool true])
    | none => e = .returned (.tuple #[.int .i64 0, .bool false])
theorem MissPost.some {q : QP} {w w' : World} {k : Nat} (hb : Below w.heap.size w w') (h : q.misfit = some k) : MissPost q w (.returned (.tuple #[.int .i64 (k : Nat), .bool true])) w' := by
  refine ⟨hb, ?_⟩; rw [h]
theorem MissPost.none {q : QP} {w w' : World} (hb : Below w.heap.size w w') (h : q.misfit = none) : MissPost q w (.returned (.tuple #[.int .i64 0, .bool false])) w' := by
  refine ⟨hb, ?_⟩; rw [h]
set_option maxRecDepth 20000 in
set_option maxHeartbeats 2000000 in
theorem misfit_any (q : QP) (nb z a : Nat) (vl vb : Value) (us : List Value) (vss : List (List (Value × Value))) (w : World) (hP : PAt z a w q vl vb us vss) (hls : q.locals.length ≤ 4000) (hq : QOk nb q) (hbl : q.blocks.length ≤ 4000) (hlines : ∀ j, (q.blocks.getD j []).length ≤ 4000) (E : Env w) :
    Calls Tryz.prog 118 #[.pointer (some ⟨a, 0, none⟩)] w (MissPost q w) := by
  obtain ⟨p0, p1, pf0, pf1⟩ := PAt.facts hP
  have HM : Hid (q.misfit = missIn q (q.blocks.drop 0).flatten) := miss_start q
  obtain ⟨adb, cb, hvb⟩ := own_slice hP.blocks
  subst hvb
  go_enter Tryz.func118, Tryz.ntmps118
  go_wp2
  go_loopg [13] (q.blocks.length) (fun g v13 wr => ∃ j : Nat, j ≤ q.blocks.length ∧ g + j = q.blocks.length ∧ v13 = .int .i64 j ∧ Below w.heap.size w wr ∧ Hid (q.misfit = missIn q (q.blocks.drop j).flatten))
  case atStart => exact ⟨0, Nat.zero_le _, rfl, rfl, Below.refl _ _, HM⟩
  case round =>
    obtain ⟨j, hj, hgj, rfl, hB, HI⟩ := hrel
    by_cases hlt : j < q.blocks.length
    · obtain ⟨gb, cb', ad, c, e, hcb, hgb, hcell, hBk⟩ := blocks_cell (hP.below hB) j hlt
      simp only [Value.slice.injEq, true_and] at e
      obtain ⟨rfl, rfl⟩ := e
      have HI2 : Hid (q.misfit = missIn q (restOf q j 0)) := HI.out.trans (congrArg _ (miss_block q j hlt))
      have hln := hlines j
      have hok : ∀ l ∈ q.blocks.getD j [], LOk q.locals.length nb l := hq.lines _ (by simp [hlt])
      have HN : Hid (restOf q j (q.blocks.getD j []).length = (q.blocks.drop (j + 1)).flatten) := miss_next q j
      have HS : Hid (∀ i, i < (q.blocks.getD j []).length → missIn q (restOf q j i) = if q.fits ((q.blocks.getD j []).getD i QLine.nil) = true then missIn q (restOf q j (i + 1)) else some ((q.blocks.getD j []).getD i QLine.nil).num) := miss_step q j
      generalize q.blocks.getD j [] = blk at *
      generalize vss.getD j [] = vsj at *
      go_wp2
      go_loopg [19] (blk.length) (fun g v19 wn => ∃ i : Nat, i ≤ blk.length ∧ g + i = blk.length ∧ v19 = .int .i64 i ∧ Below w.heap.size w wn ∧ Below wr.heap.size wr wn ∧ Hid (q.misfit = missIn q (restOf q j i)))
      case atStart => exact ⟨0, Nat.zero_le _, rfl, rfl, hB, Below.refl _ _, HI2⟩
      case round =>
        obtain ⟨i, hi, hgi, rfl, hBn, hBrn, HJ⟩ := hrel
        by_cases hli : i < blk.length
        · obtain ⟨gl, ap, cp, an, cn, rfl, -, hcl, hgl, k0, k1, k2, k3, k4, k5, hLA⟩ := block_cells (hBk.below hBrn) i hli
          have hS := HS.out i hli
          have hl := hok (blk.getD i QLine.nil) (by simp [hli])
          generalize blk.getD i QLine.nil = l at *
          have hbL : Below wr.heap.size wr (wr.alloc (.cells #[.int .i64 (l.num : Nat), .int .i64 (l.op : Nat), .slice ap l.places.length cp, .int .i64 l.number, .int .i64 l.flag, .slice an l.next.length cn] 115)) := (Below.refl _ _).alloc (Nat.le_refl _) _
          have hBL := hBn.trans (hbL.mono hBn.size)
          have hPL := (hP.below hBL)
          have KF := fits_any q l nb z a vl _ ap an cp cn _ hPL.blk ⟨_, hPL.locals⟩ hls hl (hLA.below hbL) (E.on hBL)
          have hnum : (wr.alloc (.cells #[.int .i64 (l.num : Nat), .int .i64 (l.op : Nat), .slice ap l.places.length cp, .int .i64 l.number, .int .i64 l.flag, .slice an l.next.length cn] 115)).cell? ⟨wr.heap.size, 0, none⟩ = some (.int .i64 (l.num : Nat)) := by simp
          have hsz : wr.heap.size < (wr.alloc (.cells #[.int .i64 (l.num : Nat), .int .i64 (l.op : Nat), .slice ap l.places.length cp, .int .i64 l.number, .int .i64 l.flag, .slice an l.next.length cn] 115)).heap.size := by simp
          cases hf : q.fits l with
          | false =>
            have hx : q.misfit = some l.num := by rw [HJ.out, hS, hf]; rfl
            rw [hf] at KF
            clear hf hS HS
            go_wp2_with (go_at_call 171; refine KF.mono ?_; rintro e w1 ⟨rfl, hb1⟩; have hnum1 := (hb1.cell (p := ⟨wr.heap.size, 0, none⟩) hsz).trans hnum)
            go_ret2
            exact MissPost.some (hBL.trans (hb1.mono hBL.size)) hx
          | true =>
            have HJ2 : Hid (q.misfit = missIn q (restOf q j (i + 1))) := by unfold Hid; rw [HJ.out, hS, hf]; rfl
            rw [hf] at KF
            clear hf hS HS
            go_wp2_with (go_at_call 171; refine KF.mono ?_; rintro e w1 ⟨rfl, hb1⟩)
            go_roundg (blk.length - (i + 1))
            case measure => omega
            case rel => exact ⟨i + 1, by omega, by omega, by go_num, hBL.trans (hb1.mono hBL.size), (hBrn.trans (hbL.mono hBrn.size)).trans (hb1.mono (Nat.le_trans hBrn.size hbL.size)), HJ2⟩
        · have HI3 : Hid (q.misfit = missIn q (q.blocks.drop (j + 1)).flatten) := by
            unfold Hid
            rw [HJ.out, show i = blk.length by omega, HN.out]
          go_wp2
          go_roundg (q.blocks.length - (j + 1))
          case measure => omega
          case rel => exact ⟨j + 1, by omega, by omega, by go_num, hBn, HI3⟩
    · have hx : q.misfit = none := by rw [HI.out, List.drop_eq_nil_of_le (by omega)]; rfl
      go_wp2
      go_ret2
      exact MissPost.none hB hx
end Go.Proofs.YtmlgajhhnojdjaaGreatDoor.PrjU
/- A block gone through: what it makes of a state as a plain function. -/
namespace Go.Proofs.YtmlgajhhnojdjaaGreatDoor.FlwM
open Go Go.RowKit Go.Proofs.YtmlgajhhnojdjaaGreatDoor.Spec Go.Proofs.YtmlgajhhnojdjaaGreatDoor.Aux Go.Proofs.YtmlgajhhnojdjaaGreatDoor.PrjF Go.Proofs.YtmlgajhhnojdjaaGreatDoor.PrjG Go.Proofs.YtmlgajhhnojdjaaGreatDoor.PrjJ Go.Proofs.YtmlgajhhnojdjaaGreatDoor.PrjK Go.Proofs.YtmlgajhhnojdjaaGreatDoor.PrjL Go.Proofs.YtmlgajhhnojdjaaGreatDoor.PrjM Go.Proofs.YtmlgajhhnojdjaaGreatDoor.PrjO Go.Proofs.YtmlgajhhnojdjaaGreatDoor.PrjP Go.Proofs.YtmlgajhhnojdjaaGreatDoor.PrjS Go.Proofs.YtmlgajhhnojdjaaGreatDoor.PrjU Go.Proofs.YtmlgajhhnojdjaaGreatDoor.FlwA Go.Proofs.YtmlgajhhnojdjaaGreatDoor.FlwB Go.Proofs.YtmlgajhhnojdjaaGreatDoor.FlwC Go.Proofs.YtmlgajhhnojdjaaGreatDoor.FlwD Go.Proofs.YtmlgajhhnojdjaaGreatDoor.FlwE Go.Proofs.YtmlgajhhnojdjaaGreatDoor.FlwF Go.Proofs.YtmlgajhhnojdjaaGreatDoor.FlwG Go.Proofs.YtmlgajhhnojdjaaGreatDoor.FlwH Go.Proofs.YtmlgajhhnojdjaaGreatDoor.FlwI Go.Proofs.YtmlgajhhnojdjaaGreatDoor.FlwJ Go.Proofs.YtmlgajhhnojdjaaGreatDoor.FlwK Go.Proofs.YtmlgajhhnojdjaaGreatDoor.FlwL

theorem sok_set {s : List Nat} (h : SOk s) (k : Nat) {v : Nat} (hv : v < 16) : SOk (s.set k v) :=
  ⟨by simpa using h.len, fun i => by
    rw [List.getD_eq_getElem?_getD, List.getElem?_set]
    split
    · split
      · exact hv
      · decide
    · have := h.lt i; rwa [List.getD_eq_getElem?_getD] at this⟩
theorem putL_ok {m : Nat} (hm : m < 16) : ∀ (ps : List (Nat × Nat)) {s : List Nat}, SOk s → SOk (putL m ps s)
  | [], _, h => h
  | x :: ps, s, h => putL_ok hm ps (s := s.set (slotQ x) m) (sok_set h _ hm)
theorem takeL_ok : ∀ (ps : List (Nat × Nat)) {s : List Nat}, SOk s → SOk (takeL ps s)
  | [], _, h => h
  | x :: ps, s, h => takeL_ok ps (s := s.set (slotQ x) (if x.2 = 3 then 8 else 1)) (sok_set h _ (by split <;> decide))
theorem movedL_lt (q : QP) (x : Nat × Nat) {s : List Nat} (h : SOk s) : movedL q x s < 16 := by
  unfold movedL; split
  · exact h.lt _
  · decide
theorem takeQ_ok (q : QP) (l : QLine) {s : List Nat} (h : SOk s) : SOk (takeQ q l s) := by
  unfold takeQ; split
  · exact takeL_ok _ h
  · split
    · exact takeL_ok _ h
    · exact h
theorem passQ_ok (q : QP) (l : QLine) {s : List Nat} (h : SOk s) : SOk (passQ q l s) := by
  have ht := takeQ_ok q l h
  unfold passQ
  repeat' split
  · exact putL_ok (by decide) _ ht
  · exact putL_ok (movedL_lt q _ h) _ ht
  · exact putL_ok (by decide) _ ht
  · exact takeL_ok _ ht
  · exact ht
/-- what is led on with to the i-th block that a line names -/
def stepS (l : QLine) (i : Nat) (s : List Nat) : List Nat := if l.op = 20 then putL (if i = 0 then 4 else 2) [l.places.getD 0 (0, 0)] s else s
theorem stepS_ok (l : QLine) (i : Nat) {s : List Nat} (h : SOk s) : SOk (stepS l i s) := by
  unfold stepS; split
  · exact putL_ok (by split <;> decide) _ h
  · exact h
abbrev St := List Nat × List (List Nat) × (Nat → Bool)
def goNext (l : QLine) : List Nat → Nat → St → St
  | [], _, t => t
  | n :: ns, i, t => goNext l ns (i + 1) (stepS l i t.1, leadE t.2.1 n (stepS l i t.1), leadO t.2.1 t.2.2 n (stepS l i t.1))
def goLines (q : QP) : List QLine → St → St
  | [], t => t
  | l :: ls, t => goLines q ls (goNext l l.next 0 (passQ q l t.1, t.2))
def goBlk (q : QP) (E : List (List Nat)) (O : Nat → Bool) (b : Nat) : St := goLines q (q.blocks.getD b []) (E.getD b [], E, O)
theorem goLines_step (q : QP) (ls : List QLine) (i : Nat) (hi : i < ls.length) (t : St) : goLines q (ls.drop i) t = goLines q (ls.drop (i + 1)) (goNext (ls.getD i QLine.nil) (ls.getD i QLine.nil).next 0 (passQ q (ls.getD i QLine.nil) t.1, t.2)) := by
  rw [List.drop_eq_getElem_cons hi]
  have : ls.getD i QLine.nil = ls[i] := by simp [hi]
  rw [this]; rfl
theorem goNext_step (l : QLine) (ns : List Nat) (i : Nat) (hi : i < ns.length) (t : St) : goNext l (ns.drop i) i t = goNext l (ns.drop (i + 1)) (i + 1) (stepS l i t.1, leadE t.2.1 (ns.getD i 0) (stepS l i t.1), leadO t.2.1 t.2.2 (ns.getD i 0) (stepS l i t.1)) := by
  rw [List.drop_eq_getElem_cons hi]
  have : ns.getD i 0 = ns[i] := by simp [hi]
  rw [this]; rfl
/-- a line of a block, and where its rows are -/
theorem block_cells2 {z : Nat} {w : World} {ad : Option Addr} {n c : Nat} {ls : List QLine} {vs : List (Value × Value)} (h : BlockAt z w (.slice ad n c) ls vs) (j : Nat) (hj : j < ls.length) :
    ∃ g ap cp an cn, ad = some ⟨g, 0, none⟩ ∧ n = ls.length ∧ ls.length ≤ c ∧ g < w.heap.size ∧ w.cell? ⟨g, j * 6, none⟩ = some (.int .i64 ((ls.getD j QLine.nil).num : Nat)) ∧ w.cell? ⟨g, j * 6 + 1, none⟩ = some (.int .i64 ((ls.getD j QLine.nil).op : Nat)) ∧ w.cell? ⟨g, j * 6 + 2, none⟩ = some (.slice ap (ls.getD j QLine.nil).places.length cp) ∧
      w.cell? ⟨g, j * 6 + 3, none⟩ = some (.int .i64 (ls.getD j QLine.nil).number) ∧ w.cell? ⟨g, j * 6 + 4, none⟩ = some (.int .i64 (ls.getD j QLine.nil).flag) ∧ w.cell? ⟨g, j * 6 + 5, none⟩ = some (.slice an (ls.getD j QLine.nil).next.length cn) ∧
      vs.getD j (undef, undef) = (.slice ap (ls.getD j QLine.nil).places.length cp, .slice an (ls.getD j QLine.nil).next.length cn) := by
  obtain ⟨g, cap, hv, hc, hg, hcell⟩ := own_cell h.row (by omega)
  simp only [Value.slice.injEq] at hv
  obtain ⟨rfl, rfl, rfl⟩ := hv
  have hE := h.each j hj
  obtain ⟨ap, cp, h1⟩ := own_slice hE.places
  obtain ⟨an, cn, h2⟩ := own_slice hE.next
  have hjv : j < vs.length := by rw [h.len]; exact hj
  have hz : (ls.zip vs)[j]? = some (ls.getD j QLine.nil, vs.getD j (undef, undef)) := by
    simp [List.getElem?_zip_eq_some, hj, hjv]
  have key : ∀ i, i < 6 → w.cell? ⟨g, j * 6 + i, none⟩ = (lineCell (ls.getD j QLine.nil, vs.getD j (undef, undef)))[i]? := fun i hi => by
    rw [hcell _ (by omega), lineCells, flat_get lineCell 6 (fun _ => rfl) _ j i hi, hz]; rfl
  have k0 := key 0 (by decide); have k1 := key 1 (by decide); have k2 := key 2 (by decide); have k3 := key 3 (by decide); have k4 := key 4 (by decide); have k5 := key 5 (by decide)
  refine ⟨g, ap, cp, an, cn, rfl, rfl, hc, hg, k0, k1, ?_, k3, k4, ?_, Prod.ext h1 h2⟩
  · rw [k2]; show some (vs.getD j (undef, undef)).1 = _; rw [h1]
  · rw [k5]; show some (vs.getD j (undef, undef)).2 = _; rw [h2]
theorem blocks_cell2 {z a : Nat} {w : World} {q : QP} {vl vb : Value} {us : List Value} {vss : List (List (Value × Value))} (h : PAt z a w q vl vb us vss) (j : Nat) (hj : j < q.blocks.length) :
    ∃ gb cb ad c, vb = .slice (some ⟨gb, 0, none⟩) q.blocks.length cb ∧ q.blocks.length ≤ cb ∧ gb < w.heap.size ∧ w.cell? ⟨gb, j, none⟩ = some (.slice ad (q.blocks.getD j []).length c) ∧ us.getD j undef = .slice ad (q.blocks.getD j []).length c := by
  obtain ⟨g, cap, hv, hc, hg, hcell⟩ := own_cell h.blocks (by omega)
  obtain ⟨ad, c, e⟩ := block_slice (h.each j hj)
  refine ⟨g, cap, ad, c, hv, hc, hg, ?_, e⟩
  rw [hcell j (by omega), ← e, List.getD_eq_getElem?_getD, List.getElem?_eq_getElem (by rw [h.usl]; exact hj)]; rfl
theorem next_at {z : Nat} {w : World} {an : Option Addr} {cn : Nat} {l : QLine} {vp : Value} (h : LineAt z w l vp (.slice an l.next.length cn)) (j : Nat) (hj : j < l.next.length) :
    ∃ g, an = some ⟨g, 0, none⟩ ∧ l.next.length ≤ cn ∧ g < w.heap.size ∧ w.cell? ⟨g, j, none⟩ = some (.int .i64 ((l.next.getD j 0 : Nat) : Int)) := by
  obtain ⟨g, cap, hv, hc, hg, hcell⟩ := own_cell h.next (by omega)
  simp only [Value.slice.injEq] at hv
  obtain ⟨rfl, -, rfl⟩ := hv
  refine ⟨g, rfl, hc, hg, ?_⟩
  rw [hcell j (by omega)]; simp [intCells, hj]
end Go.Proofs.YtmlgajhhnojdjaaGreatDoor.FlwM
/- A block gone through: goThrough. -/
namespace Go.Proofs.YtmlgajhhnojdjaaGreatDoor.FlwN
open Go Go.RowKit Go.Proofs.YtmlgajhhnojdjaaGreatDoor.Spec Go.Proofs.YtmlgajhhnojdjaaGreatDoor.Aux Go.Proofs.YtmlgajhhnojdjaaGreatDoor.PrjF Go.Proofs.YtmlgajhhnojdjaaGreatDoor.PrjG Go.Proofs.YtmlgajhhnojdjaaGreatDoor.PrjJ Go.Proofs.YtmlgajhhnojdjaaGreatDoor.PrjK Go.Proofs.YtmlgajhhnojdjaaGreatDoor.PrjL Go.Proofs.YtmlgajhhnojdjaaGreatDoor.PrjM Go.Proofs.YtmlgajhhnojdjaaGreatDoor.PrjO Go.Proofs.YtmlgajhhnojdjaaGreatDoor.PrjP Go.Proofs.YtmlgajhhnojdjaaGreatDoor.PrjQ Go.Proofs.YtmlgajhhnojdjaaGreatDoor.PrjS Go.Proofs.YtmlgajhhnojdjaaGreatDoor.PrjU Go.Proofs.YtmlgajhhnojdjaaGreatDoor.FlwA Go.Proofs.YtmlgajhhnojdjaaGreatDoor.FlwB Go.Proofs.YtmlgajhhnojdjaaGreatDoor.FlwC Go.Proofs.YtmlgajhhnojdjaaGreatDoor.FlwD Go.Proofs.YtmlgajhhnojdjaaGreatDoor.FlwE Go.Proofs.YtmlgajhhnojdjaaGreatDoor.FlwF Go.Proofs.YtmlgajhhnojdjaaGreatDoor.FlwG Go.Proofs.YtmlgajhhnojdjaaGreatDoor.FlwH Go.Proofs.YtmlgajhhnojdjaaGreatDoor.FlwI Go.Proofs.YtmlgajhhnojdjaaGreatDoor.FlwJ Go.Proofs.YtmlgajhhnojdjaaGreatDoor.FlwK Go.Proofs.YtmlgajhhnojdjaaGreatDoor.FlwL Go.Proofs.YtmlgajhhnojdjaaGreatDoor.FlwM
attribute [local go_sem ↓] wp_load_st wp_store_st

section
variable {z x a ap mb : Nat} {w w' : World} {q : QP} {vl vb : Value} {us : List Value} {vss : List (List (Value × Value))} {E : List (List Nat)} {O : Nat → Bool}
theorem WAt.line (h : WAt z x a ap mb w q vl vb us vss E O) {b i : Nat} (hb : b < q.blocks.length) (hi : i < (q.blocks.getD b []).length) {v1 v2 : Value} (hv : (vss.getD b []).getD i (undef, undef) = (v1, v2)) : LineAt z w ((q.blocks.getD b []).getD i QLine.nil) v1 v2 := by
  have := (h.prog.each b hb).each i hi
  rw [hv] at this; exact this
set_option maxRecDepth 20000 in
set_option maxHeartbeats 4000000 in
theorem goThrough_any (h : WAt z x a ap mb w q vl vb us vss E O) (b : Nat) (hb : b < q.blocks.length) (hn : q.blocks.length ≤ 4000) (hls : q.locals.length ≤ 12) (hq : QOk q.blocks.length q) (hlines : ∀ j, (q.blocks.getD j []).length ≤ 4000) :
    Calls Tryz.prog 189 #[.pointer (some ⟨x, 0, none⟩), .int .i64 (b : Nat)] w fun e w' => e = .returned (.tuple #[]) ∧ WAt z x a ap mb w' q vl vb us vss (goBlk q E O b).2.1 (goBlk q E O b).2.2 ∧ Turn2 ap mb w w' := by
  have htE : b < E.length := by rw [h.len]; exact hb
  have hE := h.row.ok htE
  have hapl := h.row.lt
  have hti : (b : Int) < (q.blocks.length : Nat) := by omega
  obtain ⟨c0, c1, c2⟩ := h.facts
  have has := h.row.has b htE
  have hof := h.row.of b htE
  have HG : Hid (goBlk q E O b = goLines q ((q.blocks.getD b []).drop 0) (E.getD b [], E, O)) := rfl
  have hZ : StAt (w.alloc (.cells #[.int .u8 0, .int .u8 0, .int .u8 0, .int .u8 0, .int .u8 0, .int .u8 0, .int .u8 0, .int .u8 0, .int .u8 0, .int .u8 0, .int .u8 0, .int .u8 0, .int .u8 0, .int .u8 0, .int .u8 0, .int .u8 0, .int .u8 0, .int .u8 0, .int .u8 0, .int .u8 0, .int .u8 0, .int .u8 0, .int .u8 0, .int .u8 0] 209)) w.heap.size zeroSt := StAt.new w (s := zeroSt) (by decide)
  have hbZ : Below w.heap.size w (w.alloc (.cells #[.int .u8 0, .int .u8 0, .int .u8 0, .int .u8 0, .int .u8 0, .int .u8 0, .int .u8 0, .int .u8 0, .int .u8 0, .int .u8 0, .int .u8 0, .int .u8 0, .int .u8 0, .int .u8 0, .int .u8 0, .int .u8 0, .int .u8 0, .int .u8 0, .int .u8 0, .int .u8 0, .int .u8 0, .int .u8 0, .int .u8 0, .int .u8 0] 209)) := (Below.refl _ _).alloc (Nat.le_refl _) _
  have hroom := StAt.room hZ
  have hist := isSt_of hE.len
  have hJ := StAt.store hZ hE.len
  have hbW : Below w.heap.size w ((w.alloc (.cells #[.int .u8 0, .int .u8 0, .int .u8 0, .int .u8 0, .int .u8 0, .int .u8 0, .int .u8 0, .int .u8 0, .int .u8 0, .int .u8 0, .int .u8 0, .int .u8 0, .int .u8 0, .int .u8 0, .int .u8 0, .int .u8 0, .int .u8 0, .int .u8 0, .int .u8 0, .int .u8 0, .int .u8 0, .int .u8 0, .int .u8 0, .int .u8 0] 209)).setCells w.heap.size 0 (stCells (E.getD b []))) := below_setCells hbZ (Nat.le_refl _) _ _
  have hW := h.below hbW
  generalize E.getD b [] = e0 at *
  clear hbZ hZ
  go_enter Tryz.func189, Tryz.ntmps189
  go_upto_region 1 with fail
  generalize ((w.alloc (.cells #[.int .u8 0, .int .u8 0, .int .u8 0, .int .u8 0, .int .u8 0, .int .u8 0, .int .u8 0, .int .u8 0, .int .u8 0, .int .u8 0, .int .u8 0, .int .u8 0, .int .u8 0, .int .u8 0, .int .u8 0, .int .u8 0, .int .u8 0, .int .u8 0, .int .u8 0, .int .u8 0, .int .u8 0, .int .u8 0, .int .u8 0, .int .u8 0] 209)).setCells w.heap.size 0 (stCells e0)) = W at *
  clear hroom has hof c0 c1 c2
  obtain ⟨c0, c1, c2⟩ := hW.facts
  obtain ⟨p0, p1, -, -⟩ := PAt.facts hW.prog
  obtain ⟨gb, cb, adk, ck, rfl, hcb, hgb, hcell, hus⟩ := blocks_cell2 hW.prog b hb
  have hln := hlines b
  have hok : ∀ l ∈ q.blocks.getD b [], LOk q.locals.length q.blocks.length l := hq.lines _ (by simp [hb])
  have hTW : Turn2 ap mb w W := .ofBelow hbW
  have hbne : w.heap.size ≠ ap := by omega
  have hBA : Hid (∀ wn E' O', WAt z x a ap mb wn q vl (.slice (some ⟨gb, 0, none⟩) q.blocks.length cb) us vss E' O' → BlockAt z wn (.slice adk (q.blocks.getD b []).length ck) (q.blocks.getD b []) (vss.getD b [])) := fun wn E' O' hwn => by
    have h1 := hwn.prog.each b hb
    rw [hus] at h1; exact h1
  have HL : Hid (∀ wn E' O', WAt z x a ap mb wn q vl (.slice (some ⟨gb, 0, none⟩) q.blocks.length cb) us vss E' O' → ∀ i, i < (q.blocks.getD b []).length → ∀ v1 v2, (vss.getD b []).getD i (undef, undef) = (v1, v2) → LineAt z wn ((q.blocks.getD b []).getD i QLine.nil) v1 v2) := fun wn E' O' hwn i hi v1 v2 hv => WAt.line hwn hb hi hv
  have HS : Hid (∀ i, i < (q.blocks.getD b []).length → ∀ t : St, goLines q ((q.blocks.getD b []).drop i) t = goLines q ((q.blocks.getD b []).drop (i + 1)) (goNext ((q.blocks.getD b []).getD i QLine.nil) ((q.blocks.getD b []).getD i QLine.nil).next 0 (passQ q ((q.blocks.getD b []).getD i QLine.nil) t.1, t.2))) := fun i hi t => goLines_step q _ i hi t
  generalize q.blocks.getD b [] = blk at *
  generalize vss.getD b [] = vsj at *
  have hmbl := h.opn.lt
  have hmbW := hW.opn.lt
  go_wp2
  go_loopg [27] (blk.length) (fun g v27 wr => ∃ (i : Nat) (s' : List Nat) (E' : List (List Nat)) (O' : Nat → Bool), i ≤ blk.length ∧ g + i = blk.length ∧ v27 = .int .i64 i ∧ WAt z x a ap mb wr q vl (.slice (some ⟨gb, 0, none⟩) q.blocks.length cb) us vss E' O' ∧ StAt wr w.heap.size s' ∧ SOk s' ∧ Turn2 ap mb w wr ∧ Hid (goBlk q E O b = goLines q (blk.drop i) (s', E', O')))
  case atStart => exact ⟨0, e0, E, O, Nat.zero_le _, rfl, rfl, hW, hJ, hE, hTW, HG⟩
  case round =>
    obtain ⟨i, s', E', O', hi, hgi, rfl, hWr, hSr, hso, hTr, HR⟩ := hrel
    clear hJ HG hW hbW hTW c0 c1 c2 p0 p1 hcell hist hE
    by_cases hli : i < blk.length
    · obtain ⟨gl, apl, cp, an, cn, rfl, -, hcl, hgl, k0, k1, k2, k3, k4, k5, hvs⟩ := block_cells2 (hBA.out wr E' O' hWr) i hli
      have hS : Hid (_ = _) := HS.out i hli (s', E', O')
      have HLi : Hid (∀ wn E' O', WAt z x a ap mb wn q vl (.slice (some ⟨gb, 0, none⟩) q.blocks.length cb) us vss E' O' → LineAt z wn (blk.getD i QLine.nil) (.slice apl (blk.getD i QLine.nil).places.length cp) (.slice an (blk.getD i QLine.nil).next.length cn)) := fun wn E' O' hwn => HL.out wn E' O' hwn i hli _ _ hvs
      have hl := hok (blk.getD i QLine.nil) (by simp [hli])
      clear hvs
      generalize blk.getD i QLine.nil = l at *
      have hbL : Below wr.heap.size wr (wr.alloc (.cells #[.int .i64 (l.num : Nat), .int .i64 (l.op : Nat), .slice apl l.places.length cp, .int .i64 l.number, .int .i64 l.flag, .slice an l.next.length cn] 115)) := (Below.refl _ _).alloc (Nat.le_refl _) _
      have hWL := hWr.below hbL
      have hSL := hSr.below hbL hSr.lt
      have hTL := hTr.on hbL
      have hlnL : (wr.alloc (.cells #[.int .i64 (l.num : Nat), .int .i64 (l.op : Nat), .slice apl l.places.length cp, .int .i64 l.number, .int .i64 l.flag, .slice an l.next.length cn] 115)).heap[wr.heap.size]? = some (.cells #[.int .i64 (l.num : Nat), .int .i64 (l.op : Nat), .slice apl l.places.length cp, .int .i64 l.number, .int .i64 l.flag, .slice an l.next.length cn] 115 (0, 0)) := Array.getElem?_push_size
      have hsr := hTr.size
      go_upto_region 4 with fail
      generalize (wr.alloc (.cells #[.int .i64 (l.num : Nat), .int .i64 (l.op : Nat), .slice apl l.places.length cp, .int .i64 l.number, .int .i64 l.flag, .slice an l.next.length cn] 115)) = WL at *
      clear k0 k1 k2 k3 k4 k5 hbL
      have hbd : Below WL.heap.size WL WL.drew := below_drewN (Below.refl _ _) 1
      have hWLd := hWL.below hbd
      have hSLd : StAt WL.drew w.heap.size s' := hSL
      have hlnLd : WL.drew.heap[wr.heap.size]? = some (.cells #[.int .i64 (l.num : Nat), .int .i64 (l.op : Nat), .slice apl l.places.length cp, .int .i64 l.number, .int .i64 l.flag, .slice an l.next.length cn] 115 (0, 0)) := hlnL
      have hTLd := hTL.on hbd
      obtain ⟨c0, c1, c2⟩ := hWL.facts
      have l0 := (cell_of_heap hlnL 0).trans (by rfl : _ = some (Value.int .i64 (l.num : Nat)))
      have l1 := (cell_of_heap hlnL 1).trans (by rfl : _ = some (Value.int .i64 (l.op : Nat)))
      have l2 := (cell_of_heap hlnL 2).trans (by rfl : _ = some (Value.slice apl l.places.length cp))
      have l3 := (cell_of_heap hlnL 3).trans (by rfl : _ = some (Value.int .i64 l.number))
      have l4 := (cell_of_heap hlnL 4).trans (by rfl : _ = some (Value.int .i64 l.flag))
      have l5 := (cell_of_heap hlnL 5).trans (by rfl : _ = some (Value.slice an l.next.length cn))
      have KP := pass_any q l q.blocks.length z a w.heap.size vl _ apl an cp cn s' WL.drew ⟨hWLd.prog.blk, ⟨_, hWLd.prog.locals⟩⟩ hls hl (HLi.out _ _ _ hWLd) hSLd hso.lt
      go_cut [6] (fun v6 wc => v6 = .pointer (some ⟨wr.heap.size, 0, none⟩) ∧ StAt wc w.heap.size (passQ q l s') ∧ Turn w.heap.size WL.drew wc)
      case first =>
        go_region_with (go_at_call 128; refine KP.mono ?_; rintro e w1 ⟨rfl, hS1, hT1⟩)
        all_goals go_wp2_with fail
        all_goals
          go_meet
          case rel => exact ⟨rfl, hS1, hT1⟩
      case rest =>
        obtain ⟨rfl, hS1, hT1⟩ := hcut
        have hW1 := hWLd.other hT1 hSLd hbne
        have hlt1 := lt_of_heap hlnLd
        have hwr : w.heap.size < wr.heap.size := hSr.lt
        have hln1 : wc.heap[wr.heap.size]? = some (.cells #[.int .i64 (l.num : Nat), .int .i64 (l.op : Nat), .slice apl l.places.length cp, .int .i64 l.number, .int .i64 l.flag, .slice an l.next.length cn] 115 (0, 0)) := (hT1.block _ hlt1 (by omega)).trans hlnLd
        have hT1' : Turn2 ap mb w wc := hTLd.since hT1 (Nat.le_refl _)
        have hso1 := passQ_ok q l hso
        have HR1 : Hid (goBlk q E O b = goLines q (blk.drop (i + 1)) (goNext l l.next 0 (passQ q l s', E', O'))) := HR.out.trans hS.out
        have l5 := (cell_of_heap hln1 5).trans (by rfl : _ = some (Value.slice an l.next.length cn))
        have hnl : l.next.length ≤ 3 := by
          rw [hl.nlen]
          have key : ∀ op : Fin 23, ((wantsOf op.val).filter (· == 98)).length ≤ 3 := by decide
          exact key ⟨l.op, hl.op⟩
        clear KP hS HR hWL hSL hTL hlnL hbd hWLd hSLd hlnLd hTLd c0 c1 c2 l0 l1 l2 l3 l4 hT1 hlt1 hso hSr hTr hWr hsr
        generalize passQ q l s' = s1 at *
        have HN0 : Hid (goNext l l.next 0 (s1, E', O') = goNext l (l.next.drop 0) 0 (s1, E', O')) := rfl
        clear l5
        have l5 := (cell_of_heap hln1 5).trans (by rfl : _ = some (Value.slice an l.next.length cn))
        clear hgl hcl
        generalize wr.heap.size = lb at *
        go_wp2
        go_loopg [40] (l.next.length) (fun g v40 wn => ∃ (j : Nat) (s2 : List Nat) (E2 : List (List Nat)) (O2 : Nat → Bool), j ≤ l.next.length ∧ g + j = l.next.length ∧ v40 = .int .i64 j ∧ WAt z x a ap mb wn q vl (.slice (some ⟨gb, 0, none⟩) q.blocks.length cb) us vss E2 O2 ∧ StAt wn w.heap.size s2 ∧ SOk s2 ∧ wn.heap[lb]? = some (.cells #[.int .i64 (l.num : Nat), .int .i64 (l.op : Nat), .slice apl l.places.length cp, .int .i64 l.number, .int .i64 l.flag, .slice an l.next.length cn] 115 (0, 0)) ∧ Turn2 ap mb w wn ∧ Hid (goNext l l.next 0 (s1, E', O') = goNext l (l.next.drop j) j (s2, E2, O2)))
        case atStart => exact ⟨0, s1, E', O', Nat.zero_le _, rfl, rfl, hW1, hS1, hso1, hln1, hT1', HN0⟩
        case round =>
          obtain ⟨j, s2, E2, O2, hj, hgj, rfl, hWn, hSn, hsn, hlnn, hTn, HN⟩ := hrel
          clear hW1 hS1 hso1 hln1 hT1' HN0 l5
          by_cases hlj : j < l.next.length
          · obtain ⟨gn, rfl, hcn, hgn, hcx⟩ := next_at (HLi.out _ _ _ hWn) j hlj
            have hnx : l.next.getD j 0 < q.blocks.length := hl.next _ (by rw [List.getD_eq_getElem?_getD, List.getElem?_eq_getElem hlj]; exact List.getElem_mem hlj)
            have hji : (j : Int) < (l.next.length : Nat) := by omega
            have hso3 := stepS_ok l j hsn
            have HNJ : Hid (_ = _) := HN.out.trans (goNext_step l l.next j hlj (s2, E2, O2))
            generalize l.next.getD j 0 = nx at *
            have m1 := (cell_of_heap hlnn 1).trans (by rfl : _ = some (Value.int .i64 (l.op : Nat)))
            have m2 := (cell_of_heap hlnn 2).trans (by rfl : _ = some (Value.slice apl l.places.length cp))
            have hltn := lt_of_heap hlnn
            by_cases h20 : l.op = 20
            · have b20 : (((l.op : Nat) : Int) == 20) = true := by rw [h20]; rfl
              have hlen : l.places.length = 1 := by rw [hl.plen, h20]; rfl
              obtain ⟨gp, rfl, hcp, hgp, d1, d2⟩ := place_at (HLi.out _ _ _ hWn) hlen 0 (by omega)
              have hx := (hl.places _ (getD_mem (j := 0) (by omega))).1
              have hst : Hid (stepS l j s2 = putL (if j = 0 then 4 else 2) [l.places.getD 0 (0, 0)] s2) := by unfold Hid; rw [stepS, if_pos h20]
              rw [hst.out] at HNJ hso3
              have e1 : wr.cell? ⟨gp, 0, none⟩ = some (.int .i64 ((l.places.getD 0 (0, 0)).1 : Nat)) := d1
              have e2 : wr.cell? ⟨gp, 1, none⟩ = some (.int .i64 ((l.places.getD 0 (0, 0)).2 : Nat)) := d2
              have hid : (0 : Int) < (l.places.length : Nat) := by omega
              clear d1 d2
              generalize l.places.getD 0 (0, 0) = y at *
              have hmay : (if j = 0 then 4 else 2 : Nat) < 16 := by split <;> decide
              have KM := matched_any j wr.drew
              have KMP := matched_any j (wr.alloc (.cells #[.int .i64 (y.1 : Nat), .int .i64 (y.2 : Nat)] 119)).drew
              generalize (if j = 0 then 4 else 2 : Nat) = may at *
              have hbP : Below wr.heap.size wr (wr.alloc (.cells #[.int .i64 (y.1 : Nat), .int .i64 (y.2 : Nat)] 119)) := (Below.refl _ _).alloc (Nat.le_refl _) _
              have hbPd : Below wr.heap.size wr (wr.alloc (.cells #[.int .i64 (y.1 : Nat), .int .i64 (y.2 : Nat)] 119)).drew := below_drewN hbP 1
              have hSP : StAt (wr.alloc (.cells #[.int .i64 (y.1 : Nat), .int .i64 (y.2 : Nat)] 119)).drew w.heap.size s2 := hSn.below hbPd hSn.lt
              have hWP := hWn.below hbPd
              have hTP := hTn.on hbPd
              have hlnP := (hbPd.block lb hltn).trans hlnn
              have hpl : PlacesAt wr.heap.size (wr.alloc (.cells #[.int .i64 (y.1 : Nat), .int .i64 (y.2 : Nat)] 119)).drew (.slice (some ⟨wr.heap.size, 0, none⟩) 1 1) [y] := place_one wr y (n := wr.heap.size) rfl
              have KP := put_any may w.heap.size _ 1 1 _ [y] s2 _ hSP hpl (fun v hv => by simp only [List.mem_singleton] at hv; subst hv; omega) hmay
              have hsz : (wr.alloc (.cells #[.int .i64 (y.1 : Nat), .int .i64 (y.2 : Nat)] 119)).heap.size = wr.heap.size + 1 := by simp
              rw [hlen] at *
              go_upto_region 9 with fail
              go_cut [7, 8] (fun v7 v8 wc => v7 = .int .i64 (j : Nat) ∧ v8 = .int .i64 (nx : Nat) ∧ StAt wc w.heap.size (putL may [y] s2) ∧ ∃ wp, WAt z x a ap mb wp q vl (.slice (some ⟨gb, 0, none⟩) q.blocks.length cb) us vss E2 O2 ∧ StAt wp w.heap.size s2 ∧ wp.heap[lb]? = some (.cells #[.int .i64 (l.num : Nat), .int .i64 (l.op : Nat), .slice (some ⟨gp, 0, none⟩) 1 cp, .int .i64 l.number, .int .i64 l.flag, .slice (some ⟨gn, 0, none⟩) l.next.length cn] 115 (0, 0)) ∧ Turn2 ap mb w wp ∧ Turn w.heap.size wp wc)
              case first =>
                go_region_with (first
                  | (go_at_call 177; refine KP.mono ?_; rintro e w2 ⟨rfl, hS2, hT2⟩)
                  | (go_at_call 218; refine KM.mono ?_; rintro e w2 ⟨rfl, rfl⟩)
                  | (go_at_call 218; refine KMP.mono ?_; rintro e w2 ⟨rfl, rfl⟩))
                all_goals go_wp2_with fail
                all_goals
                  go_meet
                  case rel => exact ⟨rfl, rfl, hS2, _, hWP, hSP, hlnP, hTP, hT2⟩
              case rest =>
                obtain ⟨rfl, rfl, hS2, wp, hWp, hSp, hlnp, hTp, hT2⟩ := hcut
                clear KM KMP KP hWP hSP hlnP hTP hbP hbPd hpl e1 e2 m1 m2 hsz
                have hW2 := hWp.other hT2 hSp hbne
                have hln2 := (hT2.block lb (lt_of_heap hlnp) (by omega)).trans hlnp
                have hT2' : Turn2 ap mb w wc := hTp.since hT2 (Nat.le_refl _)
                have j1 := StAt.has hS2
                have j2 := StAt.of hS2
                have KL := lead_any hW2 nx hnx hn _ hso3
                generalize putL may [y] s2 = s3 at *
                go_wp2_with (go_at_call 187; refine KL.mono ?_; rintro e w3 ⟨rfl, hW3, hT3⟩)
                go_roundg (l.next.length - (j + 1))
                case measure => omega
                case rel =>
                  refine ⟨j + 1, s3, _, _, by omega, by omega, by go_num, hW3, ⟨hS2.1, (hT3.block _ hS2.lt hbne (by omega)).trans hS2.2⟩, hso3, (hT3.block _ (lt_of_heap hln2) (by omega) (by omega)).trans hln2, hT2'.trans hT3, HNJ⟩
            · have b20 : (((l.op : Nat) : Int) == 20) = false := by rw [beq_eq_false_iff_ne]; omega
              have hst : Hid (stepS l j s2 = s2) := by unfold Hid; rw [stepS, if_neg h20]
              rw [hst.out] at HNJ
              have j1 := StAt.has hSn
              have j2 := StAt.of hSn
              have KL := lead_any hWn nx hnx hn s2 hsn
              go_wp2_with (go_at_call 187; refine KL.mono ?_; rintro e w3 ⟨rfl, hW3, hT3⟩)
              go_roundg (l.next.length - (j + 1))
              case measure => omega
              case rel =>
                refine ⟨j + 1, s2, _, _, by omega, by omega, by go_num, hW3, ⟨hSn.1, (hT3.block _ hSn.lt hbne (by omega)).trans hSn.2⟩, hsn, (hT3.block _ hltn (by omega) (by omega)).trans hlnn, hTn.trans hT3, HNJ⟩
          · go_wp2
            go_roundg (blk.length - (i + 1))
            case measure => omega
            case rel =>
              refine ⟨i + 1, s2, E2, O2, by omega, by omega, by go_num, hWn, hSn, hsn, hTn, ?_⟩
              have hnil : l.next.drop j = [] := List.drop_eq_nil_of_le (by omega)
              unfold Hid
              rw [HR1.out, HN.out, hnil]; rfl
    · go_wp2
      go_end0
      refine ⟨rfl, ?_, hTr⟩
      rw [HR.out, List.drop_eq_nil_of_le (by omega)]
      exact hWr
end
end Go.Proofs.YtmlgajhhnojdjaaGreatDoor.FlwN
