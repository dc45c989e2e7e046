/- Plain facts: the blocks of a program that was read: a terminator at the end of each, and nowhere else; its words fit. -/
import Derived.Test.YtmlgajhhnojdjaaGreatDoorFAF
import Derived.Test.YtmlgajhhnojdjaaGreatDoorFAQ
import Derived.Test.YtmlgajhhnojdjaaGreatDoorFBE
import Derived.Deep.DeepCutAuto
namespace Go.Proofs.YtmlgajhhnojdjaaGreatDoor.RunA
open Go Go.Proofs.YtmlgajhhnojdjaaGreatDoor.Spec Go.Proofs.YtmlgajhhnojdjaaGreatDoor.PrjS

/-- terminators only at its end -/
def Whole (b : List QLine) : Prop := ∃ ls l, b = ls ++ [l] ∧ 18 ≤ l.op ∧ ∀ m ∈ ls, m.op < 18
structure Shp (raw : Bool) (o : OrdP) (q : QP) : Prop where
  none : o.sec = 0 → q.blocks = []
  opn : o.sec = 1 → ∃ bs b, q.blocks = bs ++ [b] ∧ (∀ c ∈ bs, Whole c) ∧ ∀ m ∈ b, m.op < 18
  whl : o.sec = 2 → ∀ c ∈ q.blocks, Whole c
  has : ∀ b ∈ q.blocks, ∀ l ∈ b, hasP raw l.op = true
  sec : o.sec ≤ 2
theorem lineP_op {ls : List (B × Nat)} {nb : Nat} {x : Nat × List B} {l : QLine} (h : lineP ls nb x = some l) : l.op = x.1 := by
  rw [lineP] at h
  obtain ⟨i1, -⟩ := lineGo_ok ls nb _ _ _ _ h (by simp) (by simp) (by simp) (by simp)
  exact i1
theorem admits_has {raw : Bool} {o : OrdP} {op : Nat} (h : (admitsP raw o op).2 = true) : hasP raw op = true := by
  unfold admitsP at h
  split at h
  · cases h
  · rename_i hh; simpa using hh
theorem shp_go (raw : Bool) (nb : Nat) : ∀ (ls : List (List B)) (o : OrdP) (i j : Nat) (q0 q : QP), (splitGo raw ls o i).2.2 = none → lookGo nb (splitGo raw ls o i).1 j q0 = (q, none) → Shp raw o q0 → Shp raw (splitGo raw ls o i).2.1 q
  | [], o, i, j, q0, q, _, h, hs => by
    simp only [splitGo, lookGo, Prod.mk.injEq, and_true] at h
    rw [← h]; exact hs
  | ws :: r, o, i, j, q0, q, hn, h, hs => by
    rw [splitGo] at hn h ⊢
    cases hx : sentP ws with
    | none => rw [hx] at hn; cases hn
    | some x =>
      rw [hx] at hn h
      simp only at hn h ⊢
      by_cases ha : (admitsP raw o x.1).2 = true
      · rw [if_pos ha] at hn h ⊢
        have ih := fun q1 hl hs1 => shp_go raw nb r (admitsP raw o x.1).1 (i + 1) (j + 1) q1 q hn hl hs1
        have hhas := admits_has ha
        have hsec := admitsP_sec raw o x.1 hs.sec
        rw [lookGo] at h
        have hnh : ¬ hasP raw x.1 = false := by rw [hhas]; decide
        by_cases e0 : x.1 = 0
        · rw [if_pos e0] at h
          split at h
          · simp at h
          · refine ih _ h ?_
            have e : (admitsP raw o x.1).1 = ⟨o.sec, o.locals + 1, o.blocks⟩ := by rw [admitsP, if_neg hnh, if_pos e0]
            rw [e]
            exact ⟨hs.none, hs.opn, hs.whl, hs.has, hs.sec⟩
        · rw [if_neg e0] at h
          by_cases e1 : x.1 = 1
          · rw [if_pos e1] at h
            refine ih _ h ?_
            have e : admitsP raw o x.1 = (⟨1, o.locals, o.blocks + 1⟩, decide (0 < o.locals) && !(o.sec == 1) && decide (o.blocks + 1 ≤ if raw then 2000 else 20)) := by rw [admitsP, if_neg hnh, if_neg e0, if_pos e1]
            rw [e] at ha
            simp only [Bool.and_eq_true, Bool.not_eq_true', beq_eq_false_iff_ne] at ha
            rw [e]
            have hsec' := hs.sec
            refine ⟨fun h => (by cases h), fun _ => ⟨q0.blocks, [], rfl, fun c hc => ?_, fun m hm => (by cases hm)⟩, fun h => (by cases h), fun b hb l hl => ?_, by simp⟩
            · by_cases h0 : o.sec = 0
              · rw [hs.none h0] at hc; cases hc
              · exact hs.whl (by have := ha.1.2; omega) c hc
            · simp only [QP.addBlock, List.mem_append, List.mem_singleton] at hb
              rcases hb with hb | rfl
              · exact hs.has b hb l hl
              · cases hl
          · rw [if_neg e1] at h
            cases hl : lineP q0.locals nb x with
            | none => rw [hl] at h; simp at h
            | some l =>
              rw [hl] at h
              have hop := lineP_op hl
              by_cases h1 : o.sec = 1
              · obtain ⟨bs, b, hb, hw, ho⟩ := hs.opn h1
                have hadd : (q0.addLine { l with num := j }).blocks = bs ++ [b ++ [{ l with num := j }]] := by
                  simp only [QP.addLine, hb]; simp
                have hhas2 : ∀ b ∈ (q0.addLine { l with num := j }).blocks, ∀ l ∈ b, hasP raw l.op = true := fun c hc m hm => by
                  rw [hadd] at hc
                  simp only [List.mem_append, List.mem_singleton] at hc
                  rcases hc with hc | rfl
                  · exact hs.has c (by rw [hb]; simp [hc]) m hm
                  · simp only [List.mem_append, List.mem_singleton] at hm
                    rcases hm with hm | rfl
                    · exact hs.has b (by rw [hb]; simp) m hm
                    · show hasP raw l.op = true; rw [hop]; exact hhas
                refine ih _ h ?_
                by_cases h18 : 18 ≤ x.1
                · have e : (admitsP raw o x.1).1 = ⟨2, o.locals, o.blocks⟩ := by rw [admitsP, if_neg hnh, if_neg e0, if_neg e1, if_neg (by simp [h1]), if_pos h18]
                  rw [e]
                  refine ⟨fun h => (by cases h), fun h => (by cases h), fun _ c hc => ?_, hhas2, by simp⟩
                  rw [hadd] at hc
                  simp only [List.mem_append, List.mem_singleton] at hc
                  rcases hc with hc | rfl
                  · exact hw c hc
                  · exact ⟨b, _, rfl, by show 18 ≤ l.op; omega, ho⟩
                · have e : (admitsP raw o x.1).1 = o := by rw [admitsP, if_neg hnh, if_neg e0, if_neg e1, if_neg (by simp [h1]), if_neg h18]
                  rw [e]
                  refine ⟨fun h => by omega, fun _ => ⟨bs, _, hadd, hw, fun m hm => ?_⟩, fun h => by omega, hhas2, hs.sec⟩
                  simp only [List.mem_append, List.mem_singleton] at hm
                  rcases hm with hm | rfl
                  · exact ho m hm
                  · show l.op < 18; omega
              · exfalso
                rw [admitsP, if_neg hnh, if_neg e0, if_neg e1, if_pos h1] at ha
                cases ha
      · rw [if_neg ha] at hn; cases hn
/-- the blocks of a program that was read -/
structure Shape (q : QP) : Prop where
  whole : ∀ b, b < q.blocks.length → Whole (q.blocks.getD b [])
  has : ∀ b, ∀ l ∈ q.blocks.getD b [], hasP false l.op = true
  fits : ∀ b, ∀ l ∈ q.blocks.getD b [], q.fits l = true
theorem getD_memB {L : List (List QLine)} {b : Nat} {l : QLine} (h : l ∈ L.getD b []) : L.getD b [] ∈ L := by
  rw [List.getD_eq_getElem?_getD] at h ⊢
  cases hb : L[b]? with
  | none => rw [hb] at h; cases h
  | some c => exact List.mem_of_getElem? hb
theorem read_shape {text : B} {q : QP} (h : prjRead text false = (some q, 0, 0)) : Shape q := by
  by_cases hlong : (split 10 text).length > (if false = true then 4000 else 120)
  · rw [prjRead, if_pos hlong] at h; cases h
  · rw [prjRead, if_neg hlong] at h
    split at h
    · cases h
    · rename_i hsp
      split at h
      · cases h
      · rename_i hsec
        split at h
        · cases h
        · rename_i hlook
          split at h
          · cases h
          · rename_i hmis
            simp only [Prod.mk.injEq, Option.some.injEq, and_true] at h
            have hs := shp_go false (countB (splitGo false (wordsOf text) ⟨0, 0, 0⟩ 0).1) (wordsOf text) ⟨0, 0, 0⟩ 0 0 QP.empty q hsp (by rw [← h, ← hlook]) ⟨fun _ => rfl, fun h => (by cases h), fun h => (by cases h), fun b hb => by simp [QP.empty] at hb, by simp⟩
            rw [h] at hmis
            refine ⟨fun b hb => hs.whl (by simpa using hsec) _ (by simp [hb]), fun b l hl => hs.has _ (getD_memB hl) l hl, fun b l hl => ?_⟩
            simp only [QP.misfit, Option.map_eq_none_iff, List.find?_eq_none, Bool.not_eq_true', Bool.not_eq_false] at hmis
            exact hmis l (List.mem_flatten.mpr ⟨_, getD_memB hl, hl⟩)
end Go.Proofs.YtmlgajhhnojdjaaGreatDoor.RunA
/- A block gone through: goThrough. -/
namespace Go.Proofs.YtmlgajhhnojdjaaGreatDoor.FlwN
open Go Go.RowKit Go.Proofs.YtmlgajhhnojdjaaGreatDoor.Spec Go.Proofs.YtmlgajhhnojdjaaGreatDoor.Aux Go.Proofs.YtmlgajhhnojdjaaGreatDoor.PrjF Go.Proofs.YtmlgajhhnojdjaaGreatDoor.PrjG Go.Proofs.YtmlgajhhnojdjaaGreatDoor.PrjJ Go.Proofs.YtmlgajhhnojdjaaGreatDoor.PrjK Go.Proofs.YtmlgajhhnojdjaaGreatDoor.PrjL Go.Proofs.YtmlgajhhnojdjaaGreatDoor.PrjM Go.Proofs.YtmlgajhhnojdjaaGreatDoor.PrjO Go.Proofs.YtmlgajhhnojdjaaGreatDoor.PrjP Go.Proofs.YtmlgajhhnojdjaaGreatDoor.PrjQ Go.Proofs.YtmlgajhhnojdjaaGreatDoor.PrjS Go.Proofs.YtmlgajhhnojdjaaGreatDoor.PrjU Go.Proofs.YtmlgajhhnojdjaaGreatDoor.FlwA Go.Proofs.YtmlgajhhnojdjaaGreatDoor.FlwB Go.Proofs.YtmlgajhhnojdjaaGreatDoor.FlwC Go.Proofs.YtmlgajhhnojdjaaGreatDoor.FlwD Go.Proofs.YtmlgajhhnojdjaaGreatDoor.FlwE Go.Proofs.YtmlgajhhnojdjaaGreatDoor.FlwF Go.Proofs.YtmlgajhhnojdjaaGreatDoor.FlwG Go.Proofs.YtmlgajhhnojdjaaGreatDoor.FlwH Go.Proofs.YtmlgajhhnojdjaaGreatDoor.FlwI Go.Proofs.YtmlgajhhnojdjaaGreatDoor.FlwJ Go.Proofs.YtmlgajhhnojdjaaGreatDoor.FlwK Go.Proofs.YtmlgajhhnojdjaaGreatDoor.FlwL Go.Proofs.YtmlgajhhnojdjaaGreatDoor.FlwM
attribute [local go_sem ↓] wp_load_st wp_store_st

section
variable {z x a ap mb : Nat} {w w' : World} {q : QP} {vl vb : Value} {us : List Value} {vss : List (List (Value × Value))} {E : List (List Nat)} {O : Nat → Bool}
theorem WAt.line (h : WAt z x a ap mb w q vl vb us vss E O) {b i : Nat} (hb : b < q.blocks.length) (hi : i < (q.blocks.getD b []).length) {v1 v2 : Value} (hv : (vss.getD b []).getD i (undef, undef) = (v1, v2)) : LineAt z w ((q.blocks.getD b []).getD i QLine.nil) v1 v2 := by
  have := (h.prog.each b hb).each i hi
  rw [hv] at this; exact this
set_option maxRecDepth 20000 in
set_option maxHeartbeats 4000000 in
theorem goThrough_any (h : WAt z x a ap mb w q vl vb us vss E O) (b : Nat) (hb : b < q.blocks.length) (hn : q.blocks.length ≤ 4000) (hls : q.locals.length ≤ 12) (hq : QOk q.blocks.length q) (hlines : ∀ j, (q.blocks.getD j []).length ≤ 4000) :
    Calls Tryz.prog 189 #[.pointer (some ⟨x, 0, none⟩), .int .i64 (b : Nat)] w fun e w' => e = .returned (.tuple #[]) ∧ WAt z x a ap mb w' q vl vb us vss (goBlk q E O b).2.1 (goBlk q E O b).2.2 ∧ Turn2 ap mb w w' := by
  have htE : b < E.length := by rw [h.len]; exact hb
  have hE := h.row.ok htE
  have hapl := h.row.lt
  have hti : (b : Int) < (q.blocks.length : Nat) := by omega
  obtain ⟨c0, c1, c2⟩ := h.facts
  have has := h.row.has b htE
  have hof := h.row.of b htE
  have HG : Hid (goBlk q E O b = goLines q ((q.blocks.getD b []).drop 0) (E.getD b [], E, O)) := rfl
  have hZ : StAt (w.alloc (.cells #[.int .u8 0, .int .u8 0, .int .u8 0, .int .u8 0, .int .u8 0, .int .u8 0, .int .u8 0, .int .u8 0, .int .u8 0, .int .u8 0, .int .u8 0, .int .u8 0, .int .u8 0, .int .u8 0, .int .u8 0, .int .u8 0, .int .u8 0, .int .u8 0, .int .u8 0, .int .u8 0, .int .u8 0, .int .u8 0, .int .u8 0, .int .u8 0] 209)) w.heap.size zeroSt := StAt.new w (s := zeroSt) (by decide)
  have hbZ : Below w.heap.size w (w.alloc (.cells #[.int .u8 0, .int .u8 0, .int .u8 0, .int .u8 0, .int .u8 0, .int .u8 0, .int .u8 0, .int .u8 0, .int .u8 0, .int .u8 0, .int .u8 0, .int .u8 0, .int .u8 0, .int .u8 0, .int .u8 0, .int .u8 0, .int .u8 0, .int .u8 0, .int .u8 0, .int .u8 0, .int .u8 0, .int .u8 0, .int .u8 0, .int .u8 0] 209)) := (Below.refl _ _).alloc (Nat.le_refl _) _
  have hroom := StAt.room hZ
  have hist := isSt_of hE.len
  have hJ := StAt.store hZ hE.len
  have hbW : Below w.heap.size w ((w.alloc (.cells #[.int .u8 0, .int .u8 0, .int .u8 0, .int .u8 0, .int .u8 0, .int .u8 0, .int .u8 0, .int .u8 0, .int .u8 0, .int .u8 0, .int .u8 0, .int .u8 0, .int .u8 0, .int .u8 0, .int .u8 0, .int .u8 0, .int .u8 0, .int .u8 0, .int .u8 0, .int .u8 0, .int .u8 0, .int .u8 0, .int .u8 0, .int .u8 0] 209)).setCells w.heap.size 0 (stCells (E.getD b []))) := below_setCells hbZ (Nat.le_refl _) _ _
  have hW := h.below hbW
  generalize E.getD b [] = e0 at *
  clear hbZ hZ
  go_enter Tryz.func189, Tryz.ntmps189
  go_upto_region 1 with fail
  generalize ((w.alloc (.cells #[.int .u8 0, .int .u8 0, .int .u8 0, .int .u8 0, .int .u8 0, .int .u8 0, .int .u8 0, .int .u8 0, .int .u8 0, .int .u8 0, .int .u8 0, .int .u8 0, .int .u8 0, .int .u8 0, .int .u8 0, .int .u8 0, .int .u8 0, .int .u8 0, .int .u8 0, .int .u8 0, .int .u8 0, .int .u8 0, .int .u8 0, .int .u8 0] 209)).setCells w.heap.size 0 (stCells e0)) = W at *
  clear hroom has hof c0 c1 c2
  obtain ⟨c0, c1, c2⟩ := hW.facts
  obtain ⟨p0, p1, -, -⟩ := PAt.facts hW.prog
  obtain ⟨gb, cb, adk, ck, rfl, hcb, hgb, hcell, hus⟩ := blocks_cell2 hW.prog b hb
  have hln := hlines b
  have hok : ∀ l ∈ q.blocks.getD b [], LOk q.locals.length q.blocks.length l := hq.lines _ (by simp [hb])
  have hTW : Turn2 ap mb w W := .ofBelow hbW
  have hbne : w.heap.size ≠ ap := by omega
  have hBA : Hid (∀ wn E' O', WAt z x a ap mb wn q vl (.slice (some ⟨gb, 0, none⟩) q.blocks.length cb) us vss E' O' → BlockAt z wn (.slice adk (q.blocks.getD b []).length ck) (q.blocks.getD b []) (vss.getD b [])) := fun wn E' O' hwn => by
    have h1 := hwn.prog.each b hb
    rw [hus] at h1; exact h1
  have HL : Hid (∀ wn E' O', WAt z x a ap mb wn q vl (.slice (some ⟨gb, 0, none⟩) q.blocks.length cb) us vss E' O' → ∀ i, i < (q.blocks.getD b []).length → ∀ v1 v2, (vss.getD b []).getD i (undef, undef) = (v1, v2) → LineAt z wn ((q.blocks.getD b []).getD i QLine.nil) v1 v2) := fun wn E' O' hwn i hi v1 v2 hv => WAt.line hwn hb hi hv
  have HS : Hid (∀ i, i < (q.blocks.getD b []).length → ∀ t : St, goLines q ((q.blocks.getD b []).drop i) t = goLines q ((q.blocks.getD b []).drop (i + 1)) (goNext ((q.blocks.getD b []).getD i QLine.nil) ((q.blocks.getD b []).getD i QLine.nil).next 0 (passQ q ((q.blocks.getD b []).getD i QLine.nil) t.1, t.2))) := fun i hi t => goLines_step q _ i hi t
  generalize q.blocks.getD b [] = blk at *
  generalize vss.getD b [] = vsj at *
  have hmbl := h.opn.lt
  have hmbW := hW.opn.lt
  go_wp2
  go_loopg [27] (blk.length) (fun g v27 wr => ∃ (i : Nat) (s' : List Nat) (E' : List (List Nat)) (O' : Nat → Bool), i ≤ blk.length ∧ g + i = blk.length ∧ v27 = .int .i64 i ∧ WAt z x a ap mb wr q vl (.slice (some ⟨gb, 0, none⟩) q.blocks.length cb) us vss E' O' ∧ StAt wr w.heap.size s' ∧ SOk s' ∧ Turn2 ap mb w wr ∧ Hid (goBlk q E O b = goLines q (blk.drop i) (s', E', O')))
  case atStart => exact ⟨0, e0, E, O, Nat.zero_le _, rfl, rfl, hW, hJ, hE, hTW, HG⟩
  case round =>
    obtain ⟨i, s', E', O', hi, hgi, rfl, hWr, hSr, hso, hTr, HR⟩ := hrel
    clear hJ HG hW hbW hTW c0 c1 c2 p0 p1 hcell hist hE
    by_cases hli : i < blk.length
    · obtain ⟨gl, apl, cp, an, cn, rfl, -, hcl, hgl, k0, k1, k2, k3, k4, k5, hvs⟩ := block_cells2 (hBA.out wr E' O' hWr) i hli
      have hS : Hid (_ = _) := HS.out i hli (s', E', O')
      have HLi : Hid (∀ wn E' O', WAt z x a ap mb wn q vl (.slice (some ⟨gb, 0, none⟩) q.blocks.length cb) us vss E' O' → LineAt z wn (blk.getD i QLine.nil) (.slice apl (blk.getD i QLine.nil).places.length cp) (.slice an (blk.getD i QLine.nil).next.length cn)) := fun wn E' O' hwn => HL.out wn E' O' hwn i hli _ _ hvs
      have hl := hok (blk.getD i QLine.nil) (by simp [hli])
      clear hvs
      generalize blk.getD i QLine.nil = l at *
      have hbL : Below wr.heap.size wr (wr.alloc (.cells #[.int .i64 (l.num : Nat), .int .i64 (l.op : Nat), .slice apl l.places.length cp, .int .i64 l.number, .int .i64 l.flag, .slice an l.next.length cn] 115)) := (Below.refl _ _).alloc (Nat.le_refl _) _
      have hWL := hWr.below hbL
      have hSL := hSr.below hbL hSr.lt
      have hTL := hTr.on hbL
      have hlnL : (wr.alloc (.cells #[.int .i64 (l.num : Nat), .int .i64 (l.op : Nat), .slice apl l.places.length cp, .int .i64 l.number, .int .i64 l.flag, .slice an l.next.length cn] 115)).heap[wr.heap.size]? = some (.cells #[.int .i64 (l.num : Nat), .int .i64 (l.op : Nat), .slice apl l.places.length cp, .int .i64 l.number, .int .i64 l.flag, .slice an l.next.length cn] 115 (0, 0)) := Array.getElem?_push_size
      have hsr := hTr.size
      go_upto_region 4 with fail
      generalize (wr.alloc (.cells #[.int .i64 (l.num : Nat), .int .i64 (l.op : Nat), .slice apl l.places.length cp, .int .i64 l.number, .int .i64 l.flag, .slice an l.next.length cn] 115)) = WL at *
      clear k0 k1 k2 k3 k4 k5 hbL
      have hbd : Below WL.heap.size WL WL.drew := below_drewN (Below.refl _ _) 1
      have hWLd := hWL.below hbd
      have hSLd : StAt WL.drew w.heap.size s' := hSL
      have hlnLd : WL.drew.heap[wr.heap.size]? = some (.cells #[.int .i64 (l.num : Nat), .int .i64 (l.op : Nat), .slice apl l.places.length cp, .int .i64 l.number, .int .i64 l.flag, .slice an l.next.length cn] 115 (0, 0)) := hlnL
      have hTLd := hTL.on hbd
      obtain ⟨c0, c1, c2⟩ := hWL.facts
      have l0 := (cell_of_heap hlnL 0).trans (by rfl : _ = some (Value.int .i64 (l.num : Nat)))
      have l1 := (cell_of_heap hlnL 1).trans (by rfl : _ = some (Value.int .i64 (l.op : Nat)))
      have l2 := (cell_of_heap hlnL 2).trans (by rfl : _ = some (Value.slice apl l.places.length cp))
      have l3 := (cell_of_heap hlnL 3).trans (by rfl : _ = some (Value.int .i64 l.number))
      have l4 := (cell_of_heap hlnL 4).trans (by rfl : _ = some (Value.int .i64 l.flag))
      have l5 := (cell_of_heap hlnL 5).trans (by rfl : _ = some (Value.slice an l.next.length cn))
      have KP := pass_any q l q.blocks.length z a w.heap.size vl _ apl an cp cn s' WL.drew ⟨hWLd.prog.blk, ⟨_, hWLd.prog.locals⟩⟩ hls hl (HLi.out _ _ _ hWLd) hSLd hso.lt
      go_cut [6] (fun v6 wc => v6 = .pointer (some ⟨wr.heap.size, 0, none⟩) ∧ StAt wc w.heap.size (passQ q l s') ∧ Turn w.heap.size WL.drew wc)
      case first =>
        go_region_with (go_at_call 128; refine KP.mono ?_; rintro e w1 ⟨rfl, hS1, hT1⟩)
        all_goals go_wp2_with fail
        all_goals
          go_meet
          case rel => exact ⟨rfl, hS1, hT1⟩
      case rest =>
        obtain ⟨rfl, hS1, hT1⟩ := hcut
        have hW1 := hWLd.other hT1 hSLd hbne
        have hlt1 := lt_of_heap hlnLd
        have hwr : w.heap.size < wr.heap.size := hSr.lt
        have hln1 : wc.heap[wr.heap.size]? = some (.cells #[.int .i64 (l.num : Nat), .int .i64 (l.op : Nat), .slice apl l.places.length cp, .int .i64 l.number, .int .i64 l.flag, .slice an l.next.length cn] 115 (0, 0)) := (hT1.block _ hlt1 (by omega)).trans hlnLd
        have hT1' : Turn2 ap mb w wc := hTLd.since hT1 (Nat.le_refl _)
        have hso1 := passQ_ok q l hso
        have HR1 : Hid (goBlk q E O b = goLines q (blk.drop (i + 1)) (goNext l l.next 0 (passQ q l s', E', O'))) := HR.out.trans hS.out
        have l5 := (cell_of_heap hln1 5).trans (by rfl : _ = some (Value.slice an l.next.length cn))
        have hnl : l.next.length ≤ 3 := by
          rw [hl.nlen]
          have key : ∀ op : Fin 23, ((wantsOf op.val).filter (· == 98)).length ≤ 3 := by decide
          exact key ⟨l.op, hl.op⟩
        clear KP hS HR hWL hSL hTL hlnL hbd hWLd hSLd hlnLd hTLd c0 c1 c2 l0 l1 l2 l3 l4 hT1 hlt1 hso hSr hTr hWr hsr
        generalize passQ q l s' = s1 at *
        have HN0 : Hid (goNext l l.next 0 (s1, E', O') = goNext l (l.next.drop 0) 0 (s1, E', O')) := rfl
        clear l5
        have l5 := (cell_of_heap hln1 5).trans (by rfl : _ = some (Value.slice an l.next.length cn))
        clear hgl hcl
        generalize wr.heap.size = lb at *
        go_wp2
        go_loopg [40] (l.next.length) (fun g v40 wn => ∃ (j : Nat) (s2 : List Nat) (E2 : List (List Nat)) (O2 : Nat → Bool), j ≤ l.next.length ∧ g + j = l.next.length ∧ v40 = .int .i64 j ∧ WAt z x a ap mb wn q vl (.slice (some ⟨gb, 0, none⟩) q.blocks.length cb) us vss E2 O2 ∧ StAt wn w.heap.size s2 ∧ SOk s2 ∧ wn.heap[lb]? = some (.cells #[.int .i64 (l.num : Nat), .int .i64 (l.op : Nat), .slice apl l.places.length cp, .int .i64 l.number, .int .i64 l.flag, .slice an l.next.length cn] 115 (0, 0)) ∧ Turn2 ap mb w wn ∧ Hid (goNext l l.next 0 (s1, E', O') = goNext l (l.next.drop j) j (s2, E2, O2)))
        case atStart => exact ⟨0, s1, E', O', Nat.zero_le _, rfl, rfl, hW1, hS1, hso1, hln1, hT1', HN0⟩
        case round =>
          obtain ⟨j, s2, E2, O2, hj, hgj, rfl, hWn, hSn, hsn, hlnn, hTn, HN⟩ := hrel
          clear hW1 hS1 hso1 hln1 hT1' HN0 l5
          by_cases hlj : j < l.next.length
          · obtain ⟨gn, rfl, hcn, hgn, hcx⟩ := next_at (HLi.out _ _ _ hWn) j hlj
            have hnx : l.next.getD j 0 < q.blocks.length := hl.next _ (by rw [List.getD_eq_getElem?_getD, List.getElem?_eq_getElem hlj]; exact List.getElem_mem hlj)
            have hji : (j : Int) < (l.next.length : Nat) := by omega
            have hso3 := stepS_ok l j hsn
            have HNJ : Hid (_ = _) := HN.out.trans (goNext_step l l.next j hlj (s2, E2, O2))
            generalize l.next.getD j 0 = nx at *
            have m1 := (cell_of_heap hlnn 1).trans (by rfl : _ = some (Value.int .i64 (l.op : Nat)))
            have m2 := (cell_of_heap hlnn 2).trans (by rfl : _ = some (Value.slice apl l.places.length cp))
            have hltn := lt_of_heap hlnn
            by_cases h20 : l.op = 20
            · have b20 : (((l.op : Nat) : Int) == 20) = true := by rw [h20]; rfl
              have hlen : l.places.length = 1 := by rw [hl.plen, h20]; rfl
              obtain ⟨gp, rfl, hcp, hgp, d1, d2⟩ := place_at (HLi.out _ _ _ hWn) hlen 0 (by omega)
              have hx := (hl.places _ (getD_mem (j := 0) (by omega))).1
              have hst : Hid (stepS l j s2 = putL (if j = 0 then 4 else 2) [l.places.getD 0 (0, 0)] s2) := by unfold Hid; rw [stepS, if_pos h20]
              rw [hst.out] at HNJ hso3
              have e1 : wr.cell? ⟨gp, 0, none⟩ = some (.int .i64 ((l.places.getD 0 (0, 0)).1 : Nat)) := d1
              have e2 : wr.cell? ⟨gp, 1, none⟩ = some (.int .i64 ((l.places.getD 0 (0, 0)).2 : Nat)) := d2
              have hid : (0 : Int) < (l.places.length : Nat) := by omega
              clear d1 d2
              generalize l.places.getD 0 (0, 0) = y at *
              have hmay : (if j = 0 then 4 else 2 : Nat) < 16 := by split <;> decide
              have KM := matched_any j wr.drew
              have KMP := matched_any j (wr.alloc (.cells #[.int .i64 (y.1 : Nat), .int .i64 (y.2 : Nat)] 119)).drew
              generalize (if j = 0 then 4 else 2 : Nat) = may at *
              have hbP : Below wr.heap.size wr (wr.alloc (.cells #[.int .i64 (y.1 : Nat), .int .i64 (y.2 : Nat)] 119)) := (Below.refl _ _).alloc (Nat.le_refl _) _
              have hbPd : Below wr.heap.size wr (wr.alloc (.cells #[.int .i64 (y.1 : Nat), .int .i64 (y.2 : Nat)] 119)).drew := below_drewN hbP 1
              have hSP : StAt (wr.alloc (.cells #[.int .i64 (y.1 : Nat), .int .i64 (y.2 : Nat)] 119)).drew w.heap.size s2 := hSn.below hbPd hSn.lt
              have hWP := hWn.below hbPd
              have hTP := hTn.on hbPd
              have hlnP := (hbPd.block lb hltn).trans hlnn
              have hpl : PlacesAt wr.heap.size (wr.alloc (.cells #[.int .i64 (y.1 : Nat), .int .i64 (y.2 : Nat)] 119)).drew (.slice (some ⟨wr.heap.size, 0, none⟩) 1 1) [y] := place_one wr y (n := wr.heap.size) rfl
              have KP := put_any may w.heap.size _ 1 1 _ [y] s2 _ hSP hpl (fun v hv => by simp only [List.mem_singleton] at hv; subst hv; omega) hmay
              have hsz : (wr.alloc (.cells #[.int .i64 (y.1 : Nat), .int .i64 (y.2 : Nat)] 119)).heap.size = wr.heap.size + 1 := by simp
              rw [hlen] at *
              go_upto_region 9 with fail
              go_cut [7, 8] (fun v7 v8 wc => v7 = .int .i64 (j : Nat) ∧ v8 = .int .i64 (nx : Nat) ∧ StAt wc w.heap.size (putL may [y] s2) ∧ ∃ wp, WAt z x a ap mb wp q vl (.slice (some ⟨gb, 0, none⟩) q.blocks.length cb) us vss E2 O2 ∧ StAt wp w.heap.size s2 ∧ wp.heap[lb]? = some (.cells #[.int .i64 (l.num : Nat), .int .i64 (l.op : Nat), .slice (some ⟨gp, 0, none⟩) 1 cp, .int .i64 l.number, .int .i64 l.flag, .slice (some ⟨gn, 0, none⟩) l.next.length cn] 115 (0, 0)) ∧ Turn2 ap mb w wp ∧ Turn w.heap.size wp wc)
              case first =>
                go_region_with (first
                  | (go_at_call 177; refine KP.mono ?_; rintro e w2 ⟨rfl, hS2, hT2⟩)
                  | (go_at_call 218; refine KM.mono ?_; rintro e w2 ⟨rfl, rfl⟩)
                  | (go_at_call 218; refine KMP.mono ?_; rintro e w2 ⟨rfl, rfl⟩))
                all_goals go_wp2_with fail
                all_goals
                  go_meet
                  case rel => exact ⟨rfl, rfl, hS2, _, hWP, hSP, hlnP, hTP, hT2⟩
              case rest =>
                obtain ⟨rfl, rfl, hS2, wp, hWp, hSp, hlnp, hTp, hT2⟩ := hcut
                clear KM KMP KP hWP hSP hlnP hTP hbP hbPd hpl e1 e2 m1 m2 hsz
                have hW2 := hWp.other hT2 hSp hbne
                have hln2 := (hT2.block lb (lt_of_heap hlnp) (by omega)).trans hlnp
                have hT2' : Turn2 ap mb w wc := hTp.since hT2 (Nat.le_refl _)
                have j1 := StAt.has hS2
                have j2 := StAt.of hS2
                have KL := lead_any hW2 nx hnx hn _ hso3
                generalize putL may [y] s2 = s3 at *
                go_wp2_with (go_at_call 187; refine KL.mono ?_; rintro e w3 ⟨rfl, hW3, hT3⟩)
                go_roundg (l.next.length - (j + 1))
                case measure => omega
                case rel =>
                  refine ⟨j + 1, s3, _, _, by omega, by omega, by go_num, hW3, ⟨hS2.1, (hT3.block _ hS2.lt hbne (by omega)).trans hS2.2⟩, hso3, (hT3.block _ (lt_of_heap hln2) (by omega) (by omega)).trans hln2, hT2'.trans hT3, HNJ⟩
            · have b20 : (((l.op : Nat) : Int) == 20) = false := by rw [beq_eq_false_iff_ne]; omega
              have hst : Hid (stepS l j s2 = s2) := by unfold Hid; rw [stepS, if_neg h20]
              rw [hst.out] at HNJ
              have j1 := StAt.has hSn
              have j2 := StAt.of hSn
              have KL := lead_any hWn nx hnx hn s2 hsn
              go_wp2_with (go_at_call 187; refine KL.mono ?_; rintro e w3 ⟨rfl, hW3, hT3⟩)
              go_roundg (l.next.length - (j + 1))
              case measure => omega
              case rel =>
                refine ⟨j + 1, s2, _, _, by omega, by omega, by go_num, hW3, ⟨hSn.1, (hT3.block _ hSn.lt hbne (by omega)).trans hSn.2⟩, hsn, (hT3.block _ hltn (by omega) (by omega)).trans hlnn, hTn.trans hT3, HNJ⟩
          · go_wp2
            go_roundg (blk.length - (i + 1))
            case measure => omega
            case rel =>
              refine ⟨i + 1, s2, E2, O2, by omega, by omega, by go_num, hWn, hSn, hsn, hTn, ?_⟩
              have hnil : l.next.drop j = [] := List.drop_eq_nil_of_le (by omega)
              unfold Hid
              rw [HR1.out, HN.out, hnil]; rfl
    · go_wp2
      go_end0
      refine ⟨rfl, ?_, hTr⟩
      rw [HR.out, List.drop_eq_nil_of_le (by omega)]
      exact hWr
end
end Go.Proofs.YtmlgajhhnojdjaaGreatDoor.FlwN
