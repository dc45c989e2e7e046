/- The project's machine that owns: every statement behind which a run goes on. -/
import Derived.Test.YtmlgajhhnojdjaaGreatDoorAAS
import Derived.Test.YtmlgajhhnojdjaaGreatDoorAAU
import Derived.Test.YtmlgajhhnojdjaaGreatDoorAAF
import Derived.Test.YtmlgajhhnojdjaaGreatDoorAAP
import Derived.Test.YtmlgajhhnojdjaaGreatDoorAAQ
import Derived.Deep.MidRow
namespace Go.Proofs.YtmlgajhhnojdjaaGreatDoor.Own
open Go Go.RowKit Go.Proofs.YtmlgajhhnojdjaaGreatDoor.Spec Go.Proofs.YtmlgajhhnojdjaaGreatDoor.Aux Go.Proofs.YtmlgajhhnojdjaaGreatDoor.PrjJ Go.Proofs.YtmlgajhhnojdjaaGreatDoor.PrjK Go.Proofs.YtmlgajhhnojdjaaGreatDoor.PrjL Go.Proofs.YtmlgajhhnojdjaaGreatDoor.PrjM Go.Proofs.YtmlgajhhnojdjaaGreatDoor.PrjS Go.Proofs.YtmlgajhhnojdjaaGreatDoor.PrjT Go.Proofs.YtmlgajhhnojdjaaGreatDoor.FlwA Go.Proofs.YtmlgajhhnojdjaaGreatDoor.FlwB Go.Proofs.YtmlgajhhnojdjaaGreatDoor.FlwD Go.Proofs.YtmlgajhhnojdjaaGreatDoor.FlwE

section
variable {x a : Nat} {w w0 w1 : World} {vm vt vi vm1 vt1 : Value} {o : Own}
set_option maxRecDepth 20000 in
set_option maxHeartbeats 1000000 in
theorem do_calc (h : OAt w0 x a w o vi vm vt) {z nl nb : Nat} {l : QLine} {ap an : Option Addr} {cp cn : Nat} (hl : LineAt z w l (.slice ap l.places.length cp) (.slice an l.next.length cn)) (hk : LOk nl nb l) (hnl : nl ≤ 12)
    (hop : l.op = 3 ∨ l.op = 4 ∨ l.op = 5) (hr : ∀ n ∈ o.ints, isI64 n) :
    Calls Tryz.prog 65 #[.pointer (some ⟨x, 0, none⟩), .agg #[.int .i64 (l.num : Nat), .int .i64 (l.op : Nat), .slice ap l.places.length cp, .int .i64 l.number, .int .i64 l.flag, .slice an l.next.length cn]] w fun e w' =>
      e = .returned (.tuple #[]) ∧ OAt w0 x a w' (o.calc l) vi vm vt ∧ Roam x vm vt w vm vt w' := by
  have hbA : Below w.heap.size w (w.alloc (.cells #[.int .i64 (l.num : Nat), .int .i64 (l.op : Nat), .slice ap l.places.length cp, .int .i64 l.number, .int .i64 l.flag, .slice an l.next.length cn] 115)) := (Below.refl _ _).alloc (Nat.le_refl _) _
  have KC := calculate_any (h.below hbA) (hl.below hbA) hk hnl (by omega) (fun e => by omega) hr
  have hC : Hid (({ o with ints := o.ints.set (QLine.pl l 0).1 (calcI l.op (o.num (QLine.pl l 1)) (o.num (QLine.pl l 2))) } : Own) = o.calc l) := rfl
  rw [hC.out] at KC
  clear hl hk hC
  rcases hop with e | e | e
  all_goals
    have b2 : (((l.op : Nat) : Int) == 2) = false := by rw [e]; rfl
    have b3 : (((l.op : Nat) : Int) == 3) = decide (l.op = 3) := by rw [e]; rfl
    have b4 : (((l.op : Nat) : Int) == 4) = decide (l.op = 4) := by rw [e]; rfl
    have b5 : (((l.op : Nat) : Int) == 5) = decide (l.op = 5) := by rw [e]; rfl
    simp only [e] at b3 b4 b5
    simp only [Nat.reduceEqDiff, decide_true, decide_false] at b3 b4 b5
    rw [← e] at b3 b4 b5
    clear e
    go_enter Tryz.func65, Tryz.ntmps65
    go_wp2_with (go_at_call 59; go_fit KC; rintro e w2 ⟨rfl, h2, r2⟩)
    go_end0
    exact ⟨rfl, h2, (Roam.of hbA).trans r2⟩
/-- the operations that go on -/
def goesOn (op : Nat) : Prop := op = 2 ∨ op = 3 ∨ op = 4 ∨ op = 5 ∨ op = 7 ∨ op = 8 ∨ op = 10 ∨ op = 11 ∨ op = 12 ∨ op = 13 ∨ op = 14 ∨ op = 15
theorem do_any (h : OAt w0 x a w o vi vm vt) {z nb t : Nat} {q : QP} {v u : Value} {l : QLine} {ap an : Option Addr} {cp cn : Nat} (hl : LineAt z w l (.slice ap l.places.length cp) (.slice an l.next.length cn)) (hk : LOk q.locals.length nb l) (hnl : q.locals.length ≤ 12)
    (hop : goesOn l.op) (hin : o.In t) (ht : t ≤ 900000) (hneed : o.need l = true) (hq : PQ w0 a q v u) (hhl : l.op = 12 ∨ l.op = 14 → (QP.halvesQ q (plOf l 0)).length = (QP.halvesQ q (plOf l 1)).length) (hpw : Pow w0) (h11 : 11 ≤ w0.heap.size) :
    Calls Tryz.prog 65 #[.pointer (some ⟨x, 0, none⟩), .agg #[.int .i64 (l.num : Nat), .int .i64 (l.op : Nat), .slice ap l.places.length cp, .int .i64 l.number, .int .i64 l.flag, .slice an l.next.length cn]] w fun e w' =>
      e = .returned (.tuple #[]) ∧ ∃ vi' vm' vt', OAt w0 x a w' (o.do1 q l) vi' vm' vt' ∧ Roam x vm vt w vm' vt' w' := by
  have hs := hin.sz (by omega)
  have ht' : t + 100 ≤ 9000000 := by omega
  unfold plOf at hhl
  rcases hop with e | e | e | e | e | e | e | e | e | e | e | e
  · have hd : o.do1 q l = { o with ints := o.ints.set (l.places.getD 0 (0, 0)).1 l.number } := by unfold Own.do1; rw [if_pos e]; rfl
    rw [hd]
    exact (do_set h hl hk hnl e).mono fun e w' ⟨h0, h1, h2⟩ => ⟨h0, vi, vm, vt, h1, h2⟩
  · have hd : o.do1 q l = o.calc l := by unfold Own.do1; rw [if_neg (by omega), if_pos (by omega)]
    rw [hd]
    exact (do_calc h hl hk hnl (by omega) hin.nums).mono fun e w' ⟨h0, h1, h2⟩ => ⟨h0, vi, vm, vt, h1, h2⟩
  · have hd : o.do1 q l = o.calc l := by unfold Own.do1; rw [if_neg (by omega), if_pos (by omega)]
    rw [hd]
    exact (do_calc h hl hk hnl (by omega) hin.nums).mono fun e w' ⟨h0, h1, h2⟩ => ⟨h0, vi, vm, vt, h1, h2⟩
  · have hd : o.do1 q l = o.calc l := by unfold Own.do1; rw [if_neg (by omega), if_pos (by omega)]
    rw [hd]
    exact (do_calc h hl hk hnl (by omega) hin.nums).mono fun e w' ⟨h0, h1, h2⟩ => ⟨h0, vi, vm, vt, h1, h2⟩
  · have hd : o.do1 q l = { o with inp := o.inp.tail, ints := o.ints.set (l.places.getD 0 (0, 0)).1 (o.inp.headD 0) } := by unfold Own.do1; rw [if_neg (by omega), if_neg (by omega), if_pos e]; rfl
    rw [hd]
    exact (do_in h hl hk hnl e).mono fun e w' ⟨h0, ⟨vi', h1⟩, h2⟩ => ⟨h0, vi', vm, vt, h1, h2⟩
  · have hd : o.do1 q l = { o with yd := o.yd.note 111 (o.num (l.places.getD 0 (0, 0))) } := by unfold Own.do1; rw [if_neg (by omega), if_neg (by omega), if_neg (by omega), if_pos e]; rfl
    rw [hd]
    exact (do_out h hl hk hnl e hs ht' hpw h11 hin.nums).mono fun e w' ⟨h0, vm', vt', h1, h2⟩ => ⟨h0, vi, vm', vt', h1, h2⟩
  · have hd : o.do1 q l = { o with yd := o.yd.load (o.box (l.places.getD 1 (0, 0))), ints := o.ints.set (l.places.getD 0 (0, 0)).1 (o.yd.at (o.box (l.places.getD 1 (0, 0)))).1 } := by unfold Own.do1; rw [if_neg (by omega), if_neg (by omega), if_neg (by omega), if_neg (by omega), if_pos e]; rfl
    have hn : 1 ≤ o.box (l.places.getD 1 (0, 0)) := by unfold Own.need at hneed; rw [if_pos e] at hneed; exact of_decide_eq_true hneed
    rw [hd]
    exact (do_load h hl hk hnl e hs ht' hpw h11 hin.bx hn).mono fun e w' ⟨h0, vm', vt', h1, h2⟩ => ⟨h0, vi, vm', vt', h1, h2⟩
  · have hd : o.do1 q l = { o with yd := o.yd.store (o.box (l.places.getD 0 (0, 0))) (o.num (l.places.getD 1 (0, 0))) } := by unfold Own.do1; rw [if_neg (by omega), if_neg (by omega), if_neg (by omega), if_neg (by omega), if_neg (by omega), if_pos e]; rfl
    have hn : 1 ≤ o.box (l.places.getD 0 (0, 0)) := by unfold Own.need at hneed; rw [if_neg (by omega), if_pos e] at hneed; exact of_decide_eq_true hneed
    rw [hd]
    exact (do_store h hl hk hnl e hs ht' hpw h11 hin.bx hn).mono fun e w' ⟨h0, vm', vt', h1, h2⟩ => ⟨h0, vi, vm', vt', h1, h2⟩
  · have hd : o.do1 q l = o.move (QP.halvesQ q (l.places.getD 0 (0, 0))) (QP.halvesQ q (l.places.getD 1 (0, 0))) := by unfold Own.do1; rw [if_neg (by omega), if_neg (by omega), if_neg (by omega), if_neg (by omega), if_neg (by omega), if_neg (by omega), if_pos (by omega)]; rfl
    rw [hd]
    exact (do_move h hl hk hnl e hs ht' hpw h11 hin.bx hq rfl (hhl (.inl e))).mono fun e w' ⟨h0, vm', vt', h1, h2⟩ => ⟨h0, vi, vm', vt', h1, h2⟩
  · have hd : o.do1 q l = o.drop (QP.halvesQ q (l.places.getD 0 (0, 0))) := by unfold Own.do1; rw [if_neg (by omega), if_neg (by omega), if_neg (by omega), if_neg (by omega), if_neg (by omega), if_neg (by omega), if_neg (by omega), if_pos (by omega)]; rfl
    rw [hd]
    exact (do_none h hl hk hnl e hs ht' hpw h11 hin.bx hq rfl).mono fun e w' ⟨h0, vm', vt', h1, h2⟩ => ⟨h0, vi, vm', vt', h1, h2⟩
  · have hd : o.do1 q l = o.move (QP.halvesQ q (l.places.getD 0 (0, 0))) (QP.halvesQ q (l.places.getD 1 (0, 0))) := by unfold Own.do1; rw [if_neg (by omega), if_neg (by omega), if_neg (by omega), if_neg (by omega), if_neg (by omega), if_neg (by omega), if_pos (by omega)]; rfl
    rw [hd]
    exact (do_some h hl hk hnl e hs ht' hpw h11 hin.bx hq rfl (hhl (.inr e))).mono fun e w' ⟨h0, vm', vt', h1, h2⟩ => ⟨h0, vi, vm', vt', h1, h2⟩
  · have hd : o.do1 q l = o.drop (QP.halvesQ q (l.places.getD 0 (0, 0))) := by unfold Own.do1; rw [if_neg (by omega), if_neg (by omega), if_neg (by omega), if_neg (by omega), if_neg (by omega), if_neg (by omega), if_neg (by omega), if_pos (by omega)]; rfl
    rw [hd]
    exact (do_drop h hl hk hnl e hs ht' hpw h11 hin.bx hq rfl).mono fun e w' ⟨h0, vm', vt', h1, h2⟩ => ⟨h0, vi, vm', vt', h1, h2⟩
end
end Go.Proofs.YtmlgajhhnojdjaaGreatDoor.Own
/- Plain facts: the blocks of a program that was read: a terminator at the end of each, and nowhere else; its words fit. -/
namespace Go.Proofs.YtmlgajhhnojdjaaGreatDoor.RunA
open Go Go.Proofs.YtmlgajhhnojdjaaGreatDoor.Spec Go.Proofs.YtmlgajhhnojdjaaGreatDoor.PrjS

/-- terminators only at its end -/
def Whole (b : List QLine) : Prop := ∃ ls l, b = ls ++ [l] ∧ 18 ≤ l.op ∧ ∀ m ∈ ls, m.op < 18
structure Shp (raw : Bool) (o : OrdP) (q : QP) : Prop where
  none : o.sec = 0 → q.blocks = []
  opn : o.sec = 1 → ∃ bs b, q.blocks = bs ++ [b] ∧ (∀ c ∈ bs, Whole c) ∧ ∀ m ∈ b, m.op < 18
  whl : o.sec = 2 → ∀ c ∈ q.blocks, Whole c
  has : ∀ b ∈ q.blocks, ∀ l ∈ b, hasP raw l.op = true
  sec : o.sec ≤ 2
theorem lineP_op {ls : List (B × Nat)} {nb : Nat} {x : Nat × List B} {l : QLine} (h : lineP ls nb x = some l) : l.op = x.1 := by
  rw [lineP] at h
  obtain ⟨i1, -⟩ := lineGo_ok ls nb _ _ _ _ h (by simp) (by simp) (by simp) (by simp)
  exact i1
theorem admits_has {raw : Bool} {o : OrdP} {op : Nat} (h : (admitsP raw o op).2 = true) : hasP raw op = true := by
  unfold admitsP at h
  split at h
  · cases h
  · rename_i hh; simpa using hh
theorem shp_go (raw : Bool) (nb : Nat) : ∀ (ls : List (List B)) (o : OrdP) (i j : Nat) (q0 q : QP), (splitGo raw ls o i).2.2 = none → lookGo nb (splitGo raw ls o i).1 j q0 = (q, none) → Shp raw o q0 → Shp raw (splitGo raw ls o i).2.1 q
  | [], o, i, j, q0, q, _, h, hs => by
    simp only [splitGo, lookGo, Prod.mk.injEq, and_true] at h
    rw [← h]; exact hs
  | ws :: r, o, i, j, q0, q, hn, h, hs => by
    rw [splitGo] at hn h ⊢
    cases hx : sentP ws with
    | none => rw [hx] at hn; cases hn
    | some x =>
      rw [hx] at hn h
      simp only at hn h ⊢
      by_cases ha : (admitsP raw o x.1).2 = true
      · rw [if_pos ha] at hn h ⊢
        have ih := fun q1 hl hs1 => shp_go raw nb r (admitsP raw o x.1).1 (i + 1) (j + 1) q1 q hn hl hs1
        have hhas := admits_has ha
        have hsec := admitsP_sec raw o x.1 hs.sec
        rw [lookGo] at h
        have hnh : ¬ hasP raw x.1 = false := by rw [hhas]; decide
        by_cases e0 : x.1 = 0
        · rw [if_pos e0] at h
          split at h
          · simp at h
          · refine ih _ h ?_
            have e : (admitsP raw o x.1).1 = ⟨o.sec, o.locals + 1, o.blocks⟩ := by rw [admitsP, if_neg hnh, if_pos e0]
            rw [e]
            exact ⟨hs.none, hs.opn, hs.whl, hs.has, hs.sec⟩
        · rw [if_neg e0] at h
          by_cases e1 : x.1 = 1
          · rw [if_pos e1] at h
            refine ih _ h ?_
            have e : admitsP raw o x.1 = (⟨1, o.locals, o.blocks + 1⟩, decide (0 < o.locals) && !(o.sec == 1) && decide (o.blocks + 1 ≤ if raw then 2000 else 20)) := by rw [admitsP, if_neg hnh, if_neg e0, if_pos e1]
            rw [e] at ha
            simp only [Bool.and_eq_true, Bool.not_eq_true', beq_eq_false_iff_ne] at ha
            rw [e]
            have hsec' := hs.sec
            refine ⟨fun h => (by cases h), fun _ => ⟨q0.blocks, [], rfl, fun c hc => ?_, fun m hm => (by cases hm)⟩, fun h => (by cases h), fun b hb l hl => ?_, by simp⟩
            · by_cases h0 : o.sec = 0
              · rw [hs.none h0] at hc; cases hc
              · exact hs.whl (by have := ha.1.2; omega) c hc
            · simp only [QP.addBlock, List.mem_append, List.mem_singleton] at hb
              rcases hb with hb | rfl
              · exact hs.has b hb l hl
              · cases hl
          · rw [if_neg e1] at h
            cases hl : lineP q0.locals nb x with
            | none => rw [hl] at h; simp at h
            | some l =>
              rw [hl] at h
              have hop := lineP_op hl
              by_cases h1 : o.sec = 1
              · obtain ⟨bs, b, hb, hw, ho⟩ := hs.opn h1
                have hadd : (q0.addLine { l with num := j }).blocks = bs ++ [b ++ [{ l with num := j }]] := by
                  simp only [QP.addLine, hb]; simp
                have hhas2 : ∀ b ∈ (q0.addLine { l with num := j }).blocks, ∀ l ∈ b, hasP raw l.op = true := fun c hc m hm => by
                  rw [hadd] at hc
                  simp only [List.mem_append, List.mem_singleton] at hc
                  rcases hc with hc | rfl
                  · exact hs.has c (by rw [hb]; simp [hc]) m hm
                  · simp only [List.mem_append, List.mem_singleton] at hm
                    rcases hm with hm | rfl
                    · exact hs.has b (by rw [hb]; simp) m hm
                    · show hasP raw l.op = true; rw [hop]; exact hhas
                refine ih _ h ?_
                by_cases h18 : 18 ≤ x.1
                · have e : (admitsP raw o x.1).1 = ⟨2, o.locals, o.blocks⟩ := by rw [admitsP, if_neg hnh, if_neg e0, if_neg e1, if_neg (by simp [h1]), if_pos h18]
                  rw [e]
                  refine ⟨fun h => (by cases h), fun h => (by cases h), fun _ c hc => ?_, hhas2, by simp⟩
                  rw [hadd] at hc
                  simp only [List.mem_append, List.mem_singleton] at hc
                  rcases hc with hc | rfl
                  · exact hw c hc
                  · exact ⟨b, _, rfl, by show 18 ≤ l.op; omega, ho⟩
                · have e : (admitsP raw o x.1).1 = o := by rw [admitsP, if_neg hnh, if_neg e0, if_neg e1, if_neg (by simp [h1]), if_neg h18]
                  rw [e]
                  refine ⟨fun h => by omega, fun _ => ⟨bs, _, hadd, hw, fun m hm => ?_⟩, fun h => by omega, hhas2, hs.sec⟩
                  simp only [List.mem_append, List.mem_singleton] at hm
                  rcases hm with hm | rfl
                  · exact ho m hm
                  · show l.op < 18; omega
              · exfalso
                rw [admitsP, if_neg hnh, if_neg e0, if_neg e1, if_pos h1] at ha
                cases ha
      · rw [if_neg ha] at hn; cases hn
/-- the blocks of a program that was read -/
structure Shape (q : QP) : Prop where
  whole : ∀ b, b < q.blocks.length → Whole (q.blocks.getD b [])
  has : ∀ b, ∀ l ∈ q.blocks.getD b [], hasP false l.op = true
  fits : ∀ b, ∀ l ∈ q.blocks.getD b [], q.fits l = true
theorem getD_memB {L : List (List QLine)} {b : Nat} {l : QLine} (h : l ∈ L.getD b []) : L.getD b [] ∈ L := by
  rw [List.getD_eq_getElem?_getD] at h ⊢
  cases hb : L[b]? with
  | none => rw [hb] at h; cases h
  | some c => exact List.mem_of_getElem? hb
theorem read_shape {text : B} {q : QP} (h : prjRead text false = (some q, 0, 0)) : Shape q := by
  by_cases hlong : (split 10 text).length > (if false = true then 4000 else 120)
  · rw [prjRead, if_pos hlong] at h; cases h
  · rw [prjRead, if_neg hlong] at h
    split at h
    · cases h
    · rename_i hsp
      split at h
      · cases h
      · rename_i hsec
        split at h
        · cases h
        · rename_i hlook
          split at h
          · cases h
          · rename_i hmis
            simp only [Prod.mk.injEq, Option.some.injEq, and_true] at h
            have hs := shp_go false (countB (splitGo false (wordsOf text) ⟨0, 0, 0⟩ 0).1) (wordsOf text) ⟨0, 0, 0⟩ 0 0 QP.empty q hsp (by rw [← h, ← hlook]) ⟨fun _ => rfl, fun h => (by cases h), fun h => (by cases h), fun b hb => by simp [QP.empty] at hb, by simp⟩
            rw [h] at hmis
            refine ⟨fun b hb => hs.whl (by simpa using hsec) _ (by simp [hb]), fun b l hl => hs.has _ (getD_memB hl) l hl, fun b l hl => ?_⟩
            simp only [QP.misfit, Option.map_eq_none_iff, List.find?_eq_none, Bool.not_eq_true', Bool.not_eq_false] at hmis
            exact hmis l (List.mem_flatten.mpr ⟨_, getD_memB hl, hl⟩)
end Go.Proofs.YtmlgajhhnojdjaaGreatDoor.RunA
/- States read and written whole, as rules for a walk: what is asked of the world stands behind a name. -/
namespace Go.Proofs.YtmlgajhhnojdjaaGreatDoor.FlwF
open Go Go.RowKit Go.Proofs.YtmlgajhhnojdjaaGreatDoor.Spec Go.Proofs.YtmlgajhhnojdjaaGreatDoor.Aux Go.Proofs.YtmlgajhhnojdjaaGreatDoor.PrjJ Go.Proofs.YtmlgajhhnojdjaaGreatDoor.PrjK Go.Proofs.YtmlgajhhnojdjaaGreatDoor.FlwB

def HasSt (w : World) (b o : Nat) : Prop := ∃ s : List Nat, s.length = 24 ∧ w.rangeAt b o (stCells s)
def RoomSt (w : World) (b o : Nat) : Prop := w.there b o 24
def stOf (w : World) (b o : Nat) : Array Value := ((List.range 24).map fun j => (w.cell? ⟨b, o + j, none⟩).getD undef).toArray
def IsSt (xs : Array Value) : Prop := ∃ s : List Nat, s.length = 24 ∧ xs = (stCells s).toArray
theorem stCells_len (s : List Nat) : (stCells s).length = s.length := by simp [stCells]
theorem stOf_eq {w : World} {b o : Nat} {s : List Nat} (hl : s.length = 24) (h : w.rangeAt b o (stCells s)) : stOf w b o = (stCells s).toArray := by
  unfold stOf
  congr 1
  apply List.ext_getElem?
  intro j
  rw [List.getElem?_map]
  by_cases hj : j < 24
  · rw [List.getElem?_range hj]
    have hj' : j < (stCells s).length := by rw [stCells_len]; omega
    have := h j (stCells s)[j] (List.getElem?_eq_getElem hj')
    rw [Option.map_some, this, List.getElem?_eq_getElem hj']; rfl
  · rw [List.getElem?_eq_none (by simp; omega), List.getElem?_eq_none (by rw [stCells_len]; omega)]; rfl
theorem info_state {s : List Nat} (h : s.length = 24) : (Tryz.prog.info? 209).map (·.size) = some (stCells s).length := by
  rw [stCells_len, h]; kernel_rfl
theorem st_one (s : List Nat) : ∀ u ∈ stCells s, u.oneCell' = true := by
  intro u hu
  simp only [stCells, List.mem_map] at hu
  obtain ⟨n, -, rfl⟩ := hu
  rfl
theorem loadVar_st (w : World) (b o : Nat) (h : HasSt w b o) : (loadVar 209 ⟨b, o, none⟩).run Tryz.prog w = .ok (.agg (stOf w b o)) w := by
  obtain ⟨s, hs, hw⟩ := h
  rw [stOf_eq hs hw]
  exact run_loadVar_mid w b o 209 (stCells s) _ hw Tryz.underlying209 rfl (info_state hs)
theorem storeVar_st (w : World) (b o : Nat) (xs : Array Value) (h : RoomSt w b o) (hx : IsSt xs) : (storeVar 209 ⟨b, o, none⟩ (.agg xs)).run Tryz.prog w = .ok () (w.setCells b o xs.toList) := by
  obtain ⟨t, ht, rfl⟩ := hx
  refine run_storeVar_mid w b o 209 (stCells t).toArray ?_ ?_ (all_oneCell_toArray (st_one t))
  · have := h; unfold RoomSt at this; rw [List.size_toArray, stCells_len, ht]; exact this
  · have := info_state ht; rw [List.size_toArray]; exact this
def ptrOff : Value → Nat
  | .pointer (some ad) => ad.off
  | _ => 0
def PtrSt (w : World) (v : Value) : Prop := ∃ b o, v = .pointer (some ⟨b, o, none⟩) ∧ HasSt w b o
def PtrRoom (w : World) (v : Value) : Prop := ∃ b o, v = .pointer (some ⟨b, o, none⟩) ∧ RoomSt w b o
def AggSt (v : Value) : Prop := ∃ xs, v = .agg xs ∧ IsSt xs
def ptrBlk : Value → Nat
  | .pointer (some ad) => ad.block
  | _ => 0
def aggOf : Value → Array Value
  | .agg xs => xs
  | _ => #[]
@[simp] theorem ptrOff_ptr (ad : Addr) : ptrOff (.pointer (some ad)) = ad.off := rfl
@[simp] theorem ptrBlk_ptr (ad : Addr) : ptrBlk (.pointer (some ad)) = ad.block := rfl
@[simp] theorem aggOf_agg (xs : Array Value) : aggOf (.agg xs) = xs := rfl
@[simp] theorem ptrSt_ptr (w : World) (b o : Nat) : PtrSt w (.pointer (some ⟨b, o, none⟩)) = HasSt w b o := propext ⟨fun ⟨_, _, e, h⟩ => by cases e; exact h, fun h => ⟨b, o, rfl, h⟩⟩
@[simp] theorem ptrRoom_ptr (w : World) (b o : Nat) : PtrRoom w (.pointer (some ⟨b, o, none⟩)) = RoomSt w b o := propext ⟨fun ⟨_, _, e, h⟩ => by cases e; exact h, fun h => ⟨b, o, rfl, h⟩⟩
@[simp] theorem aggSt_agg (xs : Array Value) : AggSt (.agg xs) = IsSt xs := by simp [AggSt]
section
variable (d : Option Tmp) (x y : Operand) (t : TypeId) (ps : String) (af : Array Edge) (g : Option (Nat × Bool)) (a : Act) (w : World) (K : Act → World → Prop) (Q : Exit → Act → World → Prop)
theorem wp_load_st (h : PtrSt w (a.eval x)) : Oper.wp Tryz.prog { dst := d, op := Op.load 209 x, type := t, pos := ps, after := af, guard := g } a w K Q = K (a.put d (.agg (stOf w (ptrBlk (a.eval x)) (ptrOff (a.eval x))))) w := by
  obtain ⟨b, o, hb, hh⟩ := h
  have := loadVar_st w b o hh
  unfold Oper.wp execOp
  simp only [hb, Instr.loadAt, Instr.sureAddr, Sem.run_bind, Sem.run_pure, Result.andThen_ok, this, ptrBlk_ptr, ptrOff_ptr]
  rfl
theorem wp_store_st (h : PtrRoom w (a.eval x)) (h' : AggSt (a.eval y)) : Oper.wp Tryz.prog { dst := d, op := Op.store 209 x y, type := t, pos := ps, after := af, guard := g } a w K Q = K (a.put d undef) (w.setCells (ptrBlk (a.eval x)) (ptrOff (a.eval x)) (aggOf (a.eval y)).toList) := by
  obtain ⟨b, o, hb, hh⟩ := h
  obtain ⟨xs, hy, hx⟩ := h'
  have := storeVar_st w b o xs hh hx
  unfold Oper.wp execOp
  simp only [hb, hy, Instr.storeAt, Instr.sureAddr, Sem.run_bind, Sem.run_pure, Result.andThen_ok, this, ptrBlk_ptr, ptrOff_ptr, aggOf_agg]
  rfl
end
theorem StAt.range {w : World} {b : Nat} {s : List Nat} (h : StAt w b s) : w.rangeAt b 0 (stCells s) := fun j v hv => by
  rw [Nat.zero_add, cell_of_heap h.2]; simpa using hv
theorem StAt.has {w : World} {b : Nat} {s : List Nat} (h : StAt w b s) : HasSt w b 0 := ⟨s, h.1, StAt.range h⟩
theorem StAt.room {w : World} {b : Nat} {s : List Nat} (h : StAt w b s) : RoomSt w b 0 := fun j hj => by
  rw [Nat.zero_add, StAt.cell h j hj, StAt.frozen h]; exact ⟨rfl, rfl⟩
theorem StAt.of {w : World} {b : Nat} {s : List Nat} (h : StAt w b s) : stOf w b 0 = (stCells s).toArray := stOf_eq h.1 (StAt.range h)
theorem StAt.new (w : World) {s : List Nat} (h : s.length = 24) : StAt (w.alloc (.cells (stCells s).toArray 209)) w.heap.size s := ⟨h, Array.getElem?_push_size⟩
/-- written whole -/
theorem StAt.store {w : World} {b : Nat} {s t : List Nat} (h : StAt w b s) (ht : t.length = 24) : StAt (w.setCells b 0 (stCells t)) b t := by
  obtain ⟨cs', h1, h2, h3⟩ := heap_setCells b (stCells t) 0 w _ _ _ h.2
  refine ⟨ht, ?_⟩
  rw [h1]
  congr 2
  apply Array.ext_getElem?
  intro j
  rw [h3]
  have l1 : (stCells s).length = 24 := by rw [stCells_len]; exact h.1
  have l2 : (stCells t).length = 24 := by rw [stCells_len]; exact ht
  by_cases hj : j < 24
  · rw [if_pos (by simp [l1, l2, hj])]; simp
  · rw [if_neg (by simp [l2]; omega)]; simp [l1, l2, Nat.le_of_not_lt hj]
theorem turn_setCells {w w' : World} {b : Nat} (_h : Turn b w w') (_o : Nat) : ∀ (vs : List Value) (o : Nat) (w' : World), Turn b w w' → Turn b w (w'.setCells b o vs)
  | [], _, _, h => h
  | v :: r, o, w', h => by rw [World.setCells]; exact turn_setCells h o r (o + 1) _ (h.setCell o v)
def zeroSt : List Nat := List.replicate 24 0
theorem isSt_of {s : List Nat} (h : s.length = 24) : IsSt (stCells s).toArray := ⟨s, h, rfl⟩
end Go.Proofs.YtmlgajhhnojdjaaGreatDoor.FlwF
