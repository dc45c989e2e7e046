/- What the project's reader makes of a line's words: places and ways on looked up. -/
import Derived.Test.YtmlgajhhnojdjaaGreatDoorSAL
import Derived.Deep.RegionLaw
import Derived.BigRegion
namespace Go.Proofs.YtmlgajhhnojdjaaGreatDoor.PrjP
open Go Go.RowKit Go.Proofs.YtmlgajhhnojdjaaGreatDoor.Spec Go.Proofs.YtmlgajhhnojdjaaGreatDoor.Aux Go.Proofs.YtmlgajhhnojdjaaGreatDoor.PrjF Go.Proofs.YtmlgajhhnojdjaaGreatDoor.PrjG Go.Proofs.YtmlgajhhnojdjaaGreatDoor.PrjH Go.Proofs.YtmlgajhhnojdjaaGreatDoor.PrjI Go.Proofs.YtmlgajhhnojdjaaGreatDoor.PrjJ Go.Proofs.YtmlgajhhnojdjaaGreatDoor.PrjK Go.Proofs.YtmlgajhhnojdjaaGreatDoor.PrjL Go.Proofs.YtmlgajhhnojdjaaGreatDoor.PrjM Go.Proofs.YtmlgajhhnojdjaaGreatDoor.PrjN Go.Proofs.YtmlgajhhnojdjaaGreatDoor.PrjO

/-- a line in a block of its own -/
def LnAt (w : World) (b : Nat) (l : QLine) (vp vn : Value) : Prop :=
  w.heap[b]? = some (.cells #[.int .i64 (l.num : Nat), .int .i64 (l.op : Nat), vp, .int .i64 l.number, .int .i64 l.flag, vn] 115 (0, 0))
section
variable {w w' : World} {b : Nat} {l : QLine} {vp vn : Value}
theorem LnAt.below {z : Nat} (h : LnAt w b l vp vn) (hb : Below z w w') (hz : b < z) : LnAt w' b l vp vn := by
  unfold LnAt; rw [hb.block b hz]; exact h
theorem LnAt.facts (h : LnAt w b l vp vn) : w.cell? ⟨b, 0, none⟩ = some (.int .i64 (l.num : Nat)) ∧ w.cell? ⟨b, 1, none⟩ = some (.int .i64 (l.op : Nat)) ∧ w.cell? ⟨b, 2, none⟩ = some vp ∧ w.cell? ⟨b, 3, none⟩ = some (.int .i64 l.number) ∧ w.cell? ⟨b, 4, none⟩ = some (.int .i64 l.flag) ∧ w.cell? ⟨b, 5, none⟩ = some vn ∧ ∀ o, w.frozen? ⟨b, o, none⟩ = false := by
  unfold LnAt at h
  refine ⟨?_, ?_, ?_, ?_, ?_, ?_, frozen_of_heap h⟩ <;> (rw [cell_of_heap h]; rfl)
theorem LnAt.number (h : LnAt w b l vp vn) (n : Int) : LnAt (w.setCell ⟨b, 3, none⟩ (.int .i64 n)) b { l with number := n } vp vn := by
  unfold LnAt at h ⊢; rw [Go.Proofs.YtmlgajhhnojdjaaGreatDoor.Aux.heap_setCell_same h 3]; rfl
theorem LnAt.flag (h : LnAt w b l vp vn) (n : Int) : LnAt (w.setCell ⟨b, 4, none⟩ (.int .i64 n)) b { l with flag := n } vp vn := by
  unfold LnAt at h ⊢; rw [Go.Proofs.YtmlgajhhnojdjaaGreatDoor.Aux.heap_setCell_same h 4]; rfl
theorem LnAt.places (h : LnAt w b l vp vn) (v : Value) (ps : List (Nat × Nat)) : LnAt (w.setCell ⟨b, 2, none⟩ v) b { l with places := ps } v vn := by
  unfold LnAt at h ⊢; rw [Go.Proofs.YtmlgajhhnojdjaaGreatDoor.Aux.heap_setCell_same h 2]; rfl
theorem LnAt.next (h : LnAt w b l vp vn) (v : Value) (ns : List Nat) : LnAt (w.setCell ⟨b, 5, none⟩ v) b { l with next := ns } vp v := by
  unfold LnAt at h ⊢; rw [Go.Proofs.YtmlgajhhnojdjaaGreatDoor.Aux.heap_setCell_same h 5]; rfl
theorem LineAt.turn {z : Nat} (h : LineAt z w l vp vn) (hb : Turn b w w') {cs : Array Value} {f : Nat × Nat} (hl : w.heap[b]? = some (.cells cs 115 f)) : LineAt z w' l vp vn :=
  h.keep fun he hv => own_heap hv fun g hg => hb.block g (hv.lt g hg).2 fun x => by
    subst x
    rcases he with rfl | rfl
    · exact own_at_ne hv hl (by decide) hg
    · exact own_at_ne hv hl (by decide) hg
end
theorem own_slice {w : World} {z : Nat} {e : TypeId} {s : Nat} {v : Value} {n : Nat} {xs : List Value} (h : w.ownsRow z e s v n xs) : ∃ ad c, v = .slice ad n c := by
  rcases h.2 with ⟨rfl, rfl⟩ | ⟨g, cap, cur, rfl, -⟩
  · exact ⟨none, 0, rfl⟩
  · exact ⟨_, _, rfl⟩
def LinePost (z : Nat) (ls : List (B × Nat)) (nb : Nat) (x : Nat × List B) (w : World) (e : Ending) (w' : World) : Prop :=
  Below w.heap.size w w' ∧ match lineP ls nb x with
    | none => e = .returned (.tuple #[.agg #[.int .i64 0, .int .i64 0, .slice none 0 0, .int .i64 0, .int .i64 0, .slice none 0 0], .bool false])
    | some l => ∃ vp vn, e = .returned (.tuple #[.agg #[.int .i64 (l.num : Nat), .int .i64 (l.op : Nat), vp, .int .i64 l.number, .int .i64 l.flag, vn], .bool true]) ∧ LineAt z w' l vp vn
theorem info_place : (Tryz.prog.info? 119).map (fun i => (i.zero, i.size, i.bytes)) = some (some (.agg #[.int .i64 0, .int .i64 0]), 2, 16) := by kernel_rfl
theorem info_int : (Tryz.prog.info? 3).map (fun i => (i.zero, i.size, i.bytes)) = some (some (.int .i64 0), 1, 8) := by kernel_rfl
theorem lineGo_step (ls : List (B × Nat)) (nb : Nat) (f : B) (ws : List B) (k : Nat) (hk : k < f.length) (l : QLine) : lineGo ls nb (f.drop k) (ws.drop k) l =
    if ((f[k].toNat : Int) == 35) = true ∨ ((f[k].toNat : Int) == 118) = true then lineGo ls nb (f.drop (k + 1)) (ws.drop (k + 1)) { l with number := (numberP (word ws k)).getD 0 }
    else if ((f[k].toNat : Int) == 102) = true then lineGo ls nb (f.drop (k + 1)) (ws.drop (k + 1)) { l with flag := (digitsP (word ws k)).getD 0 }
    else if ((f[k].toNat : Int) == 98) = true then
      (if ((digitsP (word ws k)).getD 0) ≥ nb then none else lineGo ls nb (f.drop (k + 1)) (ws.drop (k + 1)) { l with next := l.next ++ [((digitsP (word ws k)).getD 0).toNat] })
    else
      (if findQ ls ((splitPl (word ws k)).getD ([], 0)).1 < 0 then none
       else lineGo ls nb (f.drop (k + 1)) (ws.drop (k + 1)) { l with places := l.places ++ [((findQ ls ((splitPl (word ws k)).getD ([], 0)).1).toNat, ((splitPl (word ws k)).getD ([], 0)).2)] }) := by
  have e : ∀ n : Nat, n < 256 → (((f[k].toNat : Int) == (n : Int)) = true ↔ f[k] = UInt8.ofNat n) := fun n hn => by
    rw [u8_eq f[k] n hn, beq_iff_eq]; omega
  have e1 := e 35 (by omega); have e2 := e 118 (by omega); have e3 := e 102 (by omega); have e4 := e 98 (by omega)
  simp only [Int.cast_ofNat_Int] at e1 e2 e3 e4
  have hw : word (ws.drop k) 0 = word ws k := by simp [word]
  simp only [e1, e2, e3, e4]
  rw [List.drop_eq_getElem_cons hk, lineGo, hw, List.drop_drop]
  rfl
theorem six_cells {w : World} {b : Nat} {l : QLine} {vp vn : Value} (r : LnAt w b l vp vn) (a0 a1 a2 a3 a4 a5 : Value) :
    ((((((w.setCell ⟨b, 0, none⟩ a0).setCell ⟨b, 1, none⟩ a1).setCell ⟨b, 2, none⟩ a2).setCell ⟨b, 3, none⟩ a3).setCell ⟨b, 4, none⟩ a4).setCell ⟨b, 5, none⟩ a5).rangeAt b 0 [a0, a1, a2, a3, a4, a5] := by
  unfold LnAt at r
  have h1 := Go.Proofs.YtmlgajhhnojdjaaGreatDoor.Aux.heap_setCell_same r 0 a0
  have h2 := Go.Proofs.YtmlgajhhnojdjaaGreatDoor.Aux.heap_setCell_same h1 1 a1
  have h3 := Go.Proofs.YtmlgajhhnojdjaaGreatDoor.Aux.heap_setCell_same h2 2 a2
  have h4 := Go.Proofs.YtmlgajhhnojdjaaGreatDoor.Aux.heap_setCell_same h3 3 a3
  have h5 := Go.Proofs.YtmlgajhhnojdjaaGreatDoor.Aux.heap_setCell_same h4 4 a4
  have h6 := Go.Proofs.YtmlgajhhnojdjaaGreatDoor.Aux.heap_setCell_same h5 5 a5
  intro j v hv
  rw [cell_of_heap h6]
  match j, hv with
  | 0, hv => simpa using hv
  | 1, hv => simpa using hv
  | 2, hv => simpa using hv
  | 3, hv => simpa using hv
  | 4, hv => simpa using hv
  | 5, hv => simpa using hv
theorem info_line : (Tryz.prog.info? 115).map (·.size) = some 6 := by kernel_rfl
theorem line_ret {z nb : Nat} {ls : List (B × Nat)} {x : Nat × List B} {w w2 : World} {tmps : Array Value} {a0 a1 a2 a3 a4 a5 : Value} {bl : Bool} {b : Nat} {l : QLine} {vp vn : Value} (h6 : tmps.getD 6 undef = .pointer (some ⟨b, 0, none⟩)) (h7 : tmps.getD 7 undef = .bool bl) (r : LnAt w2 b l vp vn)
    (P : ∀ w3, Turn b w2 w3 → LinePost z ls nb x w (.returned (.tuple #[.agg #[a0, a1, a2, a3, a4, a5], .bool bl])) w3) :
    bodyPost Tryz.prog Tryz.f170 (LinePost z ls nb x w) Exit.ret { tmps := tmps, defers := [] } ((((((w2.setCell ⟨b, 0, none⟩ a0).setCell ⟨b, 1, none⟩ a1).setCell ⟨b, 2, none⟩ a2).setCell ⟨b, 3, none⟩ a3).setCell ⟨b, 4, none⟩ a4).setCell ⟨b, 5, none⟩ a5) := by
  refine bodyPost_ret (results_cell_bool Tryz.results170 tmps _ _ b [a0, a1, a2, a3, a4, a5] _ h6 (six_cells r a0 a1 a2 a3 a4 a5) Tryz.underlying115 rfl info_line) rfl ?_
  rw [h7]
  exact P _ ((((((((Turn.refl b w2).setCell 0 a0).setCell 1 a1).setCell 2 a2).setCell 3 a3).setCell 4 a4).setCell 5 a5))
theorem one_place {m n : Int} : ∀ u' ∈ [Value.int .i64 m, Value.int .i64 n], u'.oneCell' = true := by
  intro u' hu; simp at hu; rcases hu with rfl | rfl <;> rfl
/-- the state of the loop over words -/
structure LoopAt (ls : List (B × Nat)) (nb op gw ow cw : Nat) (ws : List B) (w wr : World) (k : Nat) (l : QLine) (vp vn : Value) : Prop where
  ln : LnAt wr (w.heap.size + 1) l vp vn
  at_ : LineAt w.heap.size wr l vp vn
  sent : wr.heap[w.heap.size]? = some (.cells #[.int .i64 (op : Nat), .slice (some ⟨gw, ow, none⟩) (wantsOf op).length cw] 240 (0, 0))
  old : Below w.heap.size w wr
  few : l.places.length ≤ k ∧ l.next.length ≤ k
  same : lineP ls nb (op, ws) = lineGo ls nb ((wantsOf op).drop k) (ws.drop k) l
section
variable {ls : List (B × Nat)} {nb op gw ow cw : Nat} {ws : List B} {w wr w1 w2 w3 : World} {k : Nat} {l : QLine} {vp vn : Value}
theorem LoopAt.on (h : LoopAt ls nb op gw ow cw ws w wr k l vp vn) (hb : Below wr.heap.size wr w1) : LoopAt ls nb op gw ow cw ws w w1 k l vp vn :=
  ⟨h.ln.below hb (lt_of_heap h.ln), h.at_.below hb, by rw [hb.block _ (lt_of_heap h.sent)]; exact h.sent, h.old.trans (hb.mono h.old.size), h.few, h.same⟩
/-- the line's own block turned: what else stands -/
theorem LoopAt.turned (h : LoopAt ls nb op gw ow cw ws w wr k l vp vn) (hb : Turn (w.heap.size + 1) wr w1) : LineAt w.heap.size w1 l vp vn ∧ w1.heap[w.heap.size]? = some (.cells #[.int .i64 (op : Nat), .slice (some ⟨gw, ow, none⟩) (wantsOf op).length cw] 240 (0, 0)) ∧ Below w.heap.size w w1 :=
  ⟨LineAt.turn h.at_ hb h.ln, by rw [hb.block _ (lt_of_heap h.sent) (by omega)]; exact h.sent, h.old.trans (hb.below (by omega) h.old.size)⟩
theorem LoopAt.next (h : LoopAt ls nb op gw ow cw ws w w1 k l vp vn) (m : Nat) {v' : Value} (h2 : Below w1.heap.size w1 w2) (hown : w3.ownsRow w.heap.size 3 1 v' (l.next.length + 1) (intCells l.next ++ [.int .i64 (m : Nat)])) (hg : w2.grownBy w3 vn.ownBlock)
    (hs : lineP ls nb (op, ws) = lineGo ls nb ((wantsOf op).drop (k + 1)) (ws.drop (k + 1)) { l with next := l.next ++ [m] }) : LoopAt ls nb op gw ow cw ws w (w3.setCell ⟨w.heap.size + 1, 5, none⟩ v') (k + 1) { l with next := l.next ++ [m] } vp v' := by
  have H := h.on h2
  have keep : ∀ (g : Nat) (cs : Array Value) (e : TypeId) (f : Nat × Nat), w2.heap[g]? = some (.cells cs e f) → 3 ≠ e → w3.heap[g]? = w2.heap[g]? := fun g cs e f hgg he => hg.block g (lt_of_heap hgg) (own_type_ne H.at_.next hgg he)
  have hl3 : LnAt w3 (w.heap.size + 1) l vp vn := by unfold LnAt; rw [keep _ _ _ _ H.ln (by decide)]; exact H.ln
  have hs3 : w3.heap[w.heap.size]? = _ := (keep _ _ _ _ H.sent (by decide)).trans H.sent
  have hb3 : Below w.heap.size w w3 := by
    refine H.old.grown hg H.old.size fun k hk => ?_
    exact (H.at_.next.lt k hk).1
  refine ⟨hl3.next v' (l.next ++ [m]), ⟨?_, ?_⟩, ?_, hb3.trans (((Turn.refl _ w3).setCell 5 v').below (by omega) hb3.size), ⟨by have := h.few; simp; omega, by have := h.few; simp; omega⟩, hs⟩
  · exact own_setCell (H.at_.places.kept hg (own_ne H.at_.places H.at_.next (by decide))) _ (own_at_ne (H.at_.places.kept hg (own_ne H.at_.places H.at_.next (by decide))) hl3 (by decide))
  · have := own_setCell hown (a := ⟨w.heap.size + 1, 5, none⟩) v' (own_at_ne hown hl3 (by decide))
    simpa [intCells] using this
  · rw [Below.heap_setCell _ _ _ _ (by show w.heap.size ≠ w.heap.size + 1; omega)]; exact hs3
theorem LoopAt.place (h : LoopAt ls nb op gw ow cw ws w w1 k l vp vn) (x : Nat × Nat) {v' : Value} (h2 : Below w1.heap.size w1 w2) (hown : w3.ownsRow w.heap.size 119 2 v' (l.places.length + 1) (plCells l.places ++ [.int .i64 (x.1 : Nat), .int .i64 (x.2 : Nat)])) (hg : w2.grownBy w3 vp.ownBlock)
    (hs : lineP ls nb (op, ws) = lineGo ls nb ((wantsOf op).drop (k + 1)) (ws.drop (k + 1)) { l with places := l.places ++ [x] }) : LoopAt ls nb op gw ow cw ws w (w3.setCell ⟨w.heap.size + 1, 2, none⟩ v') (k + 1) { l with places := l.places ++ [x] } v' vn := by
  have H := h.on h2
  have keep : ∀ (g : Nat) (cs : Array Value) (e : TypeId) (f : Nat × Nat), w2.heap[g]? = some (.cells cs e f) → 119 ≠ e → w3.heap[g]? = w2.heap[g]? := fun g cs e f hgg he => hg.block g (lt_of_heap hgg) (own_type_ne H.at_.places hgg he)
  have hl3 : LnAt w3 (w.heap.size + 1) l vp vn := by unfold LnAt; rw [keep _ _ _ _ H.ln (by decide)]; exact H.ln
  have hs3 : w3.heap[w.heap.size]? = _ := (keep _ _ _ _ H.sent (by decide)).trans H.sent
  have hb3 : Below w.heap.size w w3 := by
    refine H.old.grown hg H.old.size fun k hk => ?_
    exact (H.at_.places.lt k hk).1
  refine ⟨hl3.places v' (l.places ++ [x]), ⟨?_, ?_⟩, ?_, hb3.trans (((Turn.refl _ w3).setCell 2 v').below (by omega) hb3.size), ⟨by have := h.few; simp; omega, by have := h.few; simp; omega⟩, hs⟩
  · have := own_setCell hown (a := ⟨w.heap.size + 1, 2, none⟩) v' (own_at_ne hown hl3 (by decide))
    simpa [plCells, plCell] using this
  · exact own_setCell (H.at_.next.kept hg (own_ne H.at_.next H.at_.places (by decide))) _ (own_at_ne (H.at_.next.kept hg (own_ne H.at_.next H.at_.places (by decide))) hl3 (by decide))
  · rw [Below.heap_setCell _ _ _ _ (by show w.heap.size ≠ w.heap.size + 1; omega)]; exact hs3
end
theorem ln_grown {ls : List (B × Nat)} {nb op gw ow cw : Nat} {ws : List B} {w w1 w2 w3 : World} {k : Nat} {l : QLine} {vp vn : Value} (h : LoopAt ls nb op gw ow cw ws w w1 k l vp vn) (h2 : Below w1.heap.size w1 w2) {vx : Value} {e : TypeId} {sz n : Nat} {xs : List Value} (hx : w2.ownsRow w.heap.size e sz vx n xs) (hg : w2.grownBy w3 vx.ownBlock) (he : e ≠ 115) : LnAt w3 (w.heap.size + 1) l vp vn := by
  have H := h.on h2
  unfold LnAt
  rw [hg.block _ (lt_of_heap H.ln) (own_type_ne hx H.ln he)]; exact H.ln
theorem LinePost.none {z nb : Nat} {ls : List (B × Nat)} {x : Nat × List B} {w w' : World} (hb : Below w.heap.size w w') (h : lineP ls nb x = none) : LinePost z ls nb x w (.returned (.tuple #[.agg #[.int .i64 0, .int .i64 0, .slice none 0 0, .int .i64 0, .int .i64 0, .slice none 0 0], .bool false])) w' := by
  refine ⟨hb, ?_⟩; rw [h]
theorem LinePost.some {z nb : Nat} {ls : List (B × Nat)} {x : Nat × List B} {w w' : World} {l : QLine} {vp vn : Value} (hb : Below w.heap.size w w') (h : lineP ls nb x = some l) (hl : LineAt z w' l vp vn) : LinePost z ls nb x w (.returned (.tuple #[.agg #[.int .i64 (l.num : Nat), .int .i64 (l.op : Nat), vp, .int .i64 l.number, .int .i64 l.flag, vn], .bool true])) w' := by
  refine ⟨hb, ?_⟩; rw [h]; exact ⟨vp, vn, rfl, hl⟩
set_option maxRecDepth 20000 in
set_option maxHeartbeats 4000000 in
theorem lineOf_any (ls : List (B × Nat)) (nb op a gw ow cw : Nat) (ws : List B) (v u : Value) (w : World) (hp : w.heap[a]? = some (.cells #[v, u] 110 (0, 0))) (hv : LocAt w v ls) (hls : ls.length ≤ 4000) (_hnb : nb ≤ 4000) (hop : op < 23) (hws : ws.length = (wantsOf op).length) (_hcw : (wantsOf op).length ≤ cw)
    (hgw : gw < w.heap.size) (hW : ∀ j, j < (wantsOf op).length → w.cell? ⟨gw, ow + j, none⟩ = some (.string (bs (word ws j)))) (hlen : ∀ j, (word ws j).length ≤ 1048576) (E : Env w) :
    Calls Tryz.prog 170 #[.pointer (some ⟨a, 0, none⟩), .agg #[.int .i64 (op : Nat), .slice (some ⟨gw, ow, none⟩) (wantsOf op).length cw], .int .i64 (nb : Nat)] w (LinePost w.heap.size ls nb (op, ws) w) := by
  obtain ⟨ip, hip, hp0, hp1, hp2⟩ := info_parts info_place
  obtain ⟨ii, hii, hi0, hi1, hi2⟩ := info_parts info_int
  have hwl := wants_len op hop
  have HW : Hid (ws.length = (wantsOf op).length) := hws
  clear hws
  have hst : LoopAt ls nb op gw ow cw ws w ((w.alloc (.cells #[.int .i64 (op : Nat), .slice (some ⟨gw, ow, none⟩) (wantsOf op).length cw] 240)).alloc (.cells #[.int .i64 0, .int .i64 (op : Nat), .slice none 0 0, .int .i64 0, .int .i64 0, .slice none 0 0] 115)) 0 ⟨0, op, [], 0, 0, []⟩ (.slice none 0 0) (.slice none 0 0) := by
    refine ⟨?_, ⟨World.ownsRow_nil _ _ _ _, World.ownsRow_nil _ _ _ _⟩, ?_, ((Below.refl _ _).alloc (Nat.le_refl _) _).alloc (by simp) _, ⟨Nat.le_refl _, Nat.le_refl _⟩, rfl⟩
    · unfold LnAt
      rw [show w.heap.size + 1 = (w.alloc (.cells #[.int .i64 (op : Nat), .slice (some ⟨gw, ow, none⟩) (wantsOf op).length cw] 240)).heap.size by simp]
      exact Array.getElem?_push_size
    · rw [((Below.refl (w.heap.size + 1) _).alloc (by simp) _).block w.heap.size (by omega)]
      exact Array.getElem?_push_size
  go_enter Tryz.func170, Tryz.ntmps170
  go_wp2
  go_loopw [22] (fun i wr => ∃ (k : Nat) (l : QLine) (vp vn : Value), k ≤ (wantsOf op).length ∧ i = .int .i64 k ∧ LoopAt ls nb op gw ow cw ws w wr k l vp vn) (fun i _ => (wantsOf op).length - (intOf i).toNat)
  case atStart => exact ⟨0, _, _, _, Nat.zero_le _, rfl, hst⟩
  case round =>
    obtain ⟨k, l, vp, vn, hk, rfl, H⟩ := hrel
    clear hst
    obtain ⟨c0, c1, c2, c3, c4, c5, hf⟩ := H.ln.facts
    by_cases hlt : k < (wantsOf op).length
    · have hck : wr.cell? ⟨gw, ow + k, none⟩ = some (.string (bs (word ws k))) := (H.old.cell (p := ⟨gw, ow + k, none⟩) hgw).trans (hW k hlt)
      have hs0 : wr.cell? ⟨w.heap.size, 0, none⟩ = some (.int .i64 (op : Nat)) := by rw [cell_of_heap H.sent]; rfl
      have hsh := shape_cell (E.on H.old) op hop
      have E1 := E.on H.old
      have hlw := hlen k
      have HS : Hid (_ = _) := H.same.trans (lineGo_step ls nb (wantsOf op) ws k hlt l)
      by_cases h1 : (((wantsOf op)[k].toNat : Int) == 35) = true ∨ (((wantsOf op)[k].toNat : Int) == 118) = true
      · have HN : Hid (_ = _) := HS.out.trans (if_pos h1)
        have h1' := or_two h1
        clear h1 HS
        have KN := numberOf_any (word ws k) wr (by omega) E1
        rcases h1' with h1 | ⟨h1, h2⟩
        all_goals
          go_wp2_with (go_at_call 203; refine KN.mono ?_; rintro e w1 ⟨rfl, hb1⟩; have H1 := H.on hb1; obtain ⟨d0, d1, d2, d3, d4, d5, hd⟩ := H1.ln.facts; have g3 := hd 3)
          go_roundw
          case rel =>
            obtain ⟨t1, t2, t3⟩ := H1.turned ((Turn.refl _ _).setCell 3 (.int .i64 ((numberP (word ws k)).getD 0)))
            exact ⟨k + 1, { l with number := (numberP (word ws k)).getD 0 }, vp, vn, by omega, by go_num, H1.ln.number _, ⟨t1.places, t1.next⟩, t2, t3, ⟨Nat.le_succ_of_le H.few.1, Nat.le_succ_of_le H.few.2⟩, HN.out⟩
          case measure => simp [intOf]; omega
      · have HN : Hid (_ = _) := HS.out.trans (if_neg h1)
        simp only [not_or, Bool.not_eq_true] at h1
        obtain ⟨b1, b2⟩ := h1
        clear HS
        by_cases h2 : (((wantsOf op)[k].toNat : Int) == 102) = true
        · have HN2 : Hid (_ = _) := HN.out.trans (if_pos h2)
          clear HN
          have KN := flagOf_any (word ws k) wr (by omega) E1
          go_wp2_with (go_at_call 204; refine KN.mono ?_; rintro e w1 ⟨rfl, hb1⟩; have H1 := H.on hb1; obtain ⟨d0, d1, d2, d3, d4, d5, hd⟩ := H1.ln.facts; have g4 := hd 4)
          go_roundw
          case rel =>
            obtain ⟨t1, t2, t3⟩ := H1.turned ((Turn.refl _ _).setCell 4 (.int .i64 ((digitsP (word ws k)).getD 0)))
            exact ⟨k + 1, { l with flag := (digitsP (word ws k)).getD 0 }, vp, vn, by omega, by go_num, H1.ln.flag _, ⟨t1.places, t1.next⟩, t2, t3, ⟨Nat.le_succ_of_le H.few.1, Nat.le_succ_of_le H.few.2⟩, HN2.out⟩
          case measure => simp [intOf]; omega
        · have HN2 : Hid (_ = _) := HN.out.trans (if_neg h2)
          rw [Bool.not_eq_true] at h2
          clear HN
          by_cases h3 : (((wantsOf op)[k].toNat : Int) == 98) = true
          · have HN3 : Hid (_ = _) := HN2.out.trans (if_pos h3)
            clear HN2
            obtain ⟨n1, n2⟩ := digitsD_le (word ws k)
            have KN := blockOf_any (word ws k) wr (by omega) E1
            obtain ⟨m, hm⟩ : ∃ m : Nat, (digitsP (word ws k)).getD 0 = (m : Int) := ⟨((digitsP (word ws k)).getD 0).toNat, by omega⟩
            by_cases hge : (m : Int) ≥ nb
            · have hx : lineP ls nb (op, ws) = none := HN3.out.trans (if_pos (by rw [hm]; exact hge))
              rw [hm] at KN
              clear HN3 hm n1 n2
              go_wp2_with (go_at_call 205; refine KN.mono ?_; rintro e w1 ⟨rfl, hb1⟩; have H1 := H.on hb1; obtain ⟨d0, d1, d2, d3, d4, d5, hd⟩ := H1.ln.facts; have g0 := hd 0; have g1 := hd 1; have g2 := hd 2; have g3 := hd 3; have g4 := hd 4; have g5 := hd 5)
              refine line_ret rfl rfl H1.ln fun w3 hT => ?_
              obtain ⟨t1, t2, t3⟩ := H1.turned hT
              exact LinePost.none t3 hx
            · have hx : Hid (lineP ls nb (op, ws) = lineGo ls nb ((wantsOf op).drop (k + 1)) (ws.drop (k + 1)) { l with next := l.next ++ [m] }) := by
                unfold Hid
                rw [HN3.out, if_neg (by rw [hm]; exact hge), hm, Int.toNat_natCast]
              rw [hm] at KN
              rw [hm] at n2
              have hfew := H.few
              clear HN3 hm n1
              go_wp2_with (first
                | (go_at_call 205; refine KN.mono ?_; rintro e w1 ⟨rfl, hb1⟩; have H1 := H.on hb1; obtain ⟨d0, d1, d2, d3, d4, d5, hd⟩ := H1.ln.facts; have g5 := hd 5; have hbA : Below w1.heap.size w1 (w1.alloc (.cells #[.int .i64 (m : Nat)] 3)) := (Below.refl _ _).alloc (Nat.le_refl _) _)
                | (at_builtin; go_must (refine append_lies rfl _ _ 113 rfl w.heap.size 3 ii (.int .i64 0) 8 Tryz.underlying113 hii hi0 hi1 hi2 rfl vn _ _ rfl H1.at_.next _ rfl rfl (by decide) (by omega) H1.old.size ?_); intro g2 c2' w2 hown2 hgrow2 hat2 hlt2; have hl2 := ln_grown H1 hbA (own_below H1.at_.next hbA) hgrow2 (by decide); obtain ⟨e0, e1, e2, e3, e4, e5, he⟩ := hl2.facts; have g5' := he 5))
              go_roundw
              case rel => exact ⟨k + 1, { l with next := l.next ++ [m] }, vp, _, by omega, by go_num, H1.next m hbA hown2 hgrow2 hx.out⟩
              case measure => simp [intOf]; omega
          · have HN3 : Hid (_ = _) := HN2.out.trans (if_neg h3)
            rw [Bool.not_eq_true] at h3
            clear HN2
            have KN := splitPlace_any (word ws k) wr hlw E1
            generalize ((splitPl (word ws k)).getD ([], 0)).1 = nm at *
            generalize ((splitPl (word ws k)).getD ([], 0)).2 = pt at *
            have hpa : ∀ w', Below wr.heap.size wr w' → w'.heap[a]? = some (.cells #[v, u] 110 (0, 0)) := fun w' hb => by
              have hlta := lt_of_heap hp
              rw [hb.block a (Nat.lt_of_lt_of_le hlta H.old.size), H.old.block a hlta]; exact hp
            have KF := fun w' (hb : Below wr.heap.size wr w') => find_any ls v u nm a w' (hpa w' hb) ((hv.below H.old).below hb) hls
            have hrange := findQGo_ge ls nm 0
            change -1 ≤ findQ ls nm ∧ findQ ls nm < _ at hrange
            by_cases hneg : findQ ls nm < 0
            · have hx : lineP ls nb (op, ws) = none := HN3.out.trans (if_pos hneg)
              generalize findQ ls nm = q at *
              clear HN3 hrange
              go_wp2_with (first
                | (go_at_call 206; refine KN.mono ?_; rintro e w1 ⟨rfl, hb1⟩)
                | (go_at_call 168; refine (KF _ hb1).mono ?_; rintro e w2 ⟨rfl, hb2⟩; have H1 := (H.on hb1).on hb2; obtain ⟨d0, d1, d2, d3, d4, d5, hd⟩ := H1.ln.facts; have g0 := hd 0; have g1 := hd 1; have g2 := hd 2; have g3 := hd 3; have g4 := hd 4; have g5 := hd 5))
              refine line_ret rfl rfl H1.ln fun w3 hT => ?_
              obtain ⟨t1, t2, t3⟩ := H1.turned hT
              exact LinePost.none t3 hx
            · obtain ⟨m, hm⟩ : ∃ m : Nat, findQ ls nm = (m : Int) := ⟨(findQ ls nm).toNat, by omega⟩
              have hx : Hid (lineP ls nb (op, ws) = lineGo ls nb ((wantsOf op).drop (k + 1)) (ws.drop (k + 1)) { l with places := l.places ++ [(m, pt)] }) := by
                unfold Hid
                rw [HN3.out, if_neg hneg, hm, Int.toNat_natCast]
              rw [hm] at KF hrange
              have hfew := H.few
              clear HN3 hm hneg
              go_wp2_with (first
                | (go_at_call 206; refine KN.mono ?_; rintro e w1 ⟨rfl, hb1⟩)
                | (go_at_call 168; refine (KF _ hb1).mono ?_; rintro e w2 ⟨rfl, hb2⟩; have H1 := (H.on hb1).on hb2; obtain ⟨d0, d1, d2, d3, d4, d5, hd⟩ := H1.ln.facts; have g2 := hd 2; have hbA : Below w2.heap.size w2 (w2.alloc (.cells #[.int .i64 (m : Nat), .int .i64 (pt : Nat)] 119)) := (Below.refl _ _).alloc (Nat.le_refl _) _; have hsA : w.heap.size ≤ (w2.alloc (.cells #[.int .i64 (m : Nat), .int .i64 (pt : Nat)] 119)).heap.size := Nat.le_trans H1.old.size hbA.size)
                | (at_builtin; go_must (refine append_blk rfl _ _ 112 rfl w.heap.size 119 ip (.agg #[.int .i64 0, .int .i64 0]) 2 16 Tryz.underlying112 hip hp0 hp1 hp2 rfl (by decide) vp _ _ rfl (own_below H1.at_.places hbA) w2.heap.size [.int .i64 (m : Nat), .int .i64 (pt : Nat)] rfl Array.getElem?_push_size rfl one_place (by decide) (by omega) hsA ?_); intro g3 c3' w3 hown3 hgrow3 hat3 hlt3; have hl2 := ln_grown H1 hbA (own_below H1.at_.places hbA) hgrow3 (by decide); obtain ⟨e0, e1, e2, e3, e4, e5, he⟩ := hl2.facts; have g2' := he 2))
              go_roundw
              case rel => exact ⟨k + 1, { l with places := l.places ++ [(m, pt)] }, _, vn, by omega, by go_num, H1.place (m, pt) hbA hown3 hgrow3 hx.out⟩
              case measure => simp [intOf]; omega
    · have hx : lineP ls nb (op, ws) = some l := by rw [H.same, List.drop_eq_nil_of_le (by omega)]; rfl
      obtain ⟨ap, cp, rfl⟩ := own_slice H.at_.places
      obtain ⟨an, cn, rfl⟩ := own_slice H.at_.next
      have f0 := hf 0; have f1 := hf 1; have f2 := hf 2; have f3 := hf 3; have f4 := hf 4; have f5 := hf 5
      clear hf
      go_wp2
      refine line_ret rfl rfl H.ln fun w3 hT => ?_
      obtain ⟨t1, t2, t3⟩ := H.turned hT
      exact LinePost.some t3 hx t1
end Go.Proofs.YtmlgajhhnojdjaaGreatDoor.PrjP
/- What the project's reader answers on kinds of places. -/
namespace Go.Proofs.YtmlgajhhnojdjaaGreatDoor.PrjR
open Go Go.RowKit Go.Proofs.YtmlgajhhnojdjaaGreatDoor.Spec Go.Proofs.YtmlgajhhnojdjaaGreatDoor.Aux Go.Proofs.YtmlgajhhnojdjaaGreatDoor.PrjF Go.Proofs.YtmlgajhhnojdjaaGreatDoor.PrjG Go.Proofs.YtmlgajhhnojdjaaGreatDoor.PrjH Go.Proofs.YtmlgajhhnojdjaaGreatDoor.PrjI Go.Proofs.YtmlgajhhnojdjaaGreatDoor.PrjJ Go.Proofs.YtmlgajhhnojdjaaGreatDoor.PrjK Go.Proofs.YtmlgajhhnojdjaaGreatDoor.PrjL Go.Proofs.YtmlgajhhnojdjaaGreatDoor.PrjM Go.Proofs.YtmlgajhhnojdjaaGreatDoor.PrjN Go.Proofs.YtmlgajhhnojdjaaGreatDoor.PrjO Go.Proofs.YtmlgajhhnojdjaaGreatDoor.PrjP

theorem locs_cell {w : World} {v : Value} {ls : List (B × Nat)} (h : LocAt w v ls) (j : Nat) (hj : j < ls.length) : ∃ g cap, v = .slice (some ⟨g, 0, none⟩) ls.length cap ∧ ls.length ≤ cap ∧ g < w.heap.size ∧ w.cell? ⟨g, j * 2, none⟩ = some (.string (bs (ls.getD j ([], 0)).1)) ∧ w.cell? ⟨g, j * 2 + 1, none⟩ = some (.int .i64 ((ls.getD j ([], 0)).2 : Nat)) := by
  rcases loc_cells h with ⟨rfl, -⟩ | ⟨g, cap, hv, hc, hg, hcell⟩
  · simp at hj
  · exact ⟨g, cap, hv, hc, hg, (hcell j hj).1, (hcell j hj).2⟩
theorem kind_ret {q : QP} {x : Nat × Nat} {a : Nat} {b : Bool} (h1 : q.kindV x = a) (h2 : (q.kind x).isSome = b) : Ending.returned (.tuple #[.int .i64 (a : Nat), .bool b]) = .returned (.tuple #[.int .i64 (q.kindV x : Nat), .bool (q.kind x).isSome]) := by rw [h1, h2]
set_option maxRecDepth 20000 in
theorem kind_any (q : QP) (x : Nat × Nat) (v u : Value) (a : Nat) (w : World) (hp : w.heap[a]? = some (.cells #[v, u] 110 (0, 0))) (hv : LocAt w v q.locals) (_hls : q.locals.length ≤ 4000) (hx : x.1 < q.locals.length) :
    Calls Tryz.prog 207 #[.pointer (some ⟨a, 0, none⟩), .agg #[.int .i64 (x.1 : Nat), .int .i64 (x.2 : Nat)]] w fun e w' => e = .returned (.tuple #[.int .i64 (q.kindV x : Nat), .bool (q.kind x).isSome]) ∧ Below w.heap.size w w' := by
  obtain ⟨g, cap, rfl, hcap, hg, -, hc⟩ := locs_cell hv x.1 hx
  have hlt := lt_of_heap hp
  have hbA : Below w.heap.size w (w.alloc (.cells #[.int .i64 (x.1 : Nat), .int .i64 (x.2 : Nat)] 119)) := (Below.refl _ _).alloc (Nat.le_refl _) _
  have c0 : w.cell? ⟨a, 0, none⟩ = some (.slice (some ⟨g, 0, none⟩) q.locals.length cap) := by rw [cell_of_heap hp]; rfl
  have c0A : (w.alloc (.cells #[.int .i64 (x.1 : Nat), .int .i64 (x.2 : Nat)] 119)).cell? ⟨a, 0, none⟩ = some (.slice (some ⟨g, 0, none⟩) q.locals.length cap) := (hbA.cell (p := ⟨a, 0, none⟩) hlt).trans c0
  have c1A := (hbA.cell (p := ⟨g, x.1 * 2 + 1, none⟩) hg).trans hc
  have c2A : (w.alloc (.cells #[.int .i64 (x.1 : Nat), .int .i64 (x.2 : Nat)] 119)).cell? ⟨w.heap.size, 0, none⟩ = some (.int .i64 (x.1 : Nat)) := by simp
  have c3A : (w.alloc (.cells #[.int .i64 (x.1 : Nat), .int .i64 (x.2 : Nat)] 119)).cell? ⟨w.heap.size, 1, none⟩ = some (.int .i64 (x.2 : Nat)) := by simp
  have hxi : (x.1 : Int) < q.locals.length := by omega
  have hT : Hid ((q.locals.getD x.1 ([], 0)).2 = q.tyOf x.1) := rfl
  have hd : ∀ n, Below w.heap.size w ((w.alloc (.cells #[.int .i64 (x.1 : Nat), .int .i64 (x.2 : Nat)] 119)).drewN n) := fun n => below_drewN hbA n
  generalize (q.locals.getD x.1 ([], 0)).2 = t at *
  by_cases h12 : x.2 = 1 ∨ x.2 = 2
  · have b12 : (((x.2 : Nat) : Int) == 1) = true ∨ ((((x.2 : Nat) : Int) == 1) = false ∧ (((x.2 : Nat) : Int) == 2) = true) := by
      rcases h12 with h | h
      · left; rw [h]; rfl
      · right; rw [h]; exact ⟨rfl, rfl⟩
    have hk : q.kindV x = 1 := by rw [QP.kindV, if_pos (by omega)]
    have hs : (q.kind x).isSome = (t == 2) := by
      rw [QP.kind, if_pos h12, ← hT.out]
      by_cases ht : t = 2
      · subst ht; rfl
      · rw [if_neg ht]; simp [ht]
    by_cases ht : t = 2
    · have htb : (((t : Nat) : Int) == 2) = true := by rw [ht]; rfl
      have hs' : (q.kind x).isSome = true := by rw [hs, ht]; rfl
      clear hs ht
      rcases b12 with b1 | ⟨b1, b2⟩
      all_goals
        go_enter Tryz.func207, Tryz.ntmps207
        go_wp2
        go_quiet (fail)
        go_wp2
        go_ret2
        exact ⟨kind_ret hk hs', hd nq⟩
    · have htb : (((t : Nat) : Int) == 2) = false := by rw [beq_eq_false_iff_ne]; omega
      have hs' : (q.kind x).isSome = false := by rw [hs]; simp [ht]
      clear hs ht
      rcases b12 with b1 | ⟨b1, b2⟩
      all_goals
        go_enter Tryz.func207, Tryz.ntmps207
        go_wp2
        go_quiet (fail)
        go_wp2
        go_ret2
        exact ⟨kind_ret hk hs', hd nq⟩
  · have b1 : (((x.2 : Nat) : Int) == 1) = false := by rw [beq_eq_false_iff_ne]; omega
    have b2 : (((x.2 : Nat) : Int) == 2) = false := by rw [beq_eq_false_iff_ne]; omega
    by_cases h3 : x.2 = 3
    · have b3 : (((x.2 : Nat) : Int) == 3) = true := by rw [h3]; rfl
      have hk : q.kindV x = 1 := by rw [QP.kindV, if_pos (by omega)]
      have hs : (q.kind x).isSome = (t == 3) := by
        rw [QP.kind, if_neg h12, if_pos h3, ← hT.out]
        by_cases ht : t = 3
        · subst ht; rfl
        · rw [if_neg ht]; simp [ht]
      by_cases ht : t = 3
      · have htb : (((t : Nat) : Int) == 3) = true := by rw [ht]; rfl
        have hs' : (q.kind x).isSome = true := by rw [hs, ht]; rfl
        clear hs ht h3 h12
        go_enter Tryz.func207, Tryz.ntmps207
        go_wp2
        go_quiet (fail)
        go_wp2
        go_ret2
        exact ⟨kind_ret hk hs', hd nq⟩
      · have htb : (((t : Nat) : Int) == 3) = false := by rw [beq_eq_false_iff_ne]; omega
        have hs' : (q.kind x).isSome = false := by rw [hs]; simp [ht]
        clear hs ht h3 h12
        go_enter Tryz.func207, Tryz.ntmps207
        go_wp2
        go_quiet (fail)
        go_wp2
        go_ret2
        exact ⟨kind_ret hk hs', hd nq⟩
    · have b3 : (((x.2 : Nat) : Int) == 3) = false := by rw [beq_eq_false_iff_ne]; omega
      have hk : q.kindV x = t := by rw [QP.kindV, if_neg (by omega), hT.out]
      have hs : (q.kind x).isSome = true := by rw [QP.kind, if_neg h12, if_neg h3]; rfl
      clear h3 h12
      go_enter Tryz.func207, Tryz.ntmps207
      go_wp2
      go_quiet (fail)
      go_wp2
      go_ret2
      exact ⟨kind_ret hk hs, hd nq⟩
theorem isKindP_nat (t : Nat) (c : UInt8) : isKindP t c = if ((c.toNat : Int) == 105) = true then ((t : Int) == 0) else if ((c.toNat : Int) == 111) = true then ((t : Int) == 3) else if ((c.toNat : Int) == 112) = true then ((t : Int) == 1) else !((t : Int) == 0) := by
  have e : ∀ n : Nat, n < 256 → (((c.toNat : Int) == (n : Int)) = true ↔ c = UInt8.ofNat n) := fun n hn => by
    rw [u8_eq c n hn, beq_iff_eq]; omega
  have e1 := e 105 (by omega); have e2 := e 111 (by omega); have e3 := e 112 (by omega)
  simp only [Int.cast_ofNat_Int] at e1 e2 e3
  have f : ∀ m : Nat, ((t : Int) == (m : Int)) = (t == m) := fun m => by rw [Bool.eq_iff_iff, beq_iff_eq, beq_iff_eq]; omega
  have f0 := f 0; have f1 := f 1; have f3 := f 3
  simp only [Int.cast_ofNat_Int] at f0 f1 f3
  simp only [e1, e2, e3, f0, f1, f3]
  rfl
set_option maxRecDepth 20000 in
theorem isKind_any (t : Nat) (c : UInt8) (w : World) :
    Calls Tryz.prog 208 #[.int .i64 (t : Nat), .int .u8 c.toNat] w fun e w' => e = .returned (.bool (isKindP t c)) ∧ w' = w := by
  rw [isKindP_nat]
  cases h1 : ((c.toNat : Int) == 105) <;> cases h2 : ((c.toNat : Int) == 111) <;> cases h3 : ((c.toNat : Int) == 112)
  all_goals
    go_enter Tryz.func208, Tryz.ntmps208
    go_wp2
    go_ret
    exact ⟨rfl, rfl⟩
set_option maxRecDepth 20000 in
set_option maxHeartbeats 1000000 in
theorem sameKind_any (q : QP) (x y : Nat × Nat) (v u : Value) (a : Nat) (w : World) (hp : w.heap[a]? = some (.cells #[v, u] 110 (0, 0))) (hv : LocAt w v q.locals) (hls : q.locals.length ≤ 4000) (hx : x.1 < q.locals.length) (hy : y.1 < q.locals.length) :
    Calls Tryz.prog 209 #[.pointer (some ⟨a, 0, none⟩), .agg #[.int .i64 (x.1 : Nat), .int .i64 (x.2 : Nat)], .agg #[.int .i64 (y.1 : Nat), .int .i64 (y.2 : Nat)]] w fun e w' => e = .returned (.bool (q.kindV x == q.kindV y)) ∧ Below w.heap.size w w' := by
  have hbA : Below w.heap.size w ((w.alloc (.cells #[.int .i64 (x.1 : Nat), .int .i64 (x.2 : Nat)] 119)).alloc (.cells #[.int .i64 (y.1 : Nat), .int .i64 (y.2 : Nat)] 119)) := ((Below.refl _ _).alloc (Nat.le_refl _) _).alloc (by simp) _
  have hs2 : ((w.alloc (.cells #[.int .i64 (x.1 : Nat), .int .i64 (x.2 : Nat)] 119)).alloc (.cells #[.int .i64 (y.1 : Nat), .int .i64 (y.2 : Nat)] 119)).heap.size = w.heap.size + 2 := by simp
  have hlt := lt_of_heap hp
  have KK := fun (z : Nat × Nat) (hz : z.1 < q.locals.length) (w' : World) (hb : Below w.heap.size w w') => kind_any q z v u a w' (by rw [hb.block a hlt]; exact hp) (hv.below hb) hls hz
  have d1 : ∀ w', Below ((w.alloc (.cells #[.int .i64 (x.1 : Nat), .int .i64 (x.2 : Nat)] 119)).alloc (.cells #[.int .i64 (y.1 : Nat), .int .i64 (y.2 : Nat)] 119)).heap.size ((w.alloc (.cells #[.int .i64 (x.1 : Nat), .int .i64 (x.2 : Nat)] 119)).alloc (.cells #[.int .i64 (y.1 : Nat), .int .i64 (y.2 : Nat)] 119)) w' → w'.cell? ⟨w.heap.size + 1, 0, none⟩ = some (.int .i64 (y.1 : Nat)) ∧ w'.cell? ⟨w.heap.size + 1, 1, none⟩ = some (.int .i64 (y.2 : Nat)) := fun w' hb =>
    ⟨(hb.cell (p := ⟨w.heap.size + 1, 0, none⟩) (by show w.heap.size + 1 < _; omega)).trans (by simp), (hb.cell (p := ⟨w.heap.size + 1, 1, none⟩) (by show w.heap.size + 1 < _; omega)).trans (by simp)⟩
  have KX := KK x hx _ hbA
  have KY := fun w' hb => KK y hy w' hb
  rw [show (q.kindV x == q.kindV y) = (((q.kindV x : Nat) : Int) == ((q.kindV y : Nat) : Int)) by rw [Bool.eq_iff_iff, beq_iff_eq, beq_iff_eq]; omega]
  clear hs2 KK
  generalize q.kindV x = kx at *
  generalize q.kindV y = ky at *
  generalize (q.kind x).isSome = bx at *
  generalize (q.kind y).isSome = by_ at *
  go_enter Tryz.func209, Tryz.ntmps209
  go_wp2_with (first
    | (go_at_call 207; refine (KY _ hB1).mono ?_; rintro e w2 ⟨rfl, hb2⟩)
    | (go_at_call 207; refine KX.mono ?_; rintro e w1 ⟨rfl, hb1⟩; have hB1 := hbA.trans (hb1.mono hbA.size); obtain ⟨y0, y1⟩ := d1 _ hb1))
  go_ret
  exact ⟨rfl, hB1.trans (hb2.mono hB1.size)⟩
end Go.Proofs.YtmlgajhhnojdjaaGreatDoor.PrjR
