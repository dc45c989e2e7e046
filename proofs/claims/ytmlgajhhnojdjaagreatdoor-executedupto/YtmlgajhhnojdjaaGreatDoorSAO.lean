/- What the project's reader makes of sentences: the program, or the first line with a name twice, or of nothing. -/
import Derived.Test.YtmlgajhhnojdjaaGreatDoorSAM
import Derived.Deep.RegionLaw
import Derived.BigRegion
namespace Go.Proofs.YtmlgajhhnojdjaaGreatDoor.PrjQ
open Go Go.RowKit Go.Proofs.YtmlgajhhnojdjaaGreatDoor.Spec Go.Proofs.YtmlgajhhnojdjaaGreatDoor.Aux Go.Proofs.YtmlgajhhnojdjaaGreatDoor.PrjF Go.Proofs.YtmlgajhhnojdjaaGreatDoor.PrjG Go.Proofs.YtmlgajhhnojdjaaGreatDoor.PrjH Go.Proofs.YtmlgajhhnojdjaaGreatDoor.PrjI Go.Proofs.YtmlgajhhnojdjaaGreatDoor.PrjJ Go.Proofs.YtmlgajhhnojdjaaGreatDoor.PrjK Go.Proofs.YtmlgajhhnojdjaaGreatDoor.PrjL Go.Proofs.YtmlgajhhnojdjaaGreatDoor.PrjM Go.Proofs.YtmlgajhhnojdjaaGreatDoor.PrjN Go.Proofs.YtmlgajhhnojdjaaGreatDoor.PrjO Go.Proofs.YtmlgajhhnojdjaaGreatDoor.PrjP

/-- what sentences that were split right have -/
structure SentsOk (S : List (Nat × List B)) : Prop where
  few : S.length ≤ 4000
  op : ∀ j, j < S.length → (S.getD j (0, [])).1 < 23
  words : ∀ j, j < S.length → (S.getD j (0, [])).2.length = (wantsOf (S.getD j (0, [])).1).length
  short : ∀ j i, (word (S.getD j (0, [])).2 i).length ≤ 1048576
  order : ∀ j, j < S.length → 2 ≤ (S.getD j (0, [])).1 → 1 ≤ countB (S.take j)
/-- where the maker of programs stands behind k sentences -/
structure Made (nb : Nat) (S : List (Nat × List B)) (k : Nat) (q : QP) : Prop where
  same : lookGo nb S 0 QP.empty = lookGo nb (S.drop k) k q
  locals : q.locals.length ≤ k
  blocks : q.blocks.length = countB (S.take k)
  lines : ∀ j, (q.blocks.getD j []).length ≤ k
theorem Made.start (nb : Nat) (S : List (Nat × List B)) : Made nb S 0 QP.empty := ⟨rfl, Nat.le_refl _, rfl, fun j => by simp [QP.empty]⟩
section
variable {nb : Nat} {S : List (Nat × List B)} {k : Nat} {q : QP}
theorem getD_at (hk : k < S.length) : S.getD k (0, []) = S[k] := by simp [List.getD_eq_getElem?_getD, hk]
theorem Made.twice (h : Made nb S k q) (hk : k < S.length) (h0 : (S.getD k (0, [])).1 = 0) (hf : 0 ≤ findQ q.locals (word (S.getD k (0, [])).2 0)) : (lookGo nb S 0 QP.empty).2 = some k := by
  rw [getD_at hk] at h0 hf
  rw [h.same, List.drop_eq_getElem_cons hk, lookGo, if_pos h0, if_pos hf]
theorem Made.local_ (h : Made nb S k q) (hk : k < S.length) (h0 : (S.getD k (0, [])).1 = 0) (hf : findQ q.locals (word (S.getD k (0, [])).2 0) < 0) : Made nb S (k + 1) (q.addLocal (word (S.getD k (0, [])).2 0, (tyIdx (word (S.getD k (0, [])).2 1)).getD 0)) := by
  have hc := countB_step S k hk
  rw [if_neg (by omega)] at hc
  rw [getD_at hk] at h0 hf ⊢
  refine ⟨?_, by have := h.locals; simp [QP.addLocal]; omega, by rw [hc]; exact h.blocks, fun j => Nat.le_succ_of_le (h.lines j)⟩
  rw [h.same, List.drop_eq_getElem_cons hk, lookGo, if_pos h0, if_neg (by omega)]
theorem Made.block (h : Made nb S k q) (hk : k < S.length) (h0 : (S.getD k (0, [])).1 = 1) : Made nb S (k + 1) q.addBlock := by
  have hc := countB_step S k hk
  rw [if_pos h0] at hc
  rw [getD_at hk] at h0
  refine ⟨?_, by have := h.locals; simp [QP.addBlock]; omega, by rw [hc]; simp [QP.addBlock, h.blocks], fun j => ?_⟩
  · rw [h.same, List.drop_eq_getElem_cons hk, lookGo, if_neg (by omega), if_pos h0]
  · have := h.lines j
    simp only [QP.addBlock, List.getD_eq_getElem?_getD, List.getElem?_append] at this ⊢
    split
    · omega
    · by_cases hj : j - q.blocks.length = 0
      · rw [hj]; simp
      · rw [List.getElem?_eq_none (by simp; omega)]; simp
theorem Made.unknown (h : Made nb S k q) (hk : k < S.length) (h0 : 2 ≤ (S.getD k (0, [])).1) (hl : lineP q.locals nb (S.getD k (0, [])) = none) : (lookGo nb S 0 QP.empty).2 = some k := by
  rw [getD_at hk] at h0 hl
  rw [h.same, List.drop_eq_getElem_cons hk, lookGo, if_neg (by omega), if_neg (by omega), hl]
theorem Made.line (h : Made nb S k q) (hk : k < S.length) (h0 : 2 ≤ (S.getD k (0, [])).1) {l : QLine} (hl : lineP q.locals nb (S.getD k (0, [])) = some l) (n : Nat) (hn : q.blocks.length = n + 1) : Made nb S (k + 1) (q.addLine { l with num := k }) := by
  have hc := countB_step S k hk
  rw [if_neg (by omega)] at hc
  rw [getD_at hk] at h0 hl
  have hD : q.blocks.dropLast.length = n := by simp [hn]
  have hlast : q.blocks.getLastD [] = q.blocks.getD n [] := by
    rw [List.getLastD_eq_getLast?, List.getLast?_eq_getElem?, hn, Nat.add_sub_cancel, List.getD_eq_getElem?_getD]
  refine ⟨?_, by have := h.locals; simp [QP.addLine]; omega, by rw [hc, ← h.blocks]; simp [QP.addLine, hn], fun j => ?_⟩
  · rw [h.same, List.drop_eq_getElem_cons hk, lookGo, if_neg (by omega), if_neg (by omega), hl]
  · have h1 := h.lines j
    have h2 := h.lines n
    simp only [QP.addLine, hlast]
    rw [List.getD_eq_getElem?_getD, List.getElem?_append]
    split
    · rename_i hj
      rw [List.getElem?_dropLast, if_pos (by omega), ← List.getD_eq_getElem?_getD]; omega
    · by_cases hj : j - q.blocks.dropLast.length = 0
      · rw [hj]; simp; simp only [List.getD_eq_getElem?_getD] at h2; omega
      · rw [List.getElem?_eq_none (by simp; omega)]; simp
theorem Made.whole (h : Made nb S k q) (hk : ¬ k < S.length) : lookGo nb S 0 QP.empty = (q, none) := by
  rw [h.same, List.drop_eq_nil_of_le (by omega), lookGo]
end
def LookPost (nb : Nat) (S : List (Nat × List B)) (w : World) (e : Ending) (w' : World) : Prop :=
  Below w.heap.size w w' ∧ match lookGo nb S 0 QP.empty with
    | (_, some k) => e = .returned (.tuple #[.pointer none, .int .i64 (k : Nat), .bool false])
    | (q, none) => ∃ a vl vb us vss, e = .returned (.tuple #[.pointer (some ⟨a, 0, none⟩), .int .i64 0, .bool true]) ∧ PAt w.heap.size a w' q vl vb us vss
theorem LookPost.bad {nb : Nat} {S : List (Nat × List B)} {w w' : World} {k : Nat} (hb : Below w.heap.size w w') (h : (lookGo nb S 0 QP.empty).2 = some k) : LookPost nb S w (.returned (.tuple #[.pointer none, .int .i64 (k : Nat), .bool false])) w' := by
  refine ⟨hb, ?_⟩
  generalize lookGo nb S 0 QP.empty = R at h
  obtain ⟨q, x⟩ := R
  simp only at h
  subst h
  rfl
theorem LookPost.good {nb : Nat} {S : List (Nat × List B)} {w w' : World} {q : QP} {a : Nat} {vl vb : Value} {us : List Value} {vss : List (List (Value × Value))} (hb : Below w.heap.size w w') (h : lookGo nb S 0 QP.empty = (q, none)) (hp : PAt w.heap.size a w' q vl vb us vss) : LookPost nb S w (.returned (.tuple #[.pointer (some ⟨a, 0, none⟩), .int .i64 0, .bool true])) w' := by
  refine ⟨hb, ?_⟩
  rw [h]
  exact ⟨a, vl, vb, us, vss, rfl, hp⟩
theorem info_local : (Tryz.prog.info? 146).map (fun i => (i.zero, i.size, i.bytes)) = some (some (.agg #[.string ⟨#[]⟩, .int .i64 0]), 2, 24) := by kernel_rfl
theorem info_block : (Tryz.prog.info? 106).map (fun i => (i.zero, i.size, i.bytes)) = some (some (.slice none 0 0), 1, 24) := by kernel_rfl
theorem info_line6 : (Tryz.prog.info? 115).map (fun i => (i.zero, i.size, i.bytes)) = some (some (.agg #[.int .i64 0, .int .i64 0, .slice none 0 0, .int .i64 0, .int .i64 0, .slice none 0 0]), 6, 80) := by kernel_rfl
theorem PAt.facts {z a : Nat} {w : World} {q : QP} {vl vb : Value} {us : List Value} {vss : List (List (Value × Value))} (h : PAt z a w q vl vb us vss) : w.cell? ⟨a, 0, none⟩ = some vl ∧ w.cell? ⟨a, 1, none⟩ = some vb ∧ w.frozen? ⟨a, 0, none⟩ = false ∧ w.frozen? ⟨a, 1, none⟩ = false :=
  ⟨by rw [cell_of_heap h.blk]; rfl, by rw [cell_of_heap h.blk]; rfl, frozen_of_heap h.blk 0, frozen_of_heap h.blk 1⟩
theorem words_cells {w : World} {gw ow n cw : Nat} {L : List B} (h : WordsAt w (.slice (some ⟨gw, ow, none⟩) n cw) L) : L.length ≤ cw ∧ gw < w.heap.size ∧ ∀ j, j < L.length → w.cell? ⟨gw, ow + j, none⟩ = some (.string (bs (word L j))) := by
  obtain ⟨g, o, cap, e, hc, ⟨cs, f, hg⟩, hcell⟩ := h
  simp only [Value.slice.injEq, Option.some.injEq, Addr.mk.injEq, and_true] at e
  obtain ⟨⟨rfl, rfl⟩, -, rfl⟩ := e
  exact ⟨hc, lt_of_heap hg, hcell⟩
theorem one_local {n : ByteArray} {t : Int} : ∀ u' ∈ [Value.string n, Value.int .i64 t], u'.oneCell' = true := by
  intro u' hu; simp at hu; rcases hu with rfl | rfl <;> rfl
theorem one_line {a b c d : Int} {ap an : Option Addr} {np cp nn cn : Nat} : ∀ u' ∈ [Value.int .i64 a, Value.int .i64 b, Value.slice ap np cp, Value.int .i64 c, Value.int .i64 d, Value.slice an nn cn], u'.oneCell' = true := by
  intro u' hu; simp at hu; rcases hu with rfl | rfl | rfl | rfl | rfl | rfl <;> rfl
theorem block_cell {z n m k gb cb : Nat} {w w' : World} {us xs : List Value} {v : Value} (hb : w.ownsRow z 106 1 (.slice (some ⟨gb, 0, none⟩) (n + 1) cb) m us) (ho : w.ownsRow z 115 6 v k xs) (hg : w.grownBy w' v.ownBlock) (_hm : n < m) {u : Value} (hc : w.cell? ⟨gb, n, none⟩ = some u) : w'.cell? ⟨gb, n, none⟩ = some u ∧ w'.frozen? ⟨gb, n, none⟩ = false := by
  rcases hb.2 with ⟨e, -⟩ | ⟨g', cap', cur', e, -, hg', -⟩
  · cases e
  · simp only [Value.slice.injEq, Option.some.injEq, Addr.mk.injEq, and_true] at e
    obtain ⟨rfl, -⟩ := e
    have h' : w'.heap[gb]? = w.heap[gb]? := hg.block gb (lt_of_heap hg') (own_type_ne ho hg' (by decide))
    exact ⟨(World.cell?_of_block (a := ⟨gb, n, none⟩) h').trans hc, (World.frozen?_of_block (a := ⟨gb, n, none⟩) h').trans (frozen_of_heap hg' n)⟩
set_option maxRecDepth 20000 in
set_option maxHeartbeats 4000000 in
theorem lookUp_any {z g cap : Nat} {S : List (Nat × List B)} {vs : List Value} (w : World) (h : SentsAt z w (.slice (some ⟨g, 0, none⟩) S.length cap) S vs) (hS : SentsOk S) (_hg : g < w.heap.size) (hcap : S.length ≤ cap) (E : Env w) :
    Calls Tryz.prog 117 #[.slice (some ⟨g, 0, none⟩) S.length cap] w (LookPost (countB S) S w) := by
  obtain ⟨il, hil, hl0, hl1, hl2⟩ := info_parts info_local
  obtain ⟨ib, hib, hb0, hb1, hb2⟩ := info_parts info_block
  obtain ⟨in_, hin, hn0, hn1, hn2⟩ := info_parts info_line6
  have hfew := hS.few
  have hst := PAt.start w.heap.size w (Nat.le_refl _)
  have hbst : Below w.heap.size w (w.alloc (.cells #[.slice none 0 0, .slice none 0 0] 110)) := (Below.refl _ _).alloc (Nat.le_refl _) _
  have hst2 := hst
  have KC := countBlocks_any (w.alloc (.cells #[.slice none 0 0, .slice none 0 0] 110)) (h.below hbst) hfew hcap
  go_enter Tryz.func117, Tryz.ntmps117
  go_wp2_with (go_at_call 167; refine KC.mono ?_; rintro e w1 ⟨rfl, hb1'⟩)
  have hP1 := hst.below hb1'
  have hB1 : Below w.heap.size w w1 := hbst.trans (hb1'.mono hbst.size)
  have hcb := countB_le S
  go_loopw [2, 19] (fun pv i wr => ∃ (k : Nat) (q : QP) (vl vb : Value) (us : List Value) (vss : List (List (Value × Value))), k ≤ S.length ∧ i = .int .i64 k ∧ pv = .pointer (some ⟨w.heap.size, 0, none⟩) ∧ PAt w.heap.size w.heap.size wr q vl vb us vss ∧ Hid (vss.length = q.blocks.length) ∧ Below w.heap.size w wr ∧ Hid (Made (countB S) S k q)) (fun _ i _ => S.length - (intOf i).toNat)
  case atStart => exact ⟨0, QP.empty, _, _, [], [], Nat.zero_le _, rfl, rfl, hP1, rfl, hB1, Made.start _ _⟩
  case round =>
    obtain ⟨k, q, vl, vb, us, vss, hk, rfl, rfl, hP, HV, hB, HM⟩ := hrel
    clear hP1 hB1 hb1' hst hst2 KC hbst
    by_cases hlt : k < S.length
    · obtain ⟨h1, gw, ow, cw, h2, hW⟩ := sents_cells (h.below hB) k hlt
      obtain ⟨p0, p1, pf0, pf1⟩ := PAt.facts hP
      have hop := hS.op k hlt
      have hwl := hS.words k hlt
      have hsh := hS.short k
      have hord := hS.order k hlt
      have E1 := E.on hB
      have T1 : Hid ((S.getD k (0, [])).1 = 0 → 0 ≤ findQ q.locals (word (S.getD k (0, [])).2 0) → (lookGo (countB S) S 0 QP.empty).2 = some k) := HM.out.twice hlt
      have T2 : Hid ((S.getD k (0, [])).1 = 0 → findQ q.locals (word (S.getD k (0, [])).2 0) < 0 → Made (countB S) S (k + 1) (q.addLocal (word (S.getD k (0, [])).2 0, (tyIdx (word (S.getD k (0, [])).2 1)).getD 0))) := HM.out.local_ hlt
      have T3 : Hid ((S.getD k (0, [])).1 = 1 → Made (countB S) S (k + 1) q.addBlock) := HM.out.block hlt
      have T4 : Hid (2 ≤ (S.getD k (0, [])).1 → lineP q.locals (countB S) (S.getD k (0, [])) = none → (lookGo (countB S) S 0 QP.empty).2 = some k) := HM.out.unknown hlt
      have T5 : Hid (2 ≤ (S.getD k (0, [])).1 → ∀ l, lineP q.locals (countB S) (S.getD k (0, [])) = some l → ∀ n, q.blocks.length = n + 1 → Made (countB S) S (k + 1) (q.addLine { l with num := k })) := fun a l b n c => HM.out.line hlt a b n c
      have hq1 := HM.out.locals
      have hq2 := HM.out.blocks
      have hq3 := HM.out.lines
      clear HM
      generalize S.getD k (0, []) = x at *
      obtain ⟨op, ws⟩ := x
      simp only at h1 h2 hW hop hwl hsh hord T1 T2 T3 T4 T5
      by_cases h0 : op = 0
      · subst h0
        have hwl2 : ws.length = 2 := hwl
        rw [hwl2] at h2 hW
        obtain ⟨hcw, hgw, hcell⟩ := words_cells hW
        have hc0 : wr.cell? ⟨gw, ow, none⟩ = some (.string (bs (word ws 0))) := hcell 0 (by omega)
        have hc1 : wr.cell? ⟨gw, ow + 1, none⟩ = some (.string (bs (word ws 1))) := hcell 1 (by omega)
        have hbS : Below wr.heap.size wr (wr.alloc (.cells #[.int .i64 0, .slice (some ⟨gw, ow, none⟩) 2 cw] 240)) := (Below.refl _ _).alloc (Nat.le_refl _) _
        have hsS : (wr.alloc (.cells #[.int .i64 0, .slice (some ⟨gw, ow, none⟩) 2 cw] 240)).heap.size = wr.heap.size + 1 := by simp
        have hPS := hP.below hbS
        have KF := find_any q.locals vl vb (word ws 0) w.heap.size _ hPS.blk ⟨_, hPS.locals⟩ (by omega)
        have t1 : (wr.alloc (.cells #[.int .i64 0, .slice (some ⟨gw, ow, none⟩) 2 cw] 240)).cell? ⟨wr.heap.size, 1, none⟩ = some (.slice (some ⟨gw, ow, none⟩) 2 cw) := by simp
        have hc0S : (wr.alloc (.cells #[.int .i64 0, .slice (some ⟨gw, ow, none⟩) 2 cw] 240)).cell? ⟨gw, ow, none⟩ = some (.string (bs (word ws 0))) := (hbS.cell (p := ⟨gw, ow, none⟩) hgw).trans hc0
        have hc1S : (wr.alloc (.cells #[.int .i64 0, .slice (some ⟨gw, ow, none⟩) 2 cw] 240)).cell? ⟨gw, ow + 1, none⟩ = some (.string (bs (word ws 1))) := (hbS.cell (p := ⟨gw, ow + 1, none⟩) hgw).trans hc1
        have hgS : gw < (wr.alloc (.cells #[.int .i64 0, .slice (some ⟨gw, ow, none⟩) 2 cw] 240)).heap.size := by omega
        have hwS : wr.heap.size < (wr.alloc (.cells #[.int .i64 0, .slice (some ⟨gw, ow, none⟩) 2 cw] 240)).heap.size := by omega
        have hBS := hB.trans (hbS.mono hB.size)
        by_cases hf : 0 ≤ findQ q.locals (word ws 0)
        · have hx := T1.out rfl hf
          clear T1 T2 T3 T4 T5 hcell
          go_wp2_with (go_at_call 168; refine KF.mono ?_; rintro e w2 ⟨rfl, hb2⟩)
          go_ret3
          exact LookPost.bad (hBS.trans (hb2.mono hBS.size)) hx
        · have HM2 : Hid (_) := T2.out rfl (by omega)
          have hf' : findQ q.locals (word ws 0) < 0 := by omega
          clear T1 T2 T3 T4 T5 hcell hf
          have KT := fun w' (E' : Env w') => typeOf_any (word ws 1) w' E'.types
          go_upto_region 17 with (first
            | (go_at_call 168; refine KF.mono ?_; rintro e w2 ⟨rfl, hb2⟩; have t2 := (hb2.cell (p := ⟨wr.heap.size, 1, none⟩) hwS).trans t1; have hc02 := (hb2.cell (p := ⟨gw, ow, none⟩) hgS).trans hc0S; have hc12 := (hb2.cell (p := ⟨gw, ow + 1, none⟩) hgS).trans hc1S; have hw2 := Nat.lt_of_lt_of_le hwS hb2.size; have hg2 := Nat.lt_of_lt_of_le hgS hb2.size)
            | (go_at_call 169; refine (KT _ ((E1.on hbS).on hb2)).mono ?_; rintro e w3 ⟨rfl, hb3⟩; have t3 := (hb3.cell (p := ⟨wr.heap.size, 1, none⟩) hw2).trans t2; have hc03 := (hb3.cell (p := ⟨gw, ow, none⟩) hg2).trans hc02))
          have hP3 := (hPS.below hb2).below hb3
          obtain ⟨q0, q1, qf0, qf1⟩ := PAt.facts hP3
          have hB3 := (hBS.trans (hb2.mono hBS.size)).trans (hb3.mono (hBS.trans (hb2.mono hBS.size)).size)
          have hbA : Below w3.heap.size w3 (w3.alloc (.cells #[.string (bs (word ws 0)), .int .i64 ((tyIdx (word ws 1)).getD 0 : Nat)] 146)) := (Below.refl _ _).alloc (Nat.le_refl _) _
          have hsA : w.heap.size ≤ (w3.alloc (.cells #[.string (bs (word ws 0)), .int .i64 ((tyIdx (word ws 1)).getD 0 : Nat)] 146)).heap.size := Nat.le_trans hB3.size hbA.size
          have hown0 := own_below hP3.locals hbA
          have hblkA := (hP3.below hbA).blk
          have hcA := (PAt.facts (hP3.below hbA)).1
          have hlocs : Hid (_) := hq1
          go_region_law (refine step_blk (by rfl) _ _ _ (by rfl) w.heap.size 146 il (.agg #[.string ⟨#[]⟩, .int .i64 0]) 2 24 Tryz.underlying107 hil hl0 hl1 hl2 (by rfl) (by decide) vl _ _ (by rfl) hown0 w3.heap.size [.string (bs (word ws 0)), .int .i64 ((tyIdx (word ws 1)).getD 0 : Nat)] (by rfl) Array.getElem?_push_size (by rfl) one_local (by decide) (by omega) hsA ?_; intro g4 c4 w4 hown4 hgrow4 hat4 hlt4; have hblk4 : w4.heap[w.heap.size]? = _ := (hgrow4.block _ (lt_of_heap hblkA) (own_type_ne hown0 hblkA (by decide))).trans hblkA; have r0 : w4.cell? ⟨w.heap.size, 0, none⟩ = some vl := (by rw [cell_of_heap hblk4]; rfl); have rf0 : w4.frozen? ⟨w.heap.size, 0, none⟩ = false := frozen_of_heap hblk4 0)
          all_goals go_wp2_with fail
          all_goals
            have hgrow5 : (w3.alloc (.cells #[.string (bs (word ws 0)), .int .i64 ((tyIdx (word ws 1)).getD 0 : Nat)] 146)).grownBy w4 vl.ownBlock := ⟨hgrow4.os, hgrow4.tape, hgrow4.output, hgrow4.size, hgrow4.block⟩
            have hB4 := below_append hB3 (Nat.le_refl _) hB3.size hP3.locals hgrow5
            exact ⟨⟨k + 1, _, _, vb, us, vss, by omega, by go_num, rfl, hP3.addLocal (word ws 0, (tyIdx (word ws 1)).getD 0) hbA hown4 hgrow5, HV, hB4.trans (((Turn.refl _ w4).setCell 0 _).below (Nat.le_refl _) hB4.size), HM2⟩, by simp [intOf]; omega⟩
      · by_cases h1' : op = 1
        · subst h1'
          have HM2 : Hid (_) := T3.out rfl
          clear T1 T2 T3 T4 T5
          have hwl0 : ws.length = 0 := hwl
          rw [hwl0] at h2
          clear hwl hwl0 hW hsh hord
          have hbS : Below wr.heap.size wr (wr.alloc (.cells #[.int .i64 1, .slice (some ⟨gw, ow, none⟩) 0 cw] 240)) := (Below.refl _ _).alloc (Nat.le_refl _) _
          have hPS := hP.below hbS
          obtain ⟨q0, q1, qf0, qf1⟩ := PAt.facts hPS
          have hBS := hB.trans (hbS.mono hB.size)
          have hbA : Below (wr.alloc (.cells #[.int .i64 1, .slice (some ⟨gw, ow, none⟩) 0 cw] 240)).heap.size (wr.alloc (.cells #[.int .i64 1, .slice (some ⟨gw, ow, none⟩) 0 cw] 240)) ((wr.alloc (.cells #[.int .i64 1, .slice (some ⟨gw, ow, none⟩) 0 cw] 240)).alloc (.cells #[.slice none 0 0] 106)) := (Below.refl _ _).alloc (Nat.le_refl _) _
          have hblkA := (hPS.below hbA).blk
          have hown0 := own_below hPS.blocks hbA
          have hqb : q.blocks.length ≤ 4000 := by have := countB_le (S.take k); simp at this; omega
          clear hq2
          have hsS : (wr.alloc (.cells #[.int .i64 1, .slice (some ⟨gw, ow, none⟩) 0 cw] 240)).heap.size = wr.heap.size + 1 := by simp
          have hblkE : ((wr.alloc (.cells #[.int .i64 1, .slice (some ⟨gw, ow, none⟩) 0 cw] 240)).alloc (.cells #[.slice none 0 0] 106)).heap[wr.heap.size + 1]? = some (.cells #[.slice none 0 0] 106 (0, 0)) := by
            rw [← hsS]; exact Array.getElem?_push_size
          have hszA := Nat.le_trans hBS.size hbA.size
          go_wp2_with (at_builtin; go_must (refine append_blk rfl _ _ 108 rfl w.heap.size 106 ib (.slice none 0 0) 1 24 Tryz.underlying108 hib hb0 hb1 hb2 rfl (by decide) vb _ _ rfl hown0 (wr.heap.size + 1) [.slice none 0 0] rfl hblkE rfl (by intro u' hu; simp at hu; subst hu; rfl) (by decide) (by omega) hszA ?_); intro g4 c4 w4 hown4 hgrow4 hat4 hlt4; have hblk4 : w4.heap[w.heap.size]? = _ := (hgrow4.block _ (lt_of_heap hblkA) (own_type_ne hown0 hblkA (by decide))).trans hblkA; have r1 : w4.cell? ⟨w.heap.size, 1, none⟩ = some vb := (by rw [cell_of_heap hblk4]; rfl); have rf1 : w4.frozen? ⟨w.heap.size, 1, none⟩ = false := frozen_of_heap hblk4 1)
          go_roundw
          case rel =>
            have hB4 := below_append hBS (Nat.le_refl _) hBS.size hPS.blocks hgrow4
            exact ⟨k + 1, _, vl, _, us ++ [.slice none 0 0], vss ++ [[]], by omega, by go_num, rfl, hPS.addBlock HV.out hbA hown4 hgrow4, by unfold Hid; simp [QP.addBlock, HV.out], hB4.trans (((Turn.refl _ w4).setCell 1 _).below (Nat.le_refl _) hB4.size), HM2⟩
          case measure => simp [intOf]; omega
        · have hop2 : 2 ≤ op := by omega
          have b0 : ((op : Int) == 0) = false := by rw [beq_eq_false_iff_ne]; omega
          have b1 : ((op : Int) == 1) = false := by rw [beq_eq_false_iff_ne]; omega
          obtain ⟨n, hn⟩ : ∃ n, q.blocks.length = n + 1 := ⟨q.blocks.length - 1, by have := hord hop2; omega⟩
          have hqb : n + 1 ≤ 4000 := by have := countB_le (S.take k); simp at this; omega
          obtain ⟨hcw, hgw, hcell⟩ := words_cells hW
          rw [hwl] at h2 hcw hcell
          have hbS : Below wr.heap.size wr (wr.alloc (.cells #[.int .i64 (op : Nat), .slice (some ⟨gw, ow, none⟩) (wantsOf op).length cw] 240)) := (Below.refl _ _).alloc (Nat.le_refl _) _
          have hPS := hP.below hbS
          have hBS := hB.trans (hbS.mono hB.size)
          have KL := lineOf_any q.locals (countB S) op w.heap.size gw ow cw ws vl vb _ hPS.blk ⟨_, hPS.locals⟩ (by omega) (by omega) hop hwl hcw (Nat.lt_of_lt_of_le hgw hbS.size) (fun j hj => (hbS.cell (p := ⟨gw, ow + j, none⟩) hgw).trans (hcell j hj)) hsh (E1.on hbS)
          unfold LinePost at KL
          cases hl : lineP q.locals (countB S) (op, ws) with
          | none =>
            have hx := T4.out hop2 hl
            rw [hl] at KL
            clear T1 T2 T3 T4 T5 hcell hl hord
            go_wp2_with (go_at_call 170; refine KL.mono ?_; rintro e w2 ⟨hb2', rfl⟩)
            go_ret3
            have hBq := hBS.trans (hb2'.mono hBS.size)
            exact LookPost.bad (hBq.alloc hBq.size _) hx
          | some l =>
            have HM2 : Hid (_) := T5.out hop2 l hl n hn
            rw [hl] at KL
            replace KL := KL.mono (R' := fun e w' => Below (wr.alloc (.cells #[.int .i64 (op : Nat), .slice (some ⟨gw, ow, none⟩) (wantsOf op).length cw] 240)).heap.size (wr.alloc (.cells #[.int .i64 (op : Nat), .slice (some ⟨gw, ow, none⟩) (wantsOf op).length cw] 240)) w' ∧ ∃ ap cp an cn, e = .returned (.tuple #[.agg #[.int .i64 (l.num : Nat), .int .i64 (l.op : Nat), .slice ap l.places.length cp, .int .i64 l.number, .int .i64 l.flag, .slice an l.next.length cn], .bool true]) ∧ LineAt w.heap.size w' l (.slice ap l.places.length cp) (.slice an l.next.length cn)) fun e w' ⟨h1, vp, vn, h2, h3⟩ => by
              obtain ⟨ap, cp, rfl⟩ := own_slice h3.places
              obtain ⟨an, cn, rfl⟩ := own_slice h3.next
              exact ⟨h1, ap, cp, an, cn, h2, ⟨own_mono h3.places hBS.size, own_mono h3.next hBS.size⟩⟩
            obtain ⟨gb, cb, hvb, hcb1, hgb, hcellb⟩ := own_cell hP.blocks (by omega)
            rw [hn] at hvb hcb1 hcellb
            subst hvb
            have hbn : wr.cell? ⟨gb, n, none⟩ = some (us.getD n undef) := by
              rw [hcellb n (by omega), List.getD_eq_getElem?_getD, List.getElem?_eq_getElem (by rw [hP.usl]; omega)]; rfl
            have hbf : wr.frozen? ⟨gb, n, none⟩ = false := by
              rcases hP.blocks.2 with ⟨e, -⟩ | ⟨g', cap', cur', e, -, hg', -⟩
              · cases e
              · simp only [Value.slice.injEq, Option.some.injEq, Addr.mk.injEq, and_true] at e
                obtain ⟨rfl, -⟩ := e
                exact frozen_of_heap hg' n
            have hlines : (q.blocks.getD n []).length ≤ 4000 := by have := hq3 n; omega
            clear T1 T2 T3 T4 T5 hcell hl hord hcellb hq3 hq2
            go_upto_region 12 with (go_at_call 170; refine KL.mono ?_; rintro e w2 ⟨hb2', ap, cp, an, cn, rfl, hLA⟩; have hP2 := hPS.below hb2'; have hbL : Below w2.heap.size w2 (w2.alloc (.cells #[.int .i64 (k : Nat), .int .i64 (l.op : Nat), .slice ap l.places.length cp, .int .i64 l.number, .int .i64 l.flag, .slice an l.next.length cn] 115)) := (Below.refl _ _).alloc (Nat.le_refl _) _; have hPL := hP2.below hbL; obtain ⟨q0, q1, qf0, qf1⟩ := PAt.facts hPL)
            have hB2 := hBS.trans (hb2'.mono hBS.size)
            have hBL := hB2.trans (hbL.mono hB2.size)
            have hlb : (w2.alloc (.cells #[.int .i64 (k : Nat), .int .i64 (l.op : Nat), .slice ap l.places.length cp, .int .i64 l.number, .int .i64 l.flag, .slice an l.next.length cn] 115)).heap[w2.heap.size]? = some (.cells #[.int .i64 (k : Nat), .int .i64 (l.op : Nat), .slice ap l.places.length cp, .int .i64 l.number, .int .i64 l.flag, .slice an l.next.length cn] 115 (0, 0)) := Array.getElem?_push_size
            have hLL := hLA.below hbL
            have hbnL := (hbL.cell (p := ⟨gb, n, none⟩) (Nat.lt_of_lt_of_le (Nat.lt_of_lt_of_le hgb hbS.size) hb2'.size)).trans ((hb2'.cell (p := ⟨gb, n, none⟩) (Nat.lt_of_lt_of_le hgb hbS.size)).trans ((hbS.cell (p := ⟨gb, n, none⟩) hgb).trans hbn))
            have hbfL := (hbL.frozen (p := ⟨gb, n, none⟩) (Nat.lt_of_lt_of_le (Nat.lt_of_lt_of_le hgb hbS.size) hb2'.size)).trans ((hb2'.frozen (p := ⟨gb, n, none⟩) (Nat.lt_of_lt_of_le hgb hbS.size)).trans ((hbS.frozen (p := ⟨gb, n, none⟩) hgb).trans hbf))
            generalize (w2.alloc (.cells #[.int .i64 (k : Nat), .int .i64 (l.op : Nat), .slice ap l.places.length cp, .int .i64 l.number, .int .i64 l.flag, .slice an l.next.length cn] 115)) = wL at *
            have l0 : wL.cell? ⟨w2.heap.size, 0, none⟩ = some (.int .i64 (k : Nat)) := by rw [cell_of_heap hlb]; rfl
            have l1 : wL.cell? ⟨w2.heap.size, 1, none⟩ = some (.int .i64 (l.op : Nat)) := by rw [cell_of_heap hlb]; rfl
            have l2 : wL.cell? ⟨w2.heap.size, 2, none⟩ = some (.slice ap l.places.length cp) := by rw [cell_of_heap hlb]; rfl
            have l3 : wL.cell? ⟨w2.heap.size, 3, none⟩ = some (.int .i64 l.number) := by rw [cell_of_heap hlb]; rfl
            have l4 : wL.cell? ⟨w2.heap.size, 4, none⟩ = some (.int .i64 l.flag) := by rw [cell_of_heap hlb]; rfl
            have l5 : wL.cell? ⟨w2.heap.size, 5, none⟩ = some (.slice an l.next.length cn) := by rw [cell_of_heap hlb]; rfl
            have hbA : Below wL.heap.size wL (wL.alloc (.cells #[.int .i64 (k : Nat), .int .i64 (l.op : Nat), .slice ap l.places.length cp, .int .i64 l.number, .int .i64 l.flag, .slice an l.next.length cn] 115)) := (Below.refl _ _).alloc (Nat.le_refl _) _
            have hsA : w.heap.size ≤ (wL.alloc (.cells #[.int .i64 (k : Nat), .int .i64 (l.op : Nat), .slice ap l.places.length cp, .int .i64 l.number, .int .i64 l.flag, .slice an l.next.length cn] 115)).heap.size := Nat.le_trans hBL.size hbA.size
            have hown0 := own_below (hPL.each n (by omega)).row hbA
            obtain ⟨m, hm⟩ : ∃ m, m = (q.blocks.getD n []).length := ⟨_, rfl⟩
            rw [← hm] at hown0 hlines
            have Hm : Hid (m = (q.blocks.getD n []).length) := hm
            have hgbz : w.heap.size ≤ gb := (hP.blocks.lt gb rfl).1
            clear hm
            have hPA := hPL.below hbA
            have hblkA := hPA.blk
            have q1A := (PAt.facts hPA).2.1
            have hgL : gb < wL.heap.size := by have := hb2'.size; have := hbS.size; have := hbL.size; omega
            have hbnA := (hbA.cell (p := ⟨gb, n, none⟩) hgL).trans hbnL
            have hrowB := hPA.blocks
            have hidx : (n : Int) < (n : Int) + 1 := by omega
            go_region_law (refine step_blk (by rfl) _ _ _ (by rfl) w.heap.size 115 in_ (.agg #[.int .i64 0, .int .i64 0, .slice none 0 0, .int .i64 0, .int .i64 0, .slice none 0 0]) 6 80 Tryz.underlying106 hin hn0 hn1 hn2 (by rfl) (by decide) (us.getD n undef) _ _ (by rfl) hown0 wL.heap.size [.int .i64 (k : Nat), .int .i64 (l.op : Nat), .slice ap l.places.length cp, .int .i64 l.number, .int .i64 l.flag, .slice an l.next.length cn] (by rfl) Array.getElem?_push_size (by rfl) one_line (by decide) (by omega) hsA ?_; intro g4 c4 w4 hown4 hgrow4 hat4 hlt4; have hblk4 : w4.heap[w.heap.size]? = _ := (hgrow4.block _ (lt_of_heap hblkA) (own_type_ne hown0 hblkA (by decide))).trans hblkA; have r1 := (cell_of_heap hblk4 1).trans (by rfl : _ = some (Value.slice (some ⟨gb, 0, none⟩) (n + 1) cb)); have hgrow5 : (wL.alloc (.cells #[.int .i64 (k : Nat), .int .i64 (l.op : Nat), .slice ap l.places.length cp, .int .i64 l.number, .int .i64 l.flag, .slice an l.next.length cn] 115)).grownBy w4 (us.getD n undef).ownBlock := ⟨hgrow4.os, hgrow4.tape, hgrow4.output, hgrow4.size, hgrow4.block⟩; obtain ⟨s1, s2⟩ := block_cell hrowB hown0 hgrow5 (by omega) hbnA)
            all_goals go_wp2_with fail
            all_goals exact ⟨⟨k + 1, _, vl, _, _, _, by omega, by go_num, rfl, hPL.addLine HV.out n hn { l with num := k } _ _ ⟨hLL.places, hLL.next⟩ hbA rfl rfl (hat4.imp id fun e => Nat.le_of_eq e.symm) (by rw [← Hm.out]; exact hown4) hgrow5, by unfold Hid; simp [QP.addLine, HV.out, hn], (below_append hBL (Nat.le_refl _) hBL.size (hPL.each n (by omega)).row hgrow5).trans (((Turn.refl _ w4).setCell n _).below hgbz (below_append hBL (Nat.le_refl _) hBL.size (hPL.each n (by omega)).row hgrow5).size), HM2⟩, by simp [intOf]; omega⟩
    · have hw := HM.out.whole hlt
      go_wp2
      go_ret3
      exact LookPost.good hB hw hP
end Go.Proofs.YtmlgajhhnojdjaaGreatDoor.PrjQ
