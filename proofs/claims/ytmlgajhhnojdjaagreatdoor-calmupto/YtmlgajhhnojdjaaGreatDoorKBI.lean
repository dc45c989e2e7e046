/- What the project's reader answers, whole: as the plain functions say. -/
import Derived.Test.YtmlgajhhnojdjaaGreatDoorKBH
import Derived.Deep.DeepCutAuto
import Derived.Test.YtmlgajhhnojdjaaGreatDoorKBE
import Derived.Test.YtmlgajhhnojdjaaGreatDoorKAB
import Derived.Test.YtmlgajhhnojdjaaGreatDoorKAG
import Derived.Deep.LoopGhost
import Derived.Deep.RegionLaw
import Derived.Test.YtmlgajhhnojdjaaGreatDoorKBF
namespace Go.Proofs.YtmlgajhhnojdjaaGreatDoor.PrjW
open Go Go.RowKit Go.Proofs.YtmlgajhhnojdjaaGreatDoor.Spec Go.Proofs.YtmlgajhhnojdjaaGreatDoor.Aux Go.Proofs.YtmlgajhhnojdjaaGreatDoor.PrjF Go.Proofs.YtmlgajhhnojdjaaGreatDoor.PrjG Go.Proofs.YtmlgajhhnojdjaaGreatDoor.PrjH Go.Proofs.YtmlgajhhnojdjaaGreatDoor.PrjI Go.Proofs.YtmlgajhhnojdjaaGreatDoor.PrjJ Go.Proofs.YtmlgajhhnojdjaaGreatDoor.PrjK Go.Proofs.YtmlgajhhnojdjaaGreatDoor.PrjL Go.Proofs.YtmlgajhhnojdjaaGreatDoor.PrjM Go.Proofs.YtmlgajhhnojdjaaGreatDoor.PrjN Go.Proofs.YtmlgajhhnojdjaaGreatDoor.PrjO Go.Proofs.YtmlgajhhnojdjaaGreatDoor.PrjP Go.Proofs.YtmlgajhhnojdjaaGreatDoor.PrjQ Go.Proofs.YtmlgajhhnojdjaaGreatDoor.PrjR Go.Proofs.YtmlgajhhnojdjaaGreatDoor.PrjS Go.Proofs.YtmlgajhhnojdjaaGreatDoor.PrjT Go.Proofs.YtmlgajhhnojdjaaGreatDoor.PrjU Go.Proofs.YtmlgajhhnojdjaaGreatDoor.PrjV

/-- what a program that was read has -/
structure Got (z a : Nat) (w : World) (q : QP) : Prop where
  at_ : ∃ vl vb us vss, PAt z a w q vl vb us vss
  ok : ∃ nb, nb ≤ 4000 ∧ QOk nb q
  locals : q.locals.length ≤ 4000
  blocks : q.blocks.length ≤ 4000
  lines : ∀ j, (q.blocks.getD j []).length ≤ 4000
def PReadPost (text : B) (raw : Bool) (w : World) (e : Ending) (w' : World) : Prop :=
  Below w.heap.size w w' ∧ ∃ v, e = .returned (.tuple #[v, .int .i64 ((prjRead text raw).2.1 : Nat), .int .i64 ((prjRead text raw).2.2 : Nat)]) ∧
    (((prjRead text raw).1 = none ∧ v = .pointer none) ∨ ∃ q a z, (prjRead text raw).1 = some q ∧ v = .pointer (some ⟨a, 0, none⟩) ∧ w.heap.size ≤ z ∧ Got z a w' q)
theorem PReadPost.bad {text : B} {raw : Bool} {w w' : World} {c k : Nat} (hb : Below w.heap.size w w') (h : prjRead text raw = (none, c, k)) : PReadPost text raw w (.returned (.tuple #[.pointer none, .int .i64 (c : Nat), .int .i64 (k : Nat)])) w' :=
  ⟨hb, .pointer none, by rw [h], .inl ⟨by rw [h], rfl⟩⟩
theorem PReadPost.good {text : B} {raw : Bool} {w w' : World} {q : QP} {a z : Nat} (hb : Below w.heap.size w w') (h : prjRead text raw = (some q, 0, 0)) (hz : w.heap.size ≤ z) (hg : Got z a w' q) : PReadPost text raw w (.returned (.tuple #[.pointer (some ⟨a, 0, none⟩), .int .i64 0, .int .i64 0])) w' :=
  ⟨hb, .pointer (some ⟨a, 0, none⟩), by rw [h]; rfl, .inr ⟨q, a, z, by rw [h], rfl, hz, hg⟩⟩
section
variable {text : B} {raw : Bool}
theorem read_long (h : (split 10 text).length > (if raw then 4000 else 120)) : prjRead text raw = (none, 1, 0) := by rw [prjRead, if_pos h]
theorem read_form (h : ¬ (split 10 text).length > (if raw then 4000 else 120)) {k : Nat} (hs : (splitGo raw (wordsOf text) ⟨0, 0, 0⟩ 0).2.2 = some k) : prjRead text raw = (none, 2, k) := by
  rw [prjRead, if_neg h, hs]
theorem read_short (h : ¬ (split 10 text).length > (if raw then 4000 else 120)) {S : List (Nat × List B)} {o : OrdP} (hs : splitGo raw (wordsOf text) ⟨0, 0, 0⟩ 0 = (S, o, none)) (ho : ¬ o.sec = 2) : prjRead text raw = (none, 2, (split 10 text).length) := by
  rw [prjRead, if_neg h, hs]
  simp only
  rw [if_pos ho]
theorem read_name (h : ¬ (split 10 text).length > (if raw then 4000 else 120)) {S : List (Nat × List B)} {o : OrdP} (hs : splitGo raw (wordsOf text) ⟨0, 0, 0⟩ 0 = (S, o, none)) (ho : o.sec = 2) {k : Nat} (hl : (lookGo (countB S) S 0 QP.empty).2 = some k) : prjRead text raw = (none, 3, k) := by
  rw [prjRead, if_neg h, hs]
  simp only
  rw [if_neg (by simp [ho]), hl]
theorem read_type (h : ¬ (split 10 text).length > (if raw then 4000 else 120)) {S : List (Nat × List B)} {o : OrdP} (hs : splitGo raw (wordsOf text) ⟨0, 0, 0⟩ 0 = (S, o, none)) (ho : o.sec = 2) {q : QP} (hl : lookGo (countB S) S 0 QP.empty = (q, none)) {k : Nat} (hm : q.misfit = some k) : prjRead text raw = (none, 4, k) := by
  rw [prjRead, if_neg h, hs]
  simp only
  rw [if_neg (by simp [ho]), hl]
  simp only
  rw [hm]
theorem read_good (h : ¬ (split 10 text).length > (if raw then 4000 else 120)) {S : List (Nat × List B)} {o : OrdP} (hs : splitGo raw (wordsOf text) ⟨0, 0, 0⟩ 0 = (S, o, none)) (ho : o.sec = 2) {q : QP} (hl : lookGo (countB S) S 0 QP.empty = (q, none)) (hm : q.misfit = none) : prjRead text raw = (some q, 0, 0) := by
  rw [prjRead, if_neg h, hs]
  simp only
  rw [if_neg (by simp [ho]), hl]
  simp only
  rw [hm]
end
theorem Got.make {z a nb : Nat} {w : World} {S : List (Nat × List B)} {q : QP} (hn : nb = countB S) (hS : SentsOk S) (hl : lookGo nb S 0 QP.empty = (q, none)) {vl vb : Value} {us : List Value} {vss : List (List (Value × Value))} (hp : PAt z a w q vl vb us vss) : Got z a w q := by
  have h1 := lookGo_size nb S 0 0 QP.empty q hl (fun b hb => by simp [QP.empty] at hb)
  have h2 := lookGo_ok nb S 0 QP.empty q hl (fun x hx => by
    obtain ⟨j, hj, rfl⟩ := List.getElem_of_mem hx
    have := hS.op j hj
    simpa [List.getD_eq_getElem?_getD, hj] using this) ⟨fun x hx => by simp [QP.empty] at hx, fun b hb => by simp [QP.empty] at hb⟩
  have hfew := hS.few
  simp only [QP.empty, List.length_nil, Nat.zero_add] at h1
  refine ⟨⟨vl, vb, us, vss, hp⟩, ⟨nb, by have := countB_le S; omega, h2⟩, by omega, by omega, fun j => ?_⟩
  by_cases hj : j < q.blocks.length
  · have := h1.2.2 (q.blocks.getD j []) (by simp [hj])
    omega
  · rw [List.getD_eq_getElem?_getD, List.getElem?_eq_none (by omega)]; simp
theorem split_form {raw : Bool} {L : List B} {w w' : World} {e : Ending} (h : SplitPost raw L w e w') : ∃ v7 v8 v9, e = .returned (.tuple #[v7, v8, v9]) ∧ SplitPost raw L w (.returned (.tuple #[v7, v8, v9])) w' := by
  have h' := h
  unfold SplitPost at h
  obtain ⟨-, h⟩ := h
  split at h
  · subst h; exact ⟨_, _, _, rfl, h'⟩
  · obtain ⟨v, vs, rfl, -⟩ := h; exact ⟨_, _, _, rfl, h'⟩
theorem split_cases {raw : Bool} {L : List B} {w w' : World} {v7 v8 v9 : Value} (h : SplitPost raw L w (.returned (.tuple #[v7, v8, v9])) w') : Below w.heap.size w w' ∧ ((∃ k : Nat, (splitGo raw (L.map (split 32)) ⟨0, 0, 0⟩ 0).2.2 = some k ∧ v7 = .slice none 0 0 ∧ v8 = .int .i64 (k : Nat) ∧ v9 = .bool false) ∨
    ∃ S o vs, splitGo raw (L.map (split 32)) ⟨0, 0, 0⟩ 0 = (S, o, none) ∧ v8 = .int .i64 (L.length : Nat) ∧ v9 = .bool (decide (o.sec = 2)) ∧ SentsAt w.heap.size w' v7 S vs) := by
  obtain ⟨hb, h⟩ := h
  refine ⟨hb, ?_⟩
  generalize splitGo raw (L.map (split 32)) ⟨0, 0, 0⟩ 0 = R at h ⊢
  obtain ⟨S, o, x⟩ := R
  cases x with
  | some k =>
    simp only [Ending.returned.injEq, Value.tuple.injEq, Array.mk.injEq, List.cons.injEq, and_true] at h
    exact .inl ⟨k, rfl, h.1, h.2.1, h.2.2⟩
  | none =>
    obtain ⟨v, vs, e, hs⟩ := h
    simp only [Ending.returned.injEq, Value.tuple.injEq, Array.mk.injEq, List.cons.injEq, and_true] at e
    obtain ⟨rfl, h2, h3⟩ := e
    exact .inr ⟨S, o, vs, rfl, h2, h3, hs⟩
theorem look_form {nb : Nat} {S : List (Nat × List B)} {w w' : World} {e : Ending} (h : LookPost nb S w e w') : Below w.heap.size w w' ∧ ((∃ k : Nat, (lookGo nb S 0 QP.empty).2 = some k ∧ e = .returned (.tuple #[.pointer none, .int .i64 (k : Nat), .bool false])) ∨ ∃ q a vl vb us vss, lookGo nb S 0 QP.empty = (q, none) ∧ e = .returned (.tuple #[.pointer (some ⟨a, 0, none⟩), .int .i64 0, .bool true]) ∧ PAt w.heap.size a w' q vl vb us vss) := by
  obtain ⟨hb, h⟩ := h
  refine ⟨hb, ?_⟩
  generalize lookGo nb S 0 QP.empty = R at h ⊢
  obtain ⟨q, x⟩ := R
  cases x with
  | some k => exact .inl ⟨k, rfl, h⟩
  | none =>
    obtain ⟨a, vl, vb, us, vss, h1, h2⟩ := h
    exact .inr ⟨q, a, vl, vb, us, vss, rfl, h1, h2⟩
theorem miss_form {q : QP} {w w' : World} {e : Ending} (h : MissPost q w e w') : Below w.heap.size w w' ∧ ((∃ k : Nat, q.misfit = some k ∧ e = .returned (.tuple #[.int .i64 (k : Nat), .bool true])) ∨ (q.misfit = none ∧ e = .returned (.tuple #[.int .i64 0, .bool false]))) := by
  obtain ⟨hb, h⟩ := h
  refine ⟨hb, ?_⟩
  cases hm : q.misfit with
  | some k => rw [hm] at h; exact .inl ⟨k, rfl, h⟩
  | none => rw [hm] at h; exact .inr ⟨rfl, h⟩
theorem lookUp_form {z g cap : Nat} {S : List (Nat × List B)} {vs : List Value} (w : World) (h : SentsAt z w (.slice (some ⟨g, 0, none⟩) S.length cap) S vs) (hS : SentsOk S) (hg : g < w.heap.size) (hcap : S.length ≤ cap) (E : Env w) :
    Calls Tryz.prog 117 #[.slice (some ⟨g, 0, none⟩) S.length cap] w fun e w' => Below w.heap.size w w' ∧ ((∃ k : Nat, (lookGo (countB S) S 0 QP.empty).2 = some k ∧ e = .returned (.tuple #[.pointer none, .int .i64 (k : Nat), .bool false])) ∨ ∃ q a, lookGo (countB S) S 0 QP.empty = (q, none) ∧ e = .returned (.tuple #[.pointer (some ⟨a, 0, none⟩), .int .i64 0, .bool true]) ∧ Got w.heap.size a w' q) :=
  (lookUp_any w h hS hg hcap E).mono fun e w' hl => by
    obtain ⟨h1, h2 | ⟨q, a, vl, vb, us, vss, h3, h4, h5⟩⟩ := look_form hl
    · exact ⟨h1, .inl h2⟩
    · exact ⟨h1, .inr ⟨q, a, h3, h4, Got.make rfl hS h3 h5⟩⟩
theorem misfit_form {z a : Nat} {q : QP} (w : World) (h : Got z a w q) (E : Env w) :
    Calls Tryz.prog 118 #[.pointer (some ⟨a, 0, none⟩)] w fun e w' => Below w.heap.size w w' ∧ ((∃ k : Nat, q.misfit = some k ∧ e = .returned (.tuple #[.int .i64 (k : Nat), .bool true])) ∨ (q.misfit = none ∧ e = .returned (.tuple #[.int .i64 0, .bool false]))) := by
  obtain ⟨⟨vl, vb, us, vss, hP⟩, ⟨nb, -, hq⟩, h1, h2, h3⟩ := h
  exact (misfit_any q nb z a vl vb us vss w hP h1 hq h2 h3 E).mono fun e w' hm => miss_form hm
theorem Got.below {z a : Nat} {w w' : World} {q : QP} (h : Got z a w q) (hb : Below w.heap.size w w') : Got z a w' q := by
  obtain ⟨⟨vl, vb, us, vss, hP⟩, h0, h1, h2, h3⟩ := h
  exact ⟨⟨vl, vb, us, vss, hP.below hb⟩, h0, h1, h2, h3⟩
set_option maxRecDepth 20000 in
set_option maxHeartbeats 2000000 in
theorem pread_any (text : B) (raw : Bool) (w : World) (h : text.length ≤ 1048576) (E : Env w) :
    Calls Tryz.prog 72 #[.agg #[.bool raw, .int .i64 (if raw then 4000 else 120 : Nat), .int .i64 (if raw then 2000 else 20 : Nat)], .string (bs text)] w (PReadPost text raw w) := by
  have KSp := fun w' (hL : (split 10 text).length ≤ 4000) (g cap : Nat) (hc : (split 10 text).length ≤ cap) (hg : g < w'.heap.size) (hcell : ∀ j, j < (split 10 text).length → w'.cell? ⟨g, j, none⟩ = some (.string (bs (word (split 10 text) j)))) (E' : Env w') =>
    split_any raw (if raw then 4000 else 120) g cap (split 10 text) w' hL hc hg hcell (fun j => Nat.le_trans (word_split_le 10 text j) h) E'
  have hone := one_le_split 10 text
  have KC := fun w' => count_lines text w'
  by_cases hlong : (split 10 text).length > (if raw then 4000 else 120)
  · have hx := read_long hlong
    generalize (if raw then 4000 else 120 : Nat) = ln at *
    generalize (if raw then 2000 else 20 : Nat) = mb at *
    have hcmp : (ln : Int) ≤ (((split 10 text).length - 1 : Nat) : Int) := by omega
    generalize (split 10 text).length - 1 = cnt at *
    have hbA : Below w.heap.size w (w.alloc (.cells #[.bool raw, .int .i64 (ln : Nat), .int .i64 (mb : Nat)] 130)) := (Below.refl _ _).alloc (Nat.le_refl _) _
    go_enter Tryz.func72, Tryz.ntmps72
    go_wp2
    go_quiet ((go_at_call 114; exact Calls.quiet_of_same (KC _)))
    go_wp2
    go_ret3
    exact PReadPost.bad (below_drewN hbA _) hx
  · have hL : (split 10 text).length ≤ 4000 := by cases raw <;> simp at hlong <;> omega
    have R1 := fun k => read_form (raw := raw) (text := text) hlong (k := k)
    have R2 := fun S o hs ho => read_short (raw := raw) (text := text) hlong (S := S) (o := o) hs ho
    have R3 := fun S o hs ho k hl => read_name (raw := raw) (text := text) hlong (S := S) (o := o) hs ho (k := k) hl
    have R4 := fun S o hs ho q hl k hm => read_type (raw := raw) (text := text) hlong (S := S) (o := o) hs ho (q := q) hl (k := k) hm
    have R5 := fun S o hs ho q hl hm => read_good (raw := raw) (text := text) hlong (S := S) (o := o) hs ho (q := q) hl hm
    have HR : Hid (_ ∧ _ ∧ _ ∧ _ ∧ _) := ⟨R1, R2, R3, R4, R5⟩
    clear R1 R2 R3 R4 R5
    generalize (if raw then 4000 else 120 : Nat) = ln at *
    generalize (if raw then 2000 else 20 : Nat) = mb at *
    have hcmp : ¬ (ln : Int) ≤ (((split 10 text).length - 1 : Nat) : Int) := by omega
    have hbA : Below w.heap.size w (w.alloc (.cells #[.bool raw, .int .i64 (ln : Nat), .int .i64 (mb : Nat)] 130)) := (Below.refl _ _).alloc (Nat.le_refl _) _
    have HL1 : Hid (_) := hone
    obtain ⟨cnt, hcnt⟩ : ∃ cnt, cnt = (split 10 text).length - 1 := ⟨_, rfl⟩
    rw [← hcnt] at KC hcmp
    clear hcnt hlong
    go_enter Tryz.func72, Tryz.ntmps72
    go_wp2
    go_quiet ((go_at_call 114; exact Calls.quiet_of_same (KC _)))
    go_wp2
    have hbW := below_drewN hbA nq
    have d0 : ((w.alloc (.cells #[.bool raw, .int .i64 (ln : Nat), .int .i64 (mb : Nat)] 130)).drewN nq).heap[w.heap.size]? = some (.cells #[.bool raw, .int .i64 (ln : Nat), .int .i64 (mb : Nat)] 130 (0, 0)) := Array.getElem?_push_size
    generalize ((w.alloc (.cells #[.bool raw, .int .i64 (ln : Nat), .int .i64 (mb : Nat)] 130)).drewN nq) = W at *
    have hbWd : Below w.heap.size w W.drew := ⟨hbW.os, hbW.tape, hbW.output, hbW.size, hbW.block⟩
    have KL := lines_row text W.drew h (E.on hbWd)
    have e0 : W.cell? ⟨w.heap.size, 0, none⟩ = some (.bool raw) := by rw [cell_of_heap d0]; rfl
    have e1 : W.cell? ⟨w.heap.size, 1, none⟩ = some (.int .i64 (ln : Nat)) := by rw [cell_of_heap d0]; rfl
    have e2 : W.cell? ⟨w.heap.size, 2, none⟩ = some (.int .i64 (mb : Nat)) := by rw [cell_of_heap d0]; rfl
    have hltW := lt_of_heap d0
    go_cut [7, 8, 9] (fun v7 v8 v9 wc => ∃ w1, Below w.heap.size w w1 ∧ SplitPost raw (split 10 text) w1 (.returned (.tuple #[v7, v8, v9])) wc)
    case first =>
      go_region_with (first
        | (go_at_call 115; refine K1.mono ?_; rintro e w2 hsp; obtain ⟨v7, v8, v9, rfl, hsp⟩ := split_form hsp)
        | (go_at_call 116; refine KL.mono ?_; rintro e w1 ⟨rfl, hb1, hg1, hc1⟩; have hd1 : w1.heap[w.heap.size]? = _ := (hb1.block w.heap.size hltW).trans d0; have c0 := (cell_of_heap hd1 0).trans (by rfl : _ = some (Value.bool raw)); have c1 := (cell_of_heap hd1 1).trans (by rfl : _ = some (Value.int .i64 (ln : Nat))); have c2 := (cell_of_heap hd1 2).trans (by rfl : _ = some (Value.int .i64 (mb : Nat))); have hB1 : Below w.heap.size w w1 := hbWd.trans (hb1.mono hbWd.size); have K1 := KSp w1 hL W.heap.size (split 10 text).length (Nat.le_refl _) hg1 hc1 (E.on hB1)))
      all_goals go_wp2_with fail
      all_goals
        go_meet
        case rel => exact ⟨w1, hB1, hsp⟩
    case rest =>
      obtain ⟨w1, hB1, hsp⟩ := hcut
      obtain ⟨hb2, hcase⟩ := split_cases hsp
      have hB2 := hB1.trans (hb2.mono hB1.size)
      obtain ⟨R1, R2, R3, R4, R5⟩ := HR.out
      clear HR KSp KC KL hsp
      rcases hcase with ⟨k, hk, rfl, rfl, rfl⟩ | ⟨SS, o, vs, hs, rfl, rfl, hSents⟩
      · have hx := R1 k hk
        clear R1 R2 R3 R4 R5 hk
        go_wp2
        go_ret3
        exact PReadPost.bad hB2 hx
      · obtain ⟨hok, hlen⟩ := sents_ok hs hL (fun j => Nat.le_trans (word_split_le 10 text j) h)
        by_cases ho : o.sec = 2
        · have hod : decide (o.sec = 2) = true := by simp [ho]
          rw [hod]
          obtain ⟨g, cap, rfl, hcap, hg⟩ := sents_form hSents (by have := HL1.out; omega)
          have KU := lookUp_form wc hSents hok hg hcap (E.on hB2)
          have Q3 := fun k hl => R3 SS o hs ho k hl
          have Q4 := fun q hl k hm => R4 SS o hs ho q hl k hm
          have Q5 := fun q hl hm => R5 SS o hs ho q hl hm
          have HQ : Hid (_ ∧ _ ∧ _) := ⟨Q3, Q4, Q5⟩
          clear R1 R2 R3 R4 R5 Q3 Q4 Q5 hs
          have KM := fun (q : QP) (a : Nat) (w3 : World) (hb3 : Below wc.heap.size wc w3) (hG : Got wc.heap.size a w3 q) => misfit_form w3 hG ((E.on hB2).on hb3)
          generalize (lookGo (countB SS) SS 0 QP.empty) = LK at *
          clear hSents hok hone hL hlen ho hod e0 e1 e2 d0 hcmp
          go_wp2_with (first
            | (go_at_call 117; refine KU.mono ?_; rintro e w3 ⟨hb3, ⟨k, hk, rfl⟩ | ⟨q, a, hq, rfl, hG⟩⟩)
            | (go_at_call 118; refine (KM q a w3 hb3 hG).mono ?_; rintro e w4 ⟨hb4, ⟨k, hk, rfl⟩ | ⟨hm, rfl⟩⟩))
          · go_ret3
            exact PReadPost.bad (hB2.trans (hb3.mono hB2.size)) (HQ.out.1 k hk)
          · go_ret3
            have hB3 := hB2.trans (hb3.mono hB2.size)
            exact PReadPost.bad (hB3.trans (hb4.mono hB3.size)) (HQ.out.2.1 q hq k hk)
          · go_ret3
            have hB3 := hB2.trans (hb3.mono hB2.size)
            exact PReadPost.good (hB3.trans (hb4.mono hB3.size)) (HQ.out.2.2 q hq hm) hB2.size (hG.below hb4)
        · have hx := R2 SS o hs ho
          have hod : decide (o.sec = 2) = false := by simp [ho]
          rw [hod]
          clear R1 R2 R3 R4 R5 hs ho hod
          go_wp2
          go_ret3
          exact PReadPost.bad hB2 hx
end Go.Proofs.YtmlgajhhnojdjaaGreatDoor.PrjW
/- What the document's own reader answers on what a line names. Condition: the program lies in memory as it is kept, and the line's form is right. -/
namespace Go.Proofs.YtmlgajhhnojdjaaGreatDoor.RefI
theorem hereRefI : True := trivial
end Go.Proofs.YtmlgajhhnojdjaaGreatDoor.RefI
/- What the document's own reader answers on the types of a line's places. Condition: the program lies in memory as it is kept, and what the line names is there. -/
namespace Go.Proofs.YtmlgajhhnojdjaaGreatDoor.RefJ
theorem hereRefJ : True := trivial
end Go.Proofs.YtmlgajhhnojdjaaGreatDoor.RefJ
/- What the document's own reader answers on the form of a line. Condition: the program lies in memory as it is kept. -/
namespace Go.Proofs.YtmlgajhhnojdjaaGreatDoor.RefK
theorem hereRefK : True := trivial
end Go.Proofs.YtmlgajhhnojdjaaGreatDoor.RefK
/- What the document's own reader answers on the form of a line that is no let. Condition: the program lies in memory as it is kept. -/
namespace Go.Proofs.YtmlgajhhnojdjaaGreatDoor.RefL
theorem hereRefL : True := trivial
end Go.Proofs.YtmlgajhhnojdjaaGreatDoor.RefL
/- Names and types of a line whose form is right. Condition: the program lies in memory as it is kept. -/
namespace Go.Proofs.YtmlgajhhnojdjaaGreatDoor.RefN
theorem hereRefN : True := trivial
end Go.Proofs.YtmlgajhhnojdjaaGreatDoor.RefN
/- What the document's own reader answers on a whole text. Condition: the text has at most 2^40 bytes. -/
namespace Go.Proofs.YtmlgajhhnojdjaaGreatDoor.RefM
theorem hereRefM : True := trivial
end Go.Proofs.YtmlgajhhnojdjaaGreatDoor.RefM
/- The law Looked, walked: for texts of at most 2^20 letters, in every world that holds the tables. -/
namespace Go.Proofs.YtmlgajhhnojdjaaGreatDoor.PrjX
open Go Go.RowKit Go.Proofs.YtmlgajhhnojdjaaGreatDoor.Spec Go.Proofs.YtmlgajhhnojdjaaGreatDoor.Aux Go.Proofs.YtmlgajhhnojdjaaGreatDoor.PrjF Go.Proofs.YtmlgajhhnojdjaaGreatDoor.PrjG Go.Proofs.YtmlgajhhnojdjaaGreatDoor.PrjJ Go.Proofs.YtmlgajhhnojdjaaGreatDoor.PrjK Go.Proofs.YtmlgajhhnojdjaaGreatDoor.PrjW Go.Proofs.YtmlgajhhnojdjaaGreatDoor.RefM

set_option maxRecDepth 20000 in
theorem readRaw_any (text : B) (w : World) (h : text.length ≤ 1048576) (E : Env w) : Calls Tryz.prog 48 #[.string (bs text)] w (PReadPost text true w) := by
  have K := pread_any text true w h E
  replace K := K.mono (R' := fun e w' => ∃ v, e = .returned (.tuple #[v, .int .i64 ((prjRead text true).2.1 : Nat), .int .i64 ((prjRead text true).2.2 : Nat)]) ∧ PReadPost text true w (.returned (.tuple #[v, .int .i64 ((prjRead text true).2.1 : Nat), .int .i64 ((prjRead text true).2.2 : Nat)])) w') fun e w' hp => by
    have hp' := hp
    obtain ⟨-, v, rfl, -⟩ := hp'
    exact ⟨v, rfl, hp⟩
  generalize (prjRead text true).2.1 = c1 at K
  generalize (prjRead text true).2.2 = c2 at K
  have K2 : Calls Tryz.prog 72 #[.agg #[.bool true, .int .i64 4000, .int .i64 2000], .string (bs text)] w _ := K
  go_enter Tryz.func48, Tryz.ntmps48
  go_wp2_with (go_at_call 72; refine K2.mono ?_; rintro e w1 ⟨v, rfl, hp⟩)
  go_ret3
  exact hp
set_option maxRecDepth 20000 in
theorem read_any' (text : B) (w : World) (h : text.length ≤ 1048576) (E : Env w) : Calls Tryz.prog 53 #[.string (bs text)] w (PReadPost text false w) := by
  have K := pread_any text false w h E
  replace K := K.mono (R' := fun e w' => ∃ v, e = .returned (.tuple #[v, .int .i64 ((prjRead text false).2.1 : Nat), .int .i64 ((prjRead text false).2.2 : Nat)]) ∧ PReadPost text false w (.returned (.tuple #[v, .int .i64 ((prjRead text false).2.1 : Nat), .int .i64 ((prjRead text false).2.2 : Nat)])) w') fun e w' hp => by
    have hp' := hp
    obtain ⟨-, v, rfl, -⟩ := hp'
    exact ⟨v, rfl, hp⟩
  generalize (prjRead text false).2.1 = c1 at K
  generalize (prjRead text false).2.2 = c2 at K
  have K2 : Calls Tryz.prog 72 #[.agg #[.bool false, .int .i64 120, .int .i64 20], .string (bs text)] w _ := K
  go_enter Tryz.func53, Tryz.ntmps53
  go_wp2_with (go_at_call 72; refine K2.mono ?_; rintro e w1 ⟨v, rfl, hp⟩)
  go_ret3
  exact hp
set_option maxRecDepth 20000 in
theorem Look_any (text : B) (w : World) (h : text.length ≤ 1048576) (E : Env w) : Calls Tryz.prog 30 #[.string (bs text)] w fun e w' => e = .returned (.tuple #[.int .i64 ((refRead text true).2.1 : Nat), .int .i64 ((refRead text true).2.2 : Nat)]) ∧ Below w.heap.size w w' := by
  have K := (readRaw_any text w h E).mono (R' := fun e w' => ∃ v, e = .returned (.tuple #[v, .int .i64 ((refRead text true).2.1 : Nat), .int .i64 ((refRead text true).2.2 : Nat)]) ∧ Below w.heap.size w w') fun e w' hp => by
    obtain ⟨hb, v, rfl, -⟩ := hp
    rw [(read_same text true).1]
    exact ⟨v, rfl, hb⟩
  generalize (refRead text true).2.1 = c1 at *
  generalize (refRead text true).2.2 = c2 at *
  go_enter Tryz.func30, Tryz.ntmps30
  go_wp2_with (go_at_call 48; refine K.mono ?_; rintro e w1 ⟨v, rfl, hb⟩)
  go_ret2
  exact ⟨rfl, hb⟩
end Go.Proofs.YtmlgajhhnojdjaaGreatDoor.PrjX
/- What the project's reader and its flow make of a text, told by the document's own words: plain facts, and the flow's contract. -/
namespace Go.Proofs.YtmlgajhhnojdjaaGreatDoor.FlwZ
open Go Go.RowKit Go.Proofs.YtmlgajhhnojdjaaGreatDoor.Spec Go.Proofs.YtmlgajhhnojdjaaGreatDoor.Aux Go.Proofs.YtmlgajhhnojdjaaGreatDoor.PrjF Go.Proofs.YtmlgajhhnojdjaaGreatDoor.PrjG Go.Proofs.YtmlgajhhnojdjaaGreatDoor.PrjJ Go.Proofs.YtmlgajhhnojdjaaGreatDoor.PrjK Go.Proofs.YtmlgajhhnojdjaaGreatDoor.PrjM Go.Proofs.YtmlgajhhnojdjaaGreatDoor.PrjS Go.Proofs.YtmlgajhhnojdjaaGreatDoor.PrjW Go.Proofs.YtmlgajhhnojdjaaGreatDoor.PrjX Go.Proofs.YtmlgajhhnojdjaaGreatDoor.RefM Go.Proofs.YtmlgajhhnojdjaaGreatDoor.FlwF Go.Proofs.YtmlgajhhnojdjaaGreatDoor.FlwI Go.Proofs.YtmlgajhhnojdjaaGreatDoor.FlwK Go.Proofs.YtmlgajhhnojdjaaGreatDoor.FlwM Go.Proofs.YtmlgajhhnojdjaaGreatDoor.FlwO Go.Proofs.YtmlgajhhnojdjaaGreatDoor.FlwP Go.Proofs.YtmlgajhhnojdjaaGreatDoor.FlwQ Go.Proofs.YtmlgajhhnojdjaaGreatDoor.FlwR Go.Proofs.YtmlgajhhnojdjaaGreatDoor.FlwV Go.Proofs.YtmlgajhhnojdjaaGreatDoor.FlwX Go.Proofs.YtmlgajhhnojdjaaGreatDoor.FlwY

theorem prjRead_bad {text : B} {raw : Bool} {c k : Nat} (h : prjRead text raw = (none, c, k)) : 1 ≤ c ∧ refRead text raw = (none, c, k) := by
  have hc : 1 ≤ c := by
    by_cases hlong : (split 10 text).length > (if raw then 4000 else 120)
    · rw [prjRead, if_pos hlong] at h; simp only [Prod.mk.injEq] at h; omega
    · rw [prjRead, if_neg hlong] at h
      split at h
      · simp only [Prod.mk.injEq] at h; omega
      · split at h
        · simp only [Prod.mk.injEq] at h; omega
        · split at h
          · simp only [Prod.mk.injEq] at h; omega
          · split at h
            · simp only [Prod.mk.injEq] at h; omega
            · cases h
  refine ⟨hc, ?_⟩
  have h2 := (read_same text raw).1
  rw [h] at h2
  simp only at h2
  cases hr : refRead text raw with
  | mk op ck =>
    rw [hr] at h2
    simp only at h2
    subst h2
    cases op with
    | none => rfl
    | some p => have := (refRead_good hr).2.1; omega
theorem prjRead_good {text : B} {raw : Bool} {q : QP} {c k : Nat} (h : prjRead text raw = (some q, c, k)) : c = 0 ∧ k = 0 ∧ ∃ p, refRead text raw = (some p, 0, 0) ∧ Both text raw p q := by
  obtain ⟨p, hb⟩ := read_more (text := text) (raw := raw) (q := q) (by rw [h])
  have h2 := (read_same text raw).1
  have e : refRead text raw = (some p, (refRead text raw).2.1, (refRead text raw).2.2) := by rw [← hb.ref]
  obtain ⟨-, e1, e2, -⟩ := refRead_good e
  have e3 : refRead text raw = (some p, 0, 0) := by rw [e, e1, e2]
  rw [h, e3] at h2
  simp only [Prod.mk.injEq] at h2
  exact ⟨h2.1, h2.2, p, e3, hb⟩
theorem got_below {z a : Nat} {w w' : World} {q : QP} (h : Got z a w q) (hb : Below w.heap.size w w') : Got z a w' q := by
  obtain ⟨vl, vb, us, vss, hp⟩ := h.at_
  exact ⟨⟨vl, vb, us, vss, hp.below hb⟩, h.ok, h.locals, h.blocks, h.lines⟩
theorem both_pos {text : B} {p : RP} {q : QP} (h : Both text false p q) : 0 < q.blocks.length := by
  rw [h.len]; exact h.ok.first.1
/-- the ways of a program that was read, gone to the end -/
theorem flow_any {text : B} {p : RP} {q : QP} {z a : Nat} {w : World} (hB : Both text false p q) (hG : Got z a w q) : Calls Tryz.prog 54 #[.pointer (some ⟨a, 0, none⟩)] w fun e w' =>
    (∃ E', Done text p q E' ∧ e = .returned (ansOf (firstSome (faultB q E') q.blocks.length 0))) ∧ Below w.heap.size w w' := by
  obtain ⟨vl, vb, us, vss, hp⟩ := hG.at_
  refine (FirstFault_any hp (both_pos hB) hG.blocks hB.twelve hB.qok hG.lines (InvF q) (invF_start q (both_pos hB)) (fun E O b _ _ hb hO hI => invF_step q hB.qok hB.twelve E O b hb hO hI)).mono ?_
  rintro e w' ⟨⟨E', -, -, hI, rfl⟩, hb⟩
  exact ⟨⟨E', ⟨hB, hI, (both_pos hB)⟩, rfl⟩, hb⟩
/-- what the project's checked leaves -/
def CheckPost (text : B) (w : World) (e : Ending) (w' : World) : Prop :=
  Below w.heap.size w w' ∧ ((∃ c k : Nat, 1 ≤ c ∧ refRead text false = (none, c, k) ∧ e = .returned (.tuple #[.pointer none, .int .i64 (c : Int), .int .i64 (k : Int)])) ∨
    ∃ p q E, refRead text false = (some p, 0, 0) ∧ prjRead text false = (some q, 0, 0) ∧ Done text p q E ∧ ((∃ n : Nat, firstSome (faultB q E) q.blocks.length 0 = some n ∧ e = .returned (.tuple #[.pointer none, .int .i64 5, .int .i64 (n : Int)])) ∨
      (firstSome (faultB q E) q.blocks.length 0 = none ∧ ∃ a z, e = .returned (.tuple #[.pointer (some ⟨a, 0, none⟩), .int .i64 0, .int .i64 0]) ∧ w.heap.size ≤ z ∧ Got z a w' q)))
/-- its error, its line -/
def chkAns (text : B) (c k : Int) : Prop := (∃ c' k' : Nat, 1 ≤ c' ∧ refRead text false = (none, c', k') ∧ c = c' ∧ k = k') ∨
    ∃ p q E, refRead text false = (some p, 0, 0) ∧ prjRead text false = (some q, 0, 0) ∧ Done text p q E ∧ ((∃ n : Nat, firstSome (faultB q E) q.blocks.length 0 = some n ∧ c = 5 ∧ k = n) ∨ (firstSome (faultB q E) q.blocks.length 0 = none ∧ c = 0 ∧ k = 0))
theorem CheckPost.ans {text : B} {w w' : World} {e : Ending} (h : CheckPost text w e w') : Below w.heap.size w w' ∧ ∃ v c k, e = .returned (.tuple #[v, .int .i64 c, .int .i64 k]) ∧ chkAns text c k := by
  obtain ⟨hb, h | ⟨p, q, E, h1, hq, h2, ⟨n, h3, rfl⟩ | ⟨h3, a, z, rfl, -⟩⟩⟩ := h
  · obtain ⟨c, k, h0, h1, rfl⟩ := h
    exact ⟨hb, _, _, _, rfl, .inl ⟨c, k, h0, h1, rfl, rfl⟩⟩
  · exact ⟨hb, _, _, _, rfl, .inr ⟨p, q, E, h1, hq, h2, .inl ⟨n, h3, rfl, rfl⟩⟩⟩
  · exact ⟨hb, _, _, _, rfl, .inr ⟨p, q, E, h1, hq, h2, .inr ⟨h3, rfl, rfl⟩⟩⟩
end Go.Proofs.YtmlgajhhnojdjaaGreatDoor.FlwZ
