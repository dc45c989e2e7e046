/- What the project's flow answers on places: their slots, their halves. -/
import Derived.Test.YtmlgajhhnojdjaaGreatDoorSAM
import Derived.Test.YtmlgajhhnojdjaaGreatDoorSAD
import Derived.Test.YtmlgajhhnojdjaaGreatDoorSAG
import Derived.Deep.MidRow
import Derived.DeepKeys
import Derived.Laws.StructEq
import Derived.Maps.RangeWalk
namespace Go.Proofs.YtmlgajhhnojdjaaGreatDoor.FlwA
open Go Go.RowKit Go.Proofs.YtmlgajhhnojdjaaGreatDoor.Spec Go.Proofs.YtmlgajhhnojdjaaGreatDoor.Aux Go.Proofs.YtmlgajhhnojdjaaGreatDoor.PrjF Go.Proofs.YtmlgajhhnojdjaaGreatDoor.PrjG Go.Proofs.YtmlgajhhnojdjaaGreatDoor.PrjJ Go.Proofs.YtmlgajhhnojdjaaGreatDoor.PrjK Go.Proofs.YtmlgajhhnojdjaaGreatDoor.PrjL Go.Proofs.YtmlgajhhnojdjaaGreatDoor.PrjM Go.Proofs.YtmlgajhhnojdjaaGreatDoor.PrjN Go.Proofs.YtmlgajhhnojdjaaGreatDoor.PrjO Go.Proofs.YtmlgajhhnojdjaaGreatDoor.PrjP Go.Proofs.YtmlgajhhnojdjaaGreatDoor.PrjR

def slotQ (x : Nat × Nat) : Nat := if x.2 = 2 then 2 * x.1 + 1 else 2 * x.1
def QP.halvesQ (q : QP) (x : Nat × Nat) : List (Nat × Nat) := if x.2 = 0 ∧ q.tyOf x.1 = 2 then [(x.1, 1), (x.1, 2)] else [x]
theorem ret_i {a b : Int} (h : a = b) : Ending.returned (.int .i64 a) = .returned (.int .i64 b) := by rw [h]
set_option maxRecDepth 20000 in
theorem slot_any (x : Nat × Nat) (w : World) (hx : x.1 ≤ 4000) :
    Calls Tryz.prog 62 #[.agg #[.int .i64 (x.1 : Nat), .int .i64 (x.2 : Nat)]] w fun e w' => e = .returned (.int .i64 (slotQ x : Nat)) ∧ Below w.heap.size w w' := by
  have hbA : Below w.heap.size w (w.alloc (.cells #[.int .i64 (x.1 : Nat), .int .i64 (x.2 : Nat)] 119)) := (Below.refl _ _).alloc (Nat.le_refl _) _
  by_cases h : x.2 = 2
  · have hb : (((x.2 : Nat) : Int) == 2) = true := by rw [h]; rfl
    have hs : slotQ x = 2 * x.1 + 1 := by rw [slotQ, if_pos h]
    rw [hs]
    clear h
    go_enter Tryz.func62, Tryz.ntmps62
    go_wp2
    go_ret
    exact ⟨ret_i (by omega), hbA⟩
  · have hb : (((x.2 : Nat) : Int) == 2) = false := by rw [beq_eq_false_iff_ne]; omega
    have hs : slotQ x = 2 * x.1 := by rw [slotQ, if_neg h]
    rw [hs]
    clear h
    go_enter Tryz.func62, Tryz.ntmps62
    go_wp2
    go_ret
    exact ⟨ret_i (by omega), hbA⟩
/-- a row of places, laid anew -/
def PlacesAt (z : Nat) (w : World) (v : Value) (ps : List (Nat × Nat)) : Prop := w.ownsRow z 119 2 v ps.length (plCells ps)
theorem places_new (w : World) (ps : List (Nat × Nat)) (hps : ps.length ≤ 100) : PlacesAt w.heap.size (w.alloc (.cells (plCells ps).toArray 119)) (.slice (some ⟨w.heap.size, 0, none⟩) ps.length ps.length) ps := by
  have hl : (plCells ps).length = ps.length * 2 := flat_len plCell 2 (fun _ => rfl) ps
  refine ⟨hl, .inr ⟨w.heap.size, ps.length, (plCells ps).toArray, rfl, Nat.le_refl _, Array.getElem?_push_size, Nat.le_refl _, by unfold maxLen; omega, by simpa using hl, ?_⟩⟩
  rw [← hl]; simp
set_option maxRecDepth 20000 in
set_option maxHeartbeats 1000000 in
theorem halves_any (q : QP) (x : Nat × Nat) (v u : Value) (a : Nat) (w : World) (hp : w.heap[a]? = some (.cells #[v, u] 110 (0, 0))) (hv : LocAt w v q.locals) (hx : x.1 < q.locals.length) :
    Calls Tryz.prog 102 #[.pointer (some ⟨a, 0, none⟩), .agg #[.int .i64 (x.1 : Nat), .int .i64 (x.2 : Nat)]] w fun e w' => ∃ g c, e = .returned (.slice (some ⟨g, 0, none⟩) (QP.halvesQ q x).length c) ∧ PlacesAt w.heap.size w' (.slice (some ⟨g, 0, none⟩) (QP.halvesQ q x).length c) (QP.halvesQ q x) ∧ Below w.heap.size w w' := by
  obtain ⟨g, cap, rfl, hcap, hg, -, hc⟩ := locs_cell hv x.1 hx
  have hlt := lt_of_heap hp
  have hbA : Below w.heap.size w (w.alloc (.cells #[.int .i64 (x.1 : Nat), .int .i64 (x.2 : Nat)] 119)) := (Below.refl _ _).alloc (Nat.le_refl _) _
  have c0 : w.cell? ⟨a, 0, none⟩ = some (.slice (some ⟨g, 0, none⟩) q.locals.length cap) := by rw [cell_of_heap hp]; rfl
  have c0A : (w.alloc (.cells #[.int .i64 (x.1 : Nat), .int .i64 (x.2 : Nat)] 119)).cell? ⟨a, 0, none⟩ = some (.slice (some ⟨g, 0, none⟩) q.locals.length cap) := (hbA.cell (p := ⟨a, 0, none⟩) hlt).trans c0
  have c1A := (hbA.cell (p := ⟨g, x.1 * 2 + 1, none⟩) hg).trans hc
  have c2A : (w.alloc (.cells #[.int .i64 (x.1 : Nat), .int .i64 (x.2 : Nat)] 119)).cell? ⟨w.heap.size, 0, none⟩ = some (.int .i64 (x.1 : Nat)) := by simp
  have c3A : (w.alloc (.cells #[.int .i64 (x.1 : Nat), .int .i64 (x.2 : Nat)] 119)).cell? ⟨w.heap.size, 1, none⟩ = some (.int .i64 (x.2 : Nat)) := by simp
  have hxi : (x.1 : Int) < q.locals.length := by omega
  have hT : Hid ((q.locals.getD x.1 ([], 0)).2 = q.tyOf x.1) := rfl
  have hsz : ∀ n, ((w.alloc (.cells #[.int .i64 (x.1 : Nat), .int .i64 (x.2 : Nat)] 119)).drewN n).heap.size = w.heap.size + 1 := fun n => by simp
  have hd : ∀ n, Below w.heap.size w ((w.alloc (.cells #[.int .i64 (x.1 : Nat), .int .i64 (x.2 : Nat)] 119)).drewN n) := fun n => below_drewN hbA n
  generalize (q.locals.getD x.1 ([], 0)).2 = t at *
  by_cases h0 : x.2 = 0
  · have b0 : (((x.2 : Nat) : Int) == 0) = true := by rw [h0]; rfl
    by_cases ht : t = 2
    · have htb : (((t : Nat) : Int) == 2) = true := by rw [ht]; rfl
      have hh : QP.halvesQ q x = [(x.1, 1), (x.1, 2)] := by rw [QP.halvesQ, if_pos ⟨h0, by rw [← hT.out]; exact ht⟩]
      rw [hh]
      clear h0 ht
      go_enter Tryz.func102, Tryz.ntmps102
      go_wp2
      go_quiet (fail)
      go_wp2
      go_ret
      have hn := places_new ((w.alloc (.cells #[.int .i64 (x.1 : Nat), .int .i64 (x.2 : Nat)] 119)).drewN nq) [(x.1, 1), (x.1, 2)] (by simp)
      rw [hsz nq] at hn
      exact ⟨w.heap.size + 1, 2, rfl, own_mono hn (by omega), (hd nq).alloc (hd nq).size _⟩
    · have htb : (((t : Nat) : Int) == 2) = false := by rw [beq_eq_false_iff_ne]; omega
      have hh : QP.halvesQ q x = [x] := by rw [QP.halvesQ, if_neg (fun e => ht (by rw [hT.out]; exact e.2))]
      rw [hh]
      clear h0 ht
      go_enter Tryz.func102, Tryz.ntmps102
      go_wp2
      go_quiet (fail)
      go_wp2
      go_ret
      have hn := places_new ((w.alloc (.cells #[.int .i64 (x.1 : Nat), .int .i64 (x.2 : Nat)] 119)).drewN nq) [x] (by simp)
      rw [hsz nq] at hn
      exact ⟨w.heap.size + 1, 1, rfl, own_mono hn (by omega), (hd nq).alloc (hd nq).size _⟩
  · have b0 : (((x.2 : Nat) : Int) == 0) = false := by rw [beq_eq_false_iff_ne]; omega
    have hh : QP.halvesQ q x = [x] := by rw [QP.halvesQ, if_neg (fun e => h0 e.1)]
    rw [hh]
    clear h0
    go_enter Tryz.func102, Tryz.ntmps102
    go_wp2
    go_quiet (fail)
    go_wp2
    go_ret
    have hn := places_new ((w.alloc (.cells #[.int .i64 (x.1 : Nat), .int .i64 (x.2 : Nat)] 119)).drewN nq) [x] (by simp)
    rw [hsz nq] at hn
    exact ⟨w.heap.size + 1, 1, rfl, own_mono hn (by omega), (hd nq).alloc (hd nq).size _⟩
end Go.Proofs.YtmlgajhhnojdjaaGreatDoor.FlwA
/- What the lines of a program that was made have. -/
namespace Go.Proofs.YtmlgajhhnojdjaaGreatDoor.PrjS
open Go Go.RowKit Go.Proofs.YtmlgajhhnojdjaaGreatDoor.Spec Go.Proofs.YtmlgajhhnojdjaaGreatDoor.PrjF Go.Proofs.YtmlgajhhnojdjaaGreatDoor.PrjG Go.Proofs.YtmlgajhhnojdjaaGreatDoor.PrjH

def isPlc (c : UInt8) : Bool := !(c == 35) && !(c == 118) && !(c == 102) && !(c == 98)
structure LOk (nl nb : Nat) (l : QLine) : Prop where
  op : l.op < 23
  op2 : 2 ≤ l.op
  places : ∀ x ∈ l.places, x.1 < nl ∧ x.2 ≤ 3
  plen : l.places.length = ((wantsOf l.op).filter isPlc).length
  next : ∀ n ∈ l.next, n < nb
  nlen : l.next.length = ((wantsOf l.op).filter (· == 98)).length
  flag : 0 ≤ l.flag ∧ l.flag ≤ 1000000000
  number : -1000000000 ≤ l.number ∧ l.number ≤ 1000000000
theorem LOk.mono {nl nl' nb : Nat} {l : QLine} (h : LOk nl nb l) (hn : nl ≤ nl') : LOk nl' nb l :=
  ⟨h.op, h.op2, fun x hx => ⟨Nat.lt_of_lt_of_le (h.places x hx).1 hn, (h.places x hx).2⟩, h.plen, h.next, h.nlen, h.flag, h.number⟩
theorem part_le (w : B) : ((splitPl w).getD ([], 0)).2 ≤ 3 := by
  rw [splitPl]
  split
  · simp
  · repeat (first | (split; simp) | simp)
theorem number_le (w : B) : -1000000000 ≤ (numberP w).getD 0 ∧ (numberP w).getD 0 ≤ 1000000000 := by
  cases w with
  | nil => decide
  | cons c r =>
    rw [numberP]
    split
    · have := digitsD_le r
      cases hd : digitsP r with
      | none => simp
      | some n =>
        rw [hd] at this
        simp only [Option.getD_some] at this
        by_cases hn : n = 0
        · simp [hn]
        · simp [hn]; omega
    · have := digitsD_le (c :: r)
      constructor <;> omega
theorem find_lt {ls : List (B × Nat)} {n : B} (h : ¬ findQ ls n < 0) : (findQ ls n).toNat < ls.length := by
  have := findQGo_ge ls n 0
  change -1 ≤ findQ ls n ∧ findQ ls n < _ at this
  omega
theorem lineGo_ok (ls : List (B × Nat)) (nb : Nat) : ∀ (f : B) (ws : List B) (l0 l : QLine), lineGo ls nb f ws l0 = some l → (∀ x ∈ l0.places, x.1 < ls.length ∧ x.2 ≤ 3) → (∀ n ∈ l0.next, n < nb) → (0 ≤ l0.flag ∧ l0.flag ≤ 1000000000) → (-1000000000 ≤ l0.number ∧ l0.number ≤ 1000000000) →
    l.op = l0.op ∧ l.num = l0.num ∧ (∀ x ∈ l.places, x.1 < ls.length ∧ x.2 ≤ 3) ∧ (∀ n ∈ l.next, n < nb) ∧ l.places.length = l0.places.length + (f.filter isPlc).length ∧ l.next.length = l0.next.length + (f.filter (· == 98)).length ∧ (0 ≤ l.flag ∧ l.flag ≤ 1000000000) ∧ (-1000000000 ≤ l.number ∧ l.number ≤ 1000000000)
  | [], ws, l0, l, h, h1, h2, h3, h4 => by
    simp only [lineGo, Option.some.injEq] at h
    subst h
    exact ⟨rfl, rfl, h1, h2, rfl, rfl, h3, h4⟩
  | c :: f, ws, l0, l, h, h1, h2, h3, h4 => by
    rw [lineGo] at h
    by_cases c1 : c = 35 ∨ c = 118
    · rw [if_pos c1] at h
      have ih := lineGo_ok ls nb f (ws.drop 1) _ l h h1 h2 h3 (number_le _)
      have e1 : isPlc c = false := by rcases c1 with rfl | rfl <;> rfl
      have e2 : (c == 98) = false := by rcases c1 with rfl | rfl <;> rfl
      simpa [List.filter_cons, e1, e2] using ih
    · rw [if_neg c1] at h
      by_cases c2 : c = 102
      · rw [if_pos c2] at h
        have ih := lineGo_ok ls nb f (ws.drop 1) _ l h h1 h2 (digitsD_le _) h4
        subst c2
        have e1 : isPlc 102 = false := rfl
        simpa [List.filter_cons, e1] using ih
      · rw [if_neg c2] at h
        by_cases c3 : c = 98
        · rw [if_pos c3] at h
          split at h
          · cases h
          · rename_i hn
            have hd := digitsD_le (word ws 0)
            have ih := lineGo_ok ls nb f (ws.drop 1) _ l h h1 (fun n hn' => by
              simp only [List.mem_append, List.mem_singleton] at hn'
              rcases hn' with hn' | hn'
              · exact h2 n hn'
              · omega) h3 h4
            subst c3
            have e1 : isPlc 98 = false := rfl
            obtain ⟨i1, i2, i3, i4, i5, i6, i7, i8⟩ := ih
            refine ⟨i1, i2, i3, i4, by rw [i5]; simp [e1], by rw [i6]; simp; omega, i7, i8⟩
        · rw [if_neg c3] at h
          split at h
          · cases h
          · rename_i hn
            have ih := lineGo_ok ls nb f (ws.drop 1) _ l h (fun x hx => by
              simp only [List.mem_append, List.mem_singleton] at hx
              rcases hx with hx | rfl
              · exact h1 x hx
              · exact ⟨find_lt hn, part_le _⟩) h2 h3 h4
            simp only [not_or] at c1
            have e1 : isPlc c = true := by simp [isPlc, c1.1, c1.2, c2, c3]
            have e2 : (c == 98) = false := by simp [c3]
            obtain ⟨i1, i2, i3, i4, i5, i6, i7, i8⟩ := ih
            refine ⟨i1, i2, i3, i4, by rw [i5]; simp [e1]; omega, by rw [i6]; simp [e2], i7, i8⟩
theorem lineP_ok {ls : List (B × Nat)} {nb : Nat} {x : Nat × List B} {l : QLine} (h : lineP ls nb x = some l) (h1 : x.1 < 23) (h2 : 2 ≤ x.1) : LOk ls.length nb l := by
  rw [lineP] at h
  obtain ⟨i1, -, i3, i4, i5, i6, i7, i8⟩ := lineGo_ok ls nb _ _ _ _ h (by simp) (by simp) (by simp) (by simp)
  simp only at i1
  exact ⟨by rw [i1]; exact h1, by rw [i1]; exact h2, i3, by rw [i1, i5]; simp, i4, by rw [i1, i6]; simp, i7, i8⟩
structure QOk (nb : Nat) (q : QP) : Prop where
  types : ∀ x ∈ q.locals, x.2 ≤ 3
  lines : ∀ b ∈ q.blocks, ∀ l ∈ b, LOk q.locals.length nb l
theorem tyIdx_lt {w : B} {n : Nat} (h : tyIdx w = some n) : n < 4 := by
  have := (idxGo_ge _ _ _ _ h).2.1
  simpa [typeTab] using this
theorem ty_le (w : B) : (tyIdx w).getD 0 ≤ 3 := by
  cases h : tyIdx w with
  | none => simp
  | some k => have := tyIdx_lt h; simp; omega
theorem lookGo_ok (nb : Nat) : ∀ (S : List (Nat × List B)) (i : Nat) (q0 q : QP), lookGo nb S i q0 = (q, none) → (∀ x ∈ S, x.1 < 23) → QOk nb q0 → QOk nb q
  | [], i, q0, q, h, _, h0 => by
    simp only [lookGo, Prod.mk.injEq, and_true] at h
    subst h; exact h0
  | x :: r, i, q0, q, h, hx, h0 => by
    have hr : ∀ y ∈ r, y.1 < 23 := fun y hy => hx y (List.mem_cons_of_mem _ hy)
    have hx0 := hx x (List.mem_cons_self ..)
    rw [lookGo] at h
    by_cases e0 : x.1 = 0
    · rw [if_pos e0] at h
      split at h
      · cases h
      · refine lookGo_ok nb r (i + 1) _ q h hr ⟨fun y hy => ?_, fun b hb l hl => (h0.lines b hb l hl).mono (by simp [QP.addLocal])⟩
        simp only [QP.addLocal, List.mem_append, List.mem_singleton] at hy
        rcases hy with hy | rfl
        · exact h0.types y hy
        · exact ty_le _
    · rw [if_neg e0] at h
      by_cases e1 : x.1 = 1
      · rw [if_pos e1] at h
        refine lookGo_ok nb r (i + 1) _ q h hr ⟨h0.types, fun b hb l hl => ?_⟩
        simp only [QP.addBlock, List.mem_append, List.mem_singleton] at hb
        rcases hb with hb | rfl
        · exact h0.lines b hb l hl
        · cases hl
      · rw [if_neg e1] at h
        cases hl : lineP q0.locals nb x with
        | none => rw [hl] at h; cases h
        | some l =>
          rw [hl] at h
          have ok := lineP_ok hl hx0 (by omega)
          have ok' : LOk q0.locals.length nb { l with num := i } := ⟨ok.op, ok.op2, ok.places, ok.plen, ok.next, ok.nlen, ok.flag, ok.number⟩
          refine lookGo_ok nb r (i + 1) _ q h hr ⟨h0.types, fun b hb y hy => ?_⟩
          simp only [QP.addLine, List.mem_append, List.mem_singleton] at hb
          rcases hb with hb | rfl
          · exact h0.lines b (List.dropLast_subset _ hb) y hy
          · simp only [List.mem_append, List.mem_singleton] at hy
            rcases hy with hy | rfl
            · rw [List.getLastD_eq_getLast?] at hy
              cases hq : q0.blocks.getLast? with
              | none => rw [hq] at hy; simp at hy
              | some b' =>
                rw [hq] at hy
                exact h0.lines b' (List.mem_of_getLast? hq) y hy
            · exact ok'
end Go.Proofs.YtmlgajhhnojdjaaGreatDoor.PrjS
/- What the project's reader answers on whether a line's places are of the types that must be. -/
namespace Go.Proofs.YtmlgajhhnojdjaaGreatDoor.PrjT
open Go Go.RowKit Go.Proofs.YtmlgajhhnojdjaaGreatDoor.Spec Go.Proofs.YtmlgajhhnojdjaaGreatDoor.Aux Go.Proofs.YtmlgajhhnojdjaaGreatDoor.PrjF Go.Proofs.YtmlgajhhnojdjaaGreatDoor.PrjG Go.Proofs.YtmlgajhhnojdjaaGreatDoor.PrjH Go.Proofs.YtmlgajhhnojdjaaGreatDoor.PrjI Go.Proofs.YtmlgajhhnojdjaaGreatDoor.PrjJ Go.Proofs.YtmlgajhhnojdjaaGreatDoor.PrjK Go.Proofs.YtmlgajhhnojdjaaGreatDoor.PrjL Go.Proofs.YtmlgajhhnojdjaaGreatDoor.PrjM Go.Proofs.YtmlgajhhnojdjaaGreatDoor.PrjN Go.Proofs.YtmlgajhhnojdjaaGreatDoor.PrjO Go.Proofs.YtmlgajhhnojdjaaGreatDoor.PrjP Go.Proofs.YtmlgajhhnojdjaaGreatDoor.PrjR Go.Proofs.YtmlgajhhnojdjaaGreatDoor.PrjS

/-- places in memory, one by one -/
theorem places_cells {z : Nat} {w : World} {ad : Option Addr} {n c : Nat} {ps : List (Nat × Nat)} (h : w.ownsRow z 119 2 (.slice ad n c) ps.length (plCells ps)) (j : Nat) (hj : j < ps.length) :
    ∃ g, ad = some ⟨g, 0, none⟩ ∧ n = ps.length ∧ ps.length ≤ c ∧ g < w.heap.size ∧ w.cell? ⟨g, j * 2, none⟩ = some (.int .i64 ((ps.getD j (0, 0)).1 : Nat)) ∧ w.cell? ⟨g, j * 2 + 1, none⟩ = some (.int .i64 ((ps.getD j (0, 0)).2 : Nat)) := by
  obtain ⟨g, cap, hv, hc, hg, hcell⟩ := own_cell h (by omega)
  simp only [Value.slice.injEq] at hv
  obtain ⟨rfl, rfl, rfl⟩ := hv
  have key : ∀ i, i < 2 → w.cell? ⟨g, j * 2 + i, none⟩ = (plCell (ps.getD j (0, 0)))[i]? := fun i hi => by
    rw [hcell _ (by omega), plCells, flat_get plCell 2 (fun _ => rfl) ps j i hi]
    simp [hj]
  exact ⟨g, rfl, rfl, hc, hg, key 0 (by decide), key 1 (by decide)⟩
theorem fitsGo_drop (q : QP) (f : B) (ps : List (Nat × Nat)) (k : Nat) (hk : k < ps.length) : q.fitsGo f (ps.drop k) k = (q.okPlace (ps.getD k (0, 0)) (f.getD k 0) && q.fitsGo f (ps.drop (k + 1)) (k + 1)) := by
  rw [List.drop_eq_getElem_cons hk, QP.fitsGo]
  simp [hk]
theorem kind_some {q : QP} {x : Nat × Nat} {t : Nat} (h : q.kind x = some t) : q.kindV x = t := by
  rw [QP.kind] at h
  rw [QP.kindV]
  by_cases h12 : x.2 = 1 ∨ x.2 = 2
  · rw [if_pos h12] at h
    rw [if_pos (by omega)]
    split at h <;> simp_all
  · rw [if_neg h12] at h
    by_cases h3 : x.2 = 3
    · rw [if_pos h3] at h
      rw [if_pos (by omega)]
      split at h <;> simp_all
    · rw [if_neg h3] at h
      rw [if_neg (by omega)]
      simpa using h
theorem ret_b {a b : Bool} (h : a = b) : Ending.returned (.bool a) = .returned (.bool b) := by rw [h]
theorem filter_le {f : B} : (f.filter isPlc).length ≤ f.length := List.length_filter_le ..
set_option maxRecDepth 20000 in
set_option maxHeartbeats 1000000 in
theorem fits_any (q : QP) (l : QLine) (nb z a : Nat) (v u : Value) (ap an : Option Addr) (cp cn : Nat) (w : World) (hp : w.heap[a]? = some (.cells #[v, u] 110 (0, 0))) (hv : LocAt w v q.locals) (hls : q.locals.length ≤ 4000) (hl : LOk q.locals.length nb l)
    (hA : LineAt z w l (.slice ap l.places.length cp) (.slice an l.next.length cn)) (E : Env w) :
    Calls Tryz.prog 171 #[.pointer (some ⟨a, 0, none⟩), .agg #[.int .i64 (l.num : Nat), .int .i64 (l.op : Nat), .slice ap l.places.length cp, .int .i64 l.number, .int .i64 l.flag, .slice an l.next.length cn]] w fun e w' => e = .returned (.bool (q.fits l)) ∧ Below w.heap.size w w' := by
  have hbA : Below w.heap.size w (w.alloc (.cells #[.int .i64 (l.num : Nat), .int .i64 (l.op : Nat), .slice ap l.places.length cp, .int .i64 l.number, .int .i64 l.flag, .slice an l.next.length cn] 115)) := (Below.refl _ _).alloc (Nat.le_refl _) _
  have hblk : (w.alloc (.cells #[.int .i64 (l.num : Nat), .int .i64 (l.op : Nat), .slice ap l.places.length cp, .int .i64 l.number, .int .i64 l.flag, .slice an l.next.length cn] 115)).heap[w.heap.size]? = some (.cells #[.int .i64 (l.num : Nat), .int .i64 (l.op : Nat), .slice ap l.places.length cp, .int .i64 l.number, .int .i64 l.flag, .slice an l.next.length cn] 115 (0, 0)) := Array.getElem?_push_size
  have hsh := shape_cell (E.on hbA) l.op hl.op
  have hlt := lt_of_heap hp
  have hwl := wants_len l.op hl.op
  have hpl : l.places.length ≤ (wantsOf l.op).length := by rw [hl.plen]; exact filter_le
  have hplaces := hl.places
  have hpm : l.op = 12 → l.places.length = 2 := fun e => by rw [hl.plen, e]; rfl
  have HF : Hid (q.fitsGo (wantsOf l.op) l.places 0 = q.fitsGo (wantsOf l.op) (l.places.drop 0) 0) := rfl
  have KK := fun (x : Nat × Nat) (hx : x.1 < q.locals.length) (w' : World) (hb : Below w.heap.size w w') => kind_any q x v u a w' (by rw [hb.block a hlt]; exact hp) (hv.below hb) hls hx
  have KS := fun (x y : Nat × Nat) (hx : x.1 < q.locals.length) (hy : y.1 < q.locals.length) (w' : World) (hb : Below w.heap.size w w') => sameKind_any q x y v u a w' (by rw [hb.block a hlt]; exact hp) (hv.below hb) hls hx hy
  have hq : q.fits l = (q.fitsGo (wantsOf l.op) l.places 0 && (!(l.op == 12) || q.kindV (l.places.getD 0 (0, 0)) == q.kindV (l.places.getD 1 (0, 0)))) := rfl
  have HQ : Hid (_ = _) := hq
  have hop := hl.op
  clear hq hl
  have hbA2 := hbA
  generalize hwA : (w.alloc (.cells #[.int .i64 (l.num : Nat), .int .i64 (l.op : Nat), .slice ap l.places.length cp, .int .i64 l.number, .int .i64 l.flag, .slice an l.next.length cn] 115)) = wA at hbA2 hblk hsh
  go_enter Tryz.func171, Tryz.ntmps171
  subst hwA
  go_wp2
  go_loopw [18] (fun i wr => ∃ k : Nat, k ≤ l.places.length ∧ i = .int .i64 k ∧ Below (w.heap.size + 1) (w.alloc (.cells #[.int .i64 (l.num : Nat), .int .i64 (l.op : Nat), .slice ap l.places.length cp, .int .i64 l.number, .int .i64 l.flag, .slice an l.next.length cn] 115)) wr ∧ Hid (q.fitsGo (wantsOf l.op) l.places 0 = q.fitsGo (wantsOf l.op) (l.places.drop k) k)) (fun i _ => l.places.length - (intOf i).toNat)
  case atStart => exact ⟨0, Nat.zero_le _, rfl, Below.refl _ _, HF⟩
  case round =>
    obtain ⟨k, hk, rfl, hBr, HI⟩ := hrel
    have hB : Below w.heap.size w wr := hbA.trans (hBr.mono (by omega))
    have hlr : wr.heap[w.heap.size]? = _ := (hBr.block w.heap.size (by omega)).trans hblk
    by_cases hlt' : k < l.places.length
    · obtain ⟨gp, rfl, -, hcp, hgp, c1, c2⟩ := places_cells (own_below hA.places hB) k hlt'
      have hx := (hplaces (l.places.getD k (0, 0)) (by simp [hlt'])).1
      have hkw : k < (wantsOf l.op).length := by omega
      have HS : Hid (_ = _) := HI.out.trans (fitsGo_drop q (wantsOf l.op) l.places k hlt')
      have hc : Hid ((wantsOf l.op).getD k 0 = (wantsOf l.op)[k]) := by unfold Hid; simp [hkw]
      generalize l.places.getD k (0, 0) = x at *
      have hbx : Below wr.heap.size wr (wr.alloc (.cells #[.int .i64 (x.1 : Nat), .int .i64 (x.2 : Nat)] 119)) := (Below.refl _ _).alloc (Nat.le_refl _) _
      have KX := KK x hx _ (hB.trans (hbx.mono hB.size))
      have KI := fun w' => isKind_any (q.kindV x) ((wantsOf l.op)[k]) w'
      have hbn : ∀ w1, Below (wr.alloc (.cells #[.int .i64 (x.1 : Nat), .int .i64 (x.2 : Nat)] 119)).heap.size (wr.alloc (.cells #[.int .i64 (x.1 : Nat), .int .i64 (x.2 : Nat)] 119)) w1 → Below (w.heap.size + 1) (w.alloc (.cells #[.int .i64 (l.num : Nat), .int .i64 (l.op : Nat), .slice (some ⟨gp, 0, none⟩) l.places.length cp, .int .i64 l.number, .int .i64 l.flag, .slice an l.next.length cn] 115)) w1 := fun w1 hb1 => by
        have h0 : w.heap.size + 1 ≤ wr.heap.size := by have := hBr.size; simpa using this
        exact (hBr.trans (hbx.mono h0)).trans (hb1.mono (Nat.le_trans h0 hbx.size))
      cases hkd : q.kind x with
      | none =>
        have hfal : q.fits l = false := by rw [HQ.out, HS.out, QP.okPlace, hkd]; rfl
        rw [hkd] at KX
        clear hkd
        go_wp2_with (go_at_call 207; refine KX.mono ?_; rintro e w1 ⟨rfl, hb1⟩)
        go_ret
        exact ⟨ret_b hfal.symm, (hbA.trans ((hbn _ hb1).mono (by omega)))⟩
      | some t =>
        have hkv := kind_some hkd
        rw [hkd] at KX
        rw [hkv] at KX KI
        cases hik : isKindP t ((wantsOf l.op)[k]) with
        | false =>
          have hfal : q.fits l = false := by rw [HQ.out, HS.out, QP.okPlace, hkd, hc.out]; simp only; rw [hik]; rfl
          rw [hik] at KI
          clear hkd hik hkv
          go_wp2_with (first | (go_at_call 207; refine KX.mono ?_; rintro e w1 ⟨rfl, hb1⟩) | (go_at_call 208; refine (KI _).mono ?_; rintro e w2 ⟨rfl, rfl⟩))
          go_ret
          exact ⟨ret_b hfal.symm, (hbA.trans ((hbn _ hb1).mono (by omega)))⟩
        | true =>
          have HI2 : Hid (q.fitsGo (wantsOf l.op) l.places 0 = q.fitsGo (wantsOf l.op) (l.places.drop (k + 1)) (k + 1)) := by
            unfold Hid
            rw [HS.out, QP.okPlace, hkd, hc.out]; simp only; rw [hik]; rfl
          rw [hik] at KI
          clear hkd hik hkv
          go_wp2_with (first | (go_at_call 207; refine KX.mono ?_; rintro e w1 ⟨rfl, hb1⟩) | (go_at_call 208; refine (KI _).mono ?_; rintro e w2 ⟨rfl, rfl⟩))
          go_roundw
          case rel => exact ⟨k + 1, by omega, by go_num, hbn _ hb1, HI2⟩
          case measure => simp [intOf]; omega
    · have hdone : Hid (q.fits l = (!(l.op == 12) || q.kindV (l.places.getD 0 (0, 0)) == q.kindV (l.places.getD 1 (0, 0)))) := by
        unfold Hid
        rw [HQ.out, HI.out, List.drop_eq_nil_of_le (by omega)]; rfl
      have r1 : wr.cell? ⟨w.heap.size, 1, none⟩ = some (.int .i64 (l.op : Nat)) := by rw [cell_of_heap hlr]; rfl
      have r2 : wr.cell? ⟨w.heap.size, 2, none⟩ = some (.slice ap l.places.length cp) := by rw [cell_of_heap hlr]; rfl
      by_cases h12 : l.op = 12
      · have h2 := hpm h12
        obtain ⟨gp, rfl, -, hcp, hgp, c1, c2⟩ := places_cells (own_below hA.places hB) 0 (by omega)
        obtain ⟨gp', e, -, -, -, c3, c4⟩ := places_cells (own_below hA.places hB) 1 (by omega)
        simp only [Option.some.injEq, Addr.mk.injEq, and_true] at e
        subst e
        have hx0 := (hplaces (l.places.getD 0 (0, 0)) (by simp [h2])).1
        have hx1 := (hplaces (l.places.getD 1 (0, 0)) (by simp [h2])).1
        have KX := fun w' hb => KS _ _ hx0 hx1 w' hb
        have hfin : q.fits l = (q.kindV (l.places.getD 0 (0, 0)) == q.kindV (l.places.getD 1 (0, 0))) := by rw [hdone.out, h12]; rfl
        have hopb : (((l.op : Nat) : Int) != 12) = false := by rw [h12]; rfl
        have d1 : wr.cell? ⟨gp, 0, none⟩ = some (.int .i64 ((l.places.getD 0 (0, 0)).1 : Nat)) := c1
        have d2 : wr.cell? ⟨gp, 1, none⟩ = some (.int .i64 ((l.places.getD 0 (0, 0)).2 : Nat)) := c2
        have d3 : wr.cell? ⟨gp, 2, none⟩ = some (.int .i64 ((l.places.getD 1 (0, 0)).1 : Nat)) := c3
        have d4 : wr.cell? ⟨gp, 3, none⟩ = some (.int .i64 ((l.places.getD 1 (0, 0)).2 : Nat)) := c4
        clear c1 c2 c3 c4 hdone HQ HI HF
        have HFI : Hid (_ = _) := hfin
        clear hfin
        generalize l.places.getD 0 (0, 0) = x at *
        generalize l.places.getD 1 (0, 0) = y at *
        generalize (q.kindV x == q.kindV y) = bb at *
        rw [h2] at r2
        have KXd := KX wr.drew ⟨hB.os, hB.tape, hB.output, hB.size, hB.block⟩
        go_wp2
        go_region_with (go_at_call 209; refine KXd.mono ?_; rintro e w1 ⟨rfl, hb1⟩)
        all_goals (try go_wp2)
        all_goals
          go_ret
          exact ⟨ret_b HFI.out.symm, hB.trans ((show Below wr.heap.size wr w1 from ⟨hb1.os, hb1.tape, hb1.output, hb1.size, hb1.block⟩).mono hB.size)⟩
      · have hopb : (((l.op : Nat) : Int) != 12) = true := by simp; omega
        have hfin : q.fits l = true := by rw [hdone.out]; simp [h12]
        have HFI : Hid (_ = _) := hfin
        clear hdone HQ HI HF hfin
        go_wp2
        go_quiet (fail)
        go_wp2
        go_ret
        exact ⟨ret_b HFI.out.symm, below_drewN hB _⟩
end Go.Proofs.YtmlgajhhnojdjaaGreatDoor.PrjT
/- What the project's flow makes of a state: places put and taken. -/
namespace Go.Proofs.YtmlgajhhnojdjaaGreatDoor.FlwB
theorem hereFlwB : True := trivial
end Go.Proofs.YtmlgajhhnojdjaaGreatDoor.FlwB
/- What the project's flow answers on whether places lack what must be there. -/
namespace Go.Proofs.YtmlgajhhnojdjaaGreatDoor.FlwC
theorem hereFlwC : True := trivial
end Go.Proofs.YtmlgajhhnojdjaaGreatDoor.FlwC
/- What the project's flow answers on places that are shut or stuck, and on how a thing is behind its being moved. -/
namespace Go.Proofs.YtmlgajhhnojdjaaGreatDoor.FlwD
theorem hereFlwD : True := trivial
end Go.Proofs.YtmlgajhhnojdjaaGreatDoor.FlwD
/- What a line takes of a state, and what it makes of one. -/
namespace Go.Proofs.YtmlgajhhnojdjaaGreatDoor.FlwE
open Go Go.RowKit Go.Proofs.YtmlgajhhnojdjaaGreatDoor.Spec Go.Proofs.YtmlgajhhnojdjaaGreatDoor.Aux Go.Proofs.YtmlgajhhnojdjaaGreatDoor.PrjF Go.Proofs.YtmlgajhhnojdjaaGreatDoor.PrjG Go.Proofs.YtmlgajhhnojdjaaGreatDoor.PrjJ Go.Proofs.YtmlgajhhnojdjaaGreatDoor.PrjK Go.Proofs.YtmlgajhhnojdjaaGreatDoor.PrjL Go.Proofs.YtmlgajhhnojdjaaGreatDoor.PrjM Go.Proofs.YtmlgajhhnojdjaaGreatDoor.PrjN Go.Proofs.YtmlgajhhnojdjaaGreatDoor.PrjO Go.Proofs.YtmlgajhhnojdjaaGreatDoor.PrjP Go.Proofs.YtmlgajhhnojdjaaGreatDoor.PrjR Go.Proofs.YtmlgajhhnojdjaaGreatDoor.PrjS Go.Proofs.YtmlgajhhnojdjaaGreatDoor.PrjT Go.Proofs.YtmlgajhhnojdjaaGreatDoor.FlwA Go.Proofs.YtmlgajhhnojdjaaGreatDoor.FlwB Go.Proofs.YtmlgajhhnojdjaaGreatDoor.FlwC Go.Proofs.YtmlgajhhnojdjaaGreatDoor.FlwD

/-- a program as far as the flow of one line asks: its locals -/
structure PQ (w : World) (a : Nat) (q : QP) (v u : Value) : Prop where
  blk : w.heap[a]? = some (.cells #[v, u] 110 (0, 0))
  loc : LocAt w v q.locals
section
variable {w w' : World} {a b : Nat} {q : QP} {v u : Value} {s : List Nat}
theorem PQ.below (h : PQ w a q v u) (hb : Below w.heap.size w w') : PQ w' a q v u := ⟨by rw [hb.block a (lt_of_heap h.blk)]; exact h.blk, h.loc.below hb⟩
end
theorem place_at {z : Nat} {w : World} {ap : Option Addr} {cp : Nat} {l : QLine} {vn : Value} (h : LineAt z w l (.slice ap l.places.length cp) vn) {n : Nat} (hn : l.places.length = n) (j : Nat) (hj : j < n) :
    ∃ g, ap = some ⟨g, 0, none⟩ ∧ n ≤ cp ∧ g < w.heap.size ∧ w.cell? ⟨g, j * 2, none⟩ = some (.int .i64 ((l.places.getD j (0, 0)).1 : Nat)) ∧ w.cell? ⟨g, j * 2 + 1, none⟩ = some (.int .i64 ((l.places.getD j (0, 0)).2 : Nat)) := by
  obtain ⟨g, e, -, hc, hg, c1, c2⟩ := places_cells h.places j (by omega)
  exact ⟨g, e, by omega, hg, c1, c2⟩
end Go.Proofs.YtmlgajhhnojdjaaGreatDoor.FlwE
/- States read and written whole, as rules for a walk: what is asked of the world stands behind a name. -/
namespace Go.Proofs.YtmlgajhhnojdjaaGreatDoor.FlwF
theorem hereFlwF : True := trivial
end Go.Proofs.YtmlgajhhnojdjaaGreatDoor.FlwF
/- What a line makes of a state: Pass. -/
namespace Go.Proofs.YtmlgajhhnojdjaaGreatDoor.FlwG
theorem hereFlwG : True := trivial
end Go.Proofs.YtmlgajhhnojdjaaGreatDoor.FlwG
/- Whether a line needs what may not be there. -/
namespace Go.Proofs.YtmlgajhhnojdjaaGreatDoor.FlwH
open Go Go.RowKit Go.Proofs.YtmlgajhhnojdjaaGreatDoor.Spec Go.Proofs.YtmlgajhhnojdjaaGreatDoor.Aux Go.Proofs.YtmlgajhhnojdjaaGreatDoor.PrjF Go.Proofs.YtmlgajhhnojdjaaGreatDoor.PrjG Go.Proofs.YtmlgajhhnojdjaaGreatDoor.PrjJ Go.Proofs.YtmlgajhhnojdjaaGreatDoor.PrjK Go.Proofs.YtmlgajhhnojdjaaGreatDoor.PrjL Go.Proofs.YtmlgajhhnojdjaaGreatDoor.PrjM Go.Proofs.YtmlgajhhnojdjaaGreatDoor.PrjN Go.Proofs.YtmlgajhhnojdjaaGreatDoor.PrjO Go.Proofs.YtmlgajhhnojdjaaGreatDoor.PrjP Go.Proofs.YtmlgajhhnojdjaaGreatDoor.PrjR Go.Proofs.YtmlgajhhnojdjaaGreatDoor.PrjS Go.Proofs.YtmlgajhhnojdjaaGreatDoor.PrjT Go.Proofs.YtmlgajhhnojdjaaGreatDoor.FlwA Go.Proofs.YtmlgajhhnojdjaaGreatDoor.FlwB Go.Proofs.YtmlgajhhnojdjaaGreatDoor.FlwC Go.Proofs.YtmlgajhhnojdjaaGreatDoor.FlwD Go.Proofs.YtmlgajhhnojdjaaGreatDoor.FlwE Go.Proofs.YtmlgajhhnojdjaaGreatDoor.FlwF Go.Proofs.YtmlgajhhnojdjaaGreatDoor.FlwG

def QLine.at (l : QLine) (j : Nat) : Nat × Nat := l.places.getD j (0, 0)
section
variable {w : World} {b : Nat} {s : List Nat}
end
end Go.Proofs.YtmlgajhhnojdjaaGreatDoor.FlwH
/- States held against one another; where ways begin; whether a state was come to. -/
namespace Go.Proofs.YtmlgajhhnojdjaaGreatDoor.FlwI
theorem hereFlwI : True := trivial
end Go.Proofs.YtmlgajhhnojdjaaGreatDoor.FlwI
/- What is known of all ways, in memory: the states ahead of the blocks, and the blocks that are open. -/
namespace Go.Proofs.YtmlgajhhnojdjaaGreatDoor.FlwJ
theorem hereFlwJ : True := trivial
end Go.Proofs.YtmlgajhhnojdjaaGreatDoor.FlwJ
/- A way joined into a block: lead. -/
namespace Go.Proofs.YtmlgajhhnojdjaaGreatDoor.FlwK
theorem hereFlwK : True := trivial
end Go.Proofs.YtmlgajhhnojdjaaGreatDoor.FlwK
/- The least open block is taken. -/
namespace Go.Proofs.YtmlgajhhnojdjaaGreatDoor.FlwL
theorem hereFlwL : True := trivial
end Go.Proofs.YtmlgajhhnojdjaaGreatDoor.FlwL
