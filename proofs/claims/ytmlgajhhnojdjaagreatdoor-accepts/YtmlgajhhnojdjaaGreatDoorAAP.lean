/- What the lines of a program that was made have. -/
import Derived.Test.YtmlgajhhnojdjaaGreatDoorAAD
import Derived.Test.YtmlgajhhnojdjaaGreatDoorAAH
import Derived.Test.YtmlgajhhnojdjaaGreatDoorAAO
namespace Go.Proofs.YtmlgajhhnojdjaaGreatDoor.PrjS
open Go Go.RowKit Go.Proofs.YtmlgajhhnojdjaaGreatDoor.Spec Go.Proofs.YtmlgajhhnojdjaaGreatDoor.PrjF Go.Proofs.YtmlgajhhnojdjaaGreatDoor.PrjG Go.Proofs.YtmlgajhhnojdjaaGreatDoor.PrjH

def isPlc (c : UInt8) : Bool := !(c == 35) && !(c == 118) && !(c == 102) && !(c == 98)
structure LOk (nl nb : Nat) (l : QLine) : Prop where
  op : l.op < 23
  op2 : 2 ≤ l.op
  places : ∀ x ∈ l.places, x.1 < nl ∧ x.2 ≤ 3
  plen : l.places.length = ((wantsOf l.op).filter isPlc).length
  next : ∀ n ∈ l.next, n < nb
  nlen : l.next.length = ((wantsOf l.op).filter (· == 98)).length
  flag : 0 ≤ l.flag ∧ l.flag ≤ 1000000000
  number : -1000000000 ≤ l.number ∧ l.number ≤ 1000000000
theorem LOk.mono {nl nl' nb : Nat} {l : QLine} (h : LOk nl nb l) (hn : nl ≤ nl') : LOk nl' nb l :=
  ⟨h.op, h.op2, fun x hx => ⟨Nat.lt_of_lt_of_le (h.places x hx).1 hn, (h.places x hx).2⟩, h.plen, h.next, h.nlen, h.flag, h.number⟩
theorem part_le (w : B) : ((splitPl w).getD ([], 0)).2 ≤ 3 := by
  rw [splitPl]
  split
  · simp
  · repeat (first | (split; simp) | simp)
theorem number_le (w : B) : -1000000000 ≤ (numberP w).getD 0 ∧ (numberP w).getD 0 ≤ 1000000000 := by
  cases w with
  | nil => decide
  | cons c r =>
    rw [numberP]
    split
    · have := digitsD_le r
      cases hd : digitsP r with
      | none => simp
      | some n =>
        rw [hd] at this
        simp only [Option.getD_some] at this
        by_cases hn : n = 0
        · simp [hn]
        · simp [hn]; omega
    · have := digitsD_le (c :: r)
      constructor <;> omega
theorem find_lt {ls : List (B × Nat)} {n : B} (h : ¬ findQ ls n < 0) : (findQ ls n).toNat < ls.length := by
  have := findQGo_ge ls n 0
  change -1 ≤ findQ ls n ∧ findQ ls n < _ at this
  omega
theorem lineGo_ok (ls : List (B × Nat)) (nb : Nat) : ∀ (f : B) (ws : List B) (l0 l : QLine), lineGo ls nb f ws l0 = some l → (∀ x ∈ l0.places, x.1 < ls.length ∧ x.2 ≤ 3) → (∀ n ∈ l0.next, n < nb) → (0 ≤ l0.flag ∧ l0.flag ≤ 1000000000) → (-1000000000 ≤ l0.number ∧ l0.number ≤ 1000000000) →
    l.op = l0.op ∧ l.num = l0.num ∧ (∀ x ∈ l.places, x.1 < ls.length ∧ x.2 ≤ 3) ∧ (∀ n ∈ l.next, n < nb) ∧ l.places.length = l0.places.length + (f.filter isPlc).length ∧ l.next.length = l0.next.length + (f.filter (· == 98)).length ∧ (0 ≤ l.flag ∧ l.flag ≤ 1000000000) ∧ (-1000000000 ≤ l.number ∧ l.number ≤ 1000000000)
  | [], ws, l0, l, h, h1, h2, h3, h4 => by
    simp only [lineGo, Option.some.injEq] at h
    subst h
    exact ⟨rfl, rfl, h1, h2, rfl, rfl, h3, h4⟩
  | c :: f, ws, l0, l, h, h1, h2, h3, h4 => by
    rw [lineGo] at h
    by_cases c1 : c = 35 ∨ c = 118
    · rw [if_pos c1] at h
      have ih := lineGo_ok ls nb f (ws.drop 1) _ l h h1 h2 h3 (number_le _)
      have e1 : isPlc c = false := by rcases c1 with rfl | rfl <;> rfl
      have e2 : (c == 98) = false := by rcases c1 with rfl | rfl <;> rfl
      simpa [List.filter_cons, e1, e2] using ih
    · rw [if_neg c1] at h
      by_cases c2 : c = 102
      · rw [if_pos c2] at h
        have ih := lineGo_ok ls nb f (ws.drop 1) _ l h h1 h2 (digitsD_le _) h4
        subst c2
        have e1 : isPlc 102 = false := rfl
        simpa [List.filter_cons, e1] using ih
      · rw [if_neg c2] at h
        by_cases c3 : c = 98
        · rw [if_pos c3] at h
          split at h
          · cases h
          · rename_i hn
            have hd := digitsD_le (word ws 0)
            have ih := lineGo_ok ls nb f (ws.drop 1) _ l h h1 (fun n hn' => by
              simp only [List.mem_append, List.mem_singleton] at hn'
              rcases hn' with hn' | hn'
              · exact h2 n hn'
              · omega) h3 h4
            subst c3
            have e1 : isPlc 98 = false := rfl
            obtain ⟨i1, i2, i3, i4, i5, i6, i7, i8⟩ := ih
            refine ⟨i1, i2, i3, i4, by rw [i5]; simp [e1], by rw [i6]; simp; omega, i7, i8⟩
        · rw [if_neg c3] at h
          split at h
          · cases h
          · rename_i hn
            have ih := lineGo_ok ls nb f (ws.drop 1) _ l h (fun x hx => by
              simp only [List.mem_append, List.mem_singleton] at hx
              rcases hx with hx | rfl
              · exact h1 x hx
              · exact ⟨find_lt hn, part_le _⟩) h2 h3 h4
            simp only [not_or] at c1
            have e1 : isPlc c = true := by simp [isPlc, c1.1, c1.2, c2, c3]
            have e2 : (c == 98) = false := by simp [c3]
            obtain ⟨i1, i2, i3, i4, i5, i6, i7, i8⟩ := ih
            refine ⟨i1, i2, i3, i4, by rw [i5]; simp [e1]; omega, by rw [i6]; simp [e2], i7, i8⟩
theorem lineP_ok {ls : List (B × Nat)} {nb : Nat} {x : Nat × List B} {l : QLine} (h : lineP ls nb x = some l) (h1 : x.1 < 23) (h2 : 2 ≤ x.1) : LOk ls.length nb l := by
  rw [lineP] at h
  obtain ⟨i1, -, i3, i4, i5, i6, i7, i8⟩ := lineGo_ok ls nb _ _ _ _ h (by simp) (by simp) (by simp) (by simp)
  simp only at i1
  exact ⟨by rw [i1]; exact h1, by rw [i1]; exact h2, i3, by rw [i1, i5]; simp, i4, by rw [i1, i6]; simp, i7, i8⟩
structure QOk (nb : Nat) (q : QP) : Prop where
  types : ∀ x ∈ q.locals, x.2 ≤ 3
  lines : ∀ b ∈ q.blocks, ∀ l ∈ b, LOk q.locals.length nb l
theorem tyIdx_lt {w : B} {n : Nat} (h : tyIdx w = some n) : n < 4 := by
  have := (idxGo_ge _ _ _ _ h).2.1
  simpa [typeTab] using this
theorem ty_le (w : B) : (tyIdx w).getD 0 ≤ 3 := by
  cases h : tyIdx w with
  | none => simp
  | some k => have := tyIdx_lt h; simp; omega
theorem lookGo_ok (nb : Nat) : ∀ (S : List (Nat × List B)) (i : Nat) (q0 q : QP), lookGo nb S i q0 = (q, none) → (∀ x ∈ S, x.1 < 23) → QOk nb q0 → QOk nb q
  | [], i, q0, q, h, _, h0 => by
    simp only [lookGo, Prod.mk.injEq, and_true] at h
    subst h; exact h0
  | x :: r, i, q0, q, h, hx, h0 => by
    have hr : ∀ y ∈ r, y.1 < 23 := fun y hy => hx y (List.mem_cons_of_mem _ hy)
    have hx0 := hx x (List.mem_cons_self ..)
    rw [lookGo] at h
    by_cases e0 : x.1 = 0
    · rw [if_pos e0] at h
      split at h
      · cases h
      · refine lookGo_ok nb r (i + 1) _ q h hr ⟨fun y hy => ?_, fun b hb l hl => (h0.lines b hb l hl).mono (by simp [QP.addLocal])⟩
        simp only [QP.addLocal, List.mem_append, List.mem_singleton] at hy
        rcases hy with hy | rfl
        · exact h0.types y hy
        · exact ty_le _
    · rw [if_neg e0] at h
      by_cases e1 : x.1 = 1
      · rw [if_pos e1] at h
        refine lookGo_ok nb r (i + 1) _ q h hr ⟨h0.types, fun b hb l hl => ?_⟩
        simp only [QP.addBlock, List.mem_append, List.mem_singleton] at hb
        rcases hb with hb | rfl
        · exact h0.lines b hb l hl
        · cases hl
      · rw [if_neg e1] at h
        cases hl : lineP q0.locals nb x with
        | none => rw [hl] at h; cases h
        | some l =>
          rw [hl] at h
          have ok := lineP_ok hl hx0 (by omega)
          have ok' : LOk q0.locals.length nb { l with num := i } := ⟨ok.op, ok.op2, ok.places, ok.plen, ok.next, ok.nlen, ok.flag, ok.number⟩
          refine lookGo_ok nb r (i + 1) _ q h hr ⟨h0.types, fun b hb y hy => ?_⟩
          simp only [QP.addLine, List.mem_append, List.mem_singleton] at hb
          rcases hb with hb | rfl
          · exact h0.lines b (List.dropLast_subset _ hb) y hy
          · simp only [List.mem_append, List.mem_singleton] at hy
            rcases hy with hy | rfl
            · rw [List.getLastD_eq_getLast?] at hy
              cases hq : q0.blocks.getLast? with
              | none => rw [hq] at hy; simp at hy
              | some b' =>
                rw [hq] at hy
                exact h0.lines b' (List.mem_of_getLast? hq) y hy
            · exact ok'
end Go.Proofs.YtmlgajhhnojdjaaGreatDoor.PrjS
/- What the project's reader answers on whether a line's places are of the types that must be. -/
namespace Go.Proofs.YtmlgajhhnojdjaaGreatDoor.PrjT
open Go Go.RowKit Go.Proofs.YtmlgajhhnojdjaaGreatDoor.Spec Go.Proofs.YtmlgajhhnojdjaaGreatDoor.Aux Go.Proofs.YtmlgajhhnojdjaaGreatDoor.PrjF Go.Proofs.YtmlgajhhnojdjaaGreatDoor.PrjG Go.Proofs.YtmlgajhhnojdjaaGreatDoor.PrjH Go.Proofs.YtmlgajhhnojdjaaGreatDoor.PrjI Go.Proofs.YtmlgajhhnojdjaaGreatDoor.PrjJ Go.Proofs.YtmlgajhhnojdjaaGreatDoor.PrjK Go.Proofs.YtmlgajhhnojdjaaGreatDoor.PrjL Go.Proofs.YtmlgajhhnojdjaaGreatDoor.PrjM Go.Proofs.YtmlgajhhnojdjaaGreatDoor.PrjN Go.Proofs.YtmlgajhhnojdjaaGreatDoor.PrjO Go.Proofs.YtmlgajhhnojdjaaGreatDoor.PrjP Go.Proofs.YtmlgajhhnojdjaaGreatDoor.PrjR Go.Proofs.YtmlgajhhnojdjaaGreatDoor.PrjS

/-- places in memory, one by one -/
theorem places_cells {z : Nat} {w : World} {ad : Option Addr} {n c : Nat} {ps : List (Nat × Nat)} (h : w.ownsRow z 119 2 (.slice ad n c) ps.length (plCells ps)) (j : Nat) (hj : j < ps.length) :
    ∃ g, ad = some ⟨g, 0, none⟩ ∧ n = ps.length ∧ ps.length ≤ c ∧ g < w.heap.size ∧ w.cell? ⟨g, j * 2, none⟩ = some (.int .i64 ((ps.getD j (0, 0)).1 : Nat)) ∧ w.cell? ⟨g, j * 2 + 1, none⟩ = some (.int .i64 ((ps.getD j (0, 0)).2 : Nat)) := by
  obtain ⟨g, cap, hv, hc, hg, hcell⟩ := own_cell h (by omega)
  simp only [Value.slice.injEq] at hv
  obtain ⟨rfl, rfl, rfl⟩ := hv
  have key : ∀ i, i < 2 → w.cell? ⟨g, j * 2 + i, none⟩ = (plCell (ps.getD j (0, 0)))[i]? := fun i hi => by
    rw [hcell _ (by omega), plCells, flat_get plCell 2 (fun _ => rfl) ps j i hi]
    simp [hj]
  exact ⟨g, rfl, rfl, hc, hg, key 0 (by decide), key 1 (by decide)⟩
theorem fitsGo_drop (q : QP) (f : B) (ps : List (Nat × Nat)) (k : Nat) (hk : k < ps.length) : q.fitsGo f (ps.drop k) k = (q.okPlace (ps.getD k (0, 0)) (f.getD k 0) && q.fitsGo f (ps.drop (k + 1)) (k + 1)) := by
  rw [List.drop_eq_getElem_cons hk, QP.fitsGo]
  simp [hk]
theorem kind_some {q : QP} {x : Nat × Nat} {t : Nat} (h : q.kind x = some t) : q.kindV x = t := by
  rw [QP.kind] at h
  rw [QP.kindV]
  by_cases h12 : x.2 = 1 ∨ x.2 = 2
  · rw [if_pos h12] at h
    rw [if_pos (by omega)]
    split at h <;> simp_all
  · rw [if_neg h12] at h
    by_cases h3 : x.2 = 3
    · rw [if_pos h3] at h
      rw [if_pos (by omega)]
      split at h <;> simp_all
    · rw [if_neg h3] at h
      rw [if_neg (by omega)]
      simpa using h
theorem ret_b {a b : Bool} (h : a = b) : Ending.returned (.bool a) = .returned (.bool b) := by rw [h]
theorem filter_le {f : B} : (f.filter isPlc).length ≤ f.length := List.length_filter_le ..
set_option maxRecDepth 20000 in
set_option maxHeartbeats 1000000 in
theorem fits_any (q : QP) (l : QLine) (nb z a : Nat) (v u : Value) (ap an : Option Addr) (cp cn : Nat) (w : World) (hp : w.heap[a]? = some (.cells #[v, u] 110 (0, 0))) (hv : LocAt w v q.locals) (hls : q.locals.length ≤ 4000) (hl : LOk q.locals.length nb l)
    (hA : LineAt z w l (.slice ap l.places.length cp) (.slice an l.next.length cn)) (E : Env w) :
    Calls Tryz.prog 171 #[.pointer (some ⟨a, 0, none⟩), .agg #[.int .i64 (l.num : Nat), .int .i64 (l.op : Nat), .slice ap l.places.length cp, .int .i64 l.number, .int .i64 l.flag, .slice an l.next.length cn]] w fun e w' => e = .returned (.bool (q.fits l)) ∧ Below w.heap.size w w' := by
  have hbA : Below w.heap.size w (w.alloc (.cells #[.int .i64 (l.num : Nat), .int .i64 (l.op : Nat), .slice ap l.places.length cp, .int .i64 l.number, .int .i64 l.flag, .slice an l.next.length cn] 115)) := (Below.refl _ _).alloc (Nat.le_refl _) _
  have hblk : (w.alloc (.cells #[.int .i64 (l.num : Nat), .int .i64 (l.op : Nat), .slice ap l.places.length cp, .int .i64 l.number, .int .i64 l.flag, .slice an l.next.length cn] 115)).heap[w.heap.size]? = some (.cells #[.int .i64 (l.num : Nat), .int .i64 (l.op : Nat), .slice ap l.places.length cp, .int .i64 l.number, .int .i64 l.flag, .slice an l.next.length cn] 115 (0, 0)) := Array.getElem?_push_size
  have hsh := shape_cell (E.on hbA) l.op hl.op
  have hlt := lt_of_heap hp
  have hwl := wants_len l.op hl.op
  have hpl : l.places.length ≤ (wantsOf l.op).length := by rw [hl.plen]; exact filter_le
  have hplaces := hl.places
  have hpm : l.op = 12 → l.places.length = 2 := fun e => by rw [hl.plen, e]; rfl
  have HF : Hid (q.fitsGo (wantsOf l.op) l.places 0 = q.fitsGo (wantsOf l.op) (l.places.drop 0) 0) := rfl
  have KK := fun (x : Nat × Nat) (hx : x.1 < q.locals.length) (w' : World) (hb : Below w.heap.size w w') => kind_any q x v u a w' (by rw [hb.block a hlt]; exact hp) (hv.below hb) hls hx
  have KS := fun (x y : Nat × Nat) (hx : x.1 < q.locals.length) (hy : y.1 < q.locals.length) (w' : World) (hb : Below w.heap.size w w') => sameKind_any q x y v u a w' (by rw [hb.block a hlt]; exact hp) (hv.below hb) hls hx hy
  have hq : q.fits l = (q.fitsGo (wantsOf l.op) l.places 0 && (!(l.op == 12) || q.kindV (l.places.getD 0 (0, 0)) == q.kindV (l.places.getD 1 (0, 0)))) := rfl
  have HQ : Hid (_ = _) := hq
  have hop := hl.op
  clear hq hl
  have hbA2 := hbA
  generalize hwA : (w.alloc (.cells #[.int .i64 (l.num : Nat), .int .i64 (l.op : Nat), .slice ap l.places.length cp, .int .i64 l.number, .int .i64 l.flag, .slice an l.next.length cn] 115)) = wA at hbA2 hblk hsh
  go_enter Tryz.func171, Tryz.ntmps171
  subst hwA
  go_wp2
  go_loopw [18] (fun i wr => ∃ k : Nat, k ≤ l.places.length ∧ i = .int .i64 k ∧ Below (w.heap.size + 1) (w.alloc (.cells #[.int .i64 (l.num : Nat), .int .i64 (l.op : Nat), .slice ap l.places.length cp, .int .i64 l.number, .int .i64 l.flag, .slice an l.next.length cn] 115)) wr ∧ Hid (q.fitsGo (wantsOf l.op) l.places 0 = q.fitsGo (wantsOf l.op) (l.places.drop k) k)) (fun i _ => l.places.length - (intOf i).toNat)
  case atStart => exact ⟨0, Nat.zero_le _, rfl, Below.refl _ _, HF⟩
  case round =>
    obtain ⟨k, hk, rfl, hBr, HI⟩ := hrel
    have hB : Below w.heap.size w wr := hbA.trans (hBr.mono (by omega))
    have hlr : wr.heap[w.heap.size]? = _ := (hBr.block w.heap.size (by omega)).trans hblk
    by_cases hlt' : k < l.places.length
    · obtain ⟨gp, rfl, -, hcp, hgp, c1, c2⟩ := places_cells (own_below hA.places hB) k hlt'
      have hx := (hplaces (l.places.getD k (0, 0)) (by simp [hlt'])).1
      have hkw : k < (wantsOf l.op).length := by omega
      have HS : Hid (_ = _) := HI.out.trans (fitsGo_drop q (wantsOf l.op) l.places k hlt')
      have hc : Hid ((wantsOf l.op).getD k 0 = (wantsOf l.op)[k]) := by unfold Hid; simp [hkw]
      generalize l.places.getD k (0, 0) = x at *
      have hbx : Below wr.heap.size wr (wr.alloc (.cells #[.int .i64 (x.1 : Nat), .int .i64 (x.2 : Nat)] 119)) := (Below.refl _ _).alloc (Nat.le_refl _) _
      have KX := KK x hx _ (hB.trans (hbx.mono hB.size))
      have KI := fun w' => isKind_any (q.kindV x) ((wantsOf l.op)[k]) w'
      have hbn : ∀ w1, Below (wr.alloc (.cells #[.int .i64 (x.1 : Nat), .int .i64 (x.2 : Nat)] 119)).heap.size (wr.alloc (.cells #[.int .i64 (x.1 : Nat), .int .i64 (x.2 : Nat)] 119)) w1 → Below (w.heap.size + 1) (w.alloc (.cells #[.int .i64 (l.num : Nat), .int .i64 (l.op : Nat), .slice (some ⟨gp, 0, none⟩) l.places.length cp, .int .i64 l.number, .int .i64 l.flag, .slice an l.next.length cn] 115)) w1 := fun w1 hb1 => by
        have h0 : w.heap.size + 1 ≤ wr.heap.size := by have := hBr.size; simpa using this
        exact (hBr.trans (hbx.mono h0)).trans (hb1.mono (Nat.le_trans h0 hbx.size))
      cases hkd : q.kind x with
      | none =>
        have hfal : q.fits l = false := by rw [HQ.out, HS.out, QP.okPlace, hkd]; rfl
        rw [hkd] at KX
        clear hkd
        go_wp2_with (go_at_call 207; refine KX.mono ?_; rintro e w1 ⟨rfl, hb1⟩)
        go_ret
        exact ⟨ret_b hfal.symm, (hbA.trans ((hbn _ hb1).mono (by omega)))⟩
      | some t =>
        have hkv := kind_some hkd
        rw [hkd] at KX
        rw [hkv] at KX KI
        cases hik : isKindP t ((wantsOf l.op)[k]) with
        | false =>
          have hfal : q.fits l = false := by rw [HQ.out, HS.out, QP.okPlace, hkd, hc.out]; simp only; rw [hik]; rfl
          rw [hik] at KI
          clear hkd hik hkv
          go_wp2_with (first | (go_at_call 207; refine KX.mono ?_; rintro e w1 ⟨rfl, hb1⟩) | (go_at_call 208; refine (KI _).mono ?_; rintro e w2 ⟨rfl, rfl⟩))
          go_ret
          exact ⟨ret_b hfal.symm, (hbA.trans ((hbn _ hb1).mono (by omega)))⟩
        | true =>
          have HI2 : Hid (q.fitsGo (wantsOf l.op) l.places 0 = q.fitsGo (wantsOf l.op) (l.places.drop (k + 1)) (k + 1)) := by
            unfold Hid
            rw [HS.out, QP.okPlace, hkd, hc.out]; simp only; rw [hik]; rfl
          rw [hik] at KI
          clear hkd hik hkv
          go_wp2_with (first | (go_at_call 207; refine KX.mono ?_; rintro e w1 ⟨rfl, hb1⟩) | (go_at_call 208; refine (KI _).mono ?_; rintro e w2 ⟨rfl, rfl⟩))
          go_roundw
          case rel => exact ⟨k + 1, by omega, by go_num, hbn _ hb1, HI2⟩
          case measure => simp [intOf]; omega
    · have hdone : Hid (q.fits l = (!(l.op == 12) || q.kindV (l.places.getD 0 (0, 0)) == q.kindV (l.places.getD 1 (0, 0)))) := by
        unfold Hid
        rw [HQ.out, HI.out, List.drop_eq_nil_of_le (by omega)]; rfl
      have r1 : wr.cell? ⟨w.heap.size, 1, none⟩ = some (.int .i64 (l.op : Nat)) := by rw [cell_of_heap hlr]; rfl
      have r2 : wr.cell? ⟨w.heap.size, 2, none⟩ = some (.slice ap l.places.length cp) := by rw [cell_of_heap hlr]; rfl
      by_cases h12 : l.op = 12
      · have h2 := hpm h12
        obtain ⟨gp, rfl, -, hcp, hgp, c1, c2⟩ := places_cells (own_below hA.places hB) 0 (by omega)
        obtain ⟨gp', e, -, -, -, c3, c4⟩ := places_cells (own_below hA.places hB) 1 (by omega)
        simp only [Option.some.injEq, Addr.mk.injEq, and_true] at e
        subst e
        have hx0 := (hplaces (l.places.getD 0 (0, 0)) (by simp [h2])).1
        have hx1 := (hplaces (l.places.getD 1 (0, 0)) (by simp [h2])).1
        have KX := fun w' hb => KS _ _ hx0 hx1 w' hb
        have hfin : q.fits l = (q.kindV (l.places.getD 0 (0, 0)) == q.kindV (l.places.getD 1 (0, 0))) := by rw [hdone.out, h12]; rfl
        have hopb : (((l.op : Nat) : Int) != 12) = false := by rw [h12]; rfl
        have d1 : wr.cell? ⟨gp, 0, none⟩ = some (.int .i64 ((l.places.getD 0 (0, 0)).1 : Nat)) := c1
        have d2 : wr.cell? ⟨gp, 1, none⟩ = some (.int .i64 ((l.places.getD 0 (0, 0)).2 : Nat)) := c2
        have d3 : wr.cell? ⟨gp, 2, none⟩ = some (.int .i64 ((l.places.getD 1 (0, 0)).1 : Nat)) := c3
        have d4 : wr.cell? ⟨gp, 3, none⟩ = some (.int .i64 ((l.places.getD 1 (0, 0)).2 : Nat)) := c4
        clear c1 c2 c3 c4 hdone HQ HI HF
        have HFI : Hid (_ = _) := hfin
        clear hfin
        generalize l.places.getD 0 (0, 0) = x at *
        generalize l.places.getD 1 (0, 0) = y at *
        generalize (q.kindV x == q.kindV y) = bb at *
        rw [h2] at r2
        have KXd := KX wr.drew ⟨hB.os, hB.tape, hB.output, hB.size, hB.block⟩
        go_wp2
        go_region_with (go_at_call 209; refine KXd.mono ?_; rintro e w1 ⟨rfl, hb1⟩)
        all_goals (try go_wp2)
        all_goals
          go_ret
          exact ⟨ret_b HFI.out.symm, hB.trans ((show Below wr.heap.size wr w1 from ⟨hb1.os, hb1.tape, hb1.output, hb1.size, hb1.block⟩).mono hB.size)⟩
      · have hopb : (((l.op : Nat) : Int) != 12) = true := by simp; omega
        have hfin : q.fits l = true := by rw [hdone.out]; simp [h12]
        have HFI : Hid (_ = _) := hfin
        clear hdone HQ HI HF hfin
        go_wp2
        go_quiet (fail)
        go_wp2
        go_ret
        exact ⟨ret_b HFI.out.symm, below_drewN hB _⟩
end Go.Proofs.YtmlgajhhnojdjaaGreatDoor.PrjT
/- What the project's flow makes of a state: places put and taken. -/
namespace Go.Proofs.YtmlgajhhnojdjaaGreatDoor.FlwB
open Go Go.RowKit Go.Proofs.YtmlgajhhnojdjaaGreatDoor.Spec Go.Proofs.YtmlgajhhnojdjaaGreatDoor.Aux Go.Proofs.YtmlgajhhnojdjaaGreatDoor.PrjF Go.Proofs.YtmlgajhhnojdjaaGreatDoor.PrjG Go.Proofs.YtmlgajhhnojdjaaGreatDoor.PrjJ Go.Proofs.YtmlgajhhnojdjaaGreatDoor.PrjK Go.Proofs.YtmlgajhhnojdjaaGreatDoor.PrjL Go.Proofs.YtmlgajhhnojdjaaGreatDoor.PrjM Go.Proofs.YtmlgajhhnojdjaaGreatDoor.PrjN Go.Proofs.YtmlgajhhnojdjaaGreatDoor.PrjO Go.Proofs.YtmlgajhhnojdjaaGreatDoor.PrjP Go.Proofs.YtmlgajhhnojdjaaGreatDoor.PrjR Go.Proofs.YtmlgajhhnojdjaaGreatDoor.PrjT Go.Proofs.YtmlgajhhnojdjaaGreatDoor.FlwA

def stCells (s : List Nat) : List Value := s.map fun n => .int .u8 (n : Nat)
/-- a state in a block of its own -/
def StAt (w : World) (b : Nat) (s : List Nat) : Prop := s.length = 24 ∧ w.heap[b]? = some (.cells (stCells s).toArray 209 (0, 0))
section
variable {w w' : World} {b : Nat} {s : List Nat}
theorem StAt.lt (h : StAt w b s) : b < w.heap.size := lt_of_heap h.2
theorem StAt.below {z : Nat} (h : StAt w b s) (hb : Below z w w') (hz : b < z) : StAt w' b s := ⟨h.1, by rw [hb.block b hz]; exact h.2⟩
theorem StAt.cell (h : StAt w b s) (k : Nat) (hk : k < 24) : w.cell? ⟨b, k, none⟩ = some (.int .u8 (s.getD k 0 : Nat)) := by
  rw [cell_of_heap h.2]
  have : k < s.length := by rw [h.1]; exact hk
  simp [stCells, this]
theorem StAt.frozen (h : StAt w b s) (k : Nat) : w.frozen? ⟨b, k, none⟩ = false := frozen_of_heap h.2 k
theorem StAt.set (h : StAt w b s) (k n : Nat) : StAt (w.setCell ⟨b, k, none⟩ (.int .u8 (n : Nat))) b (s.set k n) := by
  refine ⟨by simpa using h.1, ?_⟩
  rw [Go.Proofs.YtmlgajhhnojdjaaGreatDoor.Aux.heap_setCell_same h.2 k]
  congr 2
  simp [stCells, List.map_set]
end
def putL (may : Nat) (ps : List (Nat × Nat)) (s : List Nat) : List Nat := ps.foldl (fun s x => s.set (slotQ x) may) s
def takeL (ps : List (Nat × Nat)) (s : List Nat) : List Nat := ps.foldl (fun s x => s.set (slotQ x) (if x.2 = 3 then 8 else 1)) s
theorem putL_step (may : Nat) (ps : List (Nat × Nat)) (k : Nat) (hk : k < ps.length) (s : List Nat) : putL may (ps.drop k) s = putL may (ps.drop (k + 1)) (s.set (slotQ (ps.getD k (0, 0))) may) := by
  rw [List.drop_eq_getElem_cons hk]
  have : ps.getD k (0, 0) = ps[k] := by simp [List.getD_eq_getElem?_getD, hk]
  rw [this]; rfl
theorem takeL_step (ps : List (Nat × Nat)) (k : Nat) (hk : k < ps.length) (s : List Nat) : takeL (ps.drop k) s = takeL (ps.drop (k + 1)) (s.set (slotQ (ps.getD k (0, 0))) (if (ps.getD k (0, 0)).2 = 3 then 8 else 1)) := by
  rw [List.drop_eq_getElem_cons hk]
  have : ps.getD k (0, 0) = ps[k] := by simp [List.getD_eq_getElem?_getD, hk]
  rw [this]; rfl
set_option maxRecDepth 20000 in
set_option maxHeartbeats 1000000 in
theorem put_any (may b z n c : Nat) (ad : Option Addr) (ps : List (Nat × Nat)) (s : List Nat) (w : World) (hs : StAt w b s) (hp : PlacesAt z w (.slice ad n c) ps) (hx : ∀ x ∈ ps, x.1 < 12) (_hm : may < 16) :
    Calls Tryz.prog 177 #[.pointer (some ⟨b, 0, none⟩), .int .u8 (may : Nat), .slice ad n c] w fun e w' => e = .returned (.tuple #[]) ∧ StAt w' b (putL may ps s) ∧ Turn b w w' := by
  have hn : n = ps.length := by
    obtain ⟨ad', c', e⟩ := own_slice hp
    simp only [Value.slice.injEq] at e; exact e.2.1
  have hlen : ps.length ≤ maxLen := by
    rcases hp.2 with ⟨-, h⟩ | ⟨g, cap, cur, -, -, -, h1, h2, -⟩
    · omega
    · omega
  unfold maxLen at hlen
  subst hn
  have HF : Hid (putL may ps s = putL may (ps.drop 0) s) := rfl
  go_enter Tryz.func177, Tryz.ntmps177
  go_wp2
  go_loopg [10] (ps.length) (fun g v10 wr => ∃ (k : Nat) (t : List Nat), k ≤ ps.length ∧ g + k = ps.length ∧ v10 = .int .i64 k ∧ StAt wr b t ∧ Turn b w wr ∧ Hid (putL may ps s = putL may (ps.drop k) t))
  case atStart => exact ⟨0, s, Nat.zero_le _, rfl, rfl, hs, Turn.refl _ _, HF⟩
  case round =>
    obtain ⟨k, t, hk, hgk, rfl, hS, hT, HI⟩ := hrel
    by_cases hlt : k < ps.length
    · have hpr : PlacesAt z wr (.slice ad ps.length c) ps := own_heap hp fun g hg => hT.block g (hp.lt g hg).2 fun x => by
        subst x; exact own_at_ne hp hs.2 (by decide) hg
      obtain ⟨gp, rfl, -, hcp, hgp, c1, c2⟩ := places_cells hpr k hlt
      have hx1 := hx (ps.getD k (0, 0)) (by simp [hlt])
      have HS : Hid (_ = _) := HI.out.trans (putL_step may ps k hlt t)
      generalize ps.getD k (0, 0) = x at *
      have hsl : slotQ x < 24 := by unfold slotQ; split <;> omega
      have hsi : (slotQ x : Int) < 24 := by omega
      have hbx : Below wr.heap.size wr (wr.alloc (.cells #[.int .i64 (x.1 : Nat), .int .i64 (x.2 : Nat)] 119)) := (Below.refl _ _).alloc (Nat.le_refl _) _
      have hlb := hS.lt
      have KS := slot_any x (wr.alloc (.cells #[.int .i64 (x.1 : Nat), .int .i64 (x.2 : Nat)] 119)).drew (by omega)
      go_wp2
      go_region_with (go_at_call 62; refine KS.mono ?_; rintro e w1 ⟨rfl, hb1⟩; have hb1' : Below wr.heap.size wr w1 := (hbx.trans ((⟨hb1.os, hb1.tape, hb1.output, hb1.size, hb1.block⟩ : Below _ (wr.alloc (.cells #[.int .i64 (x.1 : Nat), .int .i64 (x.2 : Nat)] 119)) w1).mono hbx.size)); have hS1 := hS.below hb1' hlb; have s1 := hS1.cell (slotQ x) hsl; have s2 := hS1.frozen (slotQ x))
      all_goals go_wp2_with fail
      all_goals
        go_roundg (ps.length - (k + 1))
        case measure => omega
        case rel => exact ⟨k + 1, t.set (slotQ x) may, by omega, by omega, by go_num, hS1.set _ may, (hT.on hb1').setCell _ _, HS.out⟩
    · have hx : putL may ps s = t := by rw [HI.out, List.drop_eq_nil_of_le (by omega)]; rfl
      go_wp2
      go_end0
      exact ⟨rfl, by rw [hx]; exact hS, hT⟩
set_option maxRecDepth 20000 in
set_option maxHeartbeats 1000000 in
theorem take_any (b z n c : Nat) (ad : Option Addr) (ps : List (Nat × Nat)) (s : List Nat) (w : World) (hs : StAt w b s) (hp : PlacesAt z w (.slice ad n c) ps) (hx : ∀ x ∈ ps, x.1 < 12) :
    Calls Tryz.prog 174 #[.pointer (some ⟨b, 0, none⟩), .slice ad n c] w fun e w' => e = .returned (.tuple #[]) ∧ StAt w' b (takeL ps s) ∧ Turn b w w' := by
  have hn : n = ps.length := by
    obtain ⟨ad', c', e⟩ := own_slice hp
    simp only [Value.slice.injEq] at e; exact e.2.1
  have hlen : ps.length ≤ maxLen := by
    rcases hp.2 with ⟨-, h⟩ | ⟨g, cap, cur, -, -, -, h1, h2, -⟩
    · omega
    · omega
  unfold maxLen at hlen
  subst hn
  have HF : Hid (takeL ps s = takeL (ps.drop 0) s) := rfl
  go_enter Tryz.func174, Tryz.ntmps174
  go_wp2
  go_loopg [8] (ps.length) (fun g v8 wr => ∃ (k : Nat) (t : List Nat), k ≤ ps.length ∧ g + k = ps.length ∧ v8 = .int .i64 k ∧ StAt wr b t ∧ Turn b w wr ∧ Hid (takeL ps s = takeL (ps.drop k) t))
  case atStart => exact ⟨0, s, Nat.zero_le _, rfl, rfl, hs, Turn.refl _ _, HF⟩
  case round =>
    obtain ⟨k, t, hk, hgk, rfl, hS, hT, HI⟩ := hrel
    by_cases hlt : k < ps.length
    · have hpr : PlacesAt z wr (.slice ad ps.length c) ps := own_heap hp fun g hg => hT.block g (hp.lt g hg).2 fun x => by
        subst x; exact own_at_ne hp hs.2 (by decide) hg
      obtain ⟨gp, rfl, -, hcp, hgp, c1, c2⟩ := places_cells hpr k hlt
      have hx1 := hx (ps.getD k (0, 0)) (by simp [hlt])
      have HS : Hid (_ = _) := HI.out.trans (takeL_step ps k hlt t)
      generalize ps.getD k (0, 0) = x at *
      have hsl : slotQ x < 24 := by unfold slotQ; split <;> omega
      have hsi : (slotQ x : Int) < 24 := by omega
      have hbx : Below wr.heap.size wr (wr.alloc (.cells #[.int .i64 (x.1 : Nat), .int .i64 (x.2 : Nat)] 119)) := (Below.refl _ _).alloc (Nat.le_refl _) _
      have hlb := hS.lt
      have KS := slot_any x (wr.alloc (.cells #[.int .i64 (x.1 : Nat), .int .i64 (x.2 : Nat)] 119)).drew (by omega)
      by_cases h3 : x.2 = 3
      · have hb3 : (((x.2 : Nat) : Int) == 3) = true := by rw [h3]; rfl
        have HP : Hid (x.2 = 3) := h3
        clear h3
        go_wp2
        go_region_with (go_at_call 62; refine KS.mono ?_; rintro e w1 ⟨rfl, hb1⟩; have hb1' : Below wr.heap.size wr w1 := (hbx.trans ((⟨hb1.os, hb1.tape, hb1.output, hb1.size, hb1.block⟩ : Below _ (wr.alloc (.cells #[.int .i64 (x.1 : Nat), .int .i64 (x.2 : Nat)] 119)) w1).mono hbx.size)); have hS1 := hS.below hb1' hlb; have s1 := hS1.cell (slotQ x) hsl; have s2 := hS1.frozen (slotQ x))
        all_goals go_wp2_with fail
        all_goals
          go_roundg (ps.length - (k + 1))
          case measure => omega
          case rel => exact ⟨k + 1, t.set (slotQ x) 8, by omega, by omega, by go_num, hS1.set _ 8, (hT.on hb1').setCell _ _, by unfold Hid; rw [HS.out, if_pos HP.out]⟩
      · have hb3 : (((x.2 : Nat) : Int) == 3) = false := by rw [beq_eq_false_iff_ne]; omega
        have HP : Hid (¬ x.2 = 3) := h3
        clear h3
        go_wp2
        go_region_with (go_at_call 62; refine KS.mono ?_; rintro e w1 ⟨rfl, hb1⟩; have hb1' : Below wr.heap.size wr w1 := (hbx.trans ((⟨hb1.os, hb1.tape, hb1.output, hb1.size, hb1.block⟩ : Below _ (wr.alloc (.cells #[.int .i64 (x.1 : Nat), .int .i64 (x.2 : Nat)] 119)) w1).mono hbx.size)); have hS1 := hS.below hb1' hlb; have s1 := hS1.cell (slotQ x) hsl; have s2 := hS1.frozen (slotQ x))
        all_goals go_wp2_with fail
        all_goals
          go_roundg (ps.length - (k + 1))
          case measure => omega
          case rel => exact ⟨k + 1, t.set (slotQ x) 1, by omega, by omega, by go_num, hS1.set _ 1, (hT.on hb1').setCell _ _, by unfold Hid; rw [HS.out, if_neg HP.out]⟩
    · have hx : takeL ps s = t := by rw [HI.out, List.drop_eq_nil_of_le (by omega)]; rfl
      go_wp2
      go_end0
      exact ⟨rfl, by rw [hx]; exact hS, hT⟩
end Go.Proofs.YtmlgajhhnojdjaaGreatDoor.FlwB
