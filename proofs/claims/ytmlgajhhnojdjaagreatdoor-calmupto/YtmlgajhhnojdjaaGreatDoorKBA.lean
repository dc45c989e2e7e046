/- A way joined into a block: lead. -/
import Derived.Test.YtmlgajhhnojdjaaGreatDoorKAZ
namespace Go.Proofs.YtmlgajhhnojdjaaGreatDoor.FlwK
open Go Go.RowKit Go.Proofs.YtmlgajhhnojdjaaGreatDoor.Spec Go.Proofs.YtmlgajhhnojdjaaGreatDoor.Aux Go.Proofs.YtmlgajhhnojdjaaGreatDoor.PrjF Go.Proofs.YtmlgajhhnojdjaaGreatDoor.PrjG Go.Proofs.YtmlgajhhnojdjaaGreatDoor.PrjJ Go.Proofs.YtmlgajhhnojdjaaGreatDoor.PrjK Go.Proofs.YtmlgajhhnojdjaaGreatDoor.PrjL Go.Proofs.YtmlgajhhnojdjaaGreatDoor.PrjM Go.Proofs.YtmlgajhhnojdjaaGreatDoor.PrjO Go.Proofs.YtmlgajhhnojdjaaGreatDoor.FlwB Go.Proofs.YtmlgajhhnojdjaaGreatDoor.FlwE Go.Proofs.YtmlgajhhnojdjaaGreatDoor.FlwF Go.Proofs.YtmlgajhhnojdjaaGreatDoor.FlwI Go.Proofs.YtmlgajhhnojdjaaGreatDoor.FlwJ
attribute [local go_sem ↓] wp_load_st wp_store_st

theorem or_bits : ∀ u : Fin 16, ∀ v : Fin 16, bits .or .u8 ((u.val : Nat) : Int) ((v.val : Nat) : Int) = ((u.val ||| v.val : Nat) : Int) ∧ (u.val ||| v.val) < 16 := by decide
theorem or_of {u v : Nat} (hu : u < 16) (hv : v < 16) : bits .or .u8 (u : Int) (v : Int) = ((u ||| v : Nat) : Int) := (or_bits ⟨u, hu⟩ ⟨v, hv⟩).1
theorem or_lt {u v : Nat} (hu : u < 16) (hv : v < 16) : u ||| v < 16 := (or_bits ⟨u, hu⟩ ⟨v, hv⟩).2
/-- ways that meet, the first k slots of them -/
def joinTo (s t : List Nat) (k : Nat) : List Nat := (List.range s.length).map fun i => if i < k then s.getD i 0 ||| t.getD i 0 else s.getD i 0
def joinS (s t : List Nat) : List Nat := joinTo s t 24
theorem joinTo_len (s t : List Nat) (k : Nat) : (joinTo s t k).length = s.length := by simp [joinTo]
theorem joinTo_zero (s t : List Nat) : joinTo s t 0 = s := by
  unfold joinTo
  rw [← getD_range s]
  simp only [List.length_map, List.length_range]
  apply List.map_congr_left
  intro i hi
  rw [if_neg (Nat.not_lt_zero _), getD_range]
theorem joinTo_getD (s t : List Nat) (k i : Nat) : (joinTo s t k).getD i 0 = if i < s.length then (if i < k then s.getD i 0 ||| t.getD i 0 else s.getD i 0) else 0 := by
  unfold joinTo
  rw [List.getD_eq_getElem?_getD, List.getElem?_map]
  by_cases hi : i < s.length
  · rw [List.getElem?_range hi, if_pos hi]; rfl
  · rw [List.getElem?_eq_none (by simp; omega), if_neg hi]; rfl
theorem joinTo_set (s t : List Nat) (k : Nat) : (joinTo s t k).set k (s.getD k 0 ||| t.getD k 0) = joinTo s t (k + 1) := by
  apply List.ext_getElem?
  intro i
  rw [List.getElem?_set, joinTo_len]
  unfold joinTo
  rw [List.getElem?_map, List.getElem?_map]
  by_cases hi : i < s.length
  · rw [List.getElem?_range hi]
    by_cases e : k = i
    · subst e; rw [if_pos rfl, if_pos hi]; simp
    · rw [if_neg e]
      simp only [Option.map_some, Option.some.injEq]
      by_cases h : i < k
      · rw [if_pos h, if_pos (by omega)]
      · rw [if_neg h, if_neg (by omega)]
  · rw [List.getElem?_eq_none (l := List.range s.length) (by simp; omega)]
    split
    · rw [if_neg (by omega)]; rfl
    · rfl
theorem joinTo_ok {s t : List Nat} (hs : SOk s) (ht : SOk t) (k : Nat) : SOk (joinTo s t k) :=
  ⟨by rw [joinTo_len]; exact hs.len, fun i => by
    rw [joinTo_getD]
    split
    · split
      · exact or_lt (hs.lt i) (ht.lt i)
      · exact hs.lt i
    · decide⟩
def leadE (E : List (List Nat)) (to : Nat) (s : List Nat) : List (List Nat) := if joinS (E.getD to []) s = E.getD to [] then E else E.set to (joinS (E.getD to []) s)
def leadO (E : List (List Nat)) (O : Nat → Bool) (to : Nat) (s : List Nat) : Nat → Bool := if joinS (E.getD to []) s = E.getD to [] then O else setO O to true
def HoldSize (w : World) (n : Nat) : Prop := w.heap.size = n
section
variable {z x a ap mb : Nat} {w w' : World} {q : QP} {vl vb : Value} {us : List Value} {vss : List (List (Value × Value))} {E : List (List Nat)} {O : Nat → Bool}
set_option maxRecDepth 20000 in
set_option maxHeartbeats 2000000 in
theorem lead_any (h : WAt z x a ap mb w q vl vb us vss E O) (to : Nat) (hto : to < q.blocks.length) (hn : q.blocks.length ≤ 4000) (s : List Nat) (hs : SOk s) :
    Calls Tryz.prog 187 #[.pointer (some ⟨x, 0, none⟩), .int .i64 (to : Nat), .agg (stCells s).toArray] w fun e w' => e = .returned (.tuple #[]) ∧ WAt z x a ap mb w' q vl vb us vss (leadE E to s) (leadO E O to s) ∧ Turn2 ap mb w w' := by
  have htE : to < E.length := by rw [h.len]; exact hto
  have hE := h.row.ok htE
  have hbA : Below w.heap.size w (w.alloc (.cells (stCells s).toArray 209)) := (Below.refl _ _).alloc (Nat.le_refl _) _
  have hA := h.below hbA
  have hSA : StAt (w.alloc (.cells (stCells s).toArray 209)) w.heap.size s := StAt.new w hs.len
  have hsz : (w.alloc (.cells (stCells s).toArray 209)).heap.size = w.heap.size + 1 := by simp
  have hapl := h.row.lt
  have hti : (to : Int) < (q.blocks.length : Nat) := by omega
  have hbox : HoldSize (w.alloc (.cells (stCells s).toArray 209)) (w.heap.size + 1) := hsz
  go_enter Tryz.func187, Tryz.ntmps187
  go_upto_region 1 with fail
  clear hsz
  generalize (w.alloc (.cells (stCells s).toArray 209)) = V at *
  have hsz : V.heap.size = w.heap.size + 1 := hbox
  have hasA := hA.row.has to htE
  have hofA := hA.row.of to htE
  obtain ⟨e0, HE⟩ : ∃ e0, Hid (E.getD to [] = e0) := ⟨_, rfl⟩
  rw [HE.out] at hofA hE
  obtain ⟨c0, c1, c2⟩ := hA.facts
  have hZ : StAt (V.alloc (.cells #[.int .u8 0, .int .u8 0, .int .u8 0, .int .u8 0, .int .u8 0, .int .u8 0, .int .u8 0, .int .u8 0, .int .u8 0, .int .u8 0, .int .u8 0, .int .u8 0, .int .u8 0, .int .u8 0, .int .u8 0, .int .u8 0, .int .u8 0, .int .u8 0, .int .u8 0, .int .u8 0, .int .u8 0, .int .u8 0, .int .u8 0, .int .u8 0] 209)) V.heap.size zeroSt := StAt.new V (s := zeroSt) (by decide)
  have hbZ : Below V.heap.size V (V.alloc (.cells #[.int .u8 0, .int .u8 0, .int .u8 0, .int .u8 0, .int .u8 0, .int .u8 0, .int .u8 0, .int .u8 0, .int .u8 0, .int .u8 0, .int .u8 0, .int .u8 0, .int .u8 0, .int .u8 0, .int .u8 0, .int .u8 0, .int .u8 0, .int .u8 0, .int .u8 0, .int .u8 0, .int .u8 0, .int .u8 0, .int .u8 0, .int .u8 0] 209)) := (Below.refl _ _).alloc (Nat.le_refl _) _
  have hroom := StAt.room hZ
  have hist := isSt_of hE.len
  have hJ := StAt.store hZ hE.len
  have hbW : Below V.heap.size V ((V.alloc (.cells #[.int .u8 0, .int .u8 0, .int .u8 0, .int .u8 0, .int .u8 0, .int .u8 0, .int .u8 0, .int .u8 0, .int .u8 0, .int .u8 0, .int .u8 0, .int .u8 0, .int .u8 0, .int .u8 0, .int .u8 0, .int .u8 0, .int .u8 0, .int .u8 0, .int .u8 0, .int .u8 0, .int .u8 0, .int .u8 0, .int .u8 0, .int .u8 0] 209)).setCells V.heap.size 0 (stCells e0)) := below_setCells hbZ (Nat.le_refl _) _ _
  have hW := hA.below hbW
  have hSW := hSA.below hbW hSA.lt
  have hTW := (Below.refl w.heap.size w).trans (hbA.trans (hbW.mono (by omega)))
  rw [hsz] at hroom hJ hW hSW hTW
  clear hbZ hZ hbW hSA hA
  go_upto_region 2 with fail
  generalize ((V.alloc (.cells #[.int .u8 0, .int .u8 0, .int .u8 0, .int .u8 0, .int .u8 0, .int .u8 0, .int .u8 0, .int .u8 0, .int .u8 0, .int .u8 0, .int .u8 0, .int .u8 0, .int .u8 0, .int .u8 0, .int .u8 0, .int .u8 0, .int .u8 0, .int .u8 0, .int .u8 0, .int .u8 0, .int .u8 0, .int .u8 0, .int .u8 0, .int .u8 0] 209)).setCells (w.heap.size + 1) 0 (stCells e0)) = W at *
  clear hroom hasA hofA c0 c1 c2 hbA hbox hsz
  have HJ0 : StAt W (w.heap.size + 1) (joinTo e0 s 0) := by rw [joinTo_zero]; exact hJ
  go_wp2
  go_loopg [15] (24) (fun g v15 wr => ∃ k : Nat, k ≤ 24 ∧ g + k = 24 ∧ v15 = .int .i64 k ∧ StAt wr (w.heap.size + 1) (joinTo e0 s k) ∧ Turn (w.heap.size + 1) W wr)
  case atStart => exact ⟨0, by omega, rfl, rfl, HJ0, Turn.refl _ _⟩
  case round =>
    obtain ⟨k, hk, hgk, rfl, hJr, hTr⟩ := hrel
    have hSr : StAt wr w.heap.size s := ⟨hSW.1, (hTr.block _ hSW.lt (by omega)).trans hSW.2⟩
    by_cases hlt : k < 24
    · have d1 := hJr.cell k hlt
      have d2 := hSr.cell k hlt
      have d3 := hJr.frozen k
      have hki : (k : Int) < 24 := by omega
      have hset := hJr.set k (e0.getD k 0 ||| s.getD k 0)
      rw [joinTo_set] at hset
      have hg0 : (joinTo e0 s k).getD k 0 = e0.getD k 0 := by rw [joinTo_getD, if_pos (by rw [hE.len]; exact hlt), if_neg (by omega)]
      rw [hg0] at d1
      have hor := or_of (hE.lt k) (hs.lt k)
      clear hg0
      generalize e0.getD k 0 = u1 at *
      generalize s.getD k 0 = u2 at *
      have hT2 := hTr.setCell k (.int .u8 ((u1 ||| u2 : Nat) : Int))
      have hset' : StAt (wr.setCell ⟨w.heap.size + 1, k, none⟩ (.int .u8 ((u1 ||| u2 : Nat) : Int))).drew (w.heap.size + 1) (joinTo e0 s (k + 1)) := hset
      have hT3 : Turn (w.heap.size + 1) W (wr.setCell ⟨w.heap.size + 1, k, none⟩ (.int .u8 ((u1 ||| u2 : Nat) : Int))).drew := ⟨hT2.os, hT2.tape, hT2.output, hT2.size, hT2.block⟩
      clear hset hT2
      go_wp2
      go_region
      all_goals
        go_wp2
        go_roundg (24 - (k + 1))
        case measure => omega
        case rel => exact ⟨k + 1, by omega, by omega, by go_num, hset', hT3⟩
    · obtain rfl : k = 24 := by omega
      have hWr := hW.other hTr hJ (by omega)
      have j1 := StAt.has hJr
      have j2 := StAt.of hJr
      have hrow := hWr.row
      have r1 := hrow.has to htE
      have r2 := hrow.of to htE
      have r3 := hrow.room to htE
      rw [HE.out] at r2
      obtain ⟨c0, c1, c2⟩ := hWr.facts
      have hjok := joinTo_ok hE hs 24
      have he := fun w' => st_equal (joinTo e0 s 24) e0 w' hjok.len hE.len hjok.lt hE.lt
      have hist' := isSt_of hjok.len
      have HJS : Hid (joinS (E.getD to []) s = joinTo e0 s 24) := by unfold Hid; rw [joinS, HE.out]
      have hT0 : Turn2 ap mb w wr := (Turn2.ofBelow hTW).since hTr (by omega)
      generalize joinTo e0 s 24 = j at *
      have j1d : HasSt wr.drew (w.heap.size + 1) 0 := j1
      have j2d : stOf wr.drew (w.heap.size + 1) 0 = (stCells j).toArray := j2
      have r1d : HasSt wr.drew ap (to * 24) := r1
      have r2d : stOf wr.drew ap (to * 24) = (stCells e0).toArray := r2
      cases hb : (j == e0) with
      | true =>
        rw [hb] at he
        have hje : Hid (j = e0) := eq_of_beq hb
        clear hb
        go_wp2
        go_region
        all_goals
          go_wp2
          go_end0
          have hjs : joinS (E.getD to []) s = E.getD to [] := by rw [HJS.out, HE.out]; exact hje.out
          refine ⟨rfl, ?_, hT0.on (below_drewN (Below.refl _ _) 1)⟩
          rw [leadE, leadO, if_pos hjs, if_pos hjs]
          exact hWr.below (below_drewN (Below.refl _ _) 1)
      | false =>
        rw [hb] at he
        have hje : Hid (¬ j = e0) := fun e => by rw [e] at hb; simp at hb
        clear hb
        go_wp2
        go_region
        have hWd : WAt z x a ap mb wr.drew q vl vb us vss E O := hWr.below (below_drewN (Below.refl _ _) 1)
        have hTd : Turn2 ap mb w wr.drew := hT0.on (below_drewN (Below.refl _ _) 1)
        have hJd : StAt wr.drew (w.heap.size + 1) j := hJr
        generalize wr.drew = wd at *
        clear hWr hT0 hJr hTr j1 j2 r1 r2 r3 c0 c1 c2 hrow hSr he
        obtain ⟨c0, c1, c2⟩ := hWd.facts
        have j1 : HasSt wd.drew (w.heap.size + 1) 0 := j1d
        have j2 : stOf wd.drew (w.heap.size + 1) 0 = (stCells j).toArray := j2d
        have r3 : RoomSt wd.drew ap (to * 24) := hWd.row.room to htE
        have hWe : WAt z x a ap mb wd.drew q vl vb us vss E O := hWd.below (below_drewN (Below.refl _ _) 1)
        have hTe : Turn2 ap mb w wd.drew := hTd.on (below_drewN (Below.refl _ _) 1)
        have hfin := hWe.row.store to htE hjok
        have hofin : OpenAt (wd.drew.setCells ap (to * 24) (stCells j)) mb q.blocks.length O := hWe.opn.heap (heap_setCells_other _ _ _ _ _ (fun e => by
          obtain ⟨es, clock, h1⟩ := hWe.opn.isMap
          obtain ⟨-, cs, h2, -⟩ := hWe.row
          rw [e, h2] at h1; cases h1))
        have hTs : Turn2 ap mb wd.drew (wd.drew.setCells ap (to * 24) (stCells j)) := .left (turn_setCells (Turn.refl ap wd.drew) 0 (stCells j) (to * 24) wd.drew (Turn.refl _ _))
        have hWf := hWe.turn hTs (by simp) hfin hofin
        have hTf := hTe.trans hTs
        clear hofin hfin j1d j2d r1d r2d hWe hTe hTs
        go_wp2
        go_region
        generalize wd.drew.setCells ap (to * 24) (stCells j) = wf at *
        clear c0 c1 c2 j1 j2 r3 hWd hTd hJd
        obtain ⟨c0, c1, c2⟩ := hWf.facts
        go_wp2_with (at_mapUpdate; refine wpList_open_put _ rfl _ _ _ rfl to rfl rfl rfl hWf.opn hto hn ?_; intro wg hog hgg)
        go_end0
        have hjs : ¬ joinS (E.getD to []) s = E.getD to [] := by rw [HJS.out, HE.out]; exact hje.out
        have hTg : Turn2 ap mb wf wg := .right hgg
        refine ⟨rfl, ?_, hTf.trans hTg⟩
        rw [leadE, leadO, if_neg hjs, if_neg hjs, HJS.out]
        exact hWf.turn hTg rfl (hWf.row.heap (hgg.block ap hWf.row.lt (fun e => by
          simp only [Option.some.injEq] at e
          obtain ⟨es, clock, h1⟩ := hWf.opn.isMap
          obtain ⟨-, cs, h2, -⟩ := hWf.row
          rw [← e, h2] at h1; cases h1))) hog
end
end Go.Proofs.YtmlgajhhnojdjaaGreatDoor.FlwK
/- The least open block is taken. -/
namespace Go.Proofs.YtmlgajhhnojdjaaGreatDoor.FlwL
open Go Go.RowKit Go.Proofs.YtmlgajhhnojdjaaGreatDoor.Spec Go.Proofs.YtmlgajhhnojdjaaGreatDoor.Aux Go.Proofs.YtmlgajhhnojdjaaGreatDoor.PrjF Go.Proofs.YtmlgajhhnojdjaaGreatDoor.PrjG Go.Proofs.YtmlgajhhnojdjaaGreatDoor.PrjJ Go.Proofs.YtmlgajhhnojdjaaGreatDoor.PrjK Go.Proofs.YtmlgajhhnojdjaaGreatDoor.PrjL Go.Proofs.YtmlgajhhnojdjaaGreatDoor.PrjM Go.Proofs.YtmlgajhhnojdjaaGreatDoor.PrjO Go.Proofs.YtmlgajhhnojdjaaGreatDoor.FlwB Go.Proofs.YtmlgajhhnojdjaaGreatDoor.FlwE Go.Proofs.YtmlgajhhnojdjaaGreatDoor.FlwF Go.Proofs.YtmlgajhhnojdjaaGreatDoor.FlwI Go.Proofs.YtmlgajhhnojdjaaGreatDoor.FlwJ Go.Proofs.YtmlgajhhnojdjaaGreatDoor.FlwK

section
variable (w : World) {ops : Array Oper} {rest : List Oper} {o : Oper} {a : Act} {Q : Exit → Act → World → Prop} {O : Nat → Bool}
theorem wpList_next_open (hg : o.guard = none) (it : Operand) (hop : o.op = Op.next it false) (b r n : Nat) (D : DataW Unit) (left : Lit → Bool) (cnt : Nat) (hit : a.eval it = .pointer (some ⟨r, 0, none⟩))
    (h : w.ranges Tryz.prog 3 unitElem b r n D left cnt) (hL : ∀ kl, left kl = true → ∃ c, kl = keyI c ∧ O c = true)
    (hDone : (∀ kl, left kl = false) → wpList Tryz.prog ops Q rest (a.put o.dst (.tuple #[.bool false])) w)
    (hMore : ∀ (c : Nat) (w' : World) (cnt' : Nat), O c = true → w'.ranges Tryz.prog 3 unitElem b r n D (fun z => left z && !z.sameKey (keyI c)) cnt' → cnt' < cnt → w.grownBy w' (some r) →
      (Instr.entry (.pointer (some ⟨r, 0, none⟩))).run Tryz.prog w' = .ok (.tuple #[.int .i64 (c : Nat), .agg #[]]) w' → wpList Tryz.prog ops Q rest (a.put o.dst (.tuple #[.bool true, .int .i64 (c : Nat), .agg #[]])) w') :
    wpList Tryz.prog ops Q (o :: rest) a w :=
  wpList_next_ranges w hg it hop 3 kint unitElem (Value.int .i64) (fun _ : Unit => .agg #[]) (fun key kl hkey => by obtain ⟨x, rfl, _⟩ := Maps.keyOf_int_inv Tryz.underlying3 hkey; exact ⟨x, rfl⟩) (fun v y hv => ⟨(), (unitElem_inv hv).1⟩)
    b r n D left cnt hit h (fun _ => hDone) (fun x c kl y w' cnt' hkey hlk hv hat hrg hlt hgr hsz hen => by
      obtain ⟨x', ex, rfl, hwx⟩ := Maps.keyOf_int_inv Tryz.underlying3 hkey
      cases ex
      obtain ⟨c', hc, hc'⟩ := hL _ hlk
      simp only [keyI, Lit.int.injEq, true_and] at hc
      subst hc
      exact hMore c' w' cnt' hc' hrg hlt hgr hen)
end
theorem below_grown {w w' w0 : World} {r : Nat} (hb : Below w.heap.size w w0) (h : w0.grownBy w' (some r)) (hr : w.heap.size ≤ r) : Below w.heap.size w w' :=
  hb.trans ⟨h.os, h.tape, h.output, h.size, fun k hk => h.block k (Nat.lt_of_lt_of_le hk hb.size) (by simp; omega)⟩
theorem below_none {w w' : World} (h : w.grownBy w' none) : Below w.heap.size w w' := ⟨h.os, h.tape, h.output, h.size, fun k hk => h.block k hk (by simp)⟩
section
variable {z x a ap mb : Nat} {w w' : World} {q : QP} {vl vb : Value} {us : List Value} {vss : List (List (Value × Value))} {E : List (List Nat)} {O : Nat → Bool}
/-- the least, and none is less -/
structure Least (O : Nat → Bool) (N b : Nat) : Prop where
  le : b ≤ N
  opn : b < N → O b = true
  none : ∀ c, c < b → O c = false
set_option maxRecDepth 20000 in
set_option maxHeartbeats 2000000 in
theorem takeLeast_any (h : WAt z x a ap mb w q vl vb us vss E O) (hn : q.blocks.length ≤ 4000) :
    Calls Tryz.prog 146 #[.pointer (some ⟨x, 0, none⟩)] w fun e w' => ∃ b, e = .returned (.int .i64 (b : Nat)) ∧ Least O q.blocks.length b ∧ WAt z x a ap mb w' q vl vb us vss E (setO O b false) ∧ Turn2 ap mb w w' := by
  obtain ⟨c0, c1, c2⟩ := h.facts
  obtain ⟨D, hD, hO, hh, hs⟩ := h.opn
  go_enter Tryz.func146, Tryz.ntmps146
  go_wp2_with (at_range; refine wpList_range_own _ rfl _ _ rfl 3 _ kint Tryz.underlying163 unitElem mb q.blocks.length D rfl hD ?_; intro w0 hrg0 hg0 hs0)
  go_frame
  clear hs0
  have hb0 := below_none hg0
  go_loopw [3] (fun v3 wr => ∃ (left : Lit → Bool) (cnt l : Nat), wr.ranges Tryz.prog 3 unitElem mb w.heap.size q.blocks.length D left cnt ∧ v3 = .int .i64 (l : Nat) ∧ l ≤ q.blocks.length ∧ (l < q.blocks.length → O l = true) ∧ (∀ kl, left kl = true → ∃ c, kl = keyI c ∧ O c = true) ∧ (∀ c, O c = true → left (keyI c) = true ∨ l ≤ c) ∧ Below w.heap.size w wr) (fun _ wr => wr.rangeLeft mb w.heap.size)
  case atStart => exact ⟨_, _, q.blocks.length, hrg0, rfl, Nat.le_refl _, fun h => absurd h (Nat.lt_irrefl _), fun kl => (hh kl).1, fun c hc => .inl ((hh _).2 ⟨c, rfl, hc⟩), hb0⟩
  case round =>
    obtain ⟨left, cnt, l, hrg, rfl, hl1, hl2, hL, hl3, hbr⟩ := hrel
    go_wp2_with (at_next; refine wpList_next_open (O := O) _ rfl _ rfl mb w.heap.size q.blocks.length D left cnt rfl hrg hL ?_ ?_)
    · intro hl0
      have hWr := h.below hbr
      obtain ⟨d0, d1, d2⟩ := hWr.facts
      have hle : l ≤ 100000 := by omega
      go_wp2_with (at_delete; refine wpList_open_del _ rfl _ _ rfl l rfl rfl hWr.opn hle ?_; intro w2 ho2 hg2)
      go_ret
      have hT2 : Turn2 ap mb wr w2 := .right hg2
      refine ⟨l, rfl, ⟨hl1, hl2, fun c hc => ?_⟩, ?_, (Turn2.ofBelow hbr).trans hT2⟩
      · cases hOc : O c with
        | false => rfl
        | true =>
          rcases hl3 c hOc with h1 | h1
          · rw [hl0] at h1; cases h1
          · omega
      · exact hWr.turn hT2 rfl (hWr.row.heap (hg2.block ap hWr.row.lt (fun e => by
          simp only [Option.some.injEq] at e
          obtain ⟨es, clock, h1⟩ := hWr.opn.isMap
          obtain ⟨-, cs, h2, -⟩ := hWr.row
          rw [← e, h2] at h1; cases h1))) ho2
    · intro c w1 cnt1 hOc hrg1 hlt hg1 hen
      have hb1 := below_grown hbr hg1 (Nat.le_refl _)
      have hcb := hO c hOc
      have hleft : ∀ c', O c' = true → c' ≠ c → left (keyI c') = true → (left (keyI c') && !(keyI c').sameKey (keyI c)) = true := fun c' _ hne hlc => by
        rw [hlc, Maps.sameKey_ne (fun e => hne (keyI_inj e))]; rfl
      by_cases hcl : c < l
      · have hci : (c : Int) < (l : Int) := by omega
        go_wp2
        go_roundw
        case measure => rw [hrg1.left_eq, hrg.left_eq]; exact hlt
        case rel =>
          refine ⟨_, cnt1, c, hrg1, congrArg (Value.int .i64) (by omega), by omega, fun _ => hOc, fun kl hkl => hL kl (by simp at hkl; exact hkl.1), fun c' hc' => ?_, hb1⟩
          by_cases e : c' = c
          · right; omega
          · rcases hl3 c' hc' with h1 | h1
            · left; exact hleft c' hc' e h1
            · right; omega
      · have hci : ¬ (c : Int) < (l : Int) := by omega
        go_wp2
        go_roundw
        case measure => rw [hrg1.left_eq, hrg.left_eq]; exact hlt
        case rel =>
          refine ⟨_, cnt1, l, hrg1, congrArg (Value.int .i64) (by omega), hl1, hl2, fun kl hkl => hL kl (by simp at hkl; exact hkl.1), fun c' hc' => ?_, hb1⟩
          by_cases e : c' = c
          · right; omega
          · rcases hl3 c' hc' with h1 | h1
            · left; exact hleft c' hc' e h1
            · right; omega
end
end Go.Proofs.YtmlgajhhnojdjaaGreatDoor.FlwL
