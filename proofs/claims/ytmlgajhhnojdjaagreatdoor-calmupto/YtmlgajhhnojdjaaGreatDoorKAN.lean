/- What the project's reader answers on whether a line's places are of the types that must be. -/
import Derived.Test.YtmlgajhhnojdjaaGreatDoorKAL
import Derived.Test.YtmlgajhhnojdjaaGreatDoorKAM
namespace Go.Proofs.YtmlgajhhnojdjaaGreatDoor.PrjT
open Go Go.RowKit Go.Proofs.YtmlgajhhnojdjaaGreatDoor.Spec Go.Proofs.YtmlgajhhnojdjaaGreatDoor.Aux Go.Proofs.YtmlgajhhnojdjaaGreatDoor.PrjF Go.Proofs.YtmlgajhhnojdjaaGreatDoor.PrjG Go.Proofs.YtmlgajhhnojdjaaGreatDoor.PrjH Go.Proofs.YtmlgajhhnojdjaaGreatDoor.PrjI Go.Proofs.YtmlgajhhnojdjaaGreatDoor.PrjJ Go.Proofs.YtmlgajhhnojdjaaGreatDoor.PrjK Go.Proofs.YtmlgajhhnojdjaaGreatDoor.PrjL Go.Proofs.YtmlgajhhnojdjaaGreatDoor.PrjM Go.Proofs.YtmlgajhhnojdjaaGreatDoor.PrjN Go.Proofs.YtmlgajhhnojdjaaGreatDoor.PrjO Go.Proofs.YtmlgajhhnojdjaaGreatDoor.PrjP Go.Proofs.YtmlgajhhnojdjaaGreatDoor.PrjR Go.Proofs.YtmlgajhhnojdjaaGreatDoor.PrjS

/-- places in memory, one by one -/
theorem places_cells {z : Nat} {w : World} {ad : Option Addr} {n c : Nat} {ps : List (Nat × Nat)} (h : w.ownsRow z 119 2 (.slice ad n c) ps.length (plCells ps)) (j : Nat) (hj : j < ps.length) :
    ∃ g, ad = some ⟨g, 0, none⟩ ∧ n = ps.length ∧ ps.length ≤ c ∧ g < w.heap.size ∧ w.cell? ⟨g, j * 2, none⟩ = some (.int .i64 ((ps.getD j (0, 0)).1 : Nat)) ∧ w.cell? ⟨g, j * 2 + 1, none⟩ = some (.int .i64 ((ps.getD j (0, 0)).2 : Nat)) := by
  obtain ⟨g, cap, hv, hc, hg, hcell⟩ := own_cell h (by omega)
  simp only [Value.slice.injEq] at hv
  obtain ⟨rfl, rfl, rfl⟩ := hv
  have key : ∀ i, i < 2 → w.cell? ⟨g, j * 2 + i, none⟩ = (plCell (ps.getD j (0, 0)))[i]? := fun i hi => by
    rw [hcell _ (by omega), plCells, flat_get plCell 2 (fun _ => rfl) ps j i hi]
    simp [hj]
  exact ⟨g, rfl, rfl, hc, hg, key 0 (by decide), key 1 (by decide)⟩
theorem fitsGo_drop (q : QP) (f : B) (ps : List (Nat × Nat)) (k : Nat) (hk : k < ps.length) : q.fitsGo f (ps.drop k) k = (q.okPlace (ps.getD k (0, 0)) (f.getD k 0) && q.fitsGo f (ps.drop (k + 1)) (k + 1)) := by
  rw [List.drop_eq_getElem_cons hk, QP.fitsGo]
  simp [hk]
theorem kind_some {q : QP} {x : Nat × Nat} {t : Nat} (h : q.kind x = some t) : q.kindV x = t := by
  rw [QP.kind] at h
  rw [QP.kindV]
  by_cases h12 : x.2 = 1 ∨ x.2 = 2
  · rw [if_pos h12] at h
    rw [if_pos (by omega)]
    split at h <;> simp_all
  · rw [if_neg h12] at h
    by_cases h3 : x.2 = 3
    · rw [if_pos h3] at h
      rw [if_pos (by omega)]
      split at h <;> simp_all
    · rw [if_neg h3] at h
      rw [if_neg (by omega)]
      simpa using h
theorem ret_b {a b : Bool} (h : a = b) : Ending.returned (.bool a) = .returned (.bool b) := by rw [h]
theorem filter_le {f : B} : (f.filter isPlc).length ≤ f.length := List.length_filter_le ..
set_option maxRecDepth 20000 in
set_option maxHeartbeats 1000000 in
theorem fits_any (q : QP) (l : QLine) (nb z a : Nat) (v u : Value) (ap an : Option Addr) (cp cn : Nat) (w : World) (hp : w.heap[a]? = some (.cells #[v, u] 110 (0, 0))) (hv : LocAt w v q.locals) (hls : q.locals.length ≤ 4000) (hl : LOk q.locals.length nb l)
    (hA : LineAt z w l (.slice ap l.places.length cp) (.slice an l.next.length cn)) (E : Env w) :
    Calls Tryz.prog 171 #[.pointer (some ⟨a, 0, none⟩), .agg #[.int .i64 (l.num : Nat), .int .i64 (l.op : Nat), .slice ap l.places.length cp, .int .i64 l.number, .int .i64 l.flag, .slice an l.next.length cn]] w fun e w' => e = .returned (.bool (q.fits l)) ∧ Below w.heap.size w w' := by
  have hbA : Below w.heap.size w (w.alloc (.cells #[.int .i64 (l.num : Nat), .int .i64 (l.op : Nat), .slice ap l.places.length cp, .int .i64 l.number, .int .i64 l.flag, .slice an l.next.length cn] 115)) := (Below.refl _ _).alloc (Nat.le_refl _) _
  have hblk : (w.alloc (.cells #[.int .i64 (l.num : Nat), .int .i64 (l.op : Nat), .slice ap l.places.length cp, .int .i64 l.number, .int .i64 l.flag, .slice an l.next.length cn] 115)).heap[w.heap.size]? = some (.cells #[.int .i64 (l.num : Nat), .int .i64 (l.op : Nat), .slice ap l.places.length cp, .int .i64 l.number, .int .i64 l.flag, .slice an l.next.length cn] 115 (0, 0)) := Array.getElem?_push_size
  have hsh := shape_cell (E.on hbA) l.op hl.op
  have hlt := lt_of_heap hp
  have hwl := wants_len l.op hl.op
  have hpl : l.places.length ≤ (wantsOf l.op).length := by rw [hl.plen]; exact filter_le
  have hplaces := hl.places
  have hpm : l.op = 12 → l.places.length = 2 := fun e => by rw [hl.plen, e]; rfl
  have HF : Hid (q.fitsGo (wantsOf l.op) l.places 0 = q.fitsGo (wantsOf l.op) (l.places.drop 0) 0) := rfl
  have KK := fun (x : Nat × Nat) (hx : x.1 < q.locals.length) (w' : World) (hb : Below w.heap.size w w') => kind_any q x v u a w' (by rw [hb.block a hlt]; exact hp) (hv.below hb) hls hx
  have KS := fun (x y : Nat × Nat) (hx : x.1 < q.locals.length) (hy : y.1 < q.locals.length) (w' : World) (hb : Below w.heap.size w w') => sameKind_any q x y v u a w' (by rw [hb.block a hlt]; exact hp) (hv.below hb) hls hx hy
  have hq : q.fits l = (q.fitsGo (wantsOf l.op) l.places 0 && (!(l.op == 12) || q.kindV (l.places.getD 0 (0, 0)) == q.kindV (l.places.getD 1 (0, 0)))) := rfl
  have HQ : Hid (_ = _) := hq
  have hop := hl.op
  clear hq hl
  have hbA2 := hbA
  generalize hwA : (w.alloc (.cells #[.int .i64 (l.num : Nat), .int .i64 (l.op : Nat), .slice ap l.places.length cp, .int .i64 l.number, .int .i64 l.flag, .slice an l.next.length cn] 115)) = wA at hbA2 hblk hsh
  go_enter Tryz.func171, Tryz.ntmps171
  subst hwA
  go_wp2
  go_loopw [18] (fun i wr => ∃ k : Nat, k ≤ l.places.length ∧ i = .int .i64 k ∧ Below (w.heap.size + 1) (w.alloc (.cells #[.int .i64 (l.num : Nat), .int .i64 (l.op : Nat), .slice ap l.places.length cp, .int .i64 l.number, .int .i64 l.flag, .slice an l.next.length cn] 115)) wr ∧ Hid (q.fitsGo (wantsOf l.op) l.places 0 = q.fitsGo (wantsOf l.op) (l.places.drop k) k)) (fun i _ => l.places.length - (intOf i).toNat)
  case atStart => exact ⟨0, Nat.zero_le _, rfl, Below.refl _ _, HF⟩
  case round =>
    obtain ⟨k, hk, rfl, hBr, HI⟩ := hrel
    have hB : Below w.heap.size w wr := hbA.trans (hBr.mono (by omega))
    have hlr : wr.heap[w.heap.size]? = _ := (hBr.block w.heap.size (by omega)).trans hblk
    by_cases hlt' : k < l.places.length
    · obtain ⟨gp, rfl, -, hcp, hgp, c1, c2⟩ := places_cells (own_below hA.places hB) k hlt'
      have hx := (hplaces (l.places.getD k (0, 0)) (by simp [hlt'])).1
      have hkw : k < (wantsOf l.op).length := by omega
      have HS : Hid (_ = _) := HI.out.trans (fitsGo_drop q (wantsOf l.op) l.places k hlt')
      have hc : Hid ((wantsOf l.op).getD k 0 = (wantsOf l.op)[k]) := by unfold Hid; simp [hkw]
      generalize l.places.getD k (0, 0) = x at *
      have hbx : Below wr.heap.size wr (wr.alloc (.cells #[.int .i64 (x.1 : Nat), .int .i64 (x.2 : Nat)] 119)) := (Below.refl _ _).alloc (Nat.le_refl _) _
      have KX := KK x hx _ (hB.trans (hbx.mono hB.size))
      have KI := fun w' => isKind_any (q.kindV x) ((wantsOf l.op)[k]) w'
      have hbn : ∀ w1, Below (wr.alloc (.cells #[.int .i64 (x.1 : Nat), .int .i64 (x.2 : Nat)] 119)).heap.size (wr.alloc (.cells #[.int .i64 (x.1 : Nat), .int .i64 (x.2 : Nat)] 119)) w1 → Below (w.heap.size + 1) (w.alloc (.cells #[.int .i64 (l.num : Nat), .int .i64 (l.op : Nat), .slice (some ⟨gp, 0, none⟩) l.places.length cp, .int .i64 l.number, .int .i64 l.flag, .slice an l.next.length cn] 115)) w1 := fun w1 hb1 => by
        have h0 : w.heap.size + 1 ≤ wr.heap.size := by have := hBr.size; simpa using this
        exact (hBr.trans (hbx.mono h0)).trans (hb1.mono (Nat.le_trans h0 hbx.size))
      cases hkd : q.kind x with
      | none =>
        have hfal : q.fits l = false := by rw [HQ.out, HS.out, QP.okPlace, hkd]; rfl
        rw [hkd] at KX
        clear hkd
        go_wp2_with (go_at_call 207; refine KX.mono ?_; rintro e w1 ⟨rfl, hb1⟩)
        go_ret
        exact ⟨ret_b hfal.symm, (hbA.trans ((hbn _ hb1).mono (by omega)))⟩
      | some t =>
        have hkv := kind_some hkd
        rw [hkd] at KX
        rw [hkv] at KX KI
        cases hik : isKindP t ((wantsOf l.op)[k]) with
        | false =>
          have hfal : q.fits l = false := by rw [HQ.out, HS.out, QP.okPlace, hkd, hc.out]; simp only; rw [hik]; rfl
          rw [hik] at KI
          clear hkd hik hkv
          go_wp2_with (first | (go_at_call 207; refine KX.mono ?_; rintro e w1 ⟨rfl, hb1⟩) | (go_at_call 208; refine (KI _).mono ?_; rintro e w2 ⟨rfl, rfl⟩))
          go_ret
          exact ⟨ret_b hfal.symm, (hbA.trans ((hbn _ hb1).mono (by omega)))⟩
        | true =>
          have HI2 : Hid (q.fitsGo (wantsOf l.op) l.places 0 = q.fitsGo (wantsOf l.op) (l.places.drop (k + 1)) (k + 1)) := by
            unfold Hid
            rw [HS.out, QP.okPlace, hkd, hc.out]; simp only; rw [hik]; rfl
          rw [hik] at KI
          clear hkd hik hkv
          go_wp2_with (first | (go_at_call 207; refine KX.mono ?_; rintro e w1 ⟨rfl, hb1⟩) | (go_at_call 208; refine (KI _).mono ?_; rintro e w2 ⟨rfl, rfl⟩))
          go_roundw
          case rel => exact ⟨k + 1, by omega, by go_num, hbn _ hb1, HI2⟩
          case measure => simp [intOf]; omega
    · have hdone : Hid (q.fits l = (!(l.op == 12) || q.kindV (l.places.getD 0 (0, 0)) == q.kindV (l.places.getD 1 (0, 0)))) := by
        unfold Hid
        rw [HQ.out, HI.out, List.drop_eq_nil_of_le (by omega)]; rfl
      have r1 : wr.cell? ⟨w.heap.size, 1, none⟩ = some (.int .i64 (l.op : Nat)) := by rw [cell_of_heap hlr]; rfl
      have r2 : wr.cell? ⟨w.heap.size, 2, none⟩ = some (.slice ap l.places.length cp) := by rw [cell_of_heap hlr]; rfl
      by_cases h12 : l.op = 12
      · have h2 := hpm h12
        obtain ⟨gp, rfl, -, hcp, hgp, c1, c2⟩ := places_cells (own_below hA.places hB) 0 (by omega)
        obtain ⟨gp', e, -, -, -, c3, c4⟩ := places_cells (own_below hA.places hB) 1 (by omega)
        simp only [Option.some.injEq, Addr.mk.injEq, and_true] at e
        subst e
        have hx0 := (hplaces (l.places.getD 0 (0, 0)) (by simp [h2])).1
        have hx1 := (hplaces (l.places.getD 1 (0, 0)) (by simp [h2])).1
        have KX := fun w' hb => KS _ _ hx0 hx1 w' hb
        have hfin : q.fits l = (q.kindV (l.places.getD 0 (0, 0)) == q.kindV (l.places.getD 1 (0, 0))) := by rw [hdone.out, h12]; rfl
        have hopb : (((l.op : Nat) : Int) != 12) = false := by rw [h12]; rfl
        have d1 : wr.cell? ⟨gp, 0, none⟩ = some (.int .i64 ((l.places.getD 0 (0, 0)).1 : Nat)) := c1
        have d2 : wr.cell? ⟨gp, 1, none⟩ = some (.int .i64 ((l.places.getD 0 (0, 0)).2 : Nat)) := c2
        have d3 : wr.cell? ⟨gp, 2, none⟩ = some (.int .i64 ((l.places.getD 1 (0, 0)).1 : Nat)) := c3
        have d4 : wr.cell? ⟨gp, 3, none⟩ = some (.int .i64 ((l.places.getD 1 (0, 0)).2 : Nat)) := c4
        clear c1 c2 c3 c4 hdone HQ HI HF
        have HFI : Hid (_ = _) := hfin
        clear hfin
        generalize l.places.getD 0 (0, 0) = x at *
        generalize l.places.getD 1 (0, 0) = y at *
        generalize (q.kindV x == q.kindV y) = bb at *
        rw [h2] at r2
        have KXd := KX wr.drew ⟨hB.os, hB.tape, hB.output, hB.size, hB.block⟩
        go_wp2
        go_region_with (go_at_call 209; refine KXd.mono ?_; rintro e w1 ⟨rfl, hb1⟩)
        all_goals (try go_wp2)
        all_goals
          go_ret
          exact ⟨ret_b HFI.out.symm, hB.trans ((show Below wr.heap.size wr w1 from ⟨hb1.os, hb1.tape, hb1.output, hb1.size, hb1.block⟩).mono hB.size)⟩
      · have hopb : (((l.op : Nat) : Int) != 12) = true := by simp; omega
        have hfin : q.fits l = true := by rw [hdone.out]; simp [h12]
        have HFI : Hid (_ = _) := hfin
        clear hdone HQ HI HF hfin
        go_wp2
        go_quiet (fail)
        go_wp2
        go_ret
        exact ⟨ret_b HFI.out.symm, below_drewN hB _⟩
end Go.Proofs.YtmlgajhhnojdjaaGreatDoor.PrjT
/- What the project's flow makes of a state: places put and taken. -/
namespace Go.Proofs.YtmlgajhhnojdjaaGreatDoor.FlwB
open Go Go.RowKit Go.Proofs.YtmlgajhhnojdjaaGreatDoor.Spec Go.Proofs.YtmlgajhhnojdjaaGreatDoor.Aux Go.Proofs.YtmlgajhhnojdjaaGreatDoor.PrjF Go.Proofs.YtmlgajhhnojdjaaGreatDoor.PrjG Go.Proofs.YtmlgajhhnojdjaaGreatDoor.PrjJ Go.Proofs.YtmlgajhhnojdjaaGreatDoor.PrjK Go.Proofs.YtmlgajhhnojdjaaGreatDoor.PrjL Go.Proofs.YtmlgajhhnojdjaaGreatDoor.PrjM Go.Proofs.YtmlgajhhnojdjaaGreatDoor.PrjN Go.Proofs.YtmlgajhhnojdjaaGreatDoor.PrjO Go.Proofs.YtmlgajhhnojdjaaGreatDoor.PrjP Go.Proofs.YtmlgajhhnojdjaaGreatDoor.PrjR Go.Proofs.YtmlgajhhnojdjaaGreatDoor.PrjT Go.Proofs.YtmlgajhhnojdjaaGreatDoor.FlwA

def stCells (s : List Nat) : List Value := s.map fun n => .int .u8 (n : Nat)
/-- a state in a block of its own -/
def StAt (w : World) (b : Nat) (s : List Nat) : Prop := s.length = 24 ∧ w.heap[b]? = some (.cells (stCells s).toArray 209 (0, 0))
section
variable {w w' : World} {b : Nat} {s : List Nat}
theorem StAt.lt (h : StAt w b s) : b < w.heap.size := lt_of_heap h.2
theorem StAt.below {z : Nat} (h : StAt w b s) (hb : Below z w w') (hz : b < z) : StAt w' b s := ⟨h.1, by rw [hb.block b hz]; exact h.2⟩
theorem StAt.cell (h : StAt w b s) (k : Nat) (hk : k < 24) : w.cell? ⟨b, k, none⟩ = some (.int .u8 (s.getD k 0 : Nat)) := by
  rw [cell_of_heap h.2]
  have : k < s.length := by rw [h.1]; exact hk
  simp [stCells, this]
theorem StAt.frozen (h : StAt w b s) (k : Nat) : w.frozen? ⟨b, k, none⟩ = false := frozen_of_heap h.2 k
theorem StAt.set (h : StAt w b s) (k n : Nat) : StAt (w.setCell ⟨b, k, none⟩ (.int .u8 (n : Nat))) b (s.set k n) := by
  refine ⟨by simpa using h.1, ?_⟩
  rw [Go.Proofs.YtmlgajhhnojdjaaGreatDoor.Aux.heap_setCell_same h.2 k]
  congr 2
  simp [stCells, List.map_set]
end
def putL (may : Nat) (ps : List (Nat × Nat)) (s : List Nat) : List Nat := ps.foldl (fun s x => s.set (slotQ x) may) s
def takeL (ps : List (Nat × Nat)) (s : List Nat) : List Nat := ps.foldl (fun s x => s.set (slotQ x) (if x.2 = 3 then 8 else 1)) s
theorem putL_step (may : Nat) (ps : List (Nat × Nat)) (k : Nat) (hk : k < ps.length) (s : List Nat) : putL may (ps.drop k) s = putL may (ps.drop (k + 1)) (s.set (slotQ (ps.getD k (0, 0))) may) := by
  rw [List.drop_eq_getElem_cons hk]
  have : ps.getD k (0, 0) = ps[k] := by simp [List.getD_eq_getElem?_getD, hk]
  rw [this]; rfl
theorem takeL_step (ps : List (Nat × Nat)) (k : Nat) (hk : k < ps.length) (s : List Nat) : takeL (ps.drop k) s = takeL (ps.drop (k + 1)) (s.set (slotQ (ps.getD k (0, 0))) (if (ps.getD k (0, 0)).2 = 3 then 8 else 1)) := by
  rw [List.drop_eq_getElem_cons hk]
  have : ps.getD k (0, 0) = ps[k] := by simp [List.getD_eq_getElem?_getD, hk]
  rw [this]; rfl
set_option maxRecDepth 20000 in
set_option maxHeartbeats 1000000 in
theorem put_any (may b z n c : Nat) (ad : Option Addr) (ps : List (Nat × Nat)) (s : List Nat) (w : World) (hs : StAt w b s) (hp : PlacesAt z w (.slice ad n c) ps) (hx : ∀ x ∈ ps, x.1 < 12) (_hm : may < 16) :
    Calls Tryz.prog 177 #[.pointer (some ⟨b, 0, none⟩), .int .u8 (may : Nat), .slice ad n c] w fun e w' => e = .returned (.tuple #[]) ∧ StAt w' b (putL may ps s) ∧ Turn b w w' := by
  have hn : n = ps.length := by
    obtain ⟨ad', c', e⟩ := own_slice hp
    simp only [Value.slice.injEq] at e; exact e.2.1
  have hlen : ps.length ≤ maxLen := by
    rcases hp.2 with ⟨-, h⟩ | ⟨g, cap, cur, -, -, -, h1, h2, -⟩
    · omega
    · omega
  unfold maxLen at hlen
  subst hn
  have HF : Hid (putL may ps s = putL may (ps.drop 0) s) := rfl
  go_enter Tryz.func177, Tryz.ntmps177
  go_wp2
  go_loopg [10] (ps.length) (fun g v10 wr => ∃ (k : Nat) (t : List Nat), k ≤ ps.length ∧ g + k = ps.length ∧ v10 = .int .i64 k ∧ StAt wr b t ∧ Turn b w wr ∧ Hid (putL may ps s = putL may (ps.drop k) t))
  case atStart => exact ⟨0, s, Nat.zero_le _, rfl, rfl, hs, Turn.refl _ _, HF⟩
  case round =>
    obtain ⟨k, t, hk, hgk, rfl, hS, hT, HI⟩ := hrel
    by_cases hlt : k < ps.length
    · have hpr : PlacesAt z wr (.slice ad ps.length c) ps := own_heap hp fun g hg => hT.block g (hp.lt g hg).2 fun x => by
        subst x; exact own_at_ne hp hs.2 (by decide) hg
      obtain ⟨gp, rfl, -, hcp, hgp, c1, c2⟩ := places_cells hpr k hlt
      have hx1 := hx (ps.getD k (0, 0)) (by simp [hlt])
      have HS : Hid (_ = _) := HI.out.trans (putL_step may ps k hlt t)
      generalize ps.getD k (0, 0) = x at *
      have hsl : slotQ x < 24 := by unfold slotQ; split <;> omega
      have hsi : (slotQ x : Int) < 24 := by omega
      have hbx : Below wr.heap.size wr (wr.alloc (.cells #[.int .i64 (x.1 : Nat), .int .i64 (x.2 : Nat)] 119)) := (Below.refl _ _).alloc (Nat.le_refl _) _
      have hlb := hS.lt
      have KS := slot_any x (wr.alloc (.cells #[.int .i64 (x.1 : Nat), .int .i64 (x.2 : Nat)] 119)).drew (by omega)
      go_wp2
      go_region_with (go_at_call 62; refine KS.mono ?_; rintro e w1 ⟨rfl, hb1⟩; have hb1' : Below wr.heap.size wr w1 := (hbx.trans ((⟨hb1.os, hb1.tape, hb1.output, hb1.size, hb1.block⟩ : Below _ (wr.alloc (.cells #[.int .i64 (x.1 : Nat), .int .i64 (x.2 : Nat)] 119)) w1).mono hbx.size)); have hS1 := hS.below hb1' hlb; have s1 := hS1.cell (slotQ x) hsl; have s2 := hS1.frozen (slotQ x))
      all_goals go_wp2_with fail
      all_goals
        go_roundg (ps.length - (k + 1))
        case measure => omega
        case rel => exact ⟨k + 1, t.set (slotQ x) may, by omega, by omega, by go_num, hS1.set _ may, (hT.on hb1').setCell _ _, HS.out⟩
    · have hx : putL may ps s = t := by rw [HI.out, List.drop_eq_nil_of_le (by omega)]; rfl
      go_wp2
      go_end0
      exact ⟨rfl, by rw [hx]; exact hS, hT⟩
set_option maxRecDepth 20000 in
set_option maxHeartbeats 1000000 in
theorem take_any (b z n c : Nat) (ad : Option Addr) (ps : List (Nat × Nat)) (s : List Nat) (w : World) (hs : StAt w b s) (hp : PlacesAt z w (.slice ad n c) ps) (hx : ∀ x ∈ ps, x.1 < 12) :
    Calls Tryz.prog 174 #[.pointer (some ⟨b, 0, none⟩), .slice ad n c] w fun e w' => e = .returned (.tuple #[]) ∧ StAt w' b (takeL ps s) ∧ Turn b w w' := by
  have hn : n = ps.length := by
    obtain ⟨ad', c', e⟩ := own_slice hp
    simp only [Value.slice.injEq] at e; exact e.2.1
  have hlen : ps.length ≤ maxLen := by
    rcases hp.2 with ⟨-, h⟩ | ⟨g, cap, cur, -, -, -, h1, h2, -⟩
    · omega
    · omega
  unfold maxLen at hlen
  subst hn
  have HF : Hid (takeL ps s = takeL (ps.drop 0) s) := rfl
  go_enter Tryz.func174, Tryz.ntmps174
  go_wp2
  go_loopg [8] (ps.length) (fun g v8 wr => ∃ (k : Nat) (t : List Nat), k ≤ ps.length ∧ g + k = ps.length ∧ v8 = .int .i64 k ∧ StAt wr b t ∧ Turn b w wr ∧ Hid (takeL ps s = takeL (ps.drop k) t))
  case atStart => exact ⟨0, s, Nat.zero_le _, rfl, rfl, hs, Turn.refl _ _, HF⟩
  case round =>
    obtain ⟨k, t, hk, hgk, rfl, hS, hT, HI⟩ := hrel
    by_cases hlt : k < ps.length
    · have hpr : PlacesAt z wr (.slice ad ps.length c) ps := own_heap hp fun g hg => hT.block g (hp.lt g hg).2 fun x => by
        subst x; exact own_at_ne hp hs.2 (by decide) hg
      obtain ⟨gp, rfl, -, hcp, hgp, c1, c2⟩ := places_cells hpr k hlt
      have hx1 := hx (ps.getD k (0, 0)) (by simp [hlt])
      have HS : Hid (_ = _) := HI.out.trans (takeL_step ps k hlt t)
      generalize ps.getD k (0, 0) = x at *
      have hsl : slotQ x < 24 := by unfold slotQ; split <;> omega
      have hsi : (slotQ x : Int) < 24 := by omega
      have hbx : Below wr.heap.size wr (wr.alloc (.cells #[.int .i64 (x.1 : Nat), .int .i64 (x.2 : Nat)] 119)) := (Below.refl _ _).alloc (Nat.le_refl _) _
      have hlb := hS.lt
      have KS := slot_any x (wr.alloc (.cells #[.int .i64 (x.1 : Nat), .int .i64 (x.2 : Nat)] 119)).drew (by omega)
      by_cases h3 : x.2 = 3
      · have hb3 : (((x.2 : Nat) : Int) == 3) = true := by rw [h3]; rfl
        have HP : Hid (x.2 = 3) := h3
        clear h3
        go_wp2
        go_region_with (go_at_call 62; refine KS.mono ?_; rintro e w1 ⟨rfl, hb1⟩; have hb1' : Below wr.heap.size wr w1 := (hbx.trans ((⟨hb1.os, hb1.tape, hb1.output, hb1.size, hb1.block⟩ : Below _ (wr.alloc (.cells #[.int .i64 (x.1 : Nat), .int .i64 (x.2 : Nat)] 119)) w1).mono hbx.size)); have hS1 := hS.below hb1' hlb; have s1 := hS1.cell (slotQ x) hsl; have s2 := hS1.frozen (slotQ x))
        all_goals go_wp2_with fail
        all_goals
          go_roundg (ps.length - (k + 1))
          case measure => omega
          case rel => exact ⟨k + 1, t.set (slotQ x) 8, by omega, by omega, by go_num, hS1.set _ 8, (hT.on hb1').setCell _ _, by unfold Hid; rw [HS.out, if_pos HP.out]⟩
      · have hb3 : (((x.2 : Nat) : Int) == 3) = false := by rw [beq_eq_false_iff_ne]; omega
        have HP : Hid (¬ x.2 = 3) := h3
        clear h3
        go_wp2
        go_region_with (go_at_call 62; refine KS.mono ?_; rintro e w1 ⟨rfl, hb1⟩; have hb1' : Below wr.heap.size wr w1 := (hbx.trans ((⟨hb1.os, hb1.tape, hb1.output, hb1.size, hb1.block⟩ : Below _ (wr.alloc (.cells #[.int .i64 (x.1 : Nat), .int .i64 (x.2 : Nat)] 119)) w1).mono hbx.size)); have hS1 := hS.below hb1' hlb; have s1 := hS1.cell (slotQ x) hsl; have s2 := hS1.frozen (slotQ x))
        all_goals go_wp2_with fail
        all_goals
          go_roundg (ps.length - (k + 1))
          case measure => omega
          case rel => exact ⟨k + 1, t.set (slotQ x) 1, by omega, by omega, by go_num, hS1.set _ 1, (hT.on hb1').setCell _ _, by unfold Hid; rw [HS.out, if_neg HP.out]⟩
    · have hx : takeL ps s = t := by rw [HI.out, List.drop_eq_nil_of_le (by omega)]; rfl
      go_wp2
      go_end0
      exact ⟨rfl, by rw [hx]; exact hS, hT⟩
end Go.Proofs.YtmlgajhhnojdjaaGreatDoor.FlwB
/- What the project's flow answers on whether places lack what must be there. -/
namespace Go.Proofs.YtmlgajhhnojdjaaGreatDoor.FlwC
open Go Go.RowKit Go.Proofs.YtmlgajhhnojdjaaGreatDoor.Spec Go.Proofs.YtmlgajhhnojdjaaGreatDoor.Aux Go.Proofs.YtmlgajhhnojdjaaGreatDoor.PrjF Go.Proofs.YtmlgajhhnojdjaaGreatDoor.PrjG Go.Proofs.YtmlgajhhnojdjaaGreatDoor.PrjJ Go.Proofs.YtmlgajhhnojdjaaGreatDoor.PrjK Go.Proofs.YtmlgajhhnojdjaaGreatDoor.PrjL Go.Proofs.YtmlgajhhnojdjaaGreatDoor.PrjM Go.Proofs.YtmlgajhhnojdjaaGreatDoor.PrjN Go.Proofs.YtmlgajhhnojdjaaGreatDoor.PrjO Go.Proofs.YtmlgajhhnojdjaaGreatDoor.PrjP Go.Proofs.YtmlgajhhnojdjaaGreatDoor.PrjR Go.Proofs.YtmlgajhhnojdjaaGreatDoor.PrjT Go.Proofs.YtmlgajhhnojdjaaGreatDoor.FlwA Go.Proofs.YtmlgajhhnojdjaaGreatDoor.FlwB

def lackB (fit v : Nat) : Bool := !(v &&& (15 - fit) == 0)
theorem lack_bits : ∀ v : Nat, v < 16 → ((bits .andNot .u8 (v : Int) 2 != 0) = lackB 2 v) ∧ ((bits .andNot .u8 (v : Int) 6 != 0) = lackB 6 v) ∧ ((bits .andNot .u8 (v : Int) 10 != 0) = lackB 10 v) := by decide
theorem lack_fit {v fit : Nat} (hv : v < 16) (hfit : fit = 2 ∨ fit = 6 ∨ fit = 10) : (bits .andNot .u8 (v : Int) (fit : Int) != 0) = lackB fit v := by
  obtain ⟨h1, h2, h3⟩ := lack_bits v hv
  rcases hfit with rfl | rfl | rfl
  · exact h1
  · exact h2
  · exact h3
def lacksL (fit : Nat) (ps : List (Nat × Nat)) (s : List Nat) : Bool := ps.any fun x => lackB fit (s.getD (slotQ x) 0)
theorem lacks_step (fit : Nat) (ps : List (Nat × Nat)) (k : Nat) (hk : k < ps.length) (s : List Nat) : lacksL fit (ps.drop k) s = (lackB fit (s.getD (slotQ (ps.getD k (0, 0))) 0) || lacksL fit (ps.drop (k + 1)) s) := by
  rw [List.drop_eq_getElem_cons hk]
  have : ps.getD k (0, 0) = ps[k] := by simp [List.getD_eq_getElem?_getD, hk]
  rw [this]; rfl
set_option maxRecDepth 20000 in
set_option maxHeartbeats 1000000 in
theorem lacks_any (fit b z n c : Nat) (ad : Option Addr) (ps : List (Nat × Nat)) (s : List Nat) (w : World) (hs : StAt w b s) (hp : PlacesAt z w (.slice ad n c) ps) (hx : ∀ x ∈ ps, x.1 < 12) (hv : ∀ k, s.getD k 0 < 16) (hfit : fit = 2 ∨ fit = 6 ∨ fit = 10) :
    Calls Tryz.prog 219 #[.pointer (some ⟨b, 0, none⟩), .int .u8 (fit : Nat), .slice ad n c] w fun e w' => e = .returned (.bool (lacksL fit ps s)) ∧ Below w.heap.size w w' := by
  have hn : n = ps.length := by
    obtain ⟨ad', c', e⟩ := own_slice hp
    simp only [Value.slice.injEq] at e; exact e.2.1
  have hlen : ps.length ≤ maxLen := by
    rcases hp.2 with ⟨-, h⟩ | ⟨g, cap, cur, -, -, -, h1, h2, -⟩
    · omega
    · omega
  unfold maxLen at hlen
  subst hn
  have HF : Hid (lacksL fit ps s = lacksL fit (ps.drop 0) s) := rfl
  go_enter Tryz.func219, Tryz.ntmps219
  go_wp2
  go_loopg [11] (ps.length) (fun g v10 wr => ∃ k : Nat, k ≤ ps.length ∧ g + k = ps.length ∧ v10 = .int .i64 k ∧ Below w.heap.size w wr ∧ Hid (lacksL fit ps s = lacksL fit (ps.drop k) s))
  case atStart => exact ⟨0, Nat.zero_le _, rfl, rfl, Below.refl _ _, HF⟩
  case round =>
    obtain ⟨k, hk, hgk, rfl, hB, HI⟩ := hrel
    by_cases hlt : k < ps.length
    · obtain ⟨gp, rfl, -, hcp, hgp, c1, c2⟩ := places_cells (own_below hp hB) k hlt
      have hx1 := hx (ps.getD k (0, 0)) (by simp [hlt])
      have HS : Hid (_ = _) := HI.out.trans (lacks_step fit ps k hlt s)
      generalize ps.getD k (0, 0) = x at *
      have hsl : slotQ x < 24 := by unfold slotQ; split <;> omega
      have hsi : (slotQ x : Int) < 24 := by omega
      have hbx : Below wr.heap.size wr (wr.alloc (.cells #[.int .i64 (x.1 : Nat), .int .i64 (x.2 : Nat)] 119)) := (Below.refl _ _).alloc (Nat.le_refl _) _
      have hlb := hs.lt
      have KS := slot_any x (wr.alloc (.cells #[.int .i64 (x.1 : Nat), .int .i64 (x.2 : Nat)] 119)).drew (by omega)
      have hvk := hv (slotQ x)
      obtain ⟨v, hvv⟩ : ∃ v, v = s.getD (slotQ x) 0 := ⟨_, rfl⟩
      rw [← hvv] at hvk HS
      have HV : Hid (s.getD (slotQ x) 0 = v) := hvv.symm
      clear hvv
      cases hl : lackB fit v
      · have hbit : (bits .andNot .u8 (v : Int) (fit : Int) != 0) = false := by rw [lack_fit hvk hfit]; exact hl
        have HL : Hid (_ = _) := hl
        clear hl
        go_upto_region 4 with fail
        go_region_with (go_at_call 62; refine KS.mono ?_; rintro e w1 ⟨rfl, hb1⟩; have hb1' : Below wr.heap.size wr w1 := (hbx.trans ((⟨hb1.os, hb1.tape, hb1.output, hb1.size, hb1.block⟩ : Below _ (wr.alloc (.cells #[.int .i64 (x.1 : Nat), .int .i64 (x.2 : Nat)] 119)) w1).mono hbx.size)); have hS1 := (hs.below hB hlb).below hb1' (Nat.lt_of_lt_of_le hlb hB.size); have s1 := (hS1.cell (slotQ x) hsl).trans (by rw [HV.out]))
        all_goals go_wp2_with fail
        all_goals
          go_roundg (ps.length - (k + 1))
          case measure => omega
          case rel => exact ⟨k + 1, by omega, by omega, by go_num, hB.trans (hb1'.mono hB.size), by unfold Hid; rw [HS.out, HL.out]; rfl⟩
      · have hbit : (bits .andNot .u8 (v : Int) (fit : Int) != 0) = true := by rw [lack_fit hvk hfit]; exact hl
        have HL : Hid (_ = _) := hl
        clear hl
        go_upto_region 4 with fail
        go_region_with (go_at_call 62; refine KS.mono ?_; rintro e w1 ⟨rfl, hb1⟩; have hb1' : Below wr.heap.size wr w1 := (hbx.trans ((⟨hb1.os, hb1.tape, hb1.output, hb1.size, hb1.block⟩ : Below _ (wr.alloc (.cells #[.int .i64 (x.1 : Nat), .int .i64 (x.2 : Nat)] 119)) w1).mono hbx.size)); have hS1 := (hs.below hB hlb).below hb1' (Nat.lt_of_lt_of_le hlb hB.size); have s1 := (hS1.cell (slotQ x) hsl).trans (by rw [HV.out]))
        all_goals go_wp2_with fail
        all_goals
          go_ret
          exact ⟨by rw [HS.out, HL.out]; rfl, hB.trans (hb1'.mono hB.size)⟩
    · have hx : lacksL fit ps s = false := by rw [HI.out, List.drop_eq_nil_of_le (by omega)]; rfl
      go_wp2
      go_ret
      exact ⟨by rw [hx]; rfl, hB⟩
end Go.Proofs.YtmlgajhhnojdjaaGreatDoor.FlwC
/- What the project's flow answers on places that are shut or stuck, and on how a thing is behind its being moved. -/
namespace Go.Proofs.YtmlgajhhnojdjaaGreatDoor.FlwD
open Go Go.RowKit Go.Proofs.YtmlgajhhnojdjaaGreatDoor.Spec Go.Proofs.YtmlgajhhnojdjaaGreatDoor.Aux Go.Proofs.YtmlgajhhnojdjaaGreatDoor.PrjF Go.Proofs.YtmlgajhhnojdjaaGreatDoor.PrjG Go.Proofs.YtmlgajhhnojdjaaGreatDoor.PrjJ Go.Proofs.YtmlgajhhnojdjaaGreatDoor.PrjK Go.Proofs.YtmlgajhhnojdjaaGreatDoor.PrjL Go.Proofs.YtmlgajhhnojdjaaGreatDoor.PrjM Go.Proofs.YtmlgajhhnojdjaaGreatDoor.PrjN Go.Proofs.YtmlgajhhnojdjaaGreatDoor.PrjO Go.Proofs.YtmlgajhhnojdjaaGreatDoor.PrjP Go.Proofs.YtmlgajhhnojdjaaGreatDoor.PrjR Go.Proofs.YtmlgajhhnojdjaaGreatDoor.PrjT Go.Proofs.YtmlgajhhnojdjaaGreatDoor.FlwA Go.Proofs.YtmlgajhhnojdjaaGreatDoor.FlwB Go.Proofs.YtmlgajhhnojdjaaGreatDoor.FlwC

def shutL (x : Nat × Nat) (s : List Nat) : Bool := x.2 == 3 && lacksL 10 [x] s
def stuckL (q : QP) (x : Nat × Nat) (s : List Nat) : Bool := if q.kindV x = 3 then lacksL 6 [x] s else lacksL 2 (QP.halvesQ q x) s
def movedL (q : QP) (x : Nat × Nat) (s : List Nat) : Nat := if q.kindV x = 3 then s.getD (slotQ x) 0 else 2
/-- one place in a row of its own -/
theorem place_one (W : World) (x : Nat × Nat) {n : Nat} (hn : W.heap.size = n) : PlacesAt n (W.alloc (.cells #[.int .i64 (x.1 : Nat), .int .i64 (x.2 : Nat)] 119)) (.slice (some ⟨n, 0, none⟩) 1 1) [x] := by
  subst hn; exact places_new W [x] (by simp)
theorem place_two (W : World) (x y : Nat × Nat) {n : Nat} (hn : W.heap.size = n) : PlacesAt n (W.alloc (.cells #[.int .i64 (x.1 : Nat), .int .i64 (x.2 : Nat), .int .i64 (y.1 : Nat), .int .i64 (y.2 : Nat)] 119)) (.slice (some ⟨n, 0, none⟩) 2 2) [x, y] := by
  subst hn; exact places_new W [x, y] (by simp)
theorem halves_in {q : QP} {x : Nat × Nat} {n : Nat} (h : x.1 < n) : ∀ y ∈ QP.halvesQ q x, y.1 < n := by
  intro y hy
  unfold QP.halvesQ at hy
  split at hy
  · simp only [List.mem_cons, List.not_mem_nil, or_false] at hy
    rcases hy with rfl | rfl <;> exact h
  · simp only [List.mem_singleton] at hy; subst hy; exact h
set_option maxRecDepth 20000 in
set_option maxHeartbeats 1000000 in
theorem shut_any (b : Nat) (x : Nat × Nat) (s : List Nat) (w : World) (hs : StAt w b s) (hx : x.1 < 12) (hv : ∀ k, s.getD k 0 < 16) :
    Calls Tryz.prog 220 #[.pointer (some ⟨b, 0, none⟩), .agg #[.int .i64 (x.1 : Nat), .int .i64 (x.2 : Nat)]] w fun e w' => e = .returned (.bool (shutL x s)) ∧ Below w.heap.size w w' := by
  have hbA : Below w.heap.size w (w.alloc (.cells #[.int .i64 (x.1 : Nat), .int .i64 (x.2 : Nat)] 119)) := (Below.refl _ _).alloc (Nat.le_refl _) _
  have hbB := hbA.alloc hbA.size (.cells #[.int .i64 (x.1 : Nat), .int .i64 (x.2 : Nat)] 119)
  have KL := lacks_any 10 b _ 1 1 _ [x] s _ (hs.below hbB hs.lt) (place_one (w.alloc (.cells #[.int .i64 (x.1 : Nat), .int .i64 (x.2 : Nat)] 119)) x (n := w.heap.size + 1) (by simp)) (fun y hy => by simp only [List.mem_singleton] at hy; subst hy; exact hx) hv (by simp)
  by_cases h3 : x.2 = 3
  · have b3 : (((x.2 : Nat) : Int) == 3) = true := by rw [h3]; rfl
    have hr : shutL x s = lacksL 10 [x] s := by rw [shutL, h3]; rfl
    rw [hr]
    clear h3 hr
    generalize lacksL 10 [x] s = r at *
    go_enter Tryz.func220, Tryz.ntmps220
    go_wp2_with (go_at_call 219; refine KL.mono ?_; rintro e w1 ⟨rfl, hb1⟩)
    go_ret
    exact ⟨rfl, hbB.trans (hb1.mono hbB.size)⟩
  · have b3 : (((x.2 : Nat) : Int) == 3) = false := by rw [beq_eq_false_iff_ne]; omega
    have hr : shutL x s = false := by rw [shutL, show (x.2 == 3) = false by simpa using h3]; rfl
    rw [hr]
    clear h3 hr KL
    go_enter Tryz.func220, Tryz.ntmps220
    go_wp2
    go_ret
    exact ⟨rfl, hbA⟩
set_option maxRecDepth 20000 in
set_option maxHeartbeats 1000000 in
theorem stuck_any (q : QP) (b : Nat) (x : Nat × Nat) (s : List Nat) (v u : Value) (a : Nat) (w : World) (hp : w.heap[a]? = some (.cells #[v, u] 110 (0, 0))) (hl : LocAt w v q.locals) (hls : q.locals.length ≤ 4000) (hxl : x.1 < q.locals.length) (hs : StAt w b s) (hx : x.1 < 12) (hv : ∀ k, s.getD k 0 < 16) :
    Calls Tryz.prog 221 #[.pointer (some ⟨b, 0, none⟩), .pointer (some ⟨a, 0, none⟩), .agg #[.int .i64 (x.1 : Nat), .int .i64 (x.2 : Nat)]] w fun e w' => e = .returned (.bool (stuckL q x s)) ∧ Below w.heap.size w w' := by
  have hbA : Below w.heap.size w (w.alloc (.cells #[.int .i64 (x.1 : Nat), .int .i64 (x.2 : Nat)] 119)) := (Below.refl _ _).alloc (Nat.le_refl _) _
  have hlt := lt_of_heap hp
  have hpb : ∀ w', Below w.heap.size w w' → w'.heap[a]? = some (.cells #[v, u] 110 (0, 0)) := fun w' hb => by rw [hb.block a hlt]; exact hp
  have KK := kind_any q x v u a _ (hpb _ hbA) (hl.below hbA) hls hxl
  have KH := fun w' (hb : Below w.heap.size w w') => halves_any q x v u a w' (hpb _ hb) (hl.below hb) hxl
  have c0 : ∀ w', Below (w.alloc (.cells #[.int .i64 (x.1 : Nat), .int .i64 (x.2 : Nat)] 119)).heap.size (w.alloc (.cells #[.int .i64 (x.1 : Nat), .int .i64 (x.2 : Nat)] 119)) w' → w'.cell? ⟨w.heap.size, 0, none⟩ = some (.int .i64 (x.1 : Nat)) ∧ w'.cell? ⟨w.heap.size, 1, none⟩ = some (.int .i64 (x.2 : Nat)) := fun w' hb =>
    ⟨(hb.cell (p := ⟨w.heap.size, 0, none⟩) (by simp)).trans (by simp), (hb.cell (p := ⟨w.heap.size, 1, none⟩) (by simp)).trans (by simp)⟩
  by_cases h3 : q.kindV x = 3
  · have hr : stuckL q x s = lacksL 6 [x] s := by rw [stuckL, if_pos h3]
    have KL := fun (W : World) (hb : Below w.heap.size w W) => lacks_any 6 b _ 1 1 _ [x] s _ (hs.below (hb.alloc hb.size _) hs.lt) (place_one W x (n := W.heap.size) rfl) (fun y hy => by simp only [List.mem_singleton] at hy; subst hy; exact hx) hv (by simp)
    rw [hr]
    rw [h3] at KK
    clear h3 hr KH
    generalize lacksL 6 [x] s = r at *
    go_enter Tryz.func221, Tryz.ntmps221
    go_wp2_with (first
      | (go_at_call 207; refine KK.mono ?_; rintro e w1 ⟨rfl, hb1⟩; have hB1 := hbA.trans (hb1.mono hbA.size); obtain ⟨y0, y1⟩ := c0 _ hb1)
      | (go_at_call 219; refine (KL w1 hB1).mono ?_; rintro e w2 ⟨rfl, hb2⟩))
    go_ret
    have hB2 := hB1.alloc hB1.size (.cells #[.int .i64 (x.1 : Nat), .int .i64 (x.2 : Nat)] 119)
    exact ⟨rfl, hB2.trans (hb2.mono hB2.size)⟩
  · have hr : stuckL q x s = lacksL 2 (QP.halvesQ q x) s := by rw [stuckL, if_neg h3]
    have KL := fun (W : World) (g c : Nat) (hb : Below w.heap.size w W) (z : Nat) (hP : PlacesAt z W (.slice (some ⟨g, 0, none⟩) (QP.halvesQ q x).length c) (QP.halvesQ q x)) => lacks_any 2 b z _ c _ (QP.halvesQ q x) s W (hs.below hb hs.lt) hP (halves_in hx) hv (by simp)
    have b3 : (((q.kindV x : Nat) : Int) == 3) = false := by rw [beq_eq_false_iff_ne]; omega
    rw [hr]
    clear h3 hr
    generalize lacksL 2 (QP.halvesQ q x) s = r at *
    generalize QP.halvesQ q x = hv' at *
    generalize q.kindV x = kv at *
    go_enter Tryz.func221, Tryz.ntmps221
    go_wp2_with (first
      | (go_at_call 207; refine KK.mono ?_; rintro e w1 ⟨rfl, hb1⟩; have hB1 := hbA.trans (hb1.mono hbA.size); obtain ⟨y0, y1⟩ := c0 _ hb1)
      | (go_at_call 102; refine (KH w1 hB1).mono ?_; rintro e w2 ⟨g, c, rfl, hP2, hb2⟩; have hB2 := hB1.trans (hb2.mono hB1.size))
      | (go_at_call 219; refine (KL w2 g c hB2 _ hP2).mono ?_; rintro e w3 ⟨rfl, hb3⟩))
    go_ret
    exact ⟨rfl, hB2.trans (hb3.mono hB2.size)⟩
set_option maxRecDepth 20000 in
set_option maxHeartbeats 1000000 in
theorem moved_any (q : QP) (b : Nat) (x : Nat × Nat) (s : List Nat) (v u : Value) (a : Nat) (w : World) (hp : w.heap[a]? = some (.cells #[v, u] 110 (0, 0))) (hl : LocAt w v q.locals) (hls : q.locals.length ≤ 4000) (hxl : x.1 < q.locals.length) (hs : StAt w b s) (hx : x.1 < 12) :
    Calls Tryz.prog 178 #[.pointer (some ⟨b, 0, none⟩), .pointer (some ⟨a, 0, none⟩), .agg #[.int .i64 (x.1 : Nat), .int .i64 (x.2 : Nat)]] w fun e w' => e = .returned (.int .u8 (movedL q x s : Nat)) ∧ Below w.heap.size w w' := by
  have hbA : Below w.heap.size w (w.alloc (.cells #[.int .i64 (x.1 : Nat), .int .i64 (x.2 : Nat)] 119)) := (Below.refl _ _).alloc (Nat.le_refl _) _
  have hlt := lt_of_heap hp
  have hpb : ∀ w', Below w.heap.size w w' → w'.heap[a]? = some (.cells #[v, u] 110 (0, 0)) := fun w' hb => by rw [hb.block a hlt]; exact hp
  have KK := kind_any q x v u a _ (hpb _ hbA) (hl.below hbA) hls hxl
  have c0 : ∀ w', Below (w.alloc (.cells #[.int .i64 (x.1 : Nat), .int .i64 (x.2 : Nat)] 119)).heap.size (w.alloc (.cells #[.int .i64 (x.1 : Nat), .int .i64 (x.2 : Nat)] 119)) w' → w'.cell? ⟨w.heap.size, 0, none⟩ = some (.int .i64 (x.1 : Nat)) ∧ w'.cell? ⟨w.heap.size, 1, none⟩ = some (.int .i64 (x.2 : Nat)) := fun w' hb =>
    ⟨(hb.cell (p := ⟨w.heap.size, 0, none⟩) (by simp)).trans (by simp), (hb.cell (p := ⟨w.heap.size, 1, none⟩) (by simp)).trans (by simp)⟩
  by_cases h3 : q.kindV x = 3
  · have hr : movedL q x s = s.getD (slotQ x) 0 := by rw [movedL, if_pos h3]
    have hsl : slotQ x < 24 := by unfold slotQ; split <;> omega
    have hsi : (slotQ x : Int) < 24 := by omega
    obtain ⟨vv, hvv⟩ : ∃ vv, vv = s.getD (slotQ x) 0 := ⟨_, rfl⟩
    rw [hr, ← hvv]
    rw [h3] at KK
    have HV : Hid (s.getD (slotQ x) 0 = vv) := hvv.symm
    have KS := fun w' => slot_any x w' (by omega)
    clear h3 hr hvv
    go_enter Tryz.func178, Tryz.ntmps178
    go_upto_region 3 with (go_at_call 207; refine KK.mono ?_; rintro e w1 ⟨rfl, hb1⟩; have hB1 := hbA.trans (hb1.mono hbA.size); obtain ⟨y0, y1⟩ := c0 _ hb1)
    have KSd := KS w1.drew
    go_region_with (go_at_call 62; refine KSd.mono ?_; rintro e w2 ⟨rfl, hb2⟩; have hb2' : Below w1.heap.size w1 w2 := ⟨hb2.os, hb2.tape, hb2.output, hb2.size, hb2.block⟩; have hB2 := hB1.trans (hb2'.mono hB1.size); have s1 := ((hs.below hB2 hs.lt).cell (slotQ x) hsl).trans (by rw [HV.out]))
    all_goals go_wp2_with fail
    all_goals
      go_ret
      exact ⟨rfl, hB2⟩
  · have hr : movedL q x s = 2 := by rw [movedL, if_neg h3]
    have b3 : (((q.kindV x : Nat) : Int) == 3) = false := by rw [beq_eq_false_iff_ne]; omega
    rw [hr]
    clear h3 hr
    generalize q.kindV x = kv at *
    go_enter Tryz.func178, Tryz.ntmps178
    go_wp2_with (go_at_call 207; refine KK.mono ?_; rintro e w1 ⟨rfl, hb1⟩; have hB1 := hbA.trans (hb1.mono hbA.size))
    go_ret
    exact ⟨rfl, hB1⟩
theorem matched_any (i : Nat) (w : World) : Calls Tryz.prog 218 #[.int .i64 (i : Nat)] w fun e w' => e = .returned (.int .u8 ((if i = 0 then 4 else 2 : Nat) : Nat)) ∧ w' = w := by
  by_cases h : i = 0
  · subst h
    go_enter Tryz.func218, Tryz.ntmps218
    go_wp2
    go_ret
    exact ⟨rfl, rfl⟩
  · have b0 : ((i : Int) == 0) = false := by rw [beq_eq_false_iff_ne]; omega
    rw [if_neg h]
    clear h
    go_enter Tryz.func218, Tryz.ntmps218
    go_wp2
    go_ret
    exact ⟨rfl, rfl⟩
end Go.Proofs.YtmlgajhhnojdjaaGreatDoor.FlwD
