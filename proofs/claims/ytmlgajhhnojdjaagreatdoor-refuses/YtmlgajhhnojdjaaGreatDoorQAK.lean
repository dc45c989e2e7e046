/- What is known of all ways, in memory: the states ahead of the blocks, and the blocks that are open. -/
import Derived.Test.YtmlgajhhnojdjaaGreatDoorQAJ
import Derived.Maps.RangeWalk
namespace Go.Proofs.YtmlgajhhnojdjaaGreatDoor.FlwJ
open Go Go.RowKit Go.Proofs.YtmlgajhhnojdjaaGreatDoor.Spec Go.Proofs.YtmlgajhhnojdjaaGreatDoor.Aux Go.Proofs.YtmlgajhhnojdjaaGreatDoor.PrjF Go.Proofs.YtmlgajhhnojdjaaGreatDoor.PrjG Go.Proofs.YtmlgajhhnojdjaaGreatDoor.PrjJ Go.Proofs.YtmlgajhhnojdjaaGreatDoor.PrjK Go.Proofs.YtmlgajhhnojdjaaGreatDoor.PrjL Go.Proofs.YtmlgajhhnojdjaaGreatDoor.PrjM Go.Proofs.YtmlgajhhnojdjaaGreatDoor.PrjO Go.Proofs.YtmlgajhhnojdjaaGreatDoor.FlwB Go.Proofs.YtmlgajhhnojdjaaGreatDoor.FlwE Go.Proofs.YtmlgajhhnojdjaaGreatDoor.FlwF

/-- of what was there nothing but two blocks has turned -/
structure Turn2 (x y : Nat) (w w' : World) : Prop where
  os : w'.os = w.os
  tape : w'.tape = w.tape
  output : w'.output = w.output
  size : w.heap.size ≤ w'.heap.size
  block : ∀ k, k < w.heap.size → k ≠ x → k ≠ y → w'.heap[k]? = w.heap[k]?
section
variable {x y b B : Nat} {w w1 w2 : World}
theorem Turn2.refl (x y : Nat) (w : World) : Turn2 x y w w := ⟨rfl, rfl, rfl, Nat.le_refl _, fun _ _ _ _ => rfl⟩
theorem Turn2.trans (h : Turn2 x y w w1) (h' : Turn2 x y w1 w2) : Turn2 x y w w2 :=
  ⟨h'.os.trans h.os, h'.tape.trans h.tape, h'.output.trans h.output, Nat.le_trans h.size h'.size, fun k hk h1 h2 => (h'.block k (Nat.lt_of_lt_of_le hk h.size) h1 h2).trans (h.block k hk h1 h2)⟩
theorem Turn2.ofBelow (h : Below w.heap.size w w1) : Turn2 x y w w1 := ⟨h.os, h.tape, h.output, h.size, fun k hk _ _ => h.block k hk⟩
theorem Turn2.on (h : Turn2 x y w w1) (h' : Below w1.heap.size w1 w2) : Turn2 x y w w2 := h.trans (.ofBelow h')
theorem Turn2.left (h : Turn x w w1) : Turn2 x y w w1 := ⟨h.os, h.tape, h.output, h.size, fun k hk h1 _ => h.block k hk h1⟩
theorem Turn2.right (h : w.grownBy w1 (some y)) : Turn2 x y w w1 := ⟨h.os, h.tape, h.output, h.size, fun k hk _ h2 => h.block k hk (by simpa using h2)⟩
/-- what was made since has turned too -/
theorem Turn2.since (h : Turn2 x y w w1) (h' : Turn b w1 w2) (hb : w.heap.size ≤ b) : Turn2 x y w w2 :=
  ⟨h'.os.trans h.os, h'.tape.trans h.tape, h'.output.trans h.output, Nat.le_trans h.size h'.size, fun k hk h1 h2 => (h'.block k (Nat.lt_of_lt_of_le hk h.size) (by omega)).trans (h.block k hk h1 h2)⟩
theorem Turn2.below (h : Turn2 x y w w1) (hx : B ≤ x) (hy : B ≤ y) (hB : B ≤ w.heap.size) : Below B w w1 := ⟨h.os, h.tape, h.output, h.size, fun k hk => h.block k (by omega) (by omega) (by omega)⟩
end
/-! sets of numbers -/
def setO (O : Nat → Bool) (b : Nat) (v : Bool) : Nat → Bool := fun c => if c = b then v else O c
def cntO (O : Nat → Bool) : Nat → Nat
  | 0 => 0
  | n + 1 => cntO O n + (if O n = true then 1 else 0)
theorem cntO_le (O : Nat → Bool) : ∀ n, cntO O n ≤ n
  | 0 => Nat.le_refl _
  | n + 1 => by have := cntO_le O n; unfold cntO; split <;> omega
theorem cntO_congr {O O' : Nat → Bool} : ∀ n, (∀ b, b < n → O b = O' b) → cntO O n = cntO O' n
  | 0, _ => rfl
  | n + 1, h => by unfold cntO; rw [cntO_congr n (fun b hb => h b (by omega)), h n (by omega)]
theorem cntO_zero {O : Nat → Bool} : ∀ n, cntO O n = 0 → ∀ b, b < n → O b = false
  | 0, _, b, hb => by omega
  | n + 1, h, b, hb => by
    unfold cntO at h
    by_cases hn : O n = true
    · rw [if_pos hn] at h; omega
    · rw [if_neg hn] at h
      by_cases e : b = n
      · subst e; simpa using hn
      · exact cntO_zero n (by omega) b (by omega)
theorem cntO_none {O : Nat → Bool} : ∀ n, (∀ b, b < n → O b = false) → cntO O n = 0
  | 0, _ => rfl
  | n + 1, h => by unfold cntO; rw [cntO_none n (fun b hb => h b (by omega)), h n (by omega)]; rfl
theorem cntO_set {O : Nat → Bool} {b : Nat} (h0 : O b = false) : ∀ n, b < n → cntO (setO O b true) n = cntO O n + 1
  | 0, h => by omega
  | n + 1, h => by
    unfold cntO
    by_cases e : b = n
    · subst e
      rw [cntO_congr b (O' := O) (fun c hc => by unfold setO; rw [if_neg (by omega)]), h0]; simp [setO]
    · rw [cntO_set h0 n (by omega)]
      have : setO O b true n = O n := by unfold setO; rw [if_neg (by omega)]
      rw [this]; omega
theorem setO_same {O : Nat → Bool} {b : Nat} {v : Bool} (h : O b = v) : setO O b v = O := by
  funext c; unfold setO; split
  · rename_i e; rw [e, h]
  · rfl
theorem cntO_del {O : Nat → Bool} {b : Nat} (h1 : O b = true) (n : Nat) (hb : b < n) : cntO (setO O b false) n + 1 = cntO O n := by
  have e : setO (setO O b false) b true = O := by
    funext c; unfold setO; split
    · rename_i e; rw [e, h1]
    · rfl
  rw [← cntO_set (O := setO O b false) (by simp [setO]) n hb, e]
/-! the blocks that are open -/
def keyI (b : Nat) : Lit := .int .i64 (b : Nat)
theorem keyI_inj {a b : Nat} (h : keyI a = keyI b) : a = b := by simp only [keyI, Lit.int.injEq, true_and] at h; omega
theorem keyI_wf {b : Nat} (h : b ≤ 100000) : (keyI b).wf = true := WalkArith.wf_i64 (by omega)
theorem kint : Maps.Keyed Tryz.prog 3 := Maps.int_keyed Tryz.underlying3
theorem keyOf_b {b : Nat} (h : b ≤ 100000) : keyOf Tryz.prog 3 (.int .i64 (b : Nat)) = some (keyI b) := Maps.keyOf_int_mk Tryz.underlying3 (keyI_wf h)
def OpenAt (w : World) (mb N : Nat) (O : Nat → Bool) : Prop :=
  ∃ D : DataW Unit, w.ownsMap Tryz.prog 3 unitElem mb N D ∧ (∀ b, O b = true → b < N) ∧ (∀ kl, Maps.has D kl = true ↔ ∃ b, kl = keyI b ∧ O b = true) ∧ Maps.size D = cntO O N
section
variable {w w' : World} {mb N : Nat} {O : Nat → Bool}
theorem own_tight {P : Program} {k : TypeId} {R : Value → Option (DataW Unit × List MemPlace)} {n m : Nat} {D : DataW Unit} (h : w.ownsMap P k R mb n D) (hm : Maps.size D ≤ m) : w.ownsMap P k R mb m D := by
  obtain ⟨es, clock, h1, h2, h3, rfl⟩ := h
  refine ⟨es, clock, h1, h2, ?_, rfl⟩
  rw [Maps.size_eq, length_read] at hm; exact hm
theorem OpenAt.lt (h : OpenAt w mb N O) : mb < w.heap.size := by obtain ⟨D, h, -⟩ := h; exact h.lt
theorem OpenAt.isMap (h : OpenAt w mb N O) : ∃ es clock, w.heap[mb]? = some (.map es clock) := by obtain ⟨D, ⟨es, clock, h, -⟩, -⟩ := h; exact ⟨es, clock, h⟩
theorem OpenAt.heap (h : OpenAt w mb N O) (he : w'.heap[mb]? = w.heap[mb]?) : OpenAt w' mb N O := by
  obtain ⟨D, ⟨es, clock, hb, r⟩, h'⟩ := h
  exact ⟨D, ⟨es, clock, he.trans hb, r⟩, h'⟩
theorem OpenAt.below (h : OpenAt w mb N O) (hb : Below w.heap.size w w') : OpenAt w' mb N O := h.heap (hb.block mb h.lt)
theorem OpenAt.bound (h : OpenAt w mb N O) {b : Nat} (hb : O b = true) : b < N := by obtain ⟨D, -, h, -⟩ := h; exact h b hb
theorem OpenAt.made (w : World) (N : Nat) : OpenAt (w.alloc (.map #[] 0)) w.heap.size N (fun _ => false) :=
  ⟨.map [], (World.ownsMap_made w _ _ _).mono (Nat.zero_le _), fun _ h => (by cases h), fun kl => ⟨fun h => (by cases h), fun ⟨_, _, h⟩ => (by cases h)⟩, (cntO_none N fun _ _ => rfl).symm⟩
theorem open_put {D : DataW Unit} {b : Nat} (hO : ∀ b, O b = true → b < N) (hD : w.ownsMap Tryz.prog 3 unitElem mb N D) (hh : ∀ kl, Maps.has D kl = true ↔ ∃ b, kl = keyI b ∧ O b = true) (hs : Maps.size D = cntO O N)
    (hb : b < N) (h : w'.ownsMap Tryz.prog 3 unitElem mb (N + 1) (D.put (keyI b) (.agg []))) : OpenAt w' mb N (setO O b true) := by
  have hkey : WideAt.IsKeyLit (keyI b) := trivial
  have hh' : ∀ kl, Maps.has (D.put (keyI b) (.agg [])) kl = true ↔ ∃ c, kl = keyI c ∧ setO O b true c = true := by
    intro kl
    by_cases e : kl = keyI b
    · subst e
      rw [Maps.has_put_same hD.isMap hkey]
      exact ⟨fun _ => ⟨b, rfl, by simp [setO]⟩, fun _ => rfl⟩
    · rw [Maps.has_put_other e, hh]
      constructor
      · rintro ⟨c, rfl, hc⟩
        exact ⟨c, rfl, by unfold setO; split <;> simp [hc]⟩
      · rintro ⟨c, rfl, hc⟩
        refine ⟨c, rfl, ?_⟩
        unfold setO at hc
        rw [if_neg (fun x => e (by rw [x]))] at hc; exact hc
  have hsz : Maps.size (D.put (keyI b) (.agg [])) = cntO (setO O b true) N := by
    rw [Maps.size_put (hD.tidy kint)]
    cases hb0 : O b with
    | true =>
      rw [if_pos ((hh _).2 ⟨b, rfl, hb0⟩), setO_same hb0, hs]
    | false =>
      rw [if_neg (fun x => by obtain ⟨c, hc, hc'⟩ := (hh _).1 x; rw [← keyI_inj hc, hb0] at hc'; cases hc'), cntO_set hb0 N hb, hs]
  refine ⟨_, own_tight h (by rw [hsz]; exact cntO_le _ _), fun c hc => ?_, hh', hsz⟩
  unfold setO at hc
  split at hc
  · omega
  · exact hO c hc
theorem open_del {D : DataW Unit} {b : Nat} (hO : ∀ b, O b = true → b < N) (hD : w.ownsMap Tryz.prog 3 unitElem mb N D) (hh : ∀ kl, Maps.has D kl = true ↔ ∃ b, kl = keyI b ∧ O b = true) (hs : Maps.size D = cntO O N)
    (h : w'.ownsMap Tryz.prog 3 unitElem mb N (D.del (keyI b))) : OpenAt w' mb N (setO O b false) := by
  have hh' : ∀ kl, Maps.has (D.del (keyI b)) kl = true ↔ ∃ c, kl = keyI c ∧ setO O b false c = true := by
    intro kl
    by_cases e : kl = keyI b
    · subst e
      rw [Maps.has_del_same]
      refine ⟨fun h => (by cases h), fun ⟨c, hc, hc'⟩ => ?_⟩
      rw [← keyI_inj hc] at hc'; simp [setO] at hc'
    · rw [Maps.has_del_other e, hh]
      constructor
      · rintro ⟨c, rfl, hc⟩
        exact ⟨c, rfl, by unfold setO; rw [if_neg (fun x => e (by rw [x]))]; exact hc⟩
      · rintro ⟨c, rfl, hc⟩
        refine ⟨c, rfl, ?_⟩
        unfold setO at hc
        rw [if_neg (fun x => e (by rw [x]))] at hc; exact hc
  refine ⟨_, h, fun c hc => ?_, hh', ?_⟩
  · unfold setO at hc
    split at hc
    · cases hc
    · exact hO c hc
  · have := Maps.size_del (k := keyI b) (hD.tidy kint)
    cases hb0 : O b with
    | true =>
      rw [if_pos ((hh _).2 ⟨b, rfl, hb0⟩), hs] at this
      have := cntO_del hb0 N (hO b hb0)
      omega
    | false =>
      rw [if_neg (fun x => by obtain ⟨c, hc, hc'⟩ := (hh _).1 x; rw [← keyI_inj hc, hb0] at hc'; cases hc'), hs] at this
      rw [setO_same hb0]; exact this
end
section
variable (w : World) {ops : Array Oper} {rest : List Oper} {o : Oper} {a : Act} {Q : Exit → Act → World → Prop} {mb N : Nat} {O : Nat → Bool}
theorem wpList_open_put (hg : o.guard = none) (m x v : Operand) (hop : o.op = Op.mapUpdate 163 m x v) (b : Nat) (hm : a.eval m = .map (some mb)) (hx : a.eval x = .int .i64 (b : Nat)) (hv : a.eval v = .agg #[])
    (h : OpenAt w mb N O) (hb : b < N) (hN : N ≤ 4000) (hK : ∀ w', OpenAt w' mb N (setO O b true) → w.grownBy w' (some mb) → wpList Tryz.prog ops Q rest (a.put o.dst undef) w') : wpList Tryz.prog ops Q (o :: rest) a w := by
  obtain ⟨D, hD, hO, hh, hs⟩ := h
  exact wpList_mapUpdate_own w hg m x v _ hop _ _ kint Tryz.underlying163 unitElem mb N D hm hD (by unfold maxLen; omega) _ _ (keyI b) hx hv (keyOf_b (by omega)) (.agg []) [] unitElem_mk
    fun w' h1 h2 => hK w' (open_put hO hD hh hs hb h1) h2
theorem wpList_open_del (hg : o.guard = none) (m x : Operand) (hop : o.op = Op.call { callee := Callee.builtin Builtin.delete, args := #[m, x], argTypes := #[163, 3] }) (b : Nat) (hm : a.eval m = .map (some mb)) (hx : a.eval x = .int .i64 (b : Nat))
    (h : OpenAt w mb N O) (hb : b ≤ 100000) (hK : ∀ w', OpenAt w' mb N (setO O b false) → w.grownBy w' (some mb) → wpList Tryz.prog ops Q rest (a.put o.dst (.tuple #[])) w') : wpList Tryz.prog ops Q (o :: rest) a w := by
  obtain ⟨D, hD, hO, hh, hs⟩ := h
  exact wpList_delete_own w hg m x _ _ hop _ kint Tryz.underlying163 unitElem mb N D hm hD _ (keyI b) hx (keyOf_b hb) fun w' h1 h2 => hK w' (open_del hO hD hh hs h1) h2.grown
theorem wpList_open_len (hg : o.guard = none) (m : Operand) (hop : o.op = Op.call { callee := Callee.builtin Builtin.len, args := #[m], argTypes := #[163] }) (hm : a.eval m = .map (some mb)) (h : OpenAt w mb N O)
    (hK : wpList Tryz.prog ops Q rest (a.put o.dst (.int .i64 (cntO O N : Nat))) w) : wpList Tryz.prog ops Q (o :: rest) a w := by
  obtain ⟨D, hD, hO, hh, hs⟩ := h
  refine wpList_len_own w hg m _ hop _ _ Tryz.underlying163 unitElem mb N D hm hD ?_
  rw [hs]; exact hK
end
theorem run_clear {w : World} {mb N : Nat} {O : Nat → Bool} (h : OpenAt w mb N O) : ∃ w', (∀ ty, (Builtin.clear_ #[163] ty #[.map (some mb)]).run Tryz.prog w = .ok (.tuple #[]) w') ∧ OpenAt w' mb N (fun _ => false) ∧ w.grownBy w' (some mb) := by
  obtain ⟨es, clock, hb⟩ := h.isMap
  have hrun : ∀ ty, (Builtin.clear_ #[163] ty #[.map (some mb)]).run Tryz.prog w = .ok (.tuple #[]) (ChangeMaps.setBlock w mb (.map #[] clock)) := fun ty => by
    simp [Builtin.clear_, run_underlying Tryz.underlying163, MapKept.run_getObj_map hb, MapKept.run_setObj_map _ hb, Result.andThen, ChangeMaps.setBlock]
  refine ⟨_, hrun, ⟨.map [], ⟨#[], clock, ChangeMaps.heap_setBlock_same hb _, ⟨by simp, MapKept.stamped_empty clock, by simp⟩, Nat.zero_le _, rfl⟩, fun _ h => (by cases h), fun kl => ⟨fun h => (by cases h), fun ⟨_, _, h⟩ => (by cases h)⟩, (cntO_none N fun _ _ => rfl).symm⟩, ⟨rfl, rfl, rfl, by simp [ChangeMaps.setBlock], fun i _ hi => ChangeMaps.heap_setBlock_other hb _ (fun e => hi (by rw [e]))⟩⟩
/-! the states ahead of the blocks -/
structure SOk (s : List Nat) : Prop where
  len : s.length = 24
  lt : ∀ k, s.getD k 0 < 16
def RowAt (w : World) (g : Nat) (E : List (List Nat)) : Prop :=
  (∀ s ∈ E, SOk s) ∧ ∃ cs, w.heap[g]? = some (.cells cs 209 (0, 0)) ∧ cs.size = 24 * E.length ∧ ∀ i j, i < E.length → j < 24 → cs[i * 24 + j]? = some (.int .u8 ((E.getD i []).getD j 0 : Nat))
theorem getD_in {E : List (List Nat)} {i : Nat} (h : i < E.length) : E.getD i [] ∈ E := by
  rw [List.getD_eq_getElem?_getD, List.getElem?_eq_getElem h]; exact List.getElem_mem h
theorem getD_set (E : List (List Nat)) (i : Nat) (t : List Nat) (hi : i < E.length) (a : Nat) : (E.set i t).getD a [] = if a = i then t else E.getD a [] := by
  simp only [List.getD_eq_getElem?_getD, List.getElem?_set]
  by_cases h : a = i
  · subst h; simp [hi]
  · rw [if_neg (fun e => h e.symm), if_neg h]
section
variable {w w' : World} {g : Nat} {E : List (List Nat)}
theorem RowAt.lt (h : RowAt w g E) : g < w.heap.size := by obtain ⟨-, cs, h, -⟩ := h; exact lt_of_heap h
theorem RowAt.ok (h : RowAt w g E) {i : Nat} (hi : i < E.length) : SOk (E.getD i []) := h.1 _ (getD_in hi)
theorem RowAt.heap (h : RowAt w g E) (he : w'.heap[g]? = w.heap[g]?) : RowAt w' g E := by
  obtain ⟨h0, cs, h, r⟩ := h; exact ⟨h0, cs, he.trans h, r⟩
theorem RowAt.range (h : RowAt w g E) (i : Nat) (hi : i < E.length) : w.rangeAt g (i * 24) (stCells (E.getD i [])) := fun j v hv => by
  have hl := (h.ok hi).len
  obtain ⟨-, cs, h, -, h'⟩ := h
  have hj : j < 24 := by have := (List.getElem?_eq_some_iff.mp hv).1; rw [stCells_len, hl] at this; exact this
  rw [cell_of_heap h, h' i j hi hj, ← hv]
  have : j < (E.getD i []).length := by rw [hl]; exact hj
  generalize E.getD i [] = s at *
  simp [stCells, this]
theorem RowAt.has (h : RowAt w g E) (i : Nat) (hi : i < E.length) : HasSt w g (i * 24) := ⟨_, (h.ok hi).len, h.range i hi⟩
theorem RowAt.of (h : RowAt w g E) (i : Nat) (hi : i < E.length) : stOf w g (i * 24) = (stCells (E.getD i [])).toArray := stOf_eq (h.ok hi).len (h.range i hi)
theorem RowAt.room (h : RowAt w g E) (i : Nat) (hi : i < E.length) : RoomSt w g (i * 24) := fun j hj => by
  obtain ⟨-, cs, h, hs, h'⟩ := h
  rw [cell_of_heap h, frozen_of_heap h, h' i j hi hj]; exact ⟨rfl, rfl⟩
theorem RowAt.store (h : RowAt w g E) (i : Nat) (hi : i < E.length) {t : List Nat} (ht : SOk t) : RowAt (w.setCells g (i * 24) (stCells t)) g (E.set i t) := by
  obtain ⟨h0, cs, h, hs, h'⟩ := h
  obtain ⟨cs', h1, h2, h3⟩ := heap_setCells g (stCells t) (i * 24) w _ _ _ h
  have hl : (stCells t).length = 24 := by rw [stCells_len]; exact ht.len
  refine ⟨fun s hs => ?_, cs', h1, by rw [h2, hs]; simp, fun a j ha hj => ?_⟩
  · rcases List.mem_or_eq_of_mem_set hs with h | h
    · exact h0 s h
    · rw [h]; exact ht
  rw [List.length_set] at ha
  rw [h3, getD_set E i t hi, hl]
  by_cases hai : a = i
  · subst hai
    have : j < t.length := by rw [ht.len]; exact hj
    rw [if_pos (by omega), if_pos rfl, show a * 24 + j - a * 24 = j by omega]
    simp [stCells, this]
  · rw [if_neg (by omega), if_neg hai]
    exact h' a j ha hj
end
theorem keepRows {z a : Nat} {w w' : World} {q : QP} {vl vb : Value} {us : List Value} {vss : List (List (Value × Value))} (h : PAt z a w q vl vb us vss)
    (key : ∀ (g : Nat) (cs : Array Value) (e : TypeId) (f : Nat × Nat), w.heap[g]? = some (.cells cs e f) → e ≠ 209 → w'.heap[g]? = w.heap[g]?) : PAt z a w' q vl vb us vss := by
  have kr : ∀ {e : TypeId} {s : Nat} {v : Value} {n : Nat} {xs : List Value}, e ≠ 209 → w.ownsRow z e s v n xs → w'.ownsRow z e s v n xs := fun {e s v n xs} he hv =>
    own_heap hv fun g hg => by
      rcases hv.2 with ⟨e', -⟩ | ⟨g', cap, cur, e', -, hg', -⟩
      · rw [e'] at hg; cases hg
      · rw [e'] at hg; simp only [Value.ownBlock, Option.some.injEq] at hg; subst hg
        exact key _ _ _ _ hg' he
  exact ⟨h.base, (key _ _ _ _ h.blk (by decide)).trans h.blk, kr (by decide) h.locals, kr (by decide) h.blocks,
    fun j hj => (h.each j hj).keep (kr (by decide) (h.each j hj).row) (fun he hv => kr (by rcases he with rfl | rfl <;> decide) hv), h.apart⟩
/-- all that is known of the ways -/
structure WAt (z x a ap mb : Nat) (w : World) (q : QP) (vl vb : Value) (us : List Value) (vss : List (List (Value × Value))) (E : List (List Nat)) (O : Nat → Bool) : Prop where
  blk : w.heap[x]? = some (.cells #[.pointer (some ⟨a, 0, none⟩), .slice (some ⟨ap, 0, none⟩) q.blocks.length q.blocks.length, .map (some mb)] 165 (0, 0))
  prog : PAt z a w q vl vb us vss
  len : E.length = q.blocks.length
  row : RowAt w ap E
  opn : OpenAt w mb q.blocks.length O
section
variable {z x a ap mb : Nat} {w w' : World} {q : QP} {vl vb : Value} {us : List Value} {vss : List (List (Value × Value))} {E E' : List (List Nat)} {O O' : Nat → Bool}
theorem WAt.lt (h : WAt z x a ap mb w q vl vb us vss E O) : x < w.heap.size := lt_of_heap h.blk
theorem WAt.facts (h : WAt z x a ap mb w q vl vb us vss E O) : w.cell? ⟨x, 0, none⟩ = some (.pointer (some ⟨a, 0, none⟩)) ∧ w.cell? ⟨x, 1, none⟩ = some (.slice (some ⟨ap, 0, none⟩) q.blocks.length q.blocks.length) ∧ w.cell? ⟨x, 2, none⟩ = some (.map (some mb)) :=
  ⟨(cell_of_heap h.blk 0).trans rfl, (cell_of_heap h.blk 1).trans rfl, (cell_of_heap h.blk 2).trans rfl⟩
theorem WAt.turn (h : WAt z x a ap mb w q vl vb us vss E O) (hT : Turn2 ap mb w w') (hl : E'.length = E.length) (hr : RowAt w' ap E') (ho : OpenAt w' mb q.blocks.length O') : WAt z x a ap mb w' q vl vb us vss E' O' := by
  have key : ∀ (g : Nat) (cs : Array Value) (e : TypeId) (f : Nat × Nat), w.heap[g]? = some (.cells cs e f) → e ≠ 209 → w'.heap[g]? = w.heap[g]? := fun g cs e f hg he => by
    refine hT.block g (lt_of_heap hg) (fun e1 => ?_) (fun e1 => ?_)
    · obtain ⟨-, cs', h', -⟩ := h.row
      rw [e1, h'] at hg; simp only [Option.some.injEq, Obj.cells.injEq] at hg; exact he hg.2.1.symm
    · obtain ⟨es, clock, h'⟩ := h.opn.isMap
      rw [e1, h'] at hg; cases hg
  exact ⟨(key _ _ _ _ h.blk (by decide)).trans h.blk, keepRows h.prog key, by rw [hl]; exact h.len, hr, ho⟩
theorem WAt.below (h : WAt z x a ap mb w q vl vb us vss E O) (hb : Below w.heap.size w w') : WAt z x a ap mb w' q vl vb us vss E O :=
  h.turn (.ofBelow hb) rfl (h.row.heap (hb.block ap h.row.lt)) (h.opn.below hb)
/-- what was turned is neither -/
theorem WAt.other {b : Nat} (h : WAt z x a ap mb w q vl vb us vss E O) (hT : Turn b w w') {s : List Nat} (hs : StAt w b s) (hba : b ≠ ap) : WAt z x a ap mb w' q vl vb us vss E O := by
  have hbm : b ≠ mb := fun e => by
    obtain ⟨es, clock, h'⟩ := h.opn.isMap
    have := hs.2; rw [e, h'] at this; cases this
  have key : ∀ (g : Nat) (cs : Array Value) (e : TypeId) (f : Nat × Nat), w.heap[g]? = some (.cells cs e f) → e ≠ 209 → w'.heap[g]? = w.heap[g]? := fun g cs e f hg he => hT.block g (lt_of_heap hg) (fun e1 => by
    rw [e1, hs.2] at hg; simp only [Option.some.injEq, Obj.cells.injEq] at hg; exact he hg.2.1.symm)
  exact ⟨(key _ _ _ _ h.blk (by decide)).trans h.blk, keepRows h.prog key, h.len, h.row.heap (hT.block ap h.row.lt (fun e => hba e.symm)), h.opn.heap (hT.block mb h.opn.lt (fun e => hbm e.symm))⟩
end
end Go.Proofs.YtmlgajhhnojdjaaGreatDoor.FlwJ
/- A way joined into a block: lead. -/
namespace Go.Proofs.YtmlgajhhnojdjaaGreatDoor.FlwK
open Go Go.RowKit Go.Proofs.YtmlgajhhnojdjaaGreatDoor.Spec Go.Proofs.YtmlgajhhnojdjaaGreatDoor.Aux Go.Proofs.YtmlgajhhnojdjaaGreatDoor.PrjF Go.Proofs.YtmlgajhhnojdjaaGreatDoor.PrjG Go.Proofs.YtmlgajhhnojdjaaGreatDoor.PrjJ Go.Proofs.YtmlgajhhnojdjaaGreatDoor.PrjK Go.Proofs.YtmlgajhhnojdjaaGreatDoor.PrjL Go.Proofs.YtmlgajhhnojdjaaGreatDoor.PrjM Go.Proofs.YtmlgajhhnojdjaaGreatDoor.PrjO Go.Proofs.YtmlgajhhnojdjaaGreatDoor.FlwB Go.Proofs.YtmlgajhhnojdjaaGreatDoor.FlwE Go.Proofs.YtmlgajhhnojdjaaGreatDoor.FlwF Go.Proofs.YtmlgajhhnojdjaaGreatDoor.FlwI Go.Proofs.YtmlgajhhnojdjaaGreatDoor.FlwJ
attribute [local go_sem ↓] wp_load_st wp_store_st

theorem or_bits : ∀ u : Fin 16, ∀ v : Fin 16, bits .or .u8 ((u.val : Nat) : Int) ((v.val : Nat) : Int) = ((u.val ||| v.val : Nat) : Int) ∧ (u.val ||| v.val) < 16 := by decide
theorem or_of {u v : Nat} (hu : u < 16) (hv : v < 16) : bits .or .u8 (u : Int) (v : Int) = ((u ||| v : Nat) : Int) := (or_bits ⟨u, hu⟩ ⟨v, hv⟩).1
theorem or_lt {u v : Nat} (hu : u < 16) (hv : v < 16) : u ||| v < 16 := (or_bits ⟨u, hu⟩ ⟨v, hv⟩).2
/-- ways that meet, the first k slots of them -/
def joinTo (s t : List Nat) (k : Nat) : List Nat := (List.range s.length).map fun i => if i < k then s.getD i 0 ||| t.getD i 0 else s.getD i 0
def joinS (s t : List Nat) : List Nat := joinTo s t 24
theorem joinTo_len (s t : List Nat) (k : Nat) : (joinTo s t k).length = s.length := by simp [joinTo]
theorem joinTo_zero (s t : List Nat) : joinTo s t 0 = s := by
  unfold joinTo
  rw [← getD_range s]
  simp only [List.length_map, List.length_range]
  apply List.map_congr_left
  intro i hi
  rw [if_neg (Nat.not_lt_zero _), getD_range]
theorem joinTo_getD (s t : List Nat) (k i : Nat) : (joinTo s t k).getD i 0 = if i < s.length then (if i < k then s.getD i 0 ||| t.getD i 0 else s.getD i 0) else 0 := by
  unfold joinTo
  rw [List.getD_eq_getElem?_getD, List.getElem?_map]
  by_cases hi : i < s.length
  · rw [List.getElem?_range hi, if_pos hi]; rfl
  · rw [List.getElem?_eq_none (by simp; omega), if_neg hi]; rfl
theorem joinTo_set (s t : List Nat) (k : Nat) : (joinTo s t k).set k (s.getD k 0 ||| t.getD k 0) = joinTo s t (k + 1) := by
  apply List.ext_getElem?
  intro i
  rw [List.getElem?_set, joinTo_len]
  unfold joinTo
  rw [List.getElem?_map, List.getElem?_map]
  by_cases hi : i < s.length
  · rw [List.getElem?_range hi]
    by_cases e : k = i
    · subst e; rw [if_pos rfl, if_pos hi]; simp
    · rw [if_neg e]
      simp only [Option.map_some, Option.some.injEq]
      by_cases h : i < k
      · rw [if_pos h, if_pos (by omega)]
      · rw [if_neg h, if_neg (by omega)]
  · rw [List.getElem?_eq_none (l := List.range s.length) (by simp; omega)]
    split
    · rw [if_neg (by omega)]; rfl
    · rfl
theorem joinTo_ok {s t : List Nat} (hs : SOk s) (ht : SOk t) (k : Nat) : SOk (joinTo s t k) :=
  ⟨by rw [joinTo_len]; exact hs.len, fun i => by
    rw [joinTo_getD]
    split
    · split
      · exact or_lt (hs.lt i) (ht.lt i)
      · exact hs.lt i
    · decide⟩
def leadE (E : List (List Nat)) (to : Nat) (s : List Nat) : List (List Nat) := if joinS (E.getD to []) s = E.getD to [] then E else E.set to (joinS (E.getD to []) s)
def leadO (E : List (List Nat)) (O : Nat → Bool) (to : Nat) (s : List Nat) : Nat → Bool := if joinS (E.getD to []) s = E.getD to [] then O else setO O to true
def HoldSize (w : World) (n : Nat) : Prop := w.heap.size = n
section
variable {z x a ap mb : Nat} {w w' : World} {q : QP} {vl vb : Value} {us : List Value} {vss : List (List (Value × Value))} {E : List (List Nat)} {O : Nat → Bool}
set_option maxRecDepth 20000 in
set_option maxHeartbeats 2000000 in
theorem lead_any (h : WAt z x a ap mb w q vl vb us vss E O) (to : Nat) (hto : to < q.blocks.length) (hn : q.blocks.length ≤ 4000) (s : List Nat) (hs : SOk s) :
    Calls Tryz.prog 187 #[.pointer (some ⟨x, 0, none⟩), .int .i64 (to : Nat), .agg (stCells s).toArray] w fun e w' => e = .returned (.tuple #[]) ∧ WAt z x a ap mb w' q vl vb us vss (leadE E to s) (leadO E O to s) ∧ Turn2 ap mb w w' := by
  have htE : to < E.length := by rw [h.len]; exact hto
  have hE := h.row.ok htE
  have hbA : Below w.heap.size w (w.alloc (.cells (stCells s).toArray 209)) := (Below.refl _ _).alloc (Nat.le_refl _) _
  have hA := h.below hbA
  have hSA : StAt (w.alloc (.cells (stCells s).toArray 209)) w.heap.size s := StAt.new w hs.len
  have hsz : (w.alloc (.cells (stCells s).toArray 209)).heap.size = w.heap.size + 1 := by simp
  have hapl := h.row.lt
  have hti : (to : Int) < (q.blocks.length : Nat) := by omega
  have hbox : HoldSize (w.alloc (.cells (stCells s).toArray 209)) (w.heap.size + 1) := hsz
  go_enter Tryz.func187, Tryz.ntmps187
  go_upto_region 1 with fail
  clear hsz
  generalize (w.alloc (.cells (stCells s).toArray 209)) = V at *
  have hsz : V.heap.size = w.heap.size + 1 := hbox
  have hasA := hA.row.has to htE
  have hofA := hA.row.of to htE
  obtain ⟨e0, HE⟩ : ∃ e0, Hid (E.getD to [] = e0) := ⟨_, rfl⟩
  rw [HE.out] at hofA hE
  obtain ⟨c0, c1, c2⟩ := hA.facts
  have hZ : StAt (V.alloc (.cells #[.int .u8 0, .int .u8 0, .int .u8 0, .int .u8 0, .int .u8 0, .int .u8 0, .int .u8 0, .int .u8 0, .int .u8 0, .int .u8 0, .int .u8 0, .int .u8 0, .int .u8 0, .int .u8 0, .int .u8 0, .int .u8 0, .int .u8 0, .int .u8 0, .int .u8 0, .int .u8 0, .int .u8 0, .int .u8 0, .int .u8 0, .int .u8 0] 209)) V.heap.size zeroSt := StAt.new V (s := zeroSt) (by decide)
  have hbZ : Below V.heap.size V (V.alloc (.cells #[.int .u8 0, .int .u8 0, .int .u8 0, .int .u8 0, .int .u8 0, .int .u8 0, .int .u8 0, .int .u8 0, .int .u8 0, .int .u8 0, .int .u8 0, .int .u8 0, .int .u8 0, .int .u8 0, .int .u8 0, .int .u8 0, .int .u8 0, .int .u8 0, .int .u8 0, .int .u8 0, .int .u8 0, .int .u8 0, .int .u8 0, .int .u8 0] 209)) := (Below.refl _ _).alloc (Nat.le_refl _) _
  have hroom := StAt.room hZ
  have hist := isSt_of hE.len
  have hJ := StAt.store hZ hE.len
  have hbW : Below V.heap.size V ((V.alloc (.cells #[.int .u8 0, .int .u8 0, .int .u8 0, .int .u8 0, .int .u8 0, .int .u8 0, .int .u8 0, .int .u8 0, .int .u8 0, .int .u8 0, .int .u8 0, .int .u8 0, .int .u8 0, .int .u8 0, .int .u8 0, .int .u8 0, .int .u8 0, .int .u8 0, .int .u8 0, .int .u8 0, .int .u8 0, .int .u8 0, .int .u8 0, .int .u8 0] 209)).setCells V.heap.size 0 (stCells e0)) := below_setCells hbZ (Nat.le_refl _) _ _
  have hW := hA.below hbW
  have hSW := hSA.below hbW hSA.lt
  have hTW := (Below.refl w.heap.size w).trans (hbA.trans (hbW.mono (by omega)))
  rw [hsz] at hroom hJ hW hSW hTW
  clear hbZ hZ hbW hSA hA
  go_upto_region 2 with fail
  generalize ((V.alloc (.cells #[.int .u8 0, .int .u8 0, .int .u8 0, .int .u8 0, .int .u8 0, .int .u8 0, .int .u8 0, .int .u8 0, .int .u8 0, .int .u8 0, .int .u8 0, .int .u8 0, .int .u8 0, .int .u8 0, .int .u8 0, .int .u8 0, .int .u8 0, .int .u8 0, .int .u8 0, .int .u8 0, .int .u8 0, .int .u8 0, .int .u8 0, .int .u8 0] 209)).setCells (w.heap.size + 1) 0 (stCells e0)) = W at *
  clear hroom hasA hofA c0 c1 c2 hbA hbox hsz
  have HJ0 : StAt W (w.heap.size + 1) (joinTo e0 s 0) := by rw [joinTo_zero]; exact hJ
  go_wp2
  go_loopg [15] (24) (fun g v15 wr => ∃ k : Nat, k ≤ 24 ∧ g + k = 24 ∧ v15 = .int .i64 k ∧ StAt wr (w.heap.size + 1) (joinTo e0 s k) ∧ Turn (w.heap.size + 1) W wr)
  case atStart => exact ⟨0, by omega, rfl, rfl, HJ0, Turn.refl _ _⟩
  case round =>
    obtain ⟨k, hk, hgk, rfl, hJr, hTr⟩ := hrel
    have hSr : StAt wr w.heap.size s := ⟨hSW.1, (hTr.block _ hSW.lt (by omega)).trans hSW.2⟩
    by_cases hlt : k < 24
    · have d1 := hJr.cell k hlt
      have d2 := hSr.cell k hlt
      have d3 := hJr.frozen k
      have hki : (k : Int) < 24 := by omega
      have hset := hJr.set k (e0.getD k 0 ||| s.getD k 0)
      rw [joinTo_set] at hset
      have hg0 : (joinTo e0 s k).getD k 0 = e0.getD k 0 := by rw [joinTo_getD, if_pos (by rw [hE.len]; exact hlt), if_neg (by omega)]
      rw [hg0] at d1
      have hor := or_of (hE.lt k) (hs.lt k)
      clear hg0
      generalize e0.getD k 0 = u1 at *
      generalize s.getD k 0 = u2 at *
      have hT2 := hTr.setCell k (.int .u8 ((u1 ||| u2 : Nat) : Int))
      have hset' : StAt (wr.setCell ⟨w.heap.size + 1, k, none⟩ (.int .u8 ((u1 ||| u2 : Nat) : Int))).drew (w.heap.size + 1) (joinTo e0 s (k + 1)) := hset
      have hT3 : Turn (w.heap.size + 1) W (wr.setCell ⟨w.heap.size + 1, k, none⟩ (.int .u8 ((u1 ||| u2 : Nat) : Int))).drew := ⟨hT2.os, hT2.tape, hT2.output, hT2.size, hT2.block⟩
      clear hset hT2
      go_wp2
      go_region
      all_goals
        go_wp2
        go_roundg (24 - (k + 1))
        case measure => omega
        case rel => exact ⟨k + 1, by omega, by omega, by go_num, hset', hT3⟩
    · obtain rfl : k = 24 := by omega
      have hWr := hW.other hTr hJ (by omega)
      have j1 := StAt.has hJr
      have j2 := StAt.of hJr
      have hrow := hWr.row
      have r1 := hrow.has to htE
      have r2 := hrow.of to htE
      have r3 := hrow.room to htE
      rw [HE.out] at r2
      obtain ⟨c0, c1, c2⟩ := hWr.facts
      have hjok := joinTo_ok hE hs 24
      have he := fun w' => st_equal (joinTo e0 s 24) e0 w' hjok.len hE.len hjok.lt hE.lt
      have hist' := isSt_of hjok.len
      have HJS : Hid (joinS (E.getD to []) s = joinTo e0 s 24) := by unfold Hid; rw [joinS, HE.out]
      have hT0 : Turn2 ap mb w wr := (Turn2.ofBelow hTW).since hTr (by omega)
      generalize joinTo e0 s 24 = j at *
      have j1d : HasSt wr.drew (w.heap.size + 1) 0 := j1
      have j2d : stOf wr.drew (w.heap.size + 1) 0 = (stCells j).toArray := j2
      have r1d : HasSt wr.drew ap (to * 24) := r1
      have r2d : stOf wr.drew ap (to * 24) = (stCells e0).toArray := r2
      cases hb : (j == e0) with
      | true =>
        rw [hb] at he
        have hje : Hid (j = e0) := eq_of_beq hb
        clear hb
        go_wp2
        go_region
        all_goals
          go_wp2
          go_end0
          have hjs : joinS (E.getD to []) s = E.getD to [] := by rw [HJS.out, HE.out]; exact hje.out
          refine ⟨rfl, ?_, hT0.on (below_drewN (Below.refl _ _) 1)⟩
          rw [leadE, leadO, if_pos hjs, if_pos hjs]
          exact hWr.below (below_drewN (Below.refl _ _) 1)
      | false =>
        rw [hb] at he
        have hje : Hid (¬ j = e0) := fun e => by rw [e] at hb; simp at hb
        clear hb
        go_wp2
        go_region
        have hWd : WAt z x a ap mb wr.drew q vl vb us vss E O := hWr.below (below_drewN (Below.refl _ _) 1)
        have hTd : Turn2 ap mb w wr.drew := hT0.on (below_drewN (Below.refl _ _) 1)
        have hJd : StAt wr.drew (w.heap.size + 1) j := hJr
        generalize wr.drew = wd at *
        clear hWr hT0 hJr hTr j1 j2 r1 r2 r3 c0 c1 c2 hrow hSr he
        obtain ⟨c0, c1, c2⟩ := hWd.facts
        have j1 : HasSt wd.drew (w.heap.size + 1) 0 := j1d
        have j2 : stOf wd.drew (w.heap.size + 1) 0 = (stCells j).toArray := j2d
        have r3 : RoomSt wd.drew ap (to * 24) := hWd.row.room to htE
        have hWe : WAt z x a ap mb wd.drew q vl vb us vss E O := hWd.below (below_drewN (Below.refl _ _) 1)
        have hTe : Turn2 ap mb w wd.drew := hTd.on (below_drewN (Below.refl _ _) 1)
        have hfin := hWe.row.store to htE hjok
        have hofin : OpenAt (wd.drew.setCells ap (to * 24) (stCells j)) mb q.blocks.length O := hWe.opn.heap (heap_setCells_other _ _ _ _ _ (fun e => by
          obtain ⟨es, clock, h1⟩ := hWe.opn.isMap
          obtain ⟨-, cs, h2, -⟩ := hWe.row
          rw [e, h2] at h1; cases h1))
        have hTs : Turn2 ap mb wd.drew (wd.drew.setCells ap (to * 24) (stCells j)) := .left (turn_setCells (Turn.refl ap wd.drew) 0 (stCells j) (to * 24) wd.drew (Turn.refl _ _))
        have hWf := hWe.turn hTs (by simp) hfin hofin
        have hTf := hTe.trans hTs
        clear hofin hfin j1d j2d r1d r2d hWe hTe hTs
        go_wp2
        go_region
        generalize wd.drew.setCells ap (to * 24) (stCells j) = wf at *
        clear c0 c1 c2 j1 j2 r3 hWd hTd hJd
        obtain ⟨c0, c1, c2⟩ := hWf.facts
        go_wp2_with (at_mapUpdate; refine wpList_open_put _ rfl _ _ _ rfl to rfl rfl rfl hWf.opn hto hn ?_; intro wg hog hgg)
        go_end0
        have hjs : ¬ joinS (E.getD to []) s = E.getD to [] := by rw [HJS.out, HE.out]; exact hje.out
        have hTg : Turn2 ap mb wf wg := .right hgg
        refine ⟨rfl, ?_, hTf.trans hTg⟩
        rw [leadE, leadO, if_neg hjs, if_neg hjs, HJS.out]
        exact hWf.turn hTg rfl (hWf.row.heap (hgg.block ap hWf.row.lt (fun e => by
          simp only [Option.some.injEq] at e
          obtain ⟨es, clock, h1⟩ := hWf.opn.isMap
          obtain ⟨-, cs, h2, -⟩ := hWf.row
          rw [← e, h2] at h1; cases h1))) hog
end
end Go.Proofs.YtmlgajhhnojdjaaGreatDoor.FlwK
/- The least open block is taken. -/
namespace Go.Proofs.YtmlgajhhnojdjaaGreatDoor.FlwL
open Go Go.RowKit Go.Proofs.YtmlgajhhnojdjaaGreatDoor.Spec Go.Proofs.YtmlgajhhnojdjaaGreatDoor.Aux Go.Proofs.YtmlgajhhnojdjaaGreatDoor.PrjF Go.Proofs.YtmlgajhhnojdjaaGreatDoor.PrjG Go.Proofs.YtmlgajhhnojdjaaGreatDoor.PrjJ Go.Proofs.YtmlgajhhnojdjaaGreatDoor.PrjK Go.Proofs.YtmlgajhhnojdjaaGreatDoor.PrjL Go.Proofs.YtmlgajhhnojdjaaGreatDoor.PrjM Go.Proofs.YtmlgajhhnojdjaaGreatDoor.PrjO Go.Proofs.YtmlgajhhnojdjaaGreatDoor.FlwB Go.Proofs.YtmlgajhhnojdjaaGreatDoor.FlwE Go.Proofs.YtmlgajhhnojdjaaGreatDoor.FlwF Go.Proofs.YtmlgajhhnojdjaaGreatDoor.FlwI Go.Proofs.YtmlgajhhnojdjaaGreatDoor.FlwJ Go.Proofs.YtmlgajhhnojdjaaGreatDoor.FlwK

section
variable (w : World) {ops : Array Oper} {rest : List Oper} {o : Oper} {a : Act} {Q : Exit → Act → World → Prop} {O : Nat → Bool}
theorem wpList_next_open (hg : o.guard = none) (it : Operand) (hop : o.op = Op.next it false) (b r n : Nat) (D : DataW Unit) (left : Lit → Bool) (cnt : Nat) (hit : a.eval it = .pointer (some ⟨r, 0, none⟩))
    (h : w.ranges Tryz.prog 3 unitElem b r n D left cnt) (hL : ∀ kl, left kl = true → ∃ c, kl = keyI c ∧ O c = true)
    (hDone : (∀ kl, left kl = false) → wpList Tryz.prog ops Q rest (a.put o.dst (.tuple #[.bool false])) w)
    (hMore : ∀ (c : Nat) (w' : World) (cnt' : Nat), O c = true → w'.ranges Tryz.prog 3 unitElem b r n D (fun z => left z && !z.sameKey (keyI c)) cnt' → cnt' < cnt → w.grownBy w' (some r) →
      (Instr.entry (.pointer (some ⟨r, 0, none⟩))).run Tryz.prog w' = .ok (.tuple #[.int .i64 (c : Nat), .agg #[]]) w' → wpList Tryz.prog ops Q rest (a.put o.dst (.tuple #[.bool true, .int .i64 (c : Nat), .agg #[]])) w') :
    wpList Tryz.prog ops Q (o :: rest) a w :=
  wpList_next_ranges w hg it hop 3 kint unitElem (Value.int .i64) (fun _ : Unit => .agg #[]) (fun key kl hkey => by obtain ⟨x, rfl, _⟩ := Maps.keyOf_int_inv Tryz.underlying3 hkey; exact ⟨x, rfl⟩) (fun v y hv => ⟨(), (unitElem_inv hv).1⟩)
    b r n D left cnt hit h (fun _ => hDone) (fun x c kl y w' cnt' hkey hlk hv hat hrg hlt hgr hsz hen => by
      obtain ⟨x', ex, rfl, hwx⟩ := Maps.keyOf_int_inv Tryz.underlying3 hkey
      cases ex
      obtain ⟨c', hc, hc'⟩ := hL _ hlk
      simp only [keyI, Lit.int.injEq, true_and] at hc
      subst hc
      exact hMore c' w' cnt' hc' hrg hlt hgr hen)
end
theorem below_grown {w w' w0 : World} {r : Nat} (hb : Below w.heap.size w w0) (h : w0.grownBy w' (some r)) (hr : w.heap.size ≤ r) : Below w.heap.size w w' :=
  hb.trans ⟨h.os, h.tape, h.output, h.size, fun k hk => h.block k (Nat.lt_of_lt_of_le hk hb.size) (by simp; omega)⟩
theorem below_none {w w' : World} (h : w.grownBy w' none) : Below w.heap.size w w' := ⟨h.os, h.tape, h.output, h.size, fun k hk => h.block k hk (by simp)⟩
section
variable {z x a ap mb : Nat} {w w' : World} {q : QP} {vl vb : Value} {us : List Value} {vss : List (List (Value × Value))} {E : List (List Nat)} {O : Nat → Bool}
/-- the least, and none is less -/
structure Least (O : Nat → Bool) (N b : Nat) : Prop where
  le : b ≤ N
  opn : b < N → O b = true
  none : ∀ c, c < b → O c = false
set_option maxRecDepth 20000 in
set_option maxHeartbeats 2000000 in
theorem takeLeast_any (h : WAt z x a ap mb w q vl vb us vss E O) (hn : q.blocks.length ≤ 4000) :
    Calls Tryz.prog 146 #[.pointer (some ⟨x, 0, none⟩)] w fun e w' => ∃ b, e = .returned (.int .i64 (b : Nat)) ∧ Least O q.blocks.length b ∧ WAt z x a ap mb w' q vl vb us vss E (setO O b false) ∧ Turn2 ap mb w w' := by
  obtain ⟨c0, c1, c2⟩ := h.facts
  obtain ⟨D, hD, hO, hh, hs⟩ := h.opn
  go_enter Tryz.func146, Tryz.ntmps146
  go_wp2_with (at_range; refine wpList_range_own _ rfl _ _ rfl 3 _ kint Tryz.underlying163 unitElem mb q.blocks.length D rfl hD ?_; intro w0 hrg0 hg0 hs0)
  go_frame
  clear hs0
  have hb0 := below_none hg0
  go_loopw [3] (fun v3 wr => ∃ (left : Lit → Bool) (cnt l : Nat), wr.ranges Tryz.prog 3 unitElem mb w.heap.size q.blocks.length D left cnt ∧ v3 = .int .i64 (l : Nat) ∧ l ≤ q.blocks.length ∧ (l < q.blocks.length → O l = true) ∧ (∀ kl, left kl = true → ∃ c, kl = keyI c ∧ O c = true) ∧ (∀ c, O c = true → left (keyI c) = true ∨ l ≤ c) ∧ Below w.heap.size w wr) (fun _ wr => wr.rangeLeft mb w.heap.size)
  case atStart => exact ⟨_, _, q.blocks.length, hrg0, rfl, Nat.le_refl _, fun h => absurd h (Nat.lt_irrefl _), fun kl => (hh kl).1, fun c hc => .inl ((hh _).2 ⟨c, rfl, hc⟩), hb0⟩
  case round =>
    obtain ⟨left, cnt, l, hrg, rfl, hl1, hl2, hL, hl3, hbr⟩ := hrel
    go_wp2_with (at_next; refine wpList_next_open (O := O) _ rfl _ rfl mb w.heap.size q.blocks.length D left cnt rfl hrg hL ?_ ?_)
    · intro hl0
      have hWr := h.below hbr
      obtain ⟨d0, d1, d2⟩ := hWr.facts
      have hle : l ≤ 100000 := by omega
      go_wp2_with (at_delete; refine wpList_open_del _ rfl _ _ rfl l rfl rfl hWr.opn hle ?_; intro w2 ho2 hg2)
      go_ret
      have hT2 : Turn2 ap mb wr w2 := .right hg2
      refine ⟨l, rfl, ⟨hl1, hl2, fun c hc => ?_⟩, ?_, (Turn2.ofBelow hbr).trans hT2⟩
      · cases hOc : O c with
        | false => rfl
        | true =>
          rcases hl3 c hOc with h1 | h1
          · rw [hl0] at h1; cases h1
          · omega
      · exact hWr.turn hT2 rfl (hWr.row.heap (hg2.block ap hWr.row.lt (fun e => by
          simp only [Option.some.injEq] at e
          obtain ⟨es, clock, h1⟩ := hWr.opn.isMap
          obtain ⟨-, cs, h2, -⟩ := hWr.row
          rw [← e, h2] at h1; cases h1))) ho2
    · intro c w1 cnt1 hOc hrg1 hlt hg1 hen
      have hb1 := below_grown hbr hg1 (Nat.le_refl _)
      have hcb := hO c hOc
      have hleft : ∀ c', O c' = true → c' ≠ c → left (keyI c') = true → (left (keyI c') && !(keyI c').sameKey (keyI c)) = true := fun c' _ hne hlc => by
        rw [hlc, Maps.sameKey_ne (fun e => hne (keyI_inj e))]; rfl
      by_cases hcl : c < l
      · have hci : (c : Int) < (l : Int) := by omega
        go_wp2
        go_roundw
        case measure => rw [hrg1.left_eq, hrg.left_eq]; exact hlt
        case rel =>
          refine ⟨_, cnt1, c, hrg1, congrArg (Value.int .i64) (by omega), by omega, fun _ => hOc, fun kl hkl => hL kl (by simp at hkl; exact hkl.1), fun c' hc' => ?_, hb1⟩
          by_cases e : c' = c
          · right; omega
          · rcases hl3 c' hc' with h1 | h1
            · left; exact hleft c' hc' e h1
            · right; omega
      · have hci : ¬ (c : Int) < (l : Int) := by omega
        go_wp2
        go_roundw
        case measure => rw [hrg1.left_eq, hrg.left_eq]; exact hlt
        case rel =>
          refine ⟨_, cnt1, l, hrg1, congrArg (Value.int .i64) (by omega), hl1, hl2, fun kl hkl => hL kl (by simp at hkl; exact hkl.1), fun c' hc' => ?_, hb1⟩
          by_cases e : c' = c
          · right; omega
          · rcases hl3 c' hc' with h1 | h1
            · left; exact hleft c' hc' e h1
            · right; omega
end
end Go.Proofs.YtmlgajhhnojdjaaGreatDoor.FlwL
