/- States held against one another; where ways begin; whether a state was come to. -/
import Derived.Test.YtmlgajhhnojdjaaGreatDoorKAY
import Derived.DeepKeys
import Derived.Laws.StructEq
import Derived.Maps.RangeWalk
namespace Go.Proofs.YtmlgajhhnojdjaaGreatDoor.FlwI
open Go Go.RowKit Go.Proofs.YtmlgajhhnojdjaaGreatDoor.Spec Go.Proofs.YtmlgajhhnojdjaaGreatDoor.Aux Go.Proofs.YtmlgajhhnojdjaaGreatDoor.PrjJ Go.Proofs.YtmlgajhhnojdjaaGreatDoor.PrjK Go.Proofs.YtmlgajhhnojdjaaGreatDoor.FlwB Go.Proofs.YtmlgajhhnojdjaaGreatDoor.FlwF

theorem mapM_some {α β : Type} (f : α → Option β) (g : α → β) : ∀ l : List α, (∀ a ∈ l, f a = some (g a)) → l.mapM f = some (l.map g)
  | [], _ => rfl
  | a :: l, h => by
    rw [List.mapM_cons, h a (List.mem_cons_self ..), mapM_some f g l (fun x hx => h x (List.mem_cons_of_mem _ hx))]; rfl
theorem cells_state : Tryz.prog.cellsOf 209 = 24 := by kernel_rfl
theorem cells_may : Tryz.prog.cellsOf 207 = 1 := by kernel_rfl
theorem key_state : Tryz.prog.keyTypeAt 3 209 = true := by kernel_rfl
theorem getD_range (s : List Nat) : (List.range s.length).map (fun i => s.getD i 0) = s := by
  apply List.ext_getElem?
  intro i
  rw [List.getElem?_map]
  by_cases hi : i < s.length
  · rw [List.getElem?_range hi]; simp [hi]
  · rw [List.getElem?_eq_none (by simp; omega), List.getElem?_eq_none (by omega)]; rfl
theorem keyLits_st (s : List Nat) (hl : s.length = 24) (hv : ∀ k, s.getD k 0 < 16) : Tryz.prog.keyLits 2 209 (stCells s) = some (s.map fun n => Lit.int .u8 (n : Nat)) := by
  have hf : ∀ i ∈ List.range 24, Tryz.prog.keyLits 1 207 (((stCells s).drop (i * 1)).take 1) = some [Lit.int .u8 ((s.getD i 0 : Nat) : Int)] := by
    intro i hi
    have hi' : i < s.length := by rw [hl]; simpa using hi
    have hc : ((stCells s).drop (i * 1)).take 1 = [.int .u8 ((s.getD i 0 : Nat) : Int)] := by
      rw [Nat.mul_one, List.drop_eq_getElem_cons (by rw [stCells_len]; exact hi')]
      simp [stCells, hi']
    have hw : (Lit.int .u8 ((s.getD i 0 : Nat) : Int)).wf = true := by
      have := hv i
      generalize s.getD i 0 = n at *
      have : ∀ n : Nat, n < 16 → (Lit.int .u8 (n : Int)).wf = true := by decide
      exact this n (by assumption)
    rw [hc]
    simp only [Program.keyLits, Tryz.underlying207]
    rw [if_pos ⟨trivial, hw⟩]
  unfold Program.keyLits
  simp only [Tryz.underlying209, cells_state, cells_may]
  rw [if_pos (by rw [stCells_len]; exact hl), mapM_some _ _ _ hf]
  simp only [Option.map_some, Option.some.injEq]
  have e : ((List.range 24).map fun i => [Lit.int .u8 ((s.getD i 0 : Nat) : Int)]).flatten = ((List.range s.length).map fun i => s.getD i 0).map fun n => Lit.int .u8 ((n : Nat) : Int) := by
    rw [hl, List.map_map]
    induction List.range 24 with
    | nil => rfl
    | cons a r ih => simpa using ih
  rw [e, getD_range]
set_option maxRecDepth 20000 in
theorem st_equal (s t : List Nat) (w : World) (hs : s.length = 24) (ht : t.length = 24) (hv : ∀ k, s.getD k 0 < 16) (hu : ∀ k, t.getD k 0 < 16) :
    (Op.equalIn 10000 209 (.agg (stCells s).toArray) (.agg (stCells t).toArray)).run Tryz.prog w = .ok (s == t) w := by
  have hform : ∀ s : List Nat, s.length = 24 → (Value.agg (stCells s).toArray).formed Tryz.prog 209 = true := fun s hs => by
    simp only [Value.formed, Tryz.underlying209, cells_state]
    simp [stCells_len, hs]
  obtain ⟨r, hr, hiff⟩ := run_equalIn_deep 9997 3 209 key_state w 2 2 (.agg (stCells s).toArray) (.agg (stCells t).toArray) _ _ (hform s hs) (hform t ht) (by simpa [Value.cells] using keyLits_st s hs hv) (by simpa [Value.cells] using keyLits_st t ht hu)
  rw [hr]
  congr 1
  rw [Bool.eq_iff_iff, hiff, beq_iff_eq]
  constructor
  · intro h
    refine (List.map_inj_right (fun a b e => ?_)).1 h
    simp only [Lit.int.injEq, true_and] at e
    omega
  · intro h; rw [h]
attribute [local go_sem ↓] wp_load_st wp_store_st
theorem replicate_set (k : Nat) (hk : k < 24) : (List.replicate k 1 ++ List.replicate (24 - k) 0).set k 1 = (List.replicate (k + 1) 1 ++ List.replicate (24 - (k + 1)) 0 : List Nat) := by
  rw [List.set_append_right _ _ (by simp), List.length_replicate, Nat.sub_self, show 24 - k = (24 - (k + 1)) + 1 by omega, List.replicate_succ, List.set_cons_zero, List.replicate_succ', List.append_assoc]
  rfl
def startSt : List Nat := List.replicate 24 1
set_option maxRecDepth 20000 in
set_option maxHeartbeats 1000000 in
theorem start_any (w : World) : Calls Tryz.prog 188 #[] w fun e w' => e = .returned (.agg (stCells startSt).toArray) ∧ Below w.heap.size w w' := by
  have hb1 : Below w.heap.size w (w.alloc (.cells (stCells zeroSt).toArray 209)) := (Below.refl _ _).alloc (Nat.le_refl _) _
  have hb2 := hb1.alloc hb1.size (.cells (stCells zeroSt).toArray 209)
  have hA : StAt ((w.alloc (.cells (stCells zeroSt).toArray 209)).alloc (.cells (stCells zeroSt).toArray 209)) w.heap.size zeroSt := (StAt.new w (s := zeroSt) (by decide)).below ((Below.refl _ _).alloc (Nat.le_refl _) _) (by simp)
  have hB : StAt ((w.alloc (.cells (stCells zeroSt).toArray 209)).alloc (.cells (stCells zeroSt).toArray 209)) (w.heap.size + 1) (List.replicate 0 1 ++ List.replicate (24 - 0) 0) := by
    rw [show w.heap.size + 1 = (w.alloc (.cells (stCells zeroSt).toArray 209)).heap.size by simp]
    exact StAt.new _ (s := zeroSt) (by decide)
  have hz : (stCells zeroSt).toArray = #[.int .u8 0, .int .u8 0, .int .u8 0, .int .u8 0, .int .u8 0, .int .u8 0, .int .u8 0, .int .u8 0, .int .u8 0, .int .u8 0, .int .u8 0, .int .u8 0, .int .u8 0, .int .u8 0, .int .u8 0, .int .u8 0, .int .u8 0, .int .u8 0, .int .u8 0, .int .u8 0, .int .u8 0, .int .u8 0, .int .u8 0, .int .u8 0] := rfl
  rw [hz] at hA hB hb2
  clear hb1 hz
  go_enter Tryz.func188, Tryz.ntmps188
  go_wp2
  go_loopg [3] (24) (fun g v3 wr => ∃ k : Nat, k ≤ 24 ∧ g + k = 24 ∧ v3 = .int .i64 k ∧ StAt wr w.heap.size zeroSt ∧ StAt wr (w.heap.size + 1) (List.replicate k 1 ++ List.replicate (24 - k) 0) ∧ Below w.heap.size w wr)
  case atStart => exact ⟨0, by omega, rfl, rfl, hA, hB, hb2⟩
  case round =>
    obtain ⟨k, hk, hgk, rfl, hA', hB', hBr⟩ := hrel
    clear hA hB hb2
    by_cases hlt : k < 24
    · have c1 := hB'.cell k hlt
      have c2 := hB'.frozen k
      have hki : (k : Int) < 24 := by omega
      have hset := hB'.set k 1
      rw [replicate_set k hlt] at hset
      have hA2 : StAt (wr.setCell ⟨w.heap.size + 1, k, none⟩ (.int .u8 (1 : Nat))) w.heap.size zeroSt := ⟨hA'.1, by rw [Below.heap_setCell _ _ _ _ (by show w.heap.size ≠ w.heap.size + 1; omega)]; exact hA'.2⟩
      have hB2 : Below w.heap.size w (wr.setCell ⟨w.heap.size + 1, k, none⟩ (.int .u8 (1 : Nat))) := hBr.trans (((Turn.refl (w.heap.size + 1) wr).setCell k _).below (by omega) hBr.size)
      go_wp2
      go_roundg (24 - (k + 1))
      case measure => omega
      case rel => exact ⟨k + 1, by omega, by omega, by go_num, hA2, hset, hB2⟩
    · obtain rfl : k = 24 := by omega
      have hst : StAt wr (w.heap.size + 1) startSt := hB'
      have h1 := StAt.has hst
      have h2 := StAt.of hst
      have h3 := StAt.room hA'
      have h4 := isSt_of (s := startSt) (by decide)
      have hfin := StAt.store hA' (t := startSt) (by decide)
      have hbf : Below w.heap.size w (wr.setCells w.heap.size 0 (stCells startSt)) := below_setCells hBr (Nat.le_refl _) _ _
      go_wp2
      refine bodyPost_ret (results_cell Tryz.results188 _ _ _ w.heap.size (stCells startSt) _ rfl (StAt.range hfin) Tryz.underlying209 rfl (info_state (by decide))) rfl ?_
      exact ⟨rfl, hbf⟩
theorem zeroSt_lt (k : Nat) : zeroSt.getD k 0 < 16 := by
  unfold zeroSt
  rw [List.getD_eq_getElem?_getD, List.getElem?_replicate]
  split <;> simp
set_option maxRecDepth 20000 in
theorem reached_any (b : Nat) (s : List Nat) (w : World) (hs : StAt w b s) (hv : ∀ k, s.getD k 0 < 16) : Calls Tryz.prog 129 #[.pointer (some ⟨b, 0, none⟩)] w fun e w' => e = .returned (.bool (!(s == zeroSt))) ∧ w' = w := by
  have h1 := StAt.has hs
  have h2 := StAt.of hs
  have he := fun w' => st_equal s zeroSt w' hs.1 (by decide) hv zeroSt_lt
  have hz : (stCells zeroSt).toArray = #[.int .u8 0, .int .u8 0, .int .u8 0, .int .u8 0, .int .u8 0, .int .u8 0, .int .u8 0, .int .u8 0, .int .u8 0, .int .u8 0, .int .u8 0, .int .u8 0, .int .u8 0, .int .u8 0, .int .u8 0, .int .u8 0, .int .u8 0, .int .u8 0, .int .u8 0, .int .u8 0, .int .u8 0, .int .u8 0, .int .u8 0, .int .u8 0] := rfl
  rw [hz] at he
  generalize (s == zeroSt) = r at *
  go_enter Tryz.func129, Tryz.ntmps129
  go_wp2
  go_ret
  exact ⟨rfl, rfl⟩
end Go.Proofs.YtmlgajhhnojdjaaGreatDoor.FlwI
/- What is known of all ways, in memory: the states ahead of the blocks, and the blocks that are open. -/
namespace Go.Proofs.YtmlgajhhnojdjaaGreatDoor.FlwJ
open Go Go.RowKit Go.Proofs.YtmlgajhhnojdjaaGreatDoor.Spec Go.Proofs.YtmlgajhhnojdjaaGreatDoor.Aux Go.Proofs.YtmlgajhhnojdjaaGreatDoor.PrjF Go.Proofs.YtmlgajhhnojdjaaGreatDoor.PrjG Go.Proofs.YtmlgajhhnojdjaaGreatDoor.PrjJ Go.Proofs.YtmlgajhhnojdjaaGreatDoor.PrjK Go.Proofs.YtmlgajhhnojdjaaGreatDoor.PrjL Go.Proofs.YtmlgajhhnojdjaaGreatDoor.PrjM Go.Proofs.YtmlgajhhnojdjaaGreatDoor.PrjO Go.Proofs.YtmlgajhhnojdjaaGreatDoor.FlwB Go.Proofs.YtmlgajhhnojdjaaGreatDoor.FlwE Go.Proofs.YtmlgajhhnojdjaaGreatDoor.FlwF

/-- of what was there nothing but two blocks has turned -/
structure Turn2 (x y : Nat) (w w' : World) : Prop where
  os : w'.os = w.os
  tape : w'.tape = w.tape
  output : w'.output = w.output
  size : w.heap.size ≤ w'.heap.size
  block : ∀ k, k < w.heap.size → k ≠ x → k ≠ y → w'.heap[k]? = w.heap[k]?
section
variable {x y b B : Nat} {w w1 w2 : World}
theorem Turn2.refl (x y : Nat) (w : World) : Turn2 x y w w := ⟨rfl, rfl, rfl, Nat.le_refl _, fun _ _ _ _ => rfl⟩
theorem Turn2.trans (h : Turn2 x y w w1) (h' : Turn2 x y w1 w2) : Turn2 x y w w2 :=
  ⟨h'.os.trans h.os, h'.tape.trans h.tape, h'.output.trans h.output, Nat.le_trans h.size h'.size, fun k hk h1 h2 => (h'.block k (Nat.lt_of_lt_of_le hk h.size) h1 h2).trans (h.block k hk h1 h2)⟩
theorem Turn2.ofBelow (h : Below w.heap.size w w1) : Turn2 x y w w1 := ⟨h.os, h.tape, h.output, h.size, fun k hk _ _ => h.block k hk⟩
theorem Turn2.on (h : Turn2 x y w w1) (h' : Below w1.heap.size w1 w2) : Turn2 x y w w2 := h.trans (.ofBelow h')
theorem Turn2.left (h : Turn x w w1) : Turn2 x y w w1 := ⟨h.os, h.tape, h.output, h.size, fun k hk h1 _ => h.block k hk h1⟩
theorem Turn2.right (h : w.grownBy w1 (some y)) : Turn2 x y w w1 := ⟨h.os, h.tape, h.output, h.size, fun k hk _ h2 => h.block k hk (by simpa using h2)⟩
/-- what was made since has turned too -/
theorem Turn2.since (h : Turn2 x y w w1) (h' : Turn b w1 w2) (hb : w.heap.size ≤ b) : Turn2 x y w w2 :=
  ⟨h'.os.trans h.os, h'.tape.trans h.tape, h'.output.trans h.output, Nat.le_trans h.size h'.size, fun k hk h1 h2 => (h'.block k (Nat.lt_of_lt_of_le hk h.size) (by omega)).trans (h.block k hk h1 h2)⟩
theorem Turn2.below (h : Turn2 x y w w1) (hx : B ≤ x) (hy : B ≤ y) (hB : B ≤ w.heap.size) : Below B w w1 := ⟨h.os, h.tape, h.output, h.size, fun k hk => h.block k (by omega) (by omega) (by omega)⟩
end
/-! sets of numbers -/
def setO (O : Nat → Bool) (b : Nat) (v : Bool) : Nat → Bool := fun c => if c = b then v else O c
def cntO (O : Nat → Bool) : Nat → Nat
  | 0 => 0
  | n + 1 => cntO O n + (if O n = true then 1 else 0)
theorem cntO_le (O : Nat → Bool) : ∀ n, cntO O n ≤ n
  | 0 => Nat.le_refl _
  | n + 1 => by have := cntO_le O n; unfold cntO; split <;> omega
theorem cntO_congr {O O' : Nat → Bool} : ∀ n, (∀ b, b < n → O b = O' b) → cntO O n = cntO O' n
  | 0, _ => rfl
  | n + 1, h => by unfold cntO; rw [cntO_congr n (fun b hb => h b (by omega)), h n (by omega)]
theorem cntO_zero {O : Nat → Bool} : ∀ n, cntO O n = 0 → ∀ b, b < n → O b = false
  | 0, _, b, hb => by omega
  | n + 1, h, b, hb => by
    unfold cntO at h
    by_cases hn : O n = true
    · rw [if_pos hn] at h; omega
    · rw [if_neg hn] at h
      by_cases e : b = n
      · subst e; simpa using hn
      · exact cntO_zero n (by omega) b (by omega)
theorem cntO_none {O : Nat → Bool} : ∀ n, (∀ b, b < n → O b = false) → cntO O n = 0
  | 0, _ => rfl
  | n + 1, h => by unfold cntO; rw [cntO_none n (fun b hb => h b (by omega)), h n (by omega)]; rfl
theorem cntO_set {O : Nat → Bool} {b : Nat} (h0 : O b = false) : ∀ n, b < n → cntO (setO O b true) n = cntO O n + 1
  | 0, h => by omega
  | n + 1, h => by
    unfold cntO
    by_cases e : b = n
    · subst e
      rw [cntO_congr b (O' := O) (fun c hc => by unfold setO; rw [if_neg (by omega)]), h0]; simp [setO]
    · rw [cntO_set h0 n (by omega)]
      have : setO O b true n = O n := by unfold setO; rw [if_neg (by omega)]
      rw [this]; omega
theorem setO_same {O : Nat → Bool} {b : Nat} {v : Bool} (h : O b = v) : setO O b v = O := by
  funext c; unfold setO; split
  · rename_i e; rw [e, h]
  · rfl
theorem cntO_del {O : Nat → Bool} {b : Nat} (h1 : O b = true) (n : Nat) (hb : b < n) : cntO (setO O b false) n + 1 = cntO O n := by
  have e : setO (setO O b false) b true = O := by
    funext c; unfold setO; split
    · rename_i e; rw [e, h1]
    · rfl
  rw [← cntO_set (O := setO O b false) (by simp [setO]) n hb, e]
/-! the blocks that are open -/
def keyI (b : Nat) : Lit := .int .i64 (b : Nat)
theorem keyI_inj {a b : Nat} (h : keyI a = keyI b) : a = b := by simp only [keyI, Lit.int.injEq, true_and] at h; omega
theorem keyI_wf {b : Nat} (h : b ≤ 100000) : (keyI b).wf = true := WalkArith.wf_i64 (by omega)
theorem kint : Maps.Keyed Tryz.prog 3 := Maps.int_keyed Tryz.underlying3
theorem keyOf_b {b : Nat} (h : b ≤ 100000) : keyOf Tryz.prog 3 (.int .i64 (b : Nat)) = some (keyI b) := Maps.keyOf_int_mk Tryz.underlying3 (keyI_wf h)
def OpenAt (w : World) (mb N : Nat) (O : Nat → Bool) : Prop :=
  ∃ D : DataW Unit, w.ownsMap Tryz.prog 3 unitElem mb N D ∧ (∀ b, O b = true → b < N) ∧ (∀ kl, Maps.has D kl = true ↔ ∃ b, kl = keyI b ∧ O b = true) ∧ Maps.size D = cntO O N
section
variable {w w' : World} {mb N : Nat} {O : Nat → Bool}
theorem own_tight {P : Program} {k : TypeId} {R : Value → Option (DataW Unit × List MemPlace)} {n m : Nat} {D : DataW Unit} (h : w.ownsMap P k R mb n D) (hm : Maps.size D ≤ m) : w.ownsMap P k R mb m D := by
  obtain ⟨es, clock, h1, h2, h3, rfl⟩ := h
  refine ⟨es, clock, h1, h2, ?_, rfl⟩
  rw [Maps.size_eq, length_read] at hm; exact hm
theorem OpenAt.lt (h : OpenAt w mb N O) : mb < w.heap.size := by obtain ⟨D, h, -⟩ := h; exact h.lt
theorem OpenAt.isMap (h : OpenAt w mb N O) : ∃ es clock, w.heap[mb]? = some (.map es clock) := by obtain ⟨D, ⟨es, clock, h, -⟩, -⟩ := h; exact ⟨es, clock, h⟩
theorem OpenAt.heap (h : OpenAt w mb N O) (he : w'.heap[mb]? = w.heap[mb]?) : OpenAt w' mb N O := by
  obtain ⟨D, ⟨es, clock, hb, r⟩, h'⟩ := h
  exact ⟨D, ⟨es, clock, he.trans hb, r⟩, h'⟩
theorem OpenAt.below (h : OpenAt w mb N O) (hb : Below w.heap.size w w') : OpenAt w' mb N O := h.heap (hb.block mb h.lt)
theorem OpenAt.bound (h : OpenAt w mb N O) {b : Nat} (hb : O b = true) : b < N := by obtain ⟨D, -, h, -⟩ := h; exact h b hb
theorem OpenAt.made (w : World) (N : Nat) : OpenAt (w.alloc (.map #[] 0)) w.heap.size N (fun _ => false) :=
  ⟨.map [], (World.ownsMap_made w _ _ _).mono (Nat.zero_le _), fun _ h => (by cases h), fun kl => ⟨fun h => (by cases h), fun ⟨_, _, h⟩ => (by cases h)⟩, (cntO_none N fun _ _ => rfl).symm⟩
theorem open_put {D : DataW Unit} {b : Nat} (hO : ∀ b, O b = true → b < N) (hD : w.ownsMap Tryz.prog 3 unitElem mb N D) (hh : ∀ kl, Maps.has D kl = true ↔ ∃ b, kl = keyI b ∧ O b = true) (hs : Maps.size D = cntO O N)
    (hb : b < N) (h : w'.ownsMap Tryz.prog 3 unitElem mb (N + 1) (D.put (keyI b) (.agg []))) : OpenAt w' mb N (setO O b true) := by
  have hkey : WideAt.IsKeyLit (keyI b) := trivial
  have hh' : ∀ kl, Maps.has (D.put (keyI b) (.agg [])) kl = true ↔ ∃ c, kl = keyI c ∧ setO O b true c = true := by
    intro kl
    by_cases e : kl = keyI b
    · subst e
      rw [Maps.has_put_same hD.isMap hkey]
      exact ⟨fun _ => ⟨b, rfl, by simp [setO]⟩, fun _ => rfl⟩
    · rw [Maps.has_put_other e, hh]
      constructor
      · rintro ⟨c, rfl, hc⟩
        exact ⟨c, rfl, by unfold setO; split <;> simp [hc]⟩
      · rintro ⟨c, rfl, hc⟩
        refine ⟨c, rfl, ?_⟩
        unfold setO at hc
        rw [if_neg (fun x => e (by rw [x]))] at hc; exact hc
  have hsz : Maps.size (D.put (keyI b) (.agg [])) = cntO (setO O b true) N := by
    rw [Maps.size_put (hD.tidy kint)]
    cases hb0 : O b with
    | true =>
      rw [if_pos ((hh _).2 ⟨b, rfl, hb0⟩), setO_same hb0, hs]
    | false =>
      rw [if_neg (fun x => by obtain ⟨c, hc, hc'⟩ := (hh _).1 x; rw [← keyI_inj hc, hb0] at hc'; cases hc'), cntO_set hb0 N hb, hs]
  refine ⟨_, own_tight h (by rw [hsz]; exact cntO_le _ _), fun c hc => ?_, hh', hsz⟩
  unfold setO at hc
  split at hc
  · omega
  · exact hO c hc
theorem open_del {D : DataW Unit} {b : Nat} (hO : ∀ b, O b = true → b < N) (hD : w.ownsMap Tryz.prog 3 unitElem mb N D) (hh : ∀ kl, Maps.has D kl = true ↔ ∃ b, kl = keyI b ∧ O b = true) (hs : Maps.size D = cntO O N)
    (h : w'.ownsMap Tryz.prog 3 unitElem mb N (D.del (keyI b))) : OpenAt w' mb N (setO O b false) := by
  have hh' : ∀ kl, Maps.has (D.del (keyI b)) kl = true ↔ ∃ c, kl = keyI c ∧ setO O b false c = true := by
    intro kl
    by_cases e : kl = keyI b
    · subst e
      rw [Maps.has_del_same]
      refine ⟨fun h => (by cases h), fun ⟨c, hc, hc'⟩ => ?_⟩
      rw [← keyI_inj hc] at hc'; simp [setO] at hc'
    · rw [Maps.has_del_other e, hh]
      constructor
      · rintro ⟨c, rfl, hc⟩
        exact ⟨c, rfl, by unfold setO; rw [if_neg (fun x => e (by rw [x]))]; exact hc⟩
      · rintro ⟨c, rfl, hc⟩
        refine ⟨c, rfl, ?_⟩
        unfold setO at hc
        rw [if_neg (fun x => e (by rw [x]))] at hc; exact hc
  refine ⟨_, h, fun c hc => ?_, hh', ?_⟩
  · unfold setO at hc
    split at hc
    · cases hc
    · exact hO c hc
  · have := Maps.size_del (k := keyI b) (hD.tidy kint)
    cases hb0 : O b with
    | true =>
      rw [if_pos ((hh _).2 ⟨b, rfl, hb0⟩), hs] at this
      have := cntO_del hb0 N (hO b hb0)
      omega
    | false =>
      rw [if_neg (fun x => by obtain ⟨c, hc, hc'⟩ := (hh _).1 x; rw [← keyI_inj hc, hb0] at hc'; cases hc'), hs] at this
      rw [setO_same hb0]; exact this
end
section
variable (w : World) {ops : Array Oper} {rest : List Oper} {o : Oper} {a : Act} {Q : Exit → Act → World → Prop} {mb N : Nat} {O : Nat → Bool}
theorem wpList_open_put (hg : o.guard = none) (m x v : Operand) (hop : o.op = Op.mapUpdate 163 m x v) (b : Nat) (hm : a.eval m = .map (some mb)) (hx : a.eval x = .int .i64 (b : Nat)) (hv : a.eval v = .agg #[])
    (h : OpenAt w mb N O) (hb : b < N) (hN : N ≤ 4000) (hK : ∀ w', OpenAt w' mb N (setO O b true) → w.grownBy w' (some mb) → wpList Tryz.prog ops Q rest (a.put o.dst undef) w') : wpList Tryz.prog ops Q (o :: rest) a w := by
  obtain ⟨D, hD, hO, hh, hs⟩ := h
  exact wpList_mapUpdate_own w hg m x v _ hop _ _ kint Tryz.underlying163 unitElem mb N D hm hD (by unfold maxLen; omega) _ _ (keyI b) hx hv (keyOf_b (by omega)) (.agg []) [] unitElem_mk
    fun w' h1 h2 => hK w' (open_put hO hD hh hs hb h1) h2
theorem wpList_open_del (hg : o.guard = none) (m x : Operand) (hop : o.op = Op.call { callee := Callee.builtin Builtin.delete, args := #[m, x], argTypes := #[163, 3] }) (b : Nat) (hm : a.eval m = .map (some mb)) (hx : a.eval x = .int .i64 (b : Nat))
    (h : OpenAt w mb N O) (hb : b ≤ 100000) (hK : ∀ w', OpenAt w' mb N (setO O b false) → w.grownBy w' (some mb) → wpList Tryz.prog ops Q rest (a.put o.dst (.tuple #[])) w') : wpList Tryz.prog ops Q (o :: rest) a w := by
  obtain ⟨D, hD, hO, hh, hs⟩ := h
  exact wpList_delete_own w hg m x _ _ hop _ kint Tryz.underlying163 unitElem mb N D hm hD _ (keyI b) hx (keyOf_b hb) fun w' h1 h2 => hK w' (open_del hO hD hh hs h1) h2.grown
theorem wpList_open_len (hg : o.guard = none) (m : Operand) (hop : o.op = Op.call { callee := Callee.builtin Builtin.len, args := #[m], argTypes := #[163] }) (hm : a.eval m = .map (some mb)) (h : OpenAt w mb N O)
    (hK : wpList Tryz.prog ops Q rest (a.put o.dst (.int .i64 (cntO O N : Nat))) w) : wpList Tryz.prog ops Q (o :: rest) a w := by
  obtain ⟨D, hD, hO, hh, hs⟩ := h
  refine wpList_len_own w hg m _ hop _ _ Tryz.underlying163 unitElem mb N D hm hD ?_
  rw [hs]; exact hK
end
theorem run_clear {w : World} {mb N : Nat} {O : Nat → Bool} (h : OpenAt w mb N O) : ∃ w', (∀ ty, (Builtin.clear_ #[163] ty #[.map (some mb)]).run Tryz.prog w = .ok (.tuple #[]) w') ∧ OpenAt w' mb N (fun _ => false) ∧ w.grownBy w' (some mb) := by
  obtain ⟨es, clock, hb⟩ := h.isMap
  have hrun : ∀ ty, (Builtin.clear_ #[163] ty #[.map (some mb)]).run Tryz.prog w = .ok (.tuple #[]) (ChangeMaps.setBlock w mb (.map #[] clock)) := fun ty => by
    simp [Builtin.clear_, run_underlying Tryz.underlying163, MapKept.run_getObj_map hb, MapKept.run_setObj_map _ hb, Result.andThen, ChangeMaps.setBlock]
  refine ⟨_, hrun, ⟨.map [], ⟨#[], clock, ChangeMaps.heap_setBlock_same hb _, ⟨by simp, MapKept.stamped_empty clock, by simp⟩, Nat.zero_le _, rfl⟩, fun _ h => (by cases h), fun kl => ⟨fun h => (by cases h), fun ⟨_, _, h⟩ => (by cases h)⟩, (cntO_none N fun _ _ => rfl).symm⟩, ⟨rfl, rfl, rfl, by simp [ChangeMaps.setBlock], fun i _ hi => ChangeMaps.heap_setBlock_other hb _ (fun e => hi (by rw [e]))⟩⟩
/-! the states ahead of the blocks -/
structure SOk (s : List Nat) : Prop where
  len : s.length = 24
  lt : ∀ k, s.getD k 0 < 16
def RowAt (w : World) (g : Nat) (E : List (List Nat)) : Prop :=
  (∀ s ∈ E, SOk s) ∧ ∃ cs, w.heap[g]? = some (.cells cs 209 (0, 0)) ∧ cs.size = 24 * E.length ∧ ∀ i j, i < E.length → j < 24 → cs[i * 24 + j]? = some (.int .u8 ((E.getD i []).getD j 0 : Nat))
theorem getD_in {E : List (List Nat)} {i : Nat} (h : i < E.length) : E.getD i [] ∈ E := by
  rw [List.getD_eq_getElem?_getD, List.getElem?_eq_getElem h]; exact List.getElem_mem h
theorem getD_set (E : List (List Nat)) (i : Nat) (t : List Nat) (hi : i < E.length) (a : Nat) : (E.set i t).getD a [] = if a = i then t else E.getD a [] := by
  simp only [List.getD_eq_getElem?_getD, List.getElem?_set]
  by_cases h : a = i
  · subst h; simp [hi]
  · rw [if_neg (fun e => h e.symm), if_neg h]
section
variable {w w' : World} {g : Nat} {E : List (List Nat)}
theorem RowAt.lt (h : RowAt w g E) : g < w.heap.size := by obtain ⟨-, cs, h, -⟩ := h; exact lt_of_heap h
theorem RowAt.ok (h : RowAt w g E) {i : Nat} (hi : i < E.length) : SOk (E.getD i []) := h.1 _ (getD_in hi)
theorem RowAt.heap (h : RowAt w g E) (he : w'.heap[g]? = w.heap[g]?) : RowAt w' g E := by
  obtain ⟨h0, cs, h, r⟩ := h; exact ⟨h0, cs, he.trans h, r⟩
theorem RowAt.range (h : RowAt w g E) (i : Nat) (hi : i < E.length) : w.rangeAt g (i * 24) (stCells (E.getD i [])) := fun j v hv => by
  have hl := (h.ok hi).len
  obtain ⟨-, cs, h, -, h'⟩ := h
  have hj : j < 24 := by have := (List.getElem?_eq_some_iff.mp hv).1; rw [stCells_len, hl] at this; exact this
  rw [cell_of_heap h, h' i j hi hj, ← hv]
  have : j < (E.getD i []).length := by rw [hl]; exact hj
  generalize E.getD i [] = s at *
  simp [stCells, this]
theorem RowAt.has (h : RowAt w g E) (i : Nat) (hi : i < E.length) : HasSt w g (i * 24) := ⟨_, (h.ok hi).len, h.range i hi⟩
theorem RowAt.of (h : RowAt w g E) (i : Nat) (hi : i < E.length) : stOf w g (i * 24) = (stCells (E.getD i [])).toArray := stOf_eq (h.ok hi).len (h.range i hi)
theorem RowAt.room (h : RowAt w g E) (i : Nat) (hi : i < E.length) : RoomSt w g (i * 24) := fun j hj => by
  obtain ⟨-, cs, h, hs, h'⟩ := h
  rw [cell_of_heap h, frozen_of_heap h, h' i j hi hj]; exact ⟨rfl, rfl⟩
theorem RowAt.store (h : RowAt w g E) (i : Nat) (hi : i < E.length) {t : List Nat} (ht : SOk t) : RowAt (w.setCells g (i * 24) (stCells t)) g (E.set i t) := by
  obtain ⟨h0, cs, h, hs, h'⟩ := h
  obtain ⟨cs', h1, h2, h3⟩ := heap_setCells g (stCells t) (i * 24) w _ _ _ h
  have hl : (stCells t).length = 24 := by rw [stCells_len]; exact ht.len
  refine ⟨fun s hs => ?_, cs', h1, by rw [h2, hs]; simp, fun a j ha hj => ?_⟩
  · rcases List.mem_or_eq_of_mem_set hs with h | h
    · exact h0 s h
    · rw [h]; exact ht
  rw [List.length_set] at ha
  rw [h3, getD_set E i t hi, hl]
  by_cases hai : a = i
  · subst hai
    have : j < t.length := by rw [ht.len]; exact hj
    rw [if_pos (by omega), if_pos rfl, show a * 24 + j - a * 24 = j by omega]
    simp [stCells, this]
  · rw [if_neg (by omega), if_neg hai]
    exact h' a j ha hj
end
theorem keepRows {z a : Nat} {w w' : World} {q : QP} {vl vb : Value} {us : List Value} {vss : List (List (Value × Value))} (h : PAt z a w q vl vb us vss)
    (key : ∀ (g : Nat) (cs : Array Value) (e : TypeId) (f : Nat × Nat), w.heap[g]? = some (.cells cs e f) → e ≠ 209 → w'.heap[g]? = w.heap[g]?) : PAt z a w' q vl vb us vss := by
  have kr : ∀ {e : TypeId} {s : Nat} {v : Value} {n : Nat} {xs : List Value}, e ≠ 209 → w.ownsRow z e s v n xs → w'.ownsRow z e s v n xs := fun {e s v n xs} he hv =>
    own_heap hv fun g hg => by
      rcases hv.2 with ⟨e', -⟩ | ⟨g', cap, cur, e', -, hg', -⟩
      · rw [e'] at hg; cases hg
      · rw [e'] at hg; simp only [Value.ownBlock, Option.some.injEq] at hg; subst hg
        exact key _ _ _ _ hg' he
  exact ⟨h.base, (key _ _ _ _ h.blk (by decide)).trans h.blk, kr (by decide) h.locals, kr (by decide) h.blocks,
    fun j hj => (h.each j hj).keep (kr (by decide) (h.each j hj).row) (fun he hv => kr (by rcases he with rfl | rfl <;> decide) hv), h.apart⟩
/-- all that is known of the ways -/
structure WAt (z x a ap mb : Nat) (w : World) (q : QP) (vl vb : Value) (us : List Value) (vss : List (List (Value × Value))) (E : List (List Nat)) (O : Nat → Bool) : Prop where
  blk : w.heap[x]? = some (.cells #[.pointer (some ⟨a, 0, none⟩), .slice (some ⟨ap, 0, none⟩) q.blocks.length q.blocks.length, .map (some mb)] 165 (0, 0))
  prog : PAt z a w q vl vb us vss
  len : E.length = q.blocks.length
  row : RowAt w ap E
  opn : OpenAt w mb q.blocks.length O
section
variable {z x a ap mb : Nat} {w w' : World} {q : QP} {vl vb : Value} {us : List Value} {vss : List (List (Value × Value))} {E E' : List (List Nat)} {O O' : Nat → Bool}
theorem WAt.lt (h : WAt z x a ap mb w q vl vb us vss E O) : x < w.heap.size := lt_of_heap h.blk
theorem WAt.facts (h : WAt z x a ap mb w q vl vb us vss E O) : w.cell? ⟨x, 0, none⟩ = some (.pointer (some ⟨a, 0, none⟩)) ∧ w.cell? ⟨x, 1, none⟩ = some (.slice (some ⟨ap, 0, none⟩) q.blocks.length q.blocks.length) ∧ w.cell? ⟨x, 2, none⟩ = some (.map (some mb)) :=
  ⟨(cell_of_heap h.blk 0).trans rfl, (cell_of_heap h.blk 1).trans rfl, (cell_of_heap h.blk 2).trans rfl⟩
theorem WAt.turn (h : WAt z x a ap mb w q vl vb us vss E O) (hT : Turn2 ap mb w w') (hl : E'.length = E.length) (hr : RowAt w' ap E') (ho : OpenAt w' mb q.blocks.length O') : WAt z x a ap mb w' q vl vb us vss E' O' := by
  have key : ∀ (g : Nat) (cs : Array Value) (e : TypeId) (f : Nat × Nat), w.heap[g]? = some (.cells cs e f) → e ≠ 209 → w'.heap[g]? = w.heap[g]? := fun g cs e f hg he => by
    refine hT.block g (lt_of_heap hg) (fun e1 => ?_) (fun e1 => ?_)
    · obtain ⟨-, cs', h', -⟩ := h.row
      rw [e1, h'] at hg; simp only [Option.some.injEq, Obj.cells.injEq] at hg; exact he hg.2.1.symm
    · obtain ⟨es, clock, h'⟩ := h.opn.isMap
      rw [e1, h'] at hg; cases hg
  exact ⟨(key _ _ _ _ h.blk (by decide)).trans h.blk, keepRows h.prog key, by rw [hl]; exact h.len, hr, ho⟩
theorem WAt.below (h : WAt z x a ap mb w q vl vb us vss E O) (hb : Below w.heap.size w w') : WAt z x a ap mb w' q vl vb us vss E O :=
  h.turn (.ofBelow hb) rfl (h.row.heap (hb.block ap h.row.lt)) (h.opn.below hb)
/-- what was turned is neither -/
theorem WAt.other {b : Nat} (h : WAt z x a ap mb w q vl vb us vss E O) (hT : Turn b w w') {s : List Nat} (hs : StAt w b s) (hba : b ≠ ap) : WAt z x a ap mb w' q vl vb us vss E O := by
  have hbm : b ≠ mb := fun e => by
    obtain ⟨es, clock, h'⟩ := h.opn.isMap
    have := hs.2; rw [e, h'] at this; cases this
  have key : ∀ (g : Nat) (cs : Array Value) (e : TypeId) (f : Nat × Nat), w.heap[g]? = some (.cells cs e f) → e ≠ 209 → w'.heap[g]? = w.heap[g]? := fun g cs e f hg he => hT.block g (lt_of_heap hg) (fun e1 => by
    rw [e1, hs.2] at hg; simp only [Option.some.injEq, Obj.cells.injEq] at hg; exact he hg.2.1.symm)
  exact ⟨(key _ _ _ _ h.blk (by decide)).trans h.blk, keepRows h.prog key, h.len, h.row.heap (hT.block ap h.row.lt (fun e => hba e.symm)), h.opn.heap (hT.block mb h.opn.lt (fun e => hbm e.symm))⟩
end
end Go.Proofs.YtmlgajhhnojdjaaGreatDoor.FlwJ
