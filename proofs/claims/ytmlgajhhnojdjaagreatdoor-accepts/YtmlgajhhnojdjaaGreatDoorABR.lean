/- Proved: the law Accepts (a program of one block that is made of raw acts is taken, and ends with all its boxes freed) answers true and leaves what came in as it was. Conditions: none but that the listed package variables hold what the program's text lays. -/
import Derived.Test.YtmlgajhhnojdjaaGreatDoorRows
import Derived.Test.YtmlgajhhnojdjaaGreatDoorAAG
import Derived.LaidLaws
import Derived.Lib.LaidTab
import Derived.ShapedOpen
import Derived.Test.YtmlgajhhnojdjaaGreatDoorAAO
import Derived.Deep.Slices
import Derived.OpenShut
import Derived.ChangeSlices
import Derived.WalkKit
import Derived.ProofKit
import Derived.Test.YtmlgajhhnojdjaaGreatDoorCards
import Derived.Test.YtmlgajhhnojdjaaGreatDoorTie
import Derived.Test.YtmlgajhhnojdjaaGreatDoorABQ
import Derived.Deep.DeepHandedRow
import Derived.Deep.DeepWitnessRowRef
/- What the cards' lists give: the tables and variables that the reader asks. -/
namespace Go.Proofs.YtmlgajhhnojdjaaGreatDoor.PrjY
open Go Go.RowKit Go.Proofs.YtmlgajhhnojdjaaGreatDoor.Spec Go.Proofs.YtmlgajhhnojdjaaGreatDoor.PrjF Go.Proofs.YtmlgajhhnojdjaaGreatDoor.PrjG

section
variable {H : Type} {enc : TypeId × Value → H} {P : Program} {w : World} {base : Nat} {sp : Nat → Bool} {held : Bool} {fuel : Nat} {t : TypeId} {cs : List Value} {p : List MemPlace}
theorem trod_str {l : B} (ht : P.underlying t = some .string) (h : DataW.trod enc P w base sp held fuel t cs = some (.lit (.string l), p)) : cs = [.string (bs l)] := by
  cases fuel with
  | zero => simp [DataW.trod] at h
  | succ fuel =>
    match cs with
    | [] => simp [DataW.trod, ht] at h
    | _ :: _ :: _ => simp [DataW.trod, ht] at h
    | [c] =>
      cases c <;> simp [DataW.trod, ht] at h
      obtain ⟨-, h, -⟩ := h
      rename_i s
      rw [← h]
      simp [bs]
theorem trod_arr {n : Nat} {e : TypeId} {ds : List (DataW H)} (ht : P.underlying t = some (.array n e)) (h : DataW.trod enc P w base sp held fuel t cs = some (.agg ds, p)) :
    ∃ fuel', cs.length = P.cellsOf t ∧ ds.length = n ∧ ∀ i d, ds[i]? = some d → ∃ p', DataW.trod enc P w base sp held fuel' e ((cs.drop (i * P.cellsOf e)).take (P.cellsOf e)) = some (d, p') := by
  cases fuel with
  | zero => simp [DataW.trod] at h
  | succ fuel =>
    simp only [DataW.trod, ht] at h
    split at h
    · rename_i hl
      obtain ⟨xs, hm, hx⟩ := Option.map_eq_some_iff.1 h
      simp only [Prod.mk.injEq, DataW.agg.injEq] at hx
      have hxl : xs.length = n := by simpa using Lib.mapM_length hm
      refine ⟨fuel, hl, by rw [← hx.1]; simpa using hxl, fun i d hd => ?_⟩
      rw [← hx.1, List.getElem?_map, Option.map_eq_some_iff] at hd
      obtain ⟨y, hy, rfl⟩ := hd
      have hi : i < n := by
        rcases Nat.lt_or_ge i n with hi | hi
        · exact hi
        · rw [List.getElem?_eq_none (by omega)] at hy; cases hy
      obtain ⟨b, hb, hf⟩ := Lib.mapM_at hm i i (by simp [hi])
      rw [hy] at hb
      cases hb
      exact ⟨y.2, hf⟩
    · cases h
theorem trod_two {f0 f1 : Field} {a b : B} (ht : P.underlying t = some (.struct #[f0, f1])) (h0 : f0.offset = 0) (h1 : f1.offset = 1) (u0 : P.underlying f0.type = some .string) (u1 : P.underlying f1.type = some .string) (c0 : P.cellsOf f0.type = 1) (c1 : P.cellsOf f1.type = 1) (ct : P.cellsOf t = 2)
    (h : DataW.trod enc P w base sp held fuel t cs = some (.agg [.lit (.string a), .lit (.string b)], p)) : cs = [.string (bs a), .string (bs b)] := by
  cases fuel with
  | zero => simp [DataW.trod] at h
  | succ fuel =>
    simp only [DataW.trod, ht] at h
    split at h
    · rename_i hl
      rw [ct] at hl
      obtain ⟨xs, hm, hx⟩ := Option.map_eq_some_iff.1 h
      simp only [Prod.mk.injEq, DataW.agg.injEq] at hx
      obtain ⟨b0, hb0, hf0⟩ := Lib.mapM_at hm 0 f0 (by simp)
      obtain ⟨b1, hb1, hf1⟩ := Lib.mapM_at hm 1 f1 (by simp)
      have e0 := congrArg (·[0]?) hx.1
      have e1 := congrArg (·[1]?) hx.1
      simp only [List.getElem?_map, hb0, hb1, Option.map_some, List.getElem?_cons_zero, List.getElem?_cons_succ, Option.some.injEq] at e0 e1
      rw [h0, c0] at hf0
      rw [h1, c1] at hf1
      have g0 := trod_str (l := a) (p := b0.2) u0 (by rw [hf0, ← e0])
      have g1 := trod_str (l := b) (p := b1.2) u1 (by rw [hf1, ← e1])
      match cs, hl with
      | [x, y], _ =>
        simp only [List.drop_zero, List.take_succ_cons, List.take_zero, List.cons.injEq, and_true] at g0
        simp only [List.drop_succ_cons, List.drop_zero, List.take_succ_cons, List.take_zero, List.cons.injEq, and_true] at g1
        rw [g0, g1]
    · cases h
end
theorem flat_chunks {α : Type} (f : α → List Value) (m : Nat) (hf : ∀ x, (f x).length = m) : ∀ (l : List α) (cs : List Value), cs.length = l.length * m → (∀ i x, l[i]? = some x → (cs.drop (i * m)).take m = f x) → cs = l.flatMap f
  | [], cs, hl, _ => by simpa using hl
  | x :: l, cs, hl, h => by
    have h0 := h 0 x rfl
    rw [Nat.zero_mul, List.drop_zero] at h0
    have ih := flat_chunks f m hf l (cs.drop m) (by rw [List.length_drop, hl, List.length_cons, Nat.add_mul]; omega) (fun i y hy => by
      have := h (i + 1) y (by simpa using hy)
      rw [List.drop_drop, show m + i * m = (i + 1) * m by rw [Nat.add_mul]; omega]
      exact this)
    rw [List.flatMap_cons, ← h0, ← ih, List.take_append_drop]
theorem cells_of_var {P : Program} {w : World} {n : String} {g : Nat} {cs : Array Value} (hg : P.globalNamed n = some g) (h : w.var? P n = some cs) : (∀ j, w.cell? ⟨g, j, none⟩ = cs[j]?) ∧ g < w.heap.size := by
  unfold World.var? at h
  rw [hg] at h
  simp only [Option.bind_some] at h
  split at h
  · rename_i cs' t f hh
    cases h
    exact ⟨fun j => by simp [World.cell?, hh], by rw [Array.getElem?_eq_some_iff] at hh; exact hh.1⟩
  · cases h
theorem shapes_data {H : Type} : (Rows.laid_stow_prog_shapes : DataW H) = .agg (shapeTab.map fun x => .agg [.lit (.string x.1), .lit (.string x.2)]) := rfl
theorem types_data {H : Type} : (Rows.laid_stow_prog_typeWords : DataW H) = .agg (typeTab.map fun x => .lit (.string x)) := rfl
theorem int_of_shape {P : Program} {w : World} {g : Nat} {t : TypeId} {zero : Array Value} (h : w.ShapedOpen P) (hg : g < P.globals.size) (h0 : ((begin P (fun _ _ => 0) default).world.heap[g]?).bind Obj.row? = some (zero, t)) (hz : zero.size = 1)
    (hb : P.buildable t = true) (hc : P.cellTypes P.depth t = some [t]) (hu : P.underlying t = some (.int .i64)) : ∃ m : Int, w.cell? ⟨g, 0, none⟩ = some (.int .i64 m) := by
  obtain ⟨cs, hh, hs, hr⟩ := h.1 g zero t hg h0
  obtain ⟨ts, hts, -, hall⟩ := hr hb
  rw [hc] at hts
  cases hts
  have h1 : 0 < cs.size := by omega
  obtain ⟨u, hu', hok⟩ := hall 0 cs[0] (by simp [h1])
  have : u = t := by simpa using hu'.symm
  subst this
  have hcell : w.cell? ⟨g, 0, none⟩ = some cs[0] := by simp [World.cell?, hh, h1]
  rw [hcell]
  unfold Cell.ok at hok
  rw [hu] at hok
  cases hv : cs[0] <;> rw [hv] at hok <;> simp at hok
  rename_i k n
  obtain ⟨rfl, -⟩ := hok
  exact ⟨n, rfl⟩
theorem met_of {P : Program} {laid : List (String × DataW Unit)} {W : World} (hf : (laid.filter fun x => x.2.handleName?.isSome) = []) (h : laidMetH P laid W) : laidMet P laid W := by
  unfold laidMetH at h; rw [hf] at h; exact h
theorem laid_mem {P : Program} {w : World} {n : String} {d : DataW Unit} : ∀ {laid : List (String × DataW Unit)} {ps : List MemPlace}, DataW.LaidVars P w laid ps → (n, d) ∈ laid → ∃ g t cs fuel p, P.globalNamed n = some g ∧ (P.globals[g]?).map (·.type) = some t ∧ w.var? P n = some cs ∧ DataW.trod (fun _ => ()) P w 0 (fun _ => true) false fuel t cs.toList = some (d, p)
  | [], _, _, hm => by cases hm
  | (n', d') :: r, ps, h, hm => by
    obtain ⟨g, t, cs, fuel, p, q, h1, h2, h3, h4, h5, -⟩ := h
    rcases List.mem_cons.1 hm with e | hm
    · cases e; exact ⟨g, t, cs, fuel, p, h1, h2, h3, h4⟩
    · exact laid_mem h5 hm
theorem name_shapes : Tryz.prog.globalNamed "stow/prog.shapes" = some 0 := by kernel_rfl
theorem name_types : Tryz.prog.globalNamed "stow/prog.typeWords" = some 1 := by kernel_rfl
theorem name_syn : Tryz.prog.globalNamed "strconv.ErrSyntax" = some 9 := by kernel_rfl
theorem name_rng : Tryz.prog.globalNamed "strconv.ErrRange" = some 10 := by kernel_rfl
theorem type_shapes : (Tryz.prog.globals[0]?).map (·.type) = some 148 := by kernel_rfl
theorem type_types : (Tryz.prog.globals[1]?).map (·.type) = some 149 := by kernel_rfl
theorem type_syn : (Tryz.prog.globals[9]?).map (·.type) = some 221 := by kernel_rfl
theorem type_rng : (Tryz.prog.globals[10]?).map (·.type) = some 221 := by kernel_rfl
theorem cells_shapes : Tryz.prog.cellsOf 148 = 46 := by kernel_rfl
theorem cells_shape : Tryz.prog.cellsOf 147 = 2 := by kernel_rfl
theorem cells_types : Tryz.prog.cellsOf 149 = 4 := by kernel_rfl
theorem cells_string : Tryz.prog.cellsOf 9 = 1 := by kernel_rfl
theorem many : Tryz.prog.globals.size = 11 := by kernel_rfl
/-- what the list of a row gives the reader -/
theorem env_of {laid : List (String × DataW Unit)} {W : World} (hL : laidMet Tryz.prog laid W) (hsh : W.ShapedOpen Tryz.prog) (m1 : ("stow/prog.shapes", Rows.laid_stow_prog_shapes) ∈ laid) (m2 : ("stow/prog.typeWords", Rows.laid_stow_prog_typeWords) ∈ laid)
    (m3 : ("strconv.ErrSyntax", Rows.laid_strconv_ErrSyntax) ∈ laid) (m4 : ("strconv.ErrRange", Rows.laid_strconv_ErrRange) ∈ laid) : Env W := by
  obtain ⟨ps, hV, -⟩ := hL
  refine ⟨?_, ?_, ?_, ?_, ?_, ?_⟩
  · obtain ⟨g, t, cs, fuel, p, h1, h2, h3, h4⟩ := laid_mem hV m1
    rw [name_shapes] at h1
    cases h1
    rw [type_shapes] at h2
    cases h2
    rw [shapes_data] at h4
    obtain ⟨fuel', hl, hn, hi⟩ := trod_arr Tryz.underlying148 h4
    rw [cells_shapes] at hl
    have hcs : cs.toList = shapeCells := by
      refine flat_chunks (fun x : B × B => [.string (bs x.1), .string (bs x.2)]) 2 (fun _ => rfl) shapeTab cs.toList hl fun i x hx => ?_
      obtain ⟨p', hp'⟩ := hi i (.agg [.lit (.string x.1), .lit (.string x.2)]) (by rw [List.getElem?_map, hx]; rfl)
      rw [cells_shape] at hp'
      exact trod_two Tryz.underlying147 rfl rfl Tryz.underlying9 Tryz.underlying9 cells_string cells_string cells_shape hp'
    obtain ⟨hc, -⟩ := cells_of_var name_shapes h3
    intro j v hv
    rw [Nat.zero_add, hc, ← Array.getElem?_toList, hcs]
    exact hv
  · obtain ⟨g, t, cs, fuel, p, h1, h2, h3, h4⟩ := laid_mem hV m2
    rw [name_types] at h1
    cases h1
    rw [type_types] at h2
    cases h2
    rw [types_data] at h4
    obtain ⟨fuel', hl, hn, hi⟩ := trod_arr Tryz.underlying149 h4
    rw [cells_types] at hl
    have hcs : cs.toList = typeTab.flatMap (fun x : B => [.string (bs x)]) := by
      refine flat_chunks (fun x : B => [.string (bs x)]) 1 (fun _ => rfl) typeTab cs.toList hl fun i x hx => ?_
      obtain ⟨p', hp'⟩ := hi i (.lit (.string x)) (by rw [List.getElem?_map, hx]; rfl)
      rw [cells_string] at hp'
      exact trod_str Tryz.underlying9 hp'
    obtain ⟨hc, -⟩ := cells_of_var name_types h3
    intro j v hv
    rw [Nat.zero_add, hc, ← Array.getElem?_toList, hcs]
    exact hv
  · exact int_of_shape hsh (by rw [many]; decide) (g := 3) (t := 3) (zero := #[.int .i64 0]) (by kernel_rfl) rfl (by kernel_rfl) (by kernel_rfl) Tryz.underlying3
  · obtain ⟨g, t, cs, fuel, p, h1, h2, h3, h4⟩ := laid_mem hV m3
    rw [name_syn] at h1
    cases h1
    rw [type_syn] at h2
    cases h2
    obtain ⟨fuel', u, v, hcs, -⟩ := iface_of_trod Tryz.underlying221 h4
    obtain ⟨hc, -⟩ := cells_of_var name_syn h3
    exact ⟨u, v, by rw [hc, ← Array.getElem?_toList, hcs]; rfl⟩
  · obtain ⟨g, t, cs, fuel, p, h1, h2, h3, h4⟩ := laid_mem hV m4
    rw [name_rng] at h1
    cases h1
    rw [type_rng] at h2
    cases h2
    obtain ⟨fuel', u, v, hcs, -⟩ := iface_of_trod Tryz.underlying221 h4
    obtain ⟨hc, -⟩ := cells_of_var name_rng h3
    exact ⟨u, v, by rw [hc, ← Array.getElem?_toList, hcs]; rfl⟩
  · obtain ⟨g, t, cs, fuel, p, h1, h2, h3, h4⟩ := laid_mem hV m4
    have := (cells_of_var name_rng h3).2
    omega
end Go.Proofs.YtmlgajhhnojdjaaGreatDoor.PrjY
/- What the cards' lists and arguments give besides: the table of powers; a list of numbers in memory. -/
namespace Go.Proofs.YtmlgajhhnojdjaaGreatDoor.PrjY
open Go Go.RowKit Go.Proofs.YtmlgajhhnojdjaaGreatDoor.Spec Go.Proofs.YtmlgajhhnojdjaaGreatDoor.Own

theorem type_pow : (Tryz.prog.globals[4]?).map (·.type) = some 299 := by kernel_rfl
theorem pow_data {H : Type} : (Rows.laid_internal_strconv_uint64pow10 : DataW H) = Lib.tabData .u64 Lib.pow10Tab := rfl
theorem cells_u64 : Tryz.prog.cellsOf 281 = 1 := by kernel_rfl
theorem cells_pow : Tryz.prog.cellsOf 299 = 20 := by kernel_rfl
theorem pow_of {laid : List (String × DataW Unit)} {W : World} (hL : laidMet Tryz.prog laid W) (m : ("internal/strconv.uint64pow10", Rows.laid_internal_strconv_uint64pow10) ∈ laid) : Own.Pow W := by
  obtain ⟨ps, hV, -⟩ := hL
  obtain ⟨g, t, cs, fuel, p, h1, h2, h3, h4⟩ := laid_mem hV m
  rw [pow_at] at h1
  cases h1
  rw [type_pow] at h2
  cases h2
  rw [pow_data] at h4
  have := Lib.cells_of_tab Tryz.underlying299 Tryz.underlying281 cells_u64 cells_pow h4
  unfold Own.Pow Lib.TabIs
  rw [h3, ← this]
end Go.Proofs.YtmlgajhhnojdjaaGreatDoor.PrjY
/- A world in which the tables lie as start-up lays them: the witness that the cards ask. -/
namespace Go.Proofs.YtmlgajhhnojdjaaGreatDoor.PrjZ
open Go Go.RowKit Go.Proofs.YtmlgajhhnojdjaaGreatDoor.Spec

/-- plain data, cell by cell -/
def flatD {H : Type} : Nat → DataW H → List Value
  | 0, _ => []
  | _ + 1, .lit (.int k n) => [.int k n]
  | _ + 1, .lit (.string l) => [.string (bs l)]
  | n + 1, .agg ds => ds.flatMap (flatD n)
  | _ + 1, _ => []
def put (g : Nat) (cs : List Value) (h : Array Obj) : Array Obj := h.modify g fun
  | .cells _ t frozen => .cells cs.toArray t frozen
  | o => o
noncomputable def low : Nat := (World.holding Tryz.prog default ⟨#[], #[], []⟩).heap.size
noncomputable def laidWorld (os : Os) : World :=
  let w0 := World.holding Tryz.prog os ⟨#[.cells #[.string (bs [118, 97, 108, 117, 101, 32, 111, 117, 116, 32, 111, 102, 32, 114, 97, 110, 103, 101])] 327, .cells #[.string (bs [105, 110, 118, 97, 108, 105, 100, 32, 115, 121, 110, 116, 97, 120])] 327], #[], []⟩
  { w0 with heap := put 0 (flatD 8 (Rows.laid_stow_prog_shapes (H := Unit))) (put 1 (flatD 8 (Rows.laid_stow_prog_typeWords (H := Unit))) (put 2 (flatD 8 (Rows.laid_stow_prog_suffixes (H := Unit)))
      (put 4 (flatD 8 (Rows.laid_internal_strconv_uint64pow10 (H := Unit))) (put 5 (flatD 8 Rows.laid_unicode_utf8_first) (put 6 (flatD 8 (Rows.laid_unicode_utf8_acceptRanges (H := Unit)))
      (put 7 (flatD 8 (Rows.laid_math_bits_deBruijn32tab (H := Unit))) (put 8 (flatD 8 (Rows.laid_math_bits_deBruijn64tab (H := Unit)))
      (put 10 [.iface 325 (.pointer (some ⟨low, 0, none⟩))] (put 9 [.iface 325 (.pointer (some ⟨low + 1, 0, none⟩))] w0.heap))))))))) }
theorem laid_met (os : Os) (args : Array Value) : laidMet Tryz.prog Rows.lookedUptoRow.laid ((laidWorld os).forCall (fun _ _ => 0) ⟨#[], args, []⟩).memory :=
  laidMet_of_run' 8 (by kernel_rfl) (by kernel_rfl)
end Go.Proofs.YtmlgajhhnojdjaaGreatDoor.PrjZ
namespace Go.Proofs.YtmlgajhhnojdjaaGreatDoor.acceptsCard
open Go.ChangeShapes Go.WideShapes Go.ChangeAt Go.RowKit Go.Proofs.YtmlgajhhnojdjaaGreatDoor.MadF

theorem own : ownKnob Tryz.prog.godebug = none := by kernel_rfl
theorem laidOut : laidOutB Tryz.prog = true := by kernel_rfl
theorem cellsA : Tryz.prog.cellsOf 37 = 3 := by kernel_rfl
theorem cellsI : Tryz.prog.cellsOf 3 = 1 := by kernel_rfl
theorem i64_of {n : Int} (h : (Lit.int .i64 n).wf = true) : i64 n := by
  have e1 : IntKind.i64.min = -9223372036854775808 := rfl
  have e2 : IntKind.i64.max = 9223372036854775807 := rfl
  unfold i64; simpa [Lit.wf, e1, e2] using h
theorem cell_lt {W : World} {g o : Nat} {v : Value} (h : W.cell? ⟨g, o, none⟩ = some v) : g < W.heap.size := by
  by_cases hg : g < W.heap.size
  · exact hg
  · rw [World.cell?] at h
    simp only [Array.getElem?_eq_none (Nat.le_of_not_lt hg)] at h
    cases h
set_option maxRecDepth 100000 in
theorem acts_open {H : Type} {enc : TypeId × Value → H} {W : World} {a0 : Option Addr} {len cap fuel : Nat} {x : DataW H × List MemPlace} (h : DataW.trod enc Tryz.prog W 0 (fun _ => true) true fuel 24 [.slice a0 len cap] = some x) : ActsAt W (.slice a0 len cap) len := by
  rcases Go.Deep.open_slice Tryz.underlying24 h with ⟨h0, -⟩ | ⟨a, len', cap', m, n, D, Pl, h0, -, hl, hm, hmm, -, hx⟩
  · simp only [List.cons.injEq, Value.slice.injEq, and_true] at h0
    obtain ⟨rfl, rfl, rfl⟩ := h0
    exact ⟨none, 0, rfl, Nat.le_refl _, Nat.zero_le _, fun j hj => absurd hj (Nat.not_lt_zero _)⟩
  · simp only [List.cons.injEq, Value.slice.injEq, and_true] at h0
    obtain ⟨rfl, rfl, rfl⟩ := h0
    simp only [if_true] at hmm
    subst hmm
    rw [cellsA] at hx
    refine ⟨some a, _, rfl, hl, hm, fun j hj => ?_⟩
    obtain ⟨b, off, spot⟩ := a
    obtain ⟨cs, h1, h2⟩ := hx j (by omega)
    obtain ⟨-, hlen, hcell⟩ := World.cells?_some h1
    obtain ⟨xs, k, -, -, -, hxl, hf⟩ := DataW.trod_struct Tryz.underlying37 h2
    match xs, hxl, cs, hlen with
    | [y0, y1, y2], _, [v0, v1, v2], _ =>
      have g0 := hf 0 _ rfl
      have g1 := hf 1 _ rfl
      have g2 := hf 2 _ rfl
      simp [cellsI] at g0 g1 g2
      obtain ⟨n0, e0, -, w0⟩ := DataW.trod_int Tryz.underlying3 g0
      obtain ⟨n1, e1, -, w1⟩ := DataW.trod_int Tryz.underlying3 g1
      obtain ⟨n2, e2, -, w2⟩ := DataW.trod_int Tryz.underlying3 g2
      simp only [List.cons.injEq, and_true] at e0 e1 e2
      subst e0 e1 e2
      have c0 := hcell 0 (by omega)
      have c1 := hcell 1 (by omega)
      have c2 := hcell 2 (by omega)
      rw [Go.Deep.add_add] at c0 c1 c2
      have hspot : spot = none := by
        obtain ⟨cs0, q1, -⟩ := hx 0 (by omega)
        obtain ⟨-, hlen0, hcell0⟩ := World.cells?_some q1
        have z := hcell0 0 (by omega)
        rw [List.getElem?_eq_getElem (by omega)] at z
        simpa [Addr.add] using World.cell?_spot z
      subst hspot
      rw [add_plain] at c0 c1 c2
      simp only [Nat.add_zero, ← Nat.add_assoc] at c0 c1 c2
      have c0' : W.cell? ⟨b, off + j * 3, none⟩ = some (.int .i64 n0) := by simpa using c0
      have c1' : W.cell? ⟨b, off + j * 3 + 1, none⟩ = some (.int .i64 n1) := by simpa using c1
      have c2' : W.cell? ⟨b, off + j * 3 + 2, none⟩ = some (.int .i64 n2) := by simpa using c2
      exact ⟨b, off, rfl, cell_lt c0', n0, n1, n2, i64_of w0, i64_of w1, i64_of w2, c0', c1', c2'⟩
abbrev spec : OpenSpec := OpenSpec.ofChange Rows.acceptsSpec
set_option maxRecDepth 100000 in
theorem contract (H : Type) (enc : TypeId × Value → H) (W : World) (base : Nat) (args : Array Value) (ds gs : List (DataW H)) (before : List MemPlace)
    (hval : ∀ (j : Nat) t v, Tryz.f6.params[j]? = some t → args[j]? = some v → Value.okWide Tryz.prog W .any base t v)
    (hW : DataW.Whole enc Tryz.prog Tryz.f6.params.toList Rows.acceptsSpec.vars false W args.toList ds gs before) (hL : laidMetH Tryz.prog Rows.acceptsRow.laid W) (hsh : W.ShapedOpen Tryz.prog) :
    Calls Tryz.prog 6 args W fun e W' => ∃ v, e = .returned v ∧ Rows.acceptsSpec.post enc Tryz.prog Tryz.f6 false true false false W args v W' := by
  have hM := PrjY.met_of (by kernel_rfl) hL
  have E := PrjY.env_of (laid := Rows.acceptsRow.laid) hM hsh (by simp [Rows.acceptsRow]) (by simp [Rows.acceptsRow]) (by simp [Rows.acceptsRow]) (by simp [Rows.acceptsRow])
  have hp := PrjY.pow_of (laid := Rows.acceptsRow.laid) hM (by simp [Rows.acceptsRow])
  have hW' := hW
  obtain ⟨p, q, hA0, hV, rfl, hfz, hnd⟩ := hW
  have hA : DataW.TrodAll enc Tryz.prog W 0 (fun _ => true) true Tryz.f6.params.toList args.toList ds p := hA0
  rw [Tryz.params6] at hA
  have hv0 := fun v (h : args[0]? = some v) => hval 0 24 v (by rw [Tryz.params6]; rfl) h
  clear hval
  obtain ⟨v0, d0, rfl, rfl, h0⟩ := trodAll_one hA
  obtain ⟨rfl, rfl⟩ := trodVars_none hV
  obtain ⟨a0, l0, c0, rfl⟩ := okWide_slice Tryz.underlying24 (hv0 v0 rfl)
  clear hA0
  have hlt : ∀ x ∈ p, x.block < W.heap.size := fun x hx => by simpa using hW'.lt x (by simpa using hx)
  have k0 : ∀ W', Below W.heap.size W W' → DataW.Trod enc Tryz.prog W' 0 (fun b => decide (b < W.heap.size)) true 24 (.slice a0 l0 c0) d0 p := fun W' hn => Below.trod laidOut (by kernel_rfl) (of_decide_eq_true (by kernel_rfl)) h0 hn (fun x hx => hlt x (by simp [hx]))
  obtain ⟨f0, hf0⟩ := h0
  have walk := Bal.Accepts_any (.slice a0 l0 c0) l0 W (acts_open hf0) E hp
  refine walk.mono fun e W' ⟨he, hb⟩ => ?_
  subst he
  exact ⟨_, rfl, _, _, _, [], _, [], hW', trodAll_mk1 (shut_bool Tryz.underlying4 _), trodAll_mk1 (k0 W' hb), rfl, hb.frame _, fun h => by cases h⟩
theorem reads (os : Os) {H : Type} (enc : TypeId × Value → H) : ∃ places, DataW.whole enc Tryz.prog ((PrjZ.laidWorld os).forCall (fun _ _ => 0) ⟨#[], #[.slice none 0 0], []⟩).memory Tryz.f6.params.toList Rows.acceptsSpec.vars false #[Value.slice none 0 0].toList 8 = some ([.nil], [], places) :=
  ⟨[], by kernel_rfl⟩
set_option maxRecDepth 100000 in
theorem lifted (os : Os) (started : os.Started) (H : Type) (enc : TypeId × Value → H) (F : Stop.Interp) :
    ReturnsInHanded {} Tryz.checked os 6 .any (spec.preRow enc Tryz.prog Tryz.f6 Rows.acceptsRow.domain false Rows.acceptsRow.laid) ((spec.at F).post enc Tryz.prog Tryz.f6 false true false false) := by
  obtain ⟨places, hx⟩ := reads os enc
  refine returnsInHanded_of_row (C := Tryz.checked) (s := spec) own started (by kernel_rfl) Tryz.func6
    (witness_row_at (enc := enc) (C := Tryz.checked) false (PrjZ.laidWorld os) #[.slice none 0 0] rfl (by kernel_rfl) (by kernel_rfl) (by kernel_rfl)
      (OpenSpec.preRow_of_cond 8 hx (by kernel_rfl) (fun k hk => by cases hk) (by kernel_rfl) (PrjZ.laid_met os _))) ?_
  intro W base args ds gs before hval hW _ _ _ hL hsh _
  exact contract H enc W base args ds gs before hval hW hL hsh
theorem said : Rows.AcceptsSaid :=
  OpenClaim.holds_of_cond 6 Tryz.f6 rfl rfl rfl rfl rfl rfl rfl ⟨rfl, rfl, rfl, rfl, rfl⟩ rfl rfl rfl rfl rfl (by kernel_rfl) Tryz.func6 (by kernel_rfl)
    (of_decide_eq_true (by kernel_rfl)) (by unfold Func.isWrapper; first | (rw [if_pos (by decide +kernel)]; kernel_rfl) | (rw [if_neg (by decide +kernel)]; exact ⟨rfl, rfl⟩))
    (fun os started H enc _ F => by rw [OpenClaim.pre_eq_preRow]; exact lifted os started H enc F)
theorem plain (f : FuncId) (fn : Func) (hf : Tryz.pinned.checked.prog.funcNamed "stow/stowkeep.Accepts" = some f) (hfn : Tryz.pinned.checked.prog.funcs[f]? = some fn) :
    true = Tryz.pinned.checked.prog.looks [] ∧ ∀ (j : Nat) t, fn.params[j]? = some t → Tryz.pinned.checked.prog.wantsStandIn t = false := by
  obtain rfl : f = 6 := Option.some.inj ((show Tryz.prog.funcNamed "stow/stowkeep.Accepts" = some 6 by kernel_rfl).symm.trans hf) |>.symm
  obtain rfl : fn = Tryz.f6 := (Option.some.inj (Tryz.func6.symm.trans hfn)).symm
  refine ⟨by kernel_rfl, fun j t ht => ?_⟩
  rw [Tryz.params6] at ht
  obtain rfl : t = 24 := by simpa using Array.mem_of_getElem? ht
  exact (show Tryz.prog.wantsStandIn 24 = false by kernel_rfl)
/-- THE CARD -/
theorem card : Rows.AcceptsCardSaid :=
  Claim7.holds_tied_plain_at .later [] _ _ _ _ said (fun _ h => by cases h) (by kernel_rfl) (fun _ h => by cases h) accepts_row_tie rfl ⟨rfl, rfl⟩ (by kernel_rfl) rfl plain (by kernel_rfl)
end Go.Proofs.YtmlgajhhnojdjaaGreatDoor.acceptsCard
