/- The document's own answer to which line needs what may not be there first: the row of ways ahead of the loop. Conditions: the program was read whole and lies in memory. -/
import Derived.Test.YtmlgajhhnojdjaaGreatDoorSAU
import Derived.Test.YtmlgajhhnojdjaaGreatDoorSAW
import Derived.Shelf.Small.Wraps
import Derived.Shelf.LaysM
import Derived.Shelf.Strconv.Itoa4
import Derived.Shelf.Strings.OnBuilder
import Derived.Test.YtmlgajhhnojdjaaGreatDoorProg
import Derived.Test.YtmlgajhhnojdjaaGreatDoorSAK
import Derived.Deep.RegionHeld3
import Derived.Deep.RegionLaw
import Derived.BigRegion
import Derived.Lib.ItoaLen
import Derived.Laws.OwnMore
namespace Go.Proofs.YtmlgajhhnojdjaaGreatDoor.RefZe
theorem hereRefZe : True := trivial
end Go.Proofs.YtmlgajhhnojdjaaGreatDoor.RefZe
/- The document's own answer to Check: the first error of a text, and its line. Conditions: the text is not longer than 2^40 bytes. -/
namespace Go.Proofs.YtmlgajhhnojdjaaGreatDoor.RefZf
open Go.RowKit Go.Proofs.YtmlgajhhnojdjaaGreatDoor.Spec Go.Proofs.YtmlgajhhnojdjaaGreatDoor.RefM Go.Proofs.YtmlgajhhnojdjaaGreatDoor.RefZe Go.Proofs.YtmlgajhhnojdjaaGreatDoor.Aux

theorem refRead_bad {text : B} {raw : Bool} {c k : Nat} (h : refRead text raw = (none, c, k)) : 1 ≤ c ∧ c ≤ 4 := by
  unfold refRead at h
  split at h
  · simp only [Prod.mk.injEq] at h; omega
  · split at h
    · simp only [Prod.mk.injEq] at h; omega
    · split at h
      · simp only [Prod.mk.injEq] at h; omega
      · split at h
        · simp only [Prod.mk.injEq] at h; omega
        · split at h
          · simp only [Prod.mk.injEq] at h; omega
          · cases h
end Go.Proofs.YtmlgajhhnojdjaaGreatDoor.RefZf
/- The law Checked, walked: for texts of at most 2^20 letters, in every world that holds the tables. -/
namespace Go.Proofs.YtmlgajhhnojdjaaGreatDoor.FlwZb
theorem hereFlwZb : True := trivial
end Go.Proofs.YtmlgajhhnojdjaaGreatDoor.FlwZb
/- Contracts of the library's functions at this program, laid by the kit's own commands (lay-shelf, lay-plain). -/
namespace Go.Proofs
open Go.Shelf
def Tryz.lays156_ren : Go.Shelf.Ren := ⟨fun | 156 => 83 | 165 => 135 | 166 => 136 | 169 => 137 | 240 => 184 | 241 => 185 | 276 => 216 | 277 => 217 | n => n, fun | 31 => 34 | 9 => 9 | 3 => 3 | 4 => 4 | 0 => 0 | 20 => 20 | 72 => 219 | 76 => 222 | 70 => 217 | 37 => 93 | 75 => 221 | 127 => 257 | 164 => 286 | 5 => 5 | 80 => 82 | n => n, fun | n => n⟩
theorem Tryz.lays156 : Go.Proofs.Lays.n156 Tryz.prog Tryz.lays156_ren := {
  mixed := by kernel_rfl
  f156 := Tryz.func83.trans (congrArg some (by kernel_rfl))
  f165 := Tryz.func135.trans (congrArg some (by kernel_rfl))
  f166 := Tryz.func136.trans (congrArg some (by kernel_rfl))
  f169 := Tryz.func137.trans (congrArg some (by kernel_rfl))
  f240 := Tryz.func184.trans (congrArg some (by kernel_rfl))
  f241 := Tryz.func185.trans (congrArg some (by kernel_rfl))
  f276 := Tryz.func216.trans (congrArg some (by kernel_rfl))
  f277 := Tryz.func217.trans (congrArg some (by kernel_rfl))
  t0 := Tryz.underlying0
  a0 := Tryz.isAgg0
  z0 := Tryz.sizeOf0
  v0 := Tryz.zeroValue0
  t3 := Tryz.underlying3
  a3 := Tryz.isAgg3
  z3 := Tryz.sizeOf3
  v3 := Tryz.zeroValue3
  t4 := Tryz.underlying4
  a4 := Tryz.isAgg4
  z4 := Tryz.sizeOf4
  v4 := Tryz.zeroValue4
  t9 := Tryz.underlying9
  a9 := Tryz.isAgg9
  z9 := Tryz.sizeOf9
  v9 := Tryz.zeroValue9
  t20 := Tryz.underlying20
  a20 := Tryz.isAgg20
  z20 := Tryz.sizeOf20
  v20 := Tryz.zeroValue20
  t31 := Tryz.underlying34
  a31 := Tryz.isAgg34
  z31 := Tryz.sizeOf34
  v31 := Tryz.zeroValue34
  t37 := Tryz.underlying93
  a37 := Tryz.isAgg93
  z37 := Tryz.sizeOf93
  v37 := Tryz.zeroValue93
  t70 := Tryz.underlying217
  a70 := Tryz.isAgg217
  z70 := Tryz.sizeOf217
  v70 := Tryz.zeroValue217
  t72 := Tryz.underlying219
  a72 := Tryz.isAgg219
  z72 := Tryz.sizeOf219
  v72 := Tryz.zeroValue219
  t75 := Tryz.underlying221
  a75 := Tryz.isAgg221
  z75 := Tryz.sizeOf221
  v75 := Tryz.zeroValue221
  t76 := Tryz.underlying222
  a76 := Tryz.isAgg222
  z76 := Tryz.sizeOf222
  v76 := Tryz.zeroValue222
  t127 := Tryz.underlying257
  a127 := Tryz.isAgg257
  z127 := Tryz.sizeOf257
  v127 := Tryz.zeroValue257
  t164 := Tryz.underlying286
  a164 := Tryz.isAgg286
  z164 := Tryz.sizeOf286
  v164 := Tryz.zeroValue286 }
theorem Tryz.Builder_Extra_156 : Builder.Extra Tryz.prog Tryz.lays156_ren := {
  sizeBuilder := by kernel_rfl
  liesBuilder := by kernel_rfl
  t5 := Tryz.underlying5
  a5 := Tryz.isAgg5
  z5 := Tryz.sizeOf5
  v5 := Tryz.zeroValue5
  infoByte := by kernel_rfl
  cellsByte := by kernel_rfl
  sizeByte := by kernel_rfl
  neB5 := by decide }
open Go.RowKit in
theorem Tryz.strings_Join_none (a : Option Addr) (c : Nat) (sep : ByteArray) (w : World) :
    Calls Tryz.prog 83 #[.slice a 0 c, .string sep] w fun e w' => e = .returned (.string ⟨#[]⟩) ∧ w' = w := Any.strings_Join_none Tryz.lays156 Tryz.Builder_Extra_156 a c sep w
open Go.RowKit in
theorem Tryz.strings_Join (bk o c : Nat) (xs : List ByteArray) (sep : ByteArray) (w : World) (hcells : ∀ (j : Nat) x, xs[j]? = some x → w.cell? ⟨bk, o + j, none⟩ = some (.string x)) (hbk : bk < w.heap.size) (hN : xs.length ≤ 140737488355328) (hcap : xs.length ≤ c) (hlen : (Lib.join (xs.map (·.data.toList)) sep.data.toList).length ≤ 140737488355328) :
    Calls Tryz.prog 83 #[.slice (some ⟨bk, o, none⟩) xs.length c, .string sep] w fun e w' => e = .returned (.string ⟨(Lib.join (xs.map (·.data.toList)) sep.data.toList).toArray⟩) ∧ Below w.heap.size w w' := Any.strings_Join Tryz.lays156 Tryz.Builder_Extra_156 bk o c xs sep w hcells hbk hN hcap hlen
def Tryz.laysM173_ren : Go.Shelf.Ren := ⟨fun | 173 => 133 | 246 => 182 | 283 => 212 | 284 => 213 | 285 => 214 | 286 => 215 | 129 => 232 | 317 => 231 | 318 => 233 | 319 => 234 | 320 => 235 | 337 => 242 | 338 => 243 | n => n, fun | 2 => 2 | 3 => 3 | 9 => 9 | 4 => 4 | 171 => 90 | 0 => 0 | 53 => 281 | 37 => 93 | 5 => 5 | 173 => 284 | 212 => 299 | 51 => 300 | 20 => 20 | 213 => 301 | 46 => 292 | 232 => 313 | 233 => 314 | n => n, fun | 17 => 4 | 18 => 7 | 19 => 8 | n => n⟩
theorem Tryz.laysM173 : Go.Proofs.LaysM.n173 Tryz.prog Tryz.laysM173_ren := {
  mixed := by kernel_rfl
  f129 := Tryz.func232.trans (congrArg some (by kernel_rfl))
  f173 := Tryz.func133.trans (congrArg some (by kernel_rfl))
  f246 := Tryz.func182.trans (congrArg some (by kernel_rfl))
  f283 := Tryz.func212.trans (congrArg some (by kernel_rfl))
  f284 := Tryz.func213.trans (congrArg some (by kernel_rfl))
  f285 := Tryz.func214.trans (congrArg some (by kernel_rfl))
  f286 := Tryz.func215.trans (congrArg some (by kernel_rfl))
  f317 := Tryz.func231.trans (congrArg some (by kernel_rfl))
  f318 := Tryz.func233.trans (congrArg some (by kernel_rfl))
  f319 := Tryz.func234.trans (congrArg some (by kernel_rfl))
  f320 := Tryz.func235.trans (congrArg some (by kernel_rfl))
  f337 := Tryz.func242.trans (congrArg some (by kernel_rfl))
  f338 := Tryz.func243.trans (congrArg some (by kernel_rfl))
  t0 := Tryz.underlying0
  a0 := Tryz.isAgg0
  z0 := Tryz.sizeOf0
  v0 := Tryz.zeroValue0
  t2 := Tryz.underlying2
  a2 := Tryz.isAgg2
  z2 := Tryz.sizeOf2
  v2 := Tryz.zeroValue2
  t3 := Tryz.underlying3
  a3 := Tryz.isAgg3
  z3 := Tryz.sizeOf3
  v3 := Tryz.zeroValue3
  t4 := Tryz.underlying4
  a4 := Tryz.isAgg4
  z4 := Tryz.sizeOf4
  v4 := Tryz.zeroValue4
  t5 := Tryz.underlying5
  a5 := Tryz.isAgg5
  z5 := Tryz.sizeOf5
  v5 := Tryz.zeroValue5
  t9 := Tryz.underlying9
  a9 := Tryz.isAgg9
  z9 := Tryz.sizeOf9
  v9 := Tryz.zeroValue9
  t20 := Tryz.underlying20
  a20 := Tryz.isAgg20
  z20 := Tryz.sizeOf20
  v20 := Tryz.zeroValue20
  t37 := Tryz.underlying93
  a37 := Tryz.isAgg93
  z37 := Tryz.sizeOf93
  v37 := Tryz.zeroValue93
  t46 := Tryz.underlying292
  a46 := Tryz.isAgg292
  z46 := Tryz.sizeOf292
  v46 := Tryz.zeroValue292
  t51 := Tryz.underlying300
  a51 := Tryz.isAgg300
  z51 := Tryz.sizeOf300
  v51 := Tryz.zeroValue300
  t53 := Tryz.underlying281
  a53 := Tryz.isAgg281
  z53 := Tryz.sizeOf281
  v53 := Tryz.zeroValue281
  t171 := Tryz.underlying90
  a171 := Tryz.isAgg90
  z171 := Tryz.sizeOf90
  v171 := Tryz.zeroValue90
  t173 := Tryz.underlying284
  a173 := Tryz.isAgg284
  z173 := Tryz.sizeOf284
  v173 := Tryz.zeroValue284
  t212 := Tryz.underlying299
  a212 := Tryz.isAgg299
  z212 := Tryz.sizeOf299
  v212 := Tryz.zeroValue299
  t213 := Tryz.underlying301
  a213 := Tryz.isAgg301
  z213 := Tryz.sizeOf301
  t232 := Tryz.underlying313
  a232 := Tryz.isAgg313
  z232 := Tryz.sizeOf313
  v232 := Tryz.zeroValue313
  t233 := Tryz.underlying314
  a233 := Tryz.isAgg314
  z233 := Tryz.sizeOf314
  v233 := Tryz.zeroValue314
  g17 := by kernel_rfl
  g18 := by kernel_rfl
  g19 := by kernel_rfl
  i0 := by kernel_rfl
  i2 := by kernel_rfl
  i3 := by kernel_rfl
  i4 := by kernel_rfl
  i5 := by kernel_rfl
  i9 := by kernel_rfl
  i20 := by kernel_rfl
  i37 := by kernel_rfl
  i46 := by kernel_rfl
  i51 := by kernel_rfl
  i53 := by kernel_rfl
  i171 := by kernel_rfl
  i173 := by kernel_rfl
  i212 := by kernel_rfl
  i232 := by kernel_rfl
  i233 := by kernel_rfl
  m17 := by kernel_rfl
  m18 := by kernel_rfl
  m19 := by kernel_rfl }
open Go.RowKit Go.Sort Go.Lib in
theorem Tryz.strconv_FormatInt_10 (n : Int) (h0 : -9223372036854775808 ≤ n) (h1 : n ≤ 9223372036854775807) (w : World) (htab : Lib.TabIs Tryz.prog w "internal/strconv.uint64pow10" .u64 Lib.pow10Tab) :
    Calls Tryz.prog 133 #[.int .i64 n, .int .i64 10] w fun e w' => e = .returned (.string ⟨(Lib.itoa n).toArray⟩) ∧ ∃ k os, w' = grow (w.drewN k) os := Any.strconv_FormatInt_10 Tryz.laysM173 n h0 h1 w htab
end Go.Proofs
/- The project's machines: what both have in a yard, as plain functions; how it lies in memory; a word more of the trace. -/
namespace Go.Proofs.YtmlgajhhnojdjaaGreatDoor.Own
open Go Go.RowKit Go.Proofs.YtmlgajhhnojdjaaGreatDoor.Spec Go.Proofs.YtmlgajhhnojdjaaGreatDoor.Aux Go.Proofs.YtmlgajhhnojdjaaGreatDoor.PrjJ Go.Proofs.YtmlgajhhnojdjaaGreatDoor.PrjK Go.Proofs.YtmlgajhhnojdjaaGreatDoor.PrjL Go.Proofs.YtmlgajhhnojdjaaGreatDoor.PrjM

/-- the library's table of powers lies where the start-up lays it -/
def Pow (w : World) : Prop := Lib.TabIs Tryz.prog w "internal/strconv.uint64pow10" .u64 Lib.pow10Tab
/-- what is kept of the boxes of a run, and the trace -/
structure Yd where
  made : List (Int × Bool)
  live : Int
  trace : List B
def Yd.note (y : Yd) (c : UInt8) (n : Int) : Yd := { y with trace := y.trace ++ [c :: Lib.itoa n] }
def boxCell (x : Int × Bool) : List Value := [.int .i64 x.1, .bool x.2]
def boxCells (l : List (Int × Bool)) : List Value := l.flatMap boxCell
def trCells (l : List B) : List Value := l.map fun b => .string (bs b)
def isMach (t : TypeId) : Prop := t = 104 ∨ t = 136
structure YAt (z x : Nat) (t : TypeId) (rest : List Value) (w : World) (y : Yd) (vm vt : Value) : Prop where
  base : z ≤ x
  ty : isMach t
  blk : w.heap[x]? = some (.cells (vm :: .int .i64 y.live :: vt :: rest).toArray t (0, 0))
  made : w.ownsRow z 175 2 vm y.made.length (boxCells y.made)
  trace : w.ownsRow z 9 1 vt y.trace.length (trCells y.trace)
/-- of what was there nothing but the machine and its rows has turned -/
structure Roam (x : Nat) (vm vt : Value) (w : World) (vm' vt' : Value) (w' : World) : Prop where
  os : w'.os = w.os
  tape : w'.tape = w.tape
  output : w'.output = w.output
  size : w.heap.size ≤ w'.heap.size
  block : ∀ k, k < w.heap.size → k ≠ x → vm.ownBlock ≠ some k → vt.ownBlock ≠ some k → w'.heap[k]? = w.heap[k]?
  fm : ∀ b, vm'.ownBlock = some b → vm.ownBlock = some b ∨ w.heap.size ≤ b
  ft : ∀ b, vt'.ownBlock = some b → vt.ownBlock = some b ∨ w.heap.size ≤ b
section
variable {z x : Nat} {t : TypeId} {rest : List Value} {w w1 w2 w3 : World} {y : Yd} {vm vt vm1 vt1 vm2 vt2 v' : Value}
theorem Roam.refl (x : Nat) (vm vt : Value) (w : World) : Roam x vm vt w vm vt w := ⟨rfl, rfl, rfl, Nat.le_refl _, fun _ _ _ _ _ => rfl, fun _ h => .inl h, fun _ h => .inl h⟩
theorem Roam.trans (h : Roam x vm vt w vm1 vt1 w1) (h' : Roam x vm1 vt1 w1 vm2 vt2 w2) : Roam x vm vt w vm2 vt2 w2 := by
  refine ⟨h'.os.trans h.os, h'.tape.trans h.tape, h'.output.trans h.output, Nat.le_trans h.size h'.size, fun k hk h1 h2 h3 => ?_, fun b hb => ?_, fun b hb => ?_⟩
  · refine (h'.block k (Nat.lt_of_lt_of_le hk h.size) h1 (fun e => ?_) (fun e => ?_)).trans (h.block k hk h1 h2 h3)
    · rcases h.fm k e with e' | e'
      · exact h2 e'
      · omega
    · rcases h.ft k e with e' | e'
      · exact h3 e'
      · omega
  · rcases h'.fm b hb with e | e
    · exact h.fm b e
    · exact .inr (Nat.le_trans h.size e)
  · rcases h'.ft b hb with e | e
    · exact h.ft b e
    · exact .inr (Nat.le_trans h.size e)
theorem Roam.of (h : Below w.heap.size w w1) : Roam x vm vt w vm vt w1 := ⟨h.os, h.tape, h.output, h.size, fun k hk _ _ _ => h.block k hk, fun _ h => .inl h, fun _ h => .inl h⟩
theorem YAt.lt (h : YAt z x t rest w y vm vt) : x < w.heap.size := lt_of_heap h.blk
theorem YAt.below (h : YAt z x t rest w y vm vt) (hb : Below w.heap.size w w1) : YAt z x t rest w1 y vm vt :=
  ⟨h.base, h.ty, by rw [hb.block x h.lt]; exact h.blk, own_below h.made hb, own_below h.trace hb⟩
theorem isMach.ne (h : isMach t) : 175 ≠ t ∧ 9 ≠ t := by
  rcases h with rfl | rfl <;> decide
theorem Roam.below (h : Roam x vm vt w vm1 vt1 w1) (hy : YAt z x t rest w y vm vt) {b : Nat} (hb : b ≤ z) (hs : b ≤ w.heap.size) : Below b w w1 := by
  refine ⟨h.os, h.tape, h.output, h.size, fun k hk => h.block k (by omega) (by have := hy.base; omega) (fun e => ?_) (fun e => ?_)⟩
  · have := (hy.made.lt k e).1; omega
  · have := (hy.trace.lt k e).1; omega
theorem YAt.facts (h : YAt z x t rest w y vm vt) : w.cell? ⟨x, 0, none⟩ = some vm ∧ w.cell? ⟨x, 1, none⟩ = some (.int .i64 y.live) ∧ w.cell? ⟨x, 2, none⟩ = some vt ∧ w.frozen? ⟨x, 0, none⟩ = false ∧ w.frozen? ⟨x, 1, none⟩ = false ∧ w.frozen? ⟨x, 2, none⟩ = false :=
  ⟨by rw [cell_of_heap h.blk]; simp, by rw [cell_of_heap h.blk]; simp, by rw [cell_of_heap h.blk]; simp, frozen_of_heap h.blk 0, frozen_of_heap h.blk 1, frozen_of_heap h.blk 2⟩
/-- a word more of the trace -/
theorem YAt.noted (h : YAt z x t rest w y vm vt) (h2 : Below w.heap.size w w2) {l : B} (h3 : w3.ownsRow z 9 1 v' (y.trace.length + 1) (trCells y.trace ++ [.string (bs l)])) (hg : w2.grownBy w3 vt.ownBlock)
    (hf : ∀ b, v'.ownBlock = some b → vt.ownBlock = some b ∨ w2.heap.size ≤ b) :
    YAt z x t rest (w3.setCell ⟨x, 2, none⟩ v') { y with trace := y.trace ++ [l] } vm v' ∧ Roam x vm vt w vm v' (w3.setCell ⟨x, 2, none⟩ v') := by
  have H := h.below h2
  obtain ⟨n1, n2⟩ := h.ty.ne
  have hne : some x ≠ vt.ownBlock := own_type_ne H.trace H.blk n2
  have hblk : w3.heap[x]? = some (.cells (vm :: .int .i64 y.live :: vt :: rest).toArray t (0, 0)) := by rw [hg.block x H.lt hne]; exact H.blk
  have hm := H.made.kept hg (own_ne H.made H.trace (by decide))
  refine ⟨⟨h.base, h.ty, ?_, own_setCell hm _ (own_at_ne hm hblk n1), ?_⟩, ?_⟩
  · rw [Aux.heap_setCell_same hblk]; simp
  · have := own_setCell h3 (a := ⟨x, 2, none⟩) v' (own_at_ne h3 hblk n2)
    simpa [trCells] using this
  · refine ⟨hg.os.trans h2.os, hg.tape.trans h2.tape, hg.output.trans h2.output, by simpa using Nat.le_trans h2.size hg.size, fun k hk h1 hm' ht' => ?_, fun _ h => .inl h, fun b hb => ?_⟩
    · rw [Below.heap_setCell _ _ _ _ (by show k ≠ x; exact h1), hg.block k (Nat.lt_of_lt_of_le hk h2.size) (fun e => ht' e.symm)]
      exact h2.block k hk
    · rcases hf b hb with e | e
      · exact .inl e
      · exact .inr (Nat.le_trans h2.size e)
theorem below_grow (k : Nat) (os : Array Obj) (w : World) : Below w.heap.size w (Go.Sort.grow (w.drewN k) os) := by
  have hd := below_drewN (Below.refl w.heap.size w) k
  refine ⟨hd.os, hd.tape, hd.output, ?_, fun j hj => ?_⟩
  · show w.heap.size ≤ ((w.drewN k).heap ++ os).size
    rw [Array.size_append]; have := hd.size; omega
  · show ((w.drewN k).heap ++ os)[j]? = _
    rw [Array.getElem?_append_left (by have := hd.size; omega)]; exact hd.block j hj
theorem info_str : (Tryz.prog.info? 9).map (fun i => (i.zero, i.size, i.bytes)) = some (some (.string ⟨#[]⟩), 1, 16) := by kernel_rfl
theorem info_box : (Tryz.prog.info? 175).map (fun i => (i.zero, i.size, i.bytes)) = some (some (.agg #[.int .i64 0, .bool false]), 2, 16) := by kernel_rfl
theorem pow_at : Tryz.prog.globalNamed "internal/strconv.uint64pow10" = some 4 := by kernel_rfl
theorem Pow.below (h : Pow w) {b : Nat} (hb : Below b w w1) (hs : 11 ≤ b) : Pow w1 := by
  unfold Pow Lib.TabIs World.var? at h ⊢
  rw [pow_at] at h ⊢
  simp only [Option.bind_some] at h ⊢
  rw [hb.block _ (Nat.lt_of_lt_of_le (by decide) hs)]
  exact h
set_option maxRecDepth 20000 in
set_option maxHeartbeats 2000000 in
theorem note_any (h : YAt z x t rest w y vm vt) (c : UInt8) (n : Int) (hn : -9223372036854775808 ≤ n ∧ n ≤ 9223372036854775807) (hp : Pow w) (hl : y.trace.length ≤ 10000000) :
    Calls Tryz.prog 98 #[.pointer (some ⟨x, 0, none⟩), .string (bs [c]), .int .i64 n] w fun e w' => ∃ vt', e = .returned (.tuple #[]) ∧ YAt z x t rest w' (y.note c n) vm vt' ∧ Roam x vm vt w vm vt' w' := by
  obtain ⟨c0, c1, c2, f0, f1, f2⟩ := h.facts
  obtain ⟨i, hi, hz0, hz1, hz2⟩ := info_parts info_str
  have hil : (Lib.itoa n).length ≤ 21 := Lib.itoa_length_le n hn.1 hn.2
  have hov : ¬ 9223372036854775807 < 1 + (Lib.itoa n).length := by omega
  have KF := fun w' (hp : Pow w') => Tryz.strconv_FormatInt_10 n hn.1 hn.2 w' hp
  go_enter Tryz.func98, Tryz.ntmps98
  go_region_law (first
    | (go_simp; go_at_call 133; refine (KF w.drew hp).mono ?_; rintro e w1 ⟨rfl, hk⟩; have hb1 : Below w.heap.size w w1 := (by obtain ⟨k, os, rfl⟩ := hk; have hb := below_grow k os w.drew; exact ⟨hb.os, hb.tape, hb.output, hb.size, hb.block⟩); clear hk; have H1 := h.below hb1; obtain ⟨d0, d1, d2, g0, g1, g2⟩ := H1.facts; have hbA : Below w1.heap.size w1 (w1.alloc (.cells #[.string (bs [c] ++ ⟨(Lib.itoa n).toArray⟩)] 9)) := (Below.refl _ _).alloc (Nat.le_refl _) _; have HA := H1.below hbA; obtain ⟨a0, a1, a2, b0, b1, b2⟩ := HA.facts; have hsA : z ≤ (w1.alloc (.cells #[.string (bs [c] ++ ⟨(Lib.itoa n).toArray⟩)] 9)).heap.size := (by have := HA.lt; have := HA.base; omega))
    | (refine step_blk (by rfl) _ _ _ (by rfl) z 9 i (.string ⟨#[]⟩) 1 16 Tryz.underlying34 hi hz0 hz1 hz2 (by rfl) (by decide) vt _ _ (by rfl) HA.trace w1.heap.size [.string (bs [c] ++ ⟨(Lib.itoa n).toArray⟩)] (by rfl) Array.getElem?_push_size (by rfl) (by intro u' hu; simp at hu; subst hu; rfl) (by decide) (by omega) hsA ?_; intro g4 c4 w4 hown4 hgrow4 hat4 hlt4; have hblk4 : w4.heap[x]? = _ := (hgrow4.block _ HA.lt (own_type_ne HA.trace HA.blk HA.ty.ne.2)).trans HA.blk; have r2 : w4.cell? ⟨x, 2, none⟩ = some vt := (by rw [cell_of_heap hblk4]; simp); have rf2 : w4.frozen? ⟨x, 2, none⟩ = false := frozen_of_heap hblk4 2))
  all_goals go_wp2_with fail
  all_goals
    go_end0
    have e : bs [c] ++ ⟨(Lib.itoa n).toArray⟩ = bs (c :: Lib.itoa n) := eq_bs (by rw [append_toList, toList_bs]; simp [ByteArray.toList_eq])
    rw [e] at hown4
    obtain ⟨h5, h6⟩ := h.noted (hb1.trans (hbA.mono hb1.size)) hown4 hgrow4 (fun b hb => by
      simp only [Value.ownBlock, Option.some.injEq] at hb
      subst hb
      rcases hat4 with e | e
      · exact .inl e
      · exact .inr (by omega))
    exact ⟨_, rfl, h5, h6⟩
end
end Go.Proofs.YtmlgajhhnojdjaaGreatDoor.Own
/- The project's machines: boxes made, freed, read, written; what is put out. -/
namespace Go.Proofs.YtmlgajhhnojdjaaGreatDoor.Own
open Go Go.RowKit Go.Proofs.YtmlgajhhnojdjaaGreatDoor.Spec Go.Proofs.YtmlgajhhnojdjaaGreatDoor.Aux Go.Proofs.YtmlgajhhnojdjaaGreatDoor.PrjJ Go.Proofs.YtmlgajhhnojdjaaGreatDoor.PrjK Go.Proofs.YtmlgajhhnojdjaaGreatDoor.PrjL Go.Proofs.YtmlgajhhnojdjaaGreatDoor.PrjM

def Yd.build (y : Yd) (v : Int) : Yd := Yd.note { y with made := y.made ++ [(v, true)], live := y.live + 1 } 43 ((y.made.length + 1 : Nat) : Int)
def Yd.at (y : Yd) (n : Nat) : Int × Bool := y.made.getD (n - 1) (0, false)
def Yd.free (y : Yd) (n : Nat) : Yd := Yd.note { y with made := y.made.set (n - 1) ((y.at n).1, false), live := y.live - 1 } 45 ((n : Nat) : Int)
def Yd.load (y : Yd) (n : Nat) : Yd := y.note 60 ((n : Nat) : Int)
def Yd.store (y : Yd) (n : Nat) (v : Int) : Yd := { y.note 62 ((n : Nat) : Int) with made := y.made.set (n - 1) (v, (y.at n).2) }
theorem fresh_of {v : Value} {g n k c : Nat} (h : v.ownBlock = some g ∨ g = n) : ∀ b, (Value.slice (some ⟨g, 0, none⟩) k c).ownBlock = some b → v.ownBlock = some b ∨ n ≤ b := fun b hb => by
  simp only [Value.ownBlock, Option.some.injEq] at hb
  subst hb
  rcases h with e | e
  · exact .inl e
  · exact .inr (by omega)
theorem box_len (x : Int × Bool) : (boxCell x).length = 2 := rfl
theorem box_get (l : List (Int × Bool)) (j : Nat) (hj : j < l.length) : (boxCells l)[j * 2]? = some (.int .i64 (l.getD j (0, false)).1) ∧ (boxCells l)[j * 2 + 1]? = some (.bool (l.getD j (0, false)).2) := by
  have h0 := flat_get boxCell 2 box_len l j 0 (by decide)
  have h1 := flat_get boxCell 2 box_len l j 1 (by decide)
  rw [List.getElem?_eq_getElem hj] at h0 h1
  have e : l.getD j (0, false) = l[j] := by simp [hj]
  rw [e]
  exact ⟨h0, h1⟩
theorem box_set : ∀ (l : List (Int × Bool)) (j : Nat) (x : Int × Bool), boxCells (l.set j x) = if j < l.length then ((boxCells l).set (j * 2) (.int .i64 x.1)).set (j * 2 + 1) (.bool x.2) else boxCells l
  | [], j, x => by simp [boxCells]
  | b :: l, 0, x => by simp [boxCells, boxCell]
  | b :: l, j + 1, x => by
    have ih := box_set l j x
    have e : boxCells (b :: l) = .int .i64 b.1 :: .bool b.2 :: boxCells l := rfl
    have e2 : boxCells ((b :: l).set (j + 1) x) = .int .i64 b.1 :: .bool b.2 :: boxCells (l.set j x) := rfl
    rw [e2, ih, e]
    by_cases hj : j < l.length
    · rw [if_pos hj, if_pos (by simp; omega), show (j + 1) * 2 = j * 2 + 1 + 1 by omega]; rfl
    · rw [if_neg hj, if_neg (by simp; omega)]
theorem set_same {l : List Value} {j : Nat} {v : Value} (h : l[j]? = some v) : l.set j v = l := by
  apply List.ext_getElem?
  intro k
  rw [List.getElem?_set]
  by_cases hk : j = k
  · subst hk
    rw [if_pos rfl, h]
    split
    · rfl
    · rename_i hn; rw [List.getElem?_eq_none (by omega)] at h; cases h
  · rw [if_neg hk]
section
variable {z x : Nat} {t : TypeId} {rest : List Value} {w w1 w2 w3 : World} {y : Yd} {vm vt v' : Value}
theorem YAt.setLive (h : YAt z x t rest w y vm vt) (k : Int) : YAt z x t rest (w.setCell ⟨x, 1, none⟩ (.int .i64 k)) { y with live := k } vm vt ∧ Roam x vm vt w vm vt (w.setCell ⟨x, 1, none⟩ (.int .i64 k)) := by
  obtain ⟨n1, n2⟩ := h.ty.ne
  refine ⟨⟨h.base, h.ty, ?_, own_setCell h.made _ (own_at_ne h.made h.blk n1), own_setCell h.trace _ (own_at_ne h.trace h.blk n2)⟩, ⟨rfl, rfl, rfl, by simp, fun j _ h1 _ _ => Below.heap_setCell _ _ _ _ (by show j ≠ x; exact h1), fun _ h => .inl h, fun _ h => .inl h⟩⟩
  rw [Aux.heap_setCell_same h.blk]; simp
theorem YAt.addBox (h : YAt z x t rest w y vm vt) (h2 : Below w.heap.size w w2) {b : Int × Bool} (h3 : w3.ownsRow z 175 2 v' (y.made.length + 1) (boxCells y.made ++ boxCell b)) (hg : w2.grownBy w3 vm.ownBlock)
    (hf : ∀ b, v'.ownBlock = some b → vm.ownBlock = some b ∨ w2.heap.size ≤ b) :
    YAt z x t rest (w3.setCell ⟨x, 0, none⟩ v') { y with made := y.made ++ [b] } v' vt ∧ Roam x vm vt w v' vt (w3.setCell ⟨x, 0, none⟩ v') := by
  have H := h.below h2
  obtain ⟨n1, n2⟩ := h.ty.ne
  have hne : some x ≠ vm.ownBlock := own_type_ne H.made H.blk n1
  have hblk : w3.heap[x]? = some (.cells (vm :: .int .i64 y.live :: vt :: rest).toArray t (0, 0)) := by rw [hg.block x H.lt hne]; exact H.blk
  have hm := H.trace.kept hg (own_ne H.trace H.made (by decide))
  refine ⟨⟨h.base, h.ty, ?_, ?_, own_setCell hm _ (own_at_ne hm hblk n2)⟩, ?_⟩
  · rw [Aux.heap_setCell_same hblk]; simp
  · have := own_setCell h3 (a := ⟨x, 0, none⟩) v' (own_at_ne h3 hblk n1)
    simpa [boxCells] using this
  · refine ⟨hg.os.trans h2.os, hg.tape.trans h2.tape, hg.output.trans h2.output, by simpa using Nat.le_trans h2.size hg.size, fun k hk h1 hm' ht' => ?_, fun b hb => ?_, fun _ h => .inl h⟩
    · rw [Below.heap_setCell _ _ _ _ (by show k ≠ x; exact h1), hg.block k (Nat.lt_of_lt_of_le hk h2.size) (fun e => hm' e.symm)]
      exact h2.block k hk
    · rcases hf b hb with e | e
      · exact .inl e
      · exact .inr (Nat.le_trans h2.size e)
/-- a box's cells -/
theorem YAt.box (h : YAt z x t rest w y vm vt) {n : Nat} (h1 : 1 ≤ n) (hn : n ≤ y.made.length) : ∃ g cap, vm = .slice (some ⟨g, 0, none⟩) y.made.length cap ∧ y.made.length ≤ cap ∧ g < w.heap.size ∧ w.cell? ⟨g, (n - 1) * 2, none⟩ = some (.int .i64 (y.at n).1) ∧ w.cell? ⟨g, (n - 1) * 2 + 1, none⟩ = some (.bool (y.at n).2) ∧
    w.frozen? ⟨g, (n - 1) * 2, none⟩ = false ∧ w.frozen? ⟨g, (n - 1) * 2 + 1, none⟩ = false := by
  obtain ⟨g, cap, rfl, hc, hg, hcell⟩ := own_cell h.made (by omega)
  obtain ⟨b0, b1⟩ := box_get y.made (n - 1) (by omega)
  exact ⟨g, cap, rfl, hc, hg, by rw [hcell _ (by omega)]; exact b0, by rw [hcell _ (by omega)]; exact b1, h.made.frozenAt _, h.made.frozenAt _⟩
theorem YAt.box' {g k cap : Nat} (h : YAt z x t rest w y (.slice (some ⟨g, 0, none⟩) k cap) vt) {n : Nat} (h1 : 1 ≤ n) (hn : n ≤ y.made.length) : w.cell? ⟨g, (n - 1) * 2, none⟩ = some (.int .i64 (y.at n).1) ∧ w.cell? ⟨g, (n - 1) * 2 + 1, none⟩ = some (.bool (y.at n).2) ∧
    w.frozen? ⟨g, (n - 1) * 2, none⟩ = false ∧ w.frozen? ⟨g, (n - 1) * 2 + 1, none⟩ = false := by
  obtain ⟨g', cap', e, -, -, a1, a2, a3, a4⟩ := h.box h1 hn
  simp only [Value.slice.injEq, Option.some.injEq, Addr.mk.injEq, and_true] at e
  obtain ⟨rfl, -, -⟩ := e
  exact ⟨a1, a2, a3, a4⟩
theorem YAt.setBox {g cap : Nat} (h : YAt z x t rest w y (.slice (some ⟨g, 0, none⟩) y.made.length cap) vt) {n : Nat} (h1 : 1 ≤ n) (hn : n ≤ y.made.length) :
    (∀ v : Int, YAt z x t rest (w.setCell ⟨g, (n - 1) * 2, none⟩ (.int .i64 v)) { y with made := y.made.set (n - 1) (v, (y.at n).2) } (.slice (some ⟨g, 0, none⟩) y.made.length cap) vt ∧ Roam x (.slice (some ⟨g, 0, none⟩) y.made.length cap) vt w (.slice (some ⟨g, 0, none⟩) y.made.length cap) vt (w.setCell ⟨g, (n - 1) * 2, none⟩ (.int .i64 v))) ∧
    (∀ v : Bool, YAt z x t rest (w.setCell ⟨g, (n - 1) * 2 + 1, none⟩ (.bool v)) { y with made := y.made.set (n - 1) ((y.at n).1, v) } (.slice (some ⟨g, 0, none⟩) y.made.length cap) vt ∧ Roam x (.slice (some ⟨g, 0, none⟩) y.made.length cap) vt w (.slice (some ⟨g, 0, none⟩) y.made.length cap) vt (w.setCell ⟨g, (n - 1) * 2 + 1, none⟩ (.bool v))) := by
  obtain ⟨n1, n2⟩ := h.ty.ne
  obtain ⟨b0, b1⟩ := box_get y.made (n - 1) (by omega)
  have hxg : x ≠ g := fun e => own_at_ne h.made h.blk n1 (by rw [e]; rfl)
  have htg : vt.ownBlock ≠ some g := fun e => by
    rcases own_ne h.trace h.made (by decide) with h0 | h0
    · rw [e] at h0; cases h0
    · exact h0 e
  have roam : ∀ (o : Nat) (u : Value), Roam x (.slice (some ⟨g, 0, none⟩) y.made.length cap) vt w (.slice (some ⟨g, 0, none⟩) y.made.length cap) vt (w.setCell ⟨g, o, none⟩ u) := fun o u =>
    ⟨rfl, rfl, rfl, by simp, fun j _ _ h2 _ => Below.heap_setCell _ _ _ _ (by show j ≠ g; intro e; exact h2 (by rw [e]; rfl)), fun _ h => .inl h, fun _ h => .inl h⟩
  have blk : ∀ (o : Nat) (u : Value), (w.setCell ⟨g, o, none⟩ u).heap[x]? = w.heap[x]? := fun o u => Below.heap_setCell _ _ _ _ (by show x ≠ g; exact hxg)
  constructor
  · intro v
    refine ⟨⟨h.base, h.ty, by rw [blk]; exact h.blk, ?_, own_setCell h.trace _ htg⟩, roam _ _⟩
    have := (h.made.stored ((n - 1) * 2) (.int .i64 v)).1
    have e : boxCells (y.made.set (n - 1) (v, (y.at n).2)) = (boxCells y.made).set ((n - 1) * 2) (.int .i64 v) := by
      rw [box_set, if_pos (by omega)]
      refine set_same ?_
      rw [List.getElem?_set_ne (by omega)]; exact b1
    simp only [List.length_set]
    rw [e]; exact this
  · intro v
    refine ⟨⟨h.base, h.ty, by rw [blk]; exact h.blk, ?_, own_setCell h.trace _ htg⟩, roam _ _⟩
    have := (h.made.stored ((n - 1) * 2 + 1) (.bool v)).1
    have e : boxCells (y.made.set (n - 1) ((y.at n).1, v)) = (boxCells y.made).set ((n - 1) * 2 + 1) (.bool v) := by
      rw [box_set, if_pos (by omega)]
      have : (boxCells y.made).set ((n - 1) * 2) (.int .i64 (y.at n).1) = boxCells y.made := set_same b0
      rw [this]
    simp only [List.length_set]
    rw [e]; exact this
end
end Go.Proofs.YtmlgajhhnojdjaaGreatDoor.Own
