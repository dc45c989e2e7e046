/- The project's bare machine: a run as a plain function; what stays within bounds. -/
import Derived.Test.YtmlgajhhnojdjaaGreatDoorSBI
import Derived.Test.YtmlgajhhnojdjaaGreatDoorSBC
import Derived.Test.YtmlgajhhnojdjaaGreatDoorSAE
import Derived.Test.YtmlgajhhnojdjaaGreatDoorSAN
import Derived.Test.YtmlgajhhnojdjaaGreatDoorSAR
namespace Go.Proofs.YtmlgajhhnojdjaaGreatDoor.Ex
open Go Go.RowKit Go.Proofs.YtmlgajhhnojdjaaGreatDoor.Spec Go.Proofs.YtmlgajhhnojdjaaGreatDoor.Aux Go.Proofs.YtmlgajhhnojdjaaGreatDoor.PrjJ Go.Proofs.YtmlgajhhnojdjaaGreatDoor.PrjK Go.Proofs.YtmlgajhhnojdjaaGreatDoor.PrjL Go.Proofs.YtmlgajhhnojdjaaGreatDoor.PrjM Go.Proofs.YtmlgajhhnojdjaaGreatDoor.PrjR Go.Proofs.YtmlgajhhnojdjaaGreatDoor.PrjS Go.Proofs.YtmlgajhhnojdjaaGreatDoor.PrjT Go.Proofs.YtmlgajhhnojdjaaGreatDoor.FlwA Go.Proofs.YtmlgajhhnojdjaaGreatDoor.FlwE Go.Proofs.YtmlgajhhnojdjaaGreatDoor.Own

/-- a statement behind which a run goes on -/
def Br.do1 (q : QP) (b : Br) (l : QLine) : Br :=
  if l.op = 2 then b.write q (plOf l 0) l.number
  else if l.op = 3 ∨ l.op = 4 ∨ l.op = 5 then b.calc q l
  else if l.op = 7 then ({ b with inp := b.inp.tail } : Br).write q (plOf l 0) (b.inp.headD 0)
  else if l.op = 8 then { b with yd := b.yd.note 111 (b.val q (plOf l 0)) }
  else if l.op = 10 then ({ b with yd := b.yd.load (b.val q (plOf l 1)).toNat } : Br).write q (plOf l 0) (b.yd.at (b.val q (plOf l 1)).toNat).1
  else if l.op = 11 then { b with yd := b.yd.store (b.val q (plOf l 0)).toNat (b.val q (plOf l 1)) }
  else if l.op = 16 then { b with yd := b.yd.free (b.val q (plOf l 0)).toNat }
  else if l.op = 12 then b.move q (plOf l 0) (plOf l 1)
  else if l.op = 13 then b.write q (plOf l 0) 0
  else if l.op = 14 then (b.write q (plOf l 0) 1).write q ((plOf l 0).1, 3) ((b.write q (plOf l 0) 1).val q (plOf l 1))
  else if l.op = 17 then { b with flags := b.flags.set l.flag.toNat (l.number == 1) }
  else b
/-- does a line take what must not be taken? -/
def Br.breaks (q : QP) (b : Br) (l : QLine) : Bool :=
  if l.op = 3 ∨ l.op = 4 ∨ l.op = 5 ∨ l.op = 6 then b.empty q [plOf l 1, plOf l 2]
  else if l.op = 8 ∨ l.op = 19 ∨ l.op = 20 ∨ l.op = 22 then b.empty q [plOf l 0]
  else if l.op = 9 ∨ l.op = 14 then b.empty q [plOf l 1]
  else if l.op = 12 then b.empty q (QP.halvesQ q (plOf l 1))
  else if l.op = 10 then b.dead q (plOf l 1)
  else if l.op = 11 then b.dead q (plOf l 0) || b.empty q [plOf l 1]
  else if l.op = 16 then b.dead q (plOf l 0)
  else false
def Br.new (b : Br) (q : QP) (p : Nat × Nat) (v : Int) : Br := ({ b with yd := b.yd.build v } : Br).write q p ((b.yd.made.length + 1 : Nat) : Int)
/-- from a line on: how it ends, the value, what is left; none: it does not get so far -/
def runB (q : QP) (room : Int) : Nat → List QLine → Br → Option (Nat × Int × Br)
  | _, [], _ => none
  | 0, _ :: _, b => some (2, 0, b)
  | f + 1, l :: ls, b =>
    if b.breaks q l = true then some (5, 0, b)
    else if l.op = 6 then (if b.val q (plOf l 2) = 0 then some (4, 0, b) else runB q room f ls (b.calc q l))
    else if l.op = 9 then (if b.yd.live ≥ room then some (3, 0, b) else runB q room f ls (b.new q (plOf l 0) (b.val q (plOf l 1))))
    else if l.op = 18 ∨ l.op = 19 ∨ l.op = 20 ∨ l.op = 21 then (if ls = [] then runB q room f (q.blocks.getD (l.next.getD (if b.other q l then 1 else 0) 0) []) b else none)
    else if l.op = 22 then some (1, b.val q (plOf l 0), b)
    else runB q room f ls (b.do1 q l)
def Br.start (inp : List Int) : Br := ⟨⟨[], 0, []⟩, inp, List.replicate 36 (false, 0), List.replicate 50 false⟩
/-- a full cell of a box names one -/
def Br.Bx (q : QP) (b : Br) : Prop := ∀ k, k < 24 → ¬ q.tyOf (k / 2) = 0 → (b.cs.getD k (false, 0)).1 = true → 1 ≤ (b.cs.getD k (false, 0)).2 ∧ (b.cs.getD k (false, 0)).2 ≤ b.yd.made.length
section
variable {x a : Nat} {w w0 : World} {vm vt vi v u : Value} {b : Br} {q : QP}
/-- what do asks of a line, besides -/
structure DoOk (q : QP) (b : Br) (l : QLine) : Prop where
  op : l.op = 2 ∨ l.op = 3 ∨ l.op = 4 ∨ l.op = 5 ∨ l.op = 7 ∨ l.op = 8 ∨ l.op = 10 ∨ l.op = 11 ∨ l.op = 16 ∨ l.op = 12 ∨ l.op = 13 ∨ l.op = 14 ∨ l.op = 17
  flag : l.op = 17 → 0 ≤ l.flag ∧ l.flag < 50
  hl : l.op = 12 → (QP.halvesQ q (plOf l 0)).length = (QP.halvesQ q (plOf l 1)).length
  b0 : l.op = 11 ∨ l.op = 16 → 1 ≤ b.val q (plOf l 0) ∧ b.val q (plOf l 0) ≤ b.yd.made.length
  b1 : l.op = 10 → 1 ≤ b.val q (plOf l 1) ∧ b.val q (plOf l 1) ≤ b.yd.made.length
theorem do_any (h : BAt w0 x a w b vi vm vt) (hq : PQ w0 a q v u) (hls : q.locals.length ≤ 12) {z nb : Nat} {l : QLine} {ap an : Option Addr} {cp cn : Nat} (hl : LineAt z w0 l (.slice ap l.places.length cp) (.slice an l.next.length cn)) (hk : LOk q.locals.length nb l) (hd : DoOk q b l) (hr : ∀ p, isI64 (b.val q p)) (ok : b.yd.Ok) (hpw : Pow w0) (h11 : 11 ≤ w0.heap.size) :
    Calls Tryz.prog 78 #[.pointer (some ⟨x, 0, none⟩), .agg #[.int .i64 (l.num : Nat), .int .i64 (l.op : Nat), .slice ap l.places.length cp, .int .i64 l.number, .int .i64 l.flag, .slice an l.next.length cn]] w fun e w' => e = .returned (.tuple #[]) ∧ ∃ vi' vm' vt', BAt w0 x a w' (b.do1 q l) vi' vm' vt' ∧ Roam x vm vt w vm' vt' w' := by
  obtain ⟨hop, h1, h2, h3, h4⟩ := hd
  unfold Br.do1
  rcases hop with e | e | e | e | e | e | e | e | e | e | e | e | e
  · rw [if_pos e]; exact do_set h hq hls hl hk e
  · rw [if_neg (by omega), if_pos (by omega)]; exact do_arith h hq hls hl hk (by omega) hr
  · rw [if_neg (by omega), if_pos (by omega)]; exact do_arith h hq hls hl hk (by omega) hr
  · rw [if_neg (by omega), if_pos (by omega)]; exact do_arith h hq hls hl hk (by omega) hr
  · rw [if_neg (by omega), if_neg (by omega), if_pos (by omega)]; exact do_in h hq hls hl hk e
  · rw [if_neg (by omega), if_neg (by omega), if_neg (by omega), if_pos (by omega)]; exact do_out h hq hls hl hk e hr ok hpw h11
  · rw [if_neg (by omega), if_neg (by omega), if_neg (by omega), if_neg (by omega), if_pos (by omega)]; exact do_load h hq hls hl hk e hr ok hpw h11 (h4 e)
  · rw [if_neg (by omega), if_neg (by omega), if_neg (by omega), if_neg (by omega), if_neg (by omega), if_pos (by omega)]; exact do_store h hq hls hl hk e hr ok hpw h11 (h3 (.inl e))
  · rw [if_neg (by omega), if_neg (by omega), if_neg (by omega), if_neg (by omega), if_neg (by omega), if_neg (by omega), if_pos (by omega)]; exact do_free h hq hls hl hk e hr ok hpw h11 (h3 (.inr e))
  · rw [if_neg (by omega), if_neg (by omega), if_neg (by omega), if_neg (by omega), if_neg (by omega), if_neg (by omega), if_neg (by omega), if_pos (by omega)]; exact do_move h hq hls hl hk e (h2 e)
  · rw [if_neg (by omega), if_neg (by omega), if_neg (by omega), if_neg (by omega), if_neg (by omega), if_neg (by omega), if_neg (by omega), if_neg (by omega), if_pos (by omega)]; exact do_none h hq hls hl hk e
  · rw [if_neg (by omega), if_neg (by omega), if_neg (by omega), if_neg (by omega), if_neg (by omega), if_neg (by omega), if_neg (by omega), if_neg (by omega), if_neg (by omega), if_pos (by omega)]; exact do_some h hq hls hl hk e
  · rw [if_neg (by omega), if_neg (by omega), if_neg (by omega), if_neg (by omega), if_neg (by omega), if_neg (by omega), if_neg (by omega), if_neg (by omega), if_neg (by omega), if_neg (by omega), if_pos (by omega)]; exact do_flag h hq hls hl hk e (h1 e)
theorem breaks_any (h : BAt w0 x a w b vi vm vt) (hq : PQ w0 a q v u) (hls : q.locals.length ≤ 12) {z nb : Nat} {l : QLine} {ap an : Option Addr} {cp cn : Nat} (hl : LineAt z w0 l (.slice ap l.places.length cp) (.slice an l.next.length cn)) (hk : LOk q.locals.length nb l) (ho : b.yd.Ok) (h15 : ¬ l.op = 15)
    (hb0 : l.op = 11 ∨ l.op = 16 → (b.cell q (plOf l 0)).1 = true → 1 ≤ b.val q (plOf l 0) ∧ b.val q (plOf l 0) ≤ b.yd.made.length) (hb1 : l.op = 10 → (b.cell q (plOf l 1)).1 = true → 1 ≤ b.val q (plOf l 1) ∧ b.val q (plOf l 1) ≤ b.yd.made.length) :
    Calls Tryz.prog 73 #[.pointer (some ⟨x, 0, none⟩), .agg #[.int .i64 (l.num : Nat), .int .i64 (l.op : Nat), .slice ap l.places.length cp, .int .i64 l.number, .int .i64 l.flag, .slice an l.next.length cn]] w fun e w' => e = .returned (.bool (b.breaks q l)) ∧ Below w.heap.size w w' := by
  have o1 := hk.op
  have o2 := hk.op2
  unfold Br.breaks
  by_cases e1 : l.op = 3 ∨ l.op = 4 ∨ l.op = 5 ∨ l.op = 6
  · rw [if_pos e1]; exact breaks_two h hq hls hl hk e1
  rw [if_neg e1]
  by_cases e2 : l.op = 8 ∨ l.op = 19 ∨ l.op = 20 ∨ l.op = 22
  · rw [if_pos e2]; exact breaks_first h hq hls hl hk e2
  rw [if_neg e2]
  by_cases e3 : l.op = 9 ∨ l.op = 14
  · rw [if_pos e3]; exact breaks_second h hq hls hl hk e3
  rw [if_neg e3]
  by_cases e4 : l.op = 12
  · rw [if_pos e4]; exact breaks_move h hq hls hl hk e4
  rw [if_neg e4]
  by_cases e5 : l.op = 10
  · rw [if_pos e5]; exact breaks_load h hq hls hl hk e5 ho (hb1 e5)
  rw [if_neg e5]
  by_cases e6 : l.op = 11
  · rw [if_pos e6]; exact breaks_store h hq hls hl hk e6 ho (hb0 (.inl e6))
  rw [if_neg e6]
  by_cases e7 : l.op = 16
  · rw [if_pos e7]; exact breaks_free h hq hls hl hk e7 ho (hb0 (.inr e7))
  rw [if_neg e7]
  exact breaks_none (by omega)
end
end Go.Proofs.YtmlgajhhnojdjaaGreatDoor.Ex
/- The project's bare machine, made: as rules for a walk, its cells behind a name. -/
namespace Go.Proofs.YtmlgajhhnojdjaaGreatDoor.Ex
open Go Go.RowKit Go.Proofs.YtmlgajhhnojdjaaGreatDoor.Spec Go.Proofs.YtmlgajhhnojdjaaGreatDoor.Aux Go.Proofs.YtmlgajhhnojdjaaGreatDoor.PrjJ Go.Proofs.YtmlgajhhnojdjaaGreatDoor.PrjK Go.Proofs.YtmlgajhhnojdjaaGreatDoor.PrjL Go.Proofs.YtmlgajhhnojdjaaGreatDoor.PrjM Go.Proofs.YtmlgajhhnojdjaaGreatDoor.FlwA Go.Proofs.YtmlgajhhnojdjaaGreatDoor.FlwB Go.Proofs.YtmlgajhhnojdjaaGreatDoor.Own

/-- a machine's cells as they are made -/
def bareCells (u v : Value) : List Value := [.slice none 0 0, .int .i64 0, .slice none 0 0, u, v] ++ (cellVals (List.replicate 36 (false, 0)) ++ flagVals (List.replicate 50 false))
theorem run_build_bare (p ad : Option Addr) (l c : Nat) (w : World) : (Instr.build 136 #[(1, .pointer p), (2, .slice ad l c)]).run Tryz.prog w = .ok (.agg (bareCells (.pointer p) (.slice ad l c)).toArray) w := by
  kernel_rfl
theorem run_alloc_bare (w : World) : (Instr.alloc 136 true (.tuple #[])).run Tryz.prog w = .ok (.pointer (some ⟨w.heap.size, 0, none⟩)) (w.alloc (.cells (bareCells (.pointer none) (.slice none 0 0)).toArray 136)) := by
  kernel_rfl
set_option maxRecDepth 20000 in
theorem bare_len (u v : Value) : (bareCells u v).length = 127 := rfl
theorem info_bare : (Tryz.prog.info? 136).map (·.size) = some 127 := by kernel_rfl
def isBare (v : Value) : Prop := ∃ p ad l c, v = .agg (bareCells (.pointer p) (.slice ad l c)).toArray
@[simp] theorem isBare_bare (p ad : Option Addr) (l c : Nat) : isBare (.agg (bareCells (.pointer p) (.slice ad l c)).toArray) = True := eq_true ⟨p, ad, l, c, rfl⟩
@[simp] theorem aggV_bare (u v : Value) : aggV (.agg (bareCells u v).toArray) = bareCells u v := rfl
def RoomBare (w : World) (v : Value) : Prop := ∃ b, v = .pointer (some ⟨b, 0, none⟩) ∧ w.there b 0 127
theorem bare_one (p ad : Option Addr) (l c : Nat) : ∀ u ∈ bareCells (.pointer p) (.slice ad l c), u.oneCell' = true := by
  intro u hu
  simp only [bareCells, List.cons_append, List.nil_append, List.mem_cons, List.mem_append, cellVals, cellVal, flagVals, List.mem_flatMap, List.mem_map, List.mem_replicate, List.not_mem_nil, or_false] at hu
  rcases hu with rfl | rfl | rfl | rfl | rfl | ⟨y, ⟨-, rfl⟩, rfl | rfl⟩ | ⟨y, -, rfl⟩ <;> rfl
section
variable (d : Option Tmp) (x y : Operand) (t : TypeId) (ps : String) (af : Array Edge) (g : Option (Nat × Bool)) (a : Act) (w : World) (K : Act → World → Prop) (Q : Exit → Act → World → Prop)
theorem wp_build_bare (h : isPtr (a.eval x)) (h' : isSl (a.eval y)) : Oper.wp Tryz.prog { dst := d, op := Op.build 136 #[(1, x), (2, y)], type := t, pos := ps, after := af, guard := g } a w K Q = K (a.put d (.agg (bareCells (a.eval x) (a.eval y)).toArray)) w := by
  obtain ⟨p, hp⟩ := h
  obtain ⟨ad, l, c, hs⟩ := h'
  have := run_build_bare p ad l c w
  unfold Oper.wp execOp
  simp only [List.map_toArray, List.map_cons, List.map_nil, hp, hs, Sem.run_bind, Sem.run_pure, Result.andThen_ok, this]
  rfl
theorem wp_alloc_bare : Oper.wp Tryz.prog { dst := d, op := Op.alloc 136, type := t, pos := ps, after := af, guard := g } a w K Q = K (a.put d (.pointer (some ⟨w.heap.size, 0, none⟩))) (w.alloc (.cells (bareCells (.pointer none) (.slice none 0 0)).toArray 136)) := by
  have := run_alloc_bare w
  unfold Oper.wp execOp
  simp only [Sem.run_bind, Sem.run_pure, Result.andThen_ok, this]
  rfl
theorem wp_store_bare (h : RoomBare w (a.eval x)) (h' : isBare (a.eval y)) : Oper.wp Tryz.prog { dst := d, op := Op.store 136 x y, type := t, pos := ps, after := af, guard := g } a w K Q = K (a.put d undef) (w.setCells (blkOf (a.eval x)) 0 (aggV (a.eval y))) := by
  obtain ⟨b, hb, hh⟩ := h
  obtain ⟨p, ad, l, c, hy⟩ := h'
  have := run_storeAt_mid (P := Tryz.prog) w b 0 136 (bareCells (.pointer p) (.slice ad l c)).toArray hh info_bare (all_oneCell_toArray (bare_one p ad l c))
  unfold Oper.wp execOp
  simp only [hb, hy, Sem.run_bind, Sem.run_pure, Result.andThen_ok, this]
  rfl
/-- a machine as it is made -/
theorem roomBare_new (w : World) (u v : Value) : RoomBare (w.alloc (.cells (bareCells u v).toArray 136)) (.pointer (some ⟨w.heap.size, 0, none⟩)) := by
  refine ⟨_, rfl, fun j hj => ?_⟩
  have h : (w.alloc (.cells (bareCells u v).toArray 136)).heap[w.heap.size]? = some (.cells (bareCells u v).toArray 136 (0, 0)) := Array.getElem?_push_size
  refine ⟨?_, frozen_of_heap h _⟩
  rw [cell_of_heap h, Nat.zero_add]
  simp only [List.getElem?_toArray]
  rw [List.getElem?_eq_getElem (by rw [bare_len]; exact hj)]; rfl
end
theorem bare_new (w : World) (u v u' v' : Value) : ((w.alloc (.cells (bareCells u v).toArray 136)).setCells w.heap.size 0 (bareCells u' v')).heap[w.heap.size]? = some (.cells (bareCells u' v').toArray 136 (0, 0)) ∧ Below w.heap.size w ((w.alloc (.cells (bareCells u v).toArray 136)).setCells w.heap.size 0 (bareCells u' v')) := by
  have h : (w.alloc (.cells (bareCells u v).toArray 136)).heap[w.heap.size]? = some (.cells (bareCells u v).toArray 136 (0, 0)) := Array.getElem?_push_size
  refine ⟨?_, below_setCells ((Below.refl _ _).alloc (Nat.le_refl _) _) (Nat.le_refl _) _ _⟩
  obtain ⟨cs', h1, h2, h3⟩ := heap_setCells w.heap.size (bareCells u' v') 0 _ _ _ _ h
  have e : cs' = (bareCells u' v').toArray := by
    apply Array.ext_getElem?
    intro j
    rw [h3]
    by_cases hj : j < 127
    · rw [if_pos (by simp [bare_len]; exact hj)]; simp
    · rw [if_neg (by simp [bare_len]; omega), Array.getElem?_eq_none (by simp [bare_len]; omega), Array.getElem?_eq_none (by simp [bare_len]; omega)]
  rw [h1, e]
end Go.Proofs.YtmlgajhhnojdjaaGreatDoor.Ex
/- Plain facts: the blocks of a program that was read: a terminator at the end of each, and nowhere else; its words fit. -/
namespace Go.Proofs.YtmlgajhhnojdjaaGreatDoor.RunA
open Go Go.Proofs.YtmlgajhhnojdjaaGreatDoor.Spec Go.Proofs.YtmlgajhhnojdjaaGreatDoor.PrjS

/-- terminators only at its end -/
def Whole (b : List QLine) : Prop := ∃ ls l, b = ls ++ [l] ∧ 18 ≤ l.op ∧ ∀ m ∈ ls, m.op < 18
structure Shp (raw : Bool) (o : OrdP) (q : QP) : Prop where
  none : o.sec = 0 → q.blocks = []
  opn : o.sec = 1 → ∃ bs b, q.blocks = bs ++ [b] ∧ (∀ c ∈ bs, Whole c) ∧ ∀ m ∈ b, m.op < 18
  whl : o.sec = 2 → ∀ c ∈ q.blocks, Whole c
  has : ∀ b ∈ q.blocks, ∀ l ∈ b, hasP raw l.op = true
  sec : o.sec ≤ 2
theorem lineP_op {ls : List (B × Nat)} {nb : Nat} {x : Nat × List B} {l : QLine} (h : lineP ls nb x = some l) : l.op = x.1 := by
  rw [lineP] at h
  obtain ⟨i1, -⟩ := lineGo_ok ls nb _ _ _ _ h (by simp) (by simp) (by simp) (by simp)
  exact i1
theorem admits_has {raw : Bool} {o : OrdP} {op : Nat} (h : (admitsP raw o op).2 = true) : hasP raw op = true := by
  unfold admitsP at h
  split at h
  · cases h
  · rename_i hh; simpa using hh
theorem shp_go (raw : Bool) (nb : Nat) : ∀ (ls : List (List B)) (o : OrdP) (i j : Nat) (q0 q : QP), (splitGo raw ls o i).2.2 = none → lookGo nb (splitGo raw ls o i).1 j q0 = (q, none) → Shp raw o q0 → Shp raw (splitGo raw ls o i).2.1 q
  | [], o, i, j, q0, q, _, h, hs => by
    simp only [splitGo, lookGo, Prod.mk.injEq, and_true] at h
    rw [← h]; exact hs
  | ws :: r, o, i, j, q0, q, hn, h, hs => by
    rw [splitGo] at hn h ⊢
    cases hx : sentP ws with
    | none => rw [hx] at hn; cases hn
    | some x =>
      rw [hx] at hn h
      simp only at hn h ⊢
      by_cases ha : (admitsP raw o x.1).2 = true
      · rw [if_pos ha] at hn h ⊢
        have ih := fun q1 hl hs1 => shp_go raw nb r (admitsP raw o x.1).1 (i + 1) (j + 1) q1 q hn hl hs1
        have hhas := admits_has ha
        have hsec := admitsP_sec raw o x.1 hs.sec
        rw [lookGo] at h
        have hnh : ¬ hasP raw x.1 = false := by rw [hhas]; decide
        by_cases e0 : x.1 = 0
        · rw [if_pos e0] at h
          split at h
          · simp at h
          · refine ih _ h ?_
            have e : (admitsP raw o x.1).1 = ⟨o.sec, o.locals + 1, o.blocks⟩ := by rw [admitsP, if_neg hnh, if_pos e0]
            rw [e]
            exact ⟨hs.none, hs.opn, hs.whl, hs.has, hs.sec⟩
        · rw [if_neg e0] at h
          by_cases e1 : x.1 = 1
          · rw [if_pos e1] at h
            refine ih _ h ?_
            have e : admitsP raw o x.1 = (⟨1, o.locals, o.blocks + 1⟩, decide (0 < o.locals) && !(o.sec == 1) && decide (o.blocks + 1 ≤ if raw then 2000 else 20)) := by rw [admitsP, if_neg hnh, if_neg e0, if_pos e1]
            rw [e] at ha
            simp only [Bool.and_eq_true, Bool.not_eq_true', beq_eq_false_iff_ne] at ha
            rw [e]
            have hsec' := hs.sec
            refine ⟨fun h => (by cases h), fun _ => ⟨q0.blocks, [], rfl, fun c hc => ?_, fun m hm => (by cases hm)⟩, fun h => (by cases h), fun b hb l hl => ?_, by simp⟩
            · by_cases h0 : o.sec = 0
              · rw [hs.none h0] at hc; cases hc
              · exact hs.whl (by have := ha.1.2; omega) c hc
            · simp only [QP.addBlock, List.mem_append, List.mem_singleton] at hb
              rcases hb with hb | rfl
              · exact hs.has b hb l hl
              · cases hl
          · rw [if_neg e1] at h
            cases hl : lineP q0.locals nb x with
            | none => rw [hl] at h; simp at h
            | some l =>
              rw [hl] at h
              have hop := lineP_op hl
              by_cases h1 : o.sec = 1
              · obtain ⟨bs, b, hb, hw, ho⟩ := hs.opn h1
                have hadd : (q0.addLine { l with num := j }).blocks = bs ++ [b ++ [{ l with num := j }]] := by
                  simp only [QP.addLine, hb]; simp
                have hhas2 : ∀ b ∈ (q0.addLine { l with num := j }).blocks, ∀ l ∈ b, hasP raw l.op = true := fun c hc m hm => by
                  rw [hadd] at hc
                  simp only [List.mem_append, List.mem_singleton] at hc
                  rcases hc with hc | rfl
                  · exact hs.has c (by rw [hb]; simp [hc]) m hm
                  · simp only [List.mem_append, List.mem_singleton] at hm
                    rcases hm with hm | rfl
                    · exact hs.has b (by rw [hb]; simp) m hm
                    · show hasP raw l.op = true; rw [hop]; exact hhas
                refine ih _ h ?_
                by_cases h18 : 18 ≤ x.1
                · have e : (admitsP raw o x.1).1 = ⟨2, o.locals, o.blocks⟩ := by rw [admitsP, if_neg hnh, if_neg e0, if_neg e1, if_neg (by simp [h1]), if_pos h18]
                  rw [e]
                  refine ⟨fun h => (by cases h), fun h => (by cases h), fun _ c hc => ?_, hhas2, by simp⟩
                  rw [hadd] at hc
                  simp only [List.mem_append, List.mem_singleton] at hc
                  rcases hc with hc | rfl
                  · exact hw c hc
                  · exact ⟨b, _, rfl, by show 18 ≤ l.op; omega, ho⟩
                · have e : (admitsP raw o x.1).1 = o := by rw [admitsP, if_neg hnh, if_neg e0, if_neg e1, if_neg (by simp [h1]), if_neg h18]
                  rw [e]
                  refine ⟨fun h => by omega, fun _ => ⟨bs, _, hadd, hw, fun m hm => ?_⟩, fun h => by omega, hhas2, hs.sec⟩
                  simp only [List.mem_append, List.mem_singleton] at hm
                  rcases hm with hm | rfl
                  · exact ho m hm
                  · show l.op < 18; omega
              · exfalso
                rw [admitsP, if_neg hnh, if_neg e0, if_neg e1, if_pos h1] at ha
                cases ha
      · rw [if_neg ha] at hn; cases hn
theorem getD_memB {L : List (List QLine)} {b : Nat} {l : QLine} (h : l ∈ L.getD b []) : L.getD b [] ∈ L := by
  rw [List.getD_eq_getElem?_getD] at h ⊢
  cases hb : L[b]? with
  | none => rw [hb] at h; cases h
  | some c => exact List.mem_of_getElem? hb
end Go.Proofs.YtmlgajhhnojdjaaGreatDoor.RunA
/- Plain facts: what is in the boxes is what the ways say; a run of a checked program always comes to an answer. -/
namespace Go.Proofs.YtmlgajhhnojdjaaGreatDoor.RunB
open Go Go.Proofs.YtmlgajhhnojdjaaGreatDoor.Spec Go.Proofs.YtmlgajhhnojdjaaGreatDoor.Aux Go.Proofs.YtmlgajhhnojdjaaGreatDoor.Own Go.Proofs.YtmlgajhhnojdjaaGreatDoor.RunA Go.Proofs.YtmlgajhhnojdjaaGreatDoor.PrjS Go.Proofs.YtmlgajhhnojdjaaGreatDoor.FlwA Go.Proofs.YtmlgajhhnojdjaaGreatDoor.FlwB Go.Proofs.YtmlgajhhnojdjaaGreatDoor.FlwC Go.Proofs.YtmlgajhhnojdjaaGreatDoor.FlwD Go.Proofs.YtmlgajhhnojdjaaGreatDoor.FlwE Go.Proofs.YtmlgajhhnojdjaaGreatDoor.FlwF Go.Proofs.YtmlgajhhnojdjaaGreatDoor.FlwG Go.Proofs.YtmlgajhhnojdjaaGreatDoor.FlwH Go.Proofs.YtmlgajhhnojdjaaGreatDoor.FlwI Go.Proofs.YtmlgajhhnojdjaaGreatDoor.FlwJ Go.Proofs.YtmlgajhhnojdjaaGreatDoor.FlwK Go.Proofs.YtmlgajhhnojdjaaGreatDoor.FlwM Go.Proofs.YtmlgajhhnojdjaaGreatDoor.FlwO Go.Proofs.YtmlgajhhnojdjaaGreatDoor.FlwP Go.Proofs.YtmlgajhhnojdjaaGreatDoor.FlwQ Go.Proofs.YtmlgajhhnojdjaaGreatDoor.FlwS Go.Proofs.YtmlgajhhnojdjaaGreatDoor.FlwY

section
variable {q : QP} {X b s : List Nat}
end
/-! what the words of a line are -/
section
variable {q : QP}
theorem kind_int {x : Nat × Nat} (h : q.okPlace x 105 = true) : q.tyOf x.1 = 0 := by
  unfold QP.okPlace QP.kind at h
  split at h
  · cases h
  · rename_i t ht
    have h0 : t = 0 := by simpa [isKindP] using h
    subst h0
    split at ht
    · split at ht <;> cases ht
    · split at ht
      · split at ht <;> cases ht
      · simpa using ht
theorem kind_opt {x : Nat × Nat} (h : q.okPlace x 111 = true) (hx : x.2 ≤ 3) : q.tyOf x.1 = 3 ∧ x.2 = 0 := by
  unfold QP.okPlace QP.kind at h
  split at h
  · cases h
  · rename_i t ht
    have h0 : t = 3 := by simpa [isKindP] using h
    subst h0
    split at ht
    · split at ht <;> cases ht
    · split at ht
      · split at ht <;> cases ht
      · exact ⟨by simpa using ht, by omega⟩
theorem kind_box {x : Nat × Nat} (h : q.okPlace x 112 = true) : ¬ q.tyOf x.1 = 0 ∧ ¬ (x.2 = 0 ∧ q.tyOf x.1 = 2) ∧ q.kindV x = 1 := by
  unfold QP.okPlace QP.kind at h
  split at h
  · cases h
  · rename_i t ht
    have h0 : t = 1 := by simpa [isKindP] using h
    subst h0
    split at ht
    · rename_i h12
      split at ht
      · rename_i h2; exact ⟨by omega, by omega, by unfold QP.kindV; rw [if_pos (by omega)]⟩
      · cases ht
    · split at ht
      · rename_i h3
        split at ht
        · rename_i h4; exact ⟨by omega, by omega, by unfold QP.kindV; rw [if_pos (by omega)]⟩
        · cases ht
      · have : q.tyOf x.1 = 1 := by simpa using ht
        exact ⟨by omega, by omega, by unfold QP.kindV; rw [if_neg (by omega)]; exact this⟩
theorem kind_thing {x : Nat × Nat} (h : q.okPlace x 109 = true) : ¬ q.tyOf x.1 = 0 := by
  unfold QP.okPlace QP.kind at h
  split at h
  · cases h
  · rename_i t ht
    have h0 : ¬ t = 0 := by simpa [isKindP] using h
    split at ht
    · split at ht
      · omega
      · cases ht
    · split at ht
      · split at ht
        · omega
        · cases ht
      · have : q.tyOf x.1 = t := by simpa using ht
        omega
theorem slot_half (x : Nat × Nat) : slotQ x / 2 = x.1 := by unfold slotQ; split <;> omega
theorem slot_lt {x : Nat × Nat} (h : x.1 < 12) : slotQ x < 24 := by unfold slotQ; split <;> omega
theorem fits_at {l : QLine} (h : q.fits l = true) {j : Nat} (hj : j < l.places.length) : q.okPlace (plOf l j) ((wantsOf l.op).getD j 0) = true := by
  unfold QP.fits at h
  rw [Bool.and_eq_true] at h
  have key : ∀ (f : B) (ps : List (Nat × Nat)) (k j : Nat), q.fitsGo f ps k = true → j < ps.length → q.okPlace (ps.getD j (0, 0)) (f.getD (k + j) 0) = true := by
    intro f ps
    induction ps with
    | nil => intro k j _ hj; simp at hj
    | cons x r ih =>
      intro k j h hj
      rw [QP.fitsGo, Bool.and_eq_true] at h
      cases j with
      | zero => simpa using h.1
      | succ j =>
        have := ih (k + 1) j h.2 (by simpa using hj)
        rw [show k + 1 + j = k + (j + 1) by omega] at this
        simpa using this
  have := key _ _ 0 j h.1 hj
  rw [Nat.zero_add] at this
  exact this
theorem fits_same {l : QLine} (h : q.fits l = true) (h12 : l.op = 12) : q.kindV (plOf l 0) = q.kindV (plOf l 1) := by
  unfold QP.fits at h
  rw [Bool.and_eq_true, h12] at h
  simpa [plOf] using h.2
end
end Go.Proofs.YtmlgajhhnojdjaaGreatDoor.RunB
/- Plain facts: what is in the boxes stays what the ways say, line by line; a run of a checked program always comes to an answer. -/
namespace Go.Proofs.YtmlgajhhnojdjaaGreatDoor.RunB
open Go Go.Proofs.YtmlgajhhnojdjaaGreatDoor.Spec Go.Proofs.YtmlgajhhnojdjaaGreatDoor.Aux Go.Proofs.YtmlgajhhnojdjaaGreatDoor.Own Go.Proofs.YtmlgajhhnojdjaaGreatDoor.RunA Go.Proofs.YtmlgajhhnojdjaaGreatDoor.PrjS Go.Proofs.YtmlgajhhnojdjaaGreatDoor.FlwA Go.Proofs.YtmlgajhhnojdjaaGreatDoor.FlwB Go.Proofs.YtmlgajhhnojdjaaGreatDoor.FlwC Go.Proofs.YtmlgajhhnojdjaaGreatDoor.FlwD Go.Proofs.YtmlgajhhnojdjaaGreatDoor.FlwE Go.Proofs.YtmlgajhhnojdjaaGreatDoor.FlwF Go.Proofs.YtmlgajhhnojdjaaGreatDoor.FlwG Go.Proofs.YtmlgajhhnojdjaaGreatDoor.FlwH Go.Proofs.YtmlgajhhnojdjaaGreatDoor.FlwI Go.Proofs.YtmlgajhhnojdjaaGreatDoor.FlwJ Go.Proofs.YtmlgajhhnojdjaaGreatDoor.FlwK Go.Proofs.YtmlgajhhnojdjaaGreatDoor.FlwM Go.Proofs.YtmlgajhhnojdjaaGreatDoor.FlwO Go.Proofs.YtmlgajhhnojdjaaGreatDoor.FlwP Go.Proofs.YtmlgajhhnojdjaaGreatDoor.FlwQ Go.Proofs.YtmlgajhhnojdjaaGreatDoor.FlwS Go.Proofs.YtmlgajhhnojdjaaGreatDoor.FlwY

section
variable {q : QP} {l : QLine} {s : List Nat} {o : Own.Own}
/-- one place, or both halves -/
theorem halves_cases (q : QP) (x : Nat × Nat) : QP.halvesQ q x = [x] ∧ ¬ (x.2 = 0 ∧ q.tyOf x.1 = 2) ∨ QP.halvesQ q x = [(x.1, 1), (x.1, 2)] ∧ x.2 = 0 ∧ q.tyOf x.1 = 2 := by
  unfold QP.halvesQ
  by_cases h : x.2 = 0 ∧ q.tyOf x.1 = 2
  · exact .inr ⟨by rw [if_pos h], h⟩
  · exact .inl ⟨by rw [if_neg h], h⟩
end
end Go.Proofs.YtmlgajhhnojdjaaGreatDoor.RunB
