/- The project's machines: the yard's functions, walked. -/
import Derived.Test.YtmlgajhhnojdjaaGreatDoorSAX
import Derived.Deep.DeepMust
import Derived.Deep.AppendLies
import Derived.Test.YtmlgajhhnojdjaaGreatDoorSAN
import Derived.Deep.QuietTactic
import Derived.BigQuiet
import Derived.Test.YtmlgajhhnojdjaaGreatDoorSAW
namespace Go.Proofs.YtmlgajhhnojdjaaGreatDoor.Own
open Go Go.RowKit Go.Proofs.YtmlgajhhnojdjaaGreatDoor.Spec Go.Proofs.YtmlgajhhnojdjaaGreatDoor.Aux Go.Proofs.YtmlgajhhnojdjaaGreatDoor.PrjJ Go.Proofs.YtmlgajhhnojdjaaGreatDoor.PrjK Go.Proofs.YtmlgajhhnojdjaaGreatDoor.PrjL Go.Proofs.YtmlgajhhnojdjaaGreatDoor.PrjM

/-- a yard within bounds -/
structure Yd.Ok (y : Yd) : Prop where
  made : y.made.length ≤ 1000000
  trace : y.trace.length ≤ 9000000
  live : -100000000 ≤ y.live ∧ y.live ≤ 100000000
  words : ∀ b ∈ y.trace, b.length ≤ 30
/-- what a yard's function leaves -/
def Left (z x : Nat) (t : TypeId) (rest : List Value) (w : World) (vm vt : Value) (y' : Yd) (w' : World) : Prop := ∃ vm' vt', YAt z x t rest w' y' vm' vt' ∧ Roam x vm vt w vm' vt' w'
section
variable {z x : Nat} {t : TypeId} {rest : List Value} {w : World} {y : Yd} {vm vt : Value}
theorem putOut_any (h : YAt z x t rest w y vm vt) (n : Int) (hn : -9223372036854775808 ≤ n ∧ n ≤ 9223372036854775807) (hp : Pow w) (ho : y.Ok) :
    Calls Tryz.prog 104 #[.pointer (some ⟨x, 0, none⟩), .int .i64 n] w fun e w' => e = .returned (.tuple #[]) ∧ Left z x t rest w vm vt (y.note 111 n) w' := by
  have K := note_any h 111 n hn hp (by have := ho.trace; omega)
  have K2 : Calls Tryz.prog 98 #[.pointer (some ⟨x, 0, none⟩), .string ⟨#[111]⟩, .int .i64 n] w _ := K
  go_enter Tryz.func104, Tryz.ntmps104
  go_wp2_with (go_at_call 98; refine K2.mono ?_; rintro e w1 ⟨vt', rfl, h1, r1⟩)
  go_end0
  exact ⟨rfl, vm, vt', h1, r1⟩
set_option maxRecDepth 20000 in
set_option maxHeartbeats 1000000 in
theorem build_any (h : YAt z x t rest w y vm vt) (v : Int) (hp : Pow w) (ho : y.Ok) (hz : 11 ≤ z) :
    Calls Tryz.prog 61 #[.pointer (some ⟨x, 0, none⟩), .int .i64 v] w fun e w' => e = .returned (.int .i64 ((y.made.length + 1 : Nat) : Int)) ∧ Left z x t rest w vm vt (y.build v) w' := by
  obtain ⟨c0, c1, c2, f0, f1, f2⟩ := h.facts
  obtain ⟨i, hi, hz0, hz1, hz2⟩ := info_parts info_box
  have hbA : Below w.heap.size w (w.alloc (.cells #[.int .i64 v, .bool true] 175)) := (Below.refl _ _).alloc (Nat.le_refl _) _
  have HA := h.below hbA
  obtain ⟨a0, a1, a2, b0, b1, b2⟩ := HA.facts
  have hsA : z ≤ (w.alloc (.cells #[.int .i64 v, .bool true] 175)).heap.size := by have := HA.lt; have := HA.base; omega
  have hm := ho.made
  have hlv := ho.live
  go_enter Tryz.func61, Tryz.ntmps61
  go_wp2_with (first
    | (at_builtin; go_must (refine append_blk rfl _ _ 98 rfl z 175 i (.agg #[.int .i64 0, .bool false]) 2 16 Tryz.underlying98 hi hz0 hz1 hz2 rfl (by decide) vm _ _ rfl HA.made w.heap.size [.int .i64 v, .bool true] rfl Array.getElem?_push_size rfl (by intro u' hu; simp at hu; rcases hu with rfl | rfl <;> rfl) (by decide) (by omega) hsA ?_); intro g4 c4 w4 hown4 hgrow4 hat4 hlt4; have hblk4 : w4.heap[x]? = _ := (hgrow4.block _ HA.lt (own_type_ne HA.made HA.blk HA.ty.ne.1)).trans HA.blk; have r0 : w4.cell? ⟨x, 0, none⟩ = some vm := (by rw [cell_of_heap hblk4]; simp); have rf0 : w4.frozen? ⟨x, 0, none⟩ = false := frozen_of_heap hblk4 0; obtain ⟨h5, h6⟩ := h.addBox (b := (v, true)) hbA hown4 hgrow4 (fresh_of hat4); obtain ⟨d0, d1, d2, g0, g1, g2⟩ := h5.facts; obtain ⟨h7, h8⟩ := h5.setLive (y.live + 1); obtain ⟨k0, k1, k2, l0, l1, l2⟩ := h7.facts; have hr := h6.trans h8; have KN : Calls Tryz.prog 98 #[.pointer (some ⟨x, 0, none⟩), .string ⟨#[43]⟩, .int .i64 ((y.made.length : Int) + 1)] _ _ := note_any h7 43 ((y.made.length + 1 : Nat) : Int) (by omega) (hp.below (hr.below h hz (by have := h.lt; have := h.base; omega)) (Nat.le_refl _)) (by have := ho.trace; simp only; omega))
    | (go_at_call 98; refine KN.mono ?_; rintro e w9 ⟨vt', rfl, h9, r9⟩))
  go_ret
  exact ⟨rfl, _, vt', h9, hr.trans r9⟩
set_option maxRecDepth 20000 in
set_option maxHeartbeats 1000000 in
theorem free_any (h : YAt z x t rest w y vm vt) (n : Nat) (h1 : 1 ≤ n) (hn : n ≤ y.made.length) (hp : Pow w) (ho : y.Ok) (hz : 11 ≤ z) :
    Calls Tryz.prog 97 #[.pointer (some ⟨x, 0, none⟩), .int .i64 ((n : Nat) : Int)] w fun e w' => e = .returned (.tuple #[]) ∧ Left z x t rest w vm vt (y.free n) w' := by
  obtain ⟨c0, c1, c2, f0, f1, f2⟩ := h.facts
  obtain ⟨g, cap, rfl, hcap, hg, q0, q1, q2, q3⟩ := h.box h1 hn
  obtain ⟨h5, h6⟩ := (h.setBox h1 hn).2 false
  obtain ⟨d0, d1, d2, g0, g1, g2⟩ := h5.facts
  obtain ⟨h7, h8⟩ := h5.setLive (y.live - 1)
  have hr := h6.trans h8
  have hm := ho.made
  have hlv := ho.live
  have KN : Calls Tryz.prog 98 #[.pointer (some ⟨x, 0, none⟩), .string ⟨#[45]⟩, .int .i64 ((n : Nat) : Int)] _ _ := note_any h7 45 ((n : Nat) : Int) (by omega) (hp.below (hr.below h hz (by have := h.lt; have := h.base; omega)) (Nat.le_refl _)) (by have := ho.trace; simp only; omega)
  have i1 : (1 : Int) ≤ n := by omega
  have i2 : (n : Int) ≤ y.made.length := by omega
  have e1 : ((n : Int) - 1).toNat = n - 1 := by omega
  go_enter Tryz.func97, Tryz.ntmps97
  go_wp2_with (go_at_call 98; refine KN.mono ?_; rintro e w9 ⟨vt', rfl, h9, r9⟩)
  go_end0
  exact ⟨rfl, _, vt', h9, hr.trans r9⟩
set_option maxRecDepth 20000 in
set_option maxHeartbeats 1000000 in
theorem load_any (h : YAt z x t rest w y vm vt) (n : Nat) (h1 : 1 ≤ n) (hn : n ≤ y.made.length) (hp : Pow w) (ho : y.Ok) :
    Calls Tryz.prog 105 #[.pointer (some ⟨x, 0, none⟩), .int .i64 ((n : Nat) : Int)] w fun e w' => e = .returned (.int .i64 (y.at n).1) ∧ Left z x t rest w vm vt (y.load n) w' := by
  obtain ⟨g, cap, rfl, hcap, -⟩ := h.box h1 hn
  have hm := ho.made
  have KN : Calls Tryz.prog 98 #[.pointer (some ⟨x, 0, none⟩), .string ⟨#[60]⟩, .int .i64 ((n : Nat) : Int)] _ _ := note_any h 60 ((n : Nat) : Int) (by omega) hp (by have := ho.trace; omega)
  have i1 : (1 : Int) ≤ n := by omega
  have i2 : (n : Int) ≤ y.made.length := by omega
  have e1 : ((n : Int) - 1).toNat = n - 1 := by omega
  go_enter Tryz.func105, Tryz.ntmps105
  go_wp2_with (go_at_call 98; refine KN.mono ?_; rintro e w9 ⟨vt', rfl, h9, r9⟩; obtain ⟨c0, c1, c2, f0, f1, f2⟩ := h9.facts; have q := h9.box' h1 (show n ≤ (y.note 60 ((n : Nat) : Int)).made.length from hn); have q0 : w9.cell? ⟨g, (n - 1) * 2, none⟩ = some (.int .i64 (y.at n).1) := q.1; clear q)
  go_ret
  exact ⟨rfl, _, vt', h9, r9⟩
set_option maxRecDepth 20000 in
set_option maxHeartbeats 1000000 in
theorem store_any (h : YAt z x t rest w y vm vt) (n : Nat) (h1 : 1 ≤ n) (hn : n ≤ y.made.length) (v : Int) (hp : Pow w) (ho : y.Ok) :
    Calls Tryz.prog 106 #[.pointer (some ⟨x, 0, none⟩), .int .i64 ((n : Nat) : Int), .int .i64 v] w fun e w' => e = .returned (.tuple #[]) ∧ Left z x t rest w vm vt (y.store n v) w' := by
  obtain ⟨g, cap, rfl, hcap, -⟩ := h.box h1 hn
  have hm := ho.made
  have KN : Calls Tryz.prog 98 #[.pointer (some ⟨x, 0, none⟩), .string ⟨#[62]⟩, .int .i64 ((n : Nat) : Int)] _ _ := note_any h 62 ((n : Nat) : Int) (by omega) hp (by have := ho.trace; omega)
  have i1 : (1 : Int) ≤ n := by omega
  have i2 : (n : Int) ≤ y.made.length := by omega
  have e1 : ((n : Int) - 1).toNat = n - 1 := by omega
  go_enter Tryz.func106, Tryz.ntmps106
  go_wp2_with (go_at_call 98; refine KN.mono ?_; rintro e w9 ⟨vt', rfl, h9, r9⟩; obtain ⟨c0, c1, c2, f0, f1, f2⟩ := h9.facts; have q := h9.box' h1 (show n ≤ (y.note 62 ((n : Nat) : Int)).made.length from hn); have q0 : w9.cell? ⟨g, (n - 1) * 2, none⟩ = some (.int .i64 (y.at n).1) := q.1; have q2 := q.2.2.1; clear q; obtain ⟨h10, r10⟩ := (YAt.setBox (y := y.note 62 ((n : Nat) : Int)) h9 h1 hn).1 v)
  go_end0
  exact ⟨rfl, _, vt', h10, r9.trans r10⟩
theorem isLive_any (h : YAt z x t rest w y vm vt) (n : Nat) (h1 : 1 ≤ n) (hn : n ≤ y.made.length) (ho : y.Ok) :
    Calls Tryz.prog 172 #[.pointer (some ⟨x, 0, none⟩), .int .i64 ((n : Nat) : Int)] w fun e w' => e = .returned (.bool (y.at n).2) ∧ w' = w := by
  have hm := ho.made
  obtain ⟨c0, c1, c2, f0, f1, f2⟩ := h.facts
  obtain ⟨g, cap, rfl, hcap, hg, q0, q1, q2, q3⟩ := h.box h1 hn
  have i1 : (1 : Int) ≤ n := by omega
  have i2 : (n : Int) ≤ y.made.length := by omega
  have e1 : ((n : Int) - 1).toNat = n - 1 := by omega
  go_enter Tryz.func172, Tryz.ntmps172
  go_wp2
  go_ret
  exact ⟨rfl, rfl⟩
end
end Go.Proofs.YtmlgajhhnojdjaaGreatDoor.Own
/- The project's machines: how a run stands that has come to an end; numbers put together. -/
namespace Go.Proofs.YtmlgajhhnojdjaaGreatDoor.Own
open Go Go.RowKit Go.Proofs.YtmlgajhhnojdjaaGreatDoor.Spec Go.Proofs.YtmlgajhhnojdjaaGreatDoor.Aux Go.Proofs.YtmlgajhhnojdjaaGreatDoor.PrjJ Go.Proofs.YtmlgajhhnojdjaaGreatDoor.PrjK Go.Proofs.YtmlgajhhnojdjaaGreatDoor.PrjL Go.Proofs.YtmlgajhhnojdjaaGreatDoor.PrjM

theorem info_result : (Tryz.prog.info? 47).map (fun i => i.size) = some 4 := by kernel_rfl
def Yd.text (y : Yd) : B := Lib.join y.trace [32]
theorem join_len : ∀ (l : List B), (∀ b ∈ l, b.length ≤ 30) → (Lib.join l [32]).length ≤ 31 * l.length
  | [], _ => by simp [Lib.join, List.intercalate]
  | [a], h => by
    have := h a (by simp)
    rw [Lib.join_one]; simp; omega
  | a :: b :: l, h => by
    have ih := join_len (b :: l) (fun x hx => h x (List.mem_cons_of_mem _ hx))
    have h1 := h a (by simp)
    have e : Lib.join (a :: b :: l) [32] = a ++ ([32] ++ Lib.join (b :: l) [32]) := by simp [Lib.join, List.intercalate, List.intersperse]
    rw [e, List.length_append, List.length_append]
    simp only [List.length_cons, List.length_nil] at ih ⊢
    omega
theorem bs_data (b : B) : (bs b).data.toList = b := by simp [bs]
section
variable {z x : Nat} {t : TypeId} {rest : List Value} {w : World} {y : Yd} {vm vt : Value}
theorem join_any {tr : List B} (h : w.ownsRow z 9 1 vt tr.length (trCells tr)) (hl : tr.length ≤ 9000000) (hw : ∀ b ∈ tr, b.length ≤ 30) :
    Calls Tryz.prog 83 #[vt, .string ⟨#[32]⟩] w fun e w' => e = .returned (.string (bs (Lib.join tr [32]))) ∧ Below w.heap.size w w' := by
  cases tr with
  | nil =>
    have h' : ∃ ad c, vt = .slice ad 0 c := by
      rcases h.2 with ⟨e, -⟩ | ⟨g, cap, cur, e, -⟩
      · exact ⟨none, 0, e⟩
      · exact ⟨_, cap, e⟩
    obtain ⟨ad, c, rfl⟩ := h'
    refine (Tryz.strings_Join_none ad c ⟨#[32]⟩ w).mono fun e w' ⟨he, hw'⟩ => ⟨?_, by rw [hw']; exact Below.refl _ _⟩
    rw [he]; rfl
  | cons a r =>
    obtain ⟨g, cap, rfl, hc, hg, hcell⟩ := own_cell h (by simp)
    have hlen := join_len (a :: r) hw
    have K := Tryz.strings_Join g 0 cap ((a :: r).map bs) ⟨#[32]⟩ w (fun j v hv => by
      rw [List.getElem?_map, Option.map_eq_some_iff] at hv
      obtain ⟨b, hb, rfl⟩ := hv
      have hj : j < (a :: r).length := by
        by_cases hj : j < (a :: r).length
        · exact hj
        · rw [List.getElem?_eq_none (by omega)] at hb; cases hb
      rw [Nat.zero_add, hcell j (by omega), trCells, List.getElem?_map, hb]; rfl) hg (by rw [List.length_map]; omega) (by rw [List.length_map]; exact hc) (by
        have e : ((a :: r).map bs).map (fun x => x.data.toList) = a :: r := by
          rw [List.map_map]
          have : ((fun x : ByteArray => x.data.toList) ∘ bs) = id := funext bs_data
          rw [this, List.map_id]
        rw [e]
        show (Lib.join (a :: r) [32]).length ≤ _
        omega)
    rw [List.length_map] at K
    refine K.mono fun e w' ⟨he, hw'⟩ => ⟨?_, hw'⟩
    rw [he]
    have e : ((a :: r).map bs).map (fun x => x.data.toList) = a :: r := by
      rw [List.map_map]
      have : ((fun x : ByteArray => x.data.toList) ∘ bs) = id := funext bs_data
      rw [this, List.map_id]
    rw [e]; rfl
set_option maxRecDepth 20000 in
set_option maxHeartbeats 1000000 in
theorem result_any (h : YAt z x t rest w y vm vt) (o v : Int) (ho : y.Ok) :
    Calls Tryz.prog 66 #[.pointer (some ⟨x, 0, none⟩), .int .i64 o, .int .i64 v] w fun e w' => e = .returned (.agg #[.int .i64 o, .int .i64 v, .string (bs y.text), .int .i64 y.live]) ∧ Below w.heap.size w w' := by
  have hbA : Below w.heap.size w (w.alloc (.cells #[.int .i64 0, .int .i64 0, .string ⟨#[]⟩, .int .i64 0] 47)) := (Below.refl _ _).alloc (Nat.le_refl _) _
  have HA := h.below hbA
  obtain ⟨a0, a1, a2, -⟩ := HA.facts
  have KJ := join_any (w := (w.alloc (.cells #[.int .i64 0, .int .i64 0, .string ⟨#[]⟩, .int .i64 0] 47)).drew) HA.trace ho.trace ho.words
  have hn := World.ownsRow.lt HA.trace
  go_enter Tryz.func66, Tryz.ntmps66
  go_wp2
  go_region_with (go_at_call 83; refine KJ.mono ?_; rintro e w1 ⟨rfl, hb1⟩; have hb2 : Below (w.alloc (.cells #[.int .i64 0, .int .i64 0, .string ⟨#[]⟩, .int .i64 0] 47)).heap.size (w.alloc (.cells #[.int .i64 0, .int .i64 0, .string ⟨#[]⟩, .int .i64 0] 47)) w1 := ⟨hb1.os, hb1.tape, hb1.output, hb1.size, hb1.block⟩; obtain ⟨d0, d1, d2, -⟩ := (HA.below hb2).facts; have hR : w1.heap[w.heap.size]? = some (.cells #[.int .i64 0, .int .i64 0, .string ⟨#[]⟩, .int .i64 0] 47 (0, 0)) := (hb2.block _ (by simp)).trans Array.getElem?_push_size; have r0 : w1.cell? ⟨w.heap.size, 0, none⟩ = some (.int .i64 0) := (by rw [cell_of_heap hR]; rfl); have r1 : w1.cell? ⟨w.heap.size, 1, none⟩ = some (.int .i64 0) := (by rw [cell_of_heap hR]; rfl); have r2 : w1.cell? ⟨w.heap.size, 2, none⟩ = some (.string ⟨#[]⟩) := (by rw [cell_of_heap hR]; rfl); have r3 : w1.cell? ⟨w.heap.size, 3, none⟩ = some (.int .i64 0) := (by rw [cell_of_heap hR]; rfl); have rf := frozen_of_heap hR; have rf0 := rf 0; have rf1 := rf 1; have rf2 := rf 2; have rf3 := rf 3; clear rf)
  all_goals go_wp2_with fail
  all_goals
    have e1 := Aux.heap_setCell_same hR 0 (.int .i64 o)
    have e2 := Aux.heap_setCell_same e1 1 (.int .i64 v)
    have e3 := Aux.heap_setCell_same e2 2 (.string (bs (Lib.join y.trace [32])))
    have e4 := Aux.heap_setCell_same e3 3 (.int .i64 y.live)
    refine bodyPost_ret (results_cell Tryz.results66 _ _ _ w.heap.size [.int .i64 o, .int .i64 v, .string (bs (Lib.join y.trace [32])), .int .i64 y.live] _ rfl (fun j u hu => by rw [Nat.zero_add, cell_of_heap e4]; simpa using hu) Tryz.underlying47 rfl info_result) rfl ?_
    refine ⟨rfl, ?_⟩
    have hB := hbA.trans (hb2.mono hbA.size)
    have hT := ((((Turn.refl w.heap.size w1).setCell 0 (.int .i64 o)).setCell 1 (.int .i64 v)).setCell 2 (.string (bs (Lib.join y.trace [32])))).setCell 3 (.int .i64 y.live)
    exact hB.trans (hT.below (Nat.le_refl _) hB.size)
end
end Go.Proofs.YtmlgajhhnojdjaaGreatDoor.Own
/- The project's machine that owns: how it lies in memory; its numbers and boxes. -/
namespace Go.Proofs.YtmlgajhhnojdjaaGreatDoor.Own
open Go Go.RowKit Go.Proofs.YtmlgajhhnojdjaaGreatDoor.Spec Go.Proofs.YtmlgajhhnojdjaaGreatDoor.Aux Go.Proofs.YtmlgajhhnojdjaaGreatDoor.PrjJ Go.Proofs.YtmlgajhhnojdjaaGreatDoor.PrjK Go.Proofs.YtmlgajhhnojdjaaGreatDoor.PrjL Go.Proofs.YtmlgajhhnojdjaaGreatDoor.PrjM Go.Proofs.YtmlgajhhnojdjaaGreatDoor.FlwA

structure Own where
  yd : Yd
  inp : List Int
  ints : List Int
  boxes : List Nat
def Own.num (o : Own) (p : Nat × Nat) : Int := o.ints.getD p.1 0
def Own.box (o : Own) (p : Nat × Nat) : Nat := o.boxes.getD (slotQ p) 0
/-- inputs that lie in memory -/
def FeedAt (w : World) (v : Value) (l : List Int) : Prop := ∃ ad c, v = .slice ad l.length c ∧ l.length ≤ c ∧ c ≤ maxLen ∧ ∀ j, j < l.length → ∃ g f, ad = some ⟨g, f, none⟩ ∧ g < w.heap.size ∧ w.cell? ⟨g, f + j, none⟩ = some (.int .i64 (l.getD j 0))
section
variable {z x a : Nat} {t : TypeId} {rest : List Value} {w w0 w1 : World} {y : Yd} {vm vt vi vm1 vt1 : Value} {o : Own}
theorem YAt.setRest (h : YAt z x t rest w y vm vt) (j : Nat) (u : Value) : YAt z x t (rest.set j u) (w.setCell ⟨x, 3 + j, none⟩ u) y vm vt ∧ Roam x vm vt w vm vt (w.setCell ⟨x, 3 + j, none⟩ u) := by
  obtain ⟨n1, n2⟩ := h.ty.ne
  refine ⟨⟨h.base, h.ty, ?_, own_setCell h.made _ (own_at_ne h.made h.blk n1), own_setCell h.trace _ (own_at_ne h.trace h.blk n2)⟩, ⟨rfl, rfl, rfl, by simp, fun k _ h1 _ _ => Below.heap_setCell _ _ _ _ (by show k ≠ x; exact h1), fun _ h => .inl h, fun _ h => .inl h⟩⟩
  rw [Aux.heap_setCell_same h.blk]
  congr 2
  rw [List.setIfInBounds_toArray, Nat.add_comm 3 j]; rfl
theorem YAt.more (h : YAt z x t rest w y vm vt) (j : Nat) : w.cell? ⟨x, 3 + j, none⟩ = rest[j]? ∧ w.frozen? ⟨x, 3 + j, none⟩ = false := by
  refine ⟨?_, frozen_of_heap h.blk _⟩
  rw [cell_of_heap h.blk, Nat.add_comm 3 j]; simp
end
end Go.Proofs.YtmlgajhhnojdjaaGreatDoor.Own
/- The project's machine that owns: its small functions, walked. -/
namespace Go.Proofs.YtmlgajhhnojdjaaGreatDoor.Own
open Go Go.RowKit Go.Proofs.YtmlgajhhnojdjaaGreatDoor.Spec Go.Proofs.YtmlgajhhnojdjaaGreatDoor.Aux Go.Proofs.YtmlgajhhnojdjaaGreatDoor.PrjJ Go.Proofs.YtmlgajhhnojdjaaGreatDoor.PrjK Go.Proofs.YtmlgajhhnojdjaaGreatDoor.PrjL Go.Proofs.YtmlgajhhnojdjaaGreatDoor.PrjM Go.Proofs.YtmlgajhhnojdjaaGreatDoor.FlwA

section
variable {x a : Nat} {w w0 : World} {vm vt vi : Value} {o : Own}
end
/-- numbers within Go's own bounds -/
def isI64 (n : Int) : Prop := -9223372036854775808 ≤ n ∧ n ≤ 9223372036854775807
/-- two numbers, put together -/
def calcI (op : Nat) (m n : Int) : Int := if op = 3 then wrap64 (m + n) else if op = 4 then wrap64 (m - n) else if op = 5 then wrap64 (m * n) else wrap64 (m.tdiv n)
theorem calculated_any (op : Nat) (m n : Int) (w : World) (hn : op = 6 → ¬ n = 0) (ho : op = 3 ∨ op = 4 ∨ op = 5 ∨ op = 6) (_hm : -9223372036854775808 ≤ m ∧ m ≤ 9223372036854775807) (_hn' : -9223372036854775808 ≤ n ∧ n ≤ 9223372036854775807) :
    Calls Tryz.prog 95 #[.int .i64 (op : Nat), .int .i64 m, .int .i64 n] w fun e w' => e = .returned (.int .i64 (calcI op m n)) ∧ w' = w := by
  rcases ho with rfl | rfl | rfl | rfl
  · go_enter Tryz.func95, Tryz.ntmps95
    go_wp2
    go_ret
    exact ⟨rfl, rfl⟩
  · go_enter Tryz.func95, Tryz.ntmps95
    go_wp2
    go_ret
    exact ⟨rfl, rfl⟩
  · go_enter Tryz.func95, Tryz.ntmps95
    go_wp2
    go_ret
    exact ⟨rfl, rfl⟩
  · have h0 : (n == 0) = false := by rw [beq_eq_false_iff_ne]; exact hn rfl
    go_enter Tryz.func95, Tryz.ntmps95
    go_wp2
    go_ret
    exact ⟨rfl, rfl⟩
/-- a line's cells, as it is handed over -/
abbrev lnV (l : QLine) (ap an : Option Addr) (cp cn : Nat) : Value := .agg #[.int .i64 (l.num : Nat), .int .i64 (l.op : Nat), .slice ap l.places.length cp, .int .i64 l.number, .int .i64 l.flag, .slice an l.next.length cn]
section
variable {x a : Nat} {w w0 : World} {vm vt vi : Value} {o : Own}
set_option maxRecDepth 20000 in
theorem way_any {z : Nat} {l : QLine} {ap an : Option Addr} {cp cn : Nat} (hl : LineAt z w l (.slice ap l.places.length cp) (.slice an l.next.length cn)) (b : Bool) (hb : (if b then 1 else 0) < l.next.length) :
    Calls Tryz.prog 100 #[lnV l ap an cp cn, .bool b] w fun e w' => e = .returned (.int .i64 ((l.next.getD (if b then 1 else 0) 0 : Nat) : Int)) ∧ Below w.heap.size w w' := by
  have hbA : Below w.heap.size w (w.alloc (.cells #[.int .i64 (l.num : Nat), .int .i64 (l.op : Nat), .slice ap l.places.length cp, .int .i64 l.number, .int .i64 l.flag, .slice an l.next.length cn] 115)) := (Below.refl _ _).alloc (Nat.le_refl _) _
  obtain ⟨g, cap, e, hc, hg, hcell⟩ := own_cell hl.next (by omega)
  simp only [Value.slice.injEq] at e
  obtain ⟨rfl, -, rfl⟩ := e
  have c1 := hcell (if b then 1 else 0) (by omega)
  have c2 : (intCells l.next)[if b then 1 else 0]? = some (.int .i64 ((l.next.getD (if b then 1 else 0) 0 : Nat) : Int)) := by
    rw [intCells, List.getElem?_map, List.getElem?_eq_getElem hb, List.getD_eq_getElem?_getD, List.getElem?_eq_getElem hb]; rfl
  rw [c2] at c1
  have c3 := (hbA.cell (p := ⟨g, if b then 1 else 0, none⟩) hg).trans c1
  cases b
  · simp only [Bool.false_eq_true, if_false] at c1 c3 hb
    have hbi : (0 : Int) < l.next.length := by omega
    go_enter Tryz.func100, Tryz.ntmps100
    go_wp2
    go_ret
    exact ⟨rfl, hbA⟩
  · simp only [if_true] at c1 c3 hb
    have hbi : (1 : Int) < l.next.length := by omega
    go_enter Tryz.func100, Tryz.ntmps100
    go_wp2
    go_ret
    exact ⟨rfl, hbA⟩
end
end Go.Proofs.YtmlgajhhnojdjaaGreatDoor.Own
/- The document's own machine: a number as digits. Conditions: none but the number's own bounds. -/
namespace Go.Proofs.YtmlgajhhnojdjaaGreatDoor.RefRa
open Go.RowKit Go.Proofs.YtmlgajhhnojdjaaGreatDoor.Spec Go.Proofs.YtmlgajhhnojdjaaGreatDoor.RefA Go.Proofs.YtmlgajhhnojdjaaGreatDoor.RefO Go.Proofs.YtmlgajhhnojdjaaGreatDoor.Aux

def dig (k : Nat) : UInt8 := UInt8.ofNat (48 + k)
theorem dig_nat {k : Nat} (h : k ≤ 9) : (dig k).toNat = 48 + k := by
  unfold dig; rw [UInt8.toNat_ofNat_of_lt' (by show _ < 256; omega)]
def decN (n : Nat) : B := if _h : n ≤ 9 then [dig n] else decN (n / 10) ++ [dig (n % 10)]
termination_by n
decreasing_by omega
theorem decN_step (n : Nat) (h : 9 < n) : decN n = decN (n / 10) ++ [dig (n % 10)] := by
  rw [decN, dif_neg (by omega)]
theorem decN_end (n : Nat) (h : n ≤ 9) : decN n = [dig n] := by
  rw [decN, dif_pos h]

theorem conv_at (w : World) (x : Int) (c : UInt8) (h : x = (c.toNat : Int)) : (convert 93 9 (.slice (some ⟨w.heap.size, 0, none⟩) 1 1)).run Tryz.prog (w.alloc (.cells #[.int .u8 x] 5)) = .ok (.string (bs [c])) (w.alloc (.cells #[.int .u8 x] 5)) := by
  subst h; exact conv_one w c
theorem ret_app (c : UInt8) (s : B) : Value.string (bs [c] ++ bs s) = .string (bs (c :: s)) := by
  rw [eq_bs (s := bs [c] ++ bs s) (l := c :: s) (by rw [append_toList, toList_bs, toList_bs]; rfl)]
theorem few_digits {n m : Nat} {s : B} (hn : n ≤ 9223372036854775807) (h : 10 ^ s.length * m ≤ n) (h' : s = [] ∨ 1 ≤ m) : s.length ≤ 18 := by
  rcases h' with rfl | h'
  · simp
  · by_cases hl : s.length ≤ 18
    · exact hl
    · exfalso
      have h1 : 10 ^ 19 ≤ 10 ^ s.length := Nat.pow_le_pow_right (by omega) (by omega)
      have h2 : 10 ^ s.length * 1 ≤ 10 ^ s.length * m := Nat.mul_le_mul_left _ h'
      omega
theorem digits_on {n m : Nat} {s : B} (h : 10 ^ s.length * m ≤ n) (c : UInt8) : 10 ^ (c :: s).length * (m / 10) ≤ n := by
  have : 10 ^ (c :: s).length * (m / 10) = 10 ^ s.length * (10 * (m / 10)) := by rw [List.length_cons, Nat.pow_succ, Nat.mul_assoc]
  rw [this]
  exact Nat.le_trans (Nat.mul_le_mul_left _ (by omega)) h

set_option maxRecDepth 20000 in
set_option maxHeartbeats 1000000 in
theorem decimal_pos (n : Nat) (w : World) (hn : n ≤ 9223372036854775807) :
    Calls Tryz.prog 191 #[.int .i64 n] w fun e w' => e = .returned (.string (bs (decN n))) ∧ Below w.heap.size w w' := by
  go_enter Tryz.func191, Tryz.ntmps191
  have h1 : ((n : Int) == -9223372036854775808) = false := by rw [beq_eq_false_iff_ne]; omega
  have h2 : ¬ (n : Int) < 0 := by omega
  go_wp2
  go_loopg [0, 3] (n) (fun g v0 v3 wr => ∃ (m : Nat) (s : B), m ≤ n ∧ g = m ∧ v0 = .int .i64 m ∧ v3 = .string (bs s) ∧ Below w.heap.size w wr ∧ Hid (decN n = decN m ++ s) ∧ Hid (10 ^ s.length * m ≤ n) ∧ Hid (s = [] ∨ 1 ≤ m))
  case atStart => exact ⟨n, [], by omega, rfl, rfl, rfl, Below.refl _ _, by unfold Hid; simp, by unfold Hid; simp, .inl rfl⟩
  case round =>
    obtain ⟨m, s, hm, hgm, rfl, rfl, hB, HI, HP, HQ⟩ := hrel
    have hsl : s.length ≤ 18 := few_digits hn HP.out HQ.out
    by_cases h9 : 9 < m
    · have h9I : (9 : Int) < m := by omega
      have HS : Hid (_ = _) := decN_step m h9
      have kc := conv_at wr (48 + (m : Int) % 10) (dig (m % 10)) (by rw [dig_nat (by omega)]; omega)
      go_wp2
      go_roundg (m / 10)
      case rel => exact ⟨m / 10, dig (m % 10) :: s, by omega, rfl, by go_num, ret_app _ _, hB.alloc hB.size _, by unfold Hid; rw [HI.out, HS.out]; simp, digits_on HP.out _, .inr (by omega)⟩
      case measure => omega
    · have h9I : ¬ (9 : Int) < m := by omega
      have HS : Hid (_ = _) := decN_end m (by omega)
      have kc := conv_at wr (48 + (m : Int)) (dig m) (by rw [dig_nat (by omega)]; omega)
      go_wp2
      go_ret
      refine ⟨ret_str ?_, hB.alloc hB.size _⟩
      rw [HI.out, HS.out]
      apply eq_bs
      rw [append_toList, toList_bs, toList_bs]
/-- a number as it is written -/
def decI (z : Int) : B := if z < 0 then 45 :: decN z.natAbs else decN z.natAbs
theorem decN_least : decN 9223372036854775808 = [57, 50, 50, 51, 51, 55, 50, 48, 51, 54, 56, 53, 52, 55, 55, 53, 56, 48, 56] := by
  simp [decN, dig]
theorem decN_len : ∀ (k n : Nat), n < 10 ^ (k + 1) → (decN n).length ≤ k + 1
  | 0, n, h => by rw [decN_end n (by omega)]; simp
  | k + 1, n, h => by
    by_cases h9 : 9 < n
    · rw [decN_step n h9]
      have := decN_len k (n / 10) (by rw [Nat.pow_succ] at h; omega)
      simp; omega
    · rw [decN_end n (by omega)]; simp
set_option maxRecDepth 20000 in
set_option maxHeartbeats 1000000 in
theorem decimal_any (z : Int) (w : World) (h1 : -9223372036854775808 ≤ z) (h2 : z ≤ 9223372036854775807) :
    Calls Tryz.prog 191 #[.int .i64 z] w fun e w' => e = .returned (.string (bs (decI z))) ∧ Below w.heap.size w w' := by
  by_cases h0 : z < 0
  · by_cases hl : z = -9223372036854775808
    · subst hl
      have hd : decI (-9223372036854775808) = 45 :: [57, 50, 50, 51, 51, 55, 50, 48, 51, 54, 56, 53, 52, 55, 55, 53, 56, 48, 56] := by
        unfold decI; rw [if_pos (by decide), ← decN_least]; rfl
      rw [hd]
      go_enter Tryz.func191, Tryz.ntmps191
      go_wp2
      go_ret
      exact ⟨rfl, Below.refl _ _⟩
    · obtain ⟨n, rfl⟩ : ∃ n : Nat, z = -(n : Int) := ⟨z.natAbs, by omega⟩
      have hd : decI (-(n : Int)) = 45 :: decN n := by unfold decI; rw [if_pos h0]; simp
      have HD : Hid (_ = _) := hd
      clear hd
      have HP := decimal_pos n w (by omega)
      have hlb : ((-(n : Int)) == -9223372036854775808) = false := by rw [beq_eq_false_iff_ne]; exact hl
      have hlen := decN_len 18 n (by omega)
      have hng : IntKind.i64.wrap (-(-(n : Int))) = n := by rw [IntKind.wrap_i64]; omega
      go_enter Tryz.func191, Tryz.ntmps191
      go_wp2_with (go_at_call 191; refine HP.mono ?_; rintro e w' ⟨rfl, hb⟩)
      go_ret
      exact ⟨by rw [HD.out, ← ret_app]; rfl, hb⟩
  · obtain ⟨n, rfl⟩ : ∃ n : Nat, z = (n : Int) := ⟨z.natAbs, by omega⟩
    have hd : decI (n : Int) = decN n := by unfold decI; rw [if_neg h0]; rfl
    rw [hd]
    exact decimal_pos n w (by omega)
end Go.Proofs.YtmlgajhhnojdjaaGreatDoor.RefRa
