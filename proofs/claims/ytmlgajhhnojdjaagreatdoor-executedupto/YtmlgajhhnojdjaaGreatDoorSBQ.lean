/- The document's own machine that owns: what a program that was read has for it; next and end of any line, walked. -/
import Derived.Test.YtmlgajhhnojdjaaGreatDoorSBE
import Derived.Test.YtmlgajhhnojdjaaGreatDoorSBD
import Derived.Test.YtmlgajhhnojdjaaGreatDoorSBP
import Derived.Test.YtmlgajhhnojdjaaGreatDoorSAH
import Derived.Laws.BytesString
import Derived.Laws.IdiomStrings
import Derived.Deep.LoopGhost
import Derived.Test.YtmlgajhhnojdjaaGreatDoorSBC
import Derived.Test.YtmlgajhhnojdjaaGreatDoorSBL
import Derived.Test.YtmlgajhhnojdjaaGreatDoorSAX
namespace Go.Proofs.YtmlgajhhnojdjaaGreatDoor.Mac
open Go Go.RowKit Go.Proofs.YtmlgajhhnojdjaaGreatDoor.Spec Go.Proofs.YtmlgajhhnojdjaaGreatDoor.Aux Go.Proofs.YtmlgajhhnojdjaaGreatDoor.Own Go.Proofs.YtmlgajhhnojdjaaGreatDoor.RefRa Go.Proofs.YtmlgajhhnojdjaaGreatDoor.RefZd Go.Proofs.YtmlgajhhnojdjaaGreatDoor.PrjS Go.Proofs.YtmlgajhhnojdjaaGreatDoor.Sim

section
variable {w0 w : World} {x gw cw : Nat} {f : Fx} {m : RM} {p : RP} {t i : Nat} {inp : List Int} {text : B} {raw : Bool}
theorem val_i64 (w : B) : isI64 (valW w) := by
  have h := number_le w
  rw [number_eq] at h
  unfold isI64 valW
  omega
theorem Ctx.long (hC : Ctx w0 p f) (i j : Nat) : (word (p.line i) j).length ≤ maxLen := Nat.le_trans (hC.ok.long i j) (by unfold maxLen; omega)
theorem row_line (h : ProgAt w0 f.a p) (hO : p.Ok) (hi : i < p.lines.length) : ∃ g cap gl capl, w0.cell? ⟨f.a, 0, none⟩ = some (.slice (some ⟨g, 0, none⟩) p.lines.length cap) ∧ w0.cell? ⟨g, i, none⟩ = some (.slice (some ⟨gl, 0, none⟩) (p.line i).length capl) ∧ g < w0.heap.size ∧ p.lines.length ≤ cap ∧ (p.line i).length ≤ capl ∧ Row w0 (p.line i) gl := by
  obtain ⟨v, hv, hr⟩ := h.lines
  rcases hr with ⟨he, _⟩ | ⟨g, cap, rfl, hc, hg, hcell⟩
  · rw [he] at hi; simp at hi
  · obtain ⟨u, hu, gl, capl, rfl, hcl, hgl, hw⟩ := hcell i hi
    exact ⟨g, cap, gl, capl, hv, hu, hg, hc, hcl, ⟨hgl, hw, hO.wide i⟩⟩
theorem spots_snd (p : RP) (w : B) : (p.spots w).2 = if partOf w = 98 then 1 else if p.typeOf w = wPair then 2 else 1 := by
  unfold RP.spots
  split
  · rfl
  · split <;> rfl
theorem pair_part {w1 : B} (h : p.typeOf w1 = wPair) : ¬ partOf w1 = 98 := fun e => by
  unfold RP.typeOf at h
  rw [if_pos (.inr e)] at h
  split at h
  · exact absurd h (by decide)
  · exact absurd h (by decide)
theorem fit_of {w1 w2 : B} (h1 : p.fits w1) (h2 : p.typeOf w2 = wPair → p.typeOf w1 = wPair) : sp p w1 + (p.spots w2).2 ≤ 24 := by
  unfold RP.fits at h1
  have s1 := spots_snd p w1
  have s2 := spots_snd p w2
  unfold sp
  by_cases e : p.typeOf w2 = wPair
  · have e1 := h2 e
    rw [if_neg (pair_part e1), if_pos e1] at s1
    have : (p.spots w2).2 ≤ 2 := by
      rw [s2, if_pos e]
      split <;> omega
    omega
  · have h3 : (p.spots w2).2 = 1 := by
      rw [s2, if_neg e]
      split <;> rfl
    have : 1 ≤ (p.spots w1).2 := by
      rw [s1]
      split
      · omega
      · split <;> omega
    omega
theorem body_not {i : Nat} (hb : p.body i) : ¬ word (p.line i) 0 = wLet ∧ ¬ word (p.line i) 0 = wBlock :=
  ⟨by have := hb.2.1; simpa [isLet] using this, by have := hb.2.2; simpa [isBlock] using this⟩
theorem body_form (hR : ReadOk text raw p) {i : Nat} (hb : p.body i) : (behind (word (p.line i) 0) raw).2 = true ∧ (p.line i).length = (behind (word (p.line i) 0) raw).1.length + 1 := by
  have hform := hR.pre.form i hb.1
  rw [hR.raw] at hform
  exact len_of hform (body_not hb).1 (body_not hb).2
theorem body_find (hR : ReadOk text raw p) {i : Nat} (hb : p.body i) (k : Nat) (hk : k < (behind (word (p.line i) 0) raw).1.length) (hc : (behind (word (p.line i) 0) raw).1.getD k 0 ∈ [(105 : UInt8), 112, 109, 111, 100]) : 0 ≤ p.find (localOf (word (p.line i) (k + 1))) := by
  have h := @RP.names_find p i (hR.names i hb.1) (body_not hb).1 k
  rw [hR.raw] at h
  refine h hk ?_
  rw [List.getD_eq_getElem?_getD, List.getElem?_eq_getElem hk] at hc
  exact hc
theorem body_fit (hR : ReadOk text raw p) {i : Nat} (hb : p.body i) (hw : word (p.line i) 0 = [109, 111, 118, 101] ∨ word (p.line i) 0 = [115, 111, 109, 101]) : sp p (word (p.line i) 1) + (p.spots (word (p.line i) 2)).2 ≤ 24 := by
  rcases hw with e | e
  · have hf : (behind (word (p.line i) 0) p.raw).1 = [109, 109] := by rw [e]; rfl
    obtain ⟨a1, -⟩ := hR.place hb hf 0 (by simp) (by rfl)
    obtain ⟨-, b2⟩ := hR.place hb hf 1 (by simp) (by rfl)
    refine fit_of a1.fits fun h => ?_
    rw [← h]; exact ((typeOk_m b2).2).symm
  · have hf : (behind (word (p.line i) 0) p.raw).1 = [111, 112] := by rw [e]; rfl
    obtain ⟨a1, -⟩ := hR.place hb hf 0 (by simp) (by rfl)
    obtain ⟨-, b2⟩ := hR.place hb hf 1 (by simp) (by rfl)
    refine fit_of a1.fits fun h => ?_
    rw [show p.typeOf (word (p.line i) 2) = wBox from typeOk_p b2] at h
    exact absurd h (by decide)
theorem bw_of (hC : Ctx w0 p f) (hR : ReadOk text raw p) (hb : p.body i) (k : Nat) (hc : (behind (word (p.line i) 0) raw).1.getD k 0 = 78) : Bw p (word (p.line i) (k + 1)) := by
  obtain ⟨n, h1, h2, -⟩ := hR.into i hb.1 k (by rw [hR.raw]; exact hc)
  exact ⟨hC.long i _, n, h1, h2⟩
theorem wd_of (hC : Ctx w0 p f) (hR : ReadOk text raw p) (hb : p.body i) (k : Nat) (hk : k < (behind (word (p.line i) 0) raw).1.length) (hc : (behind (word (p.line i) 0) raw).1.getD k 0 ∈ [(105 : UInt8), 112, 109, 111, 100]) : Wd p (word (p.line i) (k + 1)) :=
  ⟨hC.long i _, body_find hR hb k hk hc⟩
theorem stands_bw (hR : ReadOk text raw p) {l : B} (hb : Bw p l) : Stands p (blockW p l) := by
  obtain ⟨n, h1, h2⟩ := hb.num
  obtain ⟨h3, h4, -⟩ := RP.blocks_mem hR.pre.blocks h2
  have e : blockW p l = p.blocks.getD n 0 := by unfold blockW valW; rw [h1]; rfl
  rw [e]; exact .inr ⟨h3, h4⟩
theorem RM.Ok.next (hO : m.Ok t) (ws : List B) : (m.next p ws).1.Ok t := by
  unfold RM.next
  simp only
  split
  · exact hO
  · split
    · exact hO.need _
    · split
      · split
        · exact hO.outs 5
        · exact hO
      · exact hO
theorem drop1_out (h : ¬ m.out = 0) (c : UInt8) (k : Nat) : ¬ (m.drop1 c k).out = 0 := by
  unfold RM.drop1 RM.free
  simp only
  split
  · split
    · simp
    · exact h
  · exact h
theorem dropN_out (h : ¬ m.out = 0) (c : UInt8) (k : Nat) : ∀ n, ¬ (m.dropN c k n).out = 0
  | 0 => h
  | n + 1 => drop1_out (dropN_out h c k n) c (k + n)
theorem dropLets_out : ∀ (n : Nat) (m : RM), ¬ m.out = 0 → ¬ (RM.dropLets p n m).out = 0
  | 0, _, h => h
  | n + 1, m, h => by
    rw [RM.dropLets]
    refine dropLets_out n _ ?_
    split
    · exact h
    · exact dropN_out h _ _ _
theorem finish_out (ws : List B) : ¬ (m.finish f p ws).out = 0 := by
  unfold RM.finish
  simp only
  split
  · assumption
  · split
    · exact dropLets_out _ _ (by simp)
    · simp
end
end Go.Proofs.YtmlgajhhnojdjaaGreatDoor.Mac
/- The document's own machine, either one: a run, walked, from what its statements answer. -/
namespace Go.Proofs.YtmlgajhhnojdjaaGreatDoor.Mac
open Go Go.RowKit Go.Proofs.YtmlgajhhnojdjaaGreatDoor.Spec Go.Proofs.YtmlgajhhnojdjaaGreatDoor.Aux Go.Proofs.YtmlgajhhnojdjaaGreatDoor.Own Go.Proofs.YtmlgajhhnojdjaaGreatDoor.RefRa Go.Proofs.YtmlgajhhnojdjaaGreatDoor.RefA Go.Proofs.YtmlgajhhnojdjaaGreatDoor.Sim Go.Proofs.YtmlgajhhnojdjaaGreatDoor.PrjK Go.Proofs.YtmlgajhhnojdjaaGreatDoor.PrjJ Go.Proofs.YtmlgajhhnojdjaaGreatDoor.PrjL Go.Proofs.YtmlgajhhnojdjaaGreatDoor.PrjM

def resM (m : RM) : Value := .agg #[.int .i64 ((m.out : Nat) : Int), .int .i64 m.value, .string (bs m.trace), .int .i64 m.count]
/-- what its statements, its ways on and its end answer, whatever lies beside it -/
structure Moves (w0 : World) (x : Nat) (f : Fx) (p : RP) (inp : List Int) : Prop where
  does : ∀ (kp : List (Nat × List Value × Fin 3)) (i gw cw : Nat) (w : World) (m : RM) (t : Nat), p.body i → Row w0 (p.line i) gw → MAt w0 x { f with kept := kp } w m → m.out = 0 → m.Ok t → t ≤ 1000000 → ends (word (p.line i) 0) = false →
    Calls Tryz.prog 94 #[.pointer (some ⟨x, 0, none⟩), .slice (some ⟨gw, 0, none⟩) (p.line i).length cw] w (fun e w' => e = .returned (.tuple #[]) ∧ MAt w0 x { f with kept := kp } w' (m.does f p inp (p.line i))) ∧ (m.does f p inp (p.line i)).Ok (t + 3)
  next : ∀ (kp : List (Nat × List Value × Fin 3)) (i gw cw : Nat) (w : World) (m : RM) (t : Nat), p.body i → Row w0 (p.line i) gw → MAt w0 x { f with kept := kp } w m → m.Ok t → ends (word (p.line i) 0) = true → ¬ word (p.line i) 0 = [101, 110, 100] →
    Calls Tryz.prog 93 #[.pointer (some ⟨x, 0, none⟩), .slice (some ⟨gw, 0, none⟩) (p.line i).length cw] w (fun e w' => e = .returned (.int .i64 ((blockW p (m.next p (p.line i)).2 : Nat) : Int)) ∧ MAt w0 x { f with kept := kp } w' (m.next p (p.line i)).1) ∧ (m.next p (p.line i)).1.Ok t ∧ Stands p (blockW p (m.next p (p.line i)).2)
  finish : ∀ (kp : List (Nat × List Value × Fin 3)) (i gw cw : Nat) (w : World) (m : RM) (t : Nat), p.body i → Row w0 (p.line i) gw → MAt w0 x { f with kept := kp } w m → m.out = 0 → m.Ok t → t ≤ 1000000 → word (p.line i) 0 = [101, 110, 100] →
    Calls Tryz.prog 92 #[.pointer (some ⟨x, 0, none⟩), .slice (some ⟨gw, 0, none⟩) (p.line i).length cw] w (fun e w' => e = .returned (.tuple #[]) ∧ MAt w0 x { f with kept := kp } w' (m.finish f p (p.line i)))
section
variable {w0 w : World} {x gw cw : Nat} {f : Fx} {m : RM} {p : RP} {ws : List B} {t : Nat} {inp : List Int} {text : B} {raw : Bool} {vb vt : Value}
theorem runR_block (hR : ReadOk text raw p) {a : Nat} (ha : a < p.lines.length) (hb : isBlock (p.line a) = true) (n : Nat) (m : RM) : runR f p inp n (a + 1) m = runR f p inp n a m := by
  have h1 := hR.behind_block ha hb
  cases n with
  | zero => rfl
  | succ n => rw [runR, runR, hb, h1.2.2]; rfl
theorem runR_does {i n : Nat} (hb : p.body i) (h0 : m.out = 0) (he : ends (word (p.line i) 0) = false) : runR f p inp (n + 1) i m = runR f p inp n (i + 1) (m.does f p inp (p.line i)) := by
  have hne : ¬ word (p.line i) 0 = [101, 110, 100] := fun e => by rw [e] at he; exact absurd he (by decide)
  rw [runR, if_neg (by rw [h0]; decide), hb.2.2]
  simp only [Bool.false_eq_true, if_false]
  rw [if_neg hne, if_neg (by rw [he]; decide)]
theorem runR_next {i n : Nat} (hb : p.body i) (h0 : m.out = 0) (he : ends (word (p.line i) 0) = true) (hne : ¬ word (p.line i) 0 = [101, 110, 100]) : runR f p inp (n + 1) i m = runR f p inp n (blockW p (m.next p (p.line i)).2) (m.next p (p.line i)).1 := by
  rw [runR, if_neg (by rw [h0]; decide), hb.2.2]
  simp only [Bool.false_eq_true, if_false]
  rw [if_neg hne, if_pos he]
theorem runR_end {i n : Nat} (hb : p.body i) (h0 : m.out = 0) (he : word (p.line i) 0 = [101, 110, 100]) : runR f p inp (n + 1) i m = m.finish f p (p.line i) := by
  rw [runR, if_neg (by rw [h0]; decide), hb.2.2]
  simp only [Bool.false_eq_true, if_false]
  rw [if_pos he]
theorem conv_trace (h : w.ownsRow w0.heap.size 5 1 vt m.trace.length (byteC m.trace)) : (convert 93 9 vt).run Tryz.prog w = .ok (.string (bs m.trace)) w := by
  by_cases hn : m.trace.length = 0
  · have e : m.trace = [] := List.length_eq_zero_iff.mp hn
    rcases h.2 with ⟨rfl, -⟩ | ⟨g, cap, cur, rfl, -⟩
    · rw [run_convert_bytes_string (e := 5) _ _ _ _ _ _ Tryz.underlying93 Tryz.underlying5 Tryz.underlying9, e]
      rfl
    · have := run_convert_bytes_back (P := Tryz.prog) w 93 9 5 ⟨g, 0, none⟩ cap m.trace Tryz.underlying93 Tryz.underlying5 Tryz.underlying9 (fun j hj => absurd hj (by omega))
      exact this
  · obtain ⟨g, cap, rfl, hc, hg, hcell⟩ := own_cell h (by omega)
    refine run_convert_bytes_back (P := Tryz.prog) w 93 9 5 ⟨g, 0, none⟩ cap m.trace Tryz.underlying93 Tryz.underlying5 Tryz.underlying9 (fun j hj => ?_)
    have hadd : (⟨g, 0, none⟩ : Addr).add j = ⟨g, j, none⟩ := by unfold Addr.add; split <;> simp_all
    rw [hadd, hcell j (by omega), byteC, List.getElem?_map, List.getElem?_eq_getElem hj]
    rfl
theorem info_res : (Tryz.prog.info? 73).map (·.size) = some 4 := by kernel_rfl
theorem resM_put {w1 : World} {R : Nat} {u0 u1 u2 u3 : Value} (hR : w1.heap[R]? = some (.cells #[u0, u1, u2, u3] 73 (0, 0))) (v0 v1 v2 v3 : Value) :
    ((((w1.setCell ⟨R, 0, none⟩ v0).setCell ⟨R, 1, none⟩ v1).setCell ⟨R, 2, none⟩ v2).setCell ⟨R, 3, none⟩ v3).heap[R]? = some (.cells #[v0, v1, v2, v3] 73 (0, 0)) ∧ Below R w1 ((((w1.setCell ⟨R, 0, none⟩ v0).setCell ⟨R, 1, none⟩ v1).setCell ⟨R, 2, none⟩ v2).setCell ⟨R, 3, none⟩ v3) := by
  have e1 := Aux.heap_setCell_same hR 0 v0
  have e2 := Aux.heap_setCell_same e1 1 v1
  have e3 := Aux.heap_setCell_same e2 2 v2
  have e4 := Aux.heap_setCell_same e3 3 v3
  have hT := ((((Turn.refl R w1).setCell 0 v0).setCell 1 v1).setCell 2 v2).setCell 3 v3
  exact ⟨e4, hT.below (Nat.le_refl _) (Nat.le_of_lt (lt_of_heap hR))⟩
theorem resM_facts {w1 : World} {R : Nat} {u0 u1 u2 u3 : Value} (hR : w1.heap[R]? = some (.cells #[u0, u1, u2, u3] 73 (0, 0))) : w1.cell? ⟨R, 0, none⟩ = some u0 ∧ w1.cell? ⟨R, 1, none⟩ = some u1 ∧ w1.cell? ⟨R, 2, none⟩ = some u2 ∧ w1.cell? ⟨R, 3, none⟩ = some u3 ∧
    w1.frozen? ⟨R, 0, none⟩ = false ∧ w1.frozen? ⟨R, 1, none⟩ = false ∧ w1.frozen? ⟨R, 2, none⟩ = false ∧ w1.frozen? ⟨R, 3, none⟩ = false :=
  ⟨by rw [cell_of_heap hR]; rfl, by rw [cell_of_heap hR]; rfl, by rw [cell_of_heap hR]; rfl, by rw [cell_of_heap hR]; rfl, frozen_of_heap hR 0, frozen_of_heap hR 1, frozen_of_heap hR 2, frozen_of_heap hR 3⟩
def resZ : List Value := [.int .i64 0, .int .i64 0, .string ⟨#[]⟩, .int .i64 0]
set_option maxRecDepth 20000 in
set_option maxHeartbeats 4000000 in
theorem run_any (hM : Moves w0 x f p inp) (hC : Ctx w0 p f) (hRd : ReadOk text raw p) (h : MAt w0 x f w m) (hO : m.Ok 0) (fuel : Nat) (hfu : fuel ≤ 200000) :
    Calls Tryz.prog 56 #[.pointer (some ⟨x, 0, none⟩), .int .i64 (fuel : Nat)] w fun e w' => e = .returned (resM (runR f p inp fuel (p.blocks.getD 0 0) m)) ∧ Below w0.heap.size w0 w' := by
  obtain ⟨vb, vt, hV⟩ := h
  have hb0 := hRd.first.1
  obtain ⟨s1, s2, -⟩ := RP.blocks_mem hRd.pre.blocks hb0
  obtain ⟨w1, hw1⟩ : ∃ w1, w.alloc (.cells #[.int .i64 0, .int .i64 0, .string ⟨#[]⟩, .int .i64 0] 73) = w1 := ⟨_, rfl⟩
  have hb1 : Below w.heap.size w w1 := by rw [← hw1]; exact (Below.refl _ _).alloc (Nat.le_refl _) _
  have hR1 : w1.heap[w.heap.size]? = some (.cells #[.int .i64 0, .int .i64 0, .string ⟨#[]⟩, .int .i64 0] 73 (0, 0)) := by rw [← hw1]; exact Array.getElem?_push_size
  have hV1 := hV.below hb1
  obtain ⟨F, hF⟩ : ∃ kp, kp = (w.heap.size, resZ, (2 : Fin 3)) :: f.kept := ⟨_, rfl⟩
  have HM : Hid (MAt w0 x { f with kept := F } w1 m) := by
    subst hF
    exact ⟨vb, vt, ⟨hV1.base, hV1.blk, hV1.boxes, hV1.trace, hV1.old, hV1.len, fun e he => by
      simp only [List.mem_cons] at he
      rcases he with rfl | he
      · exact hR1
      · exact hV1.loc e he⟩⟩
  have K1 : Hid (∀ wr m', MAt w0 x { f with kept := F } wr m' → wr.heap[w.heap.size]? = some (.cells #[.int .i64 0, .int .i64 0, .string ⟨#[]⟩, .int .i64 0] 73 (0, 0)) ∧ w.heap.size ≠ x) := by
    subst hF
    rintro wr m' ⟨vb', vt', hX⟩
    exact ⟨hX.loc (w.heap.size, resZ, 2) (by simp), hX.apart (e := (w.heap.size, resZ, 2)) (by simp)⟩
  have hsz : w0.heap.size ≤ w.heap.size := hV.old.size
  clear hF
  have HP := hC.prog.below hV1.old
  obtain ⟨gb, capb, l1, l2, l3⟩ := HP.block_at 0 hb0
  have hbi : (0 : Int) < p.blocks.length := by omega
  obtain ⟨c0, c1, c2, c3, c4, c5, c6, c7, c8, c9⟩ := hV1.facts
  have HR0 : Hid (runR f p inp fuel (p.blocks.getD 0 0) m = runR f p inp fuel (p.blocks.getD 0 0) m) := rfl
  have hst : Stands p (p.blocks.getD 0 0) := .inr ⟨s1, s2⟩
  generalize hres : runR f p inp fuel (p.blocks.getD 0 0) m = R at HR0 ⊢
  have HE : Hid (runR f p inp fuel (p.blocks.getD 0 0) m = R) := hres
  clear hres HR0
  generalize p.blocks.getD 0 0 = at0 at *
  go_enter Tryz.func56, Tryz.ntmps56
  go_wp2_with fail
  have HO : Hid (m.Ok (3 * (fuel - fuel))) := by rw [Nat.sub_self]; exact hO
  clear c0 c1 c2 c3 c4 c5 c6 c7 c8 c9 l1 l2 l3 HP hV1 hR1
  try rw [hw1]
  generalize hRR : w.heap.size = RB at *
  clear hw1 hRR
  go_loopg [1, 5, 6, 7] (2 * fuel + 2) (fun g v1 v5 v6 v7 wr => ∃ (n a : Nat) (mk : RM), n ≤ fuel ∧ v1 = .int .i64 (n : Nat) ∧ v5 = .int .i64 (a : Nat) ∧ Hid (MAt w0 x { f with kept := F } wr mk) ∧ Hid (runR f p inp n a mk = R) ∧ Hid (mk.out = 0 → mk.Ok (3 * (fuel - n)) ∧ Stands p a ∧ g = 2 * n + (if isBlock (p.line a) = true then 2 else 1)))
  case atStart => exact ⟨fuel, at0, m, Nat.le_refl _, rfl, rfl, HM, HE, fun _ => ⟨HO.out, hst, by rw [if_pos s2]⟩⟩
  case round =>
    obtain ⟨n, a, mk, hn, rfl, rfl, HK, HRk, HS⟩ := hrel
    clear HM HO HE hst s1 s2
    by_cases hout : mk.out = 0
    · obtain ⟨hO1, hsa, hg⟩ := HS.out hout
      have HOk : Hid (mk.Ok (3 * (fuel - n))) := hO1
      clear hO1
      have hal : a < p.lines.length := by
        rcases hsa with hb | ⟨hb, -⟩
        · exact hb.1
        · exact hb
      obtain ⟨g0, cap0, gl, capl, r1, r2, r3, r4, r5, hrow⟩ := row_line (f := f) hC.prog hC.ok hal
      obtain ⟨vb', vt', hX⟩ := HK.out
      have c0 : wr.cell? ⟨x, 0, none⟩ = some (.pointer (some ⟨f.a, 0, none⟩)) := hX.facts.1
      obtain ⟨-, -, -, -, -, -, -, -, c8, -⟩ := hX.facts
      rw [hout] at c8
      have k1 := (hX.old.cell (p := ⟨f.a, 0, none⟩) hC.prog.lt).trans r1
      have k2 := (hX.old.cell (p := ⟨g0, a, none⟩) r3).trans r2
      have hw1 := hC.ok.words a hal
      have k3 := hrow.at hX (j := 0) (by omega)
      have i1 : (a : Int) < p.lines.length := by omega
      have i2 : (0 : Int) < (p.line a).length := by omega
      have hsz2 := hC.ok.size
      by_cases hblk : isBlock (p.line a) = true
      · have hwB : word (p.line a) 0 = wBlock := by simpa [isBlock] using hblk
        have hw : word (p.line a) 0 = [98, 108, 111, 99, 107] := hwB
        have HN : Hid (runR f p inp n (a + 1) mk = R ∧ Stands p (a + 1) ∧ isBlock (p.line (a + 1)) = false) := by
          have hbb := hRd.behind_block hal hblk
          exact ⟨by rw [runR_block hRd hal hblk]; exact HRk.out, .inl hbb, hbb.2.2⟩
        rw [if_pos hblk] at hg
        rw [hw] at k3
        clear r1 r2 r3 hrow hout
        go_wp2_with fail
        go_roundg (2 * n + 1)
        case rel => exact ⟨n, a + 1, mk, hn, rfl, by go_num, HK, HN.out.1, fun _ => ⟨HOk.out, HN.out.2.1, by rw [HN.out.2.2]; rfl⟩⟩
        case measure => omega
      · have hb : p.body a := hsa.resolve_right (fun e => hblk e.2)
        have hbf : (word (p.line a) 0 == [98, 108, 111, 99, 107]) = false := by rw [beq_eq_false_iff_ne]; exact (body_not hb).2
        rw [if_neg hblk] at hg
        cases n with
        | zero =>
          obtain ⟨-, -, -, -, f5, -⟩ := hX.frozs
          have hX2 := hX.setOut 2
          have HN : Hid ({ mk with out := 2 } = R) := by unfold Hid; rw [← HRk.out, runR, if_pos hout]
          clear r1 r2 r3 hrow hout
          go_wp2_with fail
          go_roundg 0
          case rel => exact ⟨0, a, { mk with out := 2 }, hn, rfl, rfl, ⟨_, _, hX2⟩, by rw [← HN.out, runR, if_neg (by simp)]; exact rfl, fun e => by cases e⟩
          case measure => omega
        | succ n =>
          have hF0 : ¬ ((n + 1 : Nat) : Int) = 0 := by omega
          have KE := fun W => ends_bs (word (p.line a) 0) W
          have hO2 : mk.Ok (3 * (fuel - (n + 1))) := HOk.out
          have HNN : Hid (n + 1 ≤ fuel) := hn
          by_cases hend : word (p.line a) 0 = [101, 110, 100]
          · have KF := hM.finish F a gl capl wr mk _ hb hrow ⟨_, _, hX⟩ hout hO2 (by omega) hend
            have HN : Hid (runR f p inp n a (mk.finish f p (p.line a)) = R) := by unfold Hid; rw [runR_out f p inp (finish_out _), ← HRk.out, runR_end hb hout hend]
            have HNO : Hid (¬ (mk.finish f p (p.line a)).out = 0) := finish_out _
            rw [hend] at KE k3
            clear r1 r2 r3 hrow hout hbf hend
            generalize mk.finish f p (p.line a) = m2 at *
            go_wp2_with (first
              | (go_at_call 85; refine (KE _).mono ?_; rintro e w2 ⟨rfl, rfl⟩)
              | (go_at_call 92; refine KF.mono ?_; rintro e w2 ⟨rfl, hM2⟩))
            go_roundg 0
            case rel => exact ⟨n, a, m2, by have := HNN.out; omega, by go_num, rfl, hM2, HN.out, fun e => absurd e HNO.out⟩
            case measure => omega
          · have hef : (word (p.line a) 0 == [101, 110, 100]) = false := by rw [beq_eq_false_iff_ne]; exact hend
            cases he : ends (word (p.line a) 0)
            · obtain ⟨KD, hO3⟩ := hM.does F a gl capl wr mk _ hb hrow ⟨_, _, hX⟩ hout hO2 (by omega) he
              have HN : Hid (runR f p inp n (a + 1) (mk.does f p inp (p.line a)) = R) := by unfold Hid; rw [← HRk.out, runR_does hb hout he]
              have HO3 : Hid ((mk.does f p inp (p.line a)).Ok (3 * (fuel - n))) := hO3.mono (by omega)
              have HB : Hid (p.body (a + 1)) := hRd.behind_body hb he
              rw [he] at KE
              clear r1 r2 r3 hrow hout hend hO2 hO3
              generalize mk.does f p inp (p.line a) = m2 at *
              go_wp2_with (first
                | (go_at_call 85; refine (KE _).mono ?_; rintro e w2 ⟨rfl, rfl⟩)
                | (go_at_call 94; refine KD.mono ?_; rintro e w2 ⟨rfl, hM2⟩))
              go_roundg (2 * n + 1)
              case rel => exact ⟨n, a + 1, m2, by have := HNN.out; omega, by go_num, by go_num, hM2, HN.out, fun _ => ⟨HO3.out, .inl HB.out, by rw [HB.out.2.2]; rfl⟩⟩
              case measure => omega
            · obtain ⟨KD, hO3, hS3⟩ := hM.next F a gl capl wr mk _ hb hrow ⟨_, _, hX⟩ hO2 he hend
              have HN : Hid (runR f p inp n (blockW p (mk.next p (p.line a)).2) (mk.next p (p.line a)).1 = R) := by unfold Hid; rw [← HRk.out, runR_next hb hout he hend]
              have HO3 : Hid ((mk.next p (p.line a)).1.Ok (3 * (fuel - n))) := hO3.mono (by omega)
              have HS3 : Hid (Stands p (blockW p (mk.next p (p.line a)).2)) := hS3
              rw [he] at KE
              clear r1 r2 r3 hrow hout hend hO2 hO3 hS3
              generalize (mk.next p (p.line a)).1 = m2 at *
              generalize blockW p (mk.next p (p.line a)).2 = b2 at *
              go_wp2_with (first
                | (go_at_call 85; refine (KE _).mono ?_; rintro e w2 ⟨rfl, rfl⟩)
                | (go_at_call 93; refine KD.mono ?_; rintro e w2 ⟨rfl, hM2⟩))
              go_roundg (2 * n + (if isBlock (p.line b2) = true then 2 else 1))
              case rel => exact ⟨n, b2, m2, by have := HNN.out; omega, by go_num, rfl, hM2, HN.out, fun _ => ⟨HO3.out, HS3.out, rfl⟩⟩
              case measure =>
                split <;> omega
    · have HRR : Hid (mk = R) := by unfold Hid; rw [← HRk.out, runR_out f p inp hout]
      obtain ⟨t1, t2⟩ := K1.out _ _ HK.out
      have t3 := t2.symm
      obtain ⟨d0, d1, d2, d3, e0, e1, e2, e3⟩ := resM_facts t1
      obtain ⟨vb', vt', hX⟩ := HK.out
      obtain ⟨-, -, -, c3, -, c5, -, -, c8, c9⟩ := hX.facts
      have hon : ¬ ((mk.out : Nat) : Int) = 0 := by omega
      have HOL : Hid (Below w0.heap.size w0 wr) := hX.old
      obtain ⟨ad, ct, rfl⟩ := own_form hX.trace
      obtain ⟨p1, p2⟩ := resM_put t1 (.int .i64 ((mk.out : Nat) : Int)) (.int .i64 mk.value) (.string (bs mk.trace)) (.int .i64 mk.count)
      have ktr := hX.trace
      have kcv : ∀ W : World, W.ownsRow w0.heap.size 5 1 (.slice ad mk.trace.length ct) mk.trace.length (byteC mk.trace) → (convert 93 9 (.slice ad mk.trace.length ct)).run Tryz.prog W = .ok (.string (bs mk.trace)) W := fun W hW => conv_trace hW
      have kne := own_at_ne ktr t1 (by decide)
      have ksd := own_below ktr ((Below.refl wr.heap.size wr).drew)
      have kst := own_below (own_setCell (own_setCell (own_setCell (own_setCell ktr (a := ⟨RB, 0, none⟩) (.int .i64 ((mk.out : Nat) : Int)) kne) (a := ⟨RB, 1, none⟩) (.int .i64 mk.value) kne) (a := ⟨RB, 2, none⟩) (.string (bs mk.trace)) kne) (a := ⟨RB, 3, none⟩) (.int .i64 mk.count) kne) ((Below.refl _ _).drew)
      clear hX HK hout
      go_upto_region 16 with fail
      go_region_held3 (fun W' => W'.cell? ⟨x, 154, none⟩ = some (.int .i64 ((mk.out : Nat) : Int)) ∧ W'.cell? ⟨x, 155, none⟩ = some (.int .i64 mk.value) ∧ W'.cell? ⟨x, 151, none⟩ = some (.slice ad mk.trace.length ct) ∧ W'.cell? ⟨x, 149, none⟩ = some (.int .i64 mk.count) ∧ W'.ownsRow w0.heap.size 5 1 (.slice ad mk.trace.length ct) mk.trace.length (byteC mk.trace)) (first | go_keep | (refine ⟨?_, ?_, ?_, ?_, ?_⟩ <;> first | exact ksd | exact kst | go_keep)) (fail)
      have p3 : (((((wr.setCell ⟨RB, 0, none⟩ (.int .i64 ((mk.out : Nat) : Int))).setCell ⟨RB, 1, none⟩ (.int .i64 mk.value)).setCell ⟨RB, 2, none⟩ (.string (bs mk.trace))).setCell ⟨RB, 3, none⟩ (.int .i64 mk.count)).drew).heap[RB]? = some (.cells #[.int .i64 ((mk.out : Nat) : Int), .int .i64 mk.value, .string (bs mk.trace), .int .i64 mk.count] 73 (0, 0)) := p1
      go_wp2_with fail
      refine bodyPost_ret (results_cell Tryz.results56 _ _ _ RB [.int .i64 ((mk.out : Nat) : Int), .int .i64 mk.value, .string (bs mk.trace), .int .i64 mk.count] _ rfl (fun j u hu => by rw [Nat.zero_add, cell_of_heap p3]; simpa using hu) Tryz.underlying73 rfl info_res) rfl ?_
      exact ⟨by rw [← HRR.out]; rfl, (HOL.out.trans (p2.mono hsz)).drew⟩
end
end Go.Proofs.YtmlgajhhnojdjaaGreatDoor.Mac
/- The document's own machine, made: as rules for a walk, its cells behind a name. -/
namespace Go.Proofs.YtmlgajhhnojdjaaGreatDoor.Mac
open Go Go.RowKit Go.Proofs.YtmlgajhhnojdjaaGreatDoor.Spec Go.Proofs.YtmlgajhhnojdjaaGreatDoor.Aux Go.Proofs.YtmlgajhhnojdjaaGreatDoor.Own Go.Proofs.YtmlgajhhnojdjaaGreatDoor.RefRa Go.Proofs.YtmlgajhhnojdjaaGreatDoor.RefA Go.Proofs.YtmlgajhhnojdjaaGreatDoor.Sim

/-- a machine's cells as they are made -/
def machC (u o r v : Value) : List Value := [u, o] ++ (intC (List.replicate 24 0) ++ (boolC (List.replicate 24 false) ++ (natC (List.replicate 24 0) ++ (byteC (List.replicate 24 0) ++ (boolC (List.replicate 50 false) ++ [.slice none 0 0, .int .i64 0, r, .slice none 0 0, v, .int .i64 0, .int .i64 0, .int .i64 0])))))
@[simp] theorem aggV_mach (u o r v : Value) : aggV (.agg (machC u o r v).toArray) = machC u o r v := rfl
section
variable (d : Option Tmp) (x y z u : Operand) (t : TypeId) (ps : String) (af : Array Edge) (g : Option (Nat × Bool)) (a : Act) (w : World) (K : Act → World → Prop) (Q : Exit → Act → World → Prop)
end
theorem start_ok : RM.start.Ok 0 := by
  have z : ∀ {α : Type} (n : Nat) (d : α) (k : Nat), (List.replicate n d).getD k d = d := fun n d k => by
    rw [List.getD_eq_getElem?_getD, List.getElem?_replicate]; split <;> rfl
  refine ⟨fun j => ?_, fun j => ?_, fun j => ?_, Nat.le_refl _, Nat.zero_le _, by decide, Nat.le_refl _⟩
  · show isI64 ((List.replicate 24 (0 : Int)).getD j 0)
    rw [z]; unfold isI64; decide
  · show (List.replicate 24 (0 : Nat)).getD j 0 ≤ 0
    rw [z]; decide
  · show isI64 (([] : List (Int × Bool)).getD j (0, false)).1
    unfold isI64; simp
end Go.Proofs.YtmlgajhhnojdjaaGreatDoor.Mac
/- Plain facts: what the project's Run answers is what the document's own Run answers. -/
namespace Go.Proofs.YtmlgajhhnojdjaaGreatDoor.Ran
open Go Go.RowKit Go.Proofs.YtmlgajhhnojdjaaGreatDoor.Spec Go.Proofs.YtmlgajhhnojdjaaGreatDoor.Aux Go.Proofs.YtmlgajhhnojdjaaGreatDoor.Own Go.Proofs.YtmlgajhhnojdjaaGreatDoor.Mac Go.Proofs.YtmlgajhhnojdjaaGreatDoor.Sim Go.Proofs.YtmlgajhhnojdjaaGreatDoor.RunA Go.Proofs.YtmlgajhhnojdjaaGreatDoor.RunB Go.Proofs.YtmlgajhhnojdjaaGreatDoor.RefM Go.Proofs.YtmlgajhhnojdjaaGreatDoor.RefZf Go.Proofs.YtmlgajhhnojdjaaGreatDoor.PrjS Go.Proofs.YtmlgajhhnojdjaaGreatDoor.FlwA Go.Proofs.YtmlgajhhnojdjaaGreatDoor.FlwF Go.Proofs.YtmlgajhhnojdjaaGreatDoor.FlwI Go.Proofs.YtmlgajhhnojdjaaGreatDoor.FlwK Go.Proofs.YtmlgajhhnojdjaaGreatDoor.FlwJ Go.Proofs.YtmlgajhhnojdjaaGreatDoor.FlwM Go.Proofs.YtmlgajhhnojdjaaGreatDoor.FlwO Go.Proofs.YtmlgajhhnojdjaaGreatDoor.FlwP Go.Proofs.YtmlgajhhnojdjaaGreatDoor.FlwQ Go.Proofs.YtmlgajhhnojdjaaGreatDoor.FlwS Go.Proofs.YtmlgajhhnojdjaaGreatDoor.FlwV Go.Proofs.YtmlgajhhnojdjaaGreatDoor.FlwY Go.Proofs.YtmlgajhhnojdjaaGreatDoor.FlwZ

def resR (m : RM) : Value := .agg #[.int .i64 ((m.out : Nat) : Int), .int .i64 m.value, .string (bs m.trace), .int .i64 m.count]
end Go.Proofs.YtmlgajhhnojdjaaGreatDoor.Ran
/- The document's own Run, walked: for texts of at most 2^20 letters. -/
namespace Go.Proofs.YtmlgajhhnojdjaaGreatDoor.Ran
open Go Go.RowKit Go.Proofs.YtmlgajhhnojdjaaGreatDoor.Spec Go.Proofs.YtmlgajhhnojdjaaGreatDoor.Aux Go.Proofs.YtmlgajhhnojdjaaGreatDoor.Own Go.Proofs.YtmlgajhhnojdjaaGreatDoor.Mac Go.Proofs.YtmlgajhhnojdjaaGreatDoor.Sim Go.Proofs.YtmlgajhhnojdjaaGreatDoor.RunA Go.Proofs.YtmlgajhhnojdjaaGreatDoor.RunB Go.Proofs.YtmlgajhhnojdjaaGreatDoor.RefM Go.Proofs.YtmlgajhhnojdjaaGreatDoor.RefZf Go.Proofs.YtmlgajhhnojdjaaGreatDoor.FlwZ Go.Proofs.YtmlgajhhnojdjaaGreatDoor.FlwZb

theorem mat_made (w : World) (a : Nat) (o : Bool) (r : Int) (vi : Value) : MAt w w.heap.size ⟨a, o, r, vi, []⟩ (w.alloc (.cells (machC (.pointer (some ⟨a, 0, none⟩)) (.bool o) (.int .i64 r) vi).toArray 95)) RM.start :=
  ⟨.slice none 0 0, .slice none 0 0, ⟨Nat.le_refl _, Array.getElem?_push_size, World.ownsRow_nil _ _ _ _, World.ownsRow_nil _ _ _ _, (Below.refl _ _).alloc (Nat.le_refl _) _, ⟨rfl, rfl, rfl, rfl, rfl⟩, fun e he => by cases he⟩⟩
set_option maxRecDepth 20000 in
theorem may_any (ad : Option Addr) (n c : Nat) (f m r : Int) (w : World) : Calls Tryz.prog 55 #[.slice ad n c, .int .i64 f, .int .i64 m, .int .i64 r] w fun e w' => e = .returned (.bool (decide (n ≤ 100 ∧ 0 ≤ f ∧ f ≤ m ∧ 0 ≤ r ∧ r ≤ 50))) ∧ w' = w := by
  go_enter Tryz.func55, Tryz.ntmps55
  by_cases h1 : n ≤ 100 <;> by_cases h2 : 0 ≤ f <;> by_cases h3 : f ≤ m <;> by_cases h4 : 0 ≤ r <;> by_cases h5 : r ≤ 50
  all_goals
    go_wp2 <;> (go_ret; simp [h1, h2, h3, h4, h5])
end Go.Proofs.YtmlgajhhnojdjaaGreatDoor.Ran
