/- The document's own Exec, walked: for texts of at most 2^20 letters. -/
import Derived.Test.YtmlgajhhnojdjaaGreatDoorSBQ
import Derived.Test.YtmlgajhhnojdjaaGreatDoorSBS
import Derived.Laws.CopyRow
import Derived.Laws.CopyOwn
import Derived.Laws.MakeOwn
import Derived.Deep.LoopGhost
import Derived.Deep.QuietTactic
import Derived.Test.YtmlgajhhnojdjaaGreatDoorSAU
namespace Go.Proofs.YtmlgajhhnojdjaaGreatDoor.Ran
open Go Go.RowKit Go.Proofs.YtmlgajhhnojdjaaGreatDoor.Spec Go.Proofs.YtmlgajhhnojdjaaGreatDoor.Aux Go.Proofs.YtmlgajhhnojdjaaGreatDoor.Own Go.Proofs.YtmlgajhhnojdjaaGreatDoor.Mac Go.Proofs.YtmlgajhhnojdjaaGreatDoor.Sim Go.Proofs.YtmlgajhhnojdjaaGreatDoor.Ex Go.Proofs.YtmlgajhhnojdjaaGreatDoor.RunA Go.Proofs.YtmlgajhhnojdjaaGreatDoor.RunB Go.Proofs.YtmlgajhhnojdjaaGreatDoor.RefM Go.Proofs.YtmlgajhhnojdjaaGreatDoor.RefZf Go.Proofs.YtmlgajhhnojdjaaGreatDoor.FlwZ Go.Proofs.YtmlgajhhnojdjaaGreatDoor.FlwZb

theorem mach_made3 (p ad : Option Addr) (l c : Nat) (r : Int) : ((Tryz.zeroCells95.setIfInBounds 0 (.pointer p)).setIfInBounds 150 (.int .i64 r)).setIfInBounds 152 (.slice ad l c) = (machC (.pointer p) (.bool false) (.int .i64 r) (.slice ad l c)).toArray := by kernel_rfl
theorem read_cases {text : B} {w w' : World} {e : Ending} (h : ReadPost text true w e w') : Below w.heap.size w w' ∧ ∃ v c k, e = .returned (.tuple #[v, .int .i64 c, .int .i64 k]) ∧ Hid ((∃ c' k' : Nat, 1 ≤ c' ∧ refRead text true = (none, c', k') ∧ c = c' ∧ k = k') ∨ (c = 0 ∧ k = 0 ∧ ∃ (p : RP) (a : Nat), v = .pointer (some ⟨a, 0, none⟩) ∧ refRead text true = (some p, 0, 0) ∧ ProgAt w' a p ∧ p.Ok)) := by
  obtain ⟨hb, v, rfl, h⟩ := h
  refine ⟨hb, v, _, _, rfl, ?_⟩
  rcases h with ⟨h1, rfl⟩ | ⟨p, a, h1, rfl, hok, vl, vt, vb, us, hI⟩
  · have e : refRead text true = (none, (refRead text true).2.1, (refRead text true).2.2) := by rw [← h1]
    exact .inl ⟨_, _, (refRead_bad e).1, e, rfl, rfl⟩
  · have e : refRead text true = (some p, (refRead text true).2.1, (refRead text true).2.2) := by rw [← h1]
    obtain ⟨-, hc, hk, -⟩ := refRead_good e
    rw [hc, hk] at e
    exact .inr ⟨by rw [hc]; rfl, by rw [hk]; rfl, p, a, rfl, e, hI.progAt hok.words, hok⟩
/-- the machine's run, of a raw program that was read -/
theorem mexec_ref {text : B} {p : RP} (hp : refRead text true = (some p, 0, 0)) {a : Nat} {w : World} (hP : ProgAt w a p) (hok : p.Ok) (vi : Value) (inp : List Int) (hf : FeedAt w vi inp) (hinp : ∀ n ∈ inp, isI64 n) (fuel room : Int) (hm : mayExec inp fuel room) (W : World) (hW : MAt w w.heap.size ⟨a, false, room, vi, []⟩ W RM.start) :
    Calls Tryz.prog 56 #[.pointer (some ⟨w.heap.size, 0, none⟩), .int .i64 fuel] W fun e w' => e = .returned (resR (runR ⟨a, false, room, vi, []⟩ p inp fuel.toNat (p.blocks.getD 0 0) RM.start)) ∧ Below w.heap.size w w' := by
  obtain ⟨hR, -⟩ := refRead_good hp
  obtain ⟨-, h0, h1, -⟩ := hm
  obtain ⟨n, rfl⟩ : ∃ n : Nat, fuel = n := ⟨fuel.toNat, by omega⟩
  have hC : Ctx w p ⟨a, false, room, vi, []⟩ := ⟨hP, hok, hR.pre.twelve⟩
  exact run_any (moves_bare hC hR rfl hf hinp) hC hR hW start_ok n (by omega)
set_option maxRecDepth 20000 in
set_option maxHeartbeats 4000000 in
theorem refExec_any (text : B) (vi : Value) (inp : List Int) (fuel room : Int) (w : World) (hf : FeedAt w vi inp) (hinp : ∀ n ∈ inp, isI64 n) (h : text.length ≤ 1048576) :
    Calls Tryz.prog 47 #[.string (bs text), vi, .int .i64 fuel, .int .i64 room] w fun e w' => (∃ v c k, Hid (RefEx text inp fuel room v c k) ∧ e = .returned (.tuple #[v, .int .i64 c, .int .i64 k])) ∧ Below w.heap.size w w' := by
  obtain ⟨w0, hw0⟩ : ∃ w0, w.alloc (.cells #[.int .i64 0, .int .i64 0, .string ⟨#[]⟩, .int .i64 0] 73) = w0 := ⟨_, rfl⟩
  have hb0 : Below w.heap.size w w0 := by rw [← hw0]; exact (Below.refl _ _).alloc (Nat.le_refl _) _
  have hs0 : w0.heap.size = w.heap.size + 1 := by rw [← hw0]; simp
  have hR0 : w0.heap[w.heap.size]? = some (.cells #[.int .i64 0, .int .i64 0, .string ⟨#[]⟩, .int .i64 0] 73 (0, 0)) := by rw [← hw0]; exact Array.getElem?_push_size
  have K := (RefM.read_any text true w0 (by omega)).mono (R' := fun e w' => Below w0.heap.size w0 w' ∧ ∃ v c k, e = .returned (.tuple #[v, .int .i64 c, .int .i64 k]) ∧ Hid ((∃ c' k' : Nat, 1 ≤ c' ∧ refRead text true = (none, c', k') ∧ c = c' ∧ k = k') ∨ (c = 0 ∧ k = 0 ∧ ∃ (p : RP) (a : Nat), v = .pointer (some ⟨a, 0, none⟩) ∧ refRead text true = (some p, 0, 0) ∧ ProgAt w' a p ∧ p.Ok))) fun e w' h => read_cases h
  go_enter Tryz.func47, Tryz.ntmps47
  go_upto_region 1 with fail
  try rw [hw0]
  clear hw0
  have HR : Hid (∀ W, Below w0.heap.size w0 W → W.heap[w.heap.size]? = some (.cells #[.int .i64 0, .int .i64 0, .string ⟨#[]⟩, .int .i64 0] 73 (0, 0))) := fun W hW => by rw [hW.block _ (by omega)]; exact hR0
  clear hR0
  go_upto_region 2 with (go_at_call 46; refine K.mono ?_; rintro e w1 ⟨hb1, v, c, k, rfl, HP⟩; have HB1 : Hid (Below w0.heap.size w0 w1) := hb1; clear hb1)
  rcases HP.out with ⟨c', k', hc, hrd, rfl, rfl⟩ | ⟨rfl, rfl, p, a, rfl, hread, hPA, hok⟩
  · have cb : ((c' : Int) == 0) = false := by rw [beq_eq_false_iff_ne]; omega
    have HC : Hid (1 ≤ c' ∧ refRead text true = (none, c', k')) := ⟨hc, hrd⟩
    clear hc hrd HP
    have hr1 := HR.out w1 HB1.out
    obtain ⟨d0, d1, d2, d3, f0, f1, f2, f3⟩ := resM_facts hr1
    obtain ⟨e4, hB4⟩ := resM_put hr1 (.int .i64 0) (.int .i64 0) (.string ⟨#[]⟩) (.int .i64 0)
    go_wp2
    refine bodyPost_ret (results_cell_two Tryz.results47 _ _ _ w.heap.size [.int .i64 0, .int .i64 0, .string ⟨#[]⟩, .int .i64 0] _ rfl (fun j u hu => by rw [Nat.zero_add, cell_of_heap e4]; simpa using hu) Tryz.underlying73 rfl info_res) rfl ?_
    refine ⟨⟨_, _, _, .inl ⟨c', k', HC.out.1, HC.out.2, rfl, rfl, rfl⟩, rfl⟩, (hb0.trans (HB1.out.mono (by omega))).trans hB4⟩
  · clear HP
    have hf1 : FeedAt w1 vi inp := feed_below (feed_below hf hb0 (Nat.le_refl _)) HB1.out (Nat.le_refl _)
    obtain ⟨ad, cap, rfl, -⟩ := id hf
    have KM := fun W => may_any ad inp.length cap fuel 200000 room W
    by_cases hm : mayExec inp fuel room
    · have hd : decide (inp.length ≤ 100 ∧ 0 ≤ fuel ∧ fuel ≤ 200000 ∧ 0 ≤ room ∧ room ≤ 50) = true := decide_eq_true hm
      simp only [hd] at KM
      have hMS := mat_made w1 a false room (.slice ad inp.length cap)
      have KR := mexec_ref hread hPA hok (.slice ad inp.length cap) inp hf1 hinp fuel room hm _ hMS
      rw [← mach_made3] at KR
      have HRD : Hid (refRead text true = (some p, 0, 0)) := hread
      have HM : Hid (mayExec inp fuel room) := hm
      clear hm hd hf hf1 hinp hPA K hok hread hMS
      go_wp2_with (first
        | (go_at_call 55; refine (KM _).mono ?_; rintro e w2 ⟨rfl, rfl⟩)
        | (go_at_call 56; refine KR.mono ?_; rintro e w3 ⟨rfl, hb3⟩; have hr3 := HR.out w3 (HB1.out.trans (hb3.mono HB1.out.size)); obtain ⟨d0, d1, d2, d3, f0, f1, f2, f3⟩ := resM_facts hr3; obtain ⟨e4, hB4⟩ := resM_put hr3 (.int .i64 (((runR ⟨a, false, room, .slice ad inp.length cap, []⟩ p inp fuel.toNat (p.blocks.getD 0 0) RM.start).out : Nat) : Int)) (.int .i64 (runR ⟨a, false, room, .slice ad inp.length cap, []⟩ p inp fuel.toNat (p.blocks.getD 0 0) RM.start).value) (.string (bs (runR ⟨a, false, room, .slice ad inp.length cap, []⟩ p inp fuel.toNat (p.blocks.getD 0 0) RM.start).trace)) (.int .i64 (runR ⟨a, false, room, .slice ad inp.length cap, []⟩ p inp fuel.toNat (p.blocks.getD 0 0) RM.start).count); have HRR : Hid (∃ (p' : RP) (f : Fx), refRead text true = (some p', 0, 0) ∧ f.owns = false ∧ f.room = room ∧ resR (runR ⟨a, false, room, .slice ad inp.length cap, []⟩ p inp fuel.toNat (p.blocks.getD 0 0) RM.start) = resR (runR f p' inp fuel.toNat (p'.blocks.getD 0 0) RM.start)) := ⟨p, _, HRD.out, rfl, rfl, rfl⟩; generalize runR ⟨a, false, room, .slice ad inp.length cap, []⟩ p inp fuel.toNat (p.blocks.getD 0 0) RM.start = R at *; simp only [resR]))
      refine bodyPost_ret (results_cell_two Tryz.results47 _ _ _ w.heap.size [.int .i64 ((R.out : Nat) : Int), .int .i64 R.value, .string (bs R.trace), .int .i64 R.count] _ rfl (fun j u hu => by rw [Nat.zero_add, cell_of_heap e4]; simpa using hu) Tryz.underlying73 rfl info_res) rfl ?_
      obtain ⟨p', f, g1, g2, g3, g4⟩ := HRR.out
      refine ⟨⟨_, _, _, .inr (.inr ⟨HM.out, rfl, rfl, p', f, g1, g2, g3, g4⟩), rfl⟩, ((hb0.trans (HB1.out.mono (by omega))).trans (hb3.mono (by have := HB1.out.size; omega))).trans hB4⟩
    · have hd : decide (inp.length ≤ 100 ∧ 0 ≤ fuel ∧ fuel ≤ 200000 ∧ 0 ≤ room ∧ room ≤ 50) = false := decide_eq_false hm
      simp only [hd] at KM
      have HM : Hid (¬ mayExec inp fuel room) := hm
      have HRD : Hid (refRead text true = (some p, 0, 0)) := hread
      clear hm hd hf hf1 hinp hPA K hok hread
      have hr1 := HR.out w1 HB1.out
      obtain ⟨d0, d1, d2, d3, f0, f1, f2, f3⟩ := resM_facts hr1
      obtain ⟨e4, hB4⟩ := resM_put hr1 (.int .i64 0) (.int .i64 0) (.string ⟨#[]⟩) (.int .i64 0)
      go_wp2_with (go_at_call 55; refine (KM _).mono ?_; rintro e w2 ⟨rfl, rfl⟩)
      refine bodyPost_ret (results_cell_two Tryz.results47 _ _ _ w.heap.size [.int .i64 0, .int .i64 0, .string ⟨#[]⟩, .int .i64 0] _ rfl (fun j u hu => by rw [Nat.zero_add, cell_of_heap e4]; simpa using hu) Tryz.underlying73 rfl info_res) rfl ?_
      refine ⟨⟨_, _, _, .inr (.inl ⟨⟨p, HRD.out⟩, HM.out, rfl, rfl, rfl⟩), rfl⟩, (hb0.trans (HB1.out.mono (by omega))).trans hB4⟩
end Go.Proofs.YtmlgajhhnojdjaaGreatDoor.Ran
/- The law's own small functions, walked: lent, still, same, out. -/
namespace Go.Proofs.YtmlgajhhnojdjaaGreatDoor.Ran
open Go Go.RowKit Go.Proofs.YtmlgajhhnojdjaaGreatDoor.Spec Go.Proofs.YtmlgajhhnojdjaaGreatDoor.Aux Go.Proofs.YtmlgajhhnojdjaaGreatDoor.Own Go.Proofs.YtmlgajhhnojdjaaGreatDoor.RunB Go.Proofs.YtmlgajhhnojdjaaGreatDoor.PrjJ

set_option maxRecDepth 20000 in
theorem out_any (n : Int) (w : World) : Calls Tryz.prog 57 #[.int .i64 n] w fun e w' => e = .returned (.int .i64 n) ∧ w' = w := by
  go_enter Tryz.func57, Tryz.ntmps57
  go_wp2
  go_ret
  exact ⟨rfl, rfl⟩
set_option maxRecDepth 20000 in
theorem same_any (o x : Int) (t : B) (l : Int) (w : World) : Calls Tryz.prog 41 #[.agg #[.int .i64 o, .int .i64 x, .string (bs t), .int .i64 l], .agg #[.int .i64 o, .int .i64 x, .string (bs t), .int .i64 l]] w fun e w' => e = .returned (.bool true) ∧ Below w.heap.size w w' := by
  have KO := fun W => out_any o W
  have b1 : (o == o) = true := by simp
  have b2 : (x == x) = true := by simp
  have b3 : (l == l) = true := by simp
  go_enter Tryz.func41, Tryz.ntmps41
  go_wp2_with (go_at_call 57; refine (KO _).mono ?_; rintro e w1 ⟨rfl, rfl⟩)
  go_ret
  exact ⟨rfl, ((Below.refl _ _).alloc (Nat.le_refl _) _).alloc (by simp) _⟩
theorem nil_no (W : World) (a : Addr) (n c : Nat) : (binOp .eql 42 (.slice (some a) n c) (.slice none 0 0)).run Tryz.prog W = .ok (.bool false) W := by
  have h : ∀ d : Nat, (Op.equalIn (d + 1) 42 (.slice (some a) n c) (.slice none 0 0)).run Tryz.prog W = .ok false W := fun d => by
    simp [Op.equalIn, run_underlying Tryz.underlying42]
  simp only [binOp]
  simp [Op.equal, Op.maxDepth, h 9999]
theorem nil_yes (W : World) (n c : Nat) : (binOp .eql 42 (.slice none n c) (.slice none 0 0)).run Tryz.prog W = .ok (.bool true) W := by
  have h : ∀ d : Nat, (Op.equalIn (d + 1) 42 (.slice none n c) (.slice none 0 0)).run Tryz.prog W = .ok true W := fun d => by
    simp [Op.equalIn, run_underlying Tryz.underlying42]
  simp only [binOp]
  simp [Op.equal, Op.maxDepth, h 9999]
/-- numbers as a caller hands them in, with two more behind them -/
def lentC (inp : List Int) : List Value := inp.map (Value.int .i64) ++ [.int .i64 (-99), .int .i64 (-99)]
def LentAt (w : World) (v : Value) (inp : List Int) : Prop := (v = .slice none 0 0 ∧ inp = []) ∨ ∃ b, v = .slice (some ⟨b, 0, none⟩) (inp.length + 2) (inp.length + 2) ∧ w.heap[b]? = some (.cells (lentC inp).toArray 2 (0, 0))
theorem LentAt.below {w w' : World} {v : Value} {inp : List Int} (h : LentAt w v inp) (hb : Below w.heap.size w w') : LentAt w' v inp := by
  rcases h with h | ⟨b, h1, h2⟩
  · exact .inl h
  · exact .inr ⟨b, h1, by rw [hb.block _ (lt_of_heap h2)]; exact h2⟩
theorem lent_get {inp : List Int} {j : Nat} (hj : j < inp.length) : (lentC inp).toArray[j]? = some (.int .i64 (inp.getD j 0)) := by
  rw [List.getElem?_toArray, lentC, List.getElem?_append_left (by simpa using hj), List.getElem?_map, List.getElem?_eq_getElem hj, List.getD_eq_getElem?_getD, List.getElem?_eq_getElem hj]; rfl
theorem lent_end {inp : List Int} {j : Nat} (hj : inp.length ≤ j) (hj2 : j < inp.length + 2) : (lentC inp).toArray[j]? = some (.int .i64 (-99)) := by
  rw [List.getElem?_toArray, lentC, List.getElem?_append_right (by simpa using hj), List.length_map]
  have : j - inp.length = 0 ∨ j - inp.length = 1 := by omega
  rcases this with e | e <;> rw [e] <;> rfl
theorem lent_feed {w : World} {b : Nat} {inp : List Int} (h : w.heap[b]? = some (.cells (lentC inp).toArray 2 (0, 0))) (hl : inp.length ≤ 1048576) : FeedAt w (.slice (some ⟨b, 0, none⟩) inp.length (inp.length + 2)) inp :=
  ⟨some ⟨b, 0, none⟩, inp.length + 2, rfl, by omega, by unfold maxLen; omega, fun j hj => ⟨b, 0, rfl, lt_of_heap h, by rw [Nat.zero_add, cell_of_heap h, lent_get hj]⟩⟩
theorem info_i64 : (Tryz.prog.info? 2).map (fun i => (i.zero.map Value.cells, i.size, i.bytes)) = some (some #[.int .i64 0], 1, 8) := by kernel_rfl
theorem size_i64 : (Tryz.prog.info? 2).map (·.size) = some 1 := by kernel_rfl
theorem run_make_i64 (n : Nat) (hn : n ≤ 1048578) (w : World) : (Instr.makeSlice 42 (.int .i64 (n : Int)) (.int .i64 (n : Int))).run Tryz.prog w = .ok (.slice (some ⟨w.heap.size, 0, none⟩) n n) (w.alloc (.cells (madeCells #[.int .i64 0] (n * 1)) 2)) := by
  obtain ⟨i, hi, hx⟩ := Option.map_eq_some_iff.1 info_i64
  simp only [Prod.mk.injEq] at hx
  obtain ⟨hz, hs, hb⟩ := hx
  obtain ⟨z, hz, hc⟩ := Option.map_eq_some_iff.1 hz
  have := run_make (P := Tryz.prog) w 42 2 i z Tryz.underlying42 hi hz .i64 .i64 n n (by omega) (Int.le_refl _) (by rw [hb]; omega) (by omega)
  rw [hs, hc] at this
  simpa using this
set_option maxRecDepth 20000 in
set_option maxHeartbeats 1000000 in
theorem lent_nil (c : Nat) (w : World) : Calls Tryz.prog 39 #[.slice none 0 c] w fun e w' => e = .returned (.slice none 0 0) ∧ w' = w := by
  have hnil := nil_yes w 0 c
  go_enter Tryz.func39, Tryz.ntmps39
  go_wp2
  go_ret
  exact ⟨rfl, rfl⟩
theorem lent_row (inp : List Int) (u v : Value) : (((inp.map (Value.int .i64) ++ [u, v]).toArray.setIfInBounds inp.length (.int .i64 (-99))).setIfInBounds (inp.length + 1) (.int .i64 (-99))) = (lentC inp).toArray := by
  rw [List.setIfInBounds_toArray, List.setIfInBounds_toArray]
  congr 1
  rw [List.set_append_right _ _ (by simp), List.set_append_right _ _ (by simp)]
  simp [lentC]
theorem two_of {l : List Value} (h : l.length = 2) : ∃ u v, l = [u, v] := by
  match l, h with
  | [u, v], _ => exact ⟨u, v, rfl⟩
set_option maxRecDepth 20000 in
set_option maxHeartbeats 1000000 in
theorem lent_some (a : Addr) (c : Nat) (inp : List Int) (w : World) (hf : FeedAt w (.slice (some a) inp.length c) inp) (hl : inp.length ≤ 1048576) : Calls Tryz.prog 39 #[.slice (some a) inp.length c] w fun e w' => (∃ b, e = .returned (.slice (some ⟨b, 0, none⟩) (inp.length + 2) (inp.length + 2)) ∧ w'.heap[b]? = some (.cells (lentC inp).toArray 2 (0, 0))) ∧ Below w.heap.size w w' := by
  have hmk := run_make_i64 (inp.length + 2) (by omega) w
  have hnil := nil_no w a inp.length c
  obtain ⟨W1, hW1⟩ : ∃ W1, w.alloc (.cells (madeCells #[.int .i64 0] ((inp.length + 2) * 1)) 2) = W1 := ⟨_, rfl⟩
  have hb1 : Below w.heap.size w W1 := by rw [← hW1]; exact (Below.refl _ _).alloc (Nat.le_refl _) _
  have hg1 : W1.heap[w.heap.size]? = some (.cells (madeCells #[.int .i64 0] ((inp.length + 2) * 1)) 2 (0, 0)) := by rw [← hW1]; exact Array.getElem?_push_size
  rw [hW1, show ((inp.length + 2 : Nat) : Int) = (inp.length : Int) + 2 by omega] at hmk
  obtain ⟨ad, c', e, h1, h2, h3⟩ := hf
  simp only [Value.slice.injEq, true_and] at e
  obtain ⟨rfl, rfl⟩ := e
  have hcp := run_copy_row (P := Tryz.prog) W1 42 42 3 2 w.heap.size 0 (inp.length + 2) (inp.length + 2) a inp.length c _ 2 (inp.map (Value.int .i64)) Tryz.underlying42 size_i64 hg1 (by rw [List.length_map]; show _ = min _ _; omega) (fun j v hj => by
      have hjl : j < inp.length := by simpa using (List.getElem?_eq_some_iff.1 hj).1
      obtain ⟨g, f, e, hg, hc⟩ := h3 j hjl
      simp only [Option.some.injEq] at e
      subst e
      have hadd : (⟨g, f, none⟩ : Addr).add j = ⟨g, f + j, none⟩ := by unfold Addr.add; split <;> simp_all
      rw [hadd, hb1.cell (p := ⟨g, f + j, none⟩) hg, hc]
      rw [List.getElem?_map, List.getElem?_eq_getElem hjl] at hj
      rw [← hj, List.getD_eq_getElem?_getD, List.getElem?_eq_getElem hjl]; rfl) (by rw [List.length_map, size_madeCells]; omega) (fun v hv => by
      obtain ⟨n, -, rfl⟩ := List.mem_map.1 hv; rfl)
  obtain ⟨u, v, hrest⟩ := two_of (l := (madeCells #[.int .i64 0] ((inp.length + 2) * 1)).toList.drop (0 + (inp.map (Value.int .i64)).length)) (by rw [List.length_drop, Array.length_toList, size_madeCells, List.length_map]; omega)
  rw [hrest, List.take_zero, List.nil_append] at hcp
  obtain ⟨W2, hW2⟩ : ∃ W2, W1.setRow w.heap.size (inp.map (Value.int .i64) ++ [u, v]).toArray = W2 := ⟨_, rfl⟩
  have hg2 : W2.heap[w.heap.size]? = some (.cells (inp.map (Value.int .i64) ++ [u, v]).toArray 2 (0, 0)) := by rw [← hW2]; exact setRow_heap _ _ _ _ _ _ hg1
  have hb2 : Below w.heap.size w W2 := by rw [← hW2]; exact below_setRow hb1 (Nat.le_refl _) _
  rw [hW2, List.length_map] at hcp
  have hg3 := Aux.heap_setCell_same hg2 inp.length (.int .i64 (-99))
  have hg4 := Aux.heap_setCell_same hg3 (inp.length + 1) (.int .i64 (-99))
  rw [lent_row] at hg4
  have c1 : W2.cell? ⟨w.heap.size, inp.length, none⟩ = some u := by rw [cell_of_heap hg2, List.getElem?_toArray, List.getElem?_append_right (by simp)]; simp
  have c2 : W2.cell? ⟨w.heap.size, inp.length + 1, none⟩ = some v := by rw [cell_of_heap hg2, List.getElem?_toArray, List.getElem?_append_right (by simp)]; simp
  have f1 := frozen_of_heap hg2 inp.length
  have f2 := frozen_of_heap hg2 (inp.length + 1)
  have HB : Hid (Below w.heap.size w ((W2.setCell ⟨w.heap.size, inp.length, none⟩ (.int .i64 (-99))).setCell ⟨w.heap.size, inp.length + 1, none⟩ (.int .i64 (-99)))) := (hb2.setCell (p := ⟨w.heap.size, inp.length, none⟩) (Nat.le_refl _) _).setCell (p := ⟨w.heap.size, inp.length + 1, none⟩) (Nat.le_refl _) _
  have HG : Hid (_ = _) := hg4
  clear h3 hg1 hg2 hg3 hg4 hb1 hb2 hW1 hW2 hrest
  go_enter Tryz.func39, Tryz.ntmps39
  go_wp2
  go_ret
  exact ⟨⟨_, rfl, HG.out⟩, HB.out⟩
set_option maxRecDepth 20000 in
set_option maxHeartbeats 1000000 in
theorem still_any (v vi : Value) (inp : List Int) (w : World) (hf : FeedAt w vi inp) (hx : LentAt w v inp) (hl : inp.length ≤ 1048576) : Calls Tryz.prog 42 #[v, vi] w fun e w' => e = .returned (.bool true) ∧ Below w.heap.size w w' := by
  obtain ⟨ad, c, rfl, h1, h2, h3⟩ := hf
  rcases hx with ⟨rfl, rfl⟩ | ⟨b, rfl, hb⟩
  · go_enter Tryz.func42, Tryz.ntmps42
    go_wp2
    go_loopw [5] (fun v5 wr => v5 = .int .i64 0 ∧ wr = w) (fun _ _ => 0)
    case atStart => exact ⟨rfl, rfl⟩
    case round =>
      obtain ⟨rfl, rfl⟩ := hrel
      go_wp2
      go_ret
      exact ⟨rfl, Below.refl _ _⟩
  · have HX : Hid (∀ W, Below w.heap.size w W → ∀ k, k < inp.length + 2 → W.cell? ⟨b, k, none⟩ = some (.int .i64 (if k < inp.length then inp.getD k 0 else -99))) := fun W hW k hk => by
      rw [cell_of_heap ((hW.block b (lt_of_heap hb)).trans hb)]
      split
      · rename_i h; exact lent_get h
      · exact lent_end (by omega) hk
    have HF : Hid (∀ W, Below w.heap.size w W → ∀ k, k < inp.length → ∃ g f, ad = some ⟨g, f, none⟩ ∧ W.cell? ⟨g, f + k, none⟩ = some (.int .i64 (inp.getD k 0))) := fun W hW k hk => by
      obtain ⟨g, f, e, hg, hc⟩ := h3 k hk
      exact ⟨g, f, e, (hW.cell (p := ⟨g, f + k, none⟩) hg).trans hc⟩
    clear h3 hb
    generalize hN : inp.length = N at *
    go_enter Tryz.func42, Tryz.ntmps42
    go_wp2
    go_loopw [5] (fun v5 wr => ∃ k : Nat, k ≤ N + 2 ∧ v5 = .int .i64 ((k : Nat) : Int) ∧ Hid (Below w.heap.size w wr)) (fun v _ => N + 2 - (intOf v).toNat)
    case atStart => exact ⟨0, Nat.zero_le _, rfl, Below.refl _ _⟩
    case round =>
      obtain ⟨k, hk, rfl, HB⟩ := hrel
      by_cases hk1 : k < N
      · have x1 := HX.out _ HB.out k (by omega)
        rw [if_pos hk1] at x1
        obtain ⟨g, f, rfl, y1⟩ := HF.out _ HB.out k hk1
        have i1 : (k : Int) < (N : Int) + 2 := by omega
        have i2 : (k : Int) < N := by omega
        have i3 : ¬ (N : Int) ≤ k := by omega
        generalize inp.getD k 0 = z at *
        have bz : (z == z) = true := by simp
        clear HX HF
        go_upto_region 4 with fail
        go_quiet (fail)
        go_wp2
        exact ⟨⟨k + 1, by omega, by go_num, below_drewN HB.out _⟩, by simp [intOf]; omega⟩
      · by_cases hk2 : k < N + 2
        · have x1 := HX.out _ HB.out k (by omega)
          rw [if_neg hk1] at x1
          have i1 : (k : Int) < (N : Int) + 2 := by omega
          have i2 : ¬ (k : Int) < N := by omega
          have i3 : (N : Int) ≤ k := by omega
          clear HX HF
          go_upto_region 4 with fail
          go_quiet (fail)
          go_wp2
          exact ⟨⟨k + 1, by omega, by go_num, below_drewN HB.out _⟩, by simp [intOf]; omega⟩
        · have i1 : ¬ (k : Int) < (N : Int) + 2 := by omega
          go_wp2
          go_ret
          exact ⟨rfl, HB.out⟩
end Go.Proofs.YtmlgajhhnojdjaaGreatDoor.Ran
/- The law Ran, walked: Run is as the document says. For texts and inputs of at most 2^20 letters, in every world that holds the tables. -/
namespace Go.Proofs.YtmlgajhhnojdjaaGreatDoor.Ran
open Go Go.RowKit Go.Proofs.YtmlgajhhnojdjaaGreatDoor.Spec Go.Proofs.YtmlgajhhnojdjaaGreatDoor.Aux Go.Proofs.YtmlgajhhnojdjaaGreatDoor.Own Go.Proofs.YtmlgajhhnojdjaaGreatDoor.RunA Go.Proofs.YtmlgajhhnojdjaaGreatDoor.RunB Go.Proofs.YtmlgajhhnojdjaaGreatDoor.PrjG Go.Proofs.YtmlgajhhnojdjaaGreatDoor.PrjX Go.Proofs.YtmlgajhhnojdjaaGreatDoor.MadE Go.Proofs.YtmlgajhhnojdjaaGreatDoor.Mac Go.Proofs.YtmlgajhhnojdjaaGreatDoor.FlwZa

theorem agg_inj {o x l o' x' l' : Int} {t t' : B} (h : Value.agg #[.int .i64 o, .int .i64 x, .string (bs t), .int .i64 l] = .agg #[.int .i64 o', .int .i64 x', .string (bs t'), .int .i64 l']) : o = o' ∧ x = x' ∧ t = t' ∧ l = l' := by
  simp only [Value.agg.injEq, Array.mk.injEq, List.cons.injEq, Value.int.injEq, Value.string.injEq, true_and, and_true] at h
  obtain ⟨h1, h2, h3, h4⟩ := h
  have := congrArg ByteArray.toList h3
  rw [toList_bs, toList_bs] at this
  exact ⟨h1, h2, this, h4⟩
end Go.Proofs.YtmlgajhhnojdjaaGreatDoor.Ran
