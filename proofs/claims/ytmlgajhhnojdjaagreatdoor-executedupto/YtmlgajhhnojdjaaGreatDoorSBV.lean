/- Proved: the law Executed (Exec is as the document says: of another raw program, of other inputs, with other fuel and room, too, and again) answers true and leaves what came in as it was. Conditions: what comes in is of bulk at most 2^20; the listed package variables hold what the program's text lays. -/
import Derived.Test.YtmlgajhhnojdjaaGreatDoorCards
import Derived.Test.YtmlgajhhnojdjaaGreatDoorTie
import Derived.Test.YtmlgajhhnojdjaaGreatDoorSBU
import Derived.OpenShut
import Derived.Carry
import Derived.Deep.Slices
import Derived.Deep.DeepHandedRow
import Derived.Deep.DeepWitnessRowRef
namespace Go.Proofs.YtmlgajhhnojdjaaGreatDoor.executedCard
open Go.ChangeShapes Go.WideShapes Go.ChangeAt Go.RowKit
open Go.ChangeMaps (open_string shut_string)

theorem own : ownKnob Tryz.prog.godebug = none := by kernel_rfl
theorem laidOut : laidOutB Tryz.prog = true := by kernel_rfl
theorem lit_of (s : ByteArray) : s = Spec.bs s.data.toList := by simp [Spec.bs]
theorem short {H : Type} {s u : ByteArray} {d e : DataW H} {n2 n3 n6 n7 : Int} (hk : Rows.uptoSmall H [.lit (.string s.data.toList), d, .lit (.int .i64 n2), .lit (.int .i64 n3), .lit (.string u.data.toList), e, .lit (.int .i64 n6), .lit (.int .i64 n7)] = true) : s.data.toList.length ≤ 1048576 ∧ u.data.toList.length ≤ 1048576 ∧ Rows.uptoBulk d ≤ 1048576 ∧ Rows.uptoBulk e ≤ 1048576 := by
  have h : Rows.uptoBulkAll (H := H) [.lit (.string s.data.toList), d, .lit (.int .i64 n2), .lit (.int .i64 n3), .lit (.string u.data.toList), e, .lit (.int .i64 n6), .lit (.int .i64 n7)] ≤ 1048576 := of_decide_eq_true hk
  simp only [Rows.uptoBulkAll, Rows.uptoBulk] at h
  omega
section
variable {H : Type} {enc : TypeId × Value → H} {P : Program} {w : World} {base : Nat} {spare : Nat → Bool} {held : Bool}
theorem trodAll_eight {t0 t1 t2 t3 t4 t5 t6 t7 : TypeId} {args : Array Value} {ds : List (DataW H)} {ps : List MemPlace} (h : DataW.TrodAll enc P w base spare held [t0, t1, t2, t3, t4, t5, t6, t7] args.toList ds ps) :
    ∃ v0 v1 v2 v3 v4 v5 v6 v7 d0 d1 d2 d3 d4 d5 d6 d7 p0 p1 p2 p3 p4 p5 p6 p7, args = #[v0, v1, v2, v3, v4, v5, v6, v7] ∧ ds = [d0, d1, d2, d3, d4, d5, d6, d7] ∧ ps = p0 ++ (p1 ++ (p2 ++ (p3 ++ (p4 ++ (p5 ++ (p6 ++ p7)))))) ∧ DataW.Trod enc P w base spare held t0 v0 d0 p0 ∧ DataW.Trod enc P w base spare held t1 v1 d1 p1 ∧ DataW.Trod enc P w base spare held t2 v2 d2 p2 ∧ DataW.Trod enc P w base spare held t3 v3 d3 p3 ∧
      DataW.Trod enc P w base spare held t4 v4 d4 p4 ∧ DataW.Trod enc P w base spare held t5 v5 d5 p5 ∧ DataW.Trod enc P w base spare held t6 v6 d6 p6 ∧ DataW.Trod enc P w base spare held t7 v7 d7 p7 := by
  obtain ⟨v0, r0, d0, e0, p0, q0, hargs, rfl, rfl, h0, hr⟩ := trodAll_cons h
  obtain ⟨v1, r1, d1, e1, p1, q1, rfl, rfl, rfl, h1, hr⟩ := trodAll_cons hr
  obtain ⟨v2, r2, d2, e2, p2, q2, rfl, rfl, rfl, h2, hr⟩ := trodAll_cons hr
  obtain ⟨v3, r3, d3, e3, p3, q3, rfl, rfl, rfl, h3, hr⟩ := trodAll_cons hr
  obtain ⟨v4, r4, d4, e4, p4, q4, rfl, rfl, rfl, h4, hr⟩ := trodAll_cons hr
  obtain ⟨v5, r5, d5, e5, p5, q5, rfl, rfl, rfl, h5, hr⟩ := trodAll_cons hr
  obtain ⟨v6, r6, d6, e6, p6, q6, rfl, rfl, rfl, h6, hr⟩ := trodAll_cons hr
  obtain ⟨v7, r7, d7, e7, p7, q7, rfl, rfl, rfl, h7, hr⟩ := trodAll_cons hr
  obtain ⟨rfl, rfl, rfl⟩ := trodAll_nil hr
  exact ⟨v0, v1, v2, v3, v4, v5, v6, v7, d0, d1, d2, d3, d4, d5, d6, d7, p0, p1, p2, p3, p4, p5, p6, p7, by cases args; simp_all, rfl, by simp, h0, h1, h2, h3, h4, h5, h6, h7⟩
theorem trodAll_mk8 {t0 t1 t2 t3 t4 t5 t6 t7 : TypeId} {v0 v1 v2 v3 v4 v5 v6 v7 : Value} {d0 d1 d2 d3 d4 d5 d6 d7 : DataW H} {p0 p1 p2 p3 p4 p5 p6 p7 : List MemPlace} (h0 : DataW.Trod enc P w base spare held t0 v0 d0 p0) (h1 : DataW.Trod enc P w base spare held t1 v1 d1 p1) (h2 : DataW.Trod enc P w base spare held t2 v2 d2 p2)
    (h3 : DataW.Trod enc P w base spare held t3 v3 d3 p3) (h4 : DataW.Trod enc P w base spare held t4 v4 d4 p4) (h5 : DataW.Trod enc P w base spare held t5 v5 d5 p5) (h6 : DataW.Trod enc P w base spare held t6 v6 d6 p6) (h7 : DataW.Trod enc P w base spare held t7 v7 d7 p7) :
    DataW.TrodAll enc P w base spare held [t0, t1, t2, t3, t4, t5, t6, t7] [v0, v1, v2, v3, v4, v5, v6, v7] [d0, d1, d2, d3, d4, d5, d6, d7] (p0 ++ (p1 ++ (p2 ++ (p3 ++ (p4 ++ (p5 ++ (p6 ++ p7))))))) :=
  trodAll_cons_mk h0 (trodAll_cons_mk h1 (trodAll_cons_mk h2 (trodAll_cons_mk h3 (trodAll_mk4 h4 h5 h6 h7))))
end
set_option maxRecDepth 100000 in
theorem contract (H : Type) (enc : TypeId × Value → H) (W : World) (base : Nat) (args : Array Value) (ds gs : List (DataW H)) (before : List MemPlace)
    (hval : ∀ (j : Nat) t v, Tryz.f10.params[j]? = some t → args[j]? = some v → Value.okWide Tryz.prog W .any base t v)
    (hW : DataW.Whole enc Tryz.prog Tryz.f10.params.toList Rows.executedSpec.vars false W args.toList ds gs before) (hk : Rows.uptoSmall H (ds ++ gs) = true) (hL : laidMetH Tryz.prog Rows.executedUptoRow.laid W) (hsh : W.ShapedOpen Tryz.prog) :
    Calls Tryz.prog 10 args W fun e W' => ∃ v, e = .returned v ∧ Rows.executedSpec.post enc Tryz.prog Tryz.f10 false true false false W args v W' := by
  have hM := PrjY.met_of (by kernel_rfl) hL
  have E := PrjY.env_of (laid := Rows.executedUptoRow.laid) hM hsh (by simp [Rows.executedUptoRow]) (by simp [Rows.executedUptoRow]) (by simp [Rows.executedUptoRow]) (by simp [Rows.executedUptoRow])
  have hp := PrjY.pow_of (laid := Rows.executedUptoRow.laid) hM (by simp [Rows.executedUptoRow])
  have hW' := hW
  obtain ⟨p, q, hA0, hV, rfl, hfz, hnd⟩ := hW
  have hA : DataW.TrodAll enc Tryz.prog W 0 (fun _ => true) true Tryz.f10.params.toList args.toList ds p := hA0
  rw [Tryz.params10] at hA
  have hv0 := fun v (h : args[0]? = some v) => hval 0 9 v (by rw [Tryz.params10]; rfl) h
  have hv1 := fun v (h : args[1]? = some v) => hval 1 42 v (by rw [Tryz.params10]; rfl) h
  have hv2 := fun v (h : args[2]? = some v) => hval 2 3 v (by rw [Tryz.params10]; rfl) h
  have hv3 := fun v (h : args[3]? = some v) => hval 3 3 v (by rw [Tryz.params10]; rfl) h
  have hv4 := fun v (h : args[4]? = some v) => hval 4 9 v (by rw [Tryz.params10]; rfl) h
  have hv5 := fun v (h : args[5]? = some v) => hval 5 42 v (by rw [Tryz.params10]; rfl) h
  have hv6 := fun v (h : args[6]? = some v) => hval 6 3 v (by rw [Tryz.params10]; rfl) h
  have hv7 := fun v (h : args[7]? = some v) => hval 7 3 v (by rw [Tryz.params10]; rfl) h
  clear hval
  obtain ⟨v0, v1, v2, v3, v4, v5, v6, v7, d0, d1, d2, d3, d4, d5, d6, d7, p0, p1, p2, p3, p4, p5, p6, p7, rfl, rfl, rfl, h0, h1, h2, h3, h4, h5, h6, h7⟩ := trodAll_eight hA
  obtain ⟨rfl, rfl⟩ := trodVars_none hV
  obtain ⟨s, rfl, rfl, rfl, ms⟩ := open_string Tryz.underlying9 (hv0 v0 rfl) h0
  obtain ⟨u, rfl, rfl, rfl, mu⟩ := open_string Tryz.underlying9 (hv4 v4 rfl) h4
  obtain ⟨a1, l1, c1, rfl⟩ := okWide_slice Tryz.underlying42 (hv1 v1 rfl)
  obtain ⟨a5, l5, c5, rfl⟩ := okWide_slice Tryz.underlying42 (hv5 v5 rfl)
  obtain ⟨n2, rfl, rfl, rfl, w2⟩ := open_int Tryz.underlying3 (hv2 v2 rfl) h2
  obtain ⟨n3, rfl, rfl, rfl, w3⟩ := open_int Tryz.underlying3 (hv3 v3 rfl) h3
  obtain ⟨n6, rfl, rfl, rfl, w6⟩ := open_int Tryz.underlying3 (hv6 v6 rfl) h6
  obtain ⟨n7, rfl, rfl, rfl, w7⟩ := open_int Tryz.underlying3 (hv7 v7 rfl) h7
  clear hA0
  have hlt : ∀ x, x ∈ p1 ∨ x ∈ p5 → x.block < W.heap.size := fun x hx => by simpa using hW'.lt x (by simpa using hx)
  have k1 : ∀ W', Below W.heap.size W W' → DataW.Trod enc Tryz.prog W' 0 (fun b => decide (b < W.heap.size)) true 42 (.slice a1 l1 c1) d1 p1 := fun W' hn => Below.trod laidOut (by kernel_rfl) (of_decide_eq_true (by kernel_rfl)) h1 hn (fun x hx => hlt x (.inl hx))
  have k5 : ∀ W', Below W.heap.size W W' → DataW.Trod enc Tryz.prog W' 0 (fun b => decide (b < W.heap.size)) true 42 (.slice a5 l5 c5) d5 p5 := fun W' hn => Below.trod laidOut (by kernel_rfl) (of_decide_eq_true (by kernel_rfl)) h5 hn (fun x hx => hlt x (.inr hx))
  obtain ⟨f1, hf1⟩ := h1
  obtain ⟨inp, hfeed, hinp⟩ := PrjY.feed_open hf1
  have hb1 := PrjY.feed_bulk hf1
  obtain ⟨f5, hf5⟩ := h5
  obtain ⟨inq, hfeed5, hinq⟩ := PrjY.feed_open hf5
  have hb5 := PrjY.feed_bulk hf5
  simp only [List.append_nil] at hk
  obtain ⟨l1', l2', l3', l4'⟩ := short hk
  have g1 : inp.length ≤ 1048576 := by
    obtain ⟨ad, c, e, -⟩ := hfeed
    simp only [Value.slice.injEq] at e
    have hb1 : l1 ≤ Rows.uptoBulk d1 := hb1
    omega
  have g5 : inq.length ≤ 1048576 := by
    obtain ⟨ad, c, e, -⟩ := hfeed5
    simp only [Value.slice.injEq] at e
    have hb5 : l5 ≤ Rows.uptoBulk d5 := hb5
    omega
  have walk := Ran.Executed_any s.data.toList u.data.toList (.slice a1 l1 c1) (.slice a5 l5 c5) inp inq n2 n3 n6 n7 W hfeed hfeed5 hinp hinq g1 g5 l1' l2' E hp
  rw [← lit_of, ← lit_of] at walk
  refine walk.mono fun e W' ⟨he, hb⟩ => ?_
  subst he
  exact ⟨_, rfl, _, _, _, [], _, [], hW', trodAll_mk1 (shut_bool Tryz.underlying4 _), trodAll_mk8 (shut_string Tryz.underlying9 ms) (k1 W' hb) (shut_int Tryz.underlying3 w2) (shut_int Tryz.underlying3 w3) (shut_string Tryz.underlying9 mu) (k5 W' hb) (shut_int Tryz.underlying3 w6) (shut_int Tryz.underlying3 w7), rfl, hb.frame _, fun h => by cases h⟩
theorem reads (os : Os) {H : Type} (enc : TypeId × Value → H) : ∃ places, DataW.whole enc Tryz.prog ((PrjZ.laidWorld os).forCall (fun _ _ => 0) ⟨#[], #[.string ⟨#[]⟩, .slice none 0 0, .int .i64 0, .int .i64 0, .string ⟨#[]⟩, .slice none 0 0, .int .i64 0, .int .i64 0], []⟩).memory Tryz.f10.params.toList Rows.executedSpec.vars false ((#[.string ⟨#[]⟩, .slice none 0 0, .int .i64 0, .int .i64 0, .string ⟨#[]⟩, .slice none 0 0, .int .i64 0, .int .i64 0] : Array Value)).toList 8 = some ([.lit (.string []), .nil, .lit (.int .i64 0), .lit (.int .i64 0), .lit (.string []), .nil, .lit (.int .i64 0), .lit (.int .i64 0)], [], places) :=
  ⟨[], by kernel_rfl⟩
set_option maxRecDepth 100000 in
theorem liftedUpto (os : Os) (started : os.Started) (H : Type) (enc : TypeId × Value → H) (F : Stop.Interp) :
    ReturnsInHanded {} Tryz.checked os 10 .any ((Rows.OpenSpec.upto Rows.executedSpec).preRow enc Tryz.prog Tryz.f10 Rows.executedUptoRow.domain false Rows.executedUptoRow.laid) (((Rows.OpenSpec.upto Rows.executedSpec).at F).post enc Tryz.prog Tryz.f10 false true false false) := by
  obtain ⟨places, hx⟩ := reads os enc
  refine returnsInHanded_of_row (C := Tryz.checked) (s := Rows.OpenSpec.upto Rows.executedSpec) own started (by kernel_rfl) Tryz.func10
    (witness_row_at (enc := enc) (C := Tryz.checked) false (PrjZ.laidWorld os) #[.string ⟨#[]⟩, .slice none 0 0, .int .i64 0, .int .i64 0, .string ⟨#[]⟩, .slice none 0 0, .int .i64 0, .int .i64 0] rfl (by kernel_rfl) (by kernel_rfl) (by kernel_rfl)
      (OpenSpec.preRow_of_cond 8 hx (by kernel_rfl) (fun k hk => by cases hk; kernel_rfl) (by kernel_rfl) (PrjZ.laid_met os _))) ?_
  intro W base args ds gs before hval hW _ hcond _ hL hsh _
  exact contract H enc W base args ds gs before hval hW (hcond _ rfl) hL hsh
theorem saidUpto : Rows.ExecutedUptoSaid :=
  OpenClaim.holds_of_cond 10 Tryz.f10 rfl rfl rfl rfl rfl rfl rfl ⟨rfl, rfl, rfl, rfl, rfl⟩ rfl rfl rfl rfl rfl (by kernel_rfl) Tryz.func10 (by kernel_rfl)
    (of_decide_eq_true (by kernel_rfl)) (by unfold Func.isWrapper; first | (rw [if_pos (by decide +kernel)]; kernel_rfl) | (rw [if_neg (by decide +kernel)]; exact ⟨rfl, rfl⟩))
    (fun os started H enc _ F => by rw [OpenClaim.pre_eq_preRow]; exact liftedUpto os started H enc F)
theorem plain (f : FuncId) (fn : Func) (hf : Tryz.pinned.checked.prog.funcNamed "stow/stowlaw.Executed" = some f) (hfn : Tryz.pinned.checked.prog.funcs[f]? = some fn) :
    true = Tryz.pinned.checked.prog.looks [] ∧ ∀ (j : Nat) t, fn.params[j]? = some t → Tryz.pinned.checked.prog.wantsStandIn t = false := by
  obtain rfl : f = 10 := Option.some.inj ((show Tryz.prog.funcNamed "stow/stowlaw.Executed" = some 10 by kernel_rfl).symm.trans hf) |>.symm
  obtain rfl : fn = Tryz.f10 := (Option.some.inj (Tryz.func10.symm.trans hfn)).symm
  refine ⟨by kernel_rfl, fun j t ht => ?_⟩
  rw [Tryz.params10] at ht
  have hm : t = 9 ∨ t = 42 ∨ t = 3 := by
    have h1 : t ∈ [9, 42, 3, 3, 9, 42, 3, 3] := Array.mem_def.mp (Array.mem_of_getElem? ht)
    simp only [List.mem_cons, List.not_mem_nil, or_false] at h1
    rcases h1 with h | h | h | h | h | h | h | h
    · exact .inl h
    · exact .inr (.inl h)
    · exact .inr (.inr h)
    · exact .inr (.inr h)
    · exact .inl h
    · exact .inr (.inl h)
    · exact .inr (.inr h)
    · exact .inr (.inr h)
  rcases hm with rfl | rfl | rfl
  · exact (show Tryz.prog.wantsStandIn 9 = false by kernel_rfl)
  · exact (show Tryz.prog.wantsStandIn 42 = false by kernel_rfl)
  · exact (show Tryz.prog.wantsStandIn 3 = false by kernel_rfl)
/-- THE CARD -/
theorem cardUpto : Rows.ExecutedUptoCardSaid :=
  Claim7.holds_tied_plain_at .later [] _ _ _ _ saidUpto (fun _ h => by cases h) (by kernel_rfl) (fun _ h => by cases h) executedUpto_row_tie rfl ⟨rfl, rfl⟩ (by kernel_rfl) rfl plain (by kernel_rfl)
end Go.Proofs.YtmlgajhhnojdjaaGreatDoor.executedCard
