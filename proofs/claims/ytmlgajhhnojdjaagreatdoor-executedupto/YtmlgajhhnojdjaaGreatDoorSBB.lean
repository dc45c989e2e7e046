/- The document's own machine: add, sub, mul, div, walked. -/
import Derived.Test.YtmlgajhhnojdjaaGreatDoorSBA
import Derived.Deep.QuietTactic
namespace Go.Proofs.YtmlgajhhnojdjaaGreatDoor.Mac
open Go Go.RowKit Go.Proofs.YtmlgajhhnojdjaaGreatDoor.Spec Go.Proofs.YtmlgajhhnojdjaaGreatDoor.Aux Go.Proofs.YtmlgajhhnojdjaaGreatDoor.PrjJ Go.Proofs.YtmlgajhhnojdjaaGreatDoor.PrjK Go.Proofs.YtmlgajhhnojdjaaGreatDoor.PrjL Go.Proofs.YtmlgajhhnojdjaaGreatDoor.PrjM Go.Proofs.YtmlgajhhnojdjaaGreatDoor.Own Go.Proofs.YtmlgajhhnojdjaaGreatDoor.RefRa Go.Proofs.YtmlgajhhnojdjaaGreatDoor.RefP

/-- a line's words in memory -/
structure Row (w0 : World) (ws : List B) (gw : Nat) : Prop where
  lt : gw < w0.heap.size
  cells : ∀ j, j < ws.length → w0.cell? ⟨gw, j, none⟩ = some (.string (bs (word ws j)))
  wide : ws.length ≤ 1099511627777
section
variable {w0 w w1 w2 w3 : World} {x gw cw : Nat} {f : Fx} {m : RM} {p : RP} {ws : List B} {t : Nat} {vb vt : Value}
theorem Row.at (h : Row w0 ws gw) (hV : MAtV w0 x f w m vb vt) {j : Nat} (hj : j < ws.length) : w.cell? ⟨gw, j, none⟩ = some (.string (bs (word ws j))) := (hV.old.cell (p := ⟨gw, j, none⟩) h.lt).trans (h.cells j hj)
theorem Row.on (h : Row w0 ws gw) (hM : MAt w0 x f w m) {j : Nat} (hj : j < ws.length) : w.cell? ⟨gw, j, none⟩ = some (.string (bs (word ws j))) := by obtain ⟨vb, vt, hV⟩ := hM; exact h.at hV hj
theorem need_int (i j : Nat) : (m.need i).int j = m.int j := by unfold RM.need; split <;> rfl
theorem out_ne {n : Nat} (h : ¬ n = 0) : ¬ ((n : Nat) : Int) = 0 := by omega
set_option maxRecDepth 20000 in
set_option maxHeartbeats 2000000 in
theorem arith_out (hC : Ctx w0 p f) (h : MAt w0 x f w m) (hR : Row w0 ws gw) (hn : ws.length = 4) (h2 : Wd p (word ws 2)) (h3 : Wd p (word ws 3)) (ho : ¬ ((m.need (sp p (word ws 2))).need (sp p (word ws 3))).out = 0) :
    Calls Tryz.prog 151 #[.pointer (some ⟨x, 0, none⟩), .slice (some ⟨gw, 0, none⟩) ws.length cw] w fun e w' => e = .returned (.tuple #[]) ∧ MAt w0 x f w' (m.arith p ws) := by
  have ho2 := out_ne ho
  have HG : Hid (m.arith p ws = (m.need (sp p (word ws 2))).need (sp p (word ws 3))) := by unfold Hid RM.arith; simp only; rw [if_pos ho]
  have hln : (ws.length : Int) = 4 := by omega
  have hz2 := hR.on h (j := 2) (by omega)
  have KI1 := int_any hC h h2
  go_enter Tryz.func151, Tryz.ntmps151
  go_wp2_with (first
    | (go_at_call 147; refine KI2.mono ?_; rintro e w2 ⟨rfl, vb2, vt2, hV2⟩; obtain ⟨c0, c1, c2, c3, c4, c5, c6, c7, c8, c9⟩ := hV2.facts; obtain ⟨f1, f2, f3, f4, f5, f6⟩ := hV2.frozs; skip)
    | (go_at_call 147; refine KI1.mono ?_; rintro e w1 ⟨rfl, hM1⟩; have hz3 := hR.on hM1 (j := 3) (by omega); have KI2 := int_any hC hM1 h3; rw [need_int] at KI2))
  try simp only [Exit.inBlock, Exit.then]
  refine bodyPost_ret (results_none rfl _ _ _) rfl ?_
  exact ⟨rfl, by rw [HG.out]; exact ⟨_, _, hV2⟩⟩
set_option maxRecDepth 20000 in
set_option maxHeartbeats 2000000 in
theorem arith_add (hC : Ctx w0 p f) (h : MAt w0 x f w m) (hR : Row w0 ws gw) (hn : ws.length = 4) (h1 : Wd p (word ws 1)) (h2 : Wd p (word ws 2)) (h3 : Wd p (word ws 3)) (h0 : word ws 0 = [97, 100, 100]) (ho : ((m.need (sp p (word ws 2))).need (sp p (word ws 3))).out = 0) :
    Calls Tryz.prog 151 #[.pointer (some ⟨x, 0, none⟩), .slice (some ⟨gw, 0, none⟩) ws.length cw] w fun e w' => e = .returned (.tuple #[]) ∧ MAt w0 x f w' (m.arith p ws) := by
  have ho2 : ((((m.need (sp p (word ws 2))).need (sp p (word ws 3))).out : Nat) : Int) = 0 := by omega
  have HG : Hid (m.arith p ws = ((m.need (sp p (word ws 2))).need (sp p (word ws 3))).be (sp p (word ws 1)) (wrap64 (m.int (sp p (word ws 2)) + m.int (sp p (word ws 3))))) := by unfold Hid RM.arith; rw [h0]; simp only; rw [if_neg (by rw [ho]; decide), if_neg (fun e => absurd e.1 (by decide))]; rfl
  have hln : (ws.length : Int) = 4 := by omega
  have hz2 := hR.on h (j := 2) (by omega)
  have KI1 := int_any hC h h2
  go_enter Tryz.func151, Tryz.ntmps151
  go_wp2_with (first
    | (go_at_call 147; refine KI2.mono ?_; rintro e w2 ⟨rfl, vb2, vt2, hV2⟩; obtain ⟨c0, c1, c2, c3, c4, c5, c6, c7, c8, c9⟩ := hV2.facts; obtain ⟨f1, f2, f3, f4, f5, f6⟩ := hV2.frozs; rw [ho2] at c8; have y0 := hR.at hV2 (j := 0) (by omega); rw [h0] at y0; have y1 := hR.at hV2 (j := 1) (by omega); have KB := be_any hC ⟨_, _, hV2⟩ h1 (wrap64 (m.int (sp p (word ws 2)) + m.int (sp p (word ws 3)))))
    | (go_at_call 147; refine KI1.mono ?_; rintro e w1 ⟨rfl, hM1⟩; have hz3 := hR.on hM1 (j := 3) (by omega); have KI2 := int_any hC hM1 h3; rw [need_int] at KI2)
    | (go_at_call 150; refine KB.mono ?_; rintro e w9 ⟨rfl, hM9⟩))
  go_end0
  exact ⟨rfl, by rw [HG.out]; exact hM9⟩
set_option maxRecDepth 20000 in
set_option maxHeartbeats 2000000 in
theorem arith_sub (hC : Ctx w0 p f) (h : MAt w0 x f w m) (hR : Row w0 ws gw) (hn : ws.length = 4) (h1 : Wd p (word ws 1)) (h2 : Wd p (word ws 2)) (h3 : Wd p (word ws 3)) (h0 : word ws 0 = [115, 117, 98]) (ho : ((m.need (sp p (word ws 2))).need (sp p (word ws 3))).out = 0) :
    Calls Tryz.prog 151 #[.pointer (some ⟨x, 0, none⟩), .slice (some ⟨gw, 0, none⟩) ws.length cw] w fun e w' => e = .returned (.tuple #[]) ∧ MAt w0 x f w' (m.arith p ws) := by
  have ho2 : ((((m.need (sp p (word ws 2))).need (sp p (word ws 3))).out : Nat) : Int) = 0 := by omega
  have HG : Hid (m.arith p ws = ((m.need (sp p (word ws 2))).need (sp p (word ws 3))).be (sp p (word ws 1)) (wrap64 (m.int (sp p (word ws 2)) - m.int (sp p (word ws 3))))) := by unfold Hid RM.arith; rw [h0]; simp only; rw [if_neg (by rw [ho]; decide), if_neg (fun e => absurd e.1 (by decide))]; rfl
  have hln : (ws.length : Int) = 4 := by omega
  have hz2 := hR.on h (j := 2) (by omega)
  have KI1 := int_any hC h h2
  go_enter Tryz.func151, Tryz.ntmps151
  go_wp2_with (first
    | (go_at_call 147; refine KI2.mono ?_; rintro e w2 ⟨rfl, vb2, vt2, hV2⟩; obtain ⟨c0, c1, c2, c3, c4, c5, c6, c7, c8, c9⟩ := hV2.facts; obtain ⟨f1, f2, f3, f4, f5, f6⟩ := hV2.frozs; rw [ho2] at c8; have y0 := hR.at hV2 (j := 0) (by omega); rw [h0] at y0; have y1 := hR.at hV2 (j := 1) (by omega); have KB := be_any hC ⟨_, _, hV2⟩ h1 (wrap64 (m.int (sp p (word ws 2)) - m.int (sp p (word ws 3)))))
    | (go_at_call 147; refine KI1.mono ?_; rintro e w1 ⟨rfl, hM1⟩; have hz3 := hR.on hM1 (j := 3) (by omega); have KI2 := int_any hC hM1 h3; rw [need_int] at KI2)
    | (go_at_call 150; refine KB.mono ?_; rintro e w9 ⟨rfl, hM9⟩))
  go_end0
  exact ⟨rfl, by rw [HG.out]; exact hM9⟩
set_option maxRecDepth 20000 in
set_option maxHeartbeats 2000000 in
theorem arith_mul (hC : Ctx w0 p f) (h : MAt w0 x f w m) (hR : Row w0 ws gw) (hn : ws.length = 4) (h1 : Wd p (word ws 1)) (h2 : Wd p (word ws 2)) (h3 : Wd p (word ws 3)) (h0 : word ws 0 = [109, 117, 108]) (ho : ((m.need (sp p (word ws 2))).need (sp p (word ws 3))).out = 0) :
    Calls Tryz.prog 151 #[.pointer (some ⟨x, 0, none⟩), .slice (some ⟨gw, 0, none⟩) ws.length cw] w fun e w' => e = .returned (.tuple #[]) ∧ MAt w0 x f w' (m.arith p ws) := by
  have ho2 : ((((m.need (sp p (word ws 2))).need (sp p (word ws 3))).out : Nat) : Int) = 0 := by omega
  have HG : Hid (m.arith p ws = ((m.need (sp p (word ws 2))).need (sp p (word ws 3))).be (sp p (word ws 1)) (wrap64 (m.int (sp p (word ws 2)) * m.int (sp p (word ws 3))))) := by unfold Hid RM.arith; rw [h0]; simp only; rw [if_neg (by rw [ho]; decide), if_neg (fun e => absurd e.1 (by decide))]; rfl
  have hln : (ws.length : Int) = 4 := by omega
  have hz2 := hR.on h (j := 2) (by omega)
  have KI1 := int_any hC h h2
  go_enter Tryz.func151, Tryz.ntmps151
  go_wp2_with (first
    | (go_at_call 147; refine KI2.mono ?_; rintro e w2 ⟨rfl, vb2, vt2, hV2⟩; obtain ⟨c0, c1, c2, c3, c4, c5, c6, c7, c8, c9⟩ := hV2.facts; obtain ⟨f1, f2, f3, f4, f5, f6⟩ := hV2.frozs; rw [ho2] at c8; have y0 := hR.at hV2 (j := 0) (by omega); rw [h0] at y0; have y1 := hR.at hV2 (j := 1) (by omega); have KB := be_any hC ⟨_, _, hV2⟩ h1 (wrap64 (m.int (sp p (word ws 2)) * m.int (sp p (word ws 3)))))
    | (go_at_call 147; refine KI1.mono ?_; rintro e w1 ⟨rfl, hM1⟩; have hz3 := hR.on hM1 (j := 3) (by omega); have KI2 := int_any hC hM1 h3; rw [need_int] at KI2)
    | (go_at_call 150; refine KB.mono ?_; rintro e w9 ⟨rfl, hM9⟩))
  go_end0
  exact ⟨rfl, by rw [HG.out]; exact hM9⟩
set_option maxRecDepth 20000 in
set_option maxHeartbeats 2000000 in
theorem arith_div (hC : Ctx w0 p f) (h : MAt w0 x f w m) (hR : Row w0 ws gw) (hn : ws.length = 4) (h1 : Wd p (word ws 1)) (h2 : Wd p (word ws 2)) (h3 : Wd p (word ws 3)) (h0 : word ws 0 = [100, 105, 118]) (ho : ((m.need (sp p (word ws 2))).need (sp p (word ws 3))).out = 0) (hd : ¬ m.int (sp p (word ws 3)) = 0) :
    Calls Tryz.prog 151 #[.pointer (some ⟨x, 0, none⟩), .slice (some ⟨gw, 0, none⟩) ws.length cw] w fun e w' => e = .returned (.tuple #[]) ∧ MAt w0 x f w' (m.arith p ws) := by
  have ho2 : ((((m.need (sp p (word ws 2))).need (sp p (word ws 3))).out : Nat) : Int) = 0 := by omega
  have HG : Hid (m.arith p ws = ((m.need (sp p (word ws 2))).need (sp p (word ws 3))).be (sp p (word ws 1)) (wrap64 ((m.int (sp p (word ws 2))).tdiv (m.int (sp p (word ws 3)))))) := by unfold Hid RM.arith; rw [h0]; simp only; rw [if_neg (by rw [ho]; decide), if_neg (fun e => hd e.2)]; rfl
  have hln : (ws.length : Int) = 4 := by omega
  have hz2 := hR.on h (j := 2) (by omega)
  have KI1 := int_any hC h h2
  go_enter Tryz.func151, Tryz.ntmps151
  go_wp2_with (first
    | (go_at_call 147; refine KI2.mono ?_; rintro e w2 ⟨rfl, vb2, vt2, hV2⟩; obtain ⟨c0, c1, c2, c3, c4, c5, c6, c7, c8, c9⟩ := hV2.facts; obtain ⟨f1, f2, f3, f4, f5, f6⟩ := hV2.frozs; rw [ho2] at c8; have y0 := hR.at hV2 (j := 0) (by omega); rw [h0] at y0; have y1 := hR.at hV2 (j := 1) (by omega); have KB := be_any hC ⟨_, _, hV2⟩ h1 (wrap64 ((m.int (sp p (word ws 2))).tdiv (m.int (sp p (word ws 3))))))
    | (go_at_call 147; refine KI1.mono ?_; rintro e w1 ⟨rfl, hM1⟩; have hz3 := hR.on hM1 (j := 3) (by omega); have KI2 := int_any hC hM1 h3; rw [need_int] at KI2)
    | (go_at_call 150; refine KB.mono ?_; rintro e w9 ⟨rfl, hM9⟩))
  go_end0
  exact ⟨rfl, by rw [HG.out]; exact hM9⟩
set_option maxRecDepth 20000 in
set_option maxHeartbeats 2000000 in
theorem arith_zero (hC : Ctx w0 p f) (h : MAt w0 x f w m) (hR : Row w0 ws gw) (hn : ws.length = 4) (h2 : Wd p (word ws 2)) (h3 : Wd p (word ws 3)) (h0 : word ws 0 = [100, 105, 118]) (ho : ((m.need (sp p (word ws 2))).need (sp p (word ws 3))).out = 0) (hd : m.int (sp p (word ws 3)) = 0) :
    Calls Tryz.prog 151 #[.pointer (some ⟨x, 0, none⟩), .slice (some ⟨gw, 0, none⟩) ws.length cw] w fun e w' => e = .returned (.tuple #[]) ∧ MAt w0 x f w' (m.arith p ws) := by
  have ho2 : ((((m.need (sp p (word ws 2))).need (sp p (word ws 3))).out : Nat) : Int) = 0 := by omega
  have HG : Hid (m.arith p ws = { (m.need (sp p (word ws 2))).need (sp p (word ws 3)) with out := 4 }) := by unfold Hid RM.arith; rw [h0]; simp only; rw [if_neg (by rw [ho]; decide), if_pos ⟨rfl, hd⟩]
  have hln : (ws.length : Int) = 4 := by omega
  have hz2 := hR.on h (j := 2) (by omega)
  have KI1 := int_any hC h h2
  go_enter Tryz.func151, Tryz.ntmps151
  go_wp2_with (first
    | (go_at_call 147; refine KI2.mono ?_; rintro e w2 ⟨rfl, vb2, vt2, hV2⟩; obtain ⟨c0, c1, c2, c3, c4, c5, c6, c7, c8, c9⟩ := hV2.facts; obtain ⟨f1, f2, f3, f4, f5, f6⟩ := hV2.frozs; rw [ho2] at c8; have y0 := hR.at hV2 (j := 0) (by omega); rw [h0] at y0; have hV3 := hV2.setOut 4)
    | (go_at_call 147; refine KI1.mono ?_; rintro e w1 ⟨rfl, hM1⟩; have hz3 := hR.on hM1 (j := 3) (by omega); have KI2 := int_any hC hM1 h3; rw [need_int] at KI2))
  try simp only [Exit.inBlock, Exit.then]
  refine bodyPost_ret (results_none rfl _ _ _) rfl ?_
  exact ⟨rfl, by rw [HG.out]; exact ⟨_, _, hV3⟩⟩
theorem arith_any (hC : Ctx w0 p f) (h : MAt w0 x f w m) (hR : Row w0 ws gw) (hn : ws.length = 4) (h1 : Wd p (word ws 1)) (h2 : Wd p (word ws 2)) (h3 : Wd p (word ws 3)) (h0 : word ws 0 = wAdd ∨ word ws 0 = wSub ∨ word ws 0 = wMul ∨ word ws 0 = wDiv) :
    Calls Tryz.prog 151 #[.pointer (some ⟨x, 0, none⟩), .slice (some ⟨gw, 0, none⟩) ws.length cw] w fun e w' => e = .returned (.tuple #[]) ∧ MAt w0 x f w' (m.arith p ws) := by
  by_cases ho : ((m.need (sp p (word ws 2))).need (sp p (word ws 3))).out = 0
  · rcases h0 with h0 | h0 | h0 | h0
    · exact arith_add hC h hR hn h1 h2 h3 h0 ho
    · exact arith_sub hC h hR hn h1 h2 h3 h0 ho
    · exact arith_mul hC h hR hn h1 h2 h3 h0 ho
    · by_cases hd : m.int (sp p (word ws 3)) = 0
      · exact arith_zero hC h hR hn h2 h3 h0 ho hd
      · exact arith_div hC h hR hn h1 h2 h3 h0 ho hd
  · exact arith_out hC h hR hn h2 h3 ho
end
end Go.Proofs.YtmlgajhhnojdjaaGreatDoor.Mac
/- The document's own machine: a box made, a place dropped, walked. -/
namespace Go.Proofs.YtmlgajhhnojdjaaGreatDoor.Mac
open Go Go.RowKit Go.Proofs.YtmlgajhhnojdjaaGreatDoor.Spec Go.Proofs.YtmlgajhhnojdjaaGreatDoor.Aux Go.Proofs.YtmlgajhhnojdjaaGreatDoor.PrjJ Go.Proofs.YtmlgajhhnojdjaaGreatDoor.PrjK Go.Proofs.YtmlgajhhnojdjaaGreatDoor.PrjL Go.Proofs.YtmlgajhhnojdjaaGreatDoor.PrjM Go.Proofs.YtmlgajhhnojdjaaGreatDoor.Own Go.Proofs.YtmlgajhhnojdjaaGreatDoor.RefRa Go.Proofs.YtmlgajhhnojdjaaGreatDoor.RefP Go.Proofs.YtmlgajhhnojdjaaGreatDoor.RefO

theorem info_mbox : (Tryz.prog.info? 264).map (fun i => (i.zero, i.size, i.bytes)) = some (some (.agg #[.int .i64 0, .bool false]), 2, 16) := by kernel_rfl
section
variable {w0 w w1 w2 w3 : World} {x : Nat} {f : Fx} {m : RM} {p : RP} {l : B} {t : Nat}
set_option maxRecDepth 20000 in
set_option maxHeartbeats 2000000 in
theorem made_any (hC : Ctx w0 p f) (h : MAt w0 x f w m) (hl : Wd p l) (v : Int) (hO : m.Ok t) (ht : t ≤ 3000000) :
    Calls Tryz.prog 192 #[.pointer (some ⟨x, 0, none⟩), .string (bs l), .int .i64 v] w fun e w' => e = .returned (.tuple #[]) ∧ MAt w0 x f w' (m.made f (sp p l) v) := by
  obtain ⟨hi, -⟩ := hl.lt hC.twelve
  obtain ⟨i, hi0, hz0, hz1, hz2⟩ := info_parts info_mbox
  have hb := hO.boxes
  have hc := hO.count
  have htr := hO.trace
  by_cases hr : f.room ≤ m.count
  · have HG : Hid (m.made f (sp p l) v = { m with out := 3 }) := by unfold Hid RM.made; rw [if_pos hr]
    obtain ⟨vb, vt, hV⟩ := h
    obtain ⟨c0, c1, c2, c3, c4, c5, c6, c7, c8, c9⟩ := hV.facts
    go_enter Tryz.func192, Tryz.ntmps192
    go_upto_region 0 with fail
    go_quiet (fail)
    have hVq : MAtV w0 x f (w.drewN nq) m vb vt := hV.below (below_drewN (Below.refl _ _) _)
    clear hV c0 c1 c2 c3 c4 c5 c6 c7 c8 c9
    generalize w.drewN nq = wq at *
    obtain ⟨f1, f2, f3, f4, f5, f6⟩ := hVq.frozs
    obtain ⟨c0, c1, c2, c3, c4, c5, c6, c7, c8, c9⟩ := hVq.facts
    have hV2 : MAtV w0 x f (wq.setCell ⟨x, 154, none⟩ (.int .i64 3)) { m with out := 3 } vb vt := hVq.setOut 3
    go_wp2
    try simp only [Exit.inBlock, Exit.then]
    refine bodyPost_ret (results_none rfl _ _ _) rfl ?_
    exact ⟨rfl, by rw [HG.out]; exact ⟨vb, vt, hV2⟩⟩
  · have HG : Hid (m.made f (sp p l) v = (let m1 := RM.note { m with boxes := m.boxes ++ [(v, true)], count := m.count + 1 } 43 ((m.boxes.length + 1 : Nat) : Int); let m2 : RM := { m1 with held := m1.held.set (sp p l) (m.boxes.length + 1) }; if f.owns = true then { m2 with how := m2.how.set (sp p l) 119 } else m2)) := by unfold Hid RM.made; rw [if_neg hr]
    have i1 : ((sp p l : Nat) : Int) < 24 := by omega
    obtain ⟨vb, vt, hV⟩ := h
    obtain ⟨c0, c1, c2, c3, c4, c5, c6, c7, c8, c9⟩ := hV.facts
    go_enter Tryz.func192, Tryz.ntmps192
    go_upto_region 0 with fail
    go_quiet (fail)
    have hVq : MAtV w0 x f (w.drewN nq) m vb vt := hV.below (below_drewN (Below.refl _ _) _)
    clear hV c0 c1 c2 c3 c4 c5 c6 c7 c8 c9
    generalize w.drewN nq = wq at *
    obtain ⟨c0, c1, c2, c3, c4, c5, c6, c7, c8, c9⟩ := hVq.facts
    have hbA : Below wq.heap.size wq (wq.alloc (.cells #[.int .i64 v, .bool true] 264)) := (Below.refl _ _).alloc (Nat.le_refl _) _
    have HA := hVq.below hbA
    obtain ⟨a0, a1, a2, a3, a4, a5, a6, a7, a8, a9⟩ := HA.facts
    have hsA : w0.heap.size ≤ (wq.alloc (.cells #[.int .i64 v, .bool true] 264)).heap.size := by have := HA.lt; have := HA.base; omega
    go_wp2_with (first
      | (at_builtin; go_must (refine append_blk rfl _ _ 92 rfl w0.heap.size 264 i (.agg #[.int .i64 0, .bool false]) 2 16 Tryz.underlying92 hi0 hz0 hz1 hz2 rfl (by decide) vb _ _ rfl HA.boxes wq.heap.size [.int .i64 v, .bool true] rfl Array.getElem?_push_size rfl (by intro u' hu; simp at hu; rcases hu with rfl | rfl <;> rfl) (by decide) (by omega) hsA ?_); intro g4 c4' w4 hown4 hgrow4 hat4 hlt4; obtain ⟨hblk4, hV4⟩ := HA.addBox (b := (v, true)) hown4 hgrow4; have rf : w4.frozen? ⟨x, 148, none⟩ = false := frozen_of_heap hblk4 148; have r5 : w4.cell? ⟨x, 148, none⟩ = some vb := (by rw [cell_of_heap hblk4, List.getElem?_toArray]; exact HA.len.getTail (f := f) (vb := vb) (vt := vt) 0); obtain ⟨b0, b1, b2, b3, b4, b5, b6, b7, b8, b9⟩ := hV4.facts; obtain ⟨f1, f2, f3, f4, f5, f6⟩ := hV4.frozs; have hV5 := hV4.setCount (m.count + 1); obtain ⟨d0, d1, d2, d3, d4, d5, d6, d7, d8, d9⟩ := hV5.facts; have KN : Calls Tryz.prog 152 #[.pointer (some ⟨x, 0, none⟩), .string ⟨#[43]⟩, .int .i64 ((m.boxes.length + 1 : Nat) : Int)] _ _ := note_any ⟨_, _, hV5⟩ 43 ((m.boxes.length + 1 : Nat) : Int) (by unfold isI64; omega) (by show m.trace.length ≤ _; omega))
      | (go_at_call 152; refine KN.mono ?_; rintro e w9 ⟨rfl, hM⟩; have KS := spot_any hC hM hl)
      | (go_at_call 149; refine KS.mono ?_; rintro e w10 ⟨rfl, vb', vt', hV10⟩; obtain ⟨b10, cap10, ev⟩ := own_form hV10.boxes; rw [show (RM.note { m with boxes := m.boxes ++ [(v, true)], count := m.count + 1 } 43 ((m.boxes.length + 1 : Nat) : Int)).boxes.length = m.boxes.length + 1 from List.length_append] at ev; generalize hN : m.boxes.length + 1 = N at *; subst ev; obtain ⟨e0, e1, e2, e3, e4, e5, e6, e7, e8, e9⟩ := hV10.facts; obtain ⟨h1, h2⟩ := hV10.heldAt hi; obtain ⟨q1, q2⟩ := hV10.howAt hi))
    go_upto_region 6 with fail
    go_region_law (fail)
    all_goals
      have hV11 := hV10.below ((Below.refl w10.heap.size w10).drew)
      have hV12 := hV11.setHeld hi N
      obtain ⟨k0, k1, k2, k3, k4, k5, k6, k7, k8, k9⟩ := hV12.facts
      obtain ⟨j1, j2⟩ := hV12.howAt hi
      have hV13 := hV12.setHow hi 119
    all_goals
      cases hown : f.owns
      · rw [hown] at k1
        go_wp2_with fail
        go_end0
        refine ⟨rfl, ?_⟩
        rw [HG.out, if_neg (by rw [hown]; decide)]
        exact ⟨_, _, hV12⟩
      · rw [hown] at k1
        go_wp2_with fail
        go_end0
        refine ⟨rfl, ?_⟩
        rw [HG.out, if_pos hown]
        exact ⟨_, _, hV13⟩
set_option maxRecDepth 20000 in
set_option maxHeartbeats 2000000 in
theorem drop_any (hC : Ctx w0 p f) (h : MAt w0 x f w m) (hl : Wd p l) (hO : m.Ok t) (ht : t + 2 ≤ 3000000) :
    Calls Tryz.prog 148 #[.pointer (some ⟨x, 0, none⟩), .string (bs l)] w fun e w' => e = .returned (.tuple #[]) ∧ MAt w0 x f w' (m.drop p l) := by
  obtain ⟨hi, hi2, hn1, hn2⟩ := hl.lt hC.twelve
  have KS := fun w' (hp : ProgAt w' f.a p) => spots_any p f.a l w' hp hC.ok hl.len hl.find
  have KL := fun w' => left_bs l w' hl.len
  rw [left_is] at KL
  unfold RM.drop
  have e1 : (p.spots l).1 = sp p l := rfl
  rw [e1] at KS
  generalize sp p l = i at *
  generalize (p.spots l).2 = n at *
  generalize leftC l = c at *
  obtain ⟨vb, vt, hV⟩ := h
  obtain ⟨c0, c1, c2, c3, c4, c5, c6, c7, c8, c9⟩ := hV.facts
  have HP := hC.prog.below hV.old
  go_enter Tryz.func148, Tryz.ntmps148
  go_wp2_with (go_at_call 143; refine (KS _ HP).mono ?_; rintro e w1 ⟨rfl, n1, rfl⟩)
  have HM : Hid (MAt w0 x f (w.drewN n1) (m.dropN c i 0)) := ⟨vb, vt, hV.below (below_drewN (Below.refl _ _) _)⟩
  clear hV c0 c1 c2 c3 c4 c5 c6 c7 c8 c9 HP KS e1
  go_loopw [6] (fun v6 wr => ∃ (j : Nat), j ≤ n ∧ v6 = .int .i64 ((i + j : Nat) : Int) ∧ Hid (MAt w0 x f wr (m.dropN c i j))) (fun v _ => i + n - (intOf v).toNat)
  case atStart => exact ⟨0, Nat.zero_le _, by simp, HM⟩
  case round =>
    obtain ⟨j, hj, rfl, HJ⟩ := hrel
    clear HM
    by_cases hlt : j < n
    · have hOj := hO.dropN c i j (by omega)
      have hM := HJ.out
      have hstep : Hid ((m.dropN c i j).drop1 c (i + j) = m.dropN c i (j + 1)) := rfl
      generalize hmj : m.dropN c i j = mj at *
      have hk24 : i + j < 24 := by omega
      have i4 : ((i + j : Nat) : Int) < 24 := by omega
      have i5 : ((i + j : Nat) : Int) < (i : Int) + n := by omega
      obtain ⟨vb, vt, hV⟩ := hM
      obtain ⟨a1, a2⟩ := hV.howAt hk24
      by_cases hh : mj.how.getD (i + j) 0 = 119
      · rw [hh] at a1
        have KF := free_any ⟨vb, vt, hV⟩ hk24 hOj (by omega)
        generalize hk : i + j = k at *
        go_wp2_with (first
          | (go_at_call 156; refine KF.mono ?_; rintro e w2 ⟨rfl, vb2, vt2, hV2⟩; obtain ⟨b1, b2⟩ := hV2.howAt hk24)
          | fail)
        go_upto_region 6 with fail
        go_region_law (go_simp; go_at_call 140; refine (KL _).mono ?_; rintro e w3 ⟨rfl, rfl⟩)
        all_goals
          have hV3 := (hV2.below ((Below.refl w2.heap.size w2).drew)).setHow hk24 c
          go_wp2_with fail
          refine ⟨⟨j + 1, by omega, by rw [← Nat.add_assoc, hk]; go_num, ?_⟩, by simp [intOf]; omega⟩
          rw [← hstep.out]
          unfold RM.drop1
          rw [if_pos hh]
          exact ⟨_, _, hV3⟩
      · have hh2 : ¬ ((mj.how.getD (i + j) 0).toNat : Int) = 119 := fun e => hh (UInt8.toNat_inj.1 (by rw [show (119 : UInt8).toNat = 119 from rfl]; omega))
        generalize hk : i + j = k at *
        have HB : Hid (¬ mj.how.getD k 0 = 119) := hh
        generalize mj.how.getD k 0 = bb at a1 hh2
        clear hh
        go_upto_region 6 with fail
        go_region_law (go_simp; go_at_call 140; refine (KL _).mono ?_; rintro e w3 ⟨rfl, rfl⟩)
        all_goals
          have hV3 := (hV.below ((Below.refl wr.heap.size wr).drew)).setHow hk24 c
          go_wp2_with fail
          refine ⟨⟨j + 1, by omega, by rw [← Nat.add_assoc, hk]; go_num, ?_⟩, by simp [intOf]; omega⟩
          rw [← hstep.out]
          unfold RM.drop1
          rw [if_neg HB.out]
          exact ⟨_, _, hV3⟩
    · have i5 : ¬ ((i + j : Nat) : Int) < (i : Int) + n := by omega
      go_wp2
      go_end0
      have e : j = n := by omega
      subst e
      exact ⟨rfl, HJ.out⟩
end
end Go.Proofs.YtmlgajhhnojdjaaGreatDoor.Mac
