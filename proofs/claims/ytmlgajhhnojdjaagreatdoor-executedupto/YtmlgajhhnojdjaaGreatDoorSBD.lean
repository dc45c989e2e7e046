/- The document's own machine: where a terminator leads, walked. -/
import Derived.Test.YtmlgajhhnojdjaaGreatDoorSBB
import Derived.Deep.RegionLaw
import Derived.Test.YtmlgajhhnojdjaaGreatDoorSBC
import Derived.Test.YtmlgajhhnojdjaaGreatDoorSAY
namespace Go.Proofs.YtmlgajhhnojdjaaGreatDoor.Mac
open Go Go.RowKit Go.Proofs.YtmlgajhhnojdjaaGreatDoor.Spec Go.Proofs.YtmlgajhhnojdjaaGreatDoor.Aux Go.Proofs.YtmlgajhhnojdjaaGreatDoor.PrjJ Go.Proofs.YtmlgajhhnojdjaaGreatDoor.PrjK Go.Proofs.YtmlgajhhnojdjaaGreatDoor.PrjL Go.Proofs.YtmlgajhhnojdjaaGreatDoor.PrjM Go.Proofs.YtmlgajhhnojdjaaGreatDoor.Own Go.Proofs.YtmlgajhhnojdjaaGreatDoor.RefRa Go.Proofs.YtmlgajhhnojdjaaGreatDoor.RefP Go.Proofs.YtmlgajhhnojdjaaGreatDoor.RefC

/-- a word that names a block -/
structure Bw (p : RP) (l : B) : Prop where
  len : l.length ≤ maxLen
  num : ∃ n : Nat, number l = some (n : Int) ∧ n < p.blocks.length
section
variable {w0 w w1 w2 w3 : World} {x gw cw : Nat} {f : Fx} {m : RM} {p : RP} {ws : List B} {t : Nat} {vb vt : Value} {l : B}
theorem block_call (hC : Ctx w0 p f) (h : MAt w0 x f w m) (hl : Bw p l) : Calls Tryz.prog 89 #[.pointer (some ⟨f.a, 0, none⟩), .string (bs l)] w fun e w' => e = .returned (.int .i64 ((blockW p l : Nat) : Int)) ∧ MAt w0 x f w' m := by
  obtain ⟨vb, vt, hV⟩ := h
  obtain ⟨n, h1, h2⟩ := hl.num
  refine (block_any p f.a l n w (hC.prog.below hV.old) hC.ok hl.len h1 h2).mono ?_
  rintro e w' ⟨rfl, k, rfl⟩
  refine ⟨?_, vb, vt, hV.below (below_drewN (Below.refl _ _) _)⟩
  unfold blockW valW
  rw [h1]; rfl
set_option maxRecDepth 20000 in
set_option maxHeartbeats 2000000 in
theorem next_goto (hC : Ctx w0 p f) (h : MAt w0 x f w m) (hR : Row w0 ws gw) (hn : ws.length = 2) (h1 : Bw p (word ws 1)) (hw : word ws 0 = [103, 111, 116, 111]) :
    Calls Tryz.prog 93 #[.pointer (some ⟨x, 0, none⟩), .slice (some ⟨gw, 0, none⟩) ws.length cw] w fun e w' => e = .returned (.int .i64 ((blockW p (m.next p ws).2 : Nat) : Int)) ∧ MAt w0 x f w' (m.next p ws).1 := by
  have HG : Hid (m.next p ws = (m, word ws 1)) := by unfold Hid RM.next; simp [hw]
  rw [HG.out]
  have hln : (ws.length : Int) = 2 := by omega
  have y0 := hR.on h (j := 0) (by omega)
  rw [hw] at y0
  have y1 := hR.on h (j := 1) (by omega)
  obtain ⟨vb, vt, hV⟩ := h
  obtain ⟨c0, c1, c2, c3, c4, c5, c6, c7, c8, c9⟩ := hV.facts
  have KB := block_call hC ⟨_, _, hV.below ((Below.refl w.heap.size w).drew)⟩ h1
  go_enter Tryz.func93, Tryz.ntmps93
  go_upto_region 3 with fail
  go_region_law (go_simp; go_at_call 89; refine KB.mono ?_; rintro e w9 ⟨rfl, hM9⟩)
  all_goals go_wp2_with fail
  all_goals go_ret
  all_goals exact ⟨rfl, hM9⟩
set_option maxRecDepth 20000 in
set_option maxHeartbeats 2000000 in
theorem next_if0 (hC : Ctx w0 p f) (h : MAt w0 x f w m) (hR : Row w0 ws gw) (hn : ws.length = 4) (h1 : Wd p (word ws 1)) (hb : Bw p (word ws 3)) (hw : word ws 0 = [105, 102]) (hz : m.int (sp p (word ws 1)) = 0) :
    Calls Tryz.prog 93 #[.pointer (some ⟨x, 0, none⟩), .slice (some ⟨gw, 0, none⟩) ws.length cw] w fun e w' => e = .returned (.int .i64 ((blockW p (m.next p ws).2 : Nat) : Int)) ∧ MAt w0 x f w' (m.next p ws).1 := by
  have HG : Hid (m.next p ws = (m.need (sp p (word ws 1)), word ws 3)) := by unfold Hid RM.next; simp [hw, hz]
  rw [HG.out]
  have hln : (ws.length : Int) = 4 := by omega
  have y0 := hR.on h (j := 0) (by omega)
  rw [hw] at y0
  have y1 := hR.on h (j := 1) (by omega)
  have KI := int_any hC h h1
  go_enter Tryz.func93, Tryz.ntmps93
  go_wp2_with (go_at_call 147; refine KI.mono ?_; rintro e w1 ⟨rfl, vb, vt, hV⟩; obtain ⟨c0, c1, c2, c3, c4, c5, c6, c7, c8, c9⟩ := hV.facts; have y2 := hR.at hV (j := 3) (by omega); have KB := block_call hC ⟨_, _, hV.below ((Below.refl w1.heap.size w1).drew)⟩ hb)
  go_upto_region 18 with fail
  go_region_law (go_simp; go_at_call 89; refine KB.mono ?_; rintro e w9 ⟨rfl, hM9⟩)
  all_goals go_wp2_with fail
  all_goals go_ret
  all_goals exact ⟨rfl, hM9⟩
set_option maxRecDepth 20000 in
set_option maxHeartbeats 2000000 in
theorem next_if1 (hC : Ctx w0 p f) (h : MAt w0 x f w m) (hR : Row w0 ws gw) (hn : ws.length = 4) (h1 : Wd p (word ws 1)) (hb : Bw p (word ws 2)) (hw : word ws 0 = [105, 102]) (hz : ¬ m.int (sp p (word ws 1)) = 0) :
    Calls Tryz.prog 93 #[.pointer (some ⟨x, 0, none⟩), .slice (some ⟨gw, 0, none⟩) ws.length cw] w fun e w' => e = .returned (.int .i64 ((blockW p (m.next p ws).2 : Nat) : Int)) ∧ MAt w0 x f w' (m.next p ws).1 := by
  have HG : Hid (m.next p ws = (m.need (sp p (word ws 1)), word ws 2)) := by unfold Hid RM.next; simp [hw, hz]
  rw [HG.out]
  have hln : (ws.length : Int) = 4 := by omega
  have y0 := hR.on h (j := 0) (by omega)
  rw [hw] at y0
  have y1 := hR.on h (j := 1) (by omega)
  have KI := int_any hC h h1
  go_enter Tryz.func93, Tryz.ntmps93
  go_wp2_with (go_at_call 147; refine KI.mono ?_; rintro e w1 ⟨rfl, vb, vt, hV⟩; obtain ⟨c0, c1, c2, c3, c4, c5, c6, c7, c8, c9⟩ := hV.facts; have y2 := hR.at hV (j := 2) (by omega); have KB := block_call hC ⟨_, _, hV.below ((Below.refl w1.heap.size w1).drew)⟩ hb)
  go_upto_region 7 with fail
  go_region_law (go_simp; go_at_call 89; refine KB.mono ?_; rintro e w9 ⟨rfl, hM9⟩)
  all_goals go_wp2_with fail
  all_goals go_ret
  all_goals exact ⟨rfl, hM9⟩
set_option maxRecDepth 20000 in
set_option maxHeartbeats 2000000 in
theorem next_test1 (hC : Ctx w0 p f) (h : MAt w0 x f w m) (hR : Row w0 ws gw) (hn : ws.length = 4) (h1 : (word ws 1).length ≤ maxLen) (hb : Bw p (word ws 2)) (hw : word ws 0 = [116, 101, 115, 116]) (h50 : 0 ≤ valW (word ws 1) ∧ valW (word ws 1) < 50) (hz : m.flags.getD (valW (word ws 1)).toNat false = true) :
    Calls Tryz.prog 93 #[.pointer (some ⟨x, 0, none⟩), .slice (some ⟨gw, 0, none⟩) ws.length cw] w fun e w' => e = .returned (.int .i64 ((blockW p (m.next p ws).2 : Nat) : Int)) ∧ MAt w0 x f w' (m.next p ws).1 := by
  have HG : Hid (m.next p ws = (m, word ws 2)) := by unfold Hid RM.next; simp only; rw [hw, if_neg (by decide), if_neg (by decide), if_neg (by decide), hz]; rfl
  rw [HG.out]
  have hln : (ws.length : Int) = 4 := by omega
  have y0 := hR.on h (j := 0) (by omega)
  rw [hw] at y0
  have y1 := hR.on h (j := 1) (by omega)
  have KN := number_any (bs (word ws 1)) w (by rw [size_bs]; exact h1)
  rw [toList_bs] at KN
  obtain ⟨vb, vt, hV⟩ := h
  obtain ⟨c0, c1, c2, c3, c4, c5, c6, c7, c8, c9⟩ := hV.facts
  have y2 := hR.at hV (j := 2) (by omega)
  have KB := block_call hC ⟨_, _, hV.below ((Below.refl w.heap.size w).drew)⟩ hb
  obtain ⟨a1, a2⟩ := hV.flagAt (j := (valW (word ws 1)).toNat) (by omega)
  rw [hz] at a1
  have e1 : ((number (word ws 1)).getD 0) = (((valW (word ws 1)).toNat : Nat) : Int) := by unfold valW at h50 ⊢; omega
  rw [e1] at KN
  have e2 : (((valW (word ws 1)).toNat : Nat) : Int) < 50 := by omega
  generalize (valW (word ws 1)).toNat = n at *
  go_enter Tryz.func93, Tryz.ntmps93
  go_wp2_with (go_at_call 112; refine KN.mono ?_; rintro e w1 ⟨rfl, rfl⟩)
  go_upto_region 17 with fail
  go_region_law (go_simp; go_at_call 89; refine KB.mono ?_; rintro e w9 ⟨rfl, hM9⟩)
  all_goals go_wp2_with fail
  all_goals go_ret
  all_goals exact ⟨rfl, hM9⟩
set_option maxRecDepth 20000 in
set_option maxHeartbeats 2000000 in
theorem next_test0 (hC : Ctx w0 p f) (h : MAt w0 x f w m) (hR : Row w0 ws gw) (hn : ws.length = 4) (h1 : (word ws 1).length ≤ maxLen) (hb : Bw p (word ws 3)) (hw : word ws 0 = [116, 101, 115, 116]) (h50 : 0 ≤ valW (word ws 1) ∧ valW (word ws 1) < 50) (hz : m.flags.getD (valW (word ws 1)).toNat false = false) :
    Calls Tryz.prog 93 #[.pointer (some ⟨x, 0, none⟩), .slice (some ⟨gw, 0, none⟩) ws.length cw] w fun e w' => e = .returned (.int .i64 ((blockW p (m.next p ws).2 : Nat) : Int)) ∧ MAt w0 x f w' (m.next p ws).1 := by
  have HG : Hid (m.next p ws = (m, word ws 3)) := by unfold Hid RM.next; simp only; rw [hw, if_neg (by decide), if_neg (by decide), if_neg (by decide), hz]; rfl
  rw [HG.out]
  have hln : (ws.length : Int) = 4 := by omega
  have y0 := hR.on h (j := 0) (by omega)
  rw [hw] at y0
  have y1 := hR.on h (j := 1) (by omega)
  have KN := number_any (bs (word ws 1)) w (by rw [size_bs]; exact h1)
  rw [toList_bs] at KN
  obtain ⟨vb, vt, hV⟩ := h
  obtain ⟨c0, c1, c2, c3, c4, c5, c6, c7, c8, c9⟩ := hV.facts
  have y2 := hR.at hV (j := 3) (by omega)
  have KB := block_call hC ⟨_, _, hV.below ((Below.refl w.heap.size w).drew)⟩ hb
  obtain ⟨a1, a2⟩ := hV.flagAt (j := (valW (word ws 1)).toNat) (by omega)
  rw [hz] at a1
  have e1 : ((number (word ws 1)).getD 0) = (((valW (word ws 1)).toNat : Nat) : Int) := by unfold valW at h50 ⊢; omega
  rw [e1] at KN
  have e2 : (((valW (word ws 1)).toNat : Nat) : Int) < 50 := by omega
  generalize (valW (word ws 1)).toNat = n at *
  go_enter Tryz.func93, Tryz.ntmps93
  go_wp2_with (go_at_call 112; refine KN.mono ?_; rintro e w1 ⟨rfl, rfl⟩)
  go_upto_region 18 with fail
  go_region_law (go_simp; go_at_call 89; refine KB.mono ?_; rintro e w9 ⟨rfl, hM9⟩)
  all_goals go_wp2_with fail
  all_goals go_ret
  all_goals exact ⟨rfl, hM9⟩
set_option maxRecDepth 20000 in
set_option maxHeartbeats 2000000 in
theorem next_match0 (hC : Ctx w0 p f) (h : MAt w0 x f w m) (hR : Row w0 ws gw) (hn : ws.length = 4) (h1 : Wd p (word ws 1)) (hb : Bw p (word ws 3)) (hw : word ws 0 = [109, 97, 116, 99, 104]) (hz : m.how.getD (sp p (word ws 1)) 0 = 0) :
    Calls Tryz.prog 93 #[.pointer (some ⟨x, 0, none⟩), .slice (some ⟨gw, 0, none⟩) ws.length cw] w fun e w' => e = .returned (.int .i64 ((blockW p (m.next p ws).2 : Nat) : Int)) ∧ MAt w0 x f w' (m.next p ws).1 := by
  have HG : Hid (m.next p ws = ({ m with out := 5 }, word ws 3)) := by unfold Hid RM.next; simp only; rw [hw, if_neg (by decide), if_neg (by decide), if_pos (show ([109, 97, 116, 99, 104] : B) = wMatch from rfl), if_pos hz, if_neg (by rw [hz]; decide)]
  rw [HG.out]
  have hln : (ws.length : Int) = 4 := by omega
  have y0 := hR.on h (j := 0) (by omega)
  rw [hw] at y0
  have y1 := hR.on h (j := 1) (by omega)
  have KS := spot_any hC (h.below ((Below.refl w.heap.size w).drew)) h1
  obtain ⟨hi, -⟩ := h1.lt hC.twelve
  have i1 : ((sp p (word ws 1) : Nat) : Int) < 24 := by omega
  go_enter Tryz.func93, Tryz.ntmps93
  go_upto_region 9 with fail
  go_region_law (go_simp; go_at_call 149; refine KS.mono ?_; rintro e w1 ⟨rfl, vb, vt, hV⟩; obtain ⟨c0, c1, c2, c3, c4, c5, c6, c7, c8, c9⟩ := hV.facts; obtain ⟨f1, f2, f3, f4, f5, f6⟩ := hV.frozs; obtain ⟨a1, a2⟩ := hV.howAt hi; rw [hz] at a1; have hV5 : MAtV w0 x f (w1.setCell ⟨x, 154, none⟩ (.int .i64 5)) { m with out := 5 } vb vt := hV.setOut 5; have y2 := hR.at hV5 (j := 3) (by omega); have KB := block_call hC ⟨_, _, hV5.below ((Below.refl _ _).drew)⟩ hb)
  all_goals go_upto_region 18 with fail
  all_goals go_region_law (go_simp; go_at_call 89; refine KB.mono ?_; rintro e w9 ⟨rfl, hM9⟩)
  all_goals go_wp2_with fail
  all_goals go_ret
  all_goals exact ⟨rfl, hM9⟩
set_option maxRecDepth 20000 in
set_option maxHeartbeats 2000000 in
theorem next_match1 (hC : Ctx w0 p f) (h : MAt w0 x f w m) (hR : Row w0 ws gw) (hn : ws.length = 4) (h1 : Wd p (word ws 1)) (hb : Bw p (word ws 2)) (hw : word ws 0 = [109, 97, 116, 99, 104]) (hz : m.how.getD (sp p (word ws 1)) 0 = 110) :
    Calls Tryz.prog 93 #[.pointer (some ⟨x, 0, none⟩), .slice (some ⟨gw, 0, none⟩) ws.length cw] w fun e w' => e = .returned (.int .i64 ((blockW p (m.next p ws).2 : Nat) : Int)) ∧ MAt w0 x f w' (m.next p ws).1 := by
  have HG : Hid (m.next p ws = (m, word ws 2)) := by unfold Hid RM.next; simp only; rw [hw, if_neg (by decide), if_neg (by decide), if_pos (show ([109, 97, 116, 99, 104] : B) = wMatch from rfl), if_neg (by rw [hz]; decide), if_pos hz]
  rw [HG.out]
  have hln : (ws.length : Int) = 4 := by omega
  have y0 := hR.on h (j := 0) (by omega)
  rw [hw] at y0
  have y1 := hR.on h (j := 1) (by omega)
  have KS := spot_any hC (h.below ((Below.refl w.heap.size w).drew)) h1
  obtain ⟨hi, -⟩ := h1.lt hC.twelve
  have i1 : ((sp p (word ws 1) : Nat) : Int) < 24 := by omega
  go_enter Tryz.func93, Tryz.ntmps93
  go_upto_region 9 with fail
  go_region_law (go_simp; go_at_call 149; refine KS.mono ?_; rintro e w1 ⟨rfl, vb, vt, hV⟩; obtain ⟨c0, c1, c2, c3, c4, c5, c6, c7, c8, c9⟩ := hV.facts; obtain ⟨f1, f2, f3, f4, f5, f6⟩ := hV.frozs; obtain ⟨a1, a2⟩ := hV.howAt hi; rw [hz] at a1; have y2 := hR.at hV (j := 2) (by omega); have KB := block_call hC ⟨_, _, hV.below ((Below.refl _ _).drew)⟩ hb)
  all_goals go_upto_region 13 with fail
  all_goals go_region_law (go_simp; go_at_call 89; refine KB.mono ?_; rintro e w9 ⟨rfl, hM9⟩)
  all_goals go_wp2_with fail
  all_goals go_ret
  all_goals exact ⟨rfl, hM9⟩
set_option maxRecDepth 20000 in
set_option maxHeartbeats 2000000 in
theorem next_match2 (hC : Ctx w0 p f) (h : MAt w0 x f w m) (hR : Row w0 ws gw) (hn : ws.length = 4) (h1 : Wd p (word ws 1)) (hb : Bw p (word ws 3)) (hw : word ws 0 = [109, 97, 116, 99, 104]) (hz : ¬ m.how.getD (sp p (word ws 1)) 0 = 0) (hz2 : ¬ m.how.getD (sp p (word ws 1)) 0 = 110) :
    Calls Tryz.prog 93 #[.pointer (some ⟨x, 0, none⟩), .slice (some ⟨gw, 0, none⟩) ws.length cw] w fun e w' => e = .returned (.int .i64 ((blockW p (m.next p ws).2 : Nat) : Int)) ∧ MAt w0 x f w' (m.next p ws).1 := by
  have HG : Hid (m.next p ws = (m, word ws 3)) := by unfold Hid RM.next; simp only; rw [hw, if_neg (by decide), if_neg (by decide), if_pos (show ([109, 97, 116, 99, 104] : B) = wMatch from rfl), if_neg hz, if_neg hz2]
  rw [HG.out]
  have hln : (ws.length : Int) = 4 := by omega
  have y0 := hR.on h (j := 0) (by omega)
  rw [hw] at y0
  have y1 := hR.on h (j := 1) (by omega)
  have KS := spot_any hC (h.below ((Below.refl w.heap.size w).drew)) h1
  obtain ⟨hi, -⟩ := h1.lt hC.twelve
  have hq1 : ¬ ((m.how.getD (sp p (word ws 1)) 0).toNat : Int) = 0 := fun e => hz (UInt8.toNat_inj.1 (by rw [show (0 : UInt8).toNat = 0 from rfl]; omega))
  have hq2 : ¬ ((m.how.getD (sp p (word ws 1)) 0).toNat : Int) = 110 := fun e => hz2 (UInt8.toNat_inj.1 (by rw [show (110 : UInt8).toNat = 110 from rfl]; omega))
  have i1 : ((sp p (word ws 1) : Nat) : Int) < 24 := by omega
  go_enter Tryz.func93, Tryz.ntmps93
  go_upto_region 9 with fail
  go_region_law (go_simp; go_at_call 149; refine KS.mono ?_; rintro e w1 ⟨rfl, vb, vt, hV⟩; obtain ⟨c0, c1, c2, c3, c4, c5, c6, c7, c8, c9⟩ := hV.facts; obtain ⟨f1, f2, f3, f4, f5, f6⟩ := hV.frozs; obtain ⟨a1, a2⟩ := hV.howAt hi; generalize m.how.getD (sp p (word ws 1)) 0 = hc at a1 hq1 hq2; have y2 := hR.at hV (j := 3) (by omega); have KB := block_call hC ⟨_, _, hV.below ((Below.refl _ _).drew)⟩ hb)
  all_goals go_upto_region 18 with fail
  all_goals go_region_law (go_simp; go_at_call 89; refine KB.mono ?_; rintro e w9 ⟨rfl, hM9⟩)
  all_goals go_wp2_with fail
  all_goals go_ret
  all_goals exact ⟨rfl, hM9⟩
end
end Go.Proofs.YtmlgajhhnojdjaaGreatDoor.Mac
/- The document's own machine: a statement, walked, word by word. -/
namespace Go.Proofs.YtmlgajhhnojdjaaGreatDoor.Mac
open Go Go.RowKit Go.Proofs.YtmlgajhhnojdjaaGreatDoor.Spec Go.Proofs.YtmlgajhhnojdjaaGreatDoor.Aux Go.Proofs.YtmlgajhhnojdjaaGreatDoor.PrjJ Go.Proofs.YtmlgajhhnojdjaaGreatDoor.PrjK Go.Proofs.YtmlgajhhnojdjaaGreatDoor.PrjL Go.Proofs.YtmlgajhhnojdjaaGreatDoor.PrjM Go.Proofs.YtmlgajhhnojdjaaGreatDoor.Own Go.Proofs.YtmlgajhhnojdjaaGreatDoor.RefRa Go.Proofs.YtmlgajhhnojdjaaGreatDoor.RefP Go.Proofs.YtmlgajhhnojdjaaGreatDoor.RefC

section
variable {w0 w w1 w2 w3 : World} {x gw cw : Nat} {f : Fx} {m : RM} {p : RP} {ws : List B} {t : Nat} {vb vt : Value} {inp : List Int}
set_option maxRecDepth 20000 in
set_option maxHeartbeats 2000000 in
theorem does_set (hC : Ctx w0 p f) (h : MAt w0 x f w m) (hR : Row w0 ws gw) (hn : ws.length = 3) (hw : word ws 0 = [115, 101, 116]) (h1 : Wd p (word ws 1)) (h2 : (word ws 2).length ≤ maxLen) :
    Calls Tryz.prog 94 #[.pointer (some ⟨x, 0, none⟩), .slice (some ⟨gw, 0, none⟩) ws.length cw] w fun e w' => e = .returned (.tuple #[]) ∧ MAt w0 x f w' (m.does f p inp ws) := by
  have HG : Hid (m.does f p inp ws = m.be (sp p (word ws 1)) (valW (word ws 2))) := by unfold Hid RM.does; simp only [hw]; rfl
  have hln : (ws.length : Int) = 3 := by omega
  have y0 := hR.on h (j := 0) (by omega)
  rw [hw] at y0
  have y1 := hR.on h (j := 1) (by omega)
  have y2 := hR.on h (j := 2) (by omega)
  have KN := number_any (bs (word ws 2)) w (by rw [size_bs]; exact h2)
  rw [toList_bs] at KN
  have KB := be_any hC h h1 (valW (word ws 2))
  go_enter Tryz.func94, Tryz.ntmps94
  go_wp2_with (first
    | (go_at_call 112; refine KN.mono ?_; rintro e w1 ⟨rfl, rfl⟩)
    | (go_at_call 150; refine KB.mono ?_; rintro e w2 ⟨rfl, hM⟩))
  go_end0
  exact ⟨rfl, by rw [HG.out]; exact hM⟩
end
end Go.Proofs.YtmlgajhhnojdjaaGreatDoor.Mac
/- The document's own machine: a statement, walked, word by word. -/
namespace Go.Proofs.YtmlgajhhnojdjaaGreatDoor.Mac
open Go Go.RowKit Go.Proofs.YtmlgajhhnojdjaaGreatDoor.Spec Go.Proofs.YtmlgajhhnojdjaaGreatDoor.Aux Go.Proofs.YtmlgajhhnojdjaaGreatDoor.PrjJ Go.Proofs.YtmlgajhhnojdjaaGreatDoor.PrjK Go.Proofs.YtmlgajhhnojdjaaGreatDoor.PrjL Go.Proofs.YtmlgajhhnojdjaaGreatDoor.PrjM Go.Proofs.YtmlgajhhnojdjaaGreatDoor.Own Go.Proofs.YtmlgajhhnojdjaaGreatDoor.RefRa Go.Proofs.YtmlgajhhnojdjaaGreatDoor.RefP Go.Proofs.YtmlgajhhnojdjaaGreatDoor.RefC

section
variable {w0 w w1 w2 w3 : World} {x gw cw : Nat} {f : Fx} {m : RM} {p : RP} {ws : List B} {t : Nat} {vb vt : Value} {inp : List Int}
set_option maxRecDepth 20000 in
set_option maxHeartbeats 2000000 in
theorem does_add (hC : Ctx w0 p f) (h : MAt w0 x f w m) (hR : Row w0 ws gw) (hn : ws.length = 4) (hw : word ws 0 = [97, 100, 100]) (h1 : Wd p (word ws 1)) (h2 : Wd p (word ws 2)) (h3 : Wd p (word ws 3)) :
    Calls Tryz.prog 94 #[.pointer (some ⟨x, 0, none⟩), .slice (some ⟨gw, 0, none⟩) ws.length cw] w fun e w' => e = .returned (.tuple #[]) ∧ MAt w0 x f w' (m.does f p inp ws) := by
  have HG : Hid (m.does f p inp ws = m.arith p ws) := by unfold Hid RM.does; simp only [hw]; rfl
  have hln : (ws.length : Int) = 4 := by omega
  have y0 := hR.on h (j := 0) (by omega)
  rw [hw] at y0
  have KA := arith_any (cw := cw) hC h hR hn h1 h2 h3 (by rw [hw]; decide)
  rw [hn] at KA
  go_enter Tryz.func94, Tryz.ntmps94
  go_wp2_with (go_at_call 151; refine KA.mono ?_; rintro e w2 ⟨rfl, hM⟩)
  go_end0
  exact ⟨rfl, by rw [HG.out]; exact hM⟩
end
end Go.Proofs.YtmlgajhhnojdjaaGreatDoor.Mac
/- The document's own machine: a statement, walked, word by word. -/
namespace Go.Proofs.YtmlgajhhnojdjaaGreatDoor.Mac
open Go Go.RowKit Go.Proofs.YtmlgajhhnojdjaaGreatDoor.Spec Go.Proofs.YtmlgajhhnojdjaaGreatDoor.Aux Go.Proofs.YtmlgajhhnojdjaaGreatDoor.PrjJ Go.Proofs.YtmlgajhhnojdjaaGreatDoor.PrjK Go.Proofs.YtmlgajhhnojdjaaGreatDoor.PrjL Go.Proofs.YtmlgajhhnojdjaaGreatDoor.PrjM Go.Proofs.YtmlgajhhnojdjaaGreatDoor.Own Go.Proofs.YtmlgajhhnojdjaaGreatDoor.RefRa Go.Proofs.YtmlgajhhnojdjaaGreatDoor.RefP Go.Proofs.YtmlgajhhnojdjaaGreatDoor.RefC

section
variable {w0 w w1 w2 w3 : World} {x gw cw : Nat} {f : Fx} {m : RM} {p : RP} {ws : List B} {t : Nat} {vb vt : Value} {inp : List Int}
set_option maxRecDepth 20000 in
set_option maxHeartbeats 2000000 in
theorem does_sub (hC : Ctx w0 p f) (h : MAt w0 x f w m) (hR : Row w0 ws gw) (hn : ws.length = 4) (hw : word ws 0 = [115, 117, 98]) (h1 : Wd p (word ws 1)) (h2 : Wd p (word ws 2)) (h3 : Wd p (word ws 3)) :
    Calls Tryz.prog 94 #[.pointer (some ⟨x, 0, none⟩), .slice (some ⟨gw, 0, none⟩) ws.length cw] w fun e w' => e = .returned (.tuple #[]) ∧ MAt w0 x f w' (m.does f p inp ws) := by
  have HG : Hid (m.does f p inp ws = m.arith p ws) := by unfold Hid RM.does; simp only [hw]; rfl
  have hln : (ws.length : Int) = 4 := by omega
  have y0 := hR.on h (j := 0) (by omega)
  rw [hw] at y0
  have KA := arith_any (cw := cw) hC h hR hn h1 h2 h3 (by rw [hw]; decide)
  rw [hn] at KA
  go_enter Tryz.func94, Tryz.ntmps94
  go_wp2_with (go_at_call 151; refine KA.mono ?_; rintro e w2 ⟨rfl, hM⟩)
  go_end0
  exact ⟨rfl, by rw [HG.out]; exact hM⟩
end
end Go.Proofs.YtmlgajhhnojdjaaGreatDoor.Mac
/- The document's own machine: a statement, walked, word by word. -/
namespace Go.Proofs.YtmlgajhhnojdjaaGreatDoor.Mac
open Go Go.RowKit Go.Proofs.YtmlgajhhnojdjaaGreatDoor.Spec Go.Proofs.YtmlgajhhnojdjaaGreatDoor.Aux Go.Proofs.YtmlgajhhnojdjaaGreatDoor.PrjJ Go.Proofs.YtmlgajhhnojdjaaGreatDoor.PrjK Go.Proofs.YtmlgajhhnojdjaaGreatDoor.PrjL Go.Proofs.YtmlgajhhnojdjaaGreatDoor.PrjM Go.Proofs.YtmlgajhhnojdjaaGreatDoor.Own Go.Proofs.YtmlgajhhnojdjaaGreatDoor.RefRa Go.Proofs.YtmlgajhhnojdjaaGreatDoor.RefP Go.Proofs.YtmlgajhhnojdjaaGreatDoor.RefC

section
variable {w0 w w1 w2 w3 : World} {x gw cw : Nat} {f : Fx} {m : RM} {p : RP} {ws : List B} {t : Nat} {vb vt : Value} {inp : List Int}
set_option maxRecDepth 20000 in
set_option maxHeartbeats 2000000 in
theorem does_mul (hC : Ctx w0 p f) (h : MAt w0 x f w m) (hR : Row w0 ws gw) (hn : ws.length = 4) (hw : word ws 0 = [109, 117, 108]) (h1 : Wd p (word ws 1)) (h2 : Wd p (word ws 2)) (h3 : Wd p (word ws 3)) :
    Calls Tryz.prog 94 #[.pointer (some ⟨x, 0, none⟩), .slice (some ⟨gw, 0, none⟩) ws.length cw] w fun e w' => e = .returned (.tuple #[]) ∧ MAt w0 x f w' (m.does f p inp ws) := by
  have HG : Hid (m.does f p inp ws = m.arith p ws) := by unfold Hid RM.does; simp only [hw]; rfl
  have hln : (ws.length : Int) = 4 := by omega
  have y0 := hR.on h (j := 0) (by omega)
  rw [hw] at y0
  have KA := arith_any (cw := cw) hC h hR hn h1 h2 h3 (by rw [hw]; decide)
  rw [hn] at KA
  go_enter Tryz.func94, Tryz.ntmps94
  go_wp2_with (go_at_call 151; refine KA.mono ?_; rintro e w2 ⟨rfl, hM⟩)
  go_end0
  exact ⟨rfl, by rw [HG.out]; exact hM⟩
end
end Go.Proofs.YtmlgajhhnojdjaaGreatDoor.Mac
/- The document's own machine: a statement, walked, word by word. -/
namespace Go.Proofs.YtmlgajhhnojdjaaGreatDoor.Mac
open Go Go.RowKit Go.Proofs.YtmlgajhhnojdjaaGreatDoor.Spec Go.Proofs.YtmlgajhhnojdjaaGreatDoor.Aux Go.Proofs.YtmlgajhhnojdjaaGreatDoor.PrjJ Go.Proofs.YtmlgajhhnojdjaaGreatDoor.PrjK Go.Proofs.YtmlgajhhnojdjaaGreatDoor.PrjL Go.Proofs.YtmlgajhhnojdjaaGreatDoor.PrjM Go.Proofs.YtmlgajhhnojdjaaGreatDoor.Own Go.Proofs.YtmlgajhhnojdjaaGreatDoor.RefRa Go.Proofs.YtmlgajhhnojdjaaGreatDoor.RefP Go.Proofs.YtmlgajhhnojdjaaGreatDoor.RefC

section
variable {w0 w w1 w2 w3 : World} {x gw cw : Nat} {f : Fx} {m : RM} {p : RP} {ws : List B} {t : Nat} {vb vt : Value} {inp : List Int}
set_option maxRecDepth 20000 in
set_option maxHeartbeats 2000000 in
theorem does_div (hC : Ctx w0 p f) (h : MAt w0 x f w m) (hR : Row w0 ws gw) (hn : ws.length = 4) (hw : word ws 0 = [100, 105, 118]) (h1 : Wd p (word ws 1)) (h2 : Wd p (word ws 2)) (h3 : Wd p (word ws 3)) :
    Calls Tryz.prog 94 #[.pointer (some ⟨x, 0, none⟩), .slice (some ⟨gw, 0, none⟩) ws.length cw] w fun e w' => e = .returned (.tuple #[]) ∧ MAt w0 x f w' (m.does f p inp ws) := by
  have HG : Hid (m.does f p inp ws = m.arith p ws) := by unfold Hid RM.does; simp only [hw]; rfl
  have hln : (ws.length : Int) = 4 := by omega
  have y0 := hR.on h (j := 0) (by omega)
  rw [hw] at y0
  have KA := arith_any (cw := cw) hC h hR hn h1 h2 h3 (by rw [hw]; decide)
  rw [hn] at KA
  go_enter Tryz.func94, Tryz.ntmps94
  go_wp2_with (go_at_call 151; refine KA.mono ?_; rintro e w2 ⟨rfl, hM⟩)
  go_end0
  exact ⟨rfl, by rw [HG.out]; exact hM⟩
end
end Go.Proofs.YtmlgajhhnojdjaaGreatDoor.Mac
/- The document's own machine: a statement, walked, word by word. -/
namespace Go.Proofs.YtmlgajhhnojdjaaGreatDoor.Mac
open Go Go.RowKit Go.Proofs.YtmlgajhhnojdjaaGreatDoor.Spec Go.Proofs.YtmlgajhhnojdjaaGreatDoor.Aux Go.Proofs.YtmlgajhhnojdjaaGreatDoor.PrjJ Go.Proofs.YtmlgajhhnojdjaaGreatDoor.PrjK Go.Proofs.YtmlgajhhnojdjaaGreatDoor.PrjL Go.Proofs.YtmlgajhhnojdjaaGreatDoor.PrjM Go.Proofs.YtmlgajhhnojdjaaGreatDoor.Own Go.Proofs.YtmlgajhhnojdjaaGreatDoor.RefRa Go.Proofs.YtmlgajhhnojdjaaGreatDoor.RefP Go.Proofs.YtmlgajhhnojdjaaGreatDoor.RefC

section
variable {w0 w w1 w2 w3 : World} {x gw cw : Nat} {f : Fx} {m : RM} {p : RP} {ws : List B} {t : Nat} {vb vt : Value} {inp : List Int}
set_option maxRecDepth 20000 in
set_option maxHeartbeats 2000000 in
theorem does_out (hC : Ctx w0 p f) (h : MAt w0 x f w m) (hR : Row w0 ws gw) (hn : ws.length = 2) (hw : word ws 0 = [111, 117, 116]) (h1 : Wd p (word ws 1)) (h0 : m.out = 0) (hh : m.has.getD (sp p (word ws 1)) false = true) (hO : m.Ok t) (ht : t ≤ 2000000) :
    Calls Tryz.prog 94 #[.pointer (some ⟨x, 0, none⟩), .slice (some ⟨gw, 0, none⟩) ws.length cw] w fun e w' => e = .returned (.tuple #[]) ∧ MAt w0 x f w' (m.does f p inp ws) := by
  have HG : Hid (m.does f p inp ws = m.tell p ws) := by unfold Hid RM.does; simp only [hw]; rfl
  have hln : (ws.length : Int) = 2 := by omega
  have y0 := hR.on h (j := 0) (by omega)
  rw [hw] at y0
  have HX : Hid (m.tell p ws = m.note 111 (m.int (sp p (word ws 1)))) := by unfold Hid RM.tell; simp only; rw [need_yes hh, if_pos h0]
  have y1 := hR.on h (j := 1) (by omega)
  have KI := int_any hC h h1
  rw [need_yes hh] at KI
  have htr := hO.trace
  have hi64 : isI64 (m.int (sp p (word ws 1))) := hO.ints _
  go_enter Tryz.func94, Tryz.ntmps94
  go_wp2_with (first
    | (go_at_call 147; refine KI.mono ?_; rintro e w1 ⟨rfl, vb1, vt1, hV1⟩; obtain ⟨c0, c1, c2, c3, c4, c5, c6, c7, c8, c9⟩ := hV1.facts; obtain ⟨f1, f2, f3, f4, f5, f6⟩ := hV1.frozs; rw [h0] at c8; have KN : Calls Tryz.prog 152 #[.pointer (some ⟨x, 0, none⟩), .string ⟨#[111]⟩, .int .i64 (m.int (sp p (word ws 1)))] _ _ := note_any ⟨_, _, hV1⟩ 111 (m.int (sp p (word ws 1))) hi64 (by omega))
    | (go_at_call 152; refine KN.mono ?_; rintro e w2 ⟨rfl, hM⟩))
  go_end0
  exact ⟨rfl, by rw [HG.out, HX.out]; exact hM⟩
end
end Go.Proofs.YtmlgajhhnojdjaaGreatDoor.Mac
/- The document's own machine: a statement, walked, word by word. -/
namespace Go.Proofs.YtmlgajhhnojdjaaGreatDoor.Mac
open Go Go.RowKit Go.Proofs.YtmlgajhhnojdjaaGreatDoor.Spec Go.Proofs.YtmlgajhhnojdjaaGreatDoor.Aux Go.Proofs.YtmlgajhhnojdjaaGreatDoor.PrjJ Go.Proofs.YtmlgajhhnojdjaaGreatDoor.PrjK Go.Proofs.YtmlgajhhnojdjaaGreatDoor.PrjL Go.Proofs.YtmlgajhhnojdjaaGreatDoor.PrjM Go.Proofs.YtmlgajhhnojdjaaGreatDoor.Own Go.Proofs.YtmlgajhhnojdjaaGreatDoor.RefRa Go.Proofs.YtmlgajhhnojdjaaGreatDoor.RefP Go.Proofs.YtmlgajhhnojdjaaGreatDoor.RefC

section
variable {w0 w w1 w2 w3 : World} {x gw cw : Nat} {f : Fx} {m : RM} {p : RP} {ws : List B} {t : Nat} {vb vt : Value} {inp : List Int}
set_option maxRecDepth 20000 in
set_option maxHeartbeats 2000000 in
theorem does_outN (hC : Ctx w0 p f) (h : MAt w0 x f w m) (hR : Row w0 ws gw) (hn : ws.length = 2) (hw : word ws 0 = [111, 117, 116]) (h1 : Wd p (word ws 1)) (hh : ¬ m.has.getD (sp p (word ws 1)) false = true) :
    Calls Tryz.prog 94 #[.pointer (some ⟨x, 0, none⟩), .slice (some ⟨gw, 0, none⟩) ws.length cw] w fun e w' => e = .returned (.tuple #[]) ∧ MAt w0 x f w' (m.does f p inp ws) := by
  have HG : Hid (m.does f p inp ws = m.tell p ws) := by unfold Hid RM.does; simp only [hw]; rfl
  have hln : (ws.length : Int) = 2 := by omega
  have y0 := hR.on h (j := 0) (by omega)
  rw [hw] at y0
  have HX : Hid (m.tell p ws = { m with out := 5 }) := by unfold Hid RM.tell; simp only; rw [need_not hh, if_neg (by simp)]
  have y1 := hR.on h (j := 1) (by omega)
  have KI := int_any hC h h1
  rw [need_not hh] at KI
  go_enter Tryz.func94, Tryz.ntmps94
  go_wp2_with (go_at_call 147; refine KI.mono ?_; rintro e w1 ⟨rfl, vb1, vt1, hV1⟩; obtain ⟨c0, c1, c2, c3, c4, c5, c6, c7, c8, c9⟩ := hV1.facts; obtain ⟨f1, f2, f3, f4, f5, f6⟩ := hV1.frozs)
  go_end0
  exact ⟨rfl, by rw [HG.out, HX.out]; exact ⟨_, _, hV1⟩⟩
end
end Go.Proofs.YtmlgajhhnojdjaaGreatDoor.Mac
/- The document's own machine: a statement, walked, word by word. -/
namespace Go.Proofs.YtmlgajhhnojdjaaGreatDoor.Mac
open Go Go.RowKit Go.Proofs.YtmlgajhhnojdjaaGreatDoor.Spec Go.Proofs.YtmlgajhhnojdjaaGreatDoor.Aux Go.Proofs.YtmlgajhhnojdjaaGreatDoor.PrjJ Go.Proofs.YtmlgajhhnojdjaaGreatDoor.PrjK Go.Proofs.YtmlgajhhnojdjaaGreatDoor.PrjL Go.Proofs.YtmlgajhhnojdjaaGreatDoor.PrjM Go.Proofs.YtmlgajhhnojdjaaGreatDoor.Own Go.Proofs.YtmlgajhhnojdjaaGreatDoor.RefRa Go.Proofs.YtmlgajhhnojdjaaGreatDoor.RefP Go.Proofs.YtmlgajhhnojdjaaGreatDoor.RefC

section
variable {w0 w w1 w2 w3 : World} {x gw cw : Nat} {f : Fx} {m : RM} {p : RP} {ws : List B} {t : Nat} {vb vt : Value} {inp : List Int}
set_option maxRecDepth 20000 in
set_option maxHeartbeats 2000000 in
theorem does_new (hC : Ctx w0 p f) (h : MAt w0 x f w m) (hR : Row w0 ws gw) (hn : ws.length = 3) (hw : word ws 0 = [110, 101, 119]) (h1 : Wd p (word ws 1)) (h2 : Wd p (word ws 2)) (h0 : m.out = 0) (hO : m.Ok t) (ht : t ≤ 2000000) :
    Calls Tryz.prog 94 #[.pointer (some ⟨x, 0, none⟩), .slice (some ⟨gw, 0, none⟩) ws.length cw] w fun e w' => e = .returned (.tuple #[]) ∧ MAt w0 x f w' (m.does f p inp ws) := by
  have HG : Hid (m.does f p inp ws = m.new f p ws) := by unfold Hid RM.does; simp only [hw]; rfl
  have hln : (ws.length : Int) = 3 := by omega
  have y0 := hR.on h (j := 0) (by omega)
  rw [hw] at y0
  have KA := new_any (cw := cw) hC h hR hn h1 h2 h0 hw hO ht
  rw [hn] at KA
  go_enter Tryz.func94, Tryz.ntmps94
  go_wp2_with (go_at_call 153; refine KA.mono ?_; rintro e w2 ⟨rfl, hM⟩)
  go_end0
  exact ⟨rfl, by rw [HG.out]; exact hM⟩
end
end Go.Proofs.YtmlgajhhnojdjaaGreatDoor.Mac
/- The document's own machine: a statement, walked, word by word. -/
namespace Go.Proofs.YtmlgajhhnojdjaaGreatDoor.Mac
open Go Go.RowKit Go.Proofs.YtmlgajhhnojdjaaGreatDoor.Spec Go.Proofs.YtmlgajhhnojdjaaGreatDoor.Aux Go.Proofs.YtmlgajhhnojdjaaGreatDoor.PrjJ Go.Proofs.YtmlgajhhnojdjaaGreatDoor.PrjK Go.Proofs.YtmlgajhhnojdjaaGreatDoor.PrjL Go.Proofs.YtmlgajhhnojdjaaGreatDoor.PrjM Go.Proofs.YtmlgajhhnojdjaaGreatDoor.Own Go.Proofs.YtmlgajhhnojdjaaGreatDoor.RefRa Go.Proofs.YtmlgajhhnojdjaaGreatDoor.RefP Go.Proofs.YtmlgajhhnojdjaaGreatDoor.RefC

section
variable {w0 w w1 w2 w3 : World} {x gw cw : Nat} {f : Fx} {m : RM} {p : RP} {ws : List B} {t : Nat} {vb vt : Value} {inp : List Int}
set_option maxRecDepth 20000 in
set_option maxHeartbeats 2000000 in
theorem does_load (hC : Ctx w0 p f) (h : MAt w0 x f w m) (hR : Row w0 ws gw) (hn : ws.length = 3) (hw : word ws 0 = [108, 111, 97, 100]) (h1 : Wd p (word ws 1)) (h2 : Wd p (word ws 2)) (h0 : m.out = 0) (hO : m.Ok t) (ht : t ≤ 2000000) :
    Calls Tryz.prog 94 #[.pointer (some ⟨x, 0, none⟩), .slice (some ⟨gw, 0, none⟩) ws.length cw] w fun e w' => e = .returned (.tuple #[]) ∧ MAt w0 x f w' (m.does f p inp ws) := by
  have HG : Hid (m.does f p inp ws = m.load p ws) := by unfold Hid RM.does; simp only [hw]; rfl
  have hln : (ws.length : Int) = 3 := by omega
  have y0 := hR.on h (j := 0) (by omega)
  rw [hw] at y0
  have KA := load_any (cw := cw) hC h hR hn h1 h2 h0 hw hO ht
  rw [hn] at KA
  go_enter Tryz.func94, Tryz.ntmps94
  go_wp2_with (go_at_call 153; refine KA.mono ?_; rintro e w2 ⟨rfl, hM⟩)
  go_end0
  exact ⟨rfl, by rw [HG.out]; exact hM⟩
end
end Go.Proofs.YtmlgajhhnojdjaaGreatDoor.Mac
/- The document's own machine: a statement, walked, word by word. -/
namespace Go.Proofs.YtmlgajhhnojdjaaGreatDoor.Mac
open Go Go.RowKit Go.Proofs.YtmlgajhhnojdjaaGreatDoor.Spec Go.Proofs.YtmlgajhhnojdjaaGreatDoor.Aux Go.Proofs.YtmlgajhhnojdjaaGreatDoor.PrjJ Go.Proofs.YtmlgajhhnojdjaaGreatDoor.PrjK Go.Proofs.YtmlgajhhnojdjaaGreatDoor.PrjL Go.Proofs.YtmlgajhhnojdjaaGreatDoor.PrjM Go.Proofs.YtmlgajhhnojdjaaGreatDoor.Own Go.Proofs.YtmlgajhhnojdjaaGreatDoor.RefRa Go.Proofs.YtmlgajhhnojdjaaGreatDoor.RefP Go.Proofs.YtmlgajhhnojdjaaGreatDoor.RefC

section
variable {w0 w w1 w2 w3 : World} {x gw cw : Nat} {f : Fx} {m : RM} {p : RP} {ws : List B} {t : Nat} {vb vt : Value} {inp : List Int}
set_option maxRecDepth 20000 in
set_option maxHeartbeats 2000000 in
theorem does_store (hC : Ctx w0 p f) (h : MAt w0 x f w m) (hR : Row w0 ws gw) (hn : ws.length = 3) (hw : word ws 0 = [115, 116, 111, 114, 101]) (h1 : Wd p (word ws 1)) (h2 : Wd p (word ws 2)) (h0 : m.out = 0) (hO : m.Ok t) (ht : t ≤ 2000000) :
    Calls Tryz.prog 94 #[.pointer (some ⟨x, 0, none⟩), .slice (some ⟨gw, 0, none⟩) ws.length cw] w fun e w' => e = .returned (.tuple #[]) ∧ MAt w0 x f w' (m.does f p inp ws) := by
  have HG : Hid (m.does f p inp ws = m.store p ws) := by unfold Hid RM.does; simp only [hw]; rfl
  have hln : (ws.length : Int) = 3 := by omega
  have y0 := hR.on h (j := 0) (by omega)
  rw [hw] at y0
  have KA := store_any (cw := cw) hC h hR hn h1 h2 h0 hw hO ht
  rw [hn] at KA
  go_enter Tryz.func94, Tryz.ntmps94
  go_wp2_with (go_at_call 153; refine KA.mono ?_; rintro e w2 ⟨rfl, hM⟩)
  go_end0
  exact ⟨rfl, by rw [HG.out]; exact hM⟩
end
end Go.Proofs.YtmlgajhhnojdjaaGreatDoor.Mac
/- The document's own machine: a statement, walked, word by word. -/
namespace Go.Proofs.YtmlgajhhnojdjaaGreatDoor.Mac
theorem hereMacMk : True := trivial
end Go.Proofs.YtmlgajhhnojdjaaGreatDoor.Mac
/- The document's own machine: a statement, walked, word by word. -/
namespace Go.Proofs.YtmlgajhhnojdjaaGreatDoor.Mac
theorem hereMacMl : True := trivial
end Go.Proofs.YtmlgajhhnojdjaaGreatDoor.Mac
/- The document's own machine: a statement, walked, word by word. -/
namespace Go.Proofs.YtmlgajhhnojdjaaGreatDoor.Mac
theorem hereMacMm : True := trivial
end Go.Proofs.YtmlgajhhnojdjaaGreatDoor.Mac
/- The document's own machine: a statement, walked, word by word. -/
namespace Go.Proofs.YtmlgajhhnojdjaaGreatDoor.Mac
theorem hereMacMn : True := trivial
end Go.Proofs.YtmlgajhhnojdjaaGreatDoor.Mac
