/- The document's own machine: new, load, store, walked. -/
import Derived.Test.YtmlgajhhnojdjaaGreatDoorSBB
import Derived.Test.YtmlgajhhnojdjaaGreatDoorSAY
import Derived.Test.YtmlgajhhnojdjaaGreatDoorSAN
import Derived.Deep.DeepFit
import Derived.RangeFuncNested
import Derived.RangeFuncBound
import Derived.RangeFuncCalls
import Derived.RangeFuncLeaves
import Derived.Shelf.Abstract
import Derived.Shelf.RegionOpen
import Derived.WalkKit
import Derived.OwnWalkIn
import Derived.TacticsInMore
import Derived.LoopNIn
import Derived.LoopIn
import Derived.Deep.RegionHeld3
import Derived.WalkMore
import Derived.ScopeJumps
import Derived.Deep.MidRow
import Derived.Deep.QuietTactic
namespace Go.Proofs.YtmlgajhhnojdjaaGreatDoor.Mac
open Go Go.RowKit Go.Proofs.YtmlgajhhnojdjaaGreatDoor.Spec Go.Proofs.YtmlgajhhnojdjaaGreatDoor.Aux Go.Proofs.YtmlgajhhnojdjaaGreatDoor.PrjJ Go.Proofs.YtmlgajhhnojdjaaGreatDoor.PrjK Go.Proofs.YtmlgajhhnojdjaaGreatDoor.PrjL Go.Proofs.YtmlgajhhnojdjaaGreatDoor.PrjM Go.Proofs.YtmlgajhhnojdjaaGreatDoor.Own Go.Proofs.YtmlgajhhnojdjaaGreatDoor.RefRa Go.Proofs.YtmlgajhhnojdjaaGreatDoor.RefP

section
variable {w0 w w1 w2 w3 : World} {x gw cw : Nat} {f : Fx} {m : RM} {p : RP} {ws : List B} {t : Nat} {vb vt : Value}
theorem need_yes {i : Nat} (h : m.has.getD i false = true) : m.need i = m := by unfold RM.need; rw [if_pos h]
theorem need_not {i : Nat} (h : ¬ m.has.getD i false = true) : m.need i = { m with out := 5 } := by unfold RM.need; rw [if_neg h]
theorem boxed_yes {i : Nat} (h : ¬ m.named i = 0) : m.boxed i = m := by unfold RM.boxed; rw [if_neg h]
theorem boxed_not {i : Nat} (h : m.named i = 0) : m.boxed i = { m with out := 5 } := by unfold RM.boxed; rw [if_pos h]
set_option maxRecDepth 20000 in
set_option maxHeartbeats 2000000 in
theorem new_none (hC : Ctx w0 p f) (h : MAt w0 x f w m) (hR : Row w0 ws gw) (hn : ws.length = 3) (h2 : Wd p (word ws 2)) (hw : word ws 0 = [110, 101, 119]) (hh : ¬ m.has.getD (sp p (word ws 2)) false = true) :
    Calls Tryz.prog 153 #[.pointer (some ⟨x, 0, none⟩), .slice (some ⟨gw, 0, none⟩) ws.length cw] w fun e w' => e = .returned (.tuple #[]) ∧ MAt w0 x f w' (m.new f p ws) := by
  have y0 := hR.on h (j := 0) (by omega)
  rw [hw] at y0
  have z2 := hR.on h (j := 2) (by omega)
  have KI := int_any hC h h2
  rw [need_not hh] at KI
  have HG : Hid (m.new f p ws = { m with out := 5 }) := by unfold Hid; unfold RM.new; simp only; rw [need_not hh, if_pos (by simp)]
  have hln : (ws.length : Int) = 3 := by omega
  go_enter Tryz.func153, Tryz.ntmps153
  go_wp2_with (first
    | (go_at_call 147; refine KI.mono ?_; rintro e w1 ⟨rfl, vb1, vt1, hV1⟩; obtain ⟨c0, c1, c2, c3, c4, c5, c6, c7, c8, c9⟩ := hV1.facts; obtain ⟨f1, f2, f3, f4, f5, f6⟩ := hV1.frozs))
  try simp only [Exit.inBlock, Exit.then]
  refine bodyPost_ret (results_none rfl _ _ _) rfl ?_
  exact ⟨rfl, by rw [HG.out]; exact ⟨_, _, hV1⟩⟩
set_option maxRecDepth 20000 in
set_option maxHeartbeats 2000000 in
theorem new_bare (hC : Ctx w0 p f) (h : MAt w0 x f w m) (hR : Row w0 ws gw) (hn : ws.length = 3) (h1 : Wd p (word ws 1)) (h2 : Wd p (word ws 2)) (h0 : m.out = 0) (hw : word ws 0 = [110, 101, 119]) (hh : m.has.getD (sp p (word ws 2)) false = true) (hO : m.Ok t) (ht : t ≤ 2000000) (hf : f.owns = false) :
    Calls Tryz.prog 153 #[.pointer (some ⟨x, 0, none⟩), .slice (some ⟨gw, 0, none⟩) ws.length cw] w fun e w' => e = .returned (.tuple #[]) ∧ MAt w0 x f w' (m.new f p ws) := by
  have y0 := hR.on h (j := 0) (by omega)
  rw [hw] at y0
  have z2 := hR.on h (j := 2) (by omega)
  have KI := int_any hC h h2
  rw [need_yes hh] at KI
  have HG : Hid (m.new f p ws = m.made f (sp p (word ws 1)) (m.int (sp p (word ws 2)))) := by unfold Hid; unfold RM.new; simp only; rw [need_yes hh, if_neg (by rw [h0]; decide), if_neg (by rw [hf]; decide)]
  have hln : (ws.length : Int) = 3 := by omega
  go_enter Tryz.func153, Tryz.ntmps153
  go_wp2_with (first
    | (go_at_call 147; refine KI.mono ?_; rintro e w1 ⟨rfl, vb1, vt1, hV1⟩; obtain ⟨c0, c1, c2, c3, c4, c5, c6, c7, c8, c9⟩ := hV1.facts; obtain ⟨f1, f2, f3, f4, f5, f6⟩ := hV1.frozs; rw [h0] at c8; rw [hf] at c1; have z1 := hR.at hV1 (j := 1) (by omega); have KM := made_any hC ⟨_, _, hV1⟩ h1 (m.int (sp p (word ws 2))) hO (by omega))
    | (go_at_call 192; refine KM.mono ?_; rintro e w9 ⟨rfl, hM9⟩))
  go_end0
  exact ⟨rfl, by rw [HG.out]; exact hM9⟩
set_option maxRecDepth 20000 in
set_option maxHeartbeats 2000000 in
theorem new_owns (hC : Ctx w0 p f) (h : MAt w0 x f w m) (hR : Row w0 ws gw) (hn : ws.length = 3) (h1 : Wd p (word ws 1)) (h2 : Wd p (word ws 2)) (h0 : m.out = 0) (hw : word ws 0 = [110, 101, 119]) (hh : m.has.getD (sp p (word ws 2)) false = true) (hO : m.Ok t) (ht : t ≤ 2000000) (hf : f.owns = true) :
    Calls Tryz.prog 153 #[.pointer (some ⟨x, 0, none⟩), .slice (some ⟨gw, 0, none⟩) ws.length cw] w fun e w' => e = .returned (.tuple #[]) ∧ MAt w0 x f w' (m.new f p ws) := by
  have y0 := hR.on h (j := 0) (by omega)
  rw [hw] at y0
  have z2 := hR.on h (j := 2) (by omega)
  have KI := int_any hC h h2
  rw [need_yes hh] at KI
  have HG : Hid (m.new f p ws = (m.drop p (word ws 1)).made f (sp p (word ws 1)) (m.int (sp p (word ws 2)))) := by unfold Hid; unfold RM.new; simp only; rw [need_yes hh, if_neg (by rw [h0]; decide), if_pos hf]
  have hln : (ws.length : Int) = 3 := by omega
  go_enter Tryz.func153, Tryz.ntmps153
  go_wp2_with (first
    | (go_at_call 147; refine KI.mono ?_; rintro e w1 ⟨rfl, vb1, vt1, hV1⟩; obtain ⟨c0, c1, c2, c3, c4, c5, c6, c7, c8, c9⟩ := hV1.facts; obtain ⟨f1, f2, f3, f4, f5, f6⟩ := hV1.frozs; rw [h0] at c8; rw [hf] at c1; have z1 := hR.at hV1 (j := 1) (by omega); have KD := drop_any hC ⟨_, _, hV1⟩ h1 hO (by omega))
    | (go_at_call 148; refine KD.mono ?_; rintro e w2 ⟨rfl, hM2⟩; have z3 := hR.on hM2 (j := 1) (by omega); have KM := made_any hC hM2 h1 (m.int (sp p (word ws 2))) (hO.drop (by omega) h1 hC.twelve) (by omega))
    | (go_at_call 192; refine KM.mono ?_; rintro e w9 ⟨rfl, hM9⟩))
  go_end0
  exact ⟨rfl, by rw [HG.out]; exact hM9⟩
set_option maxRecDepth 20000 in
set_option maxHeartbeats 2000000 in
theorem load_none (hC : Ctx w0 p f) (h : MAt w0 x f w m) (hR : Row w0 ws gw) (hn : ws.length = 3) (h2 : Wd p (word ws 2)) (hw : word ws 0 = [108, 111, 97, 100]) (hO : m.Ok t) (ht : t ≤ 2000000) (hb : m.named (sp p (word ws 2)) = 0) :
    Calls Tryz.prog 153 #[.pointer (some ⟨x, 0, none⟩), .slice (some ⟨gw, 0, none⟩) ws.length cw] w fun e w' => e = .returned (.tuple #[]) ∧ MAt w0 x f w' (m.load p ws) := by
  have y0 := hR.on h (j := 0) (by omega)
  rw [hw] at y0
  have z2 := hR.on h (j := 2) (by omega)
  have KS := spot_any hC h h2
  obtain ⟨hi, -⟩ := h2.lt hC.twelve
  have HG : Hid (m.load p ws = { m with out := 5 }) := by unfold Hid; unfold RM.load; simp only; rw [boxed_not hb, if_neg (by simp)]
  have hln : (ws.length : Int) = 3 := by omega
  go_enter Tryz.func153, Tryz.ntmps153
  go_wp2_with (first
    | (go_at_call 149; refine KS.mono ?_; rintro e w1 ⟨rfl, hM1⟩; have KB := box_any hM1 hi hO (by omega); rw [hb, boxed_not hb] at KB)
    | (go_at_call 193; refine KB.mono ?_; rintro e w2 ⟨rfl, vb2, vt2, hV2⟩; obtain ⟨c0, c1, c2, c3, c4, c5, c6, c7, c8, c9⟩ := hV2.facts; obtain ⟨f1, f2, f3, f4, f5, f6⟩ := hV2.frozs))
  go_end0
  exact ⟨rfl, by rw [HG.out]; exact ⟨_, _, hV2⟩⟩
set_option maxRecDepth 20000 in
set_option maxHeartbeats 2000000 in
theorem load_some (hC : Ctx w0 p f) (h : MAt w0 x f w m) (hR : Row w0 ws gw) (hn : ws.length = 3) (h1 : Wd p (word ws 1)) (h2 : Wd p (word ws 2)) (h0 : m.out = 0) (hw : word ws 0 = [108, 111, 97, 100]) (hO : m.Ok t) (ht : t ≤ 2000000) (hb : ¬ m.named (sp p (word ws 2)) = 0) :
    Calls Tryz.prog 153 #[.pointer (some ⟨x, 0, none⟩), .slice (some ⟨gw, 0, none⟩) ws.length cw] w fun e w' => e = .returned (.tuple #[]) ∧ MAt w0 x f w' (m.load p ws) := by
  have y0 := hR.on h (j := 0) (by omega)
  rw [hw] at y0
  have z2 := hR.on h (j := 2) (by omega)
  have KS := spot_any hC h h2
  obtain ⟨hi, -⟩ := h2.lt hC.twelve
  have hle := named_le hO (sp p (word ws 2))
  have hbt := hO.boxes
  have htr := hO.trace
  have KB0 := fun w' (hM : MAt w0 x f w' m) => box_any hM hi hO (by omega)
  rw [boxed_yes hb] at KB0
  have HG : Hid (m.load p ws = (m.note 60 ((m.named (sp p (word ws 2)) : Nat) : Int)).be (sp p (word ws 1)) (m.box (m.named (sp p (word ws 2)))).1) := by unfold Hid; unfold RM.load; simp only; rw [boxed_yes hb, if_pos h0]
  have hln : (ws.length : Int) = 3 := by omega
  go_enter Tryz.func153, Tryz.ntmps153
  go_wp2_with (first
    | (go_at_call 149; refine KS.mono ?_; rintro e w1 ⟨rfl, hM1⟩; have KB := KB0 _ hM1; generalize m.named (sp p (word ws 2)) = n at *)
    | (go_at_call 193; refine KB.mono ?_; rintro e w2 ⟨rfl, vb2, vt2, hV2⟩; obtain ⟨c0, c1, c2, c3, c4, c5, c6, c7, c8, c9⟩ := hV2.facts; obtain ⟨f1, f2, f3, f4, f5, f6⟩ := hV2.frozs; rw [h0] at c8; have KN : Calls Tryz.prog 152 #[.pointer (some ⟨x, 0, none⟩), .string ⟨#[60]⟩, .int .i64 ((n : Nat) : Int)] _ _ := note_any ⟨_, _, hV2⟩ 60 ((n : Nat) : Int) (by unfold isI64; omega) (by omega))
    | (go_at_call 152; refine KN.mono ?_; rintro e w3 ⟨rfl, vb3, vt3, hV3⟩; obtain ⟨g, cap, rfl, hcap, hg, q0, q1, q2, q3⟩ := hV3.box (n := n) (by omega) hle; obtain ⟨d0, d1, d2, d3, d4, d5, d6, d7, d8, d9⟩ := hV3.facts; have z1 := hR.at hV3 (j := 1) (by omega); have e1 : ((n : Int) - 1).toNat = n - 1 := (by omega); have i3 : (1 : Int) ≤ n := (by omega); have i4 : (n : Int) ≤ (m.note 60 ((n : Nat) : Int)).boxes.length := (by show (n : Int) ≤ m.boxes.length; omega); have i8 : IntKind.i64.wrap ((n : Int) - 1) = (n : Int) - 1 := (by rw [IntKind.wrap_i64]; omega); have i6 : (0 : Int) ≤ (n : Int) - 1 := (by omega); have i7 : (n : Int) - 1 < (m.note 60 ((n : Nat) : Int)).boxes.length := (by omega); have KE := be_any hC ⟨_, _, hV3.below ((Below.refl w3.heap.size w3).drew)⟩ h1 (m.box n).1))
  go_upto_region 11 with fail
  go_region_law (go_simp; go_at_call 150; refine KE.mono ?_; rintro e w9 ⟨rfl, hM9⟩)
  all_goals go_wp2_with fail
  all_goals go_end0
  all_goals exact ⟨rfl, by rw [HG.out]; exact hM9⟩
set_option maxRecDepth 20000 in
set_option maxHeartbeats 2000000 in
theorem store_some (hC : Ctx w0 p f) (h : MAt w0 x f w m) (hR : Row w0 ws gw) (hn : ws.length = 3) (h1 : Wd p (word ws 1)) (h2 : Wd p (word ws 2)) (h0 : m.out = 0) (hw : word ws 0 = [115, 116, 111, 114, 101]) (hO : m.Ok t) (ht : t ≤ 2000000) (hb : ¬ m.named (sp p (word ws 1)) = 0) (hh : m.has.getD (sp p (word ws 2)) false = true) :
    Calls Tryz.prog 153 #[.pointer (some ⟨x, 0, none⟩), .slice (some ⟨gw, 0, none⟩) ws.length cw] w fun e w' => e = .returned (.tuple #[]) ∧ MAt w0 x f w' (m.store p ws) := by
  have y0 := hR.on h (j := 0) (by omega)
  rw [hw] at y0
  have z1 := hR.on h (j := 1) (by omega)
  have KS := spot_any hC h h1
  obtain ⟨hi, -⟩ := h1.lt hC.twelve
  have hle := named_le hO (sp p (word ws 1))
  have hbt := hO.boxes
  have htr := hO.trace
  have KB0 := fun w' (hM : MAt w0 x f w' m) => box_any hM hi hO (by omega)
  rw [boxed_yes hb] at KB0
  have HG : Hid (m.store p ws = { m.note 62 ((m.named (sp p (word ws 1)) : Nat) : Int) with boxes := m.boxes.set (m.named (sp p (word ws 1)) - 1) (m.int (sp p (word ws 2)), (m.box (m.named (sp p (word ws 1)))).2) }) := by unfold Hid; unfold RM.store; simp only; rw [boxed_yes hb, need_yes hh, if_pos h0]
  have hln : (ws.length : Int) = 3 := by omega
  go_enter Tryz.func153, Tryz.ntmps153
  go_wp2_with (first
    | (go_at_call 149; refine KS.mono ?_; rintro e w1 ⟨rfl, hM1⟩; have KB := KB0 _ hM1; generalize m.named (sp p (word ws 1)) = n at *)
    | (go_at_call 193; refine KB.mono ?_; rintro e w2 ⟨rfl, hM2⟩; have z2 := hR.on hM2 (j := 2) (by omega); have KI := int_any hC hM2 h2; rw [need_yes hh] at KI)
    | (go_at_call 147; refine KI.mono ?_; rintro e w3 ⟨rfl, vb2, vt2, hV2⟩; obtain ⟨c0, c1, c2, c3, c4, c5, c6, c7, c8, c9⟩ := hV2.facts; obtain ⟨f1, f2, f3, f4, f5, f6⟩ := hV2.frozs; rw [h0] at c8; have KN : Calls Tryz.prog 152 #[.pointer (some ⟨x, 0, none⟩), .string ⟨#[62]⟩, .int .i64 ((n : Nat) : Int)] _ _ := note_any ⟨_, _, hV2⟩ 62 ((n : Nat) : Int) (by unfold isI64; omega) (by omega))
    | (go_at_call 152; refine KN.mono ?_; rintro e w4 ⟨rfl, vb3, vt3, hV3⟩; obtain ⟨g, cap, rfl, hcap, hg, q0, q1, q2, q3⟩ := hV3.box (n := n) (by omega) hle; obtain ⟨d0, d1, d2, d3, d4, d5, d6, d7, d8, d9⟩ := hV3.facts; have e1 : ((n : Int) - 1).toNat = n - 1 := (by omega); have i3 : (1 : Int) ≤ n := (by omega); have i4 : (n : Int) ≤ (m.note 62 ((n : Nat) : Int)).boxes.length := (by show (n : Int) ≤ m.boxes.length; omega); have hV4 := (hV3.setBox (n := n) (by omega) hle).1 (m.int (sp p (word ws 2)))))
  go_end0
  exact ⟨rfl, by rw [HG.out]; exact ⟨_, _, hV4⟩⟩
set_option maxRecDepth 20000 in
set_option maxHeartbeats 2000000 in
theorem store_dead (hC : Ctx w0 p f) (h : MAt w0 x f w m) (hR : Row w0 ws gw) (hn : ws.length = 3) (h1 : Wd p (word ws 1)) (h2 : Wd p (word ws 2)) (hw : word ws 0 = [115, 116, 111, 114, 101]) (hO : m.Ok t) (ht : t ≤ 2000000) (hb : m.named (sp p (word ws 1)) = 0) :
    Calls Tryz.prog 153 #[.pointer (some ⟨x, 0, none⟩), .slice (some ⟨gw, 0, none⟩) ws.length cw] w fun e w' => e = .returned (.tuple #[]) ∧ MAt w0 x f w' (m.store p ws) := by
  have y0 := hR.on h (j := 0) (by omega)
  rw [hw] at y0
  have z1 := hR.on h (j := 1) (by omega)
  have KS := spot_any hC h h1
  obtain ⟨hi, -⟩ := h1.lt hC.twelve
  have KB0 := fun w' (hM : MAt w0 x f w' m) => box_any hM hi hO (by omega)
  rw [boxed_not hb] at KB0
  have ho5 : ¬ (RM.need { m with out := 5 } (sp p (word ws 2))).out = 0 := by unfold RM.need; split <;> simp
  have ho6 := out_ne ho5
  have HG : Hid (m.store p ws = RM.need { m with out := 5 } (sp p (word ws 2))) := by unfold Hid; unfold RM.store; simp only; rw [boxed_not hb, if_neg ho5]
  have hln : (ws.length : Int) = 3 := by omega
  go_enter Tryz.func153, Tryz.ntmps153
  go_wp2_with (first
    | (go_at_call 149; refine KS.mono ?_; rintro e w1 ⟨rfl, hM1⟩; have KB := KB0 _ hM1)
    | (go_at_call 193; refine KB.mono ?_; rintro e w2 ⟨rfl, hM2⟩; have z2 := hR.on hM2 (j := 2) (by omega); have KI := int_any hC hM2 h2)
    | (go_at_call 147; refine KI.mono ?_; rintro e w3 ⟨rfl, vb2, vt2, hV2⟩; obtain ⟨c0, c1, c2, c3, c4, c5, c6, c7, c8, c9⟩ := hV2.facts; obtain ⟨f1, f2, f3, f4, f5, f6⟩ := hV2.frozs))
  go_end0
  exact ⟨rfl, by rw [HG.out]; exact ⟨_, _, hV2⟩⟩
set_option maxRecDepth 20000 in
set_option maxHeartbeats 2000000 in
theorem store_none (hC : Ctx w0 p f) (h : MAt w0 x f w m) (hR : Row w0 ws gw) (hn : ws.length = 3) (h1 : Wd p (word ws 1)) (h2 : Wd p (word ws 2)) (hw : word ws 0 = [115, 116, 111, 114, 101]) (hO : m.Ok t) (ht : t ≤ 2000000) (hb : ¬ m.named (sp p (word ws 1)) = 0) (hh : ¬ m.has.getD (sp p (word ws 2)) false = true) :
    Calls Tryz.prog 153 #[.pointer (some ⟨x, 0, none⟩), .slice (some ⟨gw, 0, none⟩) ws.length cw] w fun e w' => e = .returned (.tuple #[]) ∧ MAt w0 x f w' (m.store p ws) := by
  have y0 := hR.on h (j := 0) (by omega)
  rw [hw] at y0
  have z1 := hR.on h (j := 1) (by omega)
  have KS := spot_any hC h h1
  obtain ⟨hi, -⟩ := h1.lt hC.twelve
  have KB0 := fun w' (hM : MAt w0 x f w' m) => box_any hM hi hO (by omega)
  rw [boxed_yes hb] at KB0
  have HG : Hid (m.store p ws = { m with out := 5 }) := by unfold Hid; unfold RM.store; simp only; rw [boxed_yes hb, need_not hh, if_neg (by simp)]
  have hln : (ws.length : Int) = 3 := by omega
  go_enter Tryz.func153, Tryz.ntmps153
  go_wp2_with (first
    | (go_at_call 149; refine KS.mono ?_; rintro e w1 ⟨rfl, hM1⟩; have KB := KB0 _ hM1)
    | (go_at_call 193; refine KB.mono ?_; rintro e w2 ⟨rfl, hM2⟩; have z2 := hR.on hM2 (j := 2) (by omega); have KI := int_any hC hM2 h2; rw [need_not hh] at KI)
    | (go_at_call 147; refine KI.mono ?_; rintro e w3 ⟨rfl, vb2, vt2, hV2⟩; obtain ⟨c0, c1, c2, c3, c4, c5, c6, c7, c8, c9⟩ := hV2.facts; obtain ⟨f1, f2, f3, f4, f5, f6⟩ := hV2.frozs))
  go_end0
  exact ⟨rfl, by rw [HG.out]; exact ⟨_, _, hV2⟩⟩
theorem new_any (hC : Ctx w0 p f) (h : MAt w0 x f w m) (hR : Row w0 ws gw) (hn : ws.length = 3) (h1 : Wd p (word ws 1)) (h2 : Wd p (word ws 2)) (h0 : m.out = 0) (hw : word ws 0 = [110, 101, 119]) (hO : m.Ok t) (ht : t ≤ 2000000) :
    Calls Tryz.prog 153 #[.pointer (some ⟨x, 0, none⟩), .slice (some ⟨gw, 0, none⟩) ws.length cw] w fun e w' => e = .returned (.tuple #[]) ∧ MAt w0 x f w' (m.new f p ws) := by
  by_cases hh : m.has.getD (sp p (word ws 2)) false = true
  · cases hf : f.owns
    · exact new_bare hC h hR hn h1 h2 h0 hw hh hO ht hf
    · exact new_owns hC h hR hn h1 h2 h0 hw hh hO ht hf
  · exact new_none hC h hR hn h2 hw hh
theorem load_any (hC : Ctx w0 p f) (h : MAt w0 x f w m) (hR : Row w0 ws gw) (hn : ws.length = 3) (h1 : Wd p (word ws 1)) (h2 : Wd p (word ws 2)) (h0 : m.out = 0) (hw : word ws 0 = [108, 111, 97, 100]) (hO : m.Ok t) (ht : t ≤ 2000000) :
    Calls Tryz.prog 153 #[.pointer (some ⟨x, 0, none⟩), .slice (some ⟨gw, 0, none⟩) ws.length cw] w fun e w' => e = .returned (.tuple #[]) ∧ MAt w0 x f w' (m.load p ws) := by
  by_cases hb : m.named (sp p (word ws 2)) = 0
  · exact load_none hC h hR hn h2 hw hO ht hb
  · exact load_some hC h hR hn h1 h2 h0 hw hO ht hb
theorem store_any (hC : Ctx w0 p f) (h : MAt w0 x f w m) (hR : Row w0 ws gw) (hn : ws.length = 3) (h1 : Wd p (word ws 1)) (h2 : Wd p (word ws 2)) (h0 : m.out = 0) (hw : word ws 0 = [115, 116, 111, 114, 101]) (hO : m.Ok t) (ht : t ≤ 2000000) :
    Calls Tryz.prog 153 #[.pointer (some ⟨x, 0, none⟩), .slice (some ⟨gw, 0, none⟩) ws.length cw] w fun e w' => e = .returned (.tuple #[]) ∧ MAt w0 x f w' (m.store p ws) := by
  by_cases hb : m.named (sp p (word ws 1)) = 0
  · exact store_dead hC h hR hn h1 h2 hw hO ht hb
  · by_cases hh : m.has.getD (sp p (word ws 2)) false = true
    · exact store_some hC h hR hn h1 h2 h0 hw hO ht hb hh
    · exact store_none hC h hR hn h1 h2 hw hO ht hb hh
end
end Go.Proofs.YtmlgajhhnojdjaaGreatDoor.Mac
/- The project's machine that owns: inputs taken; places emptied. -/
namespace Go.Proofs.YtmlgajhhnojdjaaGreatDoor.Own
open Go Go.RowKit Go.Proofs.YtmlgajhhnojdjaaGreatDoor.Spec Go.Proofs.YtmlgajhhnojdjaaGreatDoor.Aux Go.Proofs.YtmlgajhhnojdjaaGreatDoor.PrjJ Go.Proofs.YtmlgajhhnojdjaaGreatDoor.PrjK Go.Proofs.YtmlgajhhnojdjaaGreatDoor.PrjL Go.Proofs.YtmlgajhhnojdjaaGreatDoor.PrjM Go.Proofs.YtmlgajhhnojdjaaGreatDoor.PrjS Go.Proofs.YtmlgajhhnojdjaaGreatDoor.PrjT Go.Proofs.YtmlgajhhnojdjaaGreatDoor.FlwA Go.Proofs.YtmlgajhhnojdjaaGreatDoor.FlwB Go.Proofs.YtmlgajhhnojdjaaGreatDoor.FlwE

section
variable {x a : Nat} {w w0 : World} {vm vt vi : Value} {o : Own}
theorem FeedAt.tail {v : Int} {r : List Int} {g f c : Nat} (h : FeedAt w0 (.slice (some ⟨g, f, none⟩) (v :: r).length c) (v :: r)) : FeedAt w0 (.slice (some ⟨g, f + 1, none⟩) r.length (c - 1)) r := by
  obtain ⟨ad, c', e, h1, h2, h3⟩ := h
  simp only [Value.slice.injEq] at e
  obtain ⟨rfl, -, rfl⟩ := e
  simp only [List.length_cons] at h1
  refine ⟨_, _, rfl, by omega, by omega, fun j hj => ?_⟩
  obtain ⟨g', f', e, hg, hc⟩ := h3 (j + 1) (by simp; omega)
  simp only [Option.some.injEq, Addr.mk.injEq, and_true] at e
  obtain ⟨rfl, rfl⟩ := e
  exact ⟨g, f + 1, rfl, hg, by rw [show f + 1 + j = f + (j + 1) by omega, hc]; rfl⟩
end
/-- places emptied, one by one -/
def Own.clear (o : Own) (p : Nat × Nat) : Own := { o with boxes := o.boxes.set (slotQ p) 0 }
def Own.take : List (Nat × Nat) → Own → List Nat × Own
  | [], o => ([], o)
  | p :: ps, o => (o.box p :: (Own.take ps (o.clear p)).1, (Own.take ps (o.clear p)).2)
end Go.Proofs.YtmlgajhhnojdjaaGreatDoor.Own
/- The project's machine that owns: places emptied, walked. -/
namespace Go.Proofs.YtmlgajhhnojdjaaGreatDoor.Own
theorem hereOwnI : True := trivial
end Go.Proofs.YtmlgajhhnojdjaaGreatDoor.Own
/- The project's machine that owns: what was in places is freed. -/
namespace Go.Proofs.YtmlgajhhnojdjaaGreatDoor.Own
open Go Go.RowKit Go.Proofs.YtmlgajhhnojdjaaGreatDoor.Spec Go.Proofs.YtmlgajhhnojdjaaGreatDoor.Aux Go.Proofs.YtmlgajhhnojdjaaGreatDoor.PrjJ Go.Proofs.YtmlgajhhnojdjaaGreatDoor.PrjK Go.Proofs.YtmlgajhhnojdjaaGreatDoor.PrjL Go.Proofs.YtmlgajhhnojdjaaGreatDoor.PrjM Go.Proofs.YtmlgajhhnojdjaaGreatDoor.PrjS Go.Proofs.YtmlgajhhnojdjaaGreatDoor.PrjT Go.Proofs.YtmlgajhhnojdjaaGreatDoor.FlwA Go.Proofs.YtmlgajhhnojdjaaGreatDoor.FlwB Go.Proofs.YtmlgajhhnojdjaaGreatDoor.FlwE

theorem note_words {y : Yd} {c : UInt8} {n : Int} (hn : -9223372036854775808 ≤ n ∧ n ≤ 9223372036854775807) (h : ∀ b ∈ y.trace, b.length ≤ 30) : ∀ b ∈ (y.note c n).trace, b.length ≤ 30 := by
  intro b hb
  rcases List.mem_append.mp hb with hb | hb
  · exact h b hb
  · rw [List.mem_singleton.mp hb, List.length_cons]
    have := Lib.itoa_length_le n hn.1 hn.2
    omega
theorem free_len (y : Yd) (n : Nat) : (y.free n).made.length = y.made.length := by simp [Yd.free, Yd.note]
def Own.free1 (o : Own) (n : Nat) : Own := if n = 0 then o else { o with yd := o.yd.free n }
def Own.frees : List Nat → Own → Own
  | [], o => o
  | n :: ns, o => Own.frees ns (o.free1 n)
def Own.drop (ps : List (Nat × Nat)) (o : Own) : Own := Own.frees (Own.take ps o).1 (Own.take ps o).2
theorem free1_boxes (o : Own) (n : Nat) : (o.free1 n).boxes = o.boxes ∧ (o.free1 n).yd.made.length = o.yd.made.length ∧ (o.free1 n).ints = o.ints ∧ (o.free1 n).inp = o.inp := by
  unfold Own.free1; split
  · exact ⟨rfl, rfl, rfl, rfl⟩
  · exact ⟨rfl, free_len _ _, rfl, rfl⟩
theorem frees_boxes : ∀ (ns : List Nat) (o : Own), (Own.frees ns o).boxes = o.boxes ∧ (Own.frees ns o).yd.made.length = o.yd.made.length ∧ (Own.frees ns o).ints = o.ints ∧ (Own.frees ns o).inp = o.inp
  | [], _ => ⟨rfl, rfl, rfl, rfl⟩
  | n :: ns, o => by
    obtain ⟨h1, h2, h3, h4⟩ := frees_boxes ns (o.free1 n)
    obtain ⟨g1, g2, g3, g4⟩ := free1_boxes o n
    rw [Own.frees]
    exact ⟨h1.trans g1, h2.trans g2, h3.trans g3, h4.trans g4⟩
theorem take_yd : ∀ (ps : List (Nat × Nat)) (o : Own), (Own.take ps o).2.yd = o.yd ∧ (Own.take ps o).2.ints = o.ints ∧ (Own.take ps o).2.inp = o.inp
  | [], _ => ⟨rfl, rfl, rfl⟩
  | p :: ps, o => by rw [Own.take]; exact take_yd ps (o.clear p)
section
variable {x a : Nat} {w w0 w1 : World} {vm vt vi : Value} {o : Own}
end
end Go.Proofs.YtmlgajhhnojdjaaGreatDoor.Own
/- The project's machine that owns: what is in places is moved. -/
namespace Go.Proofs.YtmlgajhhnojdjaaGreatDoor.Own
open Go Go.RowKit Go.Proofs.YtmlgajhhnojdjaaGreatDoor.Spec Go.Proofs.YtmlgajhhnojdjaaGreatDoor.Aux Go.Proofs.YtmlgajhhnojdjaaGreatDoor.PrjJ Go.Proofs.YtmlgajhhnojdjaaGreatDoor.PrjK Go.Proofs.YtmlgajhhnojdjaaGreatDoor.PrjL Go.Proofs.YtmlgajhhnojdjaaGreatDoor.PrjM Go.Proofs.YtmlgajhhnojdjaaGreatDoor.PrjS Go.Proofs.YtmlgajhhnojdjaaGreatDoor.PrjT Go.Proofs.YtmlgajhhnojdjaaGreatDoor.FlwA Go.Proofs.YtmlgajhhnojdjaaGreatDoor.FlwB Go.Proofs.YtmlgajhhnojdjaaGreatDoor.FlwE

def Own.put1 (o : Own) (p : Nat × Nat) (n : Nat) : Own := { o with boxes := o.boxes.set (slotQ p) n }
def Own.puts : List (Nat × Nat) → List Nat → Own → Own
  | [], _, o => o
  | p :: ps, ns, o => Own.puts ps (ns.drop 1) (o.put1 p (ns.getD 0 0))
def Own.move (dstn frm : List (Nat × Nat)) (o : Own) : Own := Own.puts dstn (Own.take frm o).1 ((Own.take frm o).2.drop dstn)
theorem drop_parts (ps : List (Nat × Nat)) (o : Own) : (o.drop ps).yd.made.length = o.yd.made.length ∧ (o.drop ps).ints = o.ints ∧ (o.drop ps).inp = o.inp ∧ (o.drop ps).boxes = (Own.take ps o).2.boxes := by
  unfold Own.drop
  obtain ⟨h1, h2, h3, h4⟩ := frees_boxes (Own.take ps o).1 (Own.take ps o).2
  obtain ⟨g1, g2, g3⟩ := take_yd ps o
  exact ⟨by rw [h2, g1], h3.trans g2, h4.trans g3, h1⟩
section
variable {x a : Nat} {w w0 w1 : World} {vm vt vm1 vt1 vi : Value} {o : Own}
end
end Go.Proofs.YtmlgajhhnojdjaaGreatDoor.Own
/- The project's machine that owns: the block that comes behind a terminator. -/
namespace Go.Proofs.YtmlgajhhnojdjaaGreatDoor.Own
open Go Go.RowKit Go.Proofs.YtmlgajhhnojdjaaGreatDoor.Spec Go.Proofs.YtmlgajhhnojdjaaGreatDoor.Aux Go.Proofs.YtmlgajhhnojdjaaGreatDoor.PrjJ Go.Proofs.YtmlgajhhnojdjaaGreatDoor.PrjK Go.Proofs.YtmlgajhhnojdjaaGreatDoor.PrjL Go.Proofs.YtmlgajhhnojdjaaGreatDoor.PrjM Go.Proofs.YtmlgajhhnojdjaaGreatDoor.PrjS Go.Proofs.YtmlgajhhnojdjaaGreatDoor.PrjT Go.Proofs.YtmlgajhhnojdjaaGreatDoor.FlwA Go.Proofs.YtmlgajhhnojdjaaGreatDoor.FlwB Go.Proofs.YtmlgajhhnojdjaaGreatDoor.FlwE

section
variable {x a : Nat} {w w0 w1 : World} {vm vt vi : Value} {o : Own}
theorem LineAt.below {z : Nat} {l : QLine} {vp vn : Value} (h : LineAt z w l vp vn) (hb : Below w.heap.size w w1) : LineAt z w1 l vp vn := ⟨own_below h.places hb, own_below h.next hb⟩
end
end Go.Proofs.YtmlgajhhnojdjaaGreatDoor.Own
/- Plain definitions: a run of the project's machine that owns, as a plain function; what stays within bounds. -/
namespace Go.Proofs.YtmlgajhhnojdjaaGreatDoor.Own
open Go Go.RowKit Go.Proofs.YtmlgajhhnojdjaaGreatDoor.Spec Go.Proofs.YtmlgajhhnojdjaaGreatDoor.Aux Go.Proofs.YtmlgajhhnojdjaaGreatDoor.PrjS Go.Proofs.YtmlgajhhnojdjaaGreatDoor.FlwA

def plOf (l : QLine) (j : Nat) : Nat × Nat := l.places.getD j (0, 0)
def Own.new (o : Own) (p : Nat × Nat) (v : Int) : Own := { o with yd := o.yd.build v, boxes := o.boxes.set (slotQ p) (o.yd.made.length + 1) }
/-- is there what a line takes? -/
def Own.need (o : Own) (l : QLine) : Bool := if l.op = 10 then decide (1 ≤ o.box (plOf l 1)) else if l.op = 11 then decide (1 ≤ o.box (plOf l 0)) else true
theorem wrap_i64 (n : Int) : isI64 (wrap64 n) := by unfold isI64 wrap64; omega
theorem calc_i64 (op : Nat) (m n : Int) : isI64 (calcI op m n) := by
  unfold calcI
  repeat' split
  all_goals exact wrap_i64 _
theorem zero_i64 : isI64 0 := by unfold isI64; omega
section
variable {o : Own} {t u : Nat}
end
end Go.Proofs.YtmlgajhhnojdjaaGreatDoor.Own
/- The library's iterator over a row, from its end (slices.Backward over the program's locals): its contract. -/
namespace Go.Proofs.YtmlgajhhnojdjaaGreatDoor.Own
theorem hereOwnS : True := trivial
end Go.Proofs.YtmlgajhhnojdjaaGreatDoor.Own
/- The project's machine that owns: numbers put together in their place; inputs taken; the way on. -/
namespace Go.Proofs.YtmlgajhhnojdjaaGreatDoor.Own
open Go Go.RowKit Go.Proofs.YtmlgajhhnojdjaaGreatDoor.Spec Go.Proofs.YtmlgajhhnojdjaaGreatDoor.Aux Go.Proofs.YtmlgajhhnojdjaaGreatDoor.PrjJ Go.Proofs.YtmlgajhhnojdjaaGreatDoor.PrjK Go.Proofs.YtmlgajhhnojdjaaGreatDoor.PrjL Go.Proofs.YtmlgajhhnojdjaaGreatDoor.PrjM Go.Proofs.YtmlgajhhnojdjaaGreatDoor.PrjS Go.Proofs.YtmlgajhhnojdjaaGreatDoor.FlwA Go.Proofs.YtmlgajhhnojdjaaGreatDoor.FlwE

/-- numbers within Go's own bounds -/

def QLine.pl (l : QLine) (j : Nat) : Nat × Nat := l.places.getD j (0, 0)
section
variable {x a : Nat} {w w0 : World} {vm vt vi : Value} {o : Own}
end
end Go.Proofs.YtmlgajhhnojdjaaGreatDoor.Own
/- The project's machine that owns: statements behind which a run goes on. -/
namespace Go.Proofs.YtmlgajhhnojdjaaGreatDoor.Own
theorem hereOwnM : True := trivial
end Go.Proofs.YtmlgajhhnojdjaaGreatDoor.Own
/- The project's machine that owns: statements behind which a run goes on: store, move, some, none, drop. -/
namespace Go.Proofs.YtmlgajhhnojdjaaGreatDoor.Own
theorem hereOwnN : True := trivial
end Go.Proofs.YtmlgajhhnojdjaaGreatDoor.Own
/- The project's machine that owns: statements behind which a run goes on: move, some. -/
namespace Go.Proofs.YtmlgajhhnojdjaaGreatDoor.Own
theorem hereOwnO : True := trivial
end Go.Proofs.YtmlgajhhnojdjaaGreatDoor.Own
/- The project's machine that owns: every statement behind which a run goes on. -/
namespace Go.Proofs.YtmlgajhhnojdjaaGreatDoor.Own
theorem hereOwnR : True := trivial
end Go.Proofs.YtmlgajhhnojdjaaGreatDoor.Own
/- The project's machine that owns: all locals dropped at an end. -/
namespace Go.Proofs.YtmlgajhhnojdjaaGreatDoor.Own
theorem hereOwnT : True := trivial
end Go.Proofs.YtmlgajhhnojdjaaGreatDoor.Own
/- Plain laws for walks, over whatever program: a scope that is left by gotos forward: each goto goes on at its label. -/
namespace Go.Proofs.YtmlgajhhnojdjaaGreatDoor.Aux
open Go

/-- As Q; by a goto: on from its label, with no goto more. -/
def goTo (P : Program) (c : Code) (Q : Exit → Act → World → Prop) : Exit → Act → World → Prop
  | .goto l, a, w => ∃ r, findLabel c l = some r ∧ r.wp P (Exit.noGoto Q) a w
  | e, a, w => Q e a w
section
variable {P : Program} {a : Act} {w : World} {Q : Exit → Act → World → Prop} {c : Code}
theorem wp_scope_go (h : c.wp P (goTo P c Q) a w) : (Code.scope c).wp P Q a w := by
  intro b k cs
  obtain ⟨e, a₁, w₁, hq, harr⟩ := h b (.inScope c :: k) cs
  cases e with
  | normal => exact ⟨.normal, a₁, w₁, hq, .head step_scope (Steps.trans harr (.one step_inScope))⟩
  | exit id => exact ⟨.exit id, a₁, w₁, hq, fun k' hk => .head step_scope (harr k' (by simp [exitTo, hk]))⟩
  | goto l =>
    obtain ⟨r, hf, hr⟩ := hq
    have hg : gotoIn l (.inScope c :: k) = some (.code r :: .inScope c :: k) := by simp [gotoIn, hf]
    obtain ⟨e₂, a₂, w₂, hq₂, harr₂⟩ := hr b (.inScope c :: k) cs
    have h1 := harr _ hg
    cases e₂ with
    | normal => exact ⟨.normal, a₂, w₂, hq₂, .head step_scope (Steps.trans h1 (Steps.trans harr₂ (.one step_inScope)))⟩
    | exit id => exact ⟨.exit id, a₂, w₂, hq₂, fun k' hk => .head step_scope (Steps.trans h1 (harr₂ k' (by simp [exitTo, hk])))⟩
    | goto l' => exact hq₂.elim
    | ret => exact ⟨_, a₂, w₂, hq₂, .of_steps (.head step_scope h1) harr₂⟩
    | panic ch => exact ⟨_, a₂, w₂, hq₂, .of_steps (.head step_scope h1) harr₂⟩
    | outgrown => exact ⟨_, a₂, w₂, hq₂, .of_steps (.head step_scope h1) harr₂⟩
  | ret => exact ⟨_, a₁, w₁, hq, .of_steps (.one step_scope) harr⟩
  | panic ch => exact ⟨_, a₁, w₁, hq, .of_steps (.one step_scope) harr⟩
  | outgrown => exact ⟨_, a₁, w₁, hq, .of_steps (.one step_scope) harr⟩
/-- As Q; by a goto to l: J l. -/
def jumpTo (J : Nat → Act → World → Prop) (Q : Exit → Act → World → Prop) : Exit → Act → World → Prop
  | .goto l, a, w => J l a w
  | e, a, w => Q e a w
theorem jumpTo_normal {J : Nat → Act → World → Prop} : jumpTo J Q .normal a w = Q .normal a w := rfl
theorem jumpTo_exit {J : Nat → Act → World → Prop} (id : Nat) : jumpTo J Q (.exit id) a w = Q (.exit id) a w := rfl
theorem jumpTo_ret {J : Nat → Act → World → Prop} : jumpTo J Q .ret a w = Q .ret a w := rfl
theorem jumpTo_panic {J : Nat → Act → World → Prop} (ch : List PanicEntry) : jumpTo J Q (.panic ch) a w = Q (.panic ch) a w := rfl
theorem jumpTo_goto {J : Nat → Act → World → Prop} (l : Nat) : jumpTo J Q (.goto l) a w = J l a w := rfl
/-- the labels' code under one name: what is asked at a goto is not written out -/
theorem wp_scope_to (h : ∀ J : Nat → Act → World → Prop, (∀ l r a w, findLabel c l = some r → r.wp P (Exit.noGoto Q) a w → J l a w) → c.wp P (jumpTo J Q) a w) : (Code.scope c).wp P Q a w := by
  refine wp_scope_go ?_
  have := h (fun l a w => ∃ r, findLabel c l = some r ∧ r.wp P (Exit.noGoto Q) a w) (fun l r a w h1 h2 => ⟨r, h1, h2⟩)
  refine Code.wp_mono (fun e a w he => ?_) this
  cases e <;> exact he
end
end Go.Proofs.YtmlgajhhnojdjaaGreatDoor.Aux
/- The project's machine that owns, made: as rules for a walk, its cells behind a name. -/
namespace Go.Proofs.YtmlgajhhnojdjaaGreatDoor.Own
open Go Go.RowKit Go.Proofs.YtmlgajhhnojdjaaGreatDoor.Spec Go.Proofs.YtmlgajhhnojdjaaGreatDoor.Aux Go.Proofs.YtmlgajhhnojdjaaGreatDoor.PrjJ Go.Proofs.YtmlgajhhnojdjaaGreatDoor.PrjK Go.Proofs.YtmlgajhhnojdjaaGreatDoor.PrjL Go.Proofs.YtmlgajhhnojdjaaGreatDoor.PrjM Go.Proofs.YtmlgajhhnojdjaaGreatDoor.FlwA Go.Proofs.YtmlgajhhnojdjaaGreatDoor.FlwB

def isPtr (v : Value) : Prop := ∃ p, v = .pointer p
def isSl (v : Value) : Prop := ∃ ad l c, v = .slice ad l c
@[simp] theorem isPtr_ptr (p : Option Addr) : isPtr (.pointer p) = True := eq_true ⟨p, rfl⟩
@[simp] theorem isSl_sl (ad : Option Addr) (l c : Nat) : isSl (.slice ad l c) = True := eq_true ⟨ad, l, c, rfl⟩
def aggV : Value → List Value
  | .agg xs => xs.toList
  | _ => []
def blkOf : Value → Nat
  | .pointer (some ad) => ad.block
  | _ => 0
@[simp] theorem blkOf_ptr (ad : Addr) : blkOf (.pointer (some ad)) = ad.block := rfl
section
variable (d : Option Tmp) (x y : Operand) (t : TypeId) (ps : String) (af : Array Edge) (g : Option (Nat × Bool)) (a : Act) (w : World) (K : Act → World → Prop) (Q : Exit → Act → World → Prop)
end
end Go.Proofs.YtmlgajhhnojdjaaGreatDoor.Own
/- The document's own machine: a row of its cells read whole, as a rule for a walk. -/
namespace Go.Proofs.YtmlgajhhnojdjaaGreatDoor.Mac
theorem hereMacJ : True := trivial
end Go.Proofs.YtmlgajhhnojdjaaGreatDoor.Mac
/- The document's own machine: move and some of the machine that owns, walked. -/
namespace Go.Proofs.YtmlgajhhnojdjaaGreatDoor.Mac
theorem hereMacI : True := trivial
end Go.Proofs.YtmlgajhhnojdjaaGreatDoor.Mac
