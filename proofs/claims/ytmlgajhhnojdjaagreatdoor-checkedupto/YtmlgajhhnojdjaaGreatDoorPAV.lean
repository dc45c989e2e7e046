/- What the document's own ways make of the other lines. Conditions: as for a set. -/
import Derived.Test.YtmlgajhhnojdjaaGreatDoorPAU
import Derived.Test.YtmlgajhhnojdjaaGreatDoorPAB
import Derived.Test.YtmlgajhhnojdjaaGreatDoorPAP
namespace Go.Proofs.YtmlgajhhnojdjaaGreatDoor.RefV
open Go.RowKit Go.Proofs.YtmlgajhhnojdjaaGreatDoor.Spec Go.Proofs.YtmlgajhhnojdjaaGreatDoor.RefA Go.Proofs.YtmlgajhhnojdjaaGreatDoor.RefO Go.Proofs.YtmlgajhhnojdjaaGreatDoor.RefP Go.Proofs.YtmlgajhhnojdjaaGreatDoor.RefQ Go.Proofs.YtmlgajhhnojdjaaGreatDoor.RefR Go.Proofs.YtmlgajhhnojdjaaGreatDoor.RefS Go.Proofs.YtmlgajhhnojdjaaGreatDoor.RefT Go.Proofs.YtmlgajhhnojdjaaGreatDoor.RefU Go.Proofs.YtmlgajhhnojdjaaGreatDoor.Aux
attribute [local go_sem ↓] wp_load_ways wp_store_ways

set_option maxRecDepth 20000 in
set_option maxHeartbeats 4000000 in
theorem step_none (p : RP) (a : Nat) (s : WS) (ws : List B) (gw cw : Nat) (w : World) (H : StepIn p a s ws gw w) (hlen : 2 ≤ ws.length) (hf1 : 0 ≤ p.find (localOf (word ws 1))) (h0 : word ws 0 = [110, 111, 110, 101]) :
    Calls Tryz.prog 84 #[.pointer (some ⟨a, 0, none⟩), .slice (some ⟨gw, 0, none⟩) ws.length cw, s.val] w fun e w' => e = .returned (.tuple #[(p.step ws s).1.val, .bool (p.step ws s).2]) ∧ Below w.heap.size w w' := by
  have HR : Hid (p.step ws s = (p.now s (word ws 1) [110], true)) := by
    unfold Hid RP.step
    simp [h0]
  have hs1 := p.now_ok H.ways (word ws 1) (c := [110]) (by simp)
  have hln1 : (1 : Int) < ws.length := by omega
  have hwd := H.wide
  rw [HR.out]
  unfold WS.val
  skip
  all_goals
    go_enter Tryz.func84, Tryz.ntmps84
    go_upto_region 0 with fail
    go_cut [5, 6, 7] (fun v5 v6 v7 wc => Kept w wc s ∧ v5 = .pointer (some ⟨w.heap.size, 0, none⟩) ∧ v6 = .pointer (some ⟨w.heap.size + 1, 0, none⟩) ∧ v7 = .bool false)
    case first =>
      go_wp2
      go_meet
      case rel => exact ⟨kept_start w s, rfl, rfl, rfl⟩
    case rest =>
      obtain ⟨hK, rfl, rfl, rfl⟩ := hcut
      have hc0 := H.cell hK.old 0 (by omega)
      rw [h0] at hc0
      have hc1 := H.cell hK.old 1 (by omega)
      have H0 : Hid (_ = _) := h0
      clear h0
      have hKd : Kept w wc.drew s := hK.below ((Below.refl _ _).drew)
      have hh : HasWays wc.drew w.heap.size := ⟨s, H.ways, hKd.here⟩
      have hv := waysOf_eq hKd.here
      have HNw := now_any p a s (word ws 1) [110] wc.drew (H.prog.below hKd.old) H.ok H.ways (H.long 1) (by simp) hf1 H.twelve
      unfold WS.val at HNw
      go_wp2_with fail
      go_region_law (go_simp; go_at_call 88; refine HNw.mono ?_; rintro e w1 ⟨rfl, hb1⟩; have hh1 : HasWays w1 (w.heap.size + 1) := ⟨zeroWS, zeroWS_ok, (hKd.below hb1).zero⟩; have hi1 : IsWays (p.now s (word ws 1) [110]).cells.toArray := ⟨_, hs1, rfl⟩)
      all_goals go_wp2_with fail
      all_goals exact stepEnds (hKd.below hb1).zero hs1 rfl rfl ⟨rfl, below_setCells (hKd.below hb1).old (by omega) _ _⟩

set_option maxRecDepth 20000 in
set_option maxHeartbeats 4000000 in
theorem step_load (p : RP) (a : Nat) (s : WS) (ws : List B) (gw cw : Nat) (w : World) (H : StepIn p a s ws gw w) (hlen : 3 ≤ ws.length) (hf1 : 0 ≤ p.find (localOf (word ws 1))) (hf2 : 0 ≤ p.find (localOf (word ws 2))) (h0 : word ws 0 = [108, 111, 97, 100]) :
    Calls Tryz.prog 84 #[.pointer (some ⟨a, 0, none⟩), .slice (some ⟨gw, 0, none⟩) ws.length cw, s.val] w fun e w' => e = .returned (.tuple #[(p.step ws s).1.val, .bool (p.step ws s).2]) ∧ Below w.heap.size w w' := by
  have HR : Hid (p.step ws s = (p.now s (word ws 1) [119], p.there s (word ws 2))) := by
    unfold Hid RP.step
    simp [h0]
  have hs1 := p.now_ok H.ways (word ws 1) (c := [119]) (by simp)
  have hln1 : (1 : Int) < ws.length := by omega
  have hln2 : (2 : Int) < ws.length := by omega
  have hwd := H.wide
  rw [HR.out]
  unfold WS.val
  skip
  all_goals
    go_enter Tryz.func84, Tryz.ntmps84
    go_upto_region 0 with fail
    go_cut [5, 6, 7] (fun v5 v6 v7 wc => Kept w wc s ∧ v5 = .pointer (some ⟨w.heap.size, 0, none⟩) ∧ v6 = .pointer (some ⟨w.heap.size + 1, 0, none⟩) ∧ v7 = .bool false)
    case first =>
      go_wp2
      go_meet
      case rel => exact ⟨kept_start w s, rfl, rfl, rfl⟩
    case rest =>
      obtain ⟨hK, rfl, rfl, rfl⟩ := hcut
      have hc0 := H.cell hK.old 0 (by omega)
      rw [h0] at hc0
      have hc1 := H.cell hK.old 1 (by omega)
      have hc2 := H.cell hK.old 2 (by omega)
      have H0 : Hid (_ = _) := h0
      clear h0
      go_upto_region 22 with fail
      go_cut [12] (fun v wc' => Kept w wc' s ∧ v = .bool (p.there s (word ws 2)))
      case first =>
        have hKd : Kept w wc.drew s := hK.below ((Below.refl _ _).drew)
        have hh : HasWays wc.drew w.heap.size := ⟨s, H.ways, hKd.here⟩
        have hv := waysOf_eq hKd.here
        have HA := there_any p a s (word ws 2) wc.drew (H.prog.below hKd.old) H.ok H.ways (H.long 2) hf2 H.twelve
        unfold WS.val at HA
        go_region_law (go_simp; go_at_call 138; refine HA.mono ?_; rintro e w1 ⟨rfl, hb1⟩)
        all_goals go_wp2_with fail
        all_goals
          go_meet
          case rel => exact ⟨hKd.below hb1, rfl⟩
      case rest =>
        obtain ⟨hK1, rfl⟩ := hcut
        replace hc1 := H.cell hK1.old 1 (by omega)
        have hKd : Kept w wc.drew s := hK1.below ((Below.refl _ _).drew)
        have hh : HasWays wc.drew w.heap.size := ⟨s, H.ways, hKd.here⟩
        have hv := waysOf_eq hKd.here
        have HNw := now_any p a s (word ws 1) [119] wc.drew (H.prog.below hKd.old) H.ok H.ways (H.long 1) (by simp) hf1 H.twelve
        unfold WS.val at HNw
        go_wp2_with fail
        go_region_law (go_simp; go_at_call 88; refine HNw.mono ?_; rintro e w1 ⟨rfl, hb1⟩; have hh1 : HasWays w1 (w.heap.size + 1) := ⟨zeroWS, zeroWS_ok, (hKd.below hb1).zero⟩; have hi1 : IsWays (p.now s (word ws 1) [119]).cells.toArray := ⟨_, hs1, rfl⟩)
        all_goals go_wp2_with fail
        all_goals exact stepEnds (hKd.below hb1).zero hs1 rfl rfl ⟨rfl, below_setCells (hKd.below hb1).old (by omega) _ _⟩

set_option maxRecDepth 20000 in
set_option maxHeartbeats 4000000 in
theorem step_drop (p : RP) (a : Nat) (s : WS) (ws : List B) (gw cw : Nat) (w : World) (H : StepIn p a s ws gw w) (hlen : 2 ≤ ws.length) (hf1 : 0 ≤ p.find (localOf (word ws 1))) (h0 : word ws 0 = [100, 114, 111, 112]) :
    Calls Tryz.prog 84 #[.pointer (some ⟨a, 0, none⟩), .slice (some ⟨gw, 0, none⟩) ws.length cw, s.val] w fun e w' => e = .returned (.tuple #[(p.step ws s).1.val, .bool (p.step ws s).2]) ∧ Below w.heap.size w w' := by
  have HR : Hid (p.step ws s = (p.now s (word ws 1) (left (word ws 1)), writable p s (word ws 1))) := by
    unfold Hid RP.step
    simp [h0]
  have hleft : (left (word ws 1)).length ≤ 1000 := by unfold left; split <;> simp
  have hs1 := p.now_ok H.ways (word ws 1) hleft
  have hln1 : (1 : Int) < ws.length := by omega
  have hwd := H.wide
  rw [HR.out]
  unfold WS.val
  skip
  all_goals
    go_enter Tryz.func84, Tryz.ntmps84
    go_upto_region 0 with fail
    go_cut [5, 6, 7] (fun v5 v6 v7 wc => Kept w wc s ∧ v5 = .pointer (some ⟨w.heap.size, 0, none⟩) ∧ v6 = .pointer (some ⟨w.heap.size + 1, 0, none⟩) ∧ v7 = .bool false)
    case first =>
      go_wp2
      go_meet
      case rel => exact ⟨kept_start w s, rfl, rfl, rfl⟩
    case rest =>
      obtain ⟨hK, rfl, rfl, rfl⟩ := hcut
      have hc0 := H.cell hK.old 0 (by omega)
      rw [h0] at hc0
      have hc1 := H.cell hK.old 1 (by omega)
      have H0 : Hid (_ = _) := h0
      clear h0
      go_upto_region 31 with fail
      go_cut [15] (fun v wc' => Kept w wc' s ∧ v = .bool (writable p s (word ws 1)))
      case first =>
        have hKd : Kept w wc.drew s := hK.below ((Below.refl _ _).drew)
        have hh : HasWays wc.drew w.heap.size := ⟨s, H.ways, hKd.here⟩
        have hv := waysOf_eq hKd.here
        have HA := writable_any p a s (word ws 1) wc.drew (H.prog.below hKd.old) H.ok H.ways (H.long 1) hf1 H.twelve
        unfold WS.val at HA
        go_region_law (go_simp; go_at_call 139; refine HA.mono ?_; rintro e w1 ⟨rfl, hb1⟩)
        all_goals go_wp2_with fail
        all_goals
          go_meet
          case rel => exact ⟨hKd.below hb1, rfl⟩
      case rest =>
        obtain ⟨hK1, rfl⟩ := hcut
        replace hc1 := H.cell hK1.old 1 (by omega)
        have hKd : Kept w wc.drew s := hK1.below ((Below.refl _ _).drew)
        have hh : HasWays wc.drew w.heap.size := ⟨s, H.ways, hKd.here⟩
        have hv := waysOf_eq hKd.here
        have HNw := now_any p a s (word ws 1) (left (word ws 1)) wc.drew (H.prog.below hKd.old) H.ok H.ways (H.long 1) hleft hf1 H.twelve
        unfold WS.val at HNw
        go_wp2_with fail
        go_region_law (first
          | (go_simp; go_at_call 140; refine (left_bs _ _ (H.long 1)).mono ?_; rintro e w' ⟨rfl, rfl⟩)
          | (go_simp; go_at_call 88; refine HNw.mono ?_; rintro e w1 ⟨rfl, hb1⟩; have hh1 : HasWays w1 (w.heap.size + 1) := ⟨zeroWS, zeroWS_ok, (hKd.below hb1).zero⟩; have hi1 : IsWays (p.now s (word ws 1) (left (word ws 1))).cells.toArray := ⟨_, hs1, rfl⟩))
        all_goals go_wp2_with fail
        all_goals exact stepEnds (hKd.below hb1).zero hs1 rfl rfl ⟨rfl, below_setCells (hKd.below hb1).old (by omega) _ _⟩
end Go.Proofs.YtmlgajhhnojdjaaGreatDoor.RefV
namespace Go.Proofs.YtmlgajhhnojdjaaGreatDoor.RefW
open Go.RowKit Go.Proofs.YtmlgajhhnojdjaaGreatDoor.Spec Go.Proofs.YtmlgajhhnojdjaaGreatDoor.RefA Go.Proofs.YtmlgajhhnojdjaaGreatDoor.RefO Go.Proofs.YtmlgajhhnojdjaaGreatDoor.RefP Go.Proofs.YtmlgajhhnojdjaaGreatDoor.RefQ Go.Proofs.YtmlgajhhnojdjaaGreatDoor.RefR Go.Proofs.YtmlgajhhnojdjaaGreatDoor.RefS Go.Proofs.YtmlgajhhnojdjaaGreatDoor.RefT Go.Proofs.YtmlgajhhnojdjaaGreatDoor.RefU Go.Proofs.YtmlgajhhnojdjaaGreatDoor.Aux
attribute [local go_sem ↓] wp_load_ways wp_store_ways

set_option maxRecDepth 20000 in
set_option maxHeartbeats 4000000 in
theorem step_out (p : RP) (a : Nat) (s : WS) (ws : List B) (gw cw : Nat) (w : World) (H : StepIn p a s ws gw w) (hlen : 2 ≤ ws.length) (hf1 : 0 ≤ p.find (localOf (word ws 1))) (h0 : word ws 0 = [111, 117, 116] ∨ word ws 0 = [105, 102] ∨ word ws 0 = [101, 110, 100] ∨ word ws 0 = [109, 97, 116, 99, 104]) :
    Calls Tryz.prog 84 #[.pointer (some ⟨a, 0, none⟩), .slice (some ⟨gw, 0, none⟩) ws.length cw, s.val] w fun e w' => e = .returned (.tuple #[(p.step ws s).1.val, .bool (p.step ws s).2]) ∧ Below w.heap.size w w' := by
  have HR : Hid (p.step ws s = (s, p.there s (word ws 1))) := by
    unfold Hid RP.step
    rcases h0 with h0 | h0 | h0 | h0 <;> simp [h0]
  have hln1 : (1 : Int) < ws.length := by omega
  have hwd := H.wide
  rw [HR.out]
  unfold WS.val
  rcases h0 with h0 | h0 | h0 | h0
  all_goals
    go_enter Tryz.func84, Tryz.ntmps84
    go_upto_region 0 with fail
    go_cut [5, 6, 7] (fun v5 v6 v7 wc => Kept w wc s ∧ v5 = .pointer (some ⟨w.heap.size, 0, none⟩) ∧ v6 = .pointer (some ⟨w.heap.size + 1, 0, none⟩) ∧ v7 = .bool false)
    case first =>
      go_wp2
      go_meet
      case rel => exact ⟨kept_start w s, rfl, rfl, rfl⟩
    case rest =>
      obtain ⟨hK, rfl, rfl, rfl⟩ := hcut
      have hc0 := H.cell hK.old 0 (by omega)
      rw [h0] at hc0
      have hc1 := H.cell hK.old 1 (by omega)
      have H0 : Hid (_ = _) := h0
      clear h0
      have hKd : Kept w wc.drew s := hK.below ((Below.refl _ _).drew)
      have hh : HasWays wc.drew w.heap.size := ⟨s, H.ways, hKd.here⟩
      have hv := waysOf_eq hKd.here
      have hi1 : IsWays s.cells.toArray := ⟨s, H.ways, rfl⟩
      have HA := there_any p a s (word ws 1) wc.drew (H.prog.below hKd.old) H.ok H.ways (H.long 1) hf1 H.twelve
      unfold WS.val at HA
      go_wp2_with fail
      go_region_law (go_simp; go_at_call 138; refine HA.mono ?_; rintro e w1 ⟨rfl, hb1⟩; have hh1 : HasWays w1 (w.heap.size + 1) := ⟨zeroWS, zeroWS_ok, (hKd.below hb1).zero⟩; have hh2 : HasWays w1 w.heap.size := ⟨s, H.ways, (hKd.below hb1).here⟩; have hv2 := waysOf_eq (hKd.below hb1).here)
      all_goals go_wp2_with fail
      all_goals exact stepEnds (hKd.below hb1).zero H.ways rfl rfl ⟨rfl, below_setCells (hKd.below hb1).old (by omega) _ _⟩
end Go.Proofs.YtmlgajhhnojdjaaGreatDoor.RefW
namespace Go.Proofs.YtmlgajhhnojdjaaGreatDoor.RefX
open Go.RowKit Go.Proofs.YtmlgajhhnojdjaaGreatDoor.Spec Go.Proofs.YtmlgajhhnojdjaaGreatDoor.RefA Go.Proofs.YtmlgajhhnojdjaaGreatDoor.RefO Go.Proofs.YtmlgajhhnojdjaaGreatDoor.RefP Go.Proofs.YtmlgajhhnojdjaaGreatDoor.RefQ Go.Proofs.YtmlgajhhnojdjaaGreatDoor.RefR Go.Proofs.YtmlgajhhnojdjaaGreatDoor.RefS Go.Proofs.YtmlgajhhnojdjaaGreatDoor.RefT Go.Proofs.YtmlgajhhnojdjaaGreatDoor.RefU Go.Proofs.YtmlgajhhnojdjaaGreatDoor.Aux
attribute [local go_sem ↓] wp_load_ways wp_store_ways

set_option maxRecDepth 20000 in
set_option maxHeartbeats 4000000 in
theorem step_store (p : RP) (a : Nat) (s : WS) (ws : List B) (gw cw : Nat) (w : World) (H : StepIn p a s ws gw w) (hlen : 3 ≤ ws.length) (hf1 : 0 ≤ p.find (localOf (word ws 1))) (hf2 : 0 ≤ p.find (localOf (word ws 2))) (h0 : word ws 0 = [115, 116, 111, 114, 101]) :
    Calls Tryz.prog 84 #[.pointer (some ⟨a, 0, none⟩), .slice (some ⟨gw, 0, none⟩) ws.length cw, s.val] w fun e w' => e = .returned (.tuple #[(p.step ws s).1.val, .bool (p.step ws s).2]) ∧ Below w.heap.size w w' := by
  have HR : Hid (p.step ws s = (s, p.there s (word ws 1) && p.there s (word ws 2))) := by
    unfold Hid RP.step
    simp [h0]
  have hln1 : (1 : Int) < ws.length := by omega
  have hln2 : (2 : Int) < ws.length := by omega
  have hwd := H.wide
  rw [HR.out]
  unfold WS.val
  skip
  all_goals
    go_enter Tryz.func84, Tryz.ntmps84
    go_upto_region 0 with fail
    go_cut [5, 6, 7] (fun v5 v6 v7 wc => Kept w wc s ∧ v5 = .pointer (some ⟨w.heap.size, 0, none⟩) ∧ v6 = .pointer (some ⟨w.heap.size + 1, 0, none⟩) ∧ v7 = .bool false)
    case first =>
      go_wp2
      go_meet
      case rel => exact ⟨kept_start w s, rfl, rfl, rfl⟩
    case rest =>
      obtain ⟨hK, rfl, rfl, rfl⟩ := hcut
      have hc0 := H.cell hK.old 0 (by omega)
      rw [h0] at hc0
      have hc1 := H.cell hK.old 1 (by omega)
      have hc2 := H.cell hK.old 2 (by omega)
      have H0 : Hid (_ = _) := h0
      clear h0
      go_upto_region 25 with fail
      go_cut [13] (fun v wc' => Kept w wc' s ∧ v = .bool (p.there s (word ws 1)))
      case first =>
        have hKd : Kept w wc.drew s := hK.below ((Below.refl _ _).drew)
        have hh : HasWays wc.drew w.heap.size := ⟨s, H.ways, hKd.here⟩
        have hv := waysOf_eq hKd.here
        have HA := there_any p a s (word ws 1) wc.drew (H.prog.below hKd.old) H.ok H.ways (H.long 1) hf1 H.twelve
        unfold WS.val at HA
        go_region_law (go_simp; go_at_call 138; refine HA.mono ?_; rintro e w1 ⟨rfl, hb1⟩)
        all_goals go_wp2_with fail
        all_goals
          go_meet
          case rel => exact ⟨hKd.below hb1, rfl⟩
      case rest =>
        obtain ⟨hK1, rfl⟩ := hcut
        replace hc2 := H.cell hK1.old 2 (by omega)
        clear hK
        go_upto_region 26 with fail
        go_cut [14] (fun v wc' => Kept w wc' s ∧ v = .bool (p.there s (word ws 2)))
        case first =>
          have hKd : Kept w wc.drew s := hK1.below ((Below.refl _ _).drew)
          have hh : HasWays wc.drew w.heap.size := ⟨s, H.ways, hKd.here⟩
          have hv := waysOf_eq hKd.here
          have HA := there_any p a s (word ws 2) wc.drew (H.prog.below hKd.old) H.ok H.ways (H.long 2) hf2 H.twelve
          unfold WS.val at HA
          go_region_law (go_simp; go_at_call 138; refine HA.mono ?_; rintro e w1 ⟨rfl, hb1⟩)
          all_goals go_wp2_with fail
          all_goals
            go_meet
            case rel => exact ⟨hKd.below hb1, rfl⟩
        case rest =>
          obtain ⟨hK2, rfl⟩ := hcut
          have hi1 : IsWays s.cells.toArray := ⟨s, H.ways, rfl⟩
          have hh : HasWays wc w.heap.size := ⟨s, H.ways, hK2.here⟩
          have hz : HasWays wc (w.heap.size + 1) := ⟨zeroWS, zeroWS_ok, hK2.zero⟩
          have hv := waysOf_eq hK2.here
          cases hb : p.there s (word ws 1)
          all_goals
            go_wp2
            all_goals exact stepEnds hK2.zero H.ways rfl rfl ⟨by rw [hb]; rfl, below_setCells hK2.old (by omega) _ _⟩
end Go.Proofs.YtmlgajhhnojdjaaGreatDoor.RefX
namespace Go.Proofs.YtmlgajhhnojdjaaGreatDoor.RefY
open Go.RowKit Go.Proofs.YtmlgajhhnojdjaaGreatDoor.Spec Go.Proofs.YtmlgajhhnojdjaaGreatDoor.RefA Go.Proofs.YtmlgajhhnojdjaaGreatDoor.RefO Go.Proofs.YtmlgajhhnojdjaaGreatDoor.RefP Go.Proofs.YtmlgajhhnojdjaaGreatDoor.RefQ Go.Proofs.YtmlgajhhnojdjaaGreatDoor.RefR Go.Proofs.YtmlgajhhnojdjaaGreatDoor.RefS Go.Proofs.YtmlgajhhnojdjaaGreatDoor.RefT Go.Proofs.YtmlgajhhnojdjaaGreatDoor.RefU Go.Proofs.YtmlgajhhnojdjaaGreatDoor.Aux
attribute [local go_sem ↓] wp_load_ways wp_store_ways

set_option maxRecDepth 20000 in
set_option maxHeartbeats 4000000 in
theorem step_takes (p : RP) (a : Nat) (s : WS) (ws : List B) (gw cw : Nat) (w : World) (H : StepIn p a s ws gw w)  (hf1 : 0 ≤ p.find (localOf (word ws 1))) (hf2 : 0 ≤ p.find (localOf (word ws 2))) (h0 : word ws 0 = [109, 111, 118, 101] ∨ word ws 0 = [115, 111, 109, 101]) (hl3 : ws.length = 3) (ht3 : (RP.takes p ws s).1.Ok) :
    Calls Tryz.prog 84 #[.pointer (some ⟨a, 0, none⟩), .slice (some ⟨gw, 0, none⟩) ws.length cw, s.val] w fun e w' => e = .returned (.tuple #[(p.step ws s).1.val, .bool (p.step ws s).2]) ∧ Below w.heap.size w w' := by
  have HR : Hid (p.step ws s = ((RP.takes p ws s).1, (RP.takes p ws s).2)) := by
    unfold Hid RP.step
    rcases h0 with h0 | h0 <;> simp [h0]
  have hln1 : (1 : Int) < ws.length := by omega
  have hln2 : (2 : Int) < ws.length := by omega
  have hwd := H.wide
  rw [HR.out]
  unfold WS.val
  rw [hl3]
  rcases h0 with h0 | h0
  all_goals
    go_enter Tryz.func84, Tryz.ntmps84
    go_upto_region 0 with fail
    go_cut [5, 6, 7] (fun v5 v6 v7 wc => Kept w wc s ∧ v5 = .pointer (some ⟨w.heap.size, 0, none⟩) ∧ v6 = .pointer (some ⟨w.heap.size + 1, 0, none⟩) ∧ v7 = .bool false)
    case first =>
      go_wp2
      go_meet
      case rel => exact ⟨kept_start w s, rfl, rfl, rfl⟩
    case rest =>
      obtain ⟨hK, rfl, rfl, rfl⟩ := hcut
      have hc0 := H.cell hK.old 0 (by omega)
      rw [h0] at hc0
      have hc1 := H.cell hK.old 1 (by omega)
      have hc2 := H.cell hK.old 2 (by omega)
      have H0 : Hid (_ = _) := h0
      clear h0
      have hi1 : IsWays (RP.takes p ws s).1.cells.toArray := ⟨_, ht3, rfl⟩
      have hh : HasWays wc w.heap.size := ⟨s, H.ways, hK.here⟩
      have hv := waysOf_eq hK.here
      have HA := takes_any p a s ws gw cw wc (H.prog.below hK.old) H.ok H.ways H.twelve (Nat.lt_of_lt_of_le H.row hK.old.size) (fun j hj => H.cell hK.old j (by omega)) H.long hf1 hf2
      unfold WS.val at HA
      go_wp2_with (go_at_call 141; refine HA.mono ?_; rintro e w1 ⟨rfl, hb1⟩; have hz : HasWays w1 (w.heap.size + 1) := ⟨zeroWS, zeroWS_ok, (hK.below hb1).zero⟩)
      exact stepEnds (hK.below hb1).zero ht3 rfl rfl ⟨rfl, below_setCells (hK.below hb1).old (by omega) _ _⟩
end Go.Proofs.YtmlgajhhnojdjaaGreatDoor.RefY
namespace Go.Proofs.YtmlgajhhnojdjaaGreatDoor.RefZ
open Go.RowKit Go.Proofs.YtmlgajhhnojdjaaGreatDoor.Spec Go.Proofs.YtmlgajhhnojdjaaGreatDoor.RefA Go.Proofs.YtmlgajhhnojdjaaGreatDoor.RefO Go.Proofs.YtmlgajhhnojdjaaGreatDoor.RefP Go.Proofs.YtmlgajhhnojdjaaGreatDoor.RefQ Go.Proofs.YtmlgajhhnojdjaaGreatDoor.RefR Go.Proofs.YtmlgajhhnojdjaaGreatDoor.RefS Go.Proofs.YtmlgajhhnojdjaaGreatDoor.RefT Go.Proofs.YtmlgajhhnojdjaaGreatDoor.RefU Go.Proofs.YtmlgajhhnojdjaaGreatDoor.Aux
attribute [local go_sem ↓] wp_load_ways wp_store_ways
attribute [local go_sem ↓] wp_load_open wp_store_open
attribute [local go_sem] loadsWays storesWays loadArg storeTo storeWhat

set_option maxRecDepth 20000 in
set_option maxHeartbeats 4000000 in
theorem step_new (p : RP) (a : Nat) (s : WS) (ws : List B) (gw cw : Nat) (w : World) (H : StepIn p a s ws gw w) (hlen : 3 ≤ ws.length) (hf1 : 0 ≤ p.find (localOf (word ws 1))) (hf2 : 0 ≤ p.find (localOf (word ws 2))) (h0 : word ws 0 = [110, 101, 119]) :
    Calls Tryz.prog 84 #[.pointer (some ⟨a, 0, none⟩), .slice (some ⟨gw, 0, none⟩) ws.length cw, s.val] w fun e w' => e = .returned (.tuple #[(p.step ws s).1.val, .bool (p.step ws s).2]) ∧ Below w.heap.size w w' := by
  have HR : Hid (p.step ws s = (p.now s (word ws 1) [119], p.there s (word ws 2) && writable p s (word ws 1))) := by
    unfold Hid RP.step
    simp [h0]
  have hs1 := p.now_ok H.ways (word ws 1) (c := [119]) (by simp)
  have hln1 : (1 : Int) < ws.length := by omega
  have hln2 : (2 : Int) < ws.length := by omega
  have hwd := H.wide
  rw [HR.out]
  unfold WS.val
  skip
  all_goals
    go_enter Tryz.func84, Tryz.ntmps84
    go_upto_region 0 with fail
    go_cut [5, 6, 7] (fun v5 v6 v7 wc => Kept w wc s ∧ v5 = .pointer (some ⟨w.heap.size, 0, none⟩) ∧ v6 = .pointer (some ⟨w.heap.size + 1, 0, none⟩) ∧ v7 = .bool false)
    case first =>
      go_wp2
      go_meet
      case rel => exact ⟨kept_start w s, rfl, rfl, rfl⟩
    case rest =>
      obtain ⟨hK, rfl, rfl, rfl⟩ := hcut
      have hc0 := H.cell hK.old 0 (by omega)
      rw [h0] at hc0
      have hc1 := H.cell hK.old 1 (by omega)
      have hc2 := H.cell hK.old 2 (by omega)
      have H0 : Hid (_ = _) := h0
      clear h0
      go_upto_region 18 with fail
      go_cut [10] (fun v wc' => Kept w wc' s ∧ v = .bool (p.there s (word ws 2)))
      case first =>
        have hKd : Kept w wc.drew s := hK.below ((Below.refl _ _).drew)
        have hh : HasWays wc.drew w.heap.size := ⟨s, H.ways, hKd.here⟩
        have hv := waysOf_eq hKd.here
        have HA := there_any p a s (word ws 2) wc.drew (H.prog.below hKd.old) H.ok H.ways (H.long 2) hf2 H.twelve
        unfold WS.val at HA
        go_region_law (go_simp; go_at_call 138; refine HA.mono ?_; rintro e w1 ⟨rfl, hb1⟩)
        all_goals go_wp2_with fail
        all_goals
          go_meet
          case rel => exact ⟨hKd.below hb1, rfl⟩
      case rest =>
        obtain ⟨hK1, rfl⟩ := hcut
        replace hc1 := H.cell hK1.old 1 (by omega)
        clear hK
        go_upto_region 19 with fail
        go_cut [11] (fun v wc' => Kept w wc' s ∧ v = .bool (writable p s (word ws 1)))
        case first =>
          have hKd : Kept w wc.drew s := hK1.below ((Below.refl _ _).drew)
          have hh : HasWays wc.drew w.heap.size := ⟨s, H.ways, hKd.here⟩
          have hv := waysOf_eq hKd.here
          have HA := writable_any p a s (word ws 1) wc.drew (H.prog.below hKd.old) H.ok H.ways (H.long 1) hf1 H.twelve
          unfold WS.val at HA
          go_region_law (go_simp; go_at_call 139; refine HA.mono ?_; rintro e w1 ⟨rfl, hb1⟩)
          all_goals go_wp2_with fail
          all_goals
            go_meet
            case rel => exact ⟨hKd.below hb1, rfl⟩
        case rest =>
          obtain ⟨hK2, rfl⟩ := hcut
          replace hc1 := H.cell hK2.old 1 (by omega)
          clear hK1
          have hKd : Kept w wc.drew s := hK2.below ((Below.refl _ _).drew)
          have hh : HasWays wc.drew w.heap.size := ⟨s, H.ways, hKd.here⟩
          have hv := waysOf_eq hKd.here
          have HNw := now_any p a s (word ws 1) [119] wc.drew (H.prog.below hKd.old) H.ok H.ways (H.long 1) (by simp) hf1 H.twelve
          unfold WS.val at HNw
          cases hb : p.there s (word ws 2)
          all_goals
            have HB : Hid (_ = _) := hb
            clear hb
            go_wp2_with fail
            first | go_region_with (go_at_call 88; refine HNw.mono ?_; rintro e w1 ⟨rfl, hb1⟩; have hh1 : HasWays w1 (w.heap.size + 1) := ⟨zeroWS, zeroWS_ok, (hKd.below hb1).zero⟩; have hi1 : IsWays (p.now s (word ws 1) [119]).cells.toArray := ⟨_, hs1, rfl⟩) | skip
            all_goals go_wp2_with fail
            all_goals exact stepEnds (hKd.below hb1).zero hs1 rfl rfl ⟨by rw [HB.out]; rfl, below_setCells (hKd.below hb1).old (by omega) _ _⟩
end Go.Proofs.YtmlgajhhnojdjaaGreatDoor.RefZ
namespace Go.Proofs.YtmlgajhhnojdjaaGreatDoor.RefZa
open Go.RowKit Go.Proofs.YtmlgajhhnojdjaaGreatDoor.Spec Go.Proofs.YtmlgajhhnojdjaaGreatDoor.RefA Go.Proofs.YtmlgajhhnojdjaaGreatDoor.RefO Go.Proofs.YtmlgajhhnojdjaaGreatDoor.RefP Go.Proofs.YtmlgajhhnojdjaaGreatDoor.RefQ Go.Proofs.YtmlgajhhnojdjaaGreatDoor.RefR Go.Proofs.YtmlgajhhnojdjaaGreatDoor.RefS Go.Proofs.YtmlgajhhnojdjaaGreatDoor.RefT Go.Proofs.YtmlgajhhnojdjaaGreatDoor.RefU Go.Proofs.YtmlgajhhnojdjaaGreatDoor.Aux
attribute [local go_sem ↓] wp_load_ways wp_store_ways
attribute [local go_sem ↓] wp_load_open wp_store_open
attribute [local go_sem] loadsWays storesWays loadArg storeTo storeWhat

set_option maxRecDepth 20000 in
set_option maxHeartbeats 4000000 in
theorem step_arith (p : RP) (a : Nat) (s : WS) (ws : List B) (gw cw : Nat) (w : World) (H : StepIn p a s ws gw w) (hlen : 4 ≤ ws.length) (hf1 : 0 ≤ p.find (localOf (word ws 1))) (hf2 : 0 ≤ p.find (localOf (word ws 2))) (hf3 : 0 ≤ p.find (localOf (word ws 3))) (h0 : word ws 0 = [97, 100, 100] ∨ word ws 0 = [115, 117, 98] ∨ word ws 0 = [109, 117, 108] ∨ word ws 0 = [100, 105, 118]) :
    Calls Tryz.prog 84 #[.pointer (some ⟨a, 0, none⟩), .slice (some ⟨gw, 0, none⟩) ws.length cw, s.val] w fun e w' => e = .returned (.tuple #[(p.step ws s).1.val, .bool (p.step ws s).2]) ∧ Below w.heap.size w w' := by
  have HR : Hid (p.step ws s = (p.now s (word ws 1) [119], p.there s (word ws 2) && p.there s (word ws 3))) := by
    unfold Hid RP.step
    rcases h0 with h0 | h0 | h0 | h0 <;> simp [h0]
  have hs1 := p.now_ok H.ways (word ws 1) (c := [119]) (by simp)
  have hln1 : (1 : Int) < ws.length := by omega
  have hln2 : (2 : Int) < ws.length := by omega
  have hln3 : (3 : Int) < ws.length := by omega
  have hwd := H.wide
  rw [HR.out]
  unfold WS.val
  rcases h0 with h0 | h0 | h0 | h0
  all_goals
    go_enter Tryz.func84, Tryz.ntmps84
    go_upto_region 0 with fail
    go_cut [5, 6, 7] (fun v5 v6 v7 wc => Kept w wc s ∧ v5 = .pointer (some ⟨w.heap.size, 0, none⟩) ∧ v6 = .pointer (some ⟨w.heap.size + 1, 0, none⟩) ∧ v7 = .bool false)
    case first =>
      go_wp2
      go_meet
      case rel => exact ⟨kept_start w s, rfl, rfl, rfl⟩
    case rest =>
      obtain ⟨hK, rfl, rfl, rfl⟩ := hcut
      have hc0 := H.cell hK.old 0 (by omega)
      rw [h0] at hc0
      have hc1 := H.cell hK.old 1 (by omega)
      have hc2 := H.cell hK.old 2 (by omega)
      have hc3 := H.cell hK.old 3 (by omega)
      have H0 : Hid (_ = _) := h0
      clear h0
      go_upto_region 9 with fail
      go_cut [8] (fun v wc' => Kept w wc' s ∧ v = .bool (p.there s (word ws 2)))
      case first =>
        have hKd : Kept w wc.drew s := hK.below ((Below.refl _ _).drew)
        have hh : HasWays wc.drew w.heap.size := ⟨s, H.ways, hKd.here⟩
        have hv := waysOf_eq hKd.here
        have HA := there_any p a s (word ws 2) wc.drew (H.prog.below hKd.old) H.ok H.ways (H.long 2) hf2 H.twelve
        unfold WS.val at HA
        go_region_law (go_simp; go_at_call 138; refine HA.mono ?_; rintro e w1 ⟨rfl, hb1⟩)
        all_goals go_wp2_with fail
        all_goals
          go_meet
          case rel => exact ⟨hKd.below hb1, rfl⟩
      case rest =>
        obtain ⟨hK1, rfl⟩ := hcut
        replace hc1 := H.cell hK1.old 1 (by omega)
        replace hc3 := H.cell hK1.old 3 (by omega)
        clear hK
        go_upto_region 10 with fail
        go_cut [9] (fun v wc' => Kept w wc' s ∧ v = .bool (p.there s (word ws 3)))
        case first =>
          have hKd : Kept w wc.drew s := hK1.below ((Below.refl _ _).drew)
          have hh : HasWays wc.drew w.heap.size := ⟨s, H.ways, hKd.here⟩
          have hv := waysOf_eq hKd.here
          have HA := there_any p a s (word ws 3) wc.drew (H.prog.below hKd.old) H.ok H.ways (H.long 3) hf3 H.twelve
          unfold WS.val at HA
          go_region_law (go_simp; go_at_call 138; refine HA.mono ?_; rintro e w1 ⟨rfl, hb1⟩)
          all_goals go_wp2_with fail
          all_goals
            go_meet
            case rel => exact ⟨hKd.below hb1, rfl⟩
        case rest =>
          obtain ⟨hK2, rfl⟩ := hcut
          replace hc1 := H.cell hK2.old 1 (by omega)
          clear hK1
          have hKd : Kept w wc.drew s := hK2.below ((Below.refl _ _).drew)
          have hh : HasWays wc.drew w.heap.size := ⟨s, H.ways, hKd.here⟩
          have hv := waysOf_eq hKd.here
          have HNw := now_any p a s (word ws 1) [119] wc.drew (H.prog.below hKd.old) H.ok H.ways (H.long 1) (by simp) hf1 H.twelve
          unfold WS.val at HNw
          cases hb : p.there s (word ws 2)
          all_goals
            have HB : Hid (_ = _) := hb
            clear hb
            go_wp2_with fail
            first | go_region_with (go_at_call 88; refine HNw.mono ?_; rintro e w1 ⟨rfl, hb1⟩; have hh1 : HasWays w1 (w.heap.size + 1) := ⟨zeroWS, zeroWS_ok, (hKd.below hb1).zero⟩; have hi1 : IsWays (p.now s (word ws 1) [119]).cells.toArray := ⟨_, hs1, rfl⟩) | skip
            all_goals go_wp2_with fail
            all_goals exact stepEnds (hKd.below hb1).zero hs1 rfl rfl ⟨by rw [HB.out]; rfl, below_setCells (hKd.below hb1).old (by omega) _ _⟩
end Go.Proofs.YtmlgajhhnojdjaaGreatDoor.RefZa
namespace Go.Proofs.YtmlgajhhnojdjaaGreatDoor.RefZb
open Go.RowKit Go.Proofs.YtmlgajhhnojdjaaGreatDoor.Spec Go.Proofs.YtmlgajhhnojdjaaGreatDoor.RefA Go.Proofs.YtmlgajhhnojdjaaGreatDoor.RefO Go.Proofs.YtmlgajhhnojdjaaGreatDoor.RefP Go.Proofs.YtmlgajhhnojdjaaGreatDoor.RefQ Go.Proofs.YtmlgajhhnojdjaaGreatDoor.RefR Go.Proofs.YtmlgajhhnojdjaaGreatDoor.RefS Go.Proofs.YtmlgajhhnojdjaaGreatDoor.RefT Go.Proofs.YtmlgajhhnojdjaaGreatDoor.RefU Go.Proofs.YtmlgajhhnojdjaaGreatDoor.Aux
attribute [local go_sem ↓] wp_load_ways wp_store_ways
attribute [local go_sem ↓] wp_load_open wp_store_open
attribute [local go_sem] loadsWays storesWays loadArg storeTo storeWhat

set_option maxRecDepth 20000 in
set_option maxHeartbeats 4000000 in
theorem step_plain (p : RP) (a : Nat) (s : WS) (ws : List B) (gw cw : Nat) (w : World) (H : StepIn p a s ws gw w) (hlen : 1 ≤ ws.length)  (h0 : word ws 0 = [103, 111, 116, 111] ∨ word ws 0 = [98, 108, 111, 99, 107] ∨ word ws 0 = [108, 101, 116]) :
    Calls Tryz.prog 84 #[.pointer (some ⟨a, 0, none⟩), .slice (some ⟨gw, 0, none⟩) ws.length cw, s.val] w fun e w' => e = .returned (.tuple #[(p.step ws s).1.val, .bool (p.step ws s).2]) ∧ Below w.heap.size w w' := by
  have HR : Hid (p.step ws s = (s, true)) := by
    unfold Hid RP.step
    rcases h0 with h0 | h0 | h0 <;> simp [h0]

  have hwd := H.wide
  rw [HR.out]
  unfold WS.val
  rcases h0 with h0 | h0 | h0
  all_goals
    go_enter Tryz.func84, Tryz.ntmps84
    go_upto_region 0 with fail
    go_cut [5, 6, 7] (fun v5 v6 v7 wc => Kept w wc s ∧ v5 = .pointer (some ⟨w.heap.size, 0, none⟩) ∧ v6 = .pointer (some ⟨w.heap.size + 1, 0, none⟩) ∧ v7 = .bool false)
    case first =>
      go_wp2
      go_meet
      case rel => exact ⟨kept_start w s, rfl, rfl, rfl⟩
    case rest =>
      obtain ⟨hK, rfl, rfl, rfl⟩ := hcut
      have hc0 := H.cell hK.old 0 (by omega)
      rw [h0] at hc0

      have H0 : Hid (_ = _) := h0
      clear h0
      have hi1 : IsWays s.cells.toArray := ⟨s, H.ways, rfl⟩
      have hh : HasWays wc w.heap.size := ⟨s, H.ways, hK.here⟩
      have hz : HasWays wc (w.heap.size + 1) := ⟨zeroWS, zeroWS_ok, hK.zero⟩
      have hv := waysOf_eq hK.here
      go_wp2
      all_goals exact stepEnds hK.zero H.ways rfl rfl ⟨rfl, below_setCells hK.old (by omega) _ _⟩
end Go.Proofs.YtmlgajhhnojdjaaGreatDoor.RefZb
/- What the document's own ways make of any line of a program. Conditions: the line's form and names are right; the program lies in memory; few letters. -/
namespace Go.Proofs.YtmlgajhhnojdjaaGreatDoor.RefZd
open Go.RowKit Go.Proofs.YtmlgajhhnojdjaaGreatDoor.Spec Go.Proofs.YtmlgajhhnojdjaaGreatDoor.RefT Go.Proofs.YtmlgajhhnojdjaaGreatDoor.RefU Go.Proofs.YtmlgajhhnojdjaaGreatDoor.RefV Go.Proofs.YtmlgajhhnojdjaaGreatDoor.RefW Go.Proofs.YtmlgajhhnojdjaaGreatDoor.RefX Go.Proofs.YtmlgajhhnojdjaaGreatDoor.RefY Go.Proofs.YtmlgajhhnojdjaaGreatDoor.RefZ Go.Proofs.YtmlgajhhnojdjaaGreatDoor.RefZa Go.Proofs.YtmlgajhhnojdjaaGreatDoor.RefZb Go.Proofs.YtmlgajhhnojdjaaGreatDoor.Aux

theorem find_at {p : RP} {i : Nat} {f : B} (N : p.names i = true) (hl : ¬ word (p.line i) 0 = wLet) (hb : (behind (word (p.line i) 0) p.raw).1 = f) (k : Nat) (hk : k < f.length) (hc : f[k] ∈ [(105 : UInt8), 112, 109, 111, 100]) : 0 ≤ p.find (localOf (word (p.line i) (k + 1))) := by
  subst hb; exact RP.names_find N hl k hk hc
theorem len_of {raw : Bool} {ws : List B} (h : lineForm raw ws = true) (hl : ¬ word ws 0 = wLet) (hb : ¬ word ws 0 = wBlock) : (behind (word ws 0) raw).2 = true ∧ ws.length = (behind (word ws 0) raw).1.length + 1 := by
  unfold lineForm at h
  rw [if_neg hl, if_neg hb] at h
  simp only [Bool.and_eq_true, decide_eq_true_eq] at h
  exact h.1
def stepWords : List B := [[115, 101, 116], [105, 110], [97, 100, 100], [115, 117, 98], [109, 117, 108], [100, 105, 118], [111, 117, 116], [105, 102], [101, 110, 100], [109, 97, 116, 99, 104], [110, 101, 119], [108, 111, 97, 100], [115, 116, 111, 114, 101], [110, 111, 110, 101], [100, 114, 111, 112], [109, 111, 118, 101], [115, 111, 109, 101], [103, 111, 116, 111]]
theorem behind_words (w : B) (h : (behind w false).2 = true) : w ∈ stepWords := by
  by_cases hn : w ∈ stepWords
  · exact hn
  · exfalso
    simp only [stepWords, List.mem_cons, List.not_mem_nil, or_false, not_or] at hn
    obtain ⟨h1, h2, h3, h4, h5, h6, h7, h8, h9, h10, h11, h12, h13, h14, h15, h16, h17, h18⟩ := hn
    unfold behind at h
    simp only [h1, h2, h3, h4, h5, h6, h7, h8, h9, h10, h11, h12, h13, h14, h15, h16, h17, h18, or_self, if_false] at h
    repeat (split at h <;> first | (cases h; done) | skip)
theorem step_any (p : RP) (a : Nat) (s : WS) (i : Nat) (gw cw : Nat) (w : World) (H : StepIn p a s (p.line i) gw w) (hF : lineForm false (p.line i) = true) (hN : p.names i = true) (hr : p.raw = false) (hs : s.Few) :
    Calls Tryz.prog 84 #[.pointer (some ⟨a, 0, none⟩), .slice (some ⟨gw, 0, none⟩) (p.line i).length cw, s.val] w fun e w' => e = .returned (.tuple #[(p.step (p.line i) s).1.val, .bool (p.step (p.line i) s).2]) ∧ Below w.heap.size w w' := by
  by_cases hl : word (p.line i) 0 = wLet
  · exact step_plain p a s _ gw cw w H H.one (.inr (.inr hl))
  by_cases hb : word (p.line i) 0 = wBlock
  · exact step_plain p a s _ gw cw w H H.one (.inr (.inl hb))
  obtain ⟨h1, h2⟩ := len_of hF hl hb
  have hB := fun f (e : (behind (word (p.line i) 0) false).1 = f) => @find_at p i f hN hl (by rw [hr]; exact e)
  have hm := behind_words _ h1
  simp only [stepWords, List.mem_cons, List.not_mem_nil, or_false] at hm
  rcases hm with h | h | h | h | h | h | h | h | h | h | h | h | h | h | h | h | h | h
  · have hf : (behind (word (p.line i) 0) false).1 = [105, 110] := by rw [h]; rfl
    exact step_set p a s _ gw cw w H (by rw [h2, hf]; decide) (hB _ hf 0 (by simp) (by simp)) (.inl h)
  · have hf : (behind (word (p.line i) 0) false).1 = [105] := by rw [h]; rfl
    exact step_set p a s _ gw cw w H (by rw [h2, hf]; decide) (hB _ hf 0 (by simp) (by simp)) (.inr (h))
  · have hf : (behind (word (p.line i) 0) false).1 = [105, 105, 105] := by rw [h]; rfl
    exact step_arith p a s _ gw cw w H (by rw [h2, hf]; decide) (hB _ hf 0 (by simp) (by simp)) (hB _ hf 1 (by simp) (by simp)) (hB _ hf 2 (by simp) (by simp)) (.inl h)
  · have hf : (behind (word (p.line i) 0) false).1 = [105, 105, 105] := by rw [h]; rfl
    exact step_arith p a s _ gw cw w H (by rw [h2, hf]; decide) (hB _ hf 0 (by simp) (by simp)) (hB _ hf 1 (by simp) (by simp)) (hB _ hf 2 (by simp) (by simp)) (.inr (.inl h))
  · have hf : (behind (word (p.line i) 0) false).1 = [105, 105, 105] := by rw [h]; rfl
    exact step_arith p a s _ gw cw w H (by rw [h2, hf]; decide) (hB _ hf 0 (by simp) (by simp)) (hB _ hf 1 (by simp) (by simp)) (hB _ hf 2 (by simp) (by simp)) (.inr (.inr (.inl h)))
  · have hf : (behind (word (p.line i) 0) false).1 = [105, 105, 105] := by rw [h]; rfl
    exact step_arith p a s _ gw cw w H (by rw [h2, hf]; decide) (hB _ hf 0 (by simp) (by simp)) (hB _ hf 1 (by simp) (by simp)) (hB _ hf 2 (by simp) (by simp)) (.inr (.inr (.inr (h))))
  · have hf : (behind (word (p.line i) 0) false).1 = [105] := by rw [h]; rfl
    exact step_out p a s _ gw cw w H (by rw [h2, hf]; decide) (hB _ hf 0 (by simp) (by simp)) (.inl h)
  · have hf : (behind (word (p.line i) 0) false).1 = [105, 78, 78] := by rw [h]; rfl
    exact step_out p a s _ gw cw w H (by rw [h2, hf]; decide) (hB _ hf 0 (by simp) (by simp)) (.inr (.inl h))
  · have hf : (behind (word (p.line i) 0) false).1 = [105] := by rw [h]; rfl
    exact step_out p a s _ gw cw w H (by rw [h2, hf]; decide) (hB _ hf 0 (by simp) (by simp)) (.inr (.inr (.inl h)))
  · have hf : (behind (word (p.line i) 0) false).1 = [111, 78, 78] := by rw [h]; rfl
    exact step_out p a s _ gw cw w H (by rw [h2, hf]; decide) (hB _ hf 0 (by simp) (by simp)) (.inr (.inr (.inr (h))))
  · have hf : (behind (word (p.line i) 0) false).1 = [112, 105] := by rw [h]; rfl
    exact step_new p a s _ gw cw w H (by rw [h2, hf]; decide) (hB _ hf 0 (by simp) (by simp)) (hB _ hf 1 (by simp) (by simp)) (h)
  · have hf : (behind (word (p.line i) 0) false).1 = [105, 112] := by rw [h]; rfl
    exact step_load p a s _ gw cw w H (by rw [h2, hf]; decide) (hB _ hf 0 (by simp) (by simp)) (hB _ hf 1 (by simp) (by simp)) (h)
  · have hf : (behind (word (p.line i) 0) false).1 = [112, 105] := by rw [h]; rfl
    exact step_store p a s _ gw cw w H (by rw [h2, hf]; decide) (hB _ hf 0 (by simp) (by simp)) (hB _ hf 1 (by simp) (by simp)) (h)
  · have hf : (behind (word (p.line i) 0) false).1 = [111] := by rw [h]; rfl
    exact step_none p a s _ gw cw w H (by rw [h2, hf]; decide) (hB _ hf 0 (by simp) (by simp)) (h)
  · have hf : (behind (word (p.line i) 0) false).1 = [100] := by rw [h]; rfl
    exact step_drop p a s _ gw cw w H (by rw [h2, hf]; decide) (hB _ hf 0 (by simp) (by simp)) (h)
  · have hf : (behind (word (p.line i) 0) false).1 = [109, 109] := by rw [h]; rfl
    exact step_takes p a s _ gw cw w H  (hB _ hf 0 (by simp) (by simp)) (hB _ hf 1 (by simp) (by simp)) (.inl h) (by rw [h2, hf]; rfl) (p.takes_few hs _).ok
  · have hf : (behind (word (p.line i) 0) false).1 = [111, 112] := by rw [h]; rfl
    exact step_takes p a s _ gw cw w H  (hB _ hf 0 (by simp) (by simp)) (hB _ hf 1 (by simp) (by simp)) (.inr (h)) (by rw [h2, hf]; rfl) (p.takes_few hs _).ok
  · have hf : (behind (word (p.line i) 0) false).1 = [78] := by rw [h]; rfl
    exact step_plain p a s _ gw cw w H (by rw [h2, hf]; decide)  (.inl h)
end Go.Proofs.YtmlgajhhnojdjaaGreatDoor.RefZd
/- What the document's own ways make of two ways that meet: the first with the second besides. Conditions: each spot has few letters. -/
namespace Go.Proofs.YtmlgajhhnojdjaaGreatDoor.RefZc
open Go.RowKit Go.Proofs.YtmlgajhhnojdjaaGreatDoor.Spec Go.Proofs.YtmlgajhhnojdjaaGreatDoor.RefA Go.Proofs.YtmlgajhhnojdjaaGreatDoor.RefO Go.Proofs.YtmlgajhhnojdjaaGreatDoor.RefR Go.Proofs.YtmlgajhhnojdjaaGreatDoor.Aux
attribute [local go_sem ↓] wp_load_ways wp_store_ways

theorem WayAt.setKnown {w : World} {b : Nat} {s : WS} (h : WayAt w b s) (k : Bool) : WayAt (w.setCell ⟨b, 0, none⟩ (.bool k)) b { s with known := k } := by
  unfold WayAt
  rw [Go.Proofs.YtmlgajhhnojdjaaGreatDoor.Aux.heap_setCell_same h]
  congr 2
/-- two ways, and a place for the answer -/
structure Two (w wr : World) (s o : WS) : Prop where
  one : WayAt wr w.heap.size s
  other : WayAt wr (w.heap.size + 1) o
  zero : WayAt wr (w.heap.size + 2) zeroWS
  old : Below w.heap.size w wr
theorem Two.below {w wr w' : World} {s o : WS} (h : Two w wr s o) (hb : Below wr.heap.size wr w') : Two w w' s o :=
  ⟨h.one.below hb, h.other.below hb, h.zero.below hb, h.old.trans (hb.mono h.old.size)⟩
theorem two_start (w : World) (s o : WS) : Two w (((w.alloc (.cells s.cells.toArray 155)).alloc (.cells o.cells.toArray 155)).alloc (.cells zeroWS.cells.toArray 155)) s o := by
  have h1 := WayAt.new w s
  have h2 := WayAt.new (w.alloc (.cells s.cells.toArray 155)) o
  have h3 := WayAt.new ((w.alloc (.cells s.cells.toArray 155)).alloc (.cells o.cells.toArray 155)) zeroWS
  refine ⟨(h1.below (below_alloc _ _)).below (below_alloc _ _), ?_, ?_, ((below_alloc w _).alloc (by simp) _).alloc (by simp; omega) _⟩
  · have := h2.below (below_alloc _ (.cells zeroWS.cells.toArray 155))
    simpa using this
  · simpa using h3
theorem Two.set {w wr : World} {s o : WS} (h : Two w wr s o) (k : Nat) (c : B) : Two w (wr.setCell ⟨w.heap.size, 1 + k, none⟩ (.string (bs c))) (WS.set s k c) o :=
  ⟨h.one.set k c, h.other.setOther (by simp) _, h.zero.setOther (by simp) _, h.old.setCell (Nat.le_refl _) _⟩
theorem addedEnds {tmps : Array Value} {w wr : World} {t : WS} {b : Bool} {R : Ending → World → Prop} (hK : WayAt wr (w.heap.size + 2) zeroWS) (ht : t.Ok) (h6 : tmps.getD 4 undef = .pointer (some ⟨w.heap.size + 2, 0, none⟩)) (h7 : tmps.getD 5 undef = .bool b)
    (h : R (.returned (.tuple #[t.val, .bool b])) (wr.setCells (w.heap.size + 2) 0 t.cells)) : bodyPost Tryz.prog Tryz.f86 R Exit.ret { tmps := tmps, defers := [] } (wr.setCells (w.heap.size + 2) 0 t.cells) := by
  refine bodyPost_ret (results_cell_bool Tryz.results86 tmps _ _ (w.heap.size + 2) t.cells _ h6 (hK.store zeroWS_ok ht).range Tryz.underlying155 rfl (info_ways_of ht)) rfl ?_
  rw [h7]
  exact h

set_option maxRecDepth 20000 in
set_option maxHeartbeats 4000000 in
theorem added_new (s o : WS) (w : World) (ho : o.Ok) (hk : s.known = false) :
    Calls Tryz.prog 86 #[s.val, o.val] w fun e w' => e = .returned (.tuple #[(s.add o).1.val, .bool (s.add o).2]) ∧ Below w.heap.size w w' := by
  have HR : Hid (s.add o = ({ o with known := true }, true)) := by unfold Hid WS.add; rw [hk]; rfl
  have ho' : WS.Ok { o with known := true } := ⟨ho.len, ho.few⟩
  rw [HR.out]
  unfold WS.val
  go_enter Tryz.func86, Tryz.ntmps86
  go_upto_region 0 with fail
  go_cut [2, 3, 4] (fun v2 v3 v4 wc => Two w wc s o ∧ v2 = .pointer (some ⟨w.heap.size, 0, none⟩) ∧ v3 = .pointer (some ⟨w.heap.size + 1, 0, none⟩) ∧ v4 = .pointer (some ⟨w.heap.size + 2, 0, none⟩))
  case first =>
    go_wp2
    go_meet
    case rel => exact ⟨two_start w s o, rfl, rfl, rfl⟩
  case rest =>
    obtain ⟨hT, rfl, rfl, rfl⟩ := hcut
    have hkn := hT.one.known
    rw [hk] at hkn
    have hfr := hT.other.frozen 0
    have hc1 := hT.other.known
    have hsk := WayAt.setKnown hT.other true
    have hz := hT.zero.setOther (a := ⟨w.heap.size + 1, 0, none⟩) (by simp) (.bool true)
    have hh : HasWays (wc.setCell ⟨w.heap.size + 1, 0, none⟩ (.bool true)) (w.heap.size + 1) := ⟨_, ho', hsk⟩
    have hhz : HasWays (wc.setCell ⟨w.heap.size + 1, 0, none⟩ (.bool true)) (w.heap.size + 2) := ⟨_, zeroWS_ok, hz⟩
    have hv := waysOf_eq hsk
    have hi1 : IsWays (WS.cells { o with known := true }).toArray := ⟨_, ho', rfl⟩
    go_wp2
    all_goals exact addedEnds hz ho' rfl rfl ⟨rfl, below_setCells (hT.old.setCell (by simp) _) (by omega) _ _⟩
set_option maxRecDepth 20000 in
set_option maxHeartbeats 4000000 in
theorem added_old (s o : WS) (w : World) (hs : s.Few) (ho : o.Few) (hk : s.known = true) :
    Calls Tryz.prog 86 #[s.val, o.val] w fun e w' => e = .returned (.tuple #[(s.add o).1.val, .bool (s.add o).2]) ∧ Below w.heap.size w w' := by
  have HR : Hid (s.add o = addsGo o (24 - 0) 0 s false) := by unfold Hid WS.add; rw [hk]; rfl
  have HO : Hid (o.Few) := ho
  have HF : Hid (s.Few) := hs
  have HU : Hid ((s.add o).1.Few) := WS.add_few hs ho
  unfold WS.val
  clear ho hs
  go_enter Tryz.func86, Tryz.ntmps86
  go_upto_region 0 with fail
  go_cut [2, 3, 4] (fun v2 v3 v4 wc => Two w wc s o ∧ v2 = .pointer (some ⟨w.heap.size, 0, none⟩) ∧ v3 = .pointer (some ⟨w.heap.size + 1, 0, none⟩) ∧ v4 = .pointer (some ⟨w.heap.size + 2, 0, none⟩))
  case first =>
    go_wp2
    go_meet
    case rel => exact ⟨two_start w s o, rfl, rfl, rfl⟩
  case rest =>
    obtain ⟨hT, rfl, rfl, rfl⟩ := hcut
    have hkn := hT.one.known
    rw [hk] at hkn
    go_wp2
    clear hkn
    go_loopg [6, 7] (24) (fun g vm vi wr => ∃ (i : Nat) (si : WS) (m : Bool), i ≤ 24 ∧ g + i = 24 ∧ vi = .int .i64 i ∧ vm = .bool m ∧ Two w wr si o ∧ Hid (si.Few) ∧ Hid (s.add o = addsGo o (24 - i) i si m))
    case atStart => exact ⟨0, s, false, by omega, rfl, rfl, rfl, hT, HF, HR⟩
    case round =>
      clear hT HR
      obtain ⟨i, si, m, hi, hgi, rfl, rfl, hT, HFi, HI⟩ := hrel
      by_cases hlt : i < 24
      · have HS : Hid (_ = _) := addsGo_step o i si m hlt
        have hi24 : (i : Int) < 24 := by omega
        obtain ⟨L, hL⟩ : ∃ L, L = (o.at i).length := ⟨_, rfl⟩
        have HLn : Hid (L = (o.at i).length) := hL
        have hL4 : L ≤ 4 := by rw [hL]; exact (HO.out.few i).length
        clear hL
        go_wp2
        go_loopg [6, 8, 9] (L) (fun g vm vk v9 wr => ∃ (k : Nat) (x : B) (n : Bool), k ≤ L ∧ g + k = L ∧ vk = .int .i64 k ∧ vm = .bool n ∧ Two w wr (WS.set si i x) o ∧ Hid (Few x) ∧ Hid (addGo (si.at i) m (o.at i) = addGo x n ((o.at i).drop k)))
        case atStart => exact ⟨0, si.at i, m, by omega, by omega, rfl, rfl, by rw [WS.set_self _ _ (by rw [HFi.out.len]; omega)]; exact hT, HFi.out.few i, rfl⟩
        case round =>
          clear hT
          obtain ⟨k, x, n, hk2, hgk, rfl, rfl, hT, HX, HJ⟩ := hrel
          have hfi := HFi.out.set i HX.out
          have hat : (WS.set si i x).at i = x := by rw [WS.at_set _ _ _ _ (by rw [HFi.out.len]; omega), if_pos rfl]
          have hc1 := hT.one.cell hfi.ok i hlt
          rw [hat] at hc1
          have hc2 := hT.other.cell HO.out.ok i hlt
          by_cases hkL : k < L
          · have hkl : k < (o.at i).length := by rw [← HLn.out]; exact hkL
            have hkb : k < (bs (o.at i)).size := by simpa using hkl
            have hTd : Two w wr.drew (WS.set si i x) o := hT.below ((Below.refl _ _).drew)
            have HA := with_any (bs x) (bs (o.at i))[k] wr.drew (by have := HX.out.length; simp; omega)
            rw [toList_bs] at HA
            have HL : Hid (Few (withC x (o.at i)[k])) := withC_few HX.out ((HO.out.few i).among _ (List.getElem_mem _))
            have HJ2 : Hid (_ = _) := addGo_step x n (o.at i) k hkl
            go_wp2_with fail
            go_region_law (go_simp; go_at_call 142; refine HA.mono ?_; rintro e w1 ⟨rfl, hb1⟩)
            all_goals
              have hT1 := hTd.below hb1
              have hc1' := hT1.one.cell hfi.ok i hlt
              rw [hat] at hc1'
              have hfr := hT1.one.frozen (1 + i)
              have HT1 : Hid (Two w w1 (WS.set si i x) o) := hT1
              clear hT1 hTd hc1 hc2 hT
              cases n
              all_goals
                go_wp2
                go_roundg (L - (k + 1))
                case rel =>
                  refine ⟨k + 1, _, _, by omega, by omega, by go_num, rfl, by have := HT1.out.set i (withC x (o.at i)[k]); rw [WS.set_set] at this; exact this, HL, ?_⟩
                  unfold Hid
                  rw [HJ.out, HJ2.out]
                  rfl
                case measure => omega
          · have hkl : ¬ (k : Int) < (o.at i).length := by rw [← HLn.out]; omega
            have HE : Hid (addAt o i si m = (WS.set si i x, n)) := by
              unfold Hid addAt
              rw [HJ.out, List.drop_eq_nil_of_le (by rw [← HLn.out]; omega)]
              rfl
            go_wp2
            go_roundg (24 - (i + 1))
            case rel =>
              refine ⟨i + 1, _, _, by omega, by omega, by go_num, rfl, hT, hfi, ?_⟩
              unfold Hid
              rw [HI.out, HS.out, HE.out]
            case measure => omega
      · have HE : Hid (s.add o = (si, m)) := by
          unfold Hid
          rw [HI.out, show 24 - i = 0 by omega]
          rfl
        have hsi := HFi.out.ok
        have hh : HasWays wr w.heap.size := ⟨_, hsi, hT.one⟩
        have hhz : HasWays wr (w.heap.size + 2) := ⟨_, zeroWS_ok, hT.zero⟩
        have hv := waysOf_eq hT.one
        have hi1 : IsWays si.cells.toArray := ⟨_, hsi, rfl⟩
        go_wp2
        all_goals exact addedEnds hT.zero hsi rfl rfl ⟨by rw [HE.out]; rfl, below_setCells hT.old (by omega) _ _⟩
theorem added_any (s o : WS) (w : World) (hs : s.Few) (ho : o.Few) :
    Calls Tryz.prog 86 #[s.val, o.val] w fun e w' => e = .returned (.tuple #[(s.add o).1.val, .bool (s.add o).2]) ∧ Below w.heap.size w w' := by
  cases hk : s.known
  · exact added_new s o w ho.ok hk
  · exact added_old s o w hs ho hk
end Go.Proofs.YtmlgajhhnojdjaaGreatDoor.RefZc
