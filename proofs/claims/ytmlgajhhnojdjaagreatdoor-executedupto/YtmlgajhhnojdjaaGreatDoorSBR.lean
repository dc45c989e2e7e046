/- The document's own machine: move and some of the bare machine, walked. -/
import Derived.Test.YtmlgajhhnojdjaaGreatDoorSBC
import Derived.Test.YtmlgajhhnojdjaaGreatDoorSAQ
import Derived.Deep.QuietTactic
import Derived.Test.YtmlgajhhnojdjaaGreatDoorSBD
import Derived.Test.YtmlgajhhnojdjaaGreatDoorSAY
import Derived.Deep.RegionLaw
import Derived.Test.YtmlgajhhnojdjaaGreatDoorSBE
namespace Go.Proofs.YtmlgajhhnojdjaaGreatDoor.Mac
open Go Go.RowKit Go.Proofs.YtmlgajhhnojdjaaGreatDoor.Spec Go.Proofs.YtmlgajhhnojdjaaGreatDoor.Aux Go.Proofs.YtmlgajhhnojdjaaGreatDoor.PrjJ Go.Proofs.YtmlgajhhnojdjaaGreatDoor.PrjK Go.Proofs.YtmlgajhhnojdjaaGreatDoor.PrjL Go.Proofs.YtmlgajhhnojdjaaGreatDoor.PrjM Go.Proofs.YtmlgajhhnojdjaaGreatDoor.Own Go.Proofs.YtmlgajhhnojdjaaGreatDoor.RefRa Go.Proofs.YtmlgajhhnojdjaaGreatDoor.RefP Go.Proofs.YtmlgajhhnojdjaaGreatDoor.RefO Go.Proofs.YtmlgajhhnojdjaaGreatDoor.RefH

section
variable {w0 w w1 w2 w3 : World} {x gw cw : Nat} {f : Fx} {m : RM} {p : RP} {ws : List B} {t : Nat} {vb vt : Value}
theorem set_same {l : List UInt8} {i j : Nat} (hi : i < l.length) : (l.set j (l.getD i 0)).getD i 0 = l.getD i 0 := by
  rw [List.getD_eq_getElem?_getD, List.getElem?_set]
  split
  · rename_i e
    subst e
    rw [if_pos hi]; rfl
  · rw [← List.getD_eq_getElem?_getD]
set_option maxRecDepth 20000 in
set_option maxHeartbeats 4000000 in
theorem bare_any (hC : Ctx w0 p f) (h : MAt w0 x f w m) (hR : Row w0 ws gw) (hn : ws.length = 3) (h1 : Wd p (word ws 1)) (h2 : Wd p (word ws 2)) (hw : word ws 0 = [109, 111, 118, 101] ∨ word ws 0 = [115, 111, 109, 101]) (hfit : sp p (word ws 1) + (p.spots (word ws 2)).2 ≤ 24) :
    Calls Tryz.prog 155 #[.pointer (some ⟨x, 0, none⟩), .slice (some ⟨gw, 0, none⟩) ws.length cw] w fun e w' => e = .returned (.tuple #[]) ∧ MAt w0 x f w' (m.bare p ws) := by
  obtain ⟨hi, hi2, hn1, hn2⟩ := h2.lt hC.twelve
  obtain ⟨hj, -⟩ := h1.lt hC.twelve
  have KS := fun w' (hp : ProgAt w' f.a p) => spots_any p f.a (word ws 2) w' hp hC.ok h2.len h2.find
  have KT := fun w' (hp : ProgAt w' f.a p) => typeOf_any p f.a (word ws 2) w' hp hC.ok h2.len h2.find
  have hln : (ws.length : Int) = 3 := by omega
  have e1 : (p.spots (word ws 2)).1 = sp p (word ws 2) := rfl
  rw [e1] at KS
  obtain ⟨vb, vt, hV⟩ := h
  obtain ⟨c0, c1, c2, c3, c4, c5, c6, c7, c8, c9⟩ := hV.facts
  have HP := hC.prog.below (hV.below ((Below.refl w.heap.size w).drew)).old
  have z2 := hR.at hV (j := 2) (by omega)
  have HB : Hid (m.bare p ws = if p.typeOf (word ws 2) = wOpt then (if m.how.getD (sp p (word ws 2)) 0 = 0 then { m with out := 5 } else if (m.how.set (sp p (word ws 1)) (m.how.getD (sp p (word ws 2)) 0)).getD (sp p (word ws 2)) 0 = 110 then { m with how := m.how.set (sp p (word ws 1)) (m.how.getD (sp p (word ws 2)) 0) } else RM.bareB p { m with how := m.how.set (sp p (word ws 1)) (m.how.getD (sp p (word ws 2)) 0) } ws) else m.bareB p ws) := rfl
  rw [set_same (by rw [hV.len.how]; exact hi)] at HB
  have HBB : Hid (∀ mm : RM, mm.bareB p ws = if (RM.bareGo (sp p (word ws 1)) (sp p (word ws 2)) (p.spots (word ws 2)).2 0 mm).2 = false then (RM.bareGo (sp p (word ws 1)) (sp p (word ws 2)) (p.spots (word ws 2)).2 0 mm).1 else if word ws 0 = wSome then { (RM.bareGo (sp p (word ws 1)) (sp p (word ws 2)) (p.spots (word ws 2)).2 0 mm).1 with how := (RM.bareGo (sp p (word ws 1)) (sp p (word ws 2)) (p.spots (word ws 2)).2 0 mm).1.how.set (sp p (word ws 1)) 119 } else (RM.bareGo (sp p (word ws 1)) (sp p (word ws 2)) (p.spots (word ws 2)).2 0 mm).1) := fun mm => rfl
  go_enter Tryz.func155, Tryz.ntmps155
  go_upto_region 0 with fail
  go_region_law (go_simp; go_at_call 143; refine (KS _ HP).mono ?_; rintro e w1 ⟨rfl, n1, rfl⟩)
  all_goals
    have hV1 : MAtV w0 x f (w.drewN (1 + n1)) m vb vt := hV.below (below_drewN (Below.refl w.heap.size w) _)
    clear hV c0 c1 c2 c3 c4 c5 c6 c7 c8 c9 HP z2 KS
    generalize w.drewN (1 + n1) = wq at *
    have z1 := hR.at hV1 (j := 1) (by omega)
    have KS2 := spot_any hC ⟨_, _, hV1⟩ h1
    go_upto_region 2 with (first
      | (go_at_call 149; refine KS2.mono ?_; rintro e w3 ⟨rfl, vb3, vt3, hV3⟩; obtain ⟨c0, c1, c2, c3, c4, c5, c6, c7, c8, c9⟩ := hV3.facts; have z2 := hR.at hV3 (j := 2) (by omega); have HP := hC.prog.below (hV3.below ((Below.refl w3.heap.size w3).drew)).old))
    go_region_law (go_simp; go_at_call 113; refine (KT _ HP).mono ?_; rintro e w4 ⟨rfl, n4, rfl⟩)
    all_goals
      have hV4 : MAtV w0 x f (w3.drewN (1 + n4)) m vb3 vt3 := hV3.below (below_drewN (Below.refl w3.heap.size w3) _)
      clear hV3 hV1 c0 c1 c2 c3 c4 c5 c6 c7 c8 c9 HP z2 z1 KS2 KT e1
      generalize w3.drewN (1 + n4) = wt at *
      obtain ⟨a1, a2⟩ := hV4.howAt hi
      obtain ⟨a3, a4⟩ := hV4.howAt hj
      obtain ⟨g1, g2, g3, g4, g5, g6⟩ := hV4.frozs
      obtain ⟨d0, d1, d2, d3, d4, d5, d6, d7, d8, d9⟩ := hV4.facts
      have HWS : Hid (word ws 0 = [109, 111, 118, 101] ∨ word ws 0 = [115, 111, 109, 101]) := hw
      have HV4 : Hid (MAtV w0 x f wt m vb3 vt3) := hV4
      generalize sp p (word ws 2) = i at *
      generalize sp p (word ws 1) = j at *
      generalize (p.spots (word ws 2)).2 = n at *
      have i1 : (i : Int) < 24 := by omega
      have i2 : (j : Int) < 24 := by omega
      have hcs : (¬ p.typeOf (word ws 2) = wOpt) ∨ (p.typeOf (word ws 2) = wOpt ∧ ¬ m.how.getD i 0 = 0 ∧ ¬ m.how.getD i 0 = 110) ∨ (p.typeOf (word ws 2) = wOpt ∧ m.how.getD i 0 = 0) ∨ (p.typeOf (word ws 2) = wOpt ∧ m.how.getD i 0 = 110) := by
        by_cases h1 : p.typeOf (word ws 2) = wOpt
        · by_cases h2 : m.how.getD i 0 = 0
          · exact .inr (.inr (.inl ⟨h1, h2⟩))
          · by_cases h3 : m.how.getD i 0 = 110
            · exact .inr (.inr (.inr ⟨h1, h3⟩))
            · exact .inr (.inl ⟨h1, h2, h3⟩)
        · exact .inl h1
      rcases hcs with hty | ⟨hty, hc0, hc1⟩ | ⟨hty, hc0⟩ | ⟨hty, hc0⟩
      · rw [if_neg hty] at HB
        have hbt : (p.typeOf (word ws 2) == [111, 112, 116]) = false := by rw [beq_eq_false_iff_ne]; exact hty
        clear hty
        clear d0 d1 d2 d3 d4 d5 d6 d7 d9
        generalize p.typeOf (word ws 2) = ty at *
        go_wp2_with fail
        obtain ⟨mm, HM, HBm⟩ : ∃ mm : RM, Hid (MAt w0 x f wt mm) ∧ Hid (m.bare p ws = mm.bareB p ws) := ⟨m, ⟨_, _, HV4.out⟩, HB.out⟩
        clear hV4 HV4 a1 a2 a3 a4 g1 g2 g3 g4 g5 g6 d8 HB

        go_loopw [8] (fun v8 wr => ∃ (k : Nat) (mk : RM), k ≤ n ∧ v8 = .int .i64 ((k : Nat) : Int) ∧ Hid (MAt w0 x f wr mk) ∧ Hid (RM.bareGo j i (n - k) k mk = RM.bareGo j i n 0 mm)) (fun v _ => n - (intOf v).toNat)
        case atStart => exact ⟨0, mm, Nat.zero_le _, rfl, HM, rfl⟩
        case round =>
          obtain ⟨k, mk, hk0, rfl, HK, HE⟩ := hrel
          clear HM
          obtain ⟨vb', vt', hX⟩ := HK.out
          by_cases hlt : k < n
          · have hi24 : i + k < 24 := by omega
            have hj24 : j + k < 24 := by omega
            obtain ⟨b1, b2⟩ := hX.heldAt hi24
            obtain ⟨b3, b4⟩ := hX.heldAt hj24
            obtain ⟨k1, k2, k3, k4, k5, k6⟩ := hX.frozs
            obtain ⟨-, -, -, -, -, -, -, -, q8, -⟩ := hX.facts
            have n1 : ((i : Int) + k) = ((i + k : Nat) : Int) := by omega
            have n2 : ((j : Int) + k) = ((j + k : Nat) : Int) := by omega
            have n3 : ((i + k : Nat) : Int) < 24 := by omega
            have n4' : ((j + k : Nat) : Int) < 24 := by omega
            have n5 : ((k : Nat) : Int) < (n : Int) := by omega
            have n6 : IntKind.i64.wrap ((i : Int) + k) = ((i + k : Nat) : Int) := by rw [IntKind.wrap_i64]; omega
            have n7 : IntKind.i64.wrap ((j : Int) + k) = ((j + k : Nat) : Int) := by rw [IntKind.wrap_i64]; omega
            have hstep : Hid (RM.bareGo j i (n - k) k mk = if mk.held.getD (i + k) 0 = 0 then ({ mk with out := 5 }, false) else RM.bareGo j i (n - (k + 1)) (k + 1) { mk with held := mk.held.set (j + k) (mk.held.getD (i + k) 0) }) := by
              unfold Hid
              rw [show n - k = (n - (k + 1)) + 1 by omega, RM.bareGo]
            have hX5 := hX.setOut 5
            have hX6 := (hX.below ((Below.refl wr.heap.size wr).drew)).setHeld hj24 (mk.held.getD (i + k) 0)
            generalize hvv : mk.held.getD (i + k) 0 = hv at *
            generalize i + k = ik at *
            generalize j + k = jk at *
            have n8 : IntKind.i64.wrap (ik : Int) = ik := by rw [IntKind.wrap_i64]; omega
            have n9 : IntKind.i64.wrap (jk : Int) = jk := by rw [IntKind.wrap_i64]; omega
            by_cases hz0 : hv = 0
            · subst hz0
              have b5 : wr.cell? ⟨x, 50 + ik, none⟩ = some (.int .i64 0) := b1
              clear b1
              go_wp2_with fail
              try simp only [Exit.inBlock, Exit.then]
              refine bodyPost_ret (results_none rfl _ _ _) rfl ?_
              refine ⟨rfl, ?_⟩
              rw [HBm.out, HBB.out, ← HE.out, hstep.out]
              simp only [if_true]
              exact ⟨_, _, hX5⟩
            · have hzb : ¬ ((hv : Nat) : Int) = 0 := by omega
              go_upto_region 13 with fail
              go_region_law (fail)
              all_goals
                go_wp2_with fail
                refine ⟨⟨k + 1, _, by omega, by go_num, ⟨_, _, hX6⟩, ?_⟩, by simp [intOf]; omega⟩
                rw [← HE.out, hstep.out, if_neg hz0]
                exact rfl
          · have n5 : ¬ ((k : Nat) : Int) < (n : Int) := by omega
            have ekn : k = n := by omega
            subst ekn
            have HE2 : Hid (RM.bareGo j i k 0 mm = (mk, true)) := by unfold Hid; rw [← HE.out, Nat.sub_self]; rfl
            obtain ⟨b3, b4⟩ := hX.howAt hj
            have y0 := hR.at hX (j := 0) (by omega)
            rcases HWS.out with hw' | hw'
            · rw [hw'] at y0
              go_wp2_with fail
              go_end0
              refine ⟨rfl, ?_⟩
              rw [HBm.out, HBB.out, HE2.out, if_neg (by simp), if_neg (show ¬ word ws 0 = wSome by rw [hw']; decide)]
              exact ⟨_, _, hX⟩
            · rw [hw'] at y0
              have hX6 := hX.setHow hj 119
              go_wp2_with fail
              go_end0
              refine ⟨rfl, ?_⟩
              rw [HBm.out, HBB.out, HE2.out, if_neg (by simp), if_pos (show word ws 0 = wSome from hw')]
              exact ⟨_, _, hX6⟩

      · rw [if_pos hty, if_neg hc0, if_neg hc1] at HB
        have hbt : (p.typeOf (word ws 2) == [111, 112, 116]) = true := by rw [beq_iff_eq]; exact hty
        have t1 : ¬ ((m.how.getD i 0).toNat : Int) = 0 := fun e => hc0 (by apply UInt8.toNat_inj.mp; show _ = (0 : Nat); omega)
        have t2 : ¬ ((m.how.getD i 0).toNat : Int) = 110 := fun e => hc1 (by apply UInt8.toNat_inj.mp; show _ = (110 : Nat); omega)
        clear hty d0 d1 d2 d3 d4 d5 d6 d7 d9
        generalize p.typeOf (word ws 2) = ty at *
        have hset : (m.how.set j (m.how.getD i 0)).getD i 0 = m.how.getD i 0 := set_same (by rw [HV4.out.len.how]; exact hi)
        have hV6 := (HV4.out.setHow hj (m.how.getD i 0)).below ((Below.refl _ _).drew)
        have b6 := (hV6.howAt hi).1
        simp only [hset] at b6
        have HV6 : Hid (MAtV w0 x f ((wt.setCell ⟨x, 74 + j, none⟩ (.int .u8 ((m.how.getD i 0).toNat : Nat))).drew) { m with how := m.how.set j (m.how.getD i 0) } vb3 vt3) := hV6
        clear hV6 hset
        generalize m.how.getD i 0 = c at *
        have hcb : ((c.toNat : Int) == 0) = false := by rw [beq_eq_false_iff_ne]; exact t1
        have hcd : ((c.toNat : Int) == 110) = false := by rw [beq_eq_false_iff_ne]; exact t2
        go_upto_region 6 with fail
        go_region_law (fail)
        all_goals
          generalize (wt.setCell ⟨x, 74 + j, none⟩ (.int .u8 (c.toNat : Nat))).drew = w6 at *
          clear a1 a2 a3 a4 g1 g2 g3 g4 g5 g6 d8
          go_wp2_with fail
          obtain ⟨mm, HM, HBm⟩ : ∃ mm : RM, Hid (MAt w0 x f w6 mm) ∧ Hid (m.bare p ws = mm.bareB p ws) := ⟨_, ⟨_, _, HV6.out⟩, HB.out⟩
          clear hV4 HV4 HV6 b6 HB

          go_loopw [8] (fun v8 wr => ∃ (k : Nat) (mk : RM), k ≤ n ∧ v8 = .int .i64 ((k : Nat) : Int) ∧ Hid (MAt w0 x f wr mk) ∧ Hid (RM.bareGo j i (n - k) k mk = RM.bareGo j i n 0 mm)) (fun v _ => n - (intOf v).toNat)
          case atStart => exact ⟨0, mm, Nat.zero_le _, rfl, HM, rfl⟩
          case round =>
            obtain ⟨k, mk, hk0, rfl, HK, HE⟩ := hrel
            clear HM
            obtain ⟨vb', vt', hX⟩ := HK.out
            by_cases hlt : k < n
            · have hi24 : i + k < 24 := by omega
              have hj24 : j + k < 24 := by omega
              obtain ⟨b1, b2⟩ := hX.heldAt hi24
              obtain ⟨b3, b4⟩ := hX.heldAt hj24
              obtain ⟨k1, k2, k3, k4, k5, k6⟩ := hX.frozs
              obtain ⟨-, -, -, -, -, -, -, -, q8, -⟩ := hX.facts
              have n1 : ((i : Int) + k) = ((i + k : Nat) : Int) := by omega
              have n2 : ((j : Int) + k) = ((j + k : Nat) : Int) := by omega
              have n3 : ((i + k : Nat) : Int) < 24 := by omega
              have n4' : ((j + k : Nat) : Int) < 24 := by omega
              have n5 : ((k : Nat) : Int) < (n : Int) := by omega
              have n6 : IntKind.i64.wrap ((i : Int) + k) = ((i + k : Nat) : Int) := by rw [IntKind.wrap_i64]; omega
              have n7 : IntKind.i64.wrap ((j : Int) + k) = ((j + k : Nat) : Int) := by rw [IntKind.wrap_i64]; omega
              have hstep : Hid (RM.bareGo j i (n - k) k mk = if mk.held.getD (i + k) 0 = 0 then ({ mk with out := 5 }, false) else RM.bareGo j i (n - (k + 1)) (k + 1) { mk with held := mk.held.set (j + k) (mk.held.getD (i + k) 0) }) := by
                unfold Hid
                rw [show n - k = (n - (k + 1)) + 1 by omega, RM.bareGo]
              have hX5 := hX.setOut 5
              have hX6 := (hX.below ((Below.refl wr.heap.size wr).drew)).setHeld hj24 (mk.held.getD (i + k) 0)
              generalize hvv : mk.held.getD (i + k) 0 = hv at *
              generalize i + k = ik at *
              generalize j + k = jk at *
              have n8 : IntKind.i64.wrap (ik : Int) = ik := by rw [IntKind.wrap_i64]; omega
              have n9 : IntKind.i64.wrap (jk : Int) = jk := by rw [IntKind.wrap_i64]; omega
              by_cases hz0 : hv = 0
              · subst hz0
                have b5 : wr.cell? ⟨x, 50 + ik, none⟩ = some (.int .i64 0) := b1
                clear b1
                go_wp2_with fail
                try simp only [Exit.inBlock, Exit.then]
                refine bodyPost_ret (results_none rfl _ _ _) rfl ?_
                refine ⟨rfl, ?_⟩
                rw [HBm.out, HBB.out, ← HE.out, hstep.out]
                simp only [if_true]
                exact ⟨_, _, hX5⟩
              · have hzb : ¬ ((hv : Nat) : Int) = 0 := by omega
                go_upto_region 13 with fail
                go_region_law (fail)
                all_goals
                  go_wp2_with fail
                  refine ⟨⟨k + 1, _, by omega, by go_num, ⟨_, _, hX6⟩, ?_⟩, by simp [intOf]; omega⟩
                  rw [← HE.out, hstep.out, if_neg hz0]
                  exact rfl
            · have n5 : ¬ ((k : Nat) : Int) < (n : Int) := by omega
              have ekn : k = n := by omega
              subst ekn
              have HE2 : Hid (RM.bareGo j i k 0 mm = (mk, true)) := by unfold Hid; rw [← HE.out, Nat.sub_self]; rfl
              obtain ⟨b3, b4⟩ := hX.howAt hj
              have y0 := hR.at hX (j := 0) (by omega)
              rcases HWS.out with hw' | hw'
              · rw [hw'] at y0
                go_wp2_with fail
                go_end0
                refine ⟨rfl, ?_⟩
                rw [HBm.out, HBB.out, HE2.out, if_neg (by simp), if_neg (show ¬ word ws 0 = wSome by rw [hw']; decide)]
                exact ⟨_, _, hX⟩
              · rw [hw'] at y0
                have hX6 := hX.setHow hj 119
                go_wp2_with fail
                go_end0
                refine ⟨rfl, ?_⟩
                rw [HBm.out, HBB.out, HE2.out, if_neg (by simp), if_pos (show word ws 0 = wSome from hw')]
                exact ⟨_, _, hX6⟩

      · rw [if_pos hty, if_pos hc0] at HB
        have hbt : (p.typeOf (word ws 2) == [111, 112, 116]) = true := by rw [beq_iff_eq]; exact hty
        clear hty d0 d1 d2 d3 d4 d5 d6 d7 d9
        generalize p.typeOf (word ws 2) = ty at *
        rw [hc0] at a1
        have hX5 := HV4.out.setOut 5
        go_wp2_with fail
        try simp only [Exit.inBlock, Exit.then]
        refine bodyPost_ret (results_none rfl _ _ _) rfl ?_
        exact ⟨rfl, by rw [HB.out]; exact ⟨_, _, hX5⟩⟩
      · rw [if_pos hty, if_neg (by rw [hc0]; decide), if_pos hc0] at HB
        have hbt : (p.typeOf (word ws 2) == [111, 112, 116]) = true := by rw [beq_iff_eq]; exact hty
        clear hty d0 d1 d2 d3 d4 d5 d6 d7 d9
        generalize p.typeOf (word ws 2) = ty at *
        have hset : (m.how.set j (m.how.getD i 0)).getD i 0 = m.how.getD i 0 := set_same (by rw [HV4.out.len.how]; exact hi)
        have hV6 := (HV4.out.setHow hj (m.how.getD i 0)).below ((Below.refl _ _).drew)
        have b6 := (hV6.howAt hi).1
        simp only [hset] at b6
        rw [hc0] at a1
        rw [hc0] at b6 hV6 HB
        have a7 : wt.cell? ⟨x, 74 + i, none⟩ = some (.int .u8 110) := a1
        have b7 : (wt.setCell ⟨x, 74 + j, none⟩ (.int .u8 110)).drew.cell? ⟨x, 74 + i, none⟩ = some (.int .u8 110) := b6
        have hV7 : MAtV w0 x f ((wt.setCell ⟨x, 74 + j, none⟩ (.int .u8 110)).drew) { m with how := m.how.set j 110 } vb3 vt3 := hV6
        clear a1 b6 hV6 hset
        go_upto_region 6 with fail
        go_region_law (fail)
        all_goals
          generalize (wt.setCell ⟨x, 74 + j, none⟩ (.int .u8 110)).drew = w6 at *
          clear a7 a2 a3 a4 g1 g2 g3 g4 g5 g6 d8
          go_wp2_with fail
          try simp only [Exit.inBlock, Exit.then]
          refine bodyPost_ret (results_none rfl _ _ _) rfl ?_
          exact ⟨rfl, by rw [HB.out]; exact ⟨_, _, hV7⟩⟩
end
end Go.Proofs.YtmlgajhhnojdjaaGreatDoor.Mac
/- The document's own bare machine: free, flag, none, walked. -/
namespace Go.Proofs.YtmlgajhhnojdjaaGreatDoor.Mac
open Go Go.RowKit Go.Proofs.YtmlgajhhnojdjaaGreatDoor.Spec Go.Proofs.YtmlgajhhnojdjaaGreatDoor.Aux Go.Proofs.YtmlgajhhnojdjaaGreatDoor.PrjJ Go.Proofs.YtmlgajhhnojdjaaGreatDoor.PrjK Go.Proofs.YtmlgajhhnojdjaaGreatDoor.PrjL Go.Proofs.YtmlgajhhnojdjaaGreatDoor.PrjM Go.Proofs.YtmlgajhhnojdjaaGreatDoor.Own Go.Proofs.YtmlgajhhnojdjaaGreatDoor.RefRa Go.Proofs.YtmlgajhhnojdjaaGreatDoor.RefP Go.Proofs.YtmlgajhhnojdjaaGreatDoor.RefC

section
variable {w0 w w1 w2 w3 : World} {x gw cw : Nat} {f : Fx} {m : RM} {p : RP} {ws : List B} {t : Nat} {vb vt : Value} {inp : List Int}
set_option maxRecDepth 20000 in
set_option maxHeartbeats 2000000 in
theorem does_free (hC : Ctx w0 p f) (h : MAt w0 x f w m) (hR : Row w0 ws gw) (hn : ws.length = 2) (hw : word ws 0 = [102, 114, 101, 101]) (h1 : Wd p (word ws 1)) (hO : m.Ok t) (ht : t ≤ 2000000) :
    Calls Tryz.prog 94 #[.pointer (some ⟨x, 0, none⟩), .slice (some ⟨gw, 0, none⟩) ws.length cw] w fun e w' => e = .returned (.tuple #[]) ∧ MAt w0 x f w' (m.does f p inp ws) := by
  have HG : Hid (m.does f p inp ws = m.free (sp p (word ws 1))) := by unfold Hid RM.does; simp only [hw]; rfl
  have hln : (ws.length : Int) = 2 := by omega
  have y0 := hR.on h (j := 0) (by omega)
  rw [hw] at y0
  have y1 := hR.on h (j := 1) (by omega)
  have KS := spot_any hC h h1
  obtain ⟨hi, -⟩ := h1.lt hC.twelve
  go_enter Tryz.func94, Tryz.ntmps94
  go_wp2_with (first
    | (go_at_call 149; refine KS.mono ?_; rintro e w1 ⟨rfl, hM1⟩; have KF := free_any hM1 hi hO (by omega))
    | (go_at_call 156; refine KF.mono ?_; rintro e w2 ⟨rfl, hM⟩))
  go_end0
  exact ⟨rfl, by rw [HG.out]; exact hM⟩
set_option maxRecDepth 20000 in
set_option maxHeartbeats 2000000 in
theorem does_flag (h : MAt w0 x f w m) (hR : Row w0 ws gw) (hn : ws.length = 3) (hw : word ws 0 = [102, 108, 97, 103]) (h1 : (word ws 1).length ≤ maxLen) (h50 : 0 ≤ valW (word ws 1) ∧ valW (word ws 1) < 50) :
    Calls Tryz.prog 94 #[.pointer (some ⟨x, 0, none⟩), .slice (some ⟨gw, 0, none⟩) ws.length cw] w fun e w' => e = .returned (.tuple #[]) ∧ MAt w0 x f w' (m.does f p inp ws) := by
  have HG : Hid (m.does f p inp ws = { m with flags := m.flags.set (valW (word ws 1)).toNat (word ws 2 == [49]) }) := by unfold Hid RM.does; simp only [hw]; rfl
  have hln : (ws.length : Int) = 3 := by omega
  have y0 := hR.on h (j := 0) (by omega)
  rw [hw] at y0
  have y1 := hR.on h (j := 1) (by omega)
  have y2 := hR.on h (j := 2) (by omega)
  have KN := number_any (bs (word ws 1)) w (by rw [size_bs]; exact h1)
  rw [toList_bs] at KN
  obtain ⟨n, hn'⟩ : ∃ n : Nat, valW (word ws 1) = n := ⟨(valW (word ws 1)).toNat, by omega⟩
  have hv : (number (word ws 1)).getD 0 = (n : Int) := hn'
  rw [hn'] at HG h50
  rw [hv] at KN
  have hj : n < 50 := by omega
  have i1 : (n : Int) < 50 := by omega
  obtain ⟨vb, vt, hV⟩ := h
  obtain ⟨a1, a2⟩ := hV.flagAt hj
  have hV2 := (hV.setFlag hj (word ws 2 == [49])).below ((Below.refl _ _).drew)
  have hV3 := (hV.below ((Below.refl w.heap.size w).drew)).setFlag hj (word ws 2 == [49])
  have n8 : IntKind.i64.wrap (n : Int) = n := by rw [IntKind.wrap_i64]; omega
  go_enter Tryz.func94, Tryz.ntmps94
  go_wp2_with (go_at_call 112; refine KN.mono ?_; rintro e w1 ⟨rfl, rfl⟩)
  go_region_law (fail)
  all_goals go_wp2_with fail
  all_goals go_end0
  all_goals exact ⟨rfl, by rw [HG.out]; first | exact ⟨_, _, hV2⟩ | exact ⟨_, _, hV3⟩⟩
set_option maxRecDepth 20000 in
set_option maxHeartbeats 2000000 in
theorem does_noneB (hC : Ctx w0 p f) (h : MAt w0 x f w m) (hR : Row w0 ws gw) (hn : ws.length = 2) (hw : word ws 0 = [110, 111, 110, 101]) (h1 : Wd p (word ws 1)) (hf : f.owns = false) :
    Calls Tryz.prog 94 #[.pointer (some ⟨x, 0, none⟩), .slice (some ⟨gw, 0, none⟩) ws.length cw] w fun e w' => e = .returned (.tuple #[]) ∧ MAt w0 x f w' (m.does f p inp ws) := by
  have HG : Hid (m.does f p inp ws = m.none f p ws) := by unfold Hid RM.does; simp only [hw]; rfl
  have hln : (ws.length : Int) = 2 := by omega
  have y0 := hR.on h (j := 0) (by omega)
  rw [hw] at y0
  have HX : Hid (m.none f p ws = { m with how := m.how.set (sp p (word ws 1)) 110 }) := by unfold Hid RM.none; simp only; rw [if_neg (by rw [hf]; decide)]
  have y1 := hR.on h (j := 1) (by omega)
  obtain ⟨hi, -⟩ := h1.lt hC.twelve
  have i1 : ((sp p (word ws 1) : Nat) : Int) < 24 := by omega
  have KS := spot_any hC (h.below ((Below.refl w.heap.size w).drew)) h1
  obtain ⟨vb, vt, hV⟩ := h
  obtain ⟨c0, c1, c2, c3, c4, c5, c6, c7, c8, c9⟩ := hV.facts
  rw [hf] at c1
  go_enter Tryz.func94, Tryz.ntmps94
  go_upto_region 31 with fail
  go_region_law (go_simp; go_at_call 149; refine KS.mono ?_; rintro e w3 ⟨rfl, vb3, vt3, hV3⟩; obtain ⟨a1, a2⟩ := hV3.howAt hi; have hV4 := hV3.setHow hi 110)
  all_goals go_wp2_with fail
  all_goals go_end0
  all_goals exact ⟨rfl, by rw [HG.out, HX.out]; exact ⟨_, _, hV4⟩⟩
end
end Go.Proofs.YtmlgajhhnojdjaaGreatDoor.Mac
/- The document's own bare machine: move and some, walked; end. -/
namespace Go.Proofs.YtmlgajhhnojdjaaGreatDoor.Mac
open Go Go.RowKit Go.Proofs.YtmlgajhhnojdjaaGreatDoor.Spec Go.Proofs.YtmlgajhhnojdjaaGreatDoor.Aux Go.Proofs.YtmlgajhhnojdjaaGreatDoor.PrjJ Go.Proofs.YtmlgajhhnojdjaaGreatDoor.PrjK Go.Proofs.YtmlgajhhnojdjaaGreatDoor.PrjL Go.Proofs.YtmlgajhhnojdjaaGreatDoor.PrjM Go.Proofs.YtmlgajhhnojdjaaGreatDoor.Own Go.Proofs.YtmlgajhhnojdjaaGreatDoor.RefRa Go.Proofs.YtmlgajhhnojdjaaGreatDoor.RefP Go.Proofs.YtmlgajhhnojdjaaGreatDoor.RefC

section
variable {w0 w w1 w2 w3 : World} {x gw cw : Nat} {f : Fx} {m : RM} {p : RP} {ws : List B} {t : Nat} {vb vt : Value} {inp : List Int}
set_option maxRecDepth 20000 in
set_option maxHeartbeats 2000000 in
theorem does_moveB (hC : Ctx w0 p f) (h : MAt w0 x f w m) (hR : Row w0 ws gw) (hn : ws.length = 3) (hw : word ws 0 = [109, 111, 118, 101]) (h1 : Wd p (word ws 1)) (h2 : Wd p (word ws 2)) (hfit : sp p (word ws 1) + (p.spots (word ws 2)).2 ≤ 24) (hf : f.owns = false) :
    Calls Tryz.prog 94 #[.pointer (some ⟨x, 0, none⟩), .slice (some ⟨gw, 0, none⟩) ws.length cw] w fun e w' => e = .returned (.tuple #[]) ∧ MAt w0 x f w' (m.does f p inp ws) := by
  have HG : Hid (m.does f p inp ws = m.bare p ws) := by unfold Hid RM.does; simp only [hw, hf]; rfl
  have hln : (ws.length : Int) = 3 := by omega
  have y0 := hR.on h (j := 0) (by omega)
  rw [hw] at y0
  have KA := bare_any (cw := cw) hC h hR hn h1 h2 (by rw [hw]; decide) hfit
  rw [hn] at KA
  obtain ⟨vb, vt, hV⟩ := h
  obtain ⟨c0, c1, c2, c3, c4, c5, c6, c7, c8, c9⟩ := hV.facts
  rw [hf] at c1
  go_enter Tryz.func94, Tryz.ntmps94
  go_wp2_with (go_at_call 155; refine KA.mono ?_; rintro e w2 ⟨rfl, hM⟩)
  go_end0
  exact ⟨rfl, by rw [HG.out]; exact hM⟩
set_option maxRecDepth 20000 in
set_option maxHeartbeats 2000000 in
theorem does_someB (hC : Ctx w0 p f) (h : MAt w0 x f w m) (hR : Row w0 ws gw) (hn : ws.length = 3) (hw : word ws 0 = [115, 111, 109, 101]) (h1 : Wd p (word ws 1)) (h2 : Wd p (word ws 2)) (hfit : sp p (word ws 1) + (p.spots (word ws 2)).2 ≤ 24) (hf : f.owns = false) :
    Calls Tryz.prog 94 #[.pointer (some ⟨x, 0, none⟩), .slice (some ⟨gw, 0, none⟩) ws.length cw] w fun e w' => e = .returned (.tuple #[]) ∧ MAt w0 x f w' (m.does f p inp ws) := by
  have HG : Hid (m.does f p inp ws = m.bare p ws) := by unfold Hid RM.does; simp only [hw, hf]; rfl
  have hln : (ws.length : Int) = 3 := by omega
  have y0 := hR.on h (j := 0) (by omega)
  rw [hw] at y0
  have KA := bare_any (cw := cw) hC h hR hn h1 h2 (by rw [hw]; decide) hfit
  rw [hn] at KA
  obtain ⟨vb, vt, hV⟩ := h
  obtain ⟨c0, c1, c2, c3, c4, c5, c6, c7, c8, c9⟩ := hV.facts
  rw [hf] at c1
  go_enter Tryz.func94, Tryz.ntmps94
  go_wp2_with (go_at_call 155; refine KA.mono ?_; rintro e w2 ⟨rfl, hM⟩)
  go_end0
  exact ⟨rfl, by rw [HG.out]; exact hM⟩
set_option maxRecDepth 20000 in
set_option maxHeartbeats 2000000 in
theorem finish_bare (hC : Ctx w0 p f) (h : MAt w0 x f w m) (hR : Row w0 ws gw) (hn : ws.length = 2) (h1 : Wd p (word ws 1)) (hh : m.has.getD (sp p (word ws 1)) false = true) (h0 : m.out = 0) (hf : f.owns = false) :
    Calls Tryz.prog 92 #[.pointer (some ⟨x, 0, none⟩), .slice (some ⟨gw, 0, none⟩) ws.length cw] w fun e w' => e = .returned (.tuple #[]) ∧ MAt w0 x f w' (m.finish f p ws) := by
  have HG : Hid (m.finish f p ws = { m with out := 1, value := m.int (sp p (word ws 1)) }) := by unfold Hid RM.finish; simp only; rw [need_yes hh, if_neg (by rw [h0]; decide), if_neg (by rw [hf]; decide)]
  have hln : (ws.length : Int) = 2 := by omega
  have y1 := hR.on h (j := 1) (by omega)
  have KI := int_any hC h h1
  rw [need_yes hh] at KI
  have h12 := hC.twelve
  go_enter Tryz.func92, Tryz.ntmps92
  go_wp2_with (go_at_call 147; refine KI.mono ?_; rintro e w1 ⟨rfl, vb1, vt1, hV1⟩; obtain ⟨c0, c1, c2, c3, c4, c5, c6, c7, c8, c9⟩ := hV1.facts; rw [h0] at c8; obtain ⟨f1, f2, f3, f4, f5, f6⟩ := hV1.frozs; have hV2 := hV1.setOut 1; have hV3 := hV2.setValue (m.int (sp p (word ws 1))); obtain ⟨lb, lc, l1⟩ := (hC.prog.below hV3.old).lets_len; obtain ⟨d0, d1, d2, d3, d4, d5, d6, d7, d8, d9⟩ := hV3.facts; obtain ⟨lb0, lc0, l0⟩ := (hC.prog.below hV1.old).lets_len)
  have HM : Hid (MAt w0 x f ((w1.setCell ⟨x, 154, none⟩ (.int .i64 1)).setCell ⟨x, 155, none⟩ (.int .i64 (m.int (sp p (word ws 1))))) { m with out := 1, value := m.int (sp p (word ws 1)) }) := ⟨_, _, hV3⟩
  clear c0 c1 c2 c3 c4 c5 c6 c7 c8 c9 f1 f2 f3 f4 f5 f6 d0 d1 d2 d3 d4 d5 d6 d7 d8 d9 l0 l1 hV1 hV2 hV3 KI h0 hh
  generalize ({ m with out := 1, value := m.int (sp p (word ws 1)) } : RM) = mm at *
  go_loopw [5, 6] (fun v5 _v6 wr => v5 = .int .i64 ((p.lets.length : Int) - 1) ∧ Hid (MAt w0 x f wr mm)) (fun _ _ _ => 0)
  case atStart => exact ⟨by congr 1, HM⟩
  case round =>
    obtain ⟨rfl, HK⟩ := hrel
    clear HM
    obtain ⟨vb, vt, hV⟩ := HK.out
    obtain ⟨c0, c1, c2, c3, c4, c5, c6, c7, c8, c9⟩ := hV.facts
    rw [hf] at c1
    by_cases hz : (0 : Int) ≤ (p.lets.length : Int) - 1
    · go_wp2_with fail
      go_end0
      exact ⟨rfl, by rw [HG.out]; exact HK.out⟩
    · go_wp2_with fail
      go_end0
      exact ⟨rfl, by rw [HG.out]; exact HK.out⟩
end
end Go.Proofs.YtmlgajhhnojdjaaGreatDoor.Mac
