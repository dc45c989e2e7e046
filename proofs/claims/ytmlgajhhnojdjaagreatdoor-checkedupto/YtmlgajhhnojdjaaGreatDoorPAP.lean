/- What the document's own reader answers on what a line names. Condition: the program lies in memory as it is kept, and the line's form is right. -/
import Derived.Test.YtmlgajhhnojdjaaGreatDoorPAK
import Derived.Test.YtmlgajhhnojdjaaGreatDoorPAA
import Derived.Test.YtmlgajhhnojdjaaGreatDoorPAD
import Derived.Deep.DeepCutAuto
import Derived.Deep.LoopGhost
import Derived.Deep.RegionLaw
import Derived.Test.YtmlgajhhnojdjaaGreatDoorPAO
import Derived.Test.YtmlgajhhnojdjaaGreatDoorPAL
namespace Go.Proofs.YtmlgajhhnojdjaaGreatDoor.RefI
open Go.RowKit Go.Proofs.YtmlgajhhnojdjaaGreatDoor.Spec Go.Proofs.YtmlgajhhnojdjaaGreatDoor.RefA Go.Proofs.YtmlgajhhnojdjaaGreatDoor.RefB Go.Proofs.YtmlgajhhnojdjaaGreatDoor.RefC Go.Proofs.YtmlgajhhnojdjaaGreatDoor.RefD Go.Proofs.YtmlgajhhnojdjaaGreatDoor.RefG Go.Proofs.YtmlgajhhnojdjaaGreatDoor.Aux

theorem nameOk_nat (p : RP) (c : UInt8) (w : B) : p.nameOk c w =
    if ((c.toNat : Int) == 105) = true ∨ ((c.toNat : Int) == 111) = true ∨ ((c.toNat : Int) == 112) = true ∨ ((c.toNat : Int) == 109) = true ∨ ((c.toNat : Int) == 100) = true then decide (0 ≤ p.find (localOf w))
    else if ((c.toNat : Int) == 78) = true then decide ((number w).getD 0 < p.blocks.length) else true := by
  have e := fun n hn => u8_beq c n hn
  have e1 := e 105 (by omega); have e2 := e 111 (by omega); have e3 := e 112 (by omega); have e4 := e 109 (by omega); have e5 := e 100 (by omega); have e6 := e 78 (by omega)
  simp only [Int.cast_ofNat_Int] at e1 e2 e3 e4 e5 e6
  rw [e1, e2, e3, e4, e5, e6]
  simp only [decide_eq_true_eq, RP.nameOk]
  rfl

set_option maxRecDepth 20000 in
set_option maxHeartbeats 1000000 in
theorem names_let (p : RP) (a i : Nat) (w : World) (hp : ProgAt w a p) (hok : p.Ok) (hi : i < p.lines.length) (hlet : word (p.line i) 0 = wLet) (h3 : (p.line i).length = 3) (hf : 0 ≤ p.find (word (p.line i) 1)) :
    Calls Tryz.prog 70 #[.pointer (some ⟨a, 0, none⟩), .int .i64 i] w fun e w' => e = .returned (.bool (p.names i)) ∧ ∃ n, w' = w.drewN n := by
  obtain ⟨j, hj, hjl, _⟩ := RP.find_lt hf
  have HN : Hid (p.names i = decide (p.lets.getD j 0 = i)) := by unfold Hid RP.names; rw [if_pos hlet, hj]; rfl
  have hsz := hok.size
  have hln := hok.letn
  obtain ⟨gt, ct, ht1, ht1', ht2⟩ := hp.let_at j hjl
  generalize p.lets.getD j 0 = t at *
  obtain ⟨g, cap, gl, capl, hc1, hc1', hc2, hc2', hw⟩ := hp.line_at i hi
  have hw0 := hw 0 (by omega)
  have hw1 := hw 1 (by omega)
  have hj0 : (j : Int) < p.lets.length := by omega
  have hi3 : (1 : Int) < (p.line i).length := by omega
  have HF : ∀ n, Calls Tryz.prog 110 #[.pointer (some ⟨a, 0, none⟩), .string (bs (word (p.line i) 1))] (w.drewN n) fun e w' => e = .returned (.int .i64 j) ∧ ∃ m, w' = w.drewN m := fun n =>
    (find_any p a _ (w.drewN n) (hp.drewN n) hok).mono fun e w' ⟨he, m, hm⟩ => ⟨by rw [he, hj], n + m, by rw [hm]; simp⟩
  have hbl : (word (p.line i) 0 == [108, 101, 116]) = true := by rw [hlet]; rfl
  clear hj hf hlet
  go_enter Tryz.func70, Tryz.ntmps70
  go_wp2
  go_quiet ((go_at_call 110; exact HF _))
  go_wp2
  go_ret
  refine ⟨ret_bool ?_, _, rfl⟩
  rw [HN.out, Bool.eq_iff_iff]; simp; omega
set_option maxRecDepth 20000 in
set_option maxHeartbeats 2000000 in
theorem names_line (p : RP) (a i : Nat) (w : World) (hp : ProgAt w a p) (hok : p.Ok) (hi : i < p.lines.length) (hlet : ¬ word (p.line i) 0 = wLet) (h3 : (behind (word (p.line i) 0) p.raw).1.length + 1 ≤ (p.line i).length) :
    Calls Tryz.prog 70 #[.pointer (some ⟨a, 0, none⟩), .int .i64 i] w fun e w' => e = .returned (.bool (p.names i)) ∧ ∃ n, w' = w.drewN n := by
  have HN : Hid (p.names i = p.namesGo (behind (word (p.line i) 0) p.raw).1 ((p.line i).drop 1)) := by unfold Hid RP.names; rw [if_neg hlet]
  have hsz := hok.size
  have hbn := hok.blockn
  have hlong := hok.long
  obtain ⟨g, cap, gl, capl, hc1, hc1', hc2, hc2', hw⟩ := hp.line_at i hi
  have hwn := hok.words i hi
  have hw0 := hw 0 (by omega)
  have hi3 : (0 : Int) < (p.line i).length := by omega
  have hraw := hp.raw
  obtain ⟨bb, cb, hlenb⟩ := hp.blocks_len
  have hbl : (word (p.line i) 0 == [108, 101, 116]) = false := by simpa [wLet] using hlet
  have hb3 := behind_len (word (p.line i) 0) p.raw
  clear hlet
  go_enter Tryz.func70, Tryz.ntmps70
  go_wp2
  go_quiet ((go_at_call 87; exact Calls.quiet_of_same (behind_bs _ _ _)))
  go_wp2
  generalize (behind (word (p.line i) 0) p.raw).1 = f at *
  go_loopw [8] (fun kk wr => ∃ k : Nat, k ≤ f.length ∧ kk = .int .i64 k ∧ Hid (p.names i = p.namesGo (f.drop k) ((p.line i).drop (k + 1))) ∧ ∃ n, wr = w.drewN n) (fun kk _ => f.length - (intOf kk).toNat)
  case atStart => exact ⟨0, Nat.zero_le _, rfl, HN, _, rfl⟩
  case round =>
    obtain ⟨k, hk, rfl, HI, n, rfl⟩ := hrel
    clear HN
    by_cases hlt : k < f.length
    · have HS : Hid (_ = _) := p.namesGo_step f (p.line i) k hlt
      have hwk := hw (k + 1) (by omega)
      have hlk : (word (p.line i) (k + 1)).length ≤ maxLen := Nat.le_trans (hlong i (k + 1)) (by decide)
      have hk3 : (k : Int) + 1 < (p.line i).length := by omega
      clear hlong hw
      go_wp2_with (first
        | (go_at_call 111; refine (local_bs _ _ hlk).mono ?_; rintro e w' ⟨rfl, rfl⟩)
        | (go_at_call 110; refine (find_any p a _ _ (hp.drewN _) hok).mono ?_; rintro e w' ⟨rfl, nf, rfl⟩)
        | (go_at_call 112; refine (number_bs _ _ hlk).mono ?_; rintro e w' ⟨rfl, rfl⟩))
      all_goals first
        | (go_ret
           go_light
           have hx : decide (0 ≤ p.find (localOf (word (p.line i) (k + 1)))) = false := by simp; omega
           exact ⟨ret_bool (by rw [HI.out, HS.out, nameOk_nat]; simp [*]), _, rfl⟩)
        | (go_ret
           go_light
           have hx : decide ((number (word (p.line i) (k + 1))).getD 0 < p.blocks.length) = false := by simp; omega
           exact ⟨ret_bool (by rw [HI.out, HS.out, nameOk_nat]; simp [*]), _, rfl⟩)
        | (go_roundw
           case rel =>
             go_light
             exact ⟨k + 1, by omega, by go_num, by rw [HI.out, HS.out, nameOk_nat]; simp [*, Hid], _, rfl⟩
           case measure => simp [intOf]; omega)
    · go_wp2
      go_ret
      refine ⟨ret_bool ?_, n, rfl⟩
      rw [HI.out, List.drop_eq_nil_of_le (by omega)]; rfl
end Go.Proofs.YtmlgajhhnojdjaaGreatDoor.RefI
/- What the document's own reader answers on the types of a line's places. Condition: the program lies in memory as it is kept, and what the line names is there. -/
namespace Go.Proofs.YtmlgajhhnojdjaaGreatDoor.RefJ
open Go.RowKit Go.Proofs.YtmlgajhhnojdjaaGreatDoor.Spec Go.Proofs.YtmlgajhhnojdjaaGreatDoor.RefA Go.Proofs.YtmlgajhhnojdjaaGreatDoor.RefB Go.Proofs.YtmlgajhhnojdjaaGreatDoor.RefC Go.Proofs.YtmlgajhhnojdjaaGreatDoor.RefD Go.Proofs.YtmlgajhhnojdjaaGreatDoor.RefG Go.Proofs.YtmlgajhhnojdjaaGreatDoor.RefH Go.Proofs.YtmlgajhhnojdjaaGreatDoor.Aux

theorem typeOk_walk (p : RP) (c : UInt8) (w w1 : B) : p.typeOk c w w1 =
    if c = 110 ∨ c = 78 ∨ c = 102 ∨ c = 118 then true
    else if (p.typeOf w).isEmpty = true then false
    else if (c = 105 ∧ (!(p.typeOf w == [105, 110, 116])) = true) ∨ (c = 112 ∧ (!(p.typeOf w == [98, 111, 120])) = true) ∨ (c = 111 ∧ (!(p.typeOf w == [111, 112, 116])) = true) then false
    else if (c = 109 ∨ c = 100) ∧ (p.typeOf w == [105, 110, 116]) = true then false
    else if c = 109 ∧ (!(p.typeOf w == p.typeOf w1)) = true then false else true := by
  simp only [RP.typeOk, wInt, wBox, wOpt, List.isEmpty_iff, Bool.not_eq_true', beq_eq_false_iff_ne, ne_eq, beq_iff_eq]
  repeat' congr
theorem mem_of (f : B) (k : Nat) (h : k < f.length) (c : UInt8) (e : f[k] = c) : c ∈ f := by rw [← e]; exact List.getElem_mem h

set_option maxRecDepth 20000 in
set_option maxHeartbeats 4000000 in
theorem types_any (p : RP) (a i : Nat) (w : World) (hp : ProgAt w a p) (hok : p.Ok) (hi : i < p.lines.length) (h3 : (behind (word (p.line i) 0) p.raw).1.length + 1 ≤ (p.line i).length)
    (hn : ∀ k (h : k < (behind (word (p.line i) 0) p.raw).1.length), (behind (word (p.line i) 0) p.raw).1[k] ∈ [105, 112, 109, 111, 100] → 0 ≤ p.find (localOf (word (p.line i) (k + 1))))
    (hm : 109 ∈ (behind (word (p.line i) 0) p.raw).1 → 0 ≤ p.find (localOf (word (p.line i) 1))) :
    Calls Tryz.prog 71 #[.pointer (some ⟨a, 0, none⟩), .int .i64 i] w fun e w' => e = .returned (.bool (p.types i)) ∧ ∃ n, w' = w.drewN n := by
  have HN : Hid (p.types i = p.typesGo (word (p.line i) 1) (behind (word (p.line i) 0) p.raw).1 ((p.line i).drop 1)) := rfl
  have hsz := hok.size
  have hlong := hok.long
  obtain ⟨g, cap, gl, capl, hc1, hc1', hc2, hc2', hw⟩ := hp.line_at i hi
  have hwn := hok.words i hi
  have hw0 := hw 0 (by omega)
  have hi3 : (0 : Int) < (p.line i).length := by omega
  have hraw := hp.raw
  have hb3 := behind_len (word (p.line i) 0) p.raw
  have HK : Hid (∀ x ∈ (behind (word (p.line i) 0) p.raw).1, x ∈ kinds) := behind_kinds _ _
  have HM : Hid (109 ∈ (behind (word (p.line i) 0) p.raw).1 → 0 ≤ p.find (localOf (word (p.line i) 1))) := hm
  have Hn : Hid (∀ k (h : k < (behind (word (p.line i) 0) p.raw).1.length), (behind (word (p.line i) 0) p.raw).1[k] ∈ [105, 112, 109, 111, 100] → 0 ≤ p.find (localOf (word (p.line i) (k + 1)))) := hn
  clear hm hn
  go_enter Tryz.func71, Tryz.ntmps71
  go_wp2
  go_quiet ((go_at_call 87; exact Calls.quiet_of_same (behind_bs _ _ _)))
  go_wp2
  generalize (behind (word (p.line i) 0) p.raw).1 = f at *
  go_loopw [8] (fun kk wr => ∃ k : Nat, k ≤ f.length ∧ kk = .int .i64 k ∧ Hid (p.types i = p.typesGo (word (p.line i) 1) (f.drop k) ((p.line i).drop (k + 1))) ∧ ∃ n, wr = w.drewN n) (fun kk _ => f.length - (intOf kk).toNat)
  case atStart => exact ⟨0, Nat.zero_le _, rfl, HN, _, rfl⟩
  case round =>
    obtain ⟨k, hk, rfl, HI, n, rfl⟩ := hrel
    clear HN
    by_cases hlt : k < f.length
    · have HS : Hid (_ = _) := p.typesGo_step (word (p.line i) 1) f (p.line i) k hlt
      have hwk := hw (k + 1) (by omega)
      have hw1 := hw 1 (by omega)
      have hlk : (word (p.line i) (k + 1)).length ≤ maxLen := Nat.le_trans (hlong i (k + 1)) (by decide)
      have hl1 : (word (p.line i) 1).length ≤ maxLen := Nat.le_trans (hlong i 1) (by decide)
      have hk3 : (k : Int) + 1 < (p.line i).length := by omega
      have hk4 : (1 : Int) < (p.line i).length := by omega
      have Hk := HK.out _ (List.getElem_mem hlt)
      have Hnk := Hn.out k hlt
      have Hm : f[k] = 109 → 0 ≤ p.find (localOf (word (p.line i) 1)) := fun e => HM.out (mem_of f k hlt _ e)
      clear hlong hw HK Hn HM
      simp only [kinds, List.mem_cons, List.not_mem_nil, or_false] at Hk
      have HT : Hid (∀ l : B, l.length ≤ maxLen → 0 ≤ p.find (localOf l) → ∀ n, Calls Tryz.prog 113 #[.pointer (some ⟨a, 0, none⟩), .string (bs l)] (w.drewN n) fun e w' => e = .returned (.string (bs (p.typeOf l))) ∧ ∃ m, w' = w.drewN m) :=
        fun l hl hf n => (typeOf_any p a l (w.drewN n) (hp.drewN n) hok hl hf).mono fun e w' ⟨he, m, hm⟩ => ⟨he, n + m, by rw [hm]; simp⟩
      rcases Hk with E | E | E | E | E | E | E | E | E
      · have hf0 := Hnk (by simp [E])
        have hfn : f[k].toNat = 105 := by rw [E]; rfl
        have HE : Hid (f[k] = 105) := E
        clear Hnk Hm E
        go_wp2_with (go_at_call 113; refine (HT.out _ (by assumption) (by assumption) _).mono ?_; rintro e w' ⟨rfl, nf, rfl⟩)
        all_goals first
          | (go_ret
             go_light
             exact ⟨ret_bool (by rw [HI.out, HS.out, HE.out, typeOk_walk]; first | (simp [*]; done) | simp_all), _, rfl⟩)
          | (go_roundw
             case rel =>
               go_light
               exact ⟨k + 1, by omega, by go_num, by rw [HI.out, HS.out, HE.out, typeOk_walk]; first | (simp [*, Hid]; done) | simp_all [Hid], _, rfl⟩
             case measure => simp [intOf]; omega)
      · have hfn : f[k].toNat = 110 := by rw [E]; rfl
        have HE : Hid (f[k] = 110) := E
        clear Hnk Hm E
        go_wp2
        all_goals first
          | (go_ret
             go_light
             exact ⟨ret_bool (by rw [HI.out, HS.out, HE.out, typeOk_walk]; first | (simp [*]; done) | simp_all), _, rfl⟩)
          | (go_roundw
             case rel =>
               go_light
               exact ⟨k + 1, by omega, by go_num, by rw [HI.out, HS.out, HE.out, typeOk_walk]; first | (simp [*, Hid]; done) | simp_all [Hid], _, rfl⟩
             case measure => simp [intOf]; omega)
      · have hf0 := Hnk (by simp [E])
        have hfn : f[k].toNat = 112 := by rw [E]; rfl
        have HE : Hid (f[k] = 112) := E
        clear Hnk Hm E
        go_wp2_with (go_at_call 113; refine (HT.out _ (by assumption) (by assumption) _).mono ?_; rintro e w' ⟨rfl, nf, rfl⟩)
        all_goals first
          | (go_ret
             go_light
             exact ⟨ret_bool (by rw [HI.out, HS.out, HE.out, typeOk_walk]; first | (simp [*]; done) | simp_all), _, rfl⟩)
          | (go_roundw
             case rel =>
               go_light
               exact ⟨k + 1, by omega, by go_num, by rw [HI.out, HS.out, HE.out, typeOk_walk]; first | (simp [*, Hid]; done) | simp_all [Hid], _, rfl⟩
             case measure => simp [intOf]; omega)
      · have hf0 := Hnk (by simp [E])
        have hf1 := Hm E
        have hfn : f[k].toNat = 109 := by rw [E]; rfl
        have HE : Hid (f[k] = 109) := E
        clear Hnk Hm E
        go_wp2_with (go_at_call 113; refine (HT.out _ (by assumption) (by assumption) _).mono ?_; rintro e w' ⟨rfl, nf, rfl⟩)
        all_goals first
          | (go_ret
             go_light
             exact ⟨ret_bool (by rw [HI.out, HS.out, HE.out, typeOk_walk]; first | (simp [*]; done) | simp_all), _, rfl⟩)
          | (go_roundw
             case rel =>
               go_light
               exact ⟨k + 1, by omega, by go_num, by rw [HI.out, HS.out, HE.out, typeOk_walk]; first | (simp [*, Hid]; done) | simp_all [Hid], _, rfl⟩
             case measure => simp [intOf]; omega)
      · have hf0 := Hnk (by simp [E])
        have hfn : f[k].toNat = 111 := by rw [E]; rfl
        have HE : Hid (f[k] = 111) := E
        clear Hnk Hm E
        go_wp2_with (go_at_call 113; refine (HT.out _ (by assumption) (by assumption) _).mono ?_; rintro e w' ⟨rfl, nf, rfl⟩)
        all_goals first
          | (go_ret
             go_light
             exact ⟨ret_bool (by rw [HI.out, HS.out, HE.out, typeOk_walk]; first | (simp [*]; done) | simp_all), _, rfl⟩)
          | (go_roundw
             case rel =>
               go_light
               exact ⟨k + 1, by omega, by go_num, by rw [HI.out, HS.out, HE.out, typeOk_walk]; first | (simp [*, Hid]; done) | simp_all [Hid], _, rfl⟩
             case measure => simp [intOf]; omega)
      · have hfn : f[k].toNat = 78 := by rw [E]; rfl
        have HE : Hid (f[k] = 78) := E
        clear Hnk Hm E
        go_wp2
        all_goals first
          | (go_ret
             go_light
             exact ⟨ret_bool (by rw [HI.out, HS.out, HE.out, typeOk_walk]; first | (simp [*]; done) | simp_all), _, rfl⟩)
          | (go_roundw
             case rel =>
               go_light
               exact ⟨k + 1, by omega, by go_num, by rw [HI.out, HS.out, HE.out, typeOk_walk]; first | (simp [*, Hid]; done) | simp_all [Hid], _, rfl⟩
             case measure => simp [intOf]; omega)
      · have hf0 := Hnk (by simp [E])
        have hfn : f[k].toNat = 100 := by rw [E]; rfl
        have HE : Hid (f[k] = 100) := E
        clear Hnk Hm E
        go_wp2_with (go_at_call 113; refine (HT.out _ (by assumption) (by assumption) _).mono ?_; rintro e w' ⟨rfl, nf, rfl⟩)
        all_goals first
          | (go_ret
             go_light
             exact ⟨ret_bool (by rw [HI.out, HS.out, HE.out, typeOk_walk]; first | (simp [*]; done) | simp_all), _, rfl⟩)
          | (go_roundw
             case rel =>
               go_light
               exact ⟨k + 1, by omega, by go_num, by rw [HI.out, HS.out, HE.out, typeOk_walk]; first | (simp [*, Hid]; done) | simp_all [Hid], _, rfl⟩
             case measure => simp [intOf]; omega)
      · have hfn : f[k].toNat = 102 := by rw [E]; rfl
        have HE : Hid (f[k] = 102) := E
        clear Hnk Hm E
        go_wp2
        all_goals first
          | (go_ret
             go_light
             exact ⟨ret_bool (by rw [HI.out, HS.out, HE.out, typeOk_walk]; first | (simp [*]; done) | simp_all), _, rfl⟩)
          | (go_roundw
             case rel =>
               go_light
               exact ⟨k + 1, by omega, by go_num, by rw [HI.out, HS.out, HE.out, typeOk_walk]; first | (simp [*, Hid]; done) | simp_all [Hid], _, rfl⟩
             case measure => simp [intOf]; omega)
      · have hfn : f[k].toNat = 118 := by rw [E]; rfl
        have HE : Hid (f[k] = 118) := E
        clear Hnk Hm E
        go_wp2
        all_goals first
          | (go_ret
             go_light
             exact ⟨ret_bool (by rw [HI.out, HS.out, HE.out, typeOk_walk]; first | (simp [*]; done) | simp_all), _, rfl⟩)
          | (go_roundw
             case rel =>
               go_light
               exact ⟨k + 1, by omega, by go_num, by rw [HI.out, HS.out, HE.out, typeOk_walk]; first | (simp [*, Hid]; done) | simp_all [Hid], _, rfl⟩
             case measure => simp [intOf]; omega)
    · go_wp2
      go_ret
      refine ⟨ret_bool ?_, n, rfl⟩
      rw [HI.out, List.drop_eq_nil_of_le (by omega)]; rfl
end Go.Proofs.YtmlgajhhnojdjaaGreatDoor.RefJ
/- What the document's own reader answers on the form of a line. Condition: the program lies in memory as it is kept. -/
namespace Go.Proofs.YtmlgajhhnojdjaaGreatDoor.RefK
open Go.RowKit Go.Proofs.YtmlgajhhnojdjaaGreatDoor.Spec Go.Proofs.YtmlgajhhnojdjaaGreatDoor.RefA Go.Proofs.YtmlgajhhnojdjaaGreatDoor.RefB Go.Proofs.YtmlgajhhnojdjaaGreatDoor.RefC Go.Proofs.YtmlgajhhnojdjaaGreatDoor.RefD Go.Proofs.YtmlgajhhnojdjaaGreatDoor.RefF Go.Proofs.YtmlgajhhnojdjaaGreatDoor.RefG Go.Proofs.YtmlgajhhnojdjaaGreatDoor.Aux

theorem form_let_eq (p : RP) (i : Nat) (h : word (p.line i) 0 = wLet) (h1 : (p.line i).length = 3) (h2 : ¬ 0 < p.blocks.length) (h3 : ¬ 12 ≤ p.lets.length) : p.form i = (isName (word (p.line i) 1) && (word (p.line i) 2 == [105, 110, 116] || word (p.line i) 2 == [98, 111, 120] || word (p.line i) 2 == [112, 97, 105, 114] || word (p.line i) 2 == [111, 112, 116])) := by
  rw [RP.form, if_pos h, if_neg (by omega)]; rfl
theorem form_let_no (p : RP) (i : Nat) (h : word (p.line i) 0 = wLet) (h1 : ¬ (p.line i).length = 3 ∨ 0 < p.blocks.length ∨ 12 ≤ p.lets.length) : p.form i = false := by
  rw [RP.form, if_pos h, if_pos (by omega)]

set_option maxRecDepth 20000 in
set_option maxHeartbeats 2000000 in
theorem form_let (p : RP) (a i : Nat) (w : World) (hp : ProgAt w a p) (hok : p.Ok) (hi : i < p.lines.length) (hlet : word (p.line i) 0 = wLet) :
    Calls Tryz.prog 68 #[.pointer (some ⟨a, 0, none⟩), .int .i64 i] w fun e w' => e = .returned (.bool (p.form i)) ∧ ∃ n, w' = w.drewN n := by
  have hsz := hok.size
  have hln := hok.letn
  have hbn := hok.blockn
  have hwide := hok.wide i
  obtain ⟨g, cap, gl, capl, hc1, hc1', hc2, hc2', hw⟩ := hp.line_at i hi
  have hwn := hok.words i hi
  have hw0 := hw 0 (by omega)
  obtain ⟨bl, cl, hlen⟩ := hp.lets_len
  obtain ⟨bb, cb, hlenb⟩ := hp.blocks_len
  have HW : Hid (word (p.line i) 0 = wLet) := hlet
  have hbl : (word (p.line i) 0 == [108, 101, 116]) = true := by rw [hlet]; rfl
  have hl1 : (word (p.line i) 1).length ≤ maxLen := Nat.le_trans (hok.long i 1) (by decide)
  clear hlet
  by_cases h3 : (p.line i).length = 3
  · by_cases hb : 0 < p.blocks.length
    · have HE : Hid (p.form i = false) := form_let_no p i HW.out (.inr (.inl hb))
      clear hw
      go_enter Tryz.func68, Tryz.ntmps68
      go_wp2_with (go_at_call 69; refine (inside_any p a i _ hp hok (by omega)).mono ?_; rintro e w' ⟨rfl, n, rfl⟩)
      go_ret
      exact ⟨ret_bool HE.out.symm, _, rfl⟩
    · by_cases hl : 12 ≤ p.lets.length
      · have HE : Hid (p.form i = false) := form_let_no p i HW.out (.inr (.inr hl))
        clear hw
        go_enter Tryz.func68, Tryz.ntmps68
        go_wp2_with (go_at_call 69; refine (inside_any p a i _ hp hok (by omega)).mono ?_; rintro e w' ⟨rfl, n, rfl⟩)
        go_ret
        exact ⟨ret_bool HE.out.symm, _, rfl⟩
      · have HE : Hid (_ = _) := form_let_eq p i HW.out h3 hb hl
        have hw1 := hw 1 (by omega)
        have hw2 := hw 2 (by omega)
        have h31 : (1 : Int) < (p.line i).length := by omega
        have h32 : (2 : Int) < (p.line i).length := by omega
        clear hw
        go_enter Tryz.func68, Tryz.ntmps68
        go_wp2_with (first
          | (go_at_call 69; refine (inside_any p a i _ hp hok (by omega)).mono ?_; rintro e w' ⟨rfl, n, rfl⟩)
          | (go_at_call 108; refine (isName_bs _ _ hl1).mono ?_; rintro e w' ⟨rfl, rfl⟩))
        all_goals
          go_ret
          refine ⟨ret_bool ?_, _, rfl⟩
          go_light
          rw [HE.out]
          first | (simp [*]; done) | simp_all
  · have HE : Hid (p.form i = false) := form_let_no p i HW.out (.inl h3)
    clear hw
    go_enter Tryz.func68, Tryz.ntmps68
    go_wp2_with (go_at_call 69; refine (inside_any p a i _ hp hok (by omega)).mono ?_; rintro e w' ⟨rfl, n, rfl⟩)
    go_ret
    exact ⟨ret_bool HE.out.symm, _, rfl⟩
end Go.Proofs.YtmlgajhhnojdjaaGreatDoor.RefK
/- What the document's own reader answers on the form of a line that is no let. Condition: the program lies in memory as it is kept. -/
namespace Go.Proofs.YtmlgajhhnojdjaaGreatDoor.RefL
open Go.RowKit Go.Proofs.YtmlgajhhnojdjaaGreatDoor.Spec Go.Proofs.YtmlgajhhnojdjaaGreatDoor.RefA Go.Proofs.YtmlgajhhnojdjaaGreatDoor.RefB Go.Proofs.YtmlgajhhnojdjaaGreatDoor.RefC Go.Proofs.YtmlgajhhnojdjaaGreatDoor.RefD Go.Proofs.YtmlgajhhnojdjaaGreatDoor.RefF Go.Proofs.YtmlgajhhnojdjaaGreatDoor.RefG Go.Proofs.YtmlgajhhnojdjaaGreatDoor.RefK Go.Proofs.YtmlgajhhnojdjaaGreatDoor.Aux

theorem form_block_eq (p : RP) (i : Nat) (h : word (p.line i) 0 = wBlock) : p.form i = (decide ((p.line i).length = 1) && !p.inside i && decide (0 < p.lets.length) && decide (p.blocks.length < if p.raw then 2000 else 20)) := by
  rw [RP.form, if_neg (by rw [h]; decide), if_pos h]

set_option maxRecDepth 20000 in
set_option maxHeartbeats 2000000 in
theorem form_block (p : RP) (a i : Nat) (w : World) (hp : ProgAt w a p) (hok : p.Ok) (hi : i < p.lines.length) (hblk : word (p.line i) 0 = wBlock) :
    Calls Tryz.prog 68 #[.pointer (some ⟨a, 0, none⟩), .int .i64 i] w fun e w' => e = .returned (.bool (p.form i)) ∧ ∃ n, w' = w.drewN n := by
  have hsz := hok.size
  have hln := hok.letn
  have hbn := hok.blockn
  have hwide := hok.wide i
  obtain ⟨g, cap, gl, capl, hc1, hc1', hc2, hc2', hw⟩ := hp.line_at i hi
  have hwn := hok.words i hi
  have hw0 := hw 0 (by omega)
  have hi3 : (0 : Int) < (p.line i).length := by omega
  obtain ⟨bl, cl, hlen⟩ := hp.lets_len
  obtain ⟨bb, cb, hlenb⟩ := hp.blocks_len
  have hraw := hp.raw
  have HE : Hid (_ = _) := form_block_eq p i hblk
  have hbl : (word (p.line i) 0 == [108, 101, 116]) = false := by rw [hblk]; rfl
  have hbb : (word (p.line i) 0 == [98, 108, 111, 99, 107]) = true := by rw [hblk]; rfl
  have HIN := inside_any p a i w hp hok (by omega)
  clear hblk hw
  cases hin : p.inside i <;> cases hr : p.raw
  all_goals
    rw [hin] at HIN
    rw [hr] at hraw
    have Hin : Hid (_ = _) := hin
    have Hr : Hid (_ = _) := hr
    clear hin hr
    go_enter Tryz.func68, Tryz.ntmps68
    go_wp2_with (go_at_call 69; refine HIN.mono ?_; rintro e w' ⟨rfl, n, rfl⟩)
    all_goals
      go_ret
      refine ⟨ret_bool ?_, _, rfl⟩
      go_light
      rw [HE.out, Hin.out, Hr.out, Bool.eq_iff_iff]
      simp
      try omega
theorem form_line_no (p : RP) (i : Nat) (h1 : ¬ word (p.line i) 0 = wLet) (h2 : ¬ word (p.line i) 0 = wBlock) (h : (behind (word (p.line i) 0) p.raw).2 = false ∨ p.inside i = false ∨ ¬ (p.line i).length = (behind (word (p.line i) 0) p.raw).1.length + 1) : p.form i = false := by
  rw [RP.form, if_neg h1, if_neg h2, if_pos h]
theorem form_line_eq (p : RP) (i : Nat) (h1 : ¬ word (p.line i) 0 = wLet) (h2 : ¬ word (p.line i) 0 = wBlock) (h : (behind (word (p.line i) 0) p.raw).2 = true) (h' : p.inside i = true) (h'' : (p.line i).length = (behind (word (p.line i) 0) p.raw).1.length + 1) : p.form i = formGo (behind (word (p.line i) 0) p.raw).1 ((p.line i).drop 1) := by
  rw [RP.form, if_neg h1, if_neg h2, if_neg]
  simp [h, h', h'']
set_option maxRecDepth 20000 in
set_option maxHeartbeats 2000000 in
theorem form_line (p : RP) (a i : Nat) (w : World) (hp : ProgAt w a p) (hok : p.Ok) (hi : i < p.lines.length) (hl : ¬ word (p.line i) 0 = wLet) (hb : ¬ word (p.line i) 0 = wBlock) :
    Calls Tryz.prog 68 #[.pointer (some ⟨a, 0, none⟩), .int .i64 i] w fun e w' => e = .returned (.bool (p.form i)) ∧ ∃ n, w' = w.drewN n := by
  have hsz := hok.size
  have hwide := hok.wide i
  have hlong := hok.long
  obtain ⟨g, cap, gl, capl, hc1, hc1', hc2, hc2', hw⟩ := hp.line_at i hi
  have hwn := hok.words i hi
  have hw0 := hw 0 (by omega)
  have hi3 : (0 : Int) < (p.line i).length := by omega
  have hraw := hp.raw
  have HN : Hid (∀ h : (behind (word (p.line i) 0) p.raw).2 = false ∨ p.inside i = false ∨ ¬ (p.line i).length = (behind (word (p.line i) 0) p.raw).1.length + 1, p.form i = false) := form_line_no p i hl hb
  have HE : Hid (∀ (h : (behind (word (p.line i) 0) p.raw).2 = true) (h' : p.inside i = true) (h'' : (p.line i).length = (behind (word (p.line i) 0) p.raw).1.length + 1), p.form i = formGo (behind (word (p.line i) 0) p.raw).1 ((p.line i).drop 1)) := form_line_eq p i hl hb
  have hbl : (word (p.line i) 0 == [108, 101, 116]) = false := by simpa [wLet] using hl
  have hbb : (word (p.line i) 0 == [98, 108, 111, 99, 107]) = false := by simpa [wBlock] using hb
  have HIN := inside_any p a i w hp hok (by omega)
  have HB : ∀ W, Calls Tryz.prog 87 #[.string (bs (word (p.line i) 0)), .bool p.raw] W fun e w' => e = .returned (.tuple #[.string (bs (behind (word (p.line i) 0) p.raw).1), .bool (behind (word (p.line i) 0) p.raw).2]) ∧ w' = W := fun W => behind_bs _ _ _
  have hb3 := behind_len (word (p.line i) 0) p.raw
  clear hl hb
  generalize (behind (word (p.line i) 0) p.raw).1 = f at *
  generalize (behind (word (p.line i) 0) p.raw).2 = ok at *
  generalize p.inside i = inn at *
  cases ok
  · have hx := HN.out (.inl rfl)
    clear HN HE
    go_enter Tryz.func68, Tryz.ntmps68
    go_wp2_with (go_at_call 69; refine HIN.mono ?_; rintro e w' ⟨rfl, n, rfl⟩)
    go_quiet ((go_at_call 87; exact (HB _).mono fun _ _ ⟨he, hm⟩ => ⟨he, _, hm⟩))
    go_wp2
    go_ret
    exact ⟨ret_bool hx.symm, _, rfl⟩
  cases inn
  · have hx := HN.out (.inr (.inl rfl))
    clear HN HE
    go_enter Tryz.func68, Tryz.ntmps68
    go_wp2_with (go_at_call 69; refine HIN.mono ?_; rintro e w' ⟨rfl, n, rfl⟩)
    go_quiet ((go_at_call 87; exact (HB _).mono fun _ _ ⟨he, hm⟩ => ⟨he, _, hm⟩))
    go_wp2
    go_ret
    exact ⟨ret_bool hx.symm, _, rfl⟩
  by_cases h3 : (p.line i).length = f.length + 1
  · have HX : Hid (_ = _) := HE.out rfl rfl h3
    clear HN HE
    go_enter Tryz.func68, Tryz.ntmps68
    go_wp2_with (go_at_call 69; refine HIN.mono ?_; rintro e w' ⟨rfl, n, rfl⟩)
    go_quiet ((go_at_call 87; exact (HB _).mono fun _ _ ⟨he, hm⟩ => ⟨he, _, hm⟩))
    go_wp2
    clear HB HIN
    go_loopw [12] (fun kk wr => ∃ k : Nat, k ≤ f.length ∧ kk = .int .i64 k ∧ Hid (p.form i = formGo (f.drop k) ((p.line i).drop (k + 1))) ∧ ∃ n, wr = w.drewN n) (fun kk _ => f.length - (intOf kk).toNat)
    case atStart => exact ⟨0, Nat.zero_le _, rfl, HX, _, rfl⟩
    case round =>
      obtain ⟨k, hk, rfl, HI, n, rfl⟩ := hrel
      by_cases hlt : k < f.length
      · have HS : Hid (_ = _) := formGo_step f (p.line i) k hlt
        have hwk := hw (k + 1) (by omega)
        have hlk : (word (p.line i) (k + 1)).length ≤ maxLen := Nat.le_trans (hlong i (k + 1)) (by decide)
        have hk3 : (k : Int) + 1 < (p.line i).length := by omega
        have hk5 : (k : Int) < f.length := by omega
        have HWD : ∀ W, Calls Tryz.prog 109 #[.int .u8 f[k].toNat, .string (bs (word (p.line i) (k + 1)))] W fun e w' => e = .returned (.bool (wordOf f[k] (word (p.line i) (k + 1)))) ∧ w' = W := fun W => wordOf_bs _ _ _ hlk
        clear hlong hw
        go_wp2
        go_quiet ((go_at_call 109; exact (HWD _).mono fun _ _ ⟨he, hm⟩ => ⟨he, _, hm⟩))
        go_wp2
        · go_ret
          go_light
          refine ⟨ret_bool ?_, _, rfl⟩
          rw [HI.out, HS.out]; simp_all
        · go_roundw
          case rel =>
            go_light
            exact ⟨k + 1, by omega, by go_num, by rw [HI.out, HS.out]; simp_all [Hid], _, rfl⟩
          case measure => simp [intOf]; omega
      · go_wp2
        go_ret
        refine ⟨ret_bool ?_, n, rfl⟩
        rw [HI.out, List.drop_eq_nil_of_le (by omega)]; rfl
  · have hx := HN.out (.inr (.inr h3))
    clear HN HE
    go_enter Tryz.func68, Tryz.ntmps68
    go_wp2_with (go_at_call 69; refine HIN.mono ?_; rintro e w' ⟨rfl, n, rfl⟩)
    go_quiet ((go_at_call 87; exact (HB _).mono fun _ _ ⟨he, hm⟩ => ⟨he, _, hm⟩))
    go_wp2
    go_ret
    exact ⟨ret_bool hx.symm, _, rfl⟩
theorem form_any (p : RP) (a i : Nat) (w : World) (hp : ProgAt w a p) (hok : p.Ok) (hi : i < p.lines.length) :
    Calls Tryz.prog 68 #[.pointer (some ⟨a, 0, none⟩), .int .i64 i] w fun e w' => e = .returned (.bool (p.form i)) ∧ ∃ n, w' = w.drewN n := by
  by_cases hl : word (p.line i) 0 = wLet
  · exact form_let p a i w hp hok hi hl
  by_cases hb : word (p.line i) 0 = wBlock
  · exact form_block p a i w hp hok hi hb
  · exact form_line p a i w hp hok hi hl hb
end Go.Proofs.YtmlgajhhnojdjaaGreatDoor.RefL
/- Names and types of a line whose form is right. Condition: the program lies in memory as it is kept. -/
namespace Go.Proofs.YtmlgajhhnojdjaaGreatDoor.RefN
open Go.RowKit Go.Proofs.YtmlgajhhnojdjaaGreatDoor.Spec Go.Proofs.YtmlgajhhnojdjaaGreatDoor.RefA Go.Proofs.YtmlgajhhnojdjaaGreatDoor.RefI Go.Proofs.YtmlgajhhnojdjaaGreatDoor.RefJ Go.Proofs.YtmlgajhhnojdjaaGreatDoor.Aux
theorem names_ok (p : RP) (a i : Nat) (w : World) (hp : ProgAt w a p) (hok : p.Ok) (hi : i < p.lines.length) (hl : p.LineOk i) :
    Calls Tryz.prog 70 #[.pointer (some ⟨a, 0, none⟩), .int .i64 i] w fun e w' => e = .returned (.bool (p.names i)) ∧ ∃ n, w' = w.drewN n := by
  unfold RP.LineOk at hl
  by_cases hlet : word (p.line i) 0 = wLet
  · rw [if_pos hlet] at hl
    exact names_let p a i w hp hok hi hlet hl.1 (RP.find_mem hl.2)
  · rw [if_neg hlet] at hl
    exact names_line p a i w hp hok hi hlet hl
theorem types_ok (p : RP) (a i : Nat) (w : World) (hp : ProgAt w a p) (hok : p.Ok) (hi : i < p.lines.length) (hl : p.LineOk i) (hlet : ¬ word (p.line i) 0 = wLet) (hn : p.names i = true) :
    Calls Tryz.prog 71 #[.pointer (some ⟨a, 0, none⟩), .int .i64 i] w fun e w' => e = .returned (.bool (p.types i)) ∧ ∃ n, w' = w.drewN n := by
  unfold RP.LineOk at hl
  rw [if_neg hlet] at hl
  exact types_any p a i w hp hok hi hl (fun k hk hc => RP.names_find hn hlet k hk hc) (fun hm => RP.names_m hn hlet hm)
end Go.Proofs.YtmlgajhhnojdjaaGreatDoor.RefN
/- What the document's own reader answers on a whole text. Condition: the text has at most 2^40 bytes. -/
namespace Go.Proofs.YtmlgajhhnojdjaaGreatDoor.RefM
open Go.RowKit Go.Proofs.YtmlgajhhnojdjaaGreatDoor.Spec Go.Proofs.YtmlgajhhnojdjaaGreatDoor.RefA Go.Proofs.YtmlgajhhnojdjaaGreatDoor.RefE Go.Proofs.YtmlgajhhnojdjaaGreatDoor.RefF Go.Proofs.YtmlgajhhnojdjaaGreatDoor.RefL Go.Proofs.YtmlgajhhnojdjaaGreatDoor.RefN Go.Proofs.YtmlgajhhnojdjaaGreatDoor.Aux

theorem split_row (l : B) (c : UInt8) (w : World) (h : l.length ≤ 1099511627776) :
    Calls Tryz.prog 67 #[.string (bs l), .int .u8 c.toNat] w fun e w' => ∃ g cap, e = .returned (.slice (some ⟨g, 0, none⟩) (split c l).length cap) ∧ w'.ownsRow w.heap.size 9 1 (.slice (some ⟨g, 0, none⟩) (split c l).length cap) (split c l).length (cellsOf (split c l)) ∧ Below w.heap.size w w' := by
  refine (split_bs l c w h).mono ?_
  rintro e w' ⟨v, rfl, ho, hb⟩
  have hl : 1 ≤ (split c l).length := by
    have := split_ne c l
    cases hs : split c l with
    | nil => exact absurd hs this
    | cons a b => simp
  obtain ⟨g, cap, rfl, -⟩ := strRow_of ho hl
  exact ⟨g, cap, rfl, ho, hb⟩
theorem split_row10 (l : B) (w : World) (h : l.length ≤ 1099511627776) :
    Calls Tryz.prog 67 #[.string (bs l), .int .u8 10] w fun e w' => ∃ g cap, e = .returned (.slice (some ⟨g, 0, none⟩) (split 10 l).length cap) ∧ w'.ownsRow w.heap.size 9 1 (.slice (some ⟨g, 0, none⟩) (split 10 l).length cap) (split 10 l).length (cellsOf (split 10 l)) ∧ Below w.heap.size w w' := split_row l 10 w h
theorem split_row32 (l : B) (w : World) (h : l.length ≤ 1099511627776) :
    Calls Tryz.prog 67 #[.string (bs l), .int .u8 32] w fun e w' => ∃ g cap, e = .returned (.slice (some ⟨g, 0, none⟩) (split 32 l).length cap) ∧ w'.ownsRow w.heap.size 9 1 (.slice (some ⟨g, 0, none⟩) (split 32 l).length cap) (split 32 l).length (cellsOf (split 32 l)) ∧ Below w.heap.size w w' := split_row l 32 w h

theorem info_strs : (Tryz.prog.info? 34).map (fun i => (i.zero, i.size, i.bytes)) = some (some (.slice none 0 0), 1, 24) := by kernel_rfl
theorem info_int : (Tryz.prog.info? 3).map (fun i => (i.zero, i.size, i.bytes)) = some (some (.int .i64 0), 1, 8) := by kernel_rfl

theorem rinv_start (z : Nat) (w : World) (raw : Bool) (hz : z ≤ w.heap.size) : RInv z w.heap.size (w.alloc (.cells #[.slice none 0 0, .slice none 0 0, .slice none 0 0, .bool raw] 128)) (Spec.start raw) (.slice none 0 0) (.slice none 0 0) (.slice none 0 0) [] :=
  ⟨hz, by show (w.heap.push _)[w.heap.size]? = _; simp [Spec.start], World.ownsRow_nil _ _ _ _, fun j hj => by simp at hj, World.ownsRow_nil _ _ _ _, World.ownsRow_nil _ _ _ _, .inl rfl⟩
/-- what Read leaves -/
def ReadPost (text : B) (raw : Bool) (w : World) (e : Ending) (w' : World) : Prop :=
  Below w.heap.size w w' ∧ ∃ v, e = .returned (.tuple #[v, .int .i64 ((refRead text raw).2.1 : Int), .int .i64 ((refRead text raw).2.2 : Int)]) ∧
    ((refRead text raw).1 = none ∧ v = .pointer none ∨ ∃ p a, (refRead text raw).1 = some p ∧ v = .pointer (some ⟨a, 0, none⟩) ∧ p.Ok ∧ ∃ vl vt vb us, RInv w.heap.size a w' p vl vt vb us)
theorem post_bad {text : B} {raw : Bool} {w w' : World} {c k : Nat} (hb : Below w.heap.size w w') (h : refRead text raw = (none, c, k)) : ReadPost text raw w (.returned (.tuple #[.pointer none, .int .i64 (c : Int), .int .i64 (k : Int)])) w' :=
  ⟨hb, .pointer none, by rw [h], .inl ⟨by rw [h], rfl⟩⟩
theorem post_good {text : B} {raw : Bool} {w w' : World} {L : List B} {a : Nat} {v0 : Value} {p : RP} (hh : Held L w a v0 w' p) (hok : p.Ok) (h : refRead text raw = (some p, 0, 0)) : ReadPost text raw w (.returned (.tuple #[.pointer (some ⟨a, 0, none⟩), .int .i64 0, .int .i64 0])) w' :=
  ⟨hh.old, .pointer (some ⟨a, 0, none⟩), by rw [h]; rfl, .inr ⟨p, a, by rw [h], rfl, hok, hh.inv⟩⟩
theorem refRead_form {text : B} {raw : Bool} {k : Nat} {q : RP} (h1 : (split 10 text).length ≤ 4000) (h2 : raw = false → (split 10 text).length ≤ 120) (h : readForm (wordsOf text) (Spec.start raw) 0 = (q, some k)) : refRead text raw = (none, 2, k) := by
  rw [refRead, if_neg, h]
  rintro (h' | ⟨h', h''⟩)
  · omega
  · have := h2 h'; omega

set_option maxRecDepth 20000 in
set_option maxHeartbeats 4000000 in
theorem read_fits (text : B) (raw : Bool) (w : World) (h : text.length ≤ 1099511627776) (h1 : (split 10 text).length ≤ 4000) (h2 : raw = false → (split 10 text).length ≤ 120) :
    Calls Tryz.prog 46 #[.string (bs text), .bool raw] w (ReadPost text raw w) := by
  have H2 : Hid (raw = false → (split 10 text).length ≤ 120) := h2
  have hlong : Hid (∀ j, (word (split 10 text) j).length ≤ 1099511627776) := fun j => Nat.le_trans (word_split_le 10 text j) h
  obtain ⟨i34, hi34, hz34a, hz34b, hz34c⟩ := info_parts info_strs
  obtain ⟨i3, hi3, hz3a, hz3b, hz3c⟩ := info_parts info_int
  go_enter Tryz.func46, Tryz.ntmps46
  go_upto_region 2 with (go_at_call 67; refine (split_row10 text _ h).mono ?_; rintro e w1 ⟨g0, c0, rfl, ho0, hb0⟩)
  go_cut [29] (fun b wc => wc = w1 ∧ b = .bool false)
  case first =>
    cases raw
    · have h3 := h2 rfl
      clear h2
      go_wp2
      go_meet
      case rel => exact ⟨rfl, by congr 1; simp; omega⟩
    · clear h2
      go_wp2
      go_meet
      case rel => exact ⟨rfl, by congr 1; simp; omega⟩
  case rest =>
    obtain ⟨rfl, rfl⟩ := hcut
    clear h2
    go_wp2
    have hsz0 := hb0.size
    have hstart : Held (split 10 text) w wc.heap.size (.slice (some ⟨g0, 0, none⟩) (split 10 text).length c0) (wc.alloc (.cells #[.slice none 0 0, .slice none 0 0, .slice none 0 0, .bool raw] 128)) (Spec.start raw) :=
      ⟨⟨_, _, _, _, rinv_start w.heap.size wc raw hsz0⟩, hb0.alloc hsz0 _, ho0.alloc _⟩
    generalize hA : wc.heap.size = a at *
    clear hA
    go_loopw [9] (fun i wr => ∃ (k : Nat) (p : RP), k ≤ (split 10 text).length ∧ i = .int .i64 k ∧ Held (split 10 text) w a (.slice (some ⟨g0, 0, none⟩) (split 10 text).length c0) wr p ∧ Hid (PureR text raw k p)) (fun i _ => (split 10 text).length - (intOf i).toNat)
    case atStart => exact ⟨0, Spec.start raw, Nat.zero_le _, rfl, hstart, PureR.start text raw⟩
    case round =>
      obtain ⟨k, p, hk, rfl, hH, HP⟩ := hrel
      clear hstart ho0 hb0 hsz0
      by_cases hlt : k < (split 10 text).length
      · have hHH := hH
        obtain ⟨⟨vl, vt, vb, us, hinv⟩, hold, hrow⟩ := hH
        have hcl : wr.cell? ⟨a, 0, none⟩ = some vl := by rw [cell_of_heap hinv.blk]; rfl
        have hfl : wr.frozen? ⟨a, 0, none⟩ = false := frozen_of_heap hinv.blk 0
        obtain ⟨g, cap, e, hcap, hg0, hcell⟩ := strRow_of hrow (by omega)
        simp only [Value.slice.injEq, Option.some.injEq, Addr.mk.injEq, and_true, true_and] at e
        obtain ⟨rfl, rfl⟩ := e
        have hcx := hcell k hlt
        have hk3 : (k : Int) < (split 10 text).length := by omega
        have hbase : w.heap.size ≤ wr.heap.size := hold.size
        have halt := hinv.lt
        have hps := HP.out.ok.size
        have hneA : some a ≠ vl.ownBlock := (own_at_ne hinv.lines hinv.blk (by decide)).symm
        have HPK : Hid (p.lines.length = k) := HP.out.length (by omega)
        clear hcell
        go_upto_region 8 with fail
        go_cut [] (fun wc' => Held (split 10 text) w a (.slice (some ⟨g0, 0, none⟩) (split 10 text).length c0) wc' (p.addLine (split 32 (word (split 10 text) k))))
        case first =>
          go_region_law (first
              | (refine step_lies (by rfl) _ _ _ (by rfl) w.heap.size 34 i34 (.slice none 0 0) 24 Tryz.underlying126 hi34 hz34a hz34b hz34c (by rfl) _ _ _ (by rfl) (own_below hinv.lines hb1) _ (by rfl) (by rfl) (by decide) (by omega) (by have := hb1.size; omega) ?_; intro g2 c2 w2 hown2 hgrow2 hat2 hlt2; have hfz : w2.frozen? ⟨a, 0, none⟩ = false := (by rw [World.frozen?_of_block (hgrow2.block a (by have := hb1.size; simp; omega) hneA), (below_alloc _ _).frozen (by exact hsz1), hb1.frozen (by exact halt)]; exact hfl); have hcl2 : w2.cell? ⟨a, 0, none⟩ = some vl := (hgrow2.cell (by rw [(below_alloc _ _).cell (by exact hsz1)]; exact hcl1) hneA))
              | (go_simp; go_at_call 67; refine (split_row32 _ _ (hlong.out k)).mono ?_; rintro e w1 ⟨g1, c1, rfl, ho1, hb1'⟩; have hb1 : Below wr.heap.size wr w1 := below_drew hb1'; have hcl1 : w1.cell? ⟨a, 0, none⟩ = some vl := (by rw [hb1.cell (by exact halt)]; exact hcl); have hsz1 : a < w1.heap.size := (by have := hb1.size; omega)))
          all_goals go_wp2_with fail
          all_goals
            go_meet
            case rel => exact hHH.line hinv hb1 ho1 hown2 hgrow2
        case rest =>
          have HBAD : Hid ((p.addLine (split 32 (word (split 10 text) k))).form k = false → refRead text raw = (none, 2, k)) := fun hf => by
            obtain ⟨q, hq⟩ := HP.out.bad hlt hf
            exact refRead_form h1 H2.out hq
          have HSTEP : Hid ((p.addLine (split 32 (word (split 10 text) k))).form k = true → PureR text raw (k + 1) ((p.addLine (split 32 (word (split 10 text) k))).mark k)) := fun hf => HP.out.step h hlt h1 hf
          have hok1 := HP.out.okLine h hlt h1
          have hl1 : k < (p.addLine (split 32 (word (split 10 text) k))).lines.length := by have := HPK.out; simp [RP.addLine]; omega
          have hfew : (p.addLine (split 32 (word (split 10 text) k))).lets.length < 4000 ∧ (p.addLine (split 32 (word (split 10 text) k))).blocks.length < 4000 := by have := HP.out.few; simp [RP.addLine]; omega
          clear hcl hfl hcx hneA HPK HP hinv hrow hold hHH hps halt hbase hg0 hcap
          generalize p.addLine (split 32 (word (split 10 text) k)) = p1 at *
          obtain ⟨hfew1, hfew2⟩ := hfew
          have hPA := hcut.progAt hok1
          have HFm := form_any p1 a k _ hPA hok1 hl1
          obtain ⟨gL, capL, gl, capl, hc1, hc1', hc2, hc2', hw⟩ := hPA.line_at k hl1
          have hwn := hok1.words k hl1
          have hw0 := hw 0 (by omega)
          have hi30 : (0 : Int) < (p1.line k).length := by omega
          have hi31 : (k : Int) < p1.lines.length := by omega
          have hsz1 := hok1.size
          cases hf : p1.form k
          · rw [hf] at HFm
            have hx := HBAD.out hf
            clear HBAD HSTEP hf
            go_wp2_with (go_at_call 68; refine HFm.mono ?_; rintro e w' ⟨rfl, n, rfl⟩)
            go_ret3
            exact post_bad (hcut.drewN n).old hx
          · rw [hf] at HFm
            have HM := HSTEP.out hf
            have hokm := hok1.mark1 hl1 hf hfew1
            have HST : Hid (PureR text raw (k + 1) (p1.mark k)) := HM
            clear HBAD HSTEP HM hf
            go_upto_if 68 with (go_at_call 68; refine HFm.mono ?_; rintro e w' ⟨rfl, n, rfl⟩)
            clear HFm
            have hcn := hcut.drewN n
            go_cut [] (fun wc2 => Held (split 10 text) w a (.slice (some ⟨g0, 0, none⟩) (split 10 text).length c0) wc2 (p1.mark1 k))
            case first =>
              have hcn' := hcn
              obtain ⟨⟨vl1, vt1, vb1, us1, hinv1⟩, hold1, hrow1⟩ := hcn
              have hct : wc.cell? ⟨a, 1, none⟩ = some vt1 := by have := cell_of_heap hinv1.blk 1; exact this
              have hft : wc.frozen? ⟨a, 1, none⟩ = false := by have := frozen_of_heap hinv1.blk 1; exact this
              have hbase1 := hold1.size
              have halt1 : a < wc.heap.size := hinv1.lt
              have hneT : some a ≠ vt1.ownBlock := (own_at_ne hinv1.lets hinv1.blk (by decide)).symm
              go_wp2_with (at_builtin; refine append_lies rfl _ _ 113 rfl w.heap.size 3 i3 (.int .i64 0) 8 Tryz.underlying113 hi3 hz3a hz3b hz3c rfl vt1 _ _ rfl hinv1.lets _ rfl rfl (by decide) (by omega) hbase1 ?_; intro g2 c2 w2 hown2 hgrow2 hat2 hlt2; have hfz : w2.frozen? ⟨a, 1, none⟩ = false := (by rw [World.frozen?_of_block (hgrow2.block a (by simp; omega) hneT), (below_alloc _ _).frozen (by exact halt1)]; exact hft); have hcl2 : w2.cell? ⟨a, 1, none⟩ = some vt1 := (hgrow2.cell (by rw [(below_alloc _ _).cell (by exact halt1)]; exact hct) hneT))
              · go_meet
                case rel =>
                  have hm1 : p1.mark1 k = p1.addLet k := by rw [RP.mark1, if_pos (by simpa [wLet] using ‹(word (p1.line k) 0 == _) = true›)]
                  rw [hm1]
                  exact hcn'.addLet hinv1 hown2 hgrow2 (fun g hg => by
                    simp only [Value.ownBlock, Option.some.injEq] at hg
                    subst hg
                    simpa using hat2)
              · go_meet
                case rel =>
                  have hm1 : p1.mark1 k = p1 := by rw [RP.mark1, if_neg (by simpa [wLet] using ‹(word (p1.line k) 0 == _) = false›)]
                  rw [hm1]
                  exact hcn'
            case rest =>
              have hmb : Hid (word (p1.line k) 0 = wBlock → p1.mark k = (p1.mark1 k).addBlock k) := fun e => RP.mark_block e
              have hmn : Hid (¬ word (p1.line k) 0 = wBlock → p1.mark k = p1.mark1 k) := fun e => RP.mark_none e
              have hl2 : k < (p1.mark1 k).lines.length := by rw [RP.mark1_lines]; exact hl1
              have hlk : (p1.mark1 k).line k = p1.line k := RP.mark1_line _ _ _
              have hfew3 : (p1.mark1 k).blocks.length < 4000 := by unfold RP.mark1; split <;> exact hfew2
              clear hc1 hc1' hc2 hc2' hw hw0 hPA hcn
              generalize p1.mark1 k = p2 at *
              have hPA := hcut.progAt hokm
              obtain ⟨gL, capL, gl, capl, hc1, hc1', hc2, hc2', hw⟩ := hPA.line_at k hl2
              rw [hlk] at hc2 hc2' hw
              have hw0 := hw 0 (by omega)
              have hi32 : (k : Int) < p2.lines.length := by omega
              have hsz2 := hokm.size
              have hcut' := hcut
              obtain ⟨⟨vl1, vt1, vb1, us1, hinv1⟩, hold1, hrow1⟩ := hcut
              have hct : wc.cell? ⟨a, 2, none⟩ = some vb1 := by have := cell_of_heap hinv1.blk 2; exact this
              have hft : wc.frozen? ⟨a, 2, none⟩ = false := by have := frozen_of_heap hinv1.blk 2; exact this
              have hbase1 := hold1.size
              have halt1 : a < wc.heap.size := hinv1.lt
              have hneT : some a ≠ vb1.ownBlock := (own_at_ne hinv1.blocks hinv1.blk (by decide)).symm
              clear hw hlk hPA
              go_wp2_with (at_builtin; refine append_lies rfl _ _ 113 rfl w.heap.size 3 i3 (.int .i64 0) 8 Tryz.underlying113 hi3 hz3a hz3b hz3c rfl vb1 _ _ rfl hinv1.blocks _ rfl rfl (by decide) (by omega) hbase1 ?_; intro g2 c2 w2 hown2 hgrow2 hat2 hlt2; have hfz : w2.frozen? ⟨a, 2, none⟩ = false := (by rw [World.frozen?_of_block (hgrow2.block a (by simp; omega) hneT), (below_alloc _ _).frozen (by exact halt1)]; exact hft); have hcl2 : w2.cell? ⟨a, 2, none⟩ = some vb1 := (hgrow2.cell (by rw [(below_alloc _ _).cell (by exact halt1)]; exact hct) hneT))
              · go_roundw
                case rel =>
                  refine ⟨k + 1, p1.mark k, by omega, by go_num, ?_, HST⟩
                  rw [hmb.out (by simpa [wBlock] using ‹(word (p1.line k) 0 == _) = true›)]
                  exact hcut'.addBlock hinv1 hown2 hgrow2 (fun g hg => by
                    simp only [Value.ownBlock, Option.some.injEq] at hg
                    subst hg
                    simpa using hat2)
                case measure => simp [intOf]; omega
              · go_roundw
                case rel =>
                  refine ⟨k + 1, p1.mark k, by omega, by go_num, ?_, HST⟩
                  rw [hmn.out (by simpa [wBlock] using ‹(word (p1.line k) 0 == _) = false›)]
                  exact hcut'
                case measure => simp [intOf]; omega
      · obtain rfl : k = (split 10 text).length := by omega
        have HR : Hid (_ = _) := refRead_fit h1 H2.out HP.out.read
        have hok := HP.out.ok
        have HLO : Hid (∀ j, j < (split 10 text).length → p.LineOk j) := HP.out.lineOk
        have HN : Hid (p.lines.length = (split 10 text).length) := HP.out.length (Nat.le_refl _)
        have hPA := hH.progAt hok
        have hbn := hok.blockn
        obtain ⟨bb, cb, hlenb⟩ := hPA.blocks_len
        have HIN := inside_any p a (split 10 text).length wr hPA hok (by rw [HN.out]; omega)
        clear HP hlong hlt H2 hk
        by_cases hin : p.inside (split 10 text).length = true
        · have hx : refRead text raw = (none, 2, (split 10 text).length) := by rw [HR.out, if_pos (.inl hin)]
          rw [hin] at HIN
          clear HR hin
          go_wp2_with (go_at_call 69; refine HIN.mono ?_; rintro e w' ⟨rfl, n, rfl⟩)
          go_ret3
          exact post_bad (hH.drewN n).old hx
        · by_cases hb0 : p.blocks.length = 0
          · have hx : refRead text raw = (none, 2, (split 10 text).length) := by rw [HR.out, if_pos (.inr hb0)]
            rw [Bool.not_eq_true] at hin
            rw [hin] at HIN
            clear HR hin
            go_wp2_with (go_at_call 69; refine HIN.mono ?_; rintro e w' ⟨rfl, n, rfl⟩)
            go_ret3
            exact post_bad (hH.drewN n).old hx
          · have HR2 : Hid (refRead text raw = match firstNot p.names ((split 10 text).length - 0) 0 with
                | some i => (none, 3, i)
                | none => match firstNot p.typesOk ((split 10 text).length - 0) 0 with
                  | some i => (none, 4, i)
                  | none => (some p, 0, 0)) := by rw [HR.out, if_neg (not_or.mpr ⟨hin, hb0⟩)]; rfl
            rw [Bool.not_eq_true] at hin
            rw [hin] at HIN
            have hb1 : ((p.blocks.length : Int) == 0) = false := by rw [beq_eq_false_iff_ne]; omega
            clear HR hin hb0
            go_wp2_with (go_at_call 69; refine HIN.mono ?_; rintro e w' ⟨rfl, n, rfl⟩)
            obtain ⟨wo, hwo⟩ : ∃ wo : World, wo = wr := ⟨_, rfl⟩
            subst hwo
            go_loopg [12] ((split 10 text).length) (fun gk i wn => ∃ (k m : Nat), k ≤ (split 10 text).length ∧ gk + k = (split 10 text).length ∧ i = .int .i64 k ∧ wn = wo.drewN m ∧ Hid (firstNot p.names ((split 10 text).length - 0) 0 = firstNot p.names ((split 10 text).length - k) k))
            case atStart => exact ⟨0, n, Nat.zero_le _, rfl, rfl, rfl, rfl⟩
            case round =>
              obtain ⟨k, m, hk, hgk, rfl, rfl, HI⟩ := hrel
              by_cases hlt : k < (split 10 text).length
              · have HS : Hid (_ = _) := firstNot_step p.names _ k hlt
                have HNm := names_ok p a k (wo.drewN m) (hPA.drewN m) hok (by rw [HN.out]; exact hlt) (HLO.out k hlt)
                clear HIN
                cases hnm : p.names k
                · have hx : refRead text raw = (none, 3, k) := by rw [HR2.out, HI.out, HS.out, hnm]; rfl
                  rw [hnm] at HNm
                  clear hnm
                  go_wp2_with (go_at_call 70; refine HNm.mono ?_; rintro e w' ⟨rfl, nn, rfl⟩)
                  go_ret3
                  exact post_bad (hH.drewN (m + nn)).old hx
                · have hx : Hid (firstNot p.names ((split 10 text).length - k) k = firstNot p.names ((split 10 text).length - (k + 1)) (k + 1)) := by unfold Hid; rw [HS.out, hnm]; rfl
                  rw [hnm] at HNm
                  clear hnm
                  go_wp2_with (go_at_call 70; refine HNm.mono ?_; rintro e w' ⟨rfl, nn, rfl⟩)
                  go_roundg ((split 10 text).length - (k + 1))
                  case rel => exact ⟨k + 1, m + nn, by omega, by omega, by go_num, by simp, by rw [HI.out, hx.out]; rfl⟩
                  case measure => omega
              · have HA : Hid (∀ j, j < (split 10 text).length → p.names j = true) := fun j hj => firstNot_all p.names _ 0 (by rw [HI.out, show (split 10 text).length - k = 0 by omega]; rfl) j (by omega) (by omega)
                have HR3 : Hid (refRead text raw = match firstNot p.typesOk ((split 10 text).length - 0) 0 with
                  | some i => (none, 4, i)
                  | none => (some p, 0, 0)) := by
                  unfold Hid
                  rw [HR2.out, HI.out, show (split 10 text).length - k = 0 by omega]; rfl
                clear HR2 HI HIN
                go_wp2
                clear hlt hk
                go_loopg [14] ((split 10 text).length) (fun gk i wn => ∃ (k m : Nat), k ≤ (split 10 text).length ∧ gk + k = (split 10 text).length ∧ i = .int .i64 k ∧ wn = wo.drewN m ∧ Hid (firstNot p.typesOk ((split 10 text).length - 0) 0 = firstNot p.typesOk ((split 10 text).length - k) k))
                case atStart => exact ⟨0, m, Nat.zero_le _, rfl, rfl, rfl, rfl⟩
                case round =>
                  obtain ⟨k, m, hk, hgk, rfl, rfl, HI⟩ := hrel
                  by_cases hlt : k < (split 10 text).length
                  · have HS : Hid (_ = _) := firstNot_step p.typesOk _ k hlt
                    have hkl : k < p.lines.length := by rw [HN.out]; exact hlt
                    obtain ⟨gL, capL, gl, capl, hc1, hc1', hc2, hc2', hw⟩ := hPA.line_at k hkl
                    have hwn := hok.words k hkl
                    have hw0 := hw 0 (by omega)
                    have hi30 : (0 : Int) < (p.line k).length := by omega
                    have hi31 : (k : Int) < p.lines.length := by omega
                    have hszp := hok.size
                    clear hw
                    by_cases hlet : word (p.line k) 0 = wLet
                    · have hbl : (word (p.line k) 0 == [108, 101, 116]) = true := by rw [hlet]; rfl
                      have hx : Hid (firstNot p.typesOk ((split 10 text).length - k) k = firstNot p.typesOk ((split 10 text).length - (k + 1)) (k + 1)) := by unfold Hid; rw [HS.out, if_pos (by simp [RP.typesOk, hlet])]
                      clear hlet
                      go_wp2
                      go_roundg ((split 10 text).length - (k + 1))
                      case rel => exact ⟨k + 1, m, by omega, by omega, by go_num, rfl, by rw [HI.out, hx.out]; rfl⟩
                      case measure => omega
                    · have hbl : (word (p.line k) 0 == [108, 101, 116]) = false := by simpa [wLet] using hlet
                      by_cases hblk : word (p.line k) 0 = wBlock
                      · have hbb : (word (p.line k) 0 == [98, 108, 111, 99, 107]) = true := by rw [hblk]; rfl
                        have hx : Hid (firstNot p.typesOk ((split 10 text).length - k) k = firstNot p.typesOk ((split 10 text).length - (k + 1)) (k + 1)) := by unfold Hid; rw [HS.out, if_pos (by simp [RP.typesOk, hblk])]
                        clear hlet hblk
                        go_wp2
                        go_roundg ((split 10 text).length - (k + 1))
                        case rel => exact ⟨k + 1, m, by omega, by omega, by go_num, rfl, by rw [HI.out, hx.out]; rfl⟩
                        case measure => omega
                      · have hbb : (word (p.line k) 0 == [98, 108, 111, 99, 107]) = false := by simpa [wBlock] using hblk
                        have hto : Hid (p.typesOk k = p.types k) := by unfold Hid RP.typesOk; rw [show (word (p.line k) 0 == wLet) = false from hbl, show (word (p.line k) 0 == wBlock) = false from hbb]; rfl
                        have HTm := types_ok p a k (wo.drewN m) (hPA.drewN m) hok hkl (HLO.out k hlt) hlet (HA.out k hlt)
                        clear hlet hblk
                        cases hty : p.types k
                        · have hx : refRead text raw = (none, 4, k) := by rw [HR3.out, HI.out, HS.out, hto.out, hty]; rfl
                          rw [hty] at HTm
                          clear hty
                          go_wp2_with (go_at_call 71; refine HTm.mono ?_; rintro e w' ⟨rfl, nn, rfl⟩)
                          go_ret3
                          exact post_bad (hH.drewN (m + nn)).old hx
                        · have hx : Hid (firstNot p.typesOk ((split 10 text).length - k) k = firstNot p.typesOk ((split 10 text).length - (k + 1)) (k + 1)) := by unfold Hid; rw [HS.out, hto.out, hty]; rfl
                          rw [hty] at HTm
                          clear hty
                          go_wp2_with (go_at_call 71; refine HTm.mono ?_; rintro e w' ⟨rfl, nn, rfl⟩)
                          go_roundg ((split 10 text).length - (k + 1))
                          case rel => exact ⟨k + 1, m + nn, by omega, by omega, by go_num, by simp, by rw [HI.out, hx.out]; rfl⟩
                          case measure => omega
                  · have hx : refRead text raw = (some p, 0, 0) := by rw [HR3.out, HI.out, show (split 10 text).length - k = 0 by omega]; rfl
                    clear HR3 HI
                    go_wp2
                    go_ret3
                    exact post_good (hH.drewN m) hok hx

set_option maxRecDepth 20000 in
set_option maxHeartbeats 1000000 in
theorem read_long (text : B) (raw : Bool) (w : World) (h : text.length ≤ 1099511627776) (h1 : 4000 < (split 10 text).length ∨ (raw = false ∧ 120 < (split 10 text).length)) :
    Calls Tryz.prog 46 #[.string (bs text), .bool raw] w (ReadPost text raw w) := by
  have hx : refRead text raw = (none, 1, 0) := by rw [refRead, if_pos h1]
  have hlen := split_length 10 text
  by_cases h4 : 4000 < (split 10 text).length
  · clear h1
    go_enter Tryz.func46, Tryz.ntmps46
    go_wp2_with (go_at_call 67; refine (split_row10 text _ h).mono ?_; rintro e w1 ⟨g0, c0, rfl, ho0, hb0⟩)
    go_ret3
    exact post_bad hb0 hx
  · obtain ⟨rfl, h5⟩ : raw = false ∧ 120 < (split 10 text).length := h1.resolve_left h4
    clear h1
    go_enter Tryz.func46, Tryz.ntmps46
    go_wp2_with (go_at_call 67; refine (split_row10 text _ h).mono ?_; rintro e w1 ⟨g0, c0, rfl, ho0, hb0⟩)
    go_ret3
    exact post_bad hb0 hx
theorem read_any (text : B) (raw : Bool) (w : World) (h : text.length ≤ 1099511627776) : Calls Tryz.prog 46 #[.string (bs text), .bool raw] w (ReadPost text raw w) := by
  by_cases hl : 4000 < (split 10 text).length ∨ (raw = false ∧ 120 < (split 10 text).length)
  · exact read_long text raw w h hl
  · simp only [not_or, not_and] at hl
    exact read_fits text raw w h (by omega) (fun e => by have := hl.2 e; omega)
end Go.Proofs.YtmlgajhhnojdjaaGreatDoor.RefM
/- The law Looked, walked: for texts of at most 2^20 letters, in every world that holds the tables. -/
namespace Go.Proofs.YtmlgajhhnojdjaaGreatDoor.PrjX
open Go Go.RowKit Go.Proofs.YtmlgajhhnojdjaaGreatDoor.Spec Go.Proofs.YtmlgajhhnojdjaaGreatDoor.Aux Go.Proofs.YtmlgajhhnojdjaaGreatDoor.PrjF Go.Proofs.YtmlgajhhnojdjaaGreatDoor.PrjG Go.Proofs.YtmlgajhhnojdjaaGreatDoor.PrjJ Go.Proofs.YtmlgajhhnojdjaaGreatDoor.PrjK Go.Proofs.YtmlgajhhnojdjaaGreatDoor.PrjW Go.Proofs.YtmlgajhhnojdjaaGreatDoor.RefM

set_option maxRecDepth 20000 in
theorem readRaw_any (text : B) (w : World) (h : text.length ≤ 1048576) (E : Env w) : Calls Tryz.prog 48 #[.string (bs text)] w (PReadPost text true w) := by
  have K := pread_any text true w h E
  replace K := K.mono (R' := fun e w' => ∃ v, e = .returned (.tuple #[v, .int .i64 ((prjRead text true).2.1 : Nat), .int .i64 ((prjRead text true).2.2 : Nat)]) ∧ PReadPost text true w (.returned (.tuple #[v, .int .i64 ((prjRead text true).2.1 : Nat), .int .i64 ((prjRead text true).2.2 : Nat)])) w') fun e w' hp => by
    have hp' := hp
    obtain ⟨-, v, rfl, -⟩ := hp'
    exact ⟨v, rfl, hp⟩
  generalize (prjRead text true).2.1 = c1 at K
  generalize (prjRead text true).2.2 = c2 at K
  have K2 : Calls Tryz.prog 72 #[.agg #[.bool true, .int .i64 4000, .int .i64 2000], .string (bs text)] w _ := K
  go_enter Tryz.func48, Tryz.ntmps48
  go_wp2_with (go_at_call 72; refine K2.mono ?_; rintro e w1 ⟨v, rfl, hp⟩)
  go_ret3
  exact hp
set_option maxRecDepth 20000 in
theorem read_any' (text : B) (w : World) (h : text.length ≤ 1048576) (E : Env w) : Calls Tryz.prog 53 #[.string (bs text)] w (PReadPost text false w) := by
  have K := pread_any text false w h E
  replace K := K.mono (R' := fun e w' => ∃ v, e = .returned (.tuple #[v, .int .i64 ((prjRead text false).2.1 : Nat), .int .i64 ((prjRead text false).2.2 : Nat)]) ∧ PReadPost text false w (.returned (.tuple #[v, .int .i64 ((prjRead text false).2.1 : Nat), .int .i64 ((prjRead text false).2.2 : Nat)])) w') fun e w' hp => by
    have hp' := hp
    obtain ⟨-, v, rfl, -⟩ := hp'
    exact ⟨v, rfl, hp⟩
  generalize (prjRead text false).2.1 = c1 at K
  generalize (prjRead text false).2.2 = c2 at K
  have K2 : Calls Tryz.prog 72 #[.agg #[.bool false, .int .i64 120, .int .i64 20], .string (bs text)] w _ := K
  go_enter Tryz.func53, Tryz.ntmps53
  go_wp2_with (go_at_call 72; refine K2.mono ?_; rintro e w1 ⟨v, rfl, hp⟩)
  go_ret3
  exact hp
set_option maxRecDepth 20000 in
theorem Look_any (text : B) (w : World) (h : text.length ≤ 1048576) (E : Env w) : Calls Tryz.prog 30 #[.string (bs text)] w fun e w' => e = .returned (.tuple #[.int .i64 ((refRead text true).2.1 : Nat), .int .i64 ((refRead text true).2.2 : Nat)]) ∧ Below w.heap.size w w' := by
  have K := (readRaw_any text w h E).mono (R' := fun e w' => ∃ v, e = .returned (.tuple #[v, .int .i64 ((refRead text true).2.1 : Nat), .int .i64 ((refRead text true).2.2 : Nat)]) ∧ Below w.heap.size w w') fun e w' hp => by
    obtain ⟨hb, v, rfl, -⟩ := hp
    rw [(read_same text true).1]
    exact ⟨v, rfl, hb⟩
  generalize (refRead text true).2.1 = c1 at *
  generalize (refRead text true).2.2 = c2 at *
  go_enter Tryz.func30, Tryz.ntmps30
  go_wp2_with (go_at_call 48; refine K.mono ?_; rintro e w1 ⟨v, rfl, hb⟩)
  go_ret2
  exact ⟨rfl, hb⟩
theorem num_any (n : Int) (w : World) : Calls Tryz.prog 35 #[.int .i64 n] w fun e w' => e = .returned (.int .i64 n) ∧ w' = w := by
  go_enter Tryz.func35, Tryz.ntmps35
  go_wp2
  go_ret
  exact ⟨rfl, rfl⟩
set_option maxRecDepth 20000 in
theorem look_any (text : B) (w : World) (h : text.length ≤ 1048576) (E : Env w) : Calls Tryz.prog 28 #[.string (bs text)] w fun e w' => e = .returned (.bool true) ∧ Below w.heap.size w w' := by
  have K1 := Look_any text w h E
  have K2 := fun w' => (read_any text true w' (by omega)).mono (R' := fun e w'' => ∃ v, e = .returned (.tuple #[v, .int .i64 ((refRead text true).2.1 : Nat), .int .i64 ((refRead text true).2.2 : Nat)]) ∧ Below w'.heap.size w' w'') fun e w'' hp => by
    obtain ⟨hb, v, rfl, -⟩ := hp
    exact ⟨v, rfl, hb⟩
  have KN := fun n w' => num_any n w'
  generalize (refRead text true).2.1 = c1 at *
  generalize (refRead text true).2.2 = c2 at *
  have b1 : ((c1 : Int) == (c1 : Int)) = true := by simp
  have b2 : ((c2 : Int) == (c2 : Int)) = true := by simp
  go_enter Tryz.func28, Tryz.ntmps28
  go_wp2_with (first
    | (go_at_call 30; refine K1.mono ?_; rintro e w1 ⟨rfl, hb1⟩)
    | (go_at_call 46; refine (K2 _).mono ?_; rintro e w2 ⟨v, rfl, hb2⟩)
    | (go_at_call 35; refine (KN _ _).mono ?_; rintro e w3 ⟨rfl, rfl⟩))
  go_ret
  exact ⟨rfl, hb1.trans (hb2.mono hb1.size)⟩
def rawText : B := [108, 101, 116, 32, 110, 32, 105, 110, 116, 10, 108, 101, 116, 32, 112, 32, 98, 111, 120, 10, 98, 108, 111, 99, 107, 10, 115, 101, 116, 32, 110, 32, 53, 10, 110, 101, 119, 32, 112, 32, 110, 10, 102, 114, 101, 101, 32, 112, 10, 102, 114, 101, 101, 32, 112, 10, 101, 110, 100, 32, 110]
def badText : B := [108, 101, 116, 32, 110, 32, 105, 110, 116, 10, 108, 101, 116, 32, 112, 32, 98, 111, 120, 10, 98, 108, 111, 99, 107, 10, 115, 101, 116, 32, 110, 32, 53, 10, 110, 101, 119, 32, 112, 32, 110, 10, 100, 114, 111, 112, 32, 112, 10, 108, 111, 97, 100, 32, 110, 32, 112, 10, 101, 110, 100, 32, 110]
set_option maxRecDepth 20000 in
set_option maxHeartbeats 1000000 in
theorem Looked_any (one other : B) (w : World) (h1 : one.length ≤ 1048576) (h2 : other.length ≤ 1048576) (E : Env w) : Calls Tryz.prog 9 #[.string (bs one), .string (bs other)] w fun e w' => e = .returned (.bool true) ∧ Below w.heap.size w w' := by
  have K := fun (t : B) (ht : t.length ≤ 1048576) (w' : World) (hb : Below w.heap.size w w') => (look_any t w' ht (E.on hb)).mono (R' := fun e w'' => e = .returned (.bool true) ∧ Below w.heap.size w w'') fun e w'' ⟨h1, h2⟩ => ⟨h1, hb.trans (h2.mono hb.size)⟩
  have K1 := K one h1
  have K2 := K other h2
  have K4 : ∀ w', Below w.heap.size w w' → Calls Tryz.prog 28 #[.string ⟨#[108, 101, 116, 32, 110, 32, 105, 110, 116, 10, 108, 101, 116, 32, 112, 32, 98, 111, 120, 10, 98, 108, 111, 99, 107, 10, 115, 101, 116, 32, 110, 32, 53, 10, 110, 101, 119, 32, 112, 32, 110, 10, 102, 114, 101, 101, 32, 112, 10, 102, 114, 101, 101, 32, 112, 10, 101, 110, 100, 32, 110]⟩] w' _ := K rawText (by decide)
  have K5 : ∀ w', Below w.heap.size w w' → Calls Tryz.prog 28 #[.string ⟨#[108, 101, 116, 32, 110, 32, 105, 110, 116, 10, 108, 101, 116, 32, 112, 32, 98, 111, 120, 10, 98, 108, 111, 99, 107, 10, 115, 101, 116, 32, 110, 32, 53, 10, 110, 101, 119, 32, 112, 32, 110, 10, 100, 114, 111, 112, 32, 112, 10, 108, 111, 97, 100, 32, 110, 32, 112, 10, 101, 110, 100, 32, 110]⟩] w' _ := K badText (by decide)
  clear K
  have K0 := K1 w (Below.refl _ _)
  go_enter Tryz.func9, Tryz.ntmps9
  go_wp2_with (first
    | (go_at_call 28; refine (K5 _ hb4).mono ?_; rintro e w5 ⟨rfl, hb5⟩)
    | (go_at_call 28; refine (K4 _ hb3).mono ?_; rintro e w4 ⟨rfl, hb4⟩)
    | (go_at_call 28; refine (K1 _ hb2).mono ?_; rintro e w3 ⟨rfl, hb3⟩)
    | (go_at_call 28; refine (K2 _ hb1).mono ?_; rintro e w2 ⟨rfl, hb2⟩)
    | (go_at_call 28; refine K0.mono ?_; rintro e w1 ⟨rfl, hb1⟩))
  go_ret
  exact ⟨rfl, hb5⟩
end Go.Proofs.YtmlgajhhnojdjaaGreatDoor.PrjX
/- The same rules for an operation that isn't written out. -/
namespace Go.Proofs.YtmlgajhhnojdjaaGreatDoor.Aux
open Go Go.RowKit Go.Proofs.YtmlgajhhnojdjaaGreatDoor.Spec Go.Proofs.YtmlgajhhnojdjaaGreatDoor.RefR
def loadArg (o : Oper) : Operand := match o.op with | .load _ x => x | _ => .tmp 0
def loadsWays (o : Oper) : Bool := match o.op with | .load t _ => t == 155 | _ => false
def storeTo (o : Oper) : Operand := match o.op with | .store _ x _ => x | _ => .tmp 0
def storeWhat (o : Oper) : Operand := match o.op with | .store _ _ y => y | _ => .tmp 0
def storesWays (o : Oper) : Bool := match o.op with | .store t _ _ => t == 155 | _ => false
section
variable (o : Oper) (a : Act) (w : World) (K : Act → World → Prop) (Q : Exit → Act → World → Prop)
theorem wp_load_open (hl : loadsWays o = true) (h : PtrWays w (a.eval (loadArg o))) : Oper.wp Tryz.prog o a w K Q = K (a.put o.dst (.agg (waysOf w (ptrBlock (a.eval (loadArg o)))))) w := by
  obtain ⟨d, op, t, ps, af, g⟩ := o
  unfold loadsWays at hl
  split at hl
  · rename_i t' x heq
    simp only at heq
    subst heq
    obtain rfl : t' = 155 := by simpa using hl
    exact wp_load_ways d x t ps af g a w K Q h
  · cases hl
theorem wp_store_open (hl : storesWays o = true) (h : PtrWays w (a.eval (storeTo o))) (h' : AggWays (a.eval (storeWhat o))) : Oper.wp Tryz.prog o a w K Q = K (a.put o.dst undef) (w.setCells (ptrBlock (a.eval (storeTo o))) 0 (aggCells (a.eval (storeWhat o))).toList) := by
  obtain ⟨d, op, t, ps, af, g⟩ := o
  unfold storesWays at hl
  split at hl
  · rename_i t' x y heq
    simp only at heq
    subst heq
    obtain rfl : t' = 155 := by simpa using hl
    exact wp_store_ways d x y t ps af g a w K Q h h'
  · cases hl
end
end Go.Proofs.YtmlgajhhnojdjaaGreatDoor.Aux
