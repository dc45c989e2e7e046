/- What the document's own reader answers on the types of a line's places. Condition: the program lies in memory as it is kept, and what the line names is there. -/
import Derived.Test.YtmlgajhhnojdjaaGreatDoorSAS
import Derived.Test.YtmlgajhhnojdjaaGreatDoorSAC
namespace Go.Proofs.YtmlgajhhnojdjaaGreatDoor.RefJ
open Go.RowKit Go.Proofs.YtmlgajhhnojdjaaGreatDoor.Spec Go.Proofs.YtmlgajhhnojdjaaGreatDoor.RefA Go.Proofs.YtmlgajhhnojdjaaGreatDoor.RefB Go.Proofs.YtmlgajhhnojdjaaGreatDoor.RefC Go.Proofs.YtmlgajhhnojdjaaGreatDoor.RefD Go.Proofs.YtmlgajhhnojdjaaGreatDoor.RefG Go.Proofs.YtmlgajhhnojdjaaGreatDoor.RefH Go.Proofs.YtmlgajhhnojdjaaGreatDoor.Aux

theorem typeOk_walk (p : RP) (c : UInt8) (w w1 : B) : p.typeOk c w w1 =
    if c = 110 ∨ c = 78 ∨ c = 102 ∨ c = 118 then true
    else if (p.typeOf w).isEmpty = true then false
    else if (c = 105 ∧ (!(p.typeOf w == [105, 110, 116])) = true) ∨ (c = 112 ∧ (!(p.typeOf w == [98, 111, 120])) = true) ∨ (c = 111 ∧ (!(p.typeOf w == [111, 112, 116])) = true) then false
    else if (c = 109 ∨ c = 100) ∧ (p.typeOf w == [105, 110, 116]) = true then false
    else if c = 109 ∧ (!(p.typeOf w == p.typeOf w1)) = true then false else true := by
  simp only [RP.typeOk, wInt, wBox, wOpt, List.isEmpty_iff, Bool.not_eq_true', beq_eq_false_iff_ne, ne_eq, beq_iff_eq]
  repeat' congr
theorem mem_of (f : B) (k : Nat) (h : k < f.length) (c : UInt8) (e : f[k] = c) : c ∈ f := by rw [← e]; exact List.getElem_mem h

set_option maxRecDepth 20000 in
set_option maxHeartbeats 4000000 in
theorem types_any (p : RP) (a i : Nat) (w : World) (hp : ProgAt w a p) (hok : p.Ok) (hi : i < p.lines.length) (h3 : (behind (word (p.line i) 0) p.raw).1.length + 1 ≤ (p.line i).length)
    (hn : ∀ k (h : k < (behind (word (p.line i) 0) p.raw).1.length), (behind (word (p.line i) 0) p.raw).1[k] ∈ [105, 112, 109, 111, 100] → 0 ≤ p.find (localOf (word (p.line i) (k + 1))))
    (hm : 109 ∈ (behind (word (p.line i) 0) p.raw).1 → 0 ≤ p.find (localOf (word (p.line i) 1))) :
    Calls Tryz.prog 71 #[.pointer (some ⟨a, 0, none⟩), .int .i64 i] w fun e w' => e = .returned (.bool (p.types i)) ∧ ∃ n, w' = w.drewN n := by
  have HN : Hid (p.types i = p.typesGo (word (p.line i) 1) (behind (word (p.line i) 0) p.raw).1 ((p.line i).drop 1)) := rfl
  have hsz := hok.size
  have hlong := hok.long
  obtain ⟨g, cap, gl, capl, hc1, hc1', hc2, hc2', hw⟩ := hp.line_at i hi
  have hwn := hok.words i hi
  have hw0 := hw 0 (by omega)
  have hi3 : (0 : Int) < (p.line i).length := by omega
  have hraw := hp.raw
  have hb3 := behind_len (word (p.line i) 0) p.raw
  have HK : Hid (∀ x ∈ (behind (word (p.line i) 0) p.raw).1, x ∈ kinds) := behind_kinds _ _
  have HM : Hid (109 ∈ (behind (word (p.line i) 0) p.raw).1 → 0 ≤ p.find (localOf (word (p.line i) 1))) := hm
  have Hn : Hid (∀ k (h : k < (behind (word (p.line i) 0) p.raw).1.length), (behind (word (p.line i) 0) p.raw).1[k] ∈ [105, 112, 109, 111, 100] → 0 ≤ p.find (localOf (word (p.line i) (k + 1)))) := hn
  clear hm hn
  go_enter Tryz.func71, Tryz.ntmps71
  go_wp2
  go_quiet ((go_at_call 87; exact Calls.quiet_of_same (behind_bs _ _ _)))
  go_wp2
  generalize (behind (word (p.line i) 0) p.raw).1 = f at *
  go_loopw [8] (fun kk wr => ∃ k : Nat, k ≤ f.length ∧ kk = .int .i64 k ∧ Hid (p.types i = p.typesGo (word (p.line i) 1) (f.drop k) ((p.line i).drop (k + 1))) ∧ ∃ n, wr = w.drewN n) (fun kk _ => f.length - (intOf kk).toNat)
  case atStart => exact ⟨0, Nat.zero_le _, rfl, HN, _, rfl⟩
  case round =>
    obtain ⟨k, hk, rfl, HI, n, rfl⟩ := hrel
    clear HN
    by_cases hlt : k < f.length
    · have HS : Hid (_ = _) := p.typesGo_step (word (p.line i) 1) f (p.line i) k hlt
      have hwk := hw (k + 1) (by omega)
      have hw1 := hw 1 (by omega)
      have hlk : (word (p.line i) (k + 1)).length ≤ maxLen := Nat.le_trans (hlong i (k + 1)) (by decide)
      have hl1 : (word (p.line i) 1).length ≤ maxLen := Nat.le_trans (hlong i 1) (by decide)
      have hk3 : (k : Int) + 1 < (p.line i).length := by omega
      have hk4 : (1 : Int) < (p.line i).length := by omega
      have Hk := HK.out _ (List.getElem_mem hlt)
      have Hnk := Hn.out k hlt
      have Hm : f[k] = 109 → 0 ≤ p.find (localOf (word (p.line i) 1)) := fun e => HM.out (mem_of f k hlt _ e)
      clear hlong hw HK Hn HM
      simp only [kinds, List.mem_cons, List.not_mem_nil, or_false] at Hk
      have HT : Hid (∀ l : B, l.length ≤ maxLen → 0 ≤ p.find (localOf l) → ∀ n, Calls Tryz.prog 113 #[.pointer (some ⟨a, 0, none⟩), .string (bs l)] (w.drewN n) fun e w' => e = .returned (.string (bs (p.typeOf l))) ∧ ∃ m, w' = w.drewN m) :=
        fun l hl hf n => (typeOf_any p a l (w.drewN n) (hp.drewN n) hok hl hf).mono fun e w' ⟨he, m, hm⟩ => ⟨he, n + m, by rw [hm]; simp⟩
      rcases Hk with E | E | E | E | E | E | E | E | E
      · have hf0 := Hnk (by simp [E])
        have hfn : f[k].toNat = 105 := by rw [E]; rfl
        have HE : Hid (f[k] = 105) := E
        clear Hnk Hm E
        go_wp2_with (go_at_call 113; refine (HT.out _ (by assumption) (by assumption) _).mono ?_; rintro e w' ⟨rfl, nf, rfl⟩)
        all_goals first
          | (go_ret
             go_light
             exact ⟨ret_bool (by rw [HI.out, HS.out, HE.out, typeOk_walk]; first | (simp [*]; done) | simp_all), _, rfl⟩)
          | (go_roundw
             case rel =>
               go_light
               exact ⟨k + 1, by omega, by go_num, by rw [HI.out, HS.out, HE.out, typeOk_walk]; first | (simp [*, Hid]; done) | simp_all [Hid], _, rfl⟩
             case measure => simp [intOf]; omega)
      · have hfn : f[k].toNat = 110 := by rw [E]; rfl
        have HE : Hid (f[k] = 110) := E
        clear Hnk Hm E
        go_wp2
        all_goals first
          | (go_ret
             go_light
             exact ⟨ret_bool (by rw [HI.out, HS.out, HE.out, typeOk_walk]; first | (simp [*]; done) | simp_all), _, rfl⟩)
          | (go_roundw
             case rel =>
               go_light
               exact ⟨k + 1, by omega, by go_num, by rw [HI.out, HS.out, HE.out, typeOk_walk]; first | (simp [*, Hid]; done) | simp_all [Hid], _, rfl⟩
             case measure => simp [intOf]; omega)
      · have hf0 := Hnk (by simp [E])
        have hfn : f[k].toNat = 112 := by rw [E]; rfl
        have HE : Hid (f[k] = 112) := E
        clear Hnk Hm E
        go_wp2_with (go_at_call 113; refine (HT.out _ (by assumption) (by assumption) _).mono ?_; rintro e w' ⟨rfl, nf, rfl⟩)
        all_goals first
          | (go_ret
             go_light
             exact ⟨ret_bool (by rw [HI.out, HS.out, HE.out, typeOk_walk]; first | (simp [*]; done) | simp_all), _, rfl⟩)
          | (go_roundw
             case rel =>
               go_light
               exact ⟨k + 1, by omega, by go_num, by rw [HI.out, HS.out, HE.out, typeOk_walk]; first | (simp [*, Hid]; done) | simp_all [Hid], _, rfl⟩
             case measure => simp [intOf]; omega)
      · have hf0 := Hnk (by simp [E])
        have hf1 := Hm E
        have hfn : f[k].toNat = 109 := by rw [E]; rfl
        have HE : Hid (f[k] = 109) := E
        clear Hnk Hm E
        go_wp2_with (go_at_call 113; refine (HT.out _ (by assumption) (by assumption) _).mono ?_; rintro e w' ⟨rfl, nf, rfl⟩)
        all_goals first
          | (go_ret
             go_light
             exact ⟨ret_bool (by rw [HI.out, HS.out, HE.out, typeOk_walk]; first | (simp [*]; done) | simp_all), _, rfl⟩)
          | (go_roundw
             case rel =>
               go_light
               exact ⟨k + 1, by omega, by go_num, by rw [HI.out, HS.out, HE.out, typeOk_walk]; first | (simp [*, Hid]; done) | simp_all [Hid], _, rfl⟩
             case measure => simp [intOf]; omega)
      · have hf0 := Hnk (by simp [E])
        have hfn : f[k].toNat = 111 := by rw [E]; rfl
        have HE : Hid (f[k] = 111) := E
        clear Hnk Hm E
        go_wp2_with (go_at_call 113; refine (HT.out _ (by assumption) (by assumption) _).mono ?_; rintro e w' ⟨rfl, nf, rfl⟩)
        all_goals first
          | (go_ret
             go_light
             exact ⟨ret_bool (by rw [HI.out, HS.out, HE.out, typeOk_walk]; first | (simp [*]; done) | simp_all), _, rfl⟩)
          | (go_roundw
             case rel =>
               go_light
               exact ⟨k + 1, by omega, by go_num, by rw [HI.out, HS.out, HE.out, typeOk_walk]; first | (simp [*, Hid]; done) | simp_all [Hid], _, rfl⟩
             case measure => simp [intOf]; omega)
      · have hfn : f[k].toNat = 78 := by rw [E]; rfl
        have HE : Hid (f[k] = 78) := E
        clear Hnk Hm E
        go_wp2
        all_goals first
          | (go_ret
             go_light
             exact ⟨ret_bool (by rw [HI.out, HS.out, HE.out, typeOk_walk]; first | (simp [*]; done) | simp_all), _, rfl⟩)
          | (go_roundw
             case rel =>
               go_light
               exact ⟨k + 1, by omega, by go_num, by rw [HI.out, HS.out, HE.out, typeOk_walk]; first | (simp [*, Hid]; done) | simp_all [Hid], _, rfl⟩
             case measure => simp [intOf]; omega)
      · have hf0 := Hnk (by simp [E])
        have hfn : f[k].toNat = 100 := by rw [E]; rfl
        have HE : Hid (f[k] = 100) := E
        clear Hnk Hm E
        go_wp2_with (go_at_call 113; refine (HT.out _ (by assumption) (by assumption) _).mono ?_; rintro e w' ⟨rfl, nf, rfl⟩)
        all_goals first
          | (go_ret
             go_light
             exact ⟨ret_bool (by rw [HI.out, HS.out, HE.out, typeOk_walk]; first | (simp [*]; done) | simp_all), _, rfl⟩)
          | (go_roundw
             case rel =>
               go_light
               exact ⟨k + 1, by omega, by go_num, by rw [HI.out, HS.out, HE.out, typeOk_walk]; first | (simp [*, Hid]; done) | simp_all [Hid], _, rfl⟩
             case measure => simp [intOf]; omega)
      · have hfn : f[k].toNat = 102 := by rw [E]; rfl
        have HE : Hid (f[k] = 102) := E
        clear Hnk Hm E
        go_wp2
        all_goals first
          | (go_ret
             go_light
             exact ⟨ret_bool (by rw [HI.out, HS.out, HE.out, typeOk_walk]; first | (simp [*]; done) | simp_all), _, rfl⟩)
          | (go_roundw
             case rel =>
               go_light
               exact ⟨k + 1, by omega, by go_num, by rw [HI.out, HS.out, HE.out, typeOk_walk]; first | (simp [*, Hid]; done) | simp_all [Hid], _, rfl⟩
             case measure => simp [intOf]; omega)
      · have hfn : f[k].toNat = 118 := by rw [E]; rfl
        have HE : Hid (f[k] = 118) := E
        clear Hnk Hm E
        go_wp2
        all_goals first
          | (go_ret
             go_light
             exact ⟨ret_bool (by rw [HI.out, HS.out, HE.out, typeOk_walk]; first | (simp [*]; done) | simp_all), _, rfl⟩)
          | (go_roundw
             case rel =>
               go_light
               exact ⟨k + 1, by omega, by go_num, by rw [HI.out, HS.out, HE.out, typeOk_walk]; first | (simp [*, Hid]; done) | simp_all [Hid], _, rfl⟩
             case measure => simp [intOf]; omega)
    · go_wp2
      go_ret
      refine ⟨ret_bool ?_, n, rfl⟩
      rw [HI.out, List.drop_eq_nil_of_le (by omega)]; rfl
end Go.Proofs.YtmlgajhhnojdjaaGreatDoor.RefJ
/- What the document's own reader answers on the form of a line. Condition: the program lies in memory as it is kept. -/
namespace Go.Proofs.YtmlgajhhnojdjaaGreatDoor.RefK
open Go.RowKit Go.Proofs.YtmlgajhhnojdjaaGreatDoor.Spec Go.Proofs.YtmlgajhhnojdjaaGreatDoor.RefA Go.Proofs.YtmlgajhhnojdjaaGreatDoor.RefB Go.Proofs.YtmlgajhhnojdjaaGreatDoor.RefC Go.Proofs.YtmlgajhhnojdjaaGreatDoor.RefD Go.Proofs.YtmlgajhhnojdjaaGreatDoor.RefF Go.Proofs.YtmlgajhhnojdjaaGreatDoor.RefG Go.Proofs.YtmlgajhhnojdjaaGreatDoor.Aux

theorem form_let_eq (p : RP) (i : Nat) (h : word (p.line i) 0 = wLet) (h1 : (p.line i).length = 3) (h2 : ¬ 0 < p.blocks.length) (h3 : ¬ 12 ≤ p.lets.length) : p.form i = (isName (word (p.line i) 1) && (word (p.line i) 2 == [105, 110, 116] || word (p.line i) 2 == [98, 111, 120] || word (p.line i) 2 == [112, 97, 105, 114] || word (p.line i) 2 == [111, 112, 116])) := by
  rw [RP.form, if_pos h, if_neg (by omega)]; rfl
theorem form_let_no (p : RP) (i : Nat) (h : word (p.line i) 0 = wLet) (h1 : ¬ (p.line i).length = 3 ∨ 0 < p.blocks.length ∨ 12 ≤ p.lets.length) : p.form i = false := by
  rw [RP.form, if_pos h, if_pos (by omega)]

set_option maxRecDepth 20000 in
set_option maxHeartbeats 2000000 in
theorem form_let (p : RP) (a i : Nat) (w : World) (hp : ProgAt w a p) (hok : p.Ok) (hi : i < p.lines.length) (hlet : word (p.line i) 0 = wLet) :
    Calls Tryz.prog 68 #[.pointer (some ⟨a, 0, none⟩), .int .i64 i] w fun e w' => e = .returned (.bool (p.form i)) ∧ ∃ n, w' = w.drewN n := by
  have hsz := hok.size
  have hln := hok.letn
  have hbn := hok.blockn
  have hwide := hok.wide i
  obtain ⟨g, cap, gl, capl, hc1, hc1', hc2, hc2', hw⟩ := hp.line_at i hi
  have hwn := hok.words i hi
  have hw0 := hw 0 (by omega)
  obtain ⟨bl, cl, hlen⟩ := hp.lets_len
  obtain ⟨bb, cb, hlenb⟩ := hp.blocks_len
  have HW : Hid (word (p.line i) 0 = wLet) := hlet
  have hbl : (word (p.line i) 0 == [108, 101, 116]) = true := by rw [hlet]; rfl
  have hl1 : (word (p.line i) 1).length ≤ maxLen := Nat.le_trans (hok.long i 1) (by decide)
  clear hlet
  by_cases h3 : (p.line i).length = 3
  · by_cases hb : 0 < p.blocks.length
    · have HE : Hid (p.form i = false) := form_let_no p i HW.out (.inr (.inl hb))
      clear hw
      go_enter Tryz.func68, Tryz.ntmps68
      go_wp2_with (go_at_call 69; refine (inside_any p a i _ hp hok (by omega)).mono ?_; rintro e w' ⟨rfl, n, rfl⟩)
      go_ret
      exact ⟨ret_bool HE.out.symm, _, rfl⟩
    · by_cases hl : 12 ≤ p.lets.length
      · have HE : Hid (p.form i = false) := form_let_no p i HW.out (.inr (.inr hl))
        clear hw
        go_enter Tryz.func68, Tryz.ntmps68
        go_wp2_with (go_at_call 69; refine (inside_any p a i _ hp hok (by omega)).mono ?_; rintro e w' ⟨rfl, n, rfl⟩)
        go_ret
        exact ⟨ret_bool HE.out.symm, _, rfl⟩
      · have HE : Hid (_ = _) := form_let_eq p i HW.out h3 hb hl
        have hw1 := hw 1 (by omega)
        have hw2 := hw 2 (by omega)
        have h31 : (1 : Int) < (p.line i).length := by omega
        have h32 : (2 : Int) < (p.line i).length := by omega
        clear hw
        go_enter Tryz.func68, Tryz.ntmps68
        go_wp2_with (first
          | (go_at_call 69; refine (inside_any p a i _ hp hok (by omega)).mono ?_; rintro e w' ⟨rfl, n, rfl⟩)
          | (go_at_call 108; refine (isName_bs _ _ hl1).mono ?_; rintro e w' ⟨rfl, rfl⟩))
        all_goals
          go_ret
          refine ⟨ret_bool ?_, _, rfl⟩
          go_light
          rw [HE.out]
          first | (simp [*]; done) | simp_all
  · have HE : Hid (p.form i = false) := form_let_no p i HW.out (.inl h3)
    clear hw
    go_enter Tryz.func68, Tryz.ntmps68
    go_wp2_with (go_at_call 69; refine (inside_any p a i _ hp hok (by omega)).mono ?_; rintro e w' ⟨rfl, n, rfl⟩)
    go_ret
    exact ⟨ret_bool HE.out.symm, _, rfl⟩
end Go.Proofs.YtmlgajhhnojdjaaGreatDoor.RefK
/- What the document's own reader answers on the form of a line that is no let. Condition: the program lies in memory as it is kept. -/
namespace Go.Proofs.YtmlgajhhnojdjaaGreatDoor.RefL
open Go.RowKit Go.Proofs.YtmlgajhhnojdjaaGreatDoor.Spec Go.Proofs.YtmlgajhhnojdjaaGreatDoor.RefA Go.Proofs.YtmlgajhhnojdjaaGreatDoor.RefB Go.Proofs.YtmlgajhhnojdjaaGreatDoor.RefC Go.Proofs.YtmlgajhhnojdjaaGreatDoor.RefD Go.Proofs.YtmlgajhhnojdjaaGreatDoor.RefF Go.Proofs.YtmlgajhhnojdjaaGreatDoor.RefG Go.Proofs.YtmlgajhhnojdjaaGreatDoor.RefK Go.Proofs.YtmlgajhhnojdjaaGreatDoor.Aux

theorem form_block_eq (p : RP) (i : Nat) (h : word (p.line i) 0 = wBlock) : p.form i = (decide ((p.line i).length = 1) && !p.inside i && decide (0 < p.lets.length) && decide (p.blocks.length < if p.raw then 2000 else 20)) := by
  rw [RP.form, if_neg (by rw [h]; decide), if_pos h]

set_option maxRecDepth 20000 in
set_option maxHeartbeats 2000000 in
theorem form_block (p : RP) (a i : Nat) (w : World) (hp : ProgAt w a p) (hok : p.Ok) (hi : i < p.lines.length) (hblk : word (p.line i) 0 = wBlock) :
    Calls Tryz.prog 68 #[.pointer (some ⟨a, 0, none⟩), .int .i64 i] w fun e w' => e = .returned (.bool (p.form i)) ∧ ∃ n, w' = w.drewN n := by
  have hsz := hok.size
  have hln := hok.letn
  have hbn := hok.blockn
  have hwide := hok.wide i
  obtain ⟨g, cap, gl, capl, hc1, hc1', hc2, hc2', hw⟩ := hp.line_at i hi
  have hwn := hok.words i hi
  have hw0 := hw 0 (by omega)
  have hi3 : (0 : Int) < (p.line i).length := by omega
  obtain ⟨bl, cl, hlen⟩ := hp.lets_len
  obtain ⟨bb, cb, hlenb⟩ := hp.blocks_len
  have hraw := hp.raw
  have HE : Hid (_ = _) := form_block_eq p i hblk
  have hbl : (word (p.line i) 0 == [108, 101, 116]) = false := by rw [hblk]; rfl
  have hbb : (word (p.line i) 0 == [98, 108, 111, 99, 107]) = true := by rw [hblk]; rfl
  have HIN := inside_any p a i w hp hok (by omega)
  clear hblk hw
  cases hin : p.inside i <;> cases hr : p.raw
  all_goals
    rw [hin] at HIN
    rw [hr] at hraw
    have Hin : Hid (_ = _) := hin
    have Hr : Hid (_ = _) := hr
    clear hin hr
    go_enter Tryz.func68, Tryz.ntmps68
    go_wp2_with (go_at_call 69; refine HIN.mono ?_; rintro e w' ⟨rfl, n, rfl⟩)
    all_goals
      go_ret
      refine ⟨ret_bool ?_, _, rfl⟩
      go_light
      rw [HE.out, Hin.out, Hr.out, Bool.eq_iff_iff]
      simp
      try omega
theorem form_line_no (p : RP) (i : Nat) (h1 : ¬ word (p.line i) 0 = wLet) (h2 : ¬ word (p.line i) 0 = wBlock) (h : (behind (word (p.line i) 0) p.raw).2 = false ∨ p.inside i = false ∨ ¬ (p.line i).length = (behind (word (p.line i) 0) p.raw).1.length + 1) : p.form i = false := by
  rw [RP.form, if_neg h1, if_neg h2, if_pos h]
theorem form_line_eq (p : RP) (i : Nat) (h1 : ¬ word (p.line i) 0 = wLet) (h2 : ¬ word (p.line i) 0 = wBlock) (h : (behind (word (p.line i) 0) p.raw).2 = true) (h' : p.inside i = true) (h'' : (p.line i).length = (behind (word (p.line i) 0) p.raw).1.length + 1) : p.form i = formGo (behind (word (p.line i) 0) p.raw).1 ((p.line i).drop 1) := by
  rw [RP.form, if_neg h1, if_neg h2, if_neg]
  simp [h, h', h'']
set_option maxRecDepth 20000 in
set_option maxHeartbeats 2000000 in
theorem form_line (p : RP) (a i : Nat) (w : World) (hp : ProgAt w a p) (hok : p.Ok) (hi : i < p.lines.length) (hl : ¬ word (p.line i) 0 = wLet) (hb : ¬ word (p.line i) 0 = wBlock) :
    Calls Tryz.prog 68 #[.pointer (some ⟨a, 0, none⟩), .int .i64 i] w fun e w' => e = .returned (.bool (p.form i)) ∧ ∃ n, w' = w.drewN n := by
  have hsz := hok.size
  have hwide := hok.wide i
  have hlong := hok.long
  obtain ⟨g, cap, gl, capl, hc1, hc1', hc2, hc2', hw⟩ := hp.line_at i hi
  have hwn := hok.words i hi
  have hw0 := hw 0 (by omega)
  have hi3 : (0 : Int) < (p.line i).length := by omega
  have hraw := hp.raw
  have HN : Hid (∀ h : (behind (word (p.line i) 0) p.raw).2 = false ∨ p.inside i = false ∨ ¬ (p.line i).length = (behind (word (p.line i) 0) p.raw).1.length + 1, p.form i = false) := form_line_no p i hl hb
  have HE : Hid (∀ (h : (behind (word (p.line i) 0) p.raw).2 = true) (h' : p.inside i = true) (h'' : (p.line i).length = (behind (word (p.line i) 0) p.raw).1.length + 1), p.form i = formGo (behind (word (p.line i) 0) p.raw).1 ((p.line i).drop 1)) := form_line_eq p i hl hb
  have hbl : (word (p.line i) 0 == [108, 101, 116]) = false := by simpa [wLet] using hl
  have hbb : (word (p.line i) 0 == [98, 108, 111, 99, 107]) = false := by simpa [wBlock] using hb
  have HIN := inside_any p a i w hp hok (by omega)
  have HB : ∀ W, Calls Tryz.prog 87 #[.string (bs (word (p.line i) 0)), .bool p.raw] W fun e w' => e = .returned (.tuple #[.string (bs (behind (word (p.line i) 0) p.raw).1), .bool (behind (word (p.line i) 0) p.raw).2]) ∧ w' = W := fun W => behind_bs _ _ _
  have hb3 := behind_len (word (p.line i) 0) p.raw
  clear hl hb
  generalize (behind (word (p.line i) 0) p.raw).1 = f at *
  generalize (behind (word (p.line i) 0) p.raw).2 = ok at *
  generalize p.inside i = inn at *
  cases ok
  · have hx := HN.out (.inl rfl)
    clear HN HE
    go_enter Tryz.func68, Tryz.ntmps68
    go_wp2_with (go_at_call 69; refine HIN.mono ?_; rintro e w' ⟨rfl, n, rfl⟩)
    go_quiet ((go_at_call 87; exact (HB _).mono fun _ _ ⟨he, hm⟩ => ⟨he, _, hm⟩))
    go_wp2
    go_ret
    exact ⟨ret_bool hx.symm, _, rfl⟩
  cases inn
  · have hx := HN.out (.inr (.inl rfl))
    clear HN HE
    go_enter Tryz.func68, Tryz.ntmps68
    go_wp2_with (go_at_call 69; refine HIN.mono ?_; rintro e w' ⟨rfl, n, rfl⟩)
    go_quiet ((go_at_call 87; exact (HB _).mono fun _ _ ⟨he, hm⟩ => ⟨he, _, hm⟩))
    go_wp2
    go_ret
    exact ⟨ret_bool hx.symm, _, rfl⟩
  by_cases h3 : (p.line i).length = f.length + 1
  · have HX : Hid (_ = _) := HE.out rfl rfl h3
    clear HN HE
    go_enter Tryz.func68, Tryz.ntmps68
    go_wp2_with (go_at_call 69; refine HIN.mono ?_; rintro e w' ⟨rfl, n, rfl⟩)
    go_quiet ((go_at_call 87; exact (HB _).mono fun _ _ ⟨he, hm⟩ => ⟨he, _, hm⟩))
    go_wp2
    clear HB HIN
    go_loopw [12] (fun kk wr => ∃ k : Nat, k ≤ f.length ∧ kk = .int .i64 k ∧ Hid (p.form i = formGo (f.drop k) ((p.line i).drop (k + 1))) ∧ ∃ n, wr = w.drewN n) (fun kk _ => f.length - (intOf kk).toNat)
    case atStart => exact ⟨0, Nat.zero_le _, rfl, HX, _, rfl⟩
    case round =>
      obtain ⟨k, hk, rfl, HI, n, rfl⟩ := hrel
      by_cases hlt : k < f.length
      · have HS : Hid (_ = _) := formGo_step f (p.line i) k hlt
        have hwk := hw (k + 1) (by omega)
        have hlk : (word (p.line i) (k + 1)).length ≤ maxLen := Nat.le_trans (hlong i (k + 1)) (by decide)
        have hk3 : (k : Int) + 1 < (p.line i).length := by omega
        have hk5 : (k : Int) < f.length := by omega
        have HWD : ∀ W, Calls Tryz.prog 109 #[.int .u8 f[k].toNat, .string (bs (word (p.line i) (k + 1)))] W fun e w' => e = .returned (.bool (wordOf f[k] (word (p.line i) (k + 1)))) ∧ w' = W := fun W => wordOf_bs _ _ _ hlk
        clear hlong hw
        go_wp2
        go_quiet ((go_at_call 109; exact (HWD _).mono fun _ _ ⟨he, hm⟩ => ⟨he, _, hm⟩))
        go_wp2
        · go_ret
          go_light
          refine ⟨ret_bool ?_, _, rfl⟩
          rw [HI.out, HS.out]; simp_all
        · go_roundw
          case rel =>
            go_light
            exact ⟨k + 1, by omega, by go_num, by rw [HI.out, HS.out]; simp_all [Hid], _, rfl⟩
          case measure => simp [intOf]; omega
      · go_wp2
        go_ret
        refine ⟨ret_bool ?_, n, rfl⟩
        rw [HI.out, List.drop_eq_nil_of_le (by omega)]; rfl
  · have hx := HN.out (.inr (.inr h3))
    clear HN HE
    go_enter Tryz.func68, Tryz.ntmps68
    go_wp2_with (go_at_call 69; refine HIN.mono ?_; rintro e w' ⟨rfl, n, rfl⟩)
    go_quiet ((go_at_call 87; exact (HB _).mono fun _ _ ⟨he, hm⟩ => ⟨he, _, hm⟩))
    go_wp2
    go_ret
    exact ⟨ret_bool hx.symm, _, rfl⟩
theorem form_any (p : RP) (a i : Nat) (w : World) (hp : ProgAt w a p) (hok : p.Ok) (hi : i < p.lines.length) :
    Calls Tryz.prog 68 #[.pointer (some ⟨a, 0, none⟩), .int .i64 i] w fun e w' => e = .returned (.bool (p.form i)) ∧ ∃ n, w' = w.drewN n := by
  by_cases hl : word (p.line i) 0 = wLet
  · exact form_let p a i w hp hok hi hl
  by_cases hb : word (p.line i) 0 = wBlock
  · exact form_block p a i w hp hok hi hb
  · exact form_line p a i w hp hok hi hl hb
end Go.Proofs.YtmlgajhhnojdjaaGreatDoor.RefL
/- Names and types of a line whose form is right. Condition: the program lies in memory as it is kept. -/
namespace Go.Proofs.YtmlgajhhnojdjaaGreatDoor.RefN
open Go.RowKit Go.Proofs.YtmlgajhhnojdjaaGreatDoor.Spec Go.Proofs.YtmlgajhhnojdjaaGreatDoor.RefA Go.Proofs.YtmlgajhhnojdjaaGreatDoor.RefI Go.Proofs.YtmlgajhhnojdjaaGreatDoor.RefJ Go.Proofs.YtmlgajhhnojdjaaGreatDoor.Aux
theorem names_ok (p : RP) (a i : Nat) (w : World) (hp : ProgAt w a p) (hok : p.Ok) (hi : i < p.lines.length) (hl : p.LineOk i) :
    Calls Tryz.prog 70 #[.pointer (some ⟨a, 0, none⟩), .int .i64 i] w fun e w' => e = .returned (.bool (p.names i)) ∧ ∃ n, w' = w.drewN n := by
  unfold RP.LineOk at hl
  by_cases hlet : word (p.line i) 0 = wLet
  · rw [if_pos hlet] at hl
    exact names_let p a i w hp hok hi hlet hl.1 (RP.find_mem hl.2)
  · rw [if_neg hlet] at hl
    exact names_line p a i w hp hok hi hlet hl
theorem types_ok (p : RP) (a i : Nat) (w : World) (hp : ProgAt w a p) (hok : p.Ok) (hi : i < p.lines.length) (hl : p.LineOk i) (hlet : ¬ word (p.line i) 0 = wLet) (hn : p.names i = true) :
    Calls Tryz.prog 71 #[.pointer (some ⟨a, 0, none⟩), .int .i64 i] w fun e w' => e = .returned (.bool (p.types i)) ∧ ∃ n, w' = w.drewN n := by
  unfold RP.LineOk at hl
  rw [if_neg hlet] at hl
  exact types_any p a i w hp hok hi hl (fun k hk hc => RP.names_find hn hlet k hk hc) (fun hm => RP.names_m hn hlet hm)
end Go.Proofs.YtmlgajhhnojdjaaGreatDoor.RefN
