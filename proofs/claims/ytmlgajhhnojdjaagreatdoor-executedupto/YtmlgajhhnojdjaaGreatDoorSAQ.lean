/- What the document's own reader answers on a text that is parted at a byte. Condition: the text has at most 2^40 bytes. -/
import Derived.Test.YtmlgajhhnojdjaaGreatDoorSAP
import Derived.Test.YtmlgajhhnojdjaaGreatDoorSAA
import Derived.Test.YtmlgajhhnojdjaaGreatDoorSAG
import Derived.Deep.DeepMust
import Derived.Deep.QuietTactic
import Derived.BigQuiet
import Derived.Deep.Light
import Derived.Test.YtmlgajhhnojdjaaGreatDoorSAH
import Derived.Deep.DeepCutAuto
import Derived.Deep.LoopGhost
import Derived.Deep.MidRow
import Derived.Deep.RegionLaw
import Derived.Deep.RegionHeld3
import Derived.BigRegion
import Derived.Test.YtmlgajhhnojdjaaGreatDoorSAC
namespace Go.Proofs.YtmlgajhhnojdjaaGreatDoor.RefE
open Go.RowKit Go.Proofs.YtmlgajhhnojdjaaGreatDoor.Spec Go.Proofs.YtmlgajhhnojdjaaGreatDoor.RefA Go.Proofs.YtmlgajhhnojdjaaGreatDoor.Aux

theorem info_string : (Tryz.prog.info? 9).map (fun i => (i.zero, i.size, i.bytes)) = some (some (.string ⟨#[]⟩), 1, 16) := by kernel_rfl

set_option maxRecDepth 20000 in
set_option maxHeartbeats 1000000 in
theorem split_any (s : ByteArray) (c : UInt8) (w : World) (hs : s.size ≤ 1099511627776) :
    Calls Tryz.prog 67 #[.string s, .int .u8 c.toNat] w fun e w' => ∃ v, e = .returned v ∧ w'.ownsRow w.heap.size 9 1 v (split c s.toList).length (cellsOf (split c s.toList)) ∧ Below w.heap.size w w' := by
  obtain ⟨i, hi, hz0, hz1, hz2⟩ := info_parts info_string
  have HS : Hid (s.size ≤ 1099511627776) := hs
  replace hs : s.size ≤ 9223372036854775806 := by omega
  go_enter Tryz.func67, Tryz.ntmps67
  go_wp2
  go_loopw [5, 6, 7] (fun v fr i wr => ∃ (k f : Nat) (done : List B), f ≤ k ∧ k ≤ s.size + 1 ∧ i = .int .i64 k ∧ fr = .int .i64 f ∧ wr.ownsRow w.heap.size 9 1 v done.length (cellsOf done) ∧ Below w.heap.size w wr ∧ Hid (k ≤ s.size → Parted c s.toList done f k) ∧ Hid (k = s.size + 1 → split c s.toList = done)) (fun _ _ i _ => s.size + 1 - (intOf i).toNat)
  case atStart => exact ⟨0, 0, [], Nat.le_refl _, Nat.zero_le _, rfl, rfl, World.ownsRow_nil _ _ _ _, Below.refl _ _, fun _ => parted_start _ _, fun h => by omega⟩
  case round =>
    obtain ⟨k, f, done, hf, hk, rfl, rfl, hown, hb, H1, H2⟩ := hrel
    by_cases hle : k ≤ s.size
    · have hlen : Hid (done.length ≤ s.size) := by have := parted_length (H1.out hle); rwa [length_toList] at this
      have hsz := hb.size
      by_cases hlt : k < s.size
      · by_cases hc : s[k].toNat = c.toNat
        · have hcb : ((s[k].toNat : Int) == (c.toNat : Int)) = true := by simp [hc]
          have HC : Hid (s[k].toNat = c.toNat) := hc
          clear hc
          go_wp2_with (at_builtin; go_must (refine append_one rfl _ _ 34 rfl w.heap.size 9 i (.string ⟨#[]⟩) 16 Tryz.underlying34 hi hz0 hz1 hz2 rfl _ _ _ rfl hown _ rfl rfl (by decide) (by have := hlen.out; have := HS.out; omega) hsz ?_); intro v' w1 hown' hgrow)
          go_roundw
          case rel =>
            refine ⟨k + 1, k + 1, done ++ [(s.toList.drop f).take (k - f)], Nat.le_refl _, by omega, by go_num, by go_num, ?_, below_append hb (Nat.le_refl _) hsz hown hgrow, fun _ => ?_, fun h => ?_⟩
            · rw [extract_eq] at hown'; simpa [cellsOf] using hown'
            · exact parted_at (H1.out hle) (by rw [length_toList]; exact hlt) (by rw [← getElem_toList s k hlt]; exact UInt8.toNat_inj.mp HC.out)
            · omega
          case measure => simp [intOf]; omega
        · have hcb : ((s[k].toNat : Int) == (c.toNat : Int)) = false := by simp; omega
          have HC : Hid (¬ s[k].toNat = c.toNat) := hc
          clear hc
          go_wp2
          go_roundw
          case rel =>
            refine ⟨k + 1, f, done, by omega, by omega, by go_num, by go_num, hown, hb, fun _ => ?_, fun h => ?_⟩
            · exact parted_on (H1.out hle) hf (by rw [length_toList]; exact hlt) (by rw [← getElem_toList s k hlt]; exact fun e => HC.out (by rw [e]))
            · omega
          case measure => simp [intOf]; omega
      · obtain rfl : k = s.size := by omega
        go_wp2_with (at_builtin; refine append_one rfl _ _ 34 rfl w.heap.size 9 i (.string ⟨#[]⟩) 16 Tryz.underlying34 hi hz0 hz1 hz2 rfl _ _ _ rfl hown _ rfl rfl (by decide) (by have := hlen.out; have := HS.out; omega) hsz ?_; intro v' w1 hown' hgrow)
        go_roundw
        case rel =>
          refine ⟨s.size + 1, s.size + 1, done ++ [(s.toList.drop f).take (s.size - f)], Nat.le_refl _, by omega, by go_num, by go_num, ?_, below_append hb (Nat.le_refl _) hsz hown hgrow, fun _ => ?_, fun h => ?_⟩
          · rw [extract_eq] at hown'; simpa [cellsOf] using hown'
          · omega
          · exact parted_end (H1.out hle) (length_toList s).symm
        case measure => simp [intOf]
    · go_wp2
      go_ret
      have e := H2.out (by omega)
      exact ⟨_, rfl, by rw [e]; exact hown, hb⟩
theorem split_bs (l : B) (c : UInt8) (w : World) (h : l.length ≤ 1099511627776) :
    Calls Tryz.prog 67 #[.string (bs l), .int .u8 c.toNat] w fun e w' => ∃ v, e = .returned v ∧ w'.ownsRow w.heap.size 9 1 v (split c l).length (cellsOf (split c l)) ∧ Below w.heap.size w w' := by
  have := split_any (bs l) c w (by rw [size_bs]; exact h)
  rwa [toList_bs] at this
end Go.Proofs.YtmlgajhhnojdjaaGreatDoor.RefE
/- What the document's own reader answers on where a line stands and which local has a name. Condition: the program lies in memory as it is kept. -/
namespace Go.Proofs.YtmlgajhhnojdjaaGreatDoor.RefF
open Go.RowKit Go.Proofs.YtmlgajhhnojdjaaGreatDoor.Spec Go.Proofs.YtmlgajhhnojdjaaGreatDoor.RefA Go.Proofs.YtmlgajhhnojdjaaGreatDoor.Aux

theorem inside_succ (p : RP) (k : Nat) (hk : k < p.lines.length) : p.inside (k + 1) = if word (p.line k) 0 = wBlock then true else if ends (word (p.line k) 0) then false else p.inside k := by
  unfold RP.inside
  rw [List.take_add_one, List.getElem?_eq_getElem hk]
  have : p.line k = p.lines[k] := by simp [RP.line, hk]
  rw [this, Option.toList_some, List.reverse_append, List.reverse_singleton, List.singleton_append, insideR]

set_option maxRecDepth 20000 in
set_option maxHeartbeats 1000000 in
theorem inside_any (p : RP) (a i : Nat) (w : World) (hp : ProgAt w a p) (hok : p.Ok) (hi : i ≤ p.lines.length) :
    Calls Tryz.prog 69 #[.pointer (some ⟨a, 0, none⟩), .int .i64 i] w fun e w' => e = .returned (.bool (p.inside i)) ∧ ∃ n, w' = w.drewN n := by
  have hsz := hok.size
  go_enter Tryz.func69, Tryz.ntmps69
  go_wp2
  go_loopw [5] (fun kk wr => ∃ k : Nat, k ≤ i ∧ kk = .int .i64 ((k : Int) - 1) ∧ Hid (p.inside i = p.inside k) ∧ ∃ n, wr = w.drewN n) (fun kk _ => (intOf kk + 1).toNat)
  case atStart => exact ⟨i, Nat.le_refl _, by go_num, rfl, 0, rfl⟩
  case round =>
    obtain ⟨k, hk, rfl, HI, n, rfl⟩ := hrel
    by_cases h0 : k = 0
    · subst h0
      go_wp2
      go_ret
      exact ⟨ret_bool (by rw [HI.out]; rfl), n, rfl⟩
    · obtain ⟨k, rfl⟩ : ∃ j, k = j + 1 := ⟨k - 1, by omega⟩
      have hkl : k < p.lines.length := by omega
      obtain ⟨g, cap, gl, capl, hc1, hc1', hc2, hc2', hw⟩ := hp.line_at k hkl
      have hw1 := hok.words k hkl
      have hw0 := hw 0 (by omega)
      have HS : Hid (_ = _) := inside_succ p k hkl
      go_wp2_with (go_at_call 85; refine (ends_bs _ _).mono ?_; rintro e w' ⟨rfl, rfl⟩)
      · go_ret
        exact ⟨ret_bool (by rw [HI.out, HS.out, if_pos (by simpa using ‹(word (p.line k) 0 == _) = true›)]), n, rfl⟩
      · go_ret
        exact ⟨ret_bool (by rw [HI.out, HS.out, if_neg (by simpa using ‹(word (p.line k) 0 == _) = false›), if_pos ‹_›]), n, rfl⟩
      · go_roundw
        case rel => exact ⟨k, by omega, rfl, by rw [HI.out, HS.out, if_neg (by simpa using ‹(word (p.line k) 0 == _) = false›), if_neg (by simp [*])]; rfl, n, rfl⟩
        case measure => simp [intOf]
end Go.Proofs.YtmlgajhhnojdjaaGreatDoor.RefF
/- What the document's own reader answers on which local has a name. Condition: the program lies in memory as it is kept. -/
namespace Go.Proofs.YtmlgajhhnojdjaaGreatDoor.RefG
open Go.RowKit Go.Proofs.YtmlgajhhnojdjaaGreatDoor.Spec Go.Proofs.YtmlgajhhnojdjaaGreatDoor.RefA Go.Proofs.YtmlgajhhnojdjaaGreatDoor.Aux

theorem find_step (p : RP) (name : B) (k : Nat) (hk : k < p.lets.length) : p.findGo name (p.lets.drop k) k = if word (p.line (p.lets.getD k 0)) 1 = name then (k : Int) else p.findGo name (p.lets.drop (k + 1)) (k + 1) := by
  rw [List.drop_eq_getElem_cons hk, RP.findGo]
  have : p.lets.getD k 0 = p.lets[k] := by simp [hk]
  rw [this]

set_option maxRecDepth 20000 in
set_option maxHeartbeats 1000000 in
theorem find_any (p : RP) (a : Nat) (name : B) (w : World) (hp : ProgAt w a p) (hok : p.Ok) :
    Calls Tryz.prog 110 #[.pointer (some ⟨a, 0, none⟩), .string (bs name)] w fun e w' => e = .returned (.int .i64 (p.find name)) ∧ ∃ n, w' = w.drewN n := by
  have hsz := hok.size
  have hln := hok.letn
  obtain ⟨bl, cl, hlen⟩ := hp.lets_len
  go_enter Tryz.func110, Tryz.ntmps110
  go_wp2
  go_loopw [5] (fun kk wr => ∃ k : Nat, k ≤ p.lets.length ∧ kk = .int .i64 k ∧ Hid (p.find name = p.findGo name (p.lets.drop k) k) ∧ ∃ n, wr = w.drewN n) (fun kk _ => p.lets.length - (intOf kk).toNat)
  case atStart => exact ⟨0, Nat.zero_le _, rfl, rfl, 0, rfl⟩
  case round =>
    obtain ⟨k, hk, rfl, HI, n, rfl⟩ := hrel
    by_cases hlt : k < p.lets.length
    · clear hlen
      obtain ⟨gt, ct, ht1, ht1', ht2⟩ := hp.let_at k hlt
      have hmem : p.lets.getD k 0 ∈ p.lets := by simp [hlt]
      obtain ⟨hl1, hl2⟩ := hok.lets _ hmem
      have HS : Hid (_ = _) := find_step p name k hlt
      generalize p.lets.getD k 0 = t at *
      obtain ⟨g, cap, gl, capl, hc1, hc1', hc2, hc2', hw⟩ := hp.line_at t hl1
      have hw1 := hw 1 (by omega)
      have ht0 : (t : Int) < p.lines.length := by omega
      have ht3 : (1 : Int) < (p.line t).length := by omega
      go_wp2
      go_quiet (fail)
      go_wp2
      · go_ret
        refine ⟨ret_int ?_, n + nq, by simp⟩
        rw [HI.out, HS.out, if_pos (by simpa using ‹(word (p.line t) 1 == name) = true›)]
      · go_roundw
        case rel => exact ⟨k + 1, by omega, by go_num, by rw [HI.out, HS.out, if_neg (by simpa using ‹(word (p.line t) 1 == name) = false›)]; rfl, n + nq, rfl⟩
        case measure => simp [intOf]; omega
    · go_wp2
      go_ret
      refine ⟨ret_int ?_, n, rfl⟩
      rw [HI.out, List.drop_eq_nil_of_le (by omega)]; rfl
end Go.Proofs.YtmlgajhhnojdjaaGreatDoor.RefG
/- What the document's own reader answers on a place's type. Condition: the program lies in memory as it is kept, and the place's local is there. -/
namespace Go.Proofs.YtmlgajhhnojdjaaGreatDoor.RefH
open Go.RowKit Go.Proofs.YtmlgajhhnojdjaaGreatDoor.Spec Go.Proofs.YtmlgajhhnojdjaaGreatDoor.RefA Go.Proofs.YtmlgajhhnojdjaaGreatDoor.RefB Go.Proofs.YtmlgajhhnojdjaaGreatDoor.RefG Go.Proofs.YtmlgajhhnojdjaaGreatDoor.Aux

theorem u8_beq (k : UInt8) (n : Nat) (hn : n < 256) : ((k.toNat : Int) == (n : Int)) = decide (k = UInt8.ofNat n) := by
  rw [Bool.eq_iff_iff, decide_eq_true_eq, u8_eq k n hn]; simp; omega
theorem typeOf_nat (p : RP) (l : B) : p.typeOf l =
    if (((partOf l).toNat : Int) == 97) = true ∨ (((partOf l).toNat : Int) == 98) = true then (if (!(p.typeW l == [112, 97, 105, 114])) = true then [] else [98, 111, 120])
    else if (((partOf l).toNat : Int) == 115) = true then (if (!(p.typeW l == [111, 112, 116])) = true then [] else [98, 111, 120]) else p.typeW l := by
  have e1 := u8_beq (partOf l) 97 (by omega); have e2 := u8_beq (partOf l) 98 (by omega); have e3 := u8_beq (partOf l) 115 (by omega)
  simp only [Int.cast_ofNat_Int] at e1 e2 e3
  rw [e1, e2, e3]
  simp only [decide_eq_true_eq, RP.typeOf, wPair, wOpt, wBox, Bool.not_eq_true', beq_eq_false_iff_ne, ne_eq, ite_not]
  rfl

set_option maxRecDepth 20000 in
set_option maxHeartbeats 1000000 in
theorem typeOf_any (p : RP) (a : Nat) (l : B) (w : World) (hp : ProgAt w a p) (hok : p.Ok) (hl : l.length ≤ maxLen) (hf : 0 ≤ p.find (localOf l)) :
    Calls Tryz.prog 113 #[.pointer (some ⟨a, 0, none⟩), .string (bs l)] w fun e w' => e = .returned (.string (bs (p.typeOf l))) ∧ ∃ n, w' = w.drewN n := by
  obtain ⟨j, hj, hjl, _⟩ := RP.find_lt hf
  have HT : Hid (p.typeW l = word (p.line (p.lets.getD j 0)) 2) := by unfold Hid RP.typeW; rw [hj]; rfl
  have hsz := hok.size
  have hln := hok.letn
  obtain ⟨gt, ct, ht1, ht1', ht2⟩ := hp.let_at j hjl
  have hmem : p.lets.getD j 0 ∈ p.lets := by simp [hjl]
  obtain ⟨hl1, hl2⟩ := hok.lets _ hmem
  generalize p.lets.getD j 0 = t at *
  obtain ⟨g, cap, gl, capl, hc1, hc1', hc2, hc2', hw⟩ := hp.line_at t hl1
  have hw1 := hw 2 (by omega)
  have ht0 : (t : Int) < p.lines.length := by omega
  have ht3 : (2 : Int) < (p.line t).length := by omega
  have hj0 : (j : Int) < p.lets.length := by omega
  have HF : ∀ n, Calls Tryz.prog 110 #[.pointer (some ⟨a, 0, none⟩), .string (bs (localOf l))] (w.drewN n) fun e w' => e = .returned (.int .i64 j) ∧ ∃ m, w' = w.drewN m := fun n =>
    (find_any p a (localOf l) (w.drewN n) (hp.drewN n) hok).mono fun e w' ⟨he, m, hm⟩ => ⟨by rw [he, hj], n + m, by rw [hm]; simp⟩
  clear hj hf
  go_enter Tryz.func113, Tryz.ntmps113
  go_wp2
  go_quiet ((first | (go_at_call 111; exact Calls.quiet_of_same (local_bs l _ hl)) | (go_at_call 110; exact HF _)))
  go_wp2_with (go_at_call 159; refine (part_bs l _ hl).mono ?_; rintro e w' ⟨rfl, rfl⟩)
  all_goals
    go_ret
    refine ⟨ret_str ?_, _, rfl⟩
    go_light
    rw [typeOf_nat, HT.out]
    simp [bs, *]
end Go.Proofs.YtmlgajhhnojdjaaGreatDoor.RefH
/- What the document's own ways answer on letters and spots. Conditions: the strings' lengths; the program lies in memory as it is kept. -/
namespace Go.Proofs.YtmlgajhhnojdjaaGreatDoor.RefO
open Go.RowKit Go.Proofs.YtmlgajhhnojdjaaGreatDoor.Spec Go.Proofs.YtmlgajhhnojdjaaGreatDoor.RefA Go.Proofs.YtmlgajhhnojdjaaGreatDoor.RefG Go.Proofs.YtmlgajhhnojdjaaGreatDoor.RefH Go.Proofs.YtmlgajhhnojdjaaGreatDoor.Aux

theorem left_bs (l : B) (w : World) (h : l.length ≤ maxLen) :
    Calls Tryz.prog 140 #[.string (bs l)] w fun e w' => e = .returned (.string (bs (left l))) ∧ w' = w := by
  have e3 := u8_beq (partOf l) 115 (by omega)
  simp only [Int.cast_ofNat_Int] at e3
  have HE : Hid (_ = _) := e3
  clear e3
  go_enter Tryz.func140, Tryz.ntmps140
  go_wp2_with (go_at_call 159; refine (part_bs l _ h).mono ?_; rintro e w' ⟨rfl, rfl⟩)
  all_goals
    go_ret
    refine ⟨ret_str ?_, rfl⟩
    have hE := HE.out
    simp_all [left, bs]

theorem conv_one (w : World) (c : UInt8) : (convert 93 9 (.slice (some ⟨w.heap.size, 0, none⟩) 1 1)).run Tryz.prog (w.alloc (.cells #[.int .u8 (c.toNat : Int)] 5)) = .ok (.string (bs [c])) (w.alloc (.cells #[.int .u8 (c.toNat : Int)] 5)) := by
  rw [run_convert_bytes_string (e := 5) _ _ _ _ _ _ Tryz.underlying93 Tryz.underlying5 Tryz.underlying9]
  rw [run_bytesToString (P := Tryz.prog) _ ⟨w.heap.size, 0, none⟩ 1 1 [(c.toNat : Int)] (by go_simp)]
  simp [bs]
  rfl
end Go.Proofs.YtmlgajhhnojdjaaGreatDoor.RefO
/- What the document's own ways answer on spots and blocks. Conditions: the program lies in memory as it is kept; what is named is there. -/
namespace Go.Proofs.YtmlgajhhnojdjaaGreatDoor.RefP
open Go.RowKit Go.Proofs.YtmlgajhhnojdjaaGreatDoor.Spec Go.Proofs.YtmlgajhhnojdjaaGreatDoor.RefA Go.Proofs.YtmlgajhhnojdjaaGreatDoor.RefC Go.Proofs.YtmlgajhhnojdjaaGreatDoor.RefG Go.Proofs.YtmlgajhhnojdjaaGreatDoor.RefH Go.Proofs.YtmlgajhhnojdjaaGreatDoor.RefO Go.Proofs.YtmlgajhhnojdjaaGreatDoor.Aux

theorem ret_two {a b c d : Int} (h : a = c) (h' : b = d) : Ending.returned (.tuple #[.int .i64 a, .int .i64 b]) = .returned (.tuple #[.int .i64 c, .int .i64 d]) := by rw [h, h']
set_option maxRecDepth 20000 in
set_option maxHeartbeats 1000000 in
theorem spots_any (p : RP) (a : Nat) (l : B) (w : World) (hp : ProgAt w a p) (hok : p.Ok) (hl : l.length ≤ maxLen) (hf : 0 ≤ p.find (localOf l)) :
    Calls Tryz.prog 143 #[.pointer (some ⟨a, 0, none⟩), .string (bs l)] w fun e w' => e = .returned (.tuple #[.int .i64 ((p.spots l).1 : Int), .int .i64 ((p.spots l).2 : Int)]) ∧ ∃ n, w' = w.drewN n := by
  obtain ⟨j, hj, hjl, _⟩ := RP.find_lt hf
  have hln := hok.letn
  have HF : ∀ n, Calls Tryz.prog 110 #[.pointer (some ⟨a, 0, none⟩), .string (bs (localOf l))] (w.drewN n) fun e w' => e = .returned (.int .i64 j) ∧ ∃ m, w' = w.drewN m := fun n =>
    (find_any p a (localOf l) (w.drewN n) (hp.drewN n) hok).mono fun e w' ⟨he, m, hm⟩ => ⟨by rw [he, hj], n + m, by rw [hm]; simp⟩
  have HT : ∀ n, Calls Tryz.prog 113 #[.pointer (some ⟨a, 0, none⟩), .string (bs l)] (w.drewN n) fun e w' => e = .returned (.string (bs (p.typeOf l))) ∧ ∃ m, w' = w.drewN m := fun n =>
    (typeOf_any p a l (w.drewN n) (hp.drewN n) hok hl hf).mono fun e w' ⟨he, m, hm⟩ => ⟨he, n + m, by rw [hm]; simp⟩
  have HS : Hid (p.spots l = if partOf l = 98 then (2 * j + 1, 1) else if p.typeOf l = wPair then (2 * j, 2) else (2 * j, 1)) := by unfold Hid RP.spots; rw [hj]; rfl
  have e2 := u8_beq (partOf l) 98 (by omega)
  simp only [Int.cast_ofNat_Int] at e2
  have HE : Hid (_ = _) := e2
  clear hj hf e2
  obtain ⟨w0, rfl⟩ : ∃ w0 : World, w = w0.drewN 0 := ⟨w, rfl⟩
  go_enter Tryz.func143, Tryz.ntmps143
  go_wp2_with (first
    | (go_at_call 111; refine (local_bs l _ hl).mono ?_; rintro e w' ⟨rfl, rfl⟩)
    | (go_at_call 110; refine (HF _).mono ?_; rintro e w' ⟨rfl, n1, rfl⟩)
    | (go_at_call 159; refine (part_bs l _ hl).mono ?_; rintro e w' ⟨rfl, rfl⟩)
    | (go_at_call 113; refine (HT _).mono ?_; rintro e w' ⟨rfl, n2, rfl⟩))
  · go_ret2
    have hx : partOf l = 98 := by have h1 := HE.out; rw [‹(((partOf l).toNat : Int) == 98) = true›] at h1; simpa using h1.symm
    exact ⟨ret_two (by rw [HS.out, if_pos hx]; rfl) (by rw [HS.out, if_pos hx]; rfl), n1, by simp⟩
  · go_ret2
    have hx : ¬ partOf l = 98 := by have h1 := HE.out; rw [‹(((partOf l).toNat : Int) == 98) = false›] at h1; simpa using h1.symm
    have hy : p.typeOf l = wPair := by simpa [wPair] using ‹(p.typeOf l == _) = true›
    exact ⟨ret_two (by rw [HS.out, if_neg hx, if_pos hy]; rfl) (by rw [HS.out, if_neg hx, if_pos hy]; rfl), n2, by simp⟩
  · go_ret2
    have hx : ¬ partOf l = 98 := by have h1 := HE.out; rw [‹(((partOf l).toNat : Int) == 98) = false›] at h1; simpa using h1.symm
    have hy : ¬ p.typeOf l = wPair := by simpa [wPair] using ‹(p.typeOf l == _) = false›
    exact ⟨ret_two (by rw [HS.out, if_neg hx, if_neg hy]; rfl) (by rw [HS.out, if_neg hx, if_neg hy]; rfl), n2, by simp⟩

set_option maxRecDepth 20000 in
set_option maxHeartbeats 1000000 in
theorem block_any (p : RP) (a : Nat) (l : B) (n : Nat) (w : World) (hp : ProgAt w a p) (hok : p.Ok) (hl : l.length ≤ maxLen) (hn : number l = some (n : Int)) (hb : n < p.blocks.length) :
    Calls Tryz.prog 89 #[.pointer (some ⟨a, 0, none⟩), .string (bs l)] w fun e w' => e = .returned (.int .i64 (p.blocks.getD n 0)) ∧ ∃ m, w' = w.drewN m := by
  obtain ⟨g, c, h1, h1', h2⟩ := hp.block_at n hb
  have hbn := hok.blockn
  have HN := number_bs l w hl
  rw [hn] at HN
  have hb0 : (n : Int) < p.blocks.length := by omega
  clear hn
  go_enter Tryz.func89, Tryz.ntmps89
  go_wp2_with (go_at_call 112; refine HN.mono ?_; rintro e w' ⟨rfl, rfl⟩)
  go_ret
  exact ⟨ret_int (by simp [hb]), 0, rfl⟩
end Go.Proofs.YtmlgajhhnojdjaaGreatDoor.RefP
/- What the document's own ways answer on whether a place is there. Conditions: the program lies in memory as it is kept; the place's local is one of twelve. -/
namespace Go.Proofs.YtmlgajhhnojdjaaGreatDoor.RefQ
theorem hereRefQ : True := trivial
end Go.Proofs.YtmlgajhhnojdjaaGreatDoor.RefQ
/- Plain definitions: a place is in one way. -/
namespace Go.Proofs.YtmlgajhhnojdjaaGreatDoor.Spec
theorem hereSpecI : True := trivial
end Go.Proofs.YtmlgajhhnojdjaaGreatDoor.Spec
/- What the document's own ways make of a place that is in one way. Conditions: the program lies in memory as it is kept; the place's local is one of twelve. -/
namespace Go.Proofs.YtmlgajhhnojdjaaGreatDoor.RefR
theorem hereRefR : True := trivial
end Go.Proofs.YtmlgajhhnojdjaaGreatDoor.RefR
/- What the document's own ways answer on whether a place may be written. Conditions: the program lies in memory as it is kept; the place's local is one of twelve. -/
namespace Go.Proofs.YtmlgajhhnojdjaaGreatDoor.RefS
theorem hereRefS : True := trivial
end Go.Proofs.YtmlgajhhnojdjaaGreatDoor.RefS
/- Ways read and written whole, as rules for a walk: what is asked of the world stands behind a name. -/
namespace Go.Proofs.YtmlgajhhnojdjaaGreatDoor.Aux
theorem hereAuxG : True := trivial
end Go.Proofs.YtmlgajhhnojdjaaGreatDoor.Aux
/- What the document's own ways make of a move or a some. Conditions: the program lies in memory as it is kept; the locals are twelve at most; both places' locals are there. -/
namespace Go.Proofs.YtmlgajhhnojdjaaGreatDoor.RefT
theorem hereRefT : True := trivial
end Go.Proofs.YtmlgajhhnojdjaaGreatDoor.RefT
/- Plain definitions: what is there behind a line, and whether it needs what may not be there. -/
namespace Go.Proofs.YtmlgajhhnojdjaaGreatDoor.Spec
theorem hereSpecJ : True := trivial
end Go.Proofs.YtmlgajhhnojdjaaGreatDoor.Spec
/- Plain definitions: ways, with others besides; letters that ways may have. -/
namespace Go.Proofs.YtmlgajhhnojdjaaGreatDoor.Spec
open Go Go.Proofs.YtmlgajhhnojdjaaGreatDoor.Aux Go.Proofs.YtmlgajhhnojdjaaGreatDoor.RefS Go.Proofs.YtmlgajhhnojdjaaGreatDoor.RefT

/-- how many letters there are -/
def WS.count (s : WS) : Nat := (s.spots.map List.length).sum + if s.known then 1 else 0
end Go.Proofs.YtmlgajhhnojdjaaGreatDoor.Spec
/- Plain definitions: all ways at every line, gone through until nothing is added. -/
namespace Go.Proofs.YtmlgajhhnojdjaaGreatDoor.Spec
open Go Go.Proofs.YtmlgajhhnojdjaaGreatDoor.Aux Go.Proofs.YtmlgajhhnojdjaaGreatDoor.RefS Go.Proofs.YtmlgajhhnojdjaaGreatDoor.RefT

def RP.blockOf (p : RP) (w : B) : Nat := p.blocks.getD ((number w).getD 0).toNat 0
def wMatch : B := [109, 97, 116, 99, 104]
end Go.Proofs.YtmlgajhhnojdjaaGreatDoor.Spec
/- Plain facts: where the lines of a good program lead are lines. -/
namespace Go.Proofs.YtmlgajhhnojdjaaGreatDoor.Spec
open Go Go.Proofs.YtmlgajhhnojdjaaGreatDoor.Aux Go.Proofs.YtmlgajhhnojdjaaGreatDoor.RefS Go.Proofs.YtmlgajhhnojdjaaGreatDoor.RefT

theorem insideR_last (p : RP) (i : Nat) (hi : i < p.lines.length) : p.inside (i + 1) = if word (p.line i) 0 = wBlock then true else if ends (word (p.line i) 0) then false else p.inside i := by
  unfold RP.inside
  rw [List.take_add_one, List.getElem?_eq_getElem hi]
  have : p.line i = p.lines[i] := by simp [RP.line, hi]
  simp only [Option.toList_some, List.reverse_append, List.reverse_cons, List.reverse_nil, List.nil_append, List.cons_append, insideR, this]
theorem ReadOk.block_mem {text : B} {raw : Bool} {p : RP} (h : ReadOk text raw p) : ∃ b ∈ p.blocks, b < p.lines.length ∧ isBlock (p.line b) = true := by
  cases hb : p.blocks with
  | nil => exact absurd hb h.nonempty
  | cons b r =>
    have : b ∈ p.blocks := by rw [hb]; simp
    refine ⟨b, by simp, ?_⟩
    rw [h.pre.blocks] at this
    exact mem_whichAre this
theorem ReadOk.next {text : B} {raw : Bool} {p : RP} (h : ReadOk text raw p) (i : Nat) (hi : i < p.lines.length) (he : ends (word (p.line i) 0) = false) : i + 1 < p.lines.length := by
  by_cases hlast : i + 1 < p.lines.length
  · exact hlast
  · exfalso
    have hn : p.lines.length = i + 1 := by omega
    have hs := h.shut
    rw [hn, insideR_last p i hi] at hs
    by_cases hb : word (p.line i) 0 = wBlock
    · rw [if_pos hb] at hs; cases hs
    · rw [if_neg hb, he] at hs
      rcases h.pre.inb i hi with hl | hl
      · obtain ⟨b, h1, h2, h3⟩ := h.block_mem
        have := h.pre.first i hi hl b h1
        omega
      · rw [show isBlock (p.line i) = false by simp [isBlock, hb]] at hl
        simp [hl] at hs
theorem behind_N (w : B) (r : Bool) (k : Nat) (h : (behind w r).1.getD k 0 = 78) : k < (behind w r).1.length := by
  by_cases hk : k < (behind w r).1.length
  · exact hk
  · rw [List.getD_eq_getElem?_getD, List.getElem?_eq_none (by omega)] at h
    cases h
theorem RP.names_block {p : RP} {i : Nat} (h : p.names i = true) (hl : ¬ word (p.line i) 0 = wLet) (k : Nat) (hc : (behind (word (p.line i) 0) p.raw).1.getD k 0 = 78) : (number (word (p.line i) (k + 1))).getD 0 < p.blocks.length := by
  have hk := behind_N _ _ _ hc
  have := p.namesGo_at _ _ k hk (RP.names_go h hl)
  rw [word_drop] at this
  have e : (behind (word (p.line i) 0) p.raw).1[k] = 78 := by
    rw [List.getD_eq_getElem?_getD, List.getElem?_eq_getElem hk] at hc; simpa using hc
  rw [e, RP.nameOk, if_neg (by decide), if_pos rfl] at this
  simpa using this
theorem formGo_at : ∀ (f : B) (ws : List B) (k : Nat) (hk : k < f.length), formGo f ws = true → wordOf f[k] (word ws k) = true := by
  intro f
  induction f with
  | nil => intro ws k hk; simp at hk
  | cons c f ih =>
    intro ws k hk h
    rw [formGo, Bool.and_eq_true] at h
    cases k with
    | zero => exact h.1
    | succ k =>
      have := ih (ws.drop 1) k (by simpa using hk) h.2
      rw [word_drop] at this
      simpa using this
theorem lineForm_word {raw : Bool} {ws : List B} (h : lineForm raw ws = true) (hl : ¬ word ws 0 = wLet) (k : Nat) (hk : k < (behind (word ws 0) raw).1.length) : wordOf (behind (word ws 0) raw).1[k] (word ws (k + 1)) = true := by
  unfold lineForm at h
  rw [if_neg hl] at h
  by_cases hb : word ws 0 = wBlock
  · exfalso
    have : (behind (word ws 0) raw).1 = [] := by rw [hb]; cases raw <;> rfl
    rw [this] at hk; simp at hk
  · rw [if_neg hb] at h
    simp only [Bool.and_eq_true] at h
    have := formGo_at _ _ k hk h.2
    rwa [word_drop] at this
theorem lineForm_block {raw : Bool} {ws : List B} (h : lineForm raw ws = true) (hl : ¬ word ws 0 = wLet) (k : Nat) (hc : (behind (word ws 0) raw).1.getD k 0 = 78) : ∃ n : Nat, number (word ws (k + 1)) = some (n : Int) := by
  have hk := behind_N _ _ _ hc
  have := lineForm_word h hl k hk
  have e : (behind (word ws 0) raw).1[k] = 78 := by
    rw [List.getD_eq_getElem?_getD, List.getElem?_eq_getElem hk] at hc; simpa using hc
  rw [e, wordOf, if_neg (by decide), if_neg (by decide), if_neg (by decide), if_pos rfl] at this
  cases hn : number (word ws (k + 1)) with
  | none => rw [hn] at this; cases this
  | some n =>
    rw [hn] at this
    exact ⟨n.toNat, by simp only [decide_eq_true_eq] at this; rw [Int.toNat_of_nonneg this]⟩
theorem behind_let (r : Bool) : (behind wLet r).1 = [] := by cases r <;> rfl
theorem ReadOk.into {text : B} {raw : Bool} {p : RP} (h : ReadOk text raw p) (i : Nat) (hi : i < p.lines.length) (k : Nat) (hc : (behind (word (p.line i) 0) p.raw).1.getD k 0 = 78) : ∃ n : Nat, number (word (p.line i) (k + 1)) = some (n : Int) ∧ n < p.blocks.length ∧ p.blockOf (word (p.line i) (k + 1)) = p.blocks.getD n 0 ∧ p.blocks.getD n 0 < p.lines.length := by
  have hl : ¬ word (p.line i) 0 = wLet := by
    intro e
    rw [e, behind_let] at hc; cases hc
  obtain ⟨n, hn⟩ := lineForm_block (h.pre.form i hi) hl k hc
  have hb := RP.names_block (h.names i hi) hl k hc
  rw [hn] at hb
  have hb' : n < p.blocks.length := by simpa using hb
  refine ⟨n, hn, hb', by unfold RP.blockOf; rw [hn]; simp, ?_⟩
  have hm : p.blocks.getD n 0 ∈ p.blocks := by simp [hb']
  have hw := h.pre.blocks
  rw [hw] at hm ⊢
  exact (mem_whichAre hm).1
theorem ReadOk.first {text : B} {raw : Bool} {p : RP} (h : ReadOk text raw p) : 0 < p.blocks.length ∧ p.blocks.getD 0 0 < p.lines.length := by
  have h0 : 0 < p.blocks.length := List.length_pos_iff.mpr h.nonempty
  refine ⟨h0, ?_⟩
  have hm : p.blocks.getD 0 0 ∈ p.blocks := by simp [h0]
  have hw := h.pre.blocks
  rw [hw] at hm ⊢
  exact (mem_whichAre hm).1
end Go.Proofs.YtmlgajhhnojdjaaGreatDoor.Spec
/- Plain facts: what a line makes of the ways, spot by spot; ways that are settled are the least that are closed. -/
namespace Go.Proofs.YtmlgajhhnojdjaaGreatDoor.Spec
open Go Go.Proofs.YtmlgajhhnojdjaaGreatDoor.Aux Go.Proofs.YtmlgajhhnojdjaaGreatDoor.RefS Go.Proofs.YtmlgajhhnojdjaaGreatDoor.RefT

/-- a place whose local is there has its spots among the twenty-four -/
def RP.fits (p : RP) (l : B) : Prop := (p.spots l).1 + (p.spots l).2 ≤ 24
theorem RP.fits_of {p : RP} {l : B} (h : 0 ≤ p.find (localOf l)) (h12 : p.lets.length ≤ 12) : p.fits l := by
  obtain ⟨j, hj, hjl, _⟩ := RP.find_lt h
  have := (RP.spots_bound hj).1
  unfold RP.fits; omega
end Go.Proofs.YtmlgajhhnojdjaaGreatDoor.Spec
/- Plain facts: ways that are settled are closed, and the least ones that are. -/
namespace Go.Proofs.YtmlgajhhnojdjaaGreatDoor.Spec
theorem hereSpecP : True := trivial
end Go.Proofs.YtmlgajhhnojdjaaGreatDoor.Spec
/- Plain facts: of a program that was read whole, ways that are settled are closed, and the least ones that are. -/
namespace Go.Proofs.YtmlgajhhnojdjaaGreatDoor.Spec
theorem hereSpecQ : True := trivial
end Go.Proofs.YtmlgajhhnojdjaaGreatDoor.Spec
/- Plain facts: ways from block to block are the ways from line to line. -/
namespace Go.Proofs.YtmlgajhhnojdjaaGreatDoor.Spec
open Go Go.Proofs.YtmlgajhhnojdjaaGreatDoor.Aux Go.Proofs.YtmlgajhhnojdjaaGreatDoor.RefS Go.Proofs.YtmlgajhhnojdjaaGreatDoor.RefT

/-- how many blocks begin ahead of line i -/
def RP.cnt (p : RP) (i : Nat) : Nat := ((List.range i).filter fun j => isBlock (p.line j)).length
theorem RP.cnt_succ (p : RP) (i : Nat) : p.cnt (i + 1) = p.cnt i + if isBlock (p.line i) then 1 else 0 := by
  unfold RP.cnt
  rw [List.range_succ, List.filter_append, List.length_append]
  congr 1
  cases h : isBlock (p.line i) <;> simp [h]
theorem range_split (n b : Nat) (h : b < n) : ∃ r, List.range n = List.range b ++ b :: r := by
  obtain ⟨m, rfl⟩ : ∃ m, n = b + (m + 1) := ⟨n - b - 1, by omega⟩
  rw [List.range_add, List.range_succ_eq_map]
  exact ⟨List.map (fun x => b + x) (List.map Nat.succ (List.range m)), by simp only [List.map_cons, Nat.add_zero]⟩
theorem RP.blocks_at {p : RP} (hb : p.blocks = p.whichAre isBlock) {b : Nat} (h : b < p.lines.length) (hB : isBlock (p.line b) = true) : p.cnt b < p.blocks.length ∧ p.blocks.getD (p.cnt b) 0 = b := by
  obtain ⟨r, hr⟩ := range_split p.lines.length b h
  have e : p.blocks = ((List.range b).filter fun j => isBlock (p.line j)) ++ b :: r.filter fun j => isBlock (p.line j) := by
    rw [hb, RP.whichAre, hr, List.filter_append, List.filter_cons, if_pos hB]
  have hl : ((List.range b).filter fun j => isBlock (p.line j)).length = p.cnt b := rfl
  rw [e]
  constructor
  · simp [hl]
  · rw [List.getD_eq_getElem?_getD, List.getElem?_append_right (by omega), hl, Nat.sub_self]; rfl
theorem RP.blocks_mem {p : RP} (hb : p.blocks = p.whichAre isBlock) {m : Nat} (hm : m < p.blocks.length) : p.blocks.getD m 0 < p.lines.length ∧ isBlock (p.line (p.blocks.getD m 0)) = true ∧ p.cnt (p.blocks.getD m 0) = m := by
  have h1 : p.blocks.getD m 0 = p.blocks[m] := by simp [hm]
  have h2 : p.blocks.getD m 0 ∈ p.whichAre isBlock := by rw [← hb, h1]; exact List.getElem_mem _
  obtain ⟨h3, h4⟩ := mem_whichAre h2
  refine ⟨h3, h4, ?_⟩
  obtain ⟨h5, h6⟩ := RP.blocks_at hb h3 h4
  have hnd : p.blocks.Nodup := by
    rw [hb]; unfold RP.whichAre
    exact List.Pairwise.filter _ List.nodup_range
  have h7 : p.blocks[p.cnt (p.blocks.getD m 0)] = p.blocks[m] := by
    have : p.blocks.getD (p.cnt (p.blocks.getD m 0)) 0 = p.blocks[p.cnt (p.blocks.getD m 0)] := by rw [List.getD_eq_getElem?_getD (i := p.cnt _), List.getElem?_eq_getElem h5]; rfl
    rw [← this, h6, h1]
  exact (List.getElem_inj hnd).mp h7
/-- a line of a block's body -/
def RP.body (p : RP) (i : Nat) : Prop := i < p.lines.length ∧ isLet (p.line i) = false ∧ isBlock (p.line i) = false
theorem inside_cnt (p : RP) : ∀ i, i ≤ p.lines.length → p.inside i = true → 1 ≤ p.cnt i
  | 0, _, h => by simp [RP.inside, insideR] at h
  | i + 1, hi, h => by
    rw [insideR_last p i (by omega)] at h
    rw [p.cnt_succ]
    by_cases hb : word (p.line i) 0 = wBlock
    · have : isBlock (p.line i) = true := by simp [isBlock, hb]
      rw [this]; simp
    · rw [if_neg hb] at h
      split at h
      · cases h
      · have := inside_cnt p i (by omega) h; omega
section
variable {text : B} {raw : Bool} {p : RP}
theorem ReadOk.not_let (h : ReadOk text raw p) {i : Nat} (hi : i < p.lines.length) (hc : 1 ≤ p.cnt i) : isLet (p.line i) = false := by
  cases hl : isLet (p.line i)
  · rfl
  · exfalso
    unfold RP.cnt at hc
    obtain ⟨b, hb⟩ := List.exists_mem_of_length_pos (Nat.lt_of_lt_of_le Nat.zero_lt_one hc)
    simp only [List.mem_filter, List.mem_range] at hb
    have : b ∈ p.blocks := by rw [h.pre.blocks, RP.whichAre]; simp [hb.2]; omega
    have := h.pre.first i hi hl b this
    omega
theorem ReadOk.body_inside (h : ReadOk text raw p) {i : Nat} (hb : p.body i) : p.inside i = true ∧ 1 ≤ p.cnt i := by
  have : p.inside i = true := by
    rcases h.pre.inb i hb.1 with hl | hl
    · rw [hb.2.1] at hl; cases hl
    · rw [hl, hb.2.2]; rfl
  exact ⟨this, inside_cnt p i (Nat.le_of_lt hb.1) this⟩
/-- behind a block's line, or a statement, there is a line of a body -/
theorem ReadOk.next_body (h : ReadOk text raw p) {i : Nat} (hin : p.inside (i + 1) = true) (hn : i + 1 < p.lines.length) : p.body (i + 1) := by
  have hc := inside_cnt p (i + 1) (by omega) hin
  have hl := h.not_let hn hc
  refine ⟨hn, hl, ?_⟩
  rcases h.pre.inb (i + 1) hn with h1 | h1
  · rw [hl] at h1; cases h1
  · rw [hin] at h1; cases hb : isBlock (p.line (i + 1))
    · rfl
    · rw [hb] at h1; cases h1
theorem ends_block : ends wBlock = false := by decide
theorem ReadOk.behind_block (h : ReadOk text raw p) {i : Nat} (hi : i < p.lines.length) (hb : isBlock (p.line i) = true) : p.body (i + 1) := by
  have hw : word (p.line i) 0 = wBlock := by simpa [isBlock] using hb
  exact h.next_body (by rw [insideR_last p i hi, if_pos hw]) (h.next i hi (by rw [hw]; exact ends_block))
theorem ReadOk.behind_body (h : ReadOk text raw p) {i : Nat} (hb : p.body i) (he : ends (word (p.line i) 0) = false) : p.body (i + 1) := by
  have hw : ¬ word (p.line i) 0 = wBlock := by have := hb.2.2; simpa [isBlock] using this
  exact h.next_body (by rw [insideR_last p i hb.1, if_neg hw, he]; exact (h.body_inside hb).1) (h.next i hb.1 he)
end
/-- the block in which a line of a body stands -/
def RP.blk (p : RP) (i : Nat) : Nat := p.cnt i - 1
section
variable {text : B} {raw : Bool} {p : RP}
end
end Go.Proofs.YtmlgajhhnojdjaaGreatDoor.Spec
