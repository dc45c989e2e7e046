/- What the document's own reader answers on a line's first word: what stands behind it; and whether a word may stand for a kind. No conditions but the strings' lengths. -/
import Derived.Test.YtmlgajhhnojdjaaGreatDoorPAN
import Derived.Deep.Light
import Derived.Test.YtmlgajhhnojdjaaGreatDoorPAA
import Derived.Test.YtmlgajhhnojdjaaGreatDoorPAF
import Derived.Deep.DeepMust
import Derived.Deep.QuietTactic
import Derived.BigQuiet
namespace Go.Proofs.YtmlgajhhnojdjaaGreatDoor.RefD
open Go.RowKit Go.Proofs.YtmlgajhhnojdjaaGreatDoor.Spec Go.Proofs.YtmlgajhhnojdjaaGreatDoor.RefA Go.Proofs.YtmlgajhhnojdjaaGreatDoor.RefB Go.Proofs.YtmlgajhhnojdjaaGreatDoor.RefC

def known : List B := [[115, 101, 116], [97, 100, 100], [115, 117, 98], [109, 117, 108], [100, 105, 118], [105, 110], [111, 117, 116], [101, 110, 100], [110, 101, 119], [115, 116, 111, 114, 101], [108, 111, 97, 100], [109, 111, 118, 101], [110, 111, 110, 101], [115, 111, 109, 101], [103, 111, 116, 111], [105, 102], [109, 97, 116, 99, 104], [100, 114, 111, 112], [102, 114, 101, 101], [102, 108, 97, 103], [116, 101, 115, 116]]
theorem ret_beh {a b : ByteArray} {x y : Bool} (h : a = b) (h' : x = y) : Ending.returned (.tuple #[.string a, .bool x]) = .returned (.tuple #[.string b, .bool y]) := by rw [h, h']
theorem behind_not (l : B) (r : Bool) (h : l ∉ known) : behind l r = ([], false) := by
  simp only [known, List.mem_cons, List.not_mem_nil, or_false, not_or] at h
  simp [behind, h]

set_option maxHeartbeats 2000000 in
theorem behind_known (l : B) (r : Bool) (w : World) (h : l ∈ known) :
    Calls Tryz.prog 87 #[.string (bs l), .bool r] w fun e w' => e = .returned (.tuple #[.string (bs (behind l r).1), .bool (behind l r).2]) ∧ w' = w := by
  have ht := toList_bs l
  simp only [known, List.mem_cons, List.not_mem_nil, or_false] at h
  rcases h with rfl | rfl | rfl | rfl | rfl | rfl | rfl | rfl | rfl | rfl | rfl | rfl | rfl | rfl | rfl | rfl | rfl | rfl | rfl | rfl | rfl
  all_goals
    go_enter Tryz.func87, Tryz.ntmps87
    go_wp2
    go_ret2
    exact ⟨ret_beh (by simp [behind, bs]) (by simp [behind]), rfl⟩
set_option maxHeartbeats 2000000 in
theorem behind_other (l : B) (r : Bool) (w : World) (h : l ∉ known) :
    Calls Tryz.prog 87 #[.string (bs l), .bool r] w fun e w' => e = .returned (.tuple #[.string (bs (behind l r).1), .bool (behind l r).2]) ∧ w' = w := by
  have ht := toList_bs l
  rw [behind_not l r h]
  have h' : ∀ x ∈ known, (l == x) = false := fun x hx => beq_eq_false_iff_ne.mpr (fun e => h (e ▸ hx))
  clear h
  simp only [known, List.forall_mem_cons, List.not_mem_nil, false_implies, implies_true, and_true] at h'
  obtain ⟨h1, h2, h3, h4, h5, h6, h7, h8, h9, h10, h11, h12, h13, h14, h15, h16, h17, h18, h19, h20, h21⟩ := h'
  go_enter Tryz.func87, Tryz.ntmps87
  go_wp2
  go_ret2
  exact ⟨rfl, rfl⟩
theorem behind_bs (l : B) (r : Bool) (w : World) :
    Calls Tryz.prog 87 #[.string (bs l), .bool r] w fun e w' => e = .returned (.tuple #[.string (bs (behind l r).1), .bool (behind l r).2]) ∧ w' = w := by
  by_cases h : l ∈ known
  · exact behind_known l r w h
  · exact behind_other l r w h

theorem u8_beq (k : UInt8) (n : Nat) (hn : n < 256) : ((k.toNat : Int) == (n : Int)) = decide (k = UInt8.ofNat n) := by
  rw [Bool.eq_iff_iff, decide_eq_true_eq, u8_eq k n hn]; simp; omega
theorem wordOf_nat (k : UInt8) (l : B) : wordOf k l =
    if ((k.toNat : Int) == 105) = true ∨ ((k.toNat : Int) == 111) = true then isName l
    else if ((k.toNat : Int) == 112) = true ∨ ((k.toNat : Int) == 109) = true ∨ ((k.toNat : Int) == 100) = true then isPlace l
    else if ((k.toNat : Int) == 110) = true then (number l).isSome
    else if ((k.toNat : Int) == 78) = true then (number l).isSome && decide (0 ≤ (number l).getD 0)
    else if ((k.toNat : Int) == 102) = true then (number l).isSome && decide (0 ≤ (number l).getD 0) && decide ((number l).getD 0 < 50)
    else (number l).isSome && (decide ((number l).getD 0 = 0) || decide ((number l).getD 0 = 1)) := by
  have e := fun n hn => u8_beq k n hn
  have e1 := e 105 (by omega); have e2 := e 111 (by omega); have e3 := e 112 (by omega); have e4 := e 109 (by omega); have e5 := e 100 (by omega)
  have e6 := e 110 (by omega); have e7 := e 78 (by omega); have e8 := e 102 (by omega)
  simp only [Int.cast_ofNat_Int] at e1 e2 e3 e4 e5 e6 e7 e8
  rw [e1, e2, e3, e4, e5, e6, e7, e8]
  simp only [decide_eq_true_eq, wordOf]
  cases number l <;> rfl
theorem wordOf_bs (k : UInt8) (l : B) (w : World) (h : l.length ≤ maxLen) :
    Calls Tryz.prog 109 #[.int .u8 k.toNat, .string (bs l)] w fun e w' => e = .returned (.bool (wordOf k l)) ∧ w' = w := by
  go_enter Tryz.func109, Tryz.ntmps109
  go_wp2_with (first
    | (go_at_call 112; refine (number_bs l _ h).mono ?_; rintro e w' ⟨rfl, rfl⟩)
    | (go_at_call 108; refine (isName_bs _ _ h).mono ?_; rintro e w' ⟨rfl, rfl⟩)
    | (go_at_call 158; refine (isPlace_bs l _ h).mono ?_; rintro e w' ⟨rfl, rfl⟩))
  all_goals
    go_ret
    refine ⟨ret_bool ?_, rfl⟩
    go_light
    rw [wordOf_nat]
    first | (simp [*]; done) | (simp [*]; omega) | (rw [Bool.eq_iff_iff]; simp [*]; done) | (rw [Bool.eq_iff_iff]; simp [*]; omega)
end Go.Proofs.YtmlgajhhnojdjaaGreatDoor.RefD
/- What the document's own reader answers on a text that is parted at a byte. Condition: the text has at most 2^40 bytes. -/
namespace Go.Proofs.YtmlgajhhnojdjaaGreatDoor.RefE
open Go.RowKit Go.Proofs.YtmlgajhhnojdjaaGreatDoor.Spec Go.Proofs.YtmlgajhhnojdjaaGreatDoor.RefA Go.Proofs.YtmlgajhhnojdjaaGreatDoor.Aux

theorem info_string : (Tryz.prog.info? 9).map (fun i => (i.zero, i.size, i.bytes)) = some (some (.string ⟨#[]⟩), 1, 16) := by kernel_rfl

set_option maxRecDepth 20000 in
set_option maxHeartbeats 1000000 in
theorem split_any (s : ByteArray) (c : UInt8) (w : World) (hs : s.size ≤ 1099511627776) :
    Calls Tryz.prog 67 #[.string s, .int .u8 c.toNat] w fun e w' => ∃ v, e = .returned v ∧ w'.ownsRow w.heap.size 9 1 v (split c s.toList).length (cellsOf (split c s.toList)) ∧ Below w.heap.size w w' := by
  obtain ⟨i, hi, hz0, hz1, hz2⟩ := info_parts info_string
  have HS : Hid (s.size ≤ 1099511627776) := hs
  replace hs : s.size ≤ 9223372036854775806 := by omega
  go_enter Tryz.func67, Tryz.ntmps67
  go_wp2
  go_loopw [5, 6, 7] (fun v fr i wr => ∃ (k f : Nat) (done : List B), f ≤ k ∧ k ≤ s.size + 1 ∧ i = .int .i64 k ∧ fr = .int .i64 f ∧ wr.ownsRow w.heap.size 9 1 v done.length (cellsOf done) ∧ Below w.heap.size w wr ∧ Hid (k ≤ s.size → Parted c s.toList done f k) ∧ Hid (k = s.size + 1 → split c s.toList = done)) (fun _ _ i _ => s.size + 1 - (intOf i).toNat)
  case atStart => exact ⟨0, 0, [], Nat.le_refl _, Nat.zero_le _, rfl, rfl, World.ownsRow_nil _ _ _ _, Below.refl _ _, fun _ => parted_start _ _, fun h => by omega⟩
  case round =>
    obtain ⟨k, f, done, hf, hk, rfl, rfl, hown, hb, H1, H2⟩ := hrel
    by_cases hle : k ≤ s.size
    · have hlen : Hid (done.length ≤ s.size) := by have := parted_length (H1.out hle); rwa [length_toList] at this
      have hsz := hb.size
      by_cases hlt : k < s.size
      · by_cases hc : s[k].toNat = c.toNat
        · have hcb : ((s[k].toNat : Int) == (c.toNat : Int)) = true := by simp [hc]
          have HC : Hid (s[k].toNat = c.toNat) := hc
          clear hc
          go_wp2_with (at_builtin; go_must (refine append_one rfl _ _ 34 rfl w.heap.size 9 i (.string ⟨#[]⟩) 16 Tryz.underlying34 hi hz0 hz1 hz2 rfl _ _ _ rfl hown _ rfl rfl (by decide) (by have := hlen.out; have := HS.out; omega) hsz ?_); intro v' w1 hown' hgrow)
          go_roundw
          case rel =>
            refine ⟨k + 1, k + 1, done ++ [(s.toList.drop f).take (k - f)], Nat.le_refl _, by omega, by go_num, by go_num, ?_, below_append hb (Nat.le_refl _) hsz hown hgrow, fun _ => ?_, fun h => ?_⟩
            · rw [extract_eq] at hown'; simpa [cellsOf] using hown'
            · exact parted_at (H1.out hle) (by rw [length_toList]; exact hlt) (by rw [← getElem_toList s k hlt]; exact UInt8.toNat_inj.mp HC.out)
            · omega
          case measure => simp [intOf]; omega
        · have hcb : ((s[k].toNat : Int) == (c.toNat : Int)) = false := by simp; omega
          have HC : Hid (¬ s[k].toNat = c.toNat) := hc
          clear hc
          go_wp2
          go_roundw
          case rel =>
            refine ⟨k + 1, f, done, by omega, by omega, by go_num, by go_num, hown, hb, fun _ => ?_, fun h => ?_⟩
            · exact parted_on (H1.out hle) hf (by rw [length_toList]; exact hlt) (by rw [← getElem_toList s k hlt]; exact fun e => HC.out (by rw [e]))
            · omega
          case measure => simp [intOf]; omega
      · obtain rfl : k = s.size := by omega
        go_wp2_with (at_builtin; refine append_one rfl _ _ 34 rfl w.heap.size 9 i (.string ⟨#[]⟩) 16 Tryz.underlying34 hi hz0 hz1 hz2 rfl _ _ _ rfl hown _ rfl rfl (by decide) (by have := hlen.out; have := HS.out; omega) hsz ?_; intro v' w1 hown' hgrow)
        go_roundw
        case rel =>
          refine ⟨s.size + 1, s.size + 1, done ++ [(s.toList.drop f).take (s.size - f)], Nat.le_refl _, by omega, by go_num, by go_num, ?_, below_append hb (Nat.le_refl _) hsz hown hgrow, fun _ => ?_, fun h => ?_⟩
          · rw [extract_eq] at hown'; simpa [cellsOf] using hown'
          · omega
          · exact parted_end (H1.out hle) (length_toList s).symm
        case measure => simp [intOf]
    · go_wp2
      go_ret
      have e := H2.out (by omega)
      exact ⟨_, rfl, by rw [e]; exact hown, hb⟩
theorem split_bs (l : B) (c : UInt8) (w : World) (h : l.length ≤ 1099511627776) :
    Calls Tryz.prog 67 #[.string (bs l), .int .u8 c.toNat] w fun e w' => ∃ v, e = .returned v ∧ w'.ownsRow w.heap.size 9 1 v (split c l).length (cellsOf (split c l)) ∧ Below w.heap.size w w' := by
  have := split_any (bs l) c w (by rw [size_bs]; exact h)
  rwa [toList_bs] at this
end Go.Proofs.YtmlgajhhnojdjaaGreatDoor.RefE
/- What the document's own reader answers on where a line stands and which local has a name. Condition: the program lies in memory as it is kept. -/
namespace Go.Proofs.YtmlgajhhnojdjaaGreatDoor.RefF
open Go.RowKit Go.Proofs.YtmlgajhhnojdjaaGreatDoor.Spec Go.Proofs.YtmlgajhhnojdjaaGreatDoor.RefA Go.Proofs.YtmlgajhhnojdjaaGreatDoor.Aux

theorem inside_succ (p : RP) (k : Nat) (hk : k < p.lines.length) : p.inside (k + 1) = if word (p.line k) 0 = wBlock then true else if ends (word (p.line k) 0) then false else p.inside k := by
  unfold RP.inside
  rw [List.take_add_one, List.getElem?_eq_getElem hk]
  have : p.line k = p.lines[k] := by simp [RP.line, hk]
  rw [this, Option.toList_some, List.reverse_append, List.reverse_singleton, List.singleton_append, insideR]

set_option maxRecDepth 20000 in
set_option maxHeartbeats 1000000 in
theorem inside_any (p : RP) (a i : Nat) (w : World) (hp : ProgAt w a p) (hok : p.Ok) (hi : i ≤ p.lines.length) :
    Calls Tryz.prog 69 #[.pointer (some ⟨a, 0, none⟩), .int .i64 i] w fun e w' => e = .returned (.bool (p.inside i)) ∧ ∃ n, w' = w.drewN n := by
  have hsz := hok.size
  go_enter Tryz.func69, Tryz.ntmps69
  go_wp2
  go_loopw [5] (fun kk wr => ∃ k : Nat, k ≤ i ∧ kk = .int .i64 ((k : Int) - 1) ∧ Hid (p.inside i = p.inside k) ∧ ∃ n, wr = w.drewN n) (fun kk _ => (intOf kk + 1).toNat)
  case atStart => exact ⟨i, Nat.le_refl _, by go_num, rfl, 0, rfl⟩
  case round =>
    obtain ⟨k, hk, rfl, HI, n, rfl⟩ := hrel
    by_cases h0 : k = 0
    · subst h0
      go_wp2
      go_ret
      exact ⟨ret_bool (by rw [HI.out]; rfl), n, rfl⟩
    · obtain ⟨k, rfl⟩ : ∃ j, k = j + 1 := ⟨k - 1, by omega⟩
      have hkl : k < p.lines.length := by omega
      obtain ⟨g, cap, gl, capl, hc1, hc1', hc2, hc2', hw⟩ := hp.line_at k hkl
      have hw1 := hok.words k hkl
      have hw0 := hw 0 (by omega)
      have HS : Hid (_ = _) := inside_succ p k hkl
      go_wp2_with (go_at_call 85; refine (ends_bs _ _).mono ?_; rintro e w' ⟨rfl, rfl⟩)
      · go_ret
        exact ⟨ret_bool (by rw [HI.out, HS.out, if_pos (by simpa using ‹(word (p.line k) 0 == _) = true›)]), n, rfl⟩
      · go_ret
        exact ⟨ret_bool (by rw [HI.out, HS.out, if_neg (by simpa using ‹(word (p.line k) 0 == _) = false›), if_pos ‹_›]), n, rfl⟩
      · go_roundw
        case rel => exact ⟨k, by omega, rfl, by rw [HI.out, HS.out, if_neg (by simpa using ‹(word (p.line k) 0 == _) = false›), if_neg (by simp [*])]; rfl, n, rfl⟩
        case measure => simp [intOf]
end Go.Proofs.YtmlgajhhnojdjaaGreatDoor.RefF
/- What the document's own reader answers on which local has a name. Condition: the program lies in memory as it is kept. -/
namespace Go.Proofs.YtmlgajhhnojdjaaGreatDoor.RefG
open Go.RowKit Go.Proofs.YtmlgajhhnojdjaaGreatDoor.Spec Go.Proofs.YtmlgajhhnojdjaaGreatDoor.RefA Go.Proofs.YtmlgajhhnojdjaaGreatDoor.Aux

theorem find_step (p : RP) (name : B) (k : Nat) (hk : k < p.lets.length) : p.findGo name (p.lets.drop k) k = if word (p.line (p.lets.getD k 0)) 1 = name then (k : Int) else p.findGo name (p.lets.drop (k + 1)) (k + 1) := by
  rw [List.drop_eq_getElem_cons hk, RP.findGo]
  have : p.lets.getD k 0 = p.lets[k] := by simp [hk]
  rw [this]

set_option maxRecDepth 20000 in
set_option maxHeartbeats 1000000 in
theorem find_any (p : RP) (a : Nat) (name : B) (w : World) (hp : ProgAt w a p) (hok : p.Ok) :
    Calls Tryz.prog 110 #[.pointer (some ⟨a, 0, none⟩), .string (bs name)] w fun e w' => e = .returned (.int .i64 (p.find name)) ∧ ∃ n, w' = w.drewN n := by
  have hsz := hok.size
  have hln := hok.letn
  obtain ⟨bl, cl, hlen⟩ := hp.lets_len
  go_enter Tryz.func110, Tryz.ntmps110
  go_wp2
  go_loopw [5] (fun kk wr => ∃ k : Nat, k ≤ p.lets.length ∧ kk = .int .i64 k ∧ Hid (p.find name = p.findGo name (p.lets.drop k) k) ∧ ∃ n, wr = w.drewN n) (fun kk _ => p.lets.length - (intOf kk).toNat)
  case atStart => exact ⟨0, Nat.zero_le _, rfl, rfl, 0, rfl⟩
  case round =>
    obtain ⟨k, hk, rfl, HI, n, rfl⟩ := hrel
    by_cases hlt : k < p.lets.length
    · clear hlen
      obtain ⟨gt, ct, ht1, ht1', ht2⟩ := hp.let_at k hlt
      have hmem : p.lets.getD k 0 ∈ p.lets := by simp [hlt]
      obtain ⟨hl1, hl2⟩ := hok.lets _ hmem
      have HS : Hid (_ = _) := find_step p name k hlt
      generalize p.lets.getD k 0 = t at *
      obtain ⟨g, cap, gl, capl, hc1, hc1', hc2, hc2', hw⟩ := hp.line_at t hl1
      have hw1 := hw 1 (by omega)
      have ht0 : (t : Int) < p.lines.length := by omega
      have ht3 : (1 : Int) < (p.line t).length := by omega
      go_wp2
      go_quiet (fail)
      go_wp2
      · go_ret
        refine ⟨ret_int ?_, n + nq, by simp⟩
        rw [HI.out, HS.out, if_pos (by simpa using ‹(word (p.line t) 1 == name) = true›)]
      · go_roundw
        case rel => exact ⟨k + 1, by omega, by go_num, by rw [HI.out, HS.out, if_neg (by simpa using ‹(word (p.line t) 1 == name) = false›)]; rfl, n + nq, rfl⟩
        case measure => simp [intOf]; omega
    · go_wp2
      go_ret
      refine ⟨ret_int ?_, n, rfl⟩
      rw [HI.out, List.drop_eq_nil_of_le (by omega)]; rfl
end Go.Proofs.YtmlgajhhnojdjaaGreatDoor.RefG
/- What the document's own reader answers on a place's type. Condition: the program lies in memory as it is kept, and the place's local is there. -/
namespace Go.Proofs.YtmlgajhhnojdjaaGreatDoor.RefH
open Go.RowKit Go.Proofs.YtmlgajhhnojdjaaGreatDoor.Spec Go.Proofs.YtmlgajhhnojdjaaGreatDoor.RefA Go.Proofs.YtmlgajhhnojdjaaGreatDoor.RefB Go.Proofs.YtmlgajhhnojdjaaGreatDoor.RefG Go.Proofs.YtmlgajhhnojdjaaGreatDoor.Aux

theorem u8_beq (k : UInt8) (n : Nat) (hn : n < 256) : ((k.toNat : Int) == (n : Int)) = decide (k = UInt8.ofNat n) := by
  rw [Bool.eq_iff_iff, decide_eq_true_eq, u8_eq k n hn]; simp; omega
theorem typeOf_nat (p : RP) (l : B) : p.typeOf l =
    if (((partOf l).toNat : Int) == 97) = true ∨ (((partOf l).toNat : Int) == 98) = true then (if (!(p.typeW l == [112, 97, 105, 114])) = true then [] else [98, 111, 120])
    else if (((partOf l).toNat : Int) == 115) = true then (if (!(p.typeW l == [111, 112, 116])) = true then [] else [98, 111, 120]) else p.typeW l := by
  have e1 := u8_beq (partOf l) 97 (by omega); have e2 := u8_beq (partOf l) 98 (by omega); have e3 := u8_beq (partOf l) 115 (by omega)
  simp only [Int.cast_ofNat_Int] at e1 e2 e3
  rw [e1, e2, e3]
  simp only [decide_eq_true_eq, RP.typeOf, wPair, wOpt, wBox, Bool.not_eq_true', beq_eq_false_iff_ne, ne_eq, ite_not]
  rfl

set_option maxRecDepth 20000 in
set_option maxHeartbeats 1000000 in
theorem typeOf_any (p : RP) (a : Nat) (l : B) (w : World) (hp : ProgAt w a p) (hok : p.Ok) (hl : l.length ≤ maxLen) (hf : 0 ≤ p.find (localOf l)) :
    Calls Tryz.prog 113 #[.pointer (some ⟨a, 0, none⟩), .string (bs l)] w fun e w' => e = .returned (.string (bs (p.typeOf l))) ∧ ∃ n, w' = w.drewN n := by
  obtain ⟨j, hj, hjl, _⟩ := RP.find_lt hf
  have HT : Hid (p.typeW l = word (p.line (p.lets.getD j 0)) 2) := by unfold Hid RP.typeW; rw [hj]; rfl
  have hsz := hok.size
  have hln := hok.letn
  obtain ⟨gt, ct, ht1, ht1', ht2⟩ := hp.let_at j hjl
  have hmem : p.lets.getD j 0 ∈ p.lets := by simp [hjl]
  obtain ⟨hl1, hl2⟩ := hok.lets _ hmem
  generalize p.lets.getD j 0 = t at *
  obtain ⟨g, cap, gl, capl, hc1, hc1', hc2, hc2', hw⟩ := hp.line_at t hl1
  have hw1 := hw 2 (by omega)
  have ht0 : (t : Int) < p.lines.length := by omega
  have ht3 : (2 : Int) < (p.line t).length := by omega
  have hj0 : (j : Int) < p.lets.length := by omega
  have HF : ∀ n, Calls Tryz.prog 110 #[.pointer (some ⟨a, 0, none⟩), .string (bs (localOf l))] (w.drewN n) fun e w' => e = .returned (.int .i64 j) ∧ ∃ m, w' = w.drewN m := fun n =>
    (find_any p a (localOf l) (w.drewN n) (hp.drewN n) hok).mono fun e w' ⟨he, m, hm⟩ => ⟨by rw [he, hj], n + m, by rw [hm]; simp⟩
  clear hj hf
  go_enter Tryz.func113, Tryz.ntmps113
  go_wp2
  go_quiet ((first | (go_at_call 111; exact Calls.quiet_of_same (local_bs l _ hl)) | (go_at_call 110; exact HF _)))
  go_wp2_with (go_at_call 159; refine (part_bs l _ hl).mono ?_; rintro e w' ⟨rfl, rfl⟩)
  all_goals
    go_ret
    refine ⟨ret_str ?_, _, rfl⟩
    go_light
    rw [typeOf_nat, HT.out]
    simp [bs, *]
end Go.Proofs.YtmlgajhhnojdjaaGreatDoor.RefH
/- What the document's own reader answers on what a line names. Condition: the program lies in memory as it is kept, and the line's form is right. -/
namespace Go.Proofs.YtmlgajhhnojdjaaGreatDoor.RefI
open Go.RowKit Go.Proofs.YtmlgajhhnojdjaaGreatDoor.Spec Go.Proofs.YtmlgajhhnojdjaaGreatDoor.RefA Go.Proofs.YtmlgajhhnojdjaaGreatDoor.RefB Go.Proofs.YtmlgajhhnojdjaaGreatDoor.RefC Go.Proofs.YtmlgajhhnojdjaaGreatDoor.RefD Go.Proofs.YtmlgajhhnojdjaaGreatDoor.RefG Go.Proofs.YtmlgajhhnojdjaaGreatDoor.Aux

theorem nameOk_nat (p : RP) (c : UInt8) (w : B) : p.nameOk c w =
    if ((c.toNat : Int) == 105) = true ∨ ((c.toNat : Int) == 111) = true ∨ ((c.toNat : Int) == 112) = true ∨ ((c.toNat : Int) == 109) = true ∨ ((c.toNat : Int) == 100) = true then decide (0 ≤ p.find (localOf w))
    else if ((c.toNat : Int) == 78) = true then decide ((number w).getD 0 < p.blocks.length) else true := by
  have e := fun n hn => u8_beq c n hn
  have e1 := e 105 (by omega); have e2 := e 111 (by omega); have e3 := e 112 (by omega); have e4 := e 109 (by omega); have e5 := e 100 (by omega); have e6 := e 78 (by omega)
  simp only [Int.cast_ofNat_Int] at e1 e2 e3 e4 e5 e6
  rw [e1, e2, e3, e4, e5, e6]
  simp only [decide_eq_true_eq, RP.nameOk]
  rfl

set_option maxRecDepth 20000 in
set_option maxHeartbeats 1000000 in
theorem names_let (p : RP) (a i : Nat) (w : World) (hp : ProgAt w a p) (hok : p.Ok) (hi : i < p.lines.length) (hlet : word (p.line i) 0 = wLet) (h3 : (p.line i).length = 3) (hf : 0 ≤ p.find (word (p.line i) 1)) :
    Calls Tryz.prog 70 #[.pointer (some ⟨a, 0, none⟩), .int .i64 i] w fun e w' => e = .returned (.bool (p.names i)) ∧ ∃ n, w' = w.drewN n := by
  obtain ⟨j, hj, hjl, _⟩ := RP.find_lt hf
  have HN : Hid (p.names i = decide (p.lets.getD j 0 = i)) := by unfold Hid RP.names; rw [if_pos hlet, hj]; rfl
  have hsz := hok.size
  have hln := hok.letn
  obtain ⟨gt, ct, ht1, ht1', ht2⟩ := hp.let_at j hjl
  generalize p.lets.getD j 0 = t at *
  obtain ⟨g, cap, gl, capl, hc1, hc1', hc2, hc2', hw⟩ := hp.line_at i hi
  have hw0 := hw 0 (by omega)
  have hw1 := hw 1 (by omega)
  have hj0 : (j : Int) < p.lets.length := by omega
  have hi3 : (1 : Int) < (p.line i).length := by omega
  have HF : ∀ n, Calls Tryz.prog 110 #[.pointer (some ⟨a, 0, none⟩), .string (bs (word (p.line i) 1))] (w.drewN n) fun e w' => e = .returned (.int .i64 j) ∧ ∃ m, w' = w.drewN m := fun n =>
    (find_any p a _ (w.drewN n) (hp.drewN n) hok).mono fun e w' ⟨he, m, hm⟩ => ⟨by rw [he, hj], n + m, by rw [hm]; simp⟩
  have hbl : (word (p.line i) 0 == [108, 101, 116]) = true := by rw [hlet]; rfl
  clear hj hf hlet
  go_enter Tryz.func70, Tryz.ntmps70
  go_wp2
  go_quiet ((go_at_call 110; exact HF _))
  go_wp2
  go_ret
  refine ⟨ret_bool ?_, _, rfl⟩
  rw [HN.out, Bool.eq_iff_iff]; simp; omega
set_option maxRecDepth 20000 in
set_option maxHeartbeats 2000000 in
theorem names_line (p : RP) (a i : Nat) (w : World) (hp : ProgAt w a p) (hok : p.Ok) (hi : i < p.lines.length) (hlet : ¬ word (p.line i) 0 = wLet) (h3 : (behind (word (p.line i) 0) p.raw).1.length + 1 ≤ (p.line i).length) :
    Calls Tryz.prog 70 #[.pointer (some ⟨a, 0, none⟩), .int .i64 i] w fun e w' => e = .returned (.bool (p.names i)) ∧ ∃ n, w' = w.drewN n := by
  have HN : Hid (p.names i = p.namesGo (behind (word (p.line i) 0) p.raw).1 ((p.line i).drop 1)) := by unfold Hid RP.names; rw [if_neg hlet]
  have hsz := hok.size
  have hbn := hok.blockn
  have hlong := hok.long
  obtain ⟨g, cap, gl, capl, hc1, hc1', hc2, hc2', hw⟩ := hp.line_at i hi
  have hwn := hok.words i hi
  have hw0 := hw 0 (by omega)
  have hi3 : (0 : Int) < (p.line i).length := by omega
  have hraw := hp.raw
  obtain ⟨bb, cb, hlenb⟩ := hp.blocks_len
  have hbl : (word (p.line i) 0 == [108, 101, 116]) = false := by simpa [wLet] using hlet
  have hb3 := behind_len (word (p.line i) 0) p.raw
  clear hlet
  go_enter Tryz.func70, Tryz.ntmps70
  go_wp2
  go_quiet ((go_at_call 87; exact Calls.quiet_of_same (behind_bs _ _ _)))
  go_wp2
  generalize (behind (word (p.line i) 0) p.raw).1 = f at *
  go_loopw [8] (fun kk wr => ∃ k : Nat, k ≤ f.length ∧ kk = .int .i64 k ∧ Hid (p.names i = p.namesGo (f.drop k) ((p.line i).drop (k + 1))) ∧ ∃ n, wr = w.drewN n) (fun kk _ => f.length - (intOf kk).toNat)
  case atStart => exact ⟨0, Nat.zero_le _, rfl, HN, _, rfl⟩
  case round =>
    obtain ⟨k, hk, rfl, HI, n, rfl⟩ := hrel
    clear HN
    by_cases hlt : k < f.length
    · have HS : Hid (_ = _) := p.namesGo_step f (p.line i) k hlt
      have hwk := hw (k + 1) (by omega)
      have hlk : (word (p.line i) (k + 1)).length ≤ maxLen := Nat.le_trans (hlong i (k + 1)) (by decide)
      have hk3 : (k : Int) + 1 < (p.line i).length := by omega
      clear hlong hw
      go_wp2_with (first
        | (go_at_call 111; refine (local_bs _ _ hlk).mono ?_; rintro e w' ⟨rfl, rfl⟩)
        | (go_at_call 110; refine (find_any p a _ _ (hp.drewN _) hok).mono ?_; rintro e w' ⟨rfl, nf, rfl⟩)
        | (go_at_call 112; refine (number_bs _ _ hlk).mono ?_; rintro e w' ⟨rfl, rfl⟩))
      all_goals first
        | (go_ret
           go_light
           have hx : decide (0 ≤ p.find (localOf (word (p.line i) (k + 1)))) = false := by simp; omega
           exact ⟨ret_bool (by rw [HI.out, HS.out, nameOk_nat]; simp [*]), _, rfl⟩)
        | (go_ret
           go_light
           have hx : decide ((number (word (p.line i) (k + 1))).getD 0 < p.blocks.length) = false := by simp; omega
           exact ⟨ret_bool (by rw [HI.out, HS.out, nameOk_nat]; simp [*]), _, rfl⟩)
        | (go_roundw
           case rel =>
             go_light
             exact ⟨k + 1, by omega, by go_num, by rw [HI.out, HS.out, nameOk_nat]; simp [*, Hid], _, rfl⟩
           case measure => simp [intOf]; omega)
    · go_wp2
      go_ret
      refine ⟨ret_bool ?_, n, rfl⟩
      rw [HI.out, List.drop_eq_nil_of_le (by omega)]; rfl
end Go.Proofs.YtmlgajhhnojdjaaGreatDoor.RefI
/- What the document's own reader answers on the types of a line's places. Condition: the program lies in memory as it is kept, and what the line names is there. -/
namespace Go.Proofs.YtmlgajhhnojdjaaGreatDoor.RefJ
open Go.RowKit Go.Proofs.YtmlgajhhnojdjaaGreatDoor.Spec Go.Proofs.YtmlgajhhnojdjaaGreatDoor.RefA Go.Proofs.YtmlgajhhnojdjaaGreatDoor.RefB Go.Proofs.YtmlgajhhnojdjaaGreatDoor.RefC Go.Proofs.YtmlgajhhnojdjaaGreatDoor.RefD Go.Proofs.YtmlgajhhnojdjaaGreatDoor.RefG Go.Proofs.YtmlgajhhnojdjaaGreatDoor.RefH Go.Proofs.YtmlgajhhnojdjaaGreatDoor.Aux

theorem typeOk_walk (p : RP) (c : UInt8) (w w1 : B) : p.typeOk c w w1 =
    if c = 110 ∨ c = 78 ∨ c = 102 ∨ c = 118 then true
    else if (p.typeOf w).isEmpty = true then false
    else if (c = 105 ∧ (!(p.typeOf w == [105, 110, 116])) = true) ∨ (c = 112 ∧ (!(p.typeOf w == [98, 111, 120])) = true) ∨ (c = 111 ∧ (!(p.typeOf w == [111, 112, 116])) = true) then false
    else if (c = 109 ∨ c = 100) ∧ (p.typeOf w == [105, 110, 116]) = true then false
    else if c = 109 ∧ (!(p.typeOf w == p.typeOf w1)) = true then false else true := by
  simp only [RP.typeOk, wInt, wBox, wOpt, List.isEmpty_iff, Bool.not_eq_true', beq_eq_false_iff_ne, ne_eq, beq_iff_eq]
  repeat' congr
theorem mem_of (f : B) (k : Nat) (h : k < f.length) (c : UInt8) (e : f[k] = c) : c ∈ f := by rw [← e]; exact List.getElem_mem h

set_option maxRecDepth 20000 in
set_option maxHeartbeats 4000000 in
theorem types_any (p : RP) (a i : Nat) (w : World) (hp : ProgAt w a p) (hok : p.Ok) (hi : i < p.lines.length) (h3 : (behind (word (p.line i) 0) p.raw).1.length + 1 ≤ (p.line i).length)
    (hn : ∀ k (h : k < (behind (word (p.line i) 0) p.raw).1.length), (behind (word (p.line i) 0) p.raw).1[k] ∈ [105, 112, 109, 111, 100] → 0 ≤ p.find (localOf (word (p.line i) (k + 1))))
    (hm : 109 ∈ (behind (word (p.line i) 0) p.raw).1 → 0 ≤ p.find (localOf (word (p.line i) 1))) :
    Calls Tryz.prog 71 #[.pointer (some ⟨a, 0, none⟩), .int .i64 i] w fun e w' => e = .returned (.bool (p.types i)) ∧ ∃ n, w' = w.drewN n := by
  have HN : Hid (p.types i = p.typesGo (word (p.line i) 1) (behind (word (p.line i) 0) p.raw).1 ((p.line i).drop 1)) := rfl
  have hsz := hok.size
  have hlong := hok.long
  obtain ⟨g, cap, gl, capl, hc1, hc1', hc2, hc2', hw⟩ := hp.line_at i hi
  have hwn := hok.words i hi
  have hw0 := hw 0 (by omega)
  have hi3 : (0 : Int) < (p.line i).length := by omega
  have hraw := hp.raw
  have hb3 := behind_len (word (p.line i) 0) p.raw
  have HK : Hid (∀ x ∈ (behind (word (p.line i) 0) p.raw).1, x ∈ kinds) := behind_kinds _ _
  have HM : Hid (109 ∈ (behind (word (p.line i) 0) p.raw).1 → 0 ≤ p.find (localOf (word (p.line i) 1))) := hm
  have Hn : Hid (∀ k (h : k < (behind (word (p.line i) 0) p.raw).1.length), (behind (word (p.line i) 0) p.raw).1[k] ∈ [105, 112, 109, 111, 100] → 0 ≤ p.find (localOf (word (p.line i) (k + 1)))) := hn
  clear hm hn
  go_enter Tryz.func71, Tryz.ntmps71
  go_wp2
  go_quiet ((go_at_call 87; exact Calls.quiet_of_same (behind_bs _ _ _)))
  go_wp2
  generalize (behind (word (p.line i) 0) p.raw).1 = f at *
  go_loopw [8] (fun kk wr => ∃ k : Nat, k ≤ f.length ∧ kk = .int .i64 k ∧ Hid (p.types i = p.typesGo (word (p.line i) 1) (f.drop k) ((p.line i).drop (k + 1))) ∧ ∃ n, wr = w.drewN n) (fun kk _ => f.length - (intOf kk).toNat)
  case atStart => exact ⟨0, Nat.zero_le _, rfl, HN, _, rfl⟩
  case round =>
    obtain ⟨k, hk, rfl, HI, n, rfl⟩ := hrel
    clear HN
    by_cases hlt : k < f.length
    · have HS : Hid (_ = _) := p.typesGo_step (word (p.line i) 1) f (p.line i) k hlt
      have hwk := hw (k + 1) (by omega)
      have hw1 := hw 1 (by omega)
      have hlk : (word (p.line i) (k + 1)).length ≤ maxLen := Nat.le_trans (hlong i (k + 1)) (by decide)
      have hl1 : (word (p.line i) 1).length ≤ maxLen := Nat.le_trans (hlong i 1) (by decide)
      have hk3 : (k : Int) + 1 < (p.line i).length := by omega
      have hk4 : (1 : Int) < (p.line i).length := by omega
      have Hk := HK.out _ (List.getElem_mem hlt)
      have Hnk := Hn.out k hlt
      have Hm : f[k] = 109 → 0 ≤ p.find (localOf (word (p.line i) 1)) := fun e => HM.out (mem_of f k hlt _ e)
      clear hlong hw HK Hn HM
      simp only [kinds, List.mem_cons, List.not_mem_nil, or_false] at Hk
      have HT : Hid (∀ l : B, l.length ≤ maxLen → 0 ≤ p.find (localOf l) → ∀ n, Calls Tryz.prog 113 #[.pointer (some ⟨a, 0, none⟩), .string (bs l)] (w.drewN n) fun e w' => e = .returned (.string (bs (p.typeOf l))) ∧ ∃ m, w' = w.drewN m) :=
        fun l hl hf n => (typeOf_any p a l (w.drewN n) (hp.drewN n) hok hl hf).mono fun e w' ⟨he, m, hm⟩ => ⟨he, n + m, by rw [hm]; simp⟩
      rcases Hk with E | E | E | E | E | E | E | E | E
      · have hf0 := Hnk (by simp [E])
        have hfn : f[k].toNat = 105 := by rw [E]; rfl
        have HE : Hid (f[k] = 105) := E
        clear Hnk Hm E
        go_wp2_with (go_at_call 113; refine (HT.out _ (by assumption) (by assumption) _).mono ?_; rintro e w' ⟨rfl, nf, rfl⟩)
        all_goals first
          | (go_ret
             go_light
             exact ⟨ret_bool (by rw [HI.out, HS.out, HE.out, typeOk_walk]; first | (simp [*]; done) | simp_all), _, rfl⟩)
          | (go_roundw
             case rel =>
               go_light
               exact ⟨k + 1, by omega, by go_num, by rw [HI.out, HS.out, HE.out, typeOk_walk]; first | (simp [*, Hid]; done) | simp_all [Hid], _, rfl⟩
             case measure => simp [intOf]; omega)
      · have hfn : f[k].toNat = 110 := by rw [E]; rfl
        have HE : Hid (f[k] = 110) := E
        clear Hnk Hm E
        go_wp2
        all_goals first
          | (go_ret
             go_light
             exact ⟨ret_bool (by rw [HI.out, HS.out, HE.out, typeOk_walk]; first | (simp [*]; done) | simp_all), _, rfl⟩)
          | (go_roundw
             case rel =>
               go_light
               exact ⟨k + 1, by omega, by go_num, by rw [HI.out, HS.out, HE.out, typeOk_walk]; first | (simp [*, Hid]; done) | simp_all [Hid], _, rfl⟩
             case measure => simp [intOf]; omega)
      · have hf0 := Hnk (by simp [E])
        have hfn : f[k].toNat = 112 := by rw [E]; rfl
        have HE : Hid (f[k] = 112) := E
        clear Hnk Hm E
        go_wp2_with (go_at_call 113; refine (HT.out _ (by assumption) (by assumption) _).mono ?_; rintro e w' ⟨rfl, nf, rfl⟩)
        all_goals first
          | (go_ret
             go_light
             exact ⟨ret_bool (by rw [HI.out, HS.out, HE.out, typeOk_walk]; first | (simp [*]; done) | simp_all), _, rfl⟩)
          | (go_roundw
             case rel =>
               go_light
               exact ⟨k + 1, by omega, by go_num, by rw [HI.out, HS.out, HE.out, typeOk_walk]; first | (simp [*, Hid]; done) | simp_all [Hid], _, rfl⟩
             case measure => simp [intOf]; omega)
      · have hf0 := Hnk (by simp [E])
        have hf1 := Hm E
        have hfn : f[k].toNat = 109 := by rw [E]; rfl
        have HE : Hid (f[k] = 109) := E
        clear Hnk Hm E
        go_wp2_with (go_at_call 113; refine (HT.out _ (by assumption) (by assumption) _).mono ?_; rintro e w' ⟨rfl, nf, rfl⟩)
        all_goals first
          | (go_ret
             go_light
             exact ⟨ret_bool (by rw [HI.out, HS.out, HE.out, typeOk_walk]; first | (simp [*]; done) | simp_all), _, rfl⟩)
          | (go_roundw
             case rel =>
               go_light
               exact ⟨k + 1, by omega, by go_num, by rw [HI.out, HS.out, HE.out, typeOk_walk]; first | (simp [*, Hid]; done) | simp_all [Hid], _, rfl⟩
             case measure => simp [intOf]; omega)
      · have hf0 := Hnk (by simp [E])
        have hfn : f[k].toNat = 111 := by rw [E]; rfl
        have HE : Hid (f[k] = 111) := E
        clear Hnk Hm E
        go_wp2_with (go_at_call 113; refine (HT.out _ (by assumption) (by assumption) _).mono ?_; rintro e w' ⟨rfl, nf, rfl⟩)
        all_goals first
          | (go_ret
             go_light
             exact ⟨ret_bool (by rw [HI.out, HS.out, HE.out, typeOk_walk]; first | (simp [*]; done) | simp_all), _, rfl⟩)
          | (go_roundw
             case rel =>
               go_light
               exact ⟨k + 1, by omega, by go_num, by rw [HI.out, HS.out, HE.out, typeOk_walk]; first | (simp [*, Hid]; done) | simp_all [Hid], _, rfl⟩
             case measure => simp [intOf]; omega)
      · have hfn : f[k].toNat = 78 := by rw [E]; rfl
        have HE : Hid (f[k] = 78) := E
        clear Hnk Hm E
        go_wp2
        all_goals first
          | (go_ret
             go_light
             exact ⟨ret_bool (by rw [HI.out, HS.out, HE.out, typeOk_walk]; first | (simp [*]; done) | simp_all), _, rfl⟩)
          | (go_roundw
             case rel =>
               go_light
               exact ⟨k + 1, by omega, by go_num, by rw [HI.out, HS.out, HE.out, typeOk_walk]; first | (simp [*, Hid]; done) | simp_all [Hid], _, rfl⟩
             case measure => simp [intOf]; omega)
      · have hf0 := Hnk (by simp [E])
        have hfn : f[k].toNat = 100 := by rw [E]; rfl
        have HE : Hid (f[k] = 100) := E
        clear Hnk Hm E
        go_wp2_with (go_at_call 113; refine (HT.out _ (by assumption) (by assumption) _).mono ?_; rintro e w' ⟨rfl, nf, rfl⟩)
        all_goals first
          | (go_ret
             go_light
             exact ⟨ret_bool (by rw [HI.out, HS.out, HE.out, typeOk_walk]; first | (simp [*]; done) | simp_all), _, rfl⟩)
          | (go_roundw
             case rel =>
               go_light
               exact ⟨k + 1, by omega, by go_num, by rw [HI.out, HS.out, HE.out, typeOk_walk]; first | (simp [*, Hid]; done) | simp_all [Hid], _, rfl⟩
             case measure => simp [intOf]; omega)
      · have hfn : f[k].toNat = 102 := by rw [E]; rfl
        have HE : Hid (f[k] = 102) := E
        clear Hnk Hm E
        go_wp2
        all_goals first
          | (go_ret
             go_light
             exact ⟨ret_bool (by rw [HI.out, HS.out, HE.out, typeOk_walk]; first | (simp [*]; done) | simp_all), _, rfl⟩)
          | (go_roundw
             case rel =>
               go_light
               exact ⟨k + 1, by omega, by go_num, by rw [HI.out, HS.out, HE.out, typeOk_walk]; first | (simp [*, Hid]; done) | simp_all [Hid], _, rfl⟩
             case measure => simp [intOf]; omega)
      · have hfn : f[k].toNat = 118 := by rw [E]; rfl
        have HE : Hid (f[k] = 118) := E
        clear Hnk Hm E
        go_wp2
        all_goals first
          | (go_ret
             go_light
             exact ⟨ret_bool (by rw [HI.out, HS.out, HE.out, typeOk_walk]; first | (simp [*]; done) | simp_all), _, rfl⟩)
          | (go_roundw
             case rel =>
               go_light
               exact ⟨k + 1, by omega, by go_num, by rw [HI.out, HS.out, HE.out, typeOk_walk]; first | (simp [*, Hid]; done) | simp_all [Hid], _, rfl⟩
             case measure => simp [intOf]; omega)
    · go_wp2
      go_ret
      refine ⟨ret_bool ?_, n, rfl⟩
      rw [HI.out, List.drop_eq_nil_of_le (by omega)]; rfl
end Go.Proofs.YtmlgajhhnojdjaaGreatDoor.RefJ
/- What the document's own reader answers on the form of a line. Condition: the program lies in memory as it is kept. -/
namespace Go.Proofs.YtmlgajhhnojdjaaGreatDoor.RefK
open Go.RowKit Go.Proofs.YtmlgajhhnojdjaaGreatDoor.Spec Go.Proofs.YtmlgajhhnojdjaaGreatDoor.RefA Go.Proofs.YtmlgajhhnojdjaaGreatDoor.RefB Go.Proofs.YtmlgajhhnojdjaaGreatDoor.RefC Go.Proofs.YtmlgajhhnojdjaaGreatDoor.RefD Go.Proofs.YtmlgajhhnojdjaaGreatDoor.RefF Go.Proofs.YtmlgajhhnojdjaaGreatDoor.RefG Go.Proofs.YtmlgajhhnojdjaaGreatDoor.Aux

theorem form_let_eq (p : RP) (i : Nat) (h : word (p.line i) 0 = wLet) (h1 : (p.line i).length = 3) (h2 : ¬ 0 < p.blocks.length) (h3 : ¬ 12 ≤ p.lets.length) : p.form i = (isName (word (p.line i) 1) && (word (p.line i) 2 == [105, 110, 116] || word (p.line i) 2 == [98, 111, 120] || word (p.line i) 2 == [112, 97, 105, 114] || word (p.line i) 2 == [111, 112, 116])) := by
  rw [RP.form, if_pos h, if_neg (by omega)]; rfl
theorem form_let_no (p : RP) (i : Nat) (h : word (p.line i) 0 = wLet) (h1 : ¬ (p.line i).length = 3 ∨ 0 < p.blocks.length ∨ 12 ≤ p.lets.length) : p.form i = false := by
  rw [RP.form, if_pos h, if_pos (by omega)]

set_option maxRecDepth 20000 in
set_option maxHeartbeats 2000000 in
theorem form_let (p : RP) (a i : Nat) (w : World) (hp : ProgAt w a p) (hok : p.Ok) (hi : i < p.lines.length) (hlet : word (p.line i) 0 = wLet) :
    Calls Tryz.prog 68 #[.pointer (some ⟨a, 0, none⟩), .int .i64 i] w fun e w' => e = .returned (.bool (p.form i)) ∧ ∃ n, w' = w.drewN n := by
  have hsz := hok.size
  have hln := hok.letn
  have hbn := hok.blockn
  have hwide := hok.wide i
  obtain ⟨g, cap, gl, capl, hc1, hc1', hc2, hc2', hw⟩ := hp.line_at i hi
  have hwn := hok.words i hi
  have hw0 := hw 0 (by omega)
  obtain ⟨bl, cl, hlen⟩ := hp.lets_len
  obtain ⟨bb, cb, hlenb⟩ := hp.blocks_len
  have HW : Hid (word (p.line i) 0 = wLet) := hlet
  have hbl : (word (p.line i) 0 == [108, 101, 116]) = true := by rw [hlet]; rfl
  have hl1 : (word (p.line i) 1).length ≤ maxLen := Nat.le_trans (hok.long i 1) (by decide)
  clear hlet
  by_cases h3 : (p.line i).length = 3
  · by_cases hb : 0 < p.blocks.length
    · have HE : Hid (p.form i = false) := form_let_no p i HW.out (.inr (.inl hb))
      clear hw
      go_enter Tryz.func68, Tryz.ntmps68
      go_wp2_with (go_at_call 69; refine (inside_any p a i _ hp hok (by omega)).mono ?_; rintro e w' ⟨rfl, n, rfl⟩)
      go_ret
      exact ⟨ret_bool HE.out.symm, _, rfl⟩
    · by_cases hl : 12 ≤ p.lets.length
      · have HE : Hid (p.form i = false) := form_let_no p i HW.out (.inr (.inr hl))
        clear hw
        go_enter Tryz.func68, Tryz.ntmps68
        go_wp2_with (go_at_call 69; refine (inside_any p a i _ hp hok (by omega)).mono ?_; rintro e w' ⟨rfl, n, rfl⟩)
        go_ret
        exact ⟨ret_bool HE.out.symm, _, rfl⟩
      · have HE : Hid (_ = _) := form_let_eq p i HW.out h3 hb hl
        have hw1 := hw 1 (by omega)
        have hw2 := hw 2 (by omega)
        have h31 : (1 : Int) < (p.line i).length := by omega
        have h32 : (2 : Int) < (p.line i).length := by omega
        clear hw
        go_enter Tryz.func68, Tryz.ntmps68
        go_wp2_with (first
          | (go_at_call 69; refine (inside_any p a i _ hp hok (by omega)).mono ?_; rintro e w' ⟨rfl, n, rfl⟩)
          | (go_at_call 108; refine (isName_bs _ _ hl1).mono ?_; rintro e w' ⟨rfl, rfl⟩))
        all_goals
          go_ret
          refine ⟨ret_bool ?_, _, rfl⟩
          go_light
          rw [HE.out]
          first | (simp [*]; done) | simp_all
  · have HE : Hid (p.form i = false) := form_let_no p i HW.out (.inl h3)
    clear hw
    go_enter Tryz.func68, Tryz.ntmps68
    go_wp2_with (go_at_call 69; refine (inside_any p a i _ hp hok (by omega)).mono ?_; rintro e w' ⟨rfl, n, rfl⟩)
    go_ret
    exact ⟨ret_bool HE.out.symm, _, rfl⟩
end Go.Proofs.YtmlgajhhnojdjaaGreatDoor.RefK
