/- What the document's own reader answers on numbers. No conditions but the strings' lengths. -/
import Derived.Test.YtmlgajhhnojdjaaGreatDoorPAN
import Derived.Deep.DeepCutAuto
import Derived.Deep.Light
import Derived.Test.YtmlgajhhnojdjaaGreatDoorPAA
import Derived.Test.YtmlgajhhnojdjaaGreatDoorPAE
import Derived.Deep.DeepMust
import Derived.Deep.QuietTactic
import Derived.BigQuiet
import Derived.Deep.LoopGhost
import Derived.Deep.MidRow
namespace Go.Proofs.YtmlgajhhnojdjaaGreatDoor.RefC
open Go.RowKit Go.Proofs.YtmlgajhhnojdjaaGreatDoor.Spec Go.Proofs.YtmlgajhhnojdjaaGreatDoor.RefA

theorem ret_num {o : Option Int} {a : Int} {b : Bool} (h : o.getD 0 = a) (h' : o.isSome = b) : Ending.returned (.tuple #[.int .i64 a, .bool b]) = .returned (.tuple #[.int .i64 (o.getD 0), .bool o.isSome]) := by rw [h, h']

theorem numGo_end (m : Int) (d : ByteArray) (k : Nat) (hk : ¬ k < d.size) : numGo m (d.toList.drop k) = some m := by
  rw [List.drop_eq_nil_of_le (by rw [length_toList]; omega)]; rfl
theorem numGo_bad (m : Int) (d : ByteArray) (k : Nat) (hk : k < d.size) (h : d[k].toNat < 48 ∨ 57 < d[k].toNat) : numGo m (d.toList.drop k) = none := by
  rw [List.drop_eq_getElem_cons (by rw [length_toList]; exact hk), ← getElem_toList d k hk, numGo, if_neg]
  simp [digit]; omega
theorem numGo_great (m : Int) (d : ByteArray) (k : Nat) (hk : k < d.size) (h : 1000000000 < 10 * m + ((d[k].toNat : Int) - 48)) : numGo m (d.toList.drop k) = none := by
  rw [List.drop_eq_getElem_cons (by rw [length_toList]; exact hk), ← getElem_toList d k hk, numGo]
  by_cases hd : digit d[k] = true
  · rw [if_pos hd, if_pos h]
  · rw [if_neg hd]
theorem numGo_on (m : Int) (d : ByteArray) (k : Nat) (hk : k < d.size) (h1 : 48 ≤ d[k].toNat) (h2 : d[k].toNat ≤ 57) (h : 10 * m + ((d[k].toNat : Int) - 48) ≤ 1000000000) : numGo m (d.toList.drop k) = numGo (10 * m + ((d[k].toNat : Int) - 48)) (d.toList.drop (k + 1)) := by
  rw [List.drop_eq_getElem_cons (by rw [length_toList]; exact hk), ← getElem_toList d k hk, numGo, if_pos, if_neg (by omega)]
  simp [digit]; omega
theorem unsigned_minus (s : ByteArray) (h : 0 < s.size) (h0 : s[0].toNat = 45) : unsigned s.toList = (s.extract 1 s.size).toList ∧ signed s.toList = true := by
  have e : s.toList = s[0] :: s.toList.drop 1 := by
    conv => lhs; rw [← List.drop_zero (l := s.toList), List.drop_eq_getElem_cons (by rw [length_toList]; exact h), ← getElem_toList s 0 h]
  have h1 : s[0] = 45 := (u8_eq _ 45 (by omega)).mpr h0
  rw [extract_toList]
  constructor
  · rw [e, unsigned, if_pos h1, List.drop_succ_cons, List.drop_zero, List.take_of_length_le (by simp [length_toList])]
  · rw [e, signed]; simp [h1]
theorem unsigned_plain (s : ByteArray) (h : s.size = 0 ∨ ∃ h : 0 < s.size, ¬ s[0].toNat = 45) : unsigned s.toList = s.toList ∧ signed s.toList = false := by
  rcases h with h | ⟨h, h0⟩
  · have : s.toList = [] := List.eq_nil_of_length_eq_zero (by rw [length_toList]; exact h)
    simp [this, unsigned, signed]
  · have e : s.toList = s[0] :: s.toList.drop 1 := by
      conv => lhs; rw [← List.drop_zero (l := s.toList), List.drop_eq_getElem_cons (by rw [length_toList]; exact h), ← getElem_toList s 0 h]
    have h1 : ¬ s[0] = 45 := fun e => h0 ((u8_eq _ 45 (by omega)).mp e)
    constructor
    · conv => lhs; rw [e]
      rw [unsigned, if_neg h1, ← e]
    · rw [e, signed]; simp [h1]

theorem number_stop (s : ByteArray) (d : ByteArray) (hu : unsigned s.toList = d.toList) (h : d.size < 1 ∨ (∃ h : 0 < d.size, d[0].toNat = 48 ∧ ¬ s.toList = [48])) : number s.toList = none := by
  rw [number, if_pos]
  rw [hu, length_toList]
  rcases h with h | ⟨h, h0, h1⟩
  · exact .inl h
  · refine .inr ⟨?_, h1⟩
    rw [List.head?_eq_getElem?, getElem?_toList d 0 h, (u8_eq d[0] 48 (by omega)).mpr h0]
    rfl
theorem number_go (s : ByteArray) (d : ByteArray) (hu : unsigned s.toList = d.toList) (h : 0 < d.size) (h0 : d[0].toNat = 48 → s.toList = [48]) : number s.toList = (numGo 0 d.toList).map fun n => if signed s.toList then -n else n := by
  rw [number, if_neg, hu]
  · cases numGo 0 d.toList <;> rfl
  · rw [hu, length_toList]
    rintro (h' | ⟨h', h2⟩)
    · omega
    · rw [List.head?_eq_getElem?, getElem?_toList d 0 h] at h'
      exact h2 (h0 ((u8_eq d[0] 48 (by omega)).mp (by simpa using h')))


theorem signed_no (s : ByteArray) (h : s.size = 0) : signed s.toList = false := (unsigned_plain s (.inl h)).2
theorem signed_at (s : ByteArray) (h : 0 < s.size) : signed s.toList = decide (s[0].toNat = 45) := by
  by_cases h0 : s[0].toNat = 45
  · rw [(unsigned_minus s h h0).2]; simp [h0]
  · rw [(unsigned_plain s (.inr ⟨h, h0⟩)).2]; simp [h0]
theorem unsigned_yes (s : ByteArray) (h : signed s.toList = true) : unsigned s.toList = (s.extract 1 s.size).toList ∧ 0 < s.size := by
  by_cases h0 : 0 < s.size
  · rw [signed_at s h0] at h
    exact ⟨(unsigned_minus s h0 (by simpa using h)).1, h0⟩
  · rw [signed_no s (by omega)] at h
    cases h
theorem unsigned_no (s : ByteArray) (h : signed s.toList = false) : unsigned s.toList = s.toList := by
  by_cases h0 : 0 < s.size
  · rw [signed_at s h0] at h
    exact (unsigned_plain s (.inr ⟨h0, by simpa using h⟩)).1
  · exact (unsigned_plain s (.inl (by omega))).1

set_option maxHeartbeats 1000000 in
theorem number_any (s : ByteArray) (w : World) (hs : s.size ≤ maxLen) :
    Calls Tryz.prog 112 #[.string s] w fun e w' => e = .returned (.tuple #[.int .i64 ((number s.toList).getD 0), .bool (number s.toList).isSome]) ∧ w' = w := by
  unfold maxLen at hs
  go_enter Tryz.func112, Tryz.ntmps112
  go_upto_region 2 with fail
  go_cut [5] (fun ls wc => wc = w ∧ ls = .bool (signed s.toList))
  case first =>
    by_cases h0 : 0 < s.size
    · have hx : Hid (signed s.toList = decide (s[0].toNat = 45)) := signed_at s h0
      go_wp2
      go_meet
      case rel => exact ⟨rfl, by rw [hx.out]; congr 1; rw [Bool.eq_iff_iff]; simp; omega⟩
    · have hx : Hid (signed s.toList = false) := signed_no s (by omega)
      go_wp2
      go_meet
      case rel => exact ⟨rfl, by rw [hx.out]⟩
  case rest =>
    obtain ⟨rfl, rfl⟩ := hcut
    go_upto_if 17 with fail
    go_cut [4] (fun d wc' => wc' = wc ∧ ∃ d' : ByteArray, d = .string d' ∧ d'.size ≤ 9223372036854775807 ∧ Hid (unsigned s.toList = d'.toList))
    case first =>
      by_cases hg : signed s.toList = true
      · have hu := unsigned_yes s hg
        obtain ⟨hu1, hu2⟩ := hu
        have HU : Hid (unsigned s.toList = (s.extract 1 s.size).toList) := hu1
        clear hu1
        go_wp2
        · go_meet
          case rel => exact ⟨rfl, _, rfl, by simp; omega, HU⟩
        · exact absurd hg (by simp [‹signed s.toList = false›])
      · have HU : Hid (unsigned s.toList = s.toList) := unsigned_no s (by simpa using hg)
        go_wp2
        go_meet
        case rel => exact ⟨rfl, _, rfl, by omega, HU⟩
    case rest =>
      obtain ⟨rfl, d, rfl, hsz, HU⟩ := hcut
      by_cases hz : d.size = 0
      · have hn : Hid (number s.toList = none) := number_stop s _ HU.out (.inl (by omega))
        go_wp2
        go_ret2
        exact ⟨ret_num (by rw [hn.out]; rfl) (by rw [hn.out]; rfl), rfl⟩
      have hz1 : 0 < d.size := by omega
      clear hz
      by_cases hq : d[0].toNat = 48 ∧ ¬ s.toList = [48]
      · have hn : Hid (number s.toList = none) := number_stop s _ HU.out (.inr ⟨by omega, hq⟩)
        obtain ⟨hq1, hq2⟩ := hq
        have hb : (s.toList == [48]) = false := by simpa using hq2
        clear hq2
        go_wp2
        go_ret2
        exact ⟨ret_num (by rw [hn.out]; rfl) (by rw [hn.out]; rfl), rfl⟩
      have Hq : d[0].toNat = 48 → s.toList = [48] := fun e => by
        by_cases h' : s.toList = [48]
        · exact h'
        · exact absurd ⟨e, h'⟩ hq
      clear hq
      have hn : Hid (number s.toList = (numGo 0 d.toList).map fun n => if signed s.toList then -n else n) := number_go s _ HU.out (by omega) Hq
      go_upto_region 5 with fail
      go_cut [31] (fun b wc' => wc' = wc ∧ b = .bool false)
      case first =>
        by_cases hc : d[0].toNat = 48
        · have hb : (s.toList == [48]) = true := by simp [Hq hc]
          clear Hq
          go_wp2
          go_meet
          case rel => exact ⟨rfl, by congr 1; simp; omega⟩
        · clear Hq
          go_wp2
          go_meet
          case rel => exact ⟨rfl, by congr 1; simp; omega⟩
      case rest =>
        obtain ⟨rfl, rfl⟩ := hcut
        clear Hq
        go_wp2
        go_loop [6, 7] (fun n i => ∃ (k : Nat) (m : Int), k ≤ d.size ∧ i = .int .i64 k ∧ n = .int .i64 m ∧ 0 ≤ m ∧ m ≤ 1000000000 ∧ Hid (numGo 0 d.toList = numGo m (d.toList.drop k))) (fun _ i => d.size - (intOf i).toNat)
        case atStart => exact ⟨0, 0, Nat.zero_le _, rfl, rfl, by omega, by omega, rfl⟩
        case round =>
          obtain ⟨k, m, hk, rfl, rfl, hm0, hm1, HM⟩ := hrel
          by_cases hlt : k < d.size
          · go_wp2
            · go_ret2
              have hx : number s.toList = none := by rw [hn.out, HM.out, numGo_bad m _ k hlt (by omega)]; rfl
              exact ⟨ret_num (by rw [hx]; rfl) (by rw [hx]; rfl), rfl⟩
            · go_ret2
              have hx : number s.toList = none := by rw [hn.out, HM.out, numGo_great m _ k hlt (by omega)]; rfl
              exact ⟨ret_num (by rw [hx]; rfl) (by rw [hx]; rfl), rfl⟩
            · go_round
              case rel => exact ⟨k + 1, 10 * m + ((d[k].toNat : Int) - 48), by omega, by go_num, by go_num, by omega, by omega, by rw [HM.out]; exact numGo_on m _ k hlt (by omega) (by omega) (by omega)⟩
              case measure => simp [intOf]; omega
            · go_ret2
              have hx : number s.toList = none := by rw [hn.out, HM.out, numGo_bad m _ k hlt (by omega)]; rfl
              exact ⟨ret_num (by rw [hx]; rfl) (by rw [hx]; rfl), rfl⟩
          · go_wp2
            · go_ret2
              have hx : number s.toList = some (-m) := by rw [hn.out, HM.out, numGo_end m _ k hlt, ‹signed s.toList = true›]; rfl
              exact ⟨ret_num (by rw [hx]; rfl) (by rw [hx]; rfl), rfl⟩
            · go_ret2
              have hx : number s.toList = some m := by rw [hn.out, HM.out, numGo_end m _ k hlt, ‹signed s.toList = false›]; rfl
              exact ⟨ret_num (by rw [hx]; rfl) (by rw [hx]; rfl), rfl⟩
theorem number_bs (l : B) (w : World) (h : l.length ≤ maxLen) :
    Calls Tryz.prog 112 #[.string (bs l)] w fun e w' => e = .returned (.tuple #[.int .i64 ((number l).getD 0), .bool (number l).isSome]) ∧ w' = w := by
  have := number_any (bs l) w (by rw [size_bs]; exact h)
  rwa [toList_bs] at this
end Go.Proofs.YtmlgajhhnojdjaaGreatDoor.RefC
/- What the document's own reader answers on a line's first word: what stands behind it; and whether a word may stand for a kind. No conditions but the strings' lengths. -/
namespace Go.Proofs.YtmlgajhhnojdjaaGreatDoor.RefD
open Go.RowKit Go.Proofs.YtmlgajhhnojdjaaGreatDoor.Spec Go.Proofs.YtmlgajhhnojdjaaGreatDoor.RefA Go.Proofs.YtmlgajhhnojdjaaGreatDoor.RefB Go.Proofs.YtmlgajhhnojdjaaGreatDoor.RefC

def known : List B := [[115, 101, 116], [97, 100, 100], [115, 117, 98], [109, 117, 108], [100, 105, 118], [105, 110], [111, 117, 116], [101, 110, 100], [110, 101, 119], [115, 116, 111, 114, 101], [108, 111, 97, 100], [109, 111, 118, 101], [110, 111, 110, 101], [115, 111, 109, 101], [103, 111, 116, 111], [105, 102], [109, 97, 116, 99, 104], [100, 114, 111, 112], [102, 114, 101, 101], [102, 108, 97, 103], [116, 101, 115, 116]]
theorem ret_beh {a b : ByteArray} {x y : Bool} (h : a = b) (h' : x = y) : Ending.returned (.tuple #[.string a, .bool x]) = .returned (.tuple #[.string b, .bool y]) := by rw [h, h']
theorem behind_not (l : B) (r : Bool) (h : l ∉ known) : behind l r = ([], false) := by
  simp only [known, List.mem_cons, List.not_mem_nil, or_false, not_or] at h
  simp [behind, h]

set_option maxHeartbeats 2000000 in
theorem behind_known (l : B) (r : Bool) (w : World) (h : l ∈ known) :
    Calls Tryz.prog 87 #[.string (bs l), .bool r] w fun e w' => e = .returned (.tuple #[.string (bs (behind l r).1), .bool (behind l r).2]) ∧ w' = w := by
  have ht := toList_bs l
  simp only [known, List.mem_cons, List.not_mem_nil, or_false] at h
  rcases h with rfl | rfl | rfl | rfl | rfl | rfl | rfl | rfl | rfl | rfl | rfl | rfl | rfl | rfl | rfl | rfl | rfl | rfl | rfl | rfl | rfl
  all_goals
    go_enter Tryz.func87, Tryz.ntmps87
    go_wp2
    go_ret2
    exact ⟨ret_beh (by simp [behind, bs]) (by simp [behind]), rfl⟩
set_option maxHeartbeats 2000000 in
theorem behind_other (l : B) (r : Bool) (w : World) (h : l ∉ known) :
    Calls Tryz.prog 87 #[.string (bs l), .bool r] w fun e w' => e = .returned (.tuple #[.string (bs (behind l r).1), .bool (behind l r).2]) ∧ w' = w := by
  have ht := toList_bs l
  rw [behind_not l r h]
  have h' : ∀ x ∈ known, (l == x) = false := fun x hx => beq_eq_false_iff_ne.mpr (fun e => h (e ▸ hx))
  clear h
  simp only [known, List.forall_mem_cons, List.not_mem_nil, false_implies, implies_true, and_true] at h'
  obtain ⟨h1, h2, h3, h4, h5, h6, h7, h8, h9, h10, h11, h12, h13, h14, h15, h16, h17, h18, h19, h20, h21⟩ := h'
  go_enter Tryz.func87, Tryz.ntmps87
  go_wp2
  go_ret2
  exact ⟨rfl, rfl⟩
theorem behind_bs (l : B) (r : Bool) (w : World) :
    Calls Tryz.prog 87 #[.string (bs l), .bool r] w fun e w' => e = .returned (.tuple #[.string (bs (behind l r).1), .bool (behind l r).2]) ∧ w' = w := by
  by_cases h : l ∈ known
  · exact behind_known l r w h
  · exact behind_other l r w h

theorem u8_beq (k : UInt8) (n : Nat) (hn : n < 256) : ((k.toNat : Int) == (n : Int)) = decide (k = UInt8.ofNat n) := by
  rw [Bool.eq_iff_iff, decide_eq_true_eq, u8_eq k n hn]; simp; omega
theorem wordOf_nat (k : UInt8) (l : B) : wordOf k l =
    if ((k.toNat : Int) == 105) = true ∨ ((k.toNat : Int) == 111) = true then isName l
    else if ((k.toNat : Int) == 112) = true ∨ ((k.toNat : Int) == 109) = true ∨ ((k.toNat : Int) == 100) = true then isPlace l
    else if ((k.toNat : Int) == 110) = true then (number l).isSome
    else if ((k.toNat : Int) == 78) = true then (number l).isSome && decide (0 ≤ (number l).getD 0)
    else if ((k.toNat : Int) == 102) = true then (number l).isSome && decide (0 ≤ (number l).getD 0) && decide ((number l).getD 0 < 50)
    else (number l).isSome && (decide ((number l).getD 0 = 0) || decide ((number l).getD 0 = 1)) := by
  have e := fun n hn => u8_beq k n hn
  have e1 := e 105 (by omega); have e2 := e 111 (by omega); have e3 := e 112 (by omega); have e4 := e 109 (by omega); have e5 := e 100 (by omega)
  have e6 := e 110 (by omega); have e7 := e 78 (by omega); have e8 := e 102 (by omega)
  simp only [Int.cast_ofNat_Int] at e1 e2 e3 e4 e5 e6 e7 e8
  rw [e1, e2, e3, e4, e5, e6, e7, e8]
  simp only [decide_eq_true_eq, wordOf]
  cases number l <;> rfl
theorem wordOf_bs (k : UInt8) (l : B) (w : World) (h : l.length ≤ maxLen) :
    Calls Tryz.prog 109 #[.int .u8 k.toNat, .string (bs l)] w fun e w' => e = .returned (.bool (wordOf k l)) ∧ w' = w := by
  go_enter Tryz.func109, Tryz.ntmps109
  go_wp2_with (first
    | (go_at_call 112; refine (number_bs l _ h).mono ?_; rintro e w' ⟨rfl, rfl⟩)
    | (go_at_call 108; refine (isName_bs _ _ h).mono ?_; rintro e w' ⟨rfl, rfl⟩)
    | (go_at_call 158; refine (isPlace_bs l _ h).mono ?_; rintro e w' ⟨rfl, rfl⟩))
  all_goals
    go_ret
    refine ⟨ret_bool ?_, rfl⟩
    go_light
    rw [wordOf_nat]
    first | (simp [*]; done) | (simp [*]; omega) | (rw [Bool.eq_iff_iff]; simp [*]; done) | (rw [Bool.eq_iff_iff]; simp [*]; omega)
end Go.Proofs.YtmlgajhhnojdjaaGreatDoor.RefD
/- What the document's own reader answers on a text that is parted at a byte. Condition: the text has at most 2^40 bytes. -/
namespace Go.Proofs.YtmlgajhhnojdjaaGreatDoor.RefE
open Go.RowKit Go.Proofs.YtmlgajhhnojdjaaGreatDoor.Spec Go.Proofs.YtmlgajhhnojdjaaGreatDoor.RefA Go.Proofs.YtmlgajhhnojdjaaGreatDoor.Aux

theorem info_string : (Tryz.prog.info? 9).map (fun i => (i.zero, i.size, i.bytes)) = some (some (.string ⟨#[]⟩), 1, 16) := by kernel_rfl

set_option maxRecDepth 20000 in
set_option maxHeartbeats 1000000 in
theorem split_any (s : ByteArray) (c : UInt8) (w : World) (hs : s.size ≤ 1099511627776) :
    Calls Tryz.prog 67 #[.string s, .int .u8 c.toNat] w fun e w' => ∃ v, e = .returned v ∧ w'.ownsRow w.heap.size 9 1 v (split c s.toList).length (cellsOf (split c s.toList)) ∧ Below w.heap.size w w' := by
  obtain ⟨i, hi, hz0, hz1, hz2⟩ := info_parts info_string
  have HS : Hid (s.size ≤ 1099511627776) := hs
  replace hs : s.size ≤ 9223372036854775806 := by omega
  go_enter Tryz.func67, Tryz.ntmps67
  go_wp2
  go_loopw [5, 6, 7] (fun v fr i wr => ∃ (k f : Nat) (done : List B), f ≤ k ∧ k ≤ s.size + 1 ∧ i = .int .i64 k ∧ fr = .int .i64 f ∧ wr.ownsRow w.heap.size 9 1 v done.length (cellsOf done) ∧ Below w.heap.size w wr ∧ Hid (k ≤ s.size → Parted c s.toList done f k) ∧ Hid (k = s.size + 1 → split c s.toList = done)) (fun _ _ i _ => s.size + 1 - (intOf i).toNat)
  case atStart => exact ⟨0, 0, [], Nat.le_refl _, Nat.zero_le _, rfl, rfl, World.ownsRow_nil _ _ _ _, Below.refl _ _, fun _ => parted_start _ _, fun h => by omega⟩
  case round =>
    obtain ⟨k, f, done, hf, hk, rfl, rfl, hown, hb, H1, H2⟩ := hrel
    by_cases hle : k ≤ s.size
    · have hlen : Hid (done.length ≤ s.size) := by have := parted_length (H1.out hle); rwa [length_toList] at this
      have hsz := hb.size
      by_cases hlt : k < s.size
      · by_cases hc : s[k].toNat = c.toNat
        · have hcb : ((s[k].toNat : Int) == (c.toNat : Int)) = true := by simp [hc]
          have HC : Hid (s[k].toNat = c.toNat) := hc
          clear hc
          go_wp2_with (at_builtin; go_must (refine append_one rfl _ _ 34 rfl w.heap.size 9 i (.string ⟨#[]⟩) 16 Tryz.underlying34 hi hz0 hz1 hz2 rfl _ _ _ rfl hown _ rfl rfl (by decide) (by have := hlen.out; have := HS.out; omega) hsz ?_); intro v' w1 hown' hgrow)
          go_roundw
          case rel =>
            refine ⟨k + 1, k + 1, done ++ [(s.toList.drop f).take (k - f)], Nat.le_refl _, by omega, by go_num, by go_num, ?_, below_append hb (Nat.le_refl _) hsz hown hgrow, fun _ => ?_, fun h => ?_⟩
            · rw [extract_eq] at hown'; simpa [cellsOf] using hown'
            · exact parted_at (H1.out hle) (by rw [length_toList]; exact hlt) (by rw [← getElem_toList s k hlt]; exact UInt8.toNat_inj.mp HC.out)
            · omega
          case measure => simp [intOf]; omega
        · have hcb : ((s[k].toNat : Int) == (c.toNat : Int)) = false := by simp; omega
          have HC : Hid (¬ s[k].toNat = c.toNat) := hc
          clear hc
          go_wp2
          go_roundw
          case rel =>
            refine ⟨k + 1, f, done, by omega, by omega, by go_num, by go_num, hown, hb, fun _ => ?_, fun h => ?_⟩
            · exact parted_on (H1.out hle) hf (by rw [length_toList]; exact hlt) (by rw [← getElem_toList s k hlt]; exact fun e => HC.out (by rw [e]))
            · omega
          case measure => simp [intOf]; omega
      · obtain rfl : k = s.size := by omega
        go_wp2_with (at_builtin; refine append_one rfl _ _ 34 rfl w.heap.size 9 i (.string ⟨#[]⟩) 16 Tryz.underlying34 hi hz0 hz1 hz2 rfl _ _ _ rfl hown _ rfl rfl (by decide) (by have := hlen.out; have := HS.out; omega) hsz ?_; intro v' w1 hown' hgrow)
        go_roundw
        case rel =>
          refine ⟨s.size + 1, s.size + 1, done ++ [(s.toList.drop f).take (s.size - f)], Nat.le_refl _, by omega, by go_num, by go_num, ?_, below_append hb (Nat.le_refl _) hsz hown hgrow, fun _ => ?_, fun h => ?_⟩
          · rw [extract_eq] at hown'; simpa [cellsOf] using hown'
          · omega
          · exact parted_end (H1.out hle) (length_toList s).symm
        case measure => simp [intOf]
    · go_wp2
      go_ret
      have e := H2.out (by omega)
      exact ⟨_, rfl, by rw [e]; exact hown, hb⟩
theorem split_bs (l : B) (c : UInt8) (w : World) (h : l.length ≤ 1099511627776) :
    Calls Tryz.prog 67 #[.string (bs l), .int .u8 c.toNat] w fun e w' => ∃ v, e = .returned v ∧ w'.ownsRow w.heap.size 9 1 v (split c l).length (cellsOf (split c l)) ∧ Below w.heap.size w w' := by
  have := split_any (bs l) c w (by rw [size_bs]; exact h)
  rwa [toList_bs] at this
end Go.Proofs.YtmlgajhhnojdjaaGreatDoor.RefE
/- What the document's own reader answers on where a line stands and which local has a name. Condition: the program lies in memory as it is kept. -/
namespace Go.Proofs.YtmlgajhhnojdjaaGreatDoor.RefF
open Go.RowKit Go.Proofs.YtmlgajhhnojdjaaGreatDoor.Spec Go.Proofs.YtmlgajhhnojdjaaGreatDoor.RefA Go.Proofs.YtmlgajhhnojdjaaGreatDoor.Aux

theorem inside_succ (p : RP) (k : Nat) (hk : k < p.lines.length) : p.inside (k + 1) = if word (p.line k) 0 = wBlock then true else if ends (word (p.line k) 0) then false else p.inside k := by
  unfold RP.inside
  rw [List.take_add_one, List.getElem?_eq_getElem hk]
  have : p.line k = p.lines[k] := by simp [RP.line, hk]
  rw [this, Option.toList_some, List.reverse_append, List.reverse_singleton, List.singleton_append, insideR]

set_option maxRecDepth 20000 in
set_option maxHeartbeats 1000000 in
theorem inside_any (p : RP) (a i : Nat) (w : World) (hp : ProgAt w a p) (hok : p.Ok) (hi : i ≤ p.lines.length) :
    Calls Tryz.prog 69 #[.pointer (some ⟨a, 0, none⟩), .int .i64 i] w fun e w' => e = .returned (.bool (p.inside i)) ∧ ∃ n, w' = w.drewN n := by
  have hsz := hok.size
  go_enter Tryz.func69, Tryz.ntmps69
  go_wp2
  go_loopw [5] (fun kk wr => ∃ k : Nat, k ≤ i ∧ kk = .int .i64 ((k : Int) - 1) ∧ Hid (p.inside i = p.inside k) ∧ ∃ n, wr = w.drewN n) (fun kk _ => (intOf kk + 1).toNat)
  case atStart => exact ⟨i, Nat.le_refl _, by go_num, rfl, 0, rfl⟩
  case round =>
    obtain ⟨k, hk, rfl, HI, n, rfl⟩ := hrel
    by_cases h0 : k = 0
    · subst h0
      go_wp2
      go_ret
      exact ⟨ret_bool (by rw [HI.out]; rfl), n, rfl⟩
    · obtain ⟨k, rfl⟩ : ∃ j, k = j + 1 := ⟨k - 1, by omega⟩
      have hkl : k < p.lines.length := by omega
      obtain ⟨g, cap, gl, capl, hc1, hc1', hc2, hc2', hw⟩ := hp.line_at k hkl
      have hw1 := hok.words k hkl
      have hw0 := hw 0 (by omega)
      have HS : Hid (_ = _) := inside_succ p k hkl
      go_wp2_with (go_at_call 85; refine (ends_bs _ _).mono ?_; rintro e w' ⟨rfl, rfl⟩)
      · go_ret
        exact ⟨ret_bool (by rw [HI.out, HS.out, if_pos (by simpa using ‹(word (p.line k) 0 == _) = true›)]), n, rfl⟩
      · go_ret
        exact ⟨ret_bool (by rw [HI.out, HS.out, if_neg (by simpa using ‹(word (p.line k) 0 == _) = false›), if_pos ‹_›]), n, rfl⟩
      · go_roundw
        case rel => exact ⟨k, by omega, rfl, by rw [HI.out, HS.out, if_neg (by simpa using ‹(word (p.line k) 0 == _) = false›), if_neg (by simp [*])]; rfl, n, rfl⟩
        case measure => simp [intOf]
end Go.Proofs.YtmlgajhhnojdjaaGreatDoor.RefF
/- What the document's own reader answers on which local has a name. Condition: the program lies in memory as it is kept. -/
namespace Go.Proofs.YtmlgajhhnojdjaaGreatDoor.RefG
open Go.RowKit Go.Proofs.YtmlgajhhnojdjaaGreatDoor.Spec Go.Proofs.YtmlgajhhnojdjaaGreatDoor.RefA Go.Proofs.YtmlgajhhnojdjaaGreatDoor.Aux

theorem find_step (p : RP) (name : B) (k : Nat) (hk : k < p.lets.length) : p.findGo name (p.lets.drop k) k = if word (p.line (p.lets.getD k 0)) 1 = name then (k : Int) else p.findGo name (p.lets.drop (k + 1)) (k + 1) := by
  rw [List.drop_eq_getElem_cons hk, RP.findGo]
  have : p.lets.getD k 0 = p.lets[k] := by simp [hk]
  rw [this]

set_option maxRecDepth 20000 in
set_option maxHeartbeats 1000000 in
theorem find_any (p : RP) (a : Nat) (name : B) (w : World) (hp : ProgAt w a p) (hok : p.Ok) :
    Calls Tryz.prog 110 #[.pointer (some ⟨a, 0, none⟩), .string (bs name)] w fun e w' => e = .returned (.int .i64 (p.find name)) ∧ ∃ n, w' = w.drewN n := by
  have hsz := hok.size
  have hln := hok.letn
  obtain ⟨bl, cl, hlen⟩ := hp.lets_len
  go_enter Tryz.func110, Tryz.ntmps110
  go_wp2
  go_loopw [5] (fun kk wr => ∃ k : Nat, k ≤ p.lets.length ∧ kk = .int .i64 k ∧ Hid (p.find name = p.findGo name (p.lets.drop k) k) ∧ ∃ n, wr = w.drewN n) (fun kk _ => p.lets.length - (intOf kk).toNat)
  case atStart => exact ⟨0, Nat.zero_le _, rfl, rfl, 0, rfl⟩
  case round =>
    obtain ⟨k, hk, rfl, HI, n, rfl⟩ := hrel
    by_cases hlt : k < p.lets.length
    · clear hlen
      obtain ⟨gt, ct, ht1, ht1', ht2⟩ := hp.let_at k hlt
      have hmem : p.lets.getD k 0 ∈ p.lets := by simp [hlt]
      obtain ⟨hl1, hl2⟩ := hok.lets _ hmem
      have HS : Hid (_ = _) := find_step p name k hlt
      generalize p.lets.getD k 0 = t at *
      obtain ⟨g, cap, gl, capl, hc1, hc1', hc2, hc2', hw⟩ := hp.line_at t hl1
      have hw1 := hw 1 (by omega)
      have ht0 : (t : Int) < p.lines.length := by omega
      have ht3 : (1 : Int) < (p.line t).length := by omega
      go_wp2
      go_quiet (fail)
      go_wp2
      · go_ret
        refine ⟨ret_int ?_, n + nq, by simp⟩
        rw [HI.out, HS.out, if_pos (by simpa using ‹(word (p.line t) 1 == name) = true›)]
      · go_roundw
        case rel => exact ⟨k + 1, by omega, by go_num, by rw [HI.out, HS.out, if_neg (by simpa using ‹(word (p.line t) 1 == name) = false›)]; rfl, n + nq, rfl⟩
        case measure => simp [intOf]; omega
    · go_wp2
      go_ret
      refine ⟨ret_int ?_, n, rfl⟩
      rw [HI.out, List.drop_eq_nil_of_le (by omega)]; rfl
end Go.Proofs.YtmlgajhhnojdjaaGreatDoor.RefG
/- What the document's own reader answers on a place's type. Condition: the program lies in memory as it is kept, and the place's local is there. -/
namespace Go.Proofs.YtmlgajhhnojdjaaGreatDoor.RefH
open Go.RowKit Go.Proofs.YtmlgajhhnojdjaaGreatDoor.Spec Go.Proofs.YtmlgajhhnojdjaaGreatDoor.RefA Go.Proofs.YtmlgajhhnojdjaaGreatDoor.RefB Go.Proofs.YtmlgajhhnojdjaaGreatDoor.RefG Go.Proofs.YtmlgajhhnojdjaaGreatDoor.Aux

theorem u8_beq (k : UInt8) (n : Nat) (hn : n < 256) : ((k.toNat : Int) == (n : Int)) = decide (k = UInt8.ofNat n) := by
  rw [Bool.eq_iff_iff, decide_eq_true_eq, u8_eq k n hn]; simp; omega
theorem typeOf_nat (p : RP) (l : B) : p.typeOf l =
    if (((partOf l).toNat : Int) == 97) = true ∨ (((partOf l).toNat : Int) == 98) = true then (if (!(p.typeW l == [112, 97, 105, 114])) = true then [] else [98, 111, 120])
    else if (((partOf l).toNat : Int) == 115) = true then (if (!(p.typeW l == [111, 112, 116])) = true then [] else [98, 111, 120]) else p.typeW l := by
  have e1 := u8_beq (partOf l) 97 (by omega); have e2 := u8_beq (partOf l) 98 (by omega); have e3 := u8_beq (partOf l) 115 (by omega)
  simp only [Int.cast_ofNat_Int] at e1 e2 e3
  rw [e1, e2, e3]
  simp only [decide_eq_true_eq, RP.typeOf, wPair, wOpt, wBox, Bool.not_eq_true', beq_eq_false_iff_ne, ne_eq, ite_not]
  rfl

set_option maxRecDepth 20000 in
set_option maxHeartbeats 1000000 in
theorem typeOf_any (p : RP) (a : Nat) (l : B) (w : World) (hp : ProgAt w a p) (hok : p.Ok) (hl : l.length ≤ maxLen) (hf : 0 ≤ p.find (localOf l)) :
    Calls Tryz.prog 113 #[.pointer (some ⟨a, 0, none⟩), .string (bs l)] w fun e w' => e = .returned (.string (bs (p.typeOf l))) ∧ ∃ n, w' = w.drewN n := by
  obtain ⟨j, hj, hjl, _⟩ := RP.find_lt hf
  have HT : Hid (p.typeW l = word (p.line (p.lets.getD j 0)) 2) := by unfold Hid RP.typeW; rw [hj]; rfl
  have hsz := hok.size
  have hln := hok.letn
  obtain ⟨gt, ct, ht1, ht1', ht2⟩ := hp.let_at j hjl
  have hmem : p.lets.getD j 0 ∈ p.lets := by simp [hjl]
  obtain ⟨hl1, hl2⟩ := hok.lets _ hmem
  generalize p.lets.getD j 0 = t at *
  obtain ⟨g, cap, gl, capl, hc1, hc1', hc2, hc2', hw⟩ := hp.line_at t hl1
  have hw1 := hw 2 (by omega)
  have ht0 : (t : Int) < p.lines.length := by omega
  have ht3 : (2 : Int) < (p.line t).length := by omega
  have hj0 : (j : Int) < p.lets.length := by omega
  have HF : ∀ n, Calls Tryz.prog 110 #[.pointer (some ⟨a, 0, none⟩), .string (bs (localOf l))] (w.drewN n) fun e w' => e = .returned (.int .i64 j) ∧ ∃ m, w' = w.drewN m := fun n =>
    (find_any p a (localOf l) (w.drewN n) (hp.drewN n) hok).mono fun e w' ⟨he, m, hm⟩ => ⟨by rw [he, hj], n + m, by rw [hm]; simp⟩
  clear hj hf
  go_enter Tryz.func113, Tryz.ntmps113
  go_wp2
  go_quiet ((first | (go_at_call 111; exact Calls.quiet_of_same (local_bs l _ hl)) | (go_at_call 110; exact HF _)))
  go_wp2_with (go_at_call 159; refine (part_bs l _ hl).mono ?_; rintro e w' ⟨rfl, rfl⟩)
  all_goals
    go_ret
    refine ⟨ret_str ?_, _, rfl⟩
    go_light
    rw [typeOf_nat, HT.out]
    simp [bs, *]
end Go.Proofs.YtmlgajhhnojdjaaGreatDoor.RefH
/- What the document's own ways answer on letters and spots. Conditions: the strings' lengths; the program lies in memory as it is kept. -/
namespace Go.Proofs.YtmlgajhhnojdjaaGreatDoor.RefO
open Go.RowKit Go.Proofs.YtmlgajhhnojdjaaGreatDoor.Spec Go.Proofs.YtmlgajhhnojdjaaGreatDoor.RefA Go.Proofs.YtmlgajhhnojdjaaGreatDoor.RefG Go.Proofs.YtmlgajhhnojdjaaGreatDoor.RefH Go.Proofs.YtmlgajhhnojdjaaGreatDoor.Aux

theorem left_bs (l : B) (w : World) (h : l.length ≤ maxLen) :
    Calls Tryz.prog 140 #[.string (bs l)] w fun e w' => e = .returned (.string (bs (left l))) ∧ w' = w := by
  have e3 := u8_beq (partOf l) 115 (by omega)
  simp only [Int.cast_ofNat_Int] at e3
  have HE : Hid (_ = _) := e3
  clear e3
  go_enter Tryz.func140, Tryz.ntmps140
  go_wp2_with (go_at_call 159; refine (part_bs l _ h).mono ?_; rintro e w' ⟨rfl, rfl⟩)
  all_goals
    go_ret
    refine ⟨ret_str ?_, rfl⟩
    have hE := HE.out
    simp_all [left, bs]

theorem conv_one (w : World) (c : UInt8) : (convert 93 9 (.slice (some ⟨w.heap.size, 0, none⟩) 1 1)).run Tryz.prog (w.alloc (.cells #[.int .u8 (c.toNat : Int)] 5)) = .ok (.string (bs [c])) (w.alloc (.cells #[.int .u8 (c.toNat : Int)] 5)) := by
  rw [run_convert_bytes_string (e := 5) _ _ _ _ _ _ Tryz.underlying93 Tryz.underlying5 Tryz.underlying9]
  rw [run_bytesToString (P := Tryz.prog) _ ⟨w.heap.size, 0, none⟩ 1 1 [(c.toNat : Int)] (by go_simp)]
  simp [bs]
  rfl
theorem not_take (s : ByteArray) (c : UInt8) (k : Nat) (hk : k < s.size) (h : c ∉ s.toList.take k) (hc : ¬ s[k].toNat = c.toNat) : c ∉ s.toList.take (k + 1) := by
  rw [List.take_add_one, getElem?_toList s k hk]
  simp only [Option.toList_some, List.mem_append, List.mem_singleton, not_or]
  exact ⟨h, fun e => hc (by rw [e])⟩
theorem with_in (s : ByteArray) (c : UInt8) (k : Nat) (hk : k < s.size) (hc : s[k].toNat = c.toNat) : withC s.toList c = s.toList := by
  rw [withC, if_pos]
  have : s[k] = c := UInt8.toNat_inj.mp hc
  rw [← this, getElem_toList s k hk]
  exact List.getElem_mem _
theorem with_out (s : ByteArray) (c : UInt8) (k : Nat) (hk : ¬ k < s.size) (h : c ∉ s.toList.take k) : withC s.toList c = s.toList ++ [c] := by
  rw [withC, if_neg]
  rwa [List.take_of_length_le (by rw [length_toList]; omega)] at h

set_option maxRecDepth 20000 in
set_option maxHeartbeats 1000000 in
theorem with_any (s : ByteArray) (c : UInt8) (w : World) (hs : s.size ≤ 1000) :
    Calls Tryz.prog 142 #[.string s, .int .u8 c.toNat] w fun e w' => e = .returned (.string (bs (withC s.toList c))) ∧ Below w.heap.size w w' := by
  go_enter Tryz.func142, Tryz.ntmps142
  go_wp2
  go_loopg [5] (s.size) (fun gk i wr => ∃ k : Nat, k ≤ s.size ∧ gk + k = s.size ∧ i = .int .i64 k ∧ wr = w ∧ Hid (c ∉ s.toList.take k))
  case atStart => exact ⟨0, Nat.zero_le _, rfl, rfl, rfl, by simp [Hid]⟩
  case round =>
    obtain ⟨k, hk, hgk, rfl, rfl, HM⟩ := hrel
    by_cases hlt : k < s.size
    · by_cases hc : s[k].toNat = c.toNat
      · have hcb : ((s[k].toNat : Int) == (c.toNat : Int)) = true := by simp [hc]
        have HC : Hid (s[k].toNat = c.toNat) := hc
        clear hc
        go_wp2
        go_ret
        exact ⟨ret_str (by rw [with_in s c k hlt HC.out, bs_toList]), Below.refl _ _⟩
      · have hcb : ((s[k].toNat : Int) == (c.toNat : Int)) = false := by simp; omega
        have HC : Hid (¬ s[k].toNat = c.toNat) := hc
        clear hc
        go_wp2
        go_roundg (s.size - (k + 1))
        case rel => exact ⟨k + 1, by omega, by omega, by go_num, rfl, not_take s c k hlt HM.out HC.out⟩
        case measure => omega
    · have kc := conv_one wr c
      have hx := with_out s c k hlt HM.out
      go_wp2
      go_ret
      refine ⟨ret_str ?_, (Below.refl _ _).alloc (Nat.le_refl _) _⟩
      rw [hx]
      apply eq_bs
      rw [append_toList, toList_bs]
theorem all_take (s : ByteArray) (f : UInt8 → Bool) (k : Nat) (hk : k < s.size) (h : (s.toList.take k).all f = true) (hc : f s[k] = true) : (s.toList.take (k + 1)).all f = true := by
  rw [List.take_add_one, getElem?_toList s k hk, List.all_append, h]
  simpa using hc
theorem only_end (s t : ByteArray) (k : Nat) (hk : ¬ k < s.size) (h : (s.toList.take k).all (fun c => has t.toList c) = true) : only s.toList t.toList = true := by
  rwa [List.take_of_length_le (by rw [length_toList]; omega)] at h
theorem only_no (s t : ByteArray) (k : Nat) (hk : k < s.size) (hc : has t.toList s[k] = false) : only s.toList t.toList = false := by
  rw [only, List.all_eq_false]
  exact ⟨s[k], by rw [getElem_toList s k hk]; exact List.getElem_mem _, by rw [hc]; decide⟩
theorem has_step (t : ByteArray) (c : UInt8) (j : Nat) (hj : j < t.size) : has (t.toList.take (j + 1)) c = (has (t.toList.take j) c || ((t[j].toNat : Int) == (c.toNat : Int))) := by
  rw [List.take_add_one, getElem?_toList t j hj]
  have e : ((t[j].toNat : Int) == (c.toNat : Int)) = (t[j] == c) := by
    rw [Bool.eq_iff_iff]; simp [← UInt8.toNat_inj]; omega
  rw [e, Bool.eq_iff_iff]
  simp only [has, Option.toList_some, List.contains_iff_mem, List.mem_append, List.mem_singleton, Bool.or_eq_true, beq_iff_eq]
  exact ⟨fun h => h.imp id Eq.symm, fun h => h.imp id Eq.symm⟩
theorem has_end (t : ByteArray) (c : UInt8) (j : Nat) (hj : ¬ j < t.size) : has (t.toList.take j) c = has t.toList c := by
  rw [List.take_of_length_le (by rw [length_toList]; omega)]
set_option maxRecDepth 20000 in
set_option maxHeartbeats 1000000 in
theorem only_any (s t : ByteArray) (w : World) (hs : s.size ≤ 1000) (ht : t.size ≤ 1000) :
    Calls Tryz.prog 186 #[.string s, .string t] w fun e w' => e = .returned (.bool (only s.toList t.toList)) ∧ ∃ n, w' = w.drewN n := by
  go_enter Tryz.func186, Tryz.ntmps186
  go_wp2
  go_loopg [5] (s.size) (fun gk i wr => ∃ k n : Nat, k ≤ s.size ∧ gk + k = s.size ∧ i = .int .i64 k ∧ wr = w.drewN n ∧ Hid ((s.toList.take k).all (fun c => has t.toList c) = true))
  case atStart => exact ⟨0, 0, Nat.zero_le _, rfl, rfl, rfl, rfl⟩
  case round =>
    obtain ⟨k, n, hk, hgk, rfl, rfl, HM⟩ := hrel
    by_cases hlt : k < s.size
    · go_wp2
      go_loopg [6, 7] (t.size) (fun gj b i wr => ∃ j m : Nat, j ≤ t.size ∧ gj + j = t.size ∧ i = .int .i64 j ∧ wr = w.drewN m ∧ b = .bool (has (t.toList.take j) s[k]))
      case atStart => exact ⟨0, n, Nat.zero_le _, rfl, rfl, rfl, by simp [has]⟩
      case round =>
        obtain ⟨j, m, hj, hgj, rfl, rfl, rfl⟩ := hrel
        by_cases hjt : j < t.size
        · have HS : Hid (_ = _) := has_step t s[k] j hjt
          cases hb : has (t.toList.take j) s[k]
          all_goals
            have HB : Hid (_ = _) := hb
            clear hb
            go_wp2
            go_quiet (fail)
            go_wp2
            go_roundg (t.size - (j + 1))
            case rel => exact ⟨j + 1, m + nq, by omega, by omega, by go_num, by simp, by rw [HS.out, HB.out]; rfl⟩
            case measure => omega
        · have HE : Hid (_ = _) := has_end t s[k] j hjt
          cases hb : has (t.toList.take j) s[k]
          · have HX : Hid (has t.toList s[k] = false) := by unfold Hid; rw [← HE.out, hb]
            clear hb
            go_wp2
            go_ret
            exact ⟨ret_bool (only_no s t k hlt HX.out).symm, m, rfl⟩
          · have HX : Hid (has t.toList s[k] = true) := by unfold Hid; rw [← HE.out, hb]
            clear hb
            go_wp2
            go_roundg (s.size - (k + 1))
            case rel => exact ⟨k + 1, m, by omega, by omega, by go_num, rfl, all_take s (fun c => has t.toList c) k hlt HM.out HX.out⟩
            case measure => omega
    · go_wp2
      go_ret
      exact ⟨ret_bool (only_end s t k hlt HM.out).symm, n, rfl⟩
end Go.Proofs.YtmlgajhhnojdjaaGreatDoor.RefO
/- What the document's own ways answer on spots and blocks. Conditions: the program lies in memory as it is kept; what is named is there. -/
namespace Go.Proofs.YtmlgajhhnojdjaaGreatDoor.RefP
open Go.RowKit Go.Proofs.YtmlgajhhnojdjaaGreatDoor.Spec Go.Proofs.YtmlgajhhnojdjaaGreatDoor.RefA Go.Proofs.YtmlgajhhnojdjaaGreatDoor.RefC Go.Proofs.YtmlgajhhnojdjaaGreatDoor.RefG Go.Proofs.YtmlgajhhnojdjaaGreatDoor.RefH Go.Proofs.YtmlgajhhnojdjaaGreatDoor.RefO Go.Proofs.YtmlgajhhnojdjaaGreatDoor.Aux

theorem ret_two {a b c d : Int} (h : a = c) (h' : b = d) : Ending.returned (.tuple #[.int .i64 a, .int .i64 b]) = .returned (.tuple #[.int .i64 c, .int .i64 d]) := by rw [h, h']
set_option maxRecDepth 20000 in
set_option maxHeartbeats 1000000 in
theorem spots_any (p : RP) (a : Nat) (l : B) (w : World) (hp : ProgAt w a p) (hok : p.Ok) (hl : l.length ≤ maxLen) (hf : 0 ≤ p.find (localOf l)) :
    Calls Tryz.prog 143 #[.pointer (some ⟨a, 0, none⟩), .string (bs l)] w fun e w' => e = .returned (.tuple #[.int .i64 ((p.spots l).1 : Int), .int .i64 ((p.spots l).2 : Int)]) ∧ ∃ n, w' = w.drewN n := by
  obtain ⟨j, hj, hjl, _⟩ := RP.find_lt hf
  have hln := hok.letn
  have HF : ∀ n, Calls Tryz.prog 110 #[.pointer (some ⟨a, 0, none⟩), .string (bs (localOf l))] (w.drewN n) fun e w' => e = .returned (.int .i64 j) ∧ ∃ m, w' = w.drewN m := fun n =>
    (find_any p a (localOf l) (w.drewN n) (hp.drewN n) hok).mono fun e w' ⟨he, m, hm⟩ => ⟨by rw [he, hj], n + m, by rw [hm]; simp⟩
  have HT : ∀ n, Calls Tryz.prog 113 #[.pointer (some ⟨a, 0, none⟩), .string (bs l)] (w.drewN n) fun e w' => e = .returned (.string (bs (p.typeOf l))) ∧ ∃ m, w' = w.drewN m := fun n =>
    (typeOf_any p a l (w.drewN n) (hp.drewN n) hok hl hf).mono fun e w' ⟨he, m, hm⟩ => ⟨he, n + m, by rw [hm]; simp⟩
  have HS : Hid (p.spots l = if partOf l = 98 then (2 * j + 1, 1) else if p.typeOf l = wPair then (2 * j, 2) else (2 * j, 1)) := by unfold Hid RP.spots; rw [hj]; rfl
  have e2 := u8_beq (partOf l) 98 (by omega)
  simp only [Int.cast_ofNat_Int] at e2
  have HE : Hid (_ = _) := e2
  clear hj hf e2
  obtain ⟨w0, rfl⟩ : ∃ w0 : World, w = w0.drewN 0 := ⟨w, rfl⟩
  go_enter Tryz.func143, Tryz.ntmps143
  go_wp2_with (first
    | (go_at_call 111; refine (local_bs l _ hl).mono ?_; rintro e w' ⟨rfl, rfl⟩)
    | (go_at_call 110; refine (HF _).mono ?_; rintro e w' ⟨rfl, n1, rfl⟩)
    | (go_at_call 159; refine (part_bs l _ hl).mono ?_; rintro e w' ⟨rfl, rfl⟩)
    | (go_at_call 113; refine (HT _).mono ?_; rintro e w' ⟨rfl, n2, rfl⟩))
  · go_ret2
    have hx : partOf l = 98 := by have h1 := HE.out; rw [‹(((partOf l).toNat : Int) == 98) = true›] at h1; simpa using h1.symm
    exact ⟨ret_two (by rw [HS.out, if_pos hx]; rfl) (by rw [HS.out, if_pos hx]; rfl), n1, by simp⟩
  · go_ret2
    have hx : ¬ partOf l = 98 := by have h1 := HE.out; rw [‹(((partOf l).toNat : Int) == 98) = false›] at h1; simpa using h1.symm
    have hy : p.typeOf l = wPair := by simpa [wPair] using ‹(p.typeOf l == _) = true›
    exact ⟨ret_two (by rw [HS.out, if_neg hx, if_pos hy]; rfl) (by rw [HS.out, if_neg hx, if_pos hy]; rfl), n2, by simp⟩
  · go_ret2
    have hx : ¬ partOf l = 98 := by have h1 := HE.out; rw [‹(((partOf l).toNat : Int) == 98) = false›] at h1; simpa using h1.symm
    have hy : ¬ p.typeOf l = wPair := by simpa [wPair] using ‹(p.typeOf l == _) = false›
    exact ⟨ret_two (by rw [HS.out, if_neg hx, if_neg hy]; rfl) (by rw [HS.out, if_neg hx, if_neg hy]; rfl), n2, by simp⟩

set_option maxRecDepth 20000 in
set_option maxHeartbeats 1000000 in
theorem block_any (p : RP) (a : Nat) (l : B) (n : Nat) (w : World) (hp : ProgAt w a p) (hok : p.Ok) (hl : l.length ≤ maxLen) (hn : number l = some (n : Int)) (hb : n < p.blocks.length) :
    Calls Tryz.prog 89 #[.pointer (some ⟨a, 0, none⟩), .string (bs l)] w fun e w' => e = .returned (.int .i64 (p.blocks.getD n 0)) ∧ ∃ m, w' = w.drewN m := by
  obtain ⟨g, c, h1, h1', h2⟩ := hp.block_at n hb
  have hbn := hok.blockn
  have HN := number_bs l w hl
  rw [hn] at HN
  have hb0 : (n : Int) < p.blocks.length := by omega
  clear hn
  go_enter Tryz.func89, Tryz.ntmps89
  go_wp2_with (go_at_call 112; refine HN.mono ?_; rintro e w' ⟨rfl, rfl⟩)
  go_ret
  exact ⟨ret_int (by simp [hb]), 0, rfl⟩
end Go.Proofs.YtmlgajhhnojdjaaGreatDoor.RefP
/- What the document's own ways answer on whether a place is there. Conditions: the program lies in memory as it is kept; the place's local is one of twelve. -/
namespace Go.Proofs.YtmlgajhhnojdjaaGreatDoor.RefQ
open Go.RowKit Go.Proofs.YtmlgajhhnojdjaaGreatDoor.Spec Go.Proofs.YtmlgajhhnojdjaaGreatDoor.RefA Go.Proofs.YtmlgajhhnojdjaaGreatDoor.RefC Go.Proofs.YtmlgajhhnojdjaaGreatDoor.RefG Go.Proofs.YtmlgajhhnojdjaaGreatDoor.RefH Go.Proofs.YtmlgajhhnojdjaaGreatDoor.RefO Go.Proofs.YtmlgajhhnojdjaaGreatDoor.RefP Go.Proofs.YtmlgajhhnojdjaaGreatDoor.Aux

set_option maxRecDepth 20000 in
set_option maxHeartbeats 1000000 in
theorem there_any (p : RP) (a : Nat) (s : WS) (l : B) (w : World) (hp : ProgAt w a p) (hok : p.Ok) (hs : s.Ok) (hl : l.length ≤ maxLen) (hf : 0 ≤ p.find (localOf l)) (h12 : p.lets.length ≤ 12) :
    Calls Tryz.prog 138 #[.pointer (some ⟨a, 0, none⟩), s.val, .string (bs l)] w fun e w' => e = .returned (.bool (p.there s l)) ∧ Below w.heap.size w w' := by
  obtain ⟨j, hj, hjl, _⟩ := RP.find_lt hf
  obtain ⟨hb1, hb2⟩ := RP.spots_bound hj
  have hW : Below w.heap.size w (w.alloc (.cells s.cells.toArray 155)) := (Below.refl _ _).alloc (Nat.le_refl _) _
  have hPA := hp.below hW
  have HC : Hid (∀ k, k < 24 → (w.alloc (.cells s.cells.toArray 155)).cell? ⟨w.heap.size, 1 + k, none⟩ = some (.string (bs (s.at k)))) := fun k hk => by
    have := WS.cells_at hs k hk
    rw [cell_of_heap (cs := s.cells.toArray) (e := 155) (f := (0, 0)) (by show (w.heap.push _)[w.heap.size]? = _; simp)]
    simpa using this
  have HT : ∀ n, Calls Tryz.prog 113 #[.pointer (some ⟨a, 0, none⟩), .string (bs l)] ((w.alloc (.cells s.cells.toArray 155)).drewN n) fun e w' => e = .returned (.string (bs (p.typeOf l))) ∧ ∃ m, w' = (w.alloc (.cells s.cells.toArray 155)).drewN m := fun n =>
    (typeOf_any p a l _ (hPA.drewN n) hok hl hf).mono fun e w' ⟨he, m, hm⟩ => ⟨he, n + m, by rw [hm]; simp⟩
  have HSP : ∀ n, Calls Tryz.prog 143 #[.pointer (some ⟨a, 0, none⟩), .string (bs l)] ((w.alloc (.cells s.cells.toArray 155)).drewN n) fun e w' => e = .returned (.tuple #[.int .i64 ((p.spots l).1 : Int), .int .i64 ((p.spots l).2 : Int)]) ∧ ∃ m, w' = (w.alloc (.cells s.cells.toArray 155)).drewN m := fun n =>
    (spots_any p a l _ (hPA.drewN n) hok hl hf).mono fun e w' ⟨he, m, hm⟩ => ⟨he, n + m, by rw [hm]; simp⟩
  have HTh : Hid (p.there s l = thereGo s (p.some l) ((p.spots l).1 + (p.spots l).2 - (p.spots l).1) (p.spots l).1) := by unfold Hid RP.there; rw [Nat.add_sub_cancel_left]
  have hfew := hs.few
  have hsome : (bs (p.some l)).size ≤ 1000 := by rw [size_bs]; unfold RP.some; split <;> simp
  have HSM : Hid (p.some l = if p.typeOf l = wOpt then [110, 119] else [119]) := rfl
  have h24 : (p.spots l).1 + (p.spots l).2 ≤ 24 := by omega
  unfold WS.val
  clear hf hj hb1 hjl
  go_enter Tryz.func138, Tryz.ntmps138
  go_wp2_with fail
  refine (HT 0).mono ?_
  rintro e w' ⟨rfl, n1, rfl⟩
  have hbw : ∀ n, Below w.heap.size w ((w.alloc (.cells s.cells.toArray 155)).drewN n) := fun n => below_drewN hW n
  have hcells : ∀ k, k < 24 → (w.alloc (.cells s.cells.toArray 155)).cell? ⟨w.heap.size, 1 + k, none⟩ = some (.string (bs (s.at k))) := HC.out
  clear HC HT hW hPA hp
  generalize w.alloc (.cells s.cells.toArray 155) = W at *
  go_upto_if 17 with fail
  go_cut [8] (fun v wc => wc = W.drewN n1 ∧ v = .string (bs (p.some l)))
  case first =>
    go_wp2
    · go_meet
      case rel => exact ⟨rfl, by rw [HSM.out, if_pos (by simpa [wOpt] using ‹(p.typeOf l == _) = true›)]; rfl⟩
    · go_meet
      case rel => exact ⟨rfl, by rw [HSM.out, if_neg (by simpa [wOpt] using ‹(p.typeOf l == _) = false›)]; rfl⟩
  case rest =>
    obtain ⟨rfl, rfl⟩ := hcut
    go_wp2_with (go_at_call 143; refine (HSP _).mono ?_; rintro e w' ⟨rfl, n2, rfl⟩)
    clear HSP
    generalize (p.spots l).1 = i0 at *
    generalize (p.spots l).2 = m0 at *
    go_loopg [11] (m0) (fun gk i wr => ∃ k n : Nat, k ≤ i0 + m0 ∧ gk + k = i0 + m0 ∧ i = .int .i64 k ∧ wr = W.drewN n ∧ Hid (p.there s l = thereGo s (p.some l) (i0 + m0 - k) k))
    case atStart => exact ⟨i0, n2, by omega, by omega, rfl, rfl, HTh⟩
    case round =>
      obtain ⟨k, n, hk, hgk, rfl, rfl, HI⟩ := hrel
      by_cases hlt : k < i0 + m0
      · have HS : Hid (_ = _) := thereGo_step s (p.some l) i0 m0 k hlt
        have hck := hcells k (by omega)
        have hk24 : (k : Int) < 24 := by omega
        have HO := only_any (bs (s.at k)) (bs (p.some l)) (W.drewN n) (by rw [size_bs]; exact hfew k) hsome
        rw [toList_bs, toList_bs] at HO
        clear hcells
        cases ho : only (s.at k) (p.some l)
        · rw [ho] at HO
          have hx : p.there s l = false := by rw [HI.out, HS.out, ho]; rfl
          clear ho
          go_wp2_with (go_at_call 186; refine HO.mono ?_; rintro e w' ⟨rfl, n3, rfl⟩)
          go_ret
          exact ⟨ret_bool hx.symm, hbw _⟩
        · rw [ho] at HO
          have hx : Hid (thereGo s (p.some l) (i0 + m0 - k) k = thereGo s (p.some l) (i0 + m0 - (k + 1)) (k + 1)) := by unfold Hid; rw [HS.out, ho]; rfl
          clear ho
          go_wp2_with (go_at_call 186; refine HO.mono ?_; rintro e w' ⟨rfl, n3, rfl⟩)
          go_roundg (i0 + m0 - (k + 1))
          case rel => exact ⟨k + 1, n + n3, by omega, by omega, by go_num, by simp, by rw [HI.out, hx.out]; rfl⟩
          case measure => omega
      · have hx : p.there s l = true := by rw [HI.out, show i0 + m0 - k = 0 by omega]; rfl
        go_wp2
        go_ret
        exact ⟨ret_bool hx.symm, hbw _⟩
end Go.Proofs.YtmlgajhhnojdjaaGreatDoor.RefQ
/- Plain definitions: a place is in one way. -/
namespace Go.Proofs.YtmlgajhhnojdjaaGreatDoor.Spec
open Go Go.Proofs.YtmlgajhhnojdjaaGreatDoor.Aux
def nowGo (c : B) : Nat → Nat → WS → WS
  | 0, _, s => s
  | m + 1, k, s => nowGo c m (k + 1) (WS.set s k c)
def RP.now (p : RP) (s : WS) (l c : B) : WS := nowGo c (p.spots l).2 (p.spots l).1 s
def zeroWS : WS := ⟨false, List.replicate 24 []⟩
theorem zeroWS_ok : zeroWS.Ok := ⟨rfl, fun k => by
  unfold WS.at zeroWS
  simp only [List.getD_eq_getElem?_getD, List.getElem?_replicate]
  split <;> simp⟩
theorem nowGo_step (c : B) (i n k : Nat) (s : WS) (hk : k < i + n) : nowGo c (i + n - k) k s = nowGo c (i + n - (k + 1)) (k + 1) (WS.set s k c) := by
  rw [show i + n - k = (i + n - (k + 1)) + 1 by omega, nowGo]
theorem nowGo_ok (c : B) (hc : c.length ≤ 1000) : ∀ (m k : Nat) (s : WS), s.Ok → (nowGo c m k s).Ok
  | 0, _, _, h => h
  | m + 1, k, _, h => nowGo_ok c hc m (k + 1) _ (WS.set_ok h k hc)
theorem RP.now_ok (p : RP) {s : WS} (hs : s.Ok) (l : B) {c : B} (hc : c.length ≤ 1000) : (p.now s l c).Ok := nowGo_ok c hc _ _ _ hs
end Go.Proofs.YtmlgajhhnojdjaaGreatDoor.Spec
/- What the document's own ways make of a place that is in one way. Conditions: the program lies in memory as it is kept; the place's local is one of twelve. -/
namespace Go.Proofs.YtmlgajhhnojdjaaGreatDoor.RefR
open Go.RowKit Go.Proofs.YtmlgajhhnojdjaaGreatDoor.Spec Go.Proofs.YtmlgajhhnojdjaaGreatDoor.RefA Go.Proofs.YtmlgajhhnojdjaaGreatDoor.RefC Go.Proofs.YtmlgajhhnojdjaaGreatDoor.RefG Go.Proofs.YtmlgajhhnojdjaaGreatDoor.RefH Go.Proofs.YtmlgajhhnojdjaaGreatDoor.RefO Go.Proofs.YtmlgajhhnojdjaaGreatDoor.RefP Go.Proofs.YtmlgajhhnojdjaaGreatDoor.Aux

theorem info_ways : (Tryz.prog.info? 155).map (·.size) = some 25 := by kernel_rfl
theorem info_ways_of {s : WS} (h : s.Ok) : (Tryz.prog.info? 155).map (·.size) = some s.cells.length := by rw [WS.cells_length h]; exact info_ways
theorem info_ways_arr {s : WS} (h : s.Ok) : (Tryz.prog.info? 155).map (·.size) = some s.cells.toArray.size := by simpa using info_ways_of h

set_option maxRecDepth 20000 in
set_option maxHeartbeats 1000000 in
theorem now_any (p : RP) (a : Nat) (s : WS) (l c : B) (w : World) (hp : ProgAt w a p) (hok : p.Ok) (hs : s.Ok) (hl : l.length ≤ maxLen) (hc : c.length ≤ 1000) (hf : 0 ≤ p.find (localOf l)) (h12 : p.lets.length ≤ 12) :
    Calls Tryz.prog 88 #[.pointer (some ⟨a, 0, none⟩), s.val, .string (bs l), .string (bs c)] w fun e w' => e = .returned (p.now s l c).val ∧ Below w.heap.size w w' := by
  obtain ⟨j, hj, hjl, _⟩ := RP.find_lt hf
  obtain ⟨hb1, hb2⟩ := RP.spots_bound hj
  have h24 : (p.spots l).1 + (p.spots l).2 ≤ 24 := by omega
  have hW0 : Below w.heap.size w ((w.alloc (.cells s.cells.toArray 155)).alloc (.cells zeroWS.cells.toArray 155)) := ((Below.refl _ _).alloc (Nat.le_refl _) _).alloc (by simp) _
  have hA : WayAt ((w.alloc (.cells s.cells.toArray 155)).alloc (.cells zeroWS.cells.toArray 155)) w.heap.size s := (WayAt.new w s).below (below_alloc _ _)
  have hZ : WayAt ((w.alloc (.cells s.cells.toArray 155)).alloc (.cells zeroWS.cells.toArray 155)) (w.heap.size + 1) zeroWS := by
    have := WayAt.new (w.alloc (.cells s.cells.toArray 155)) zeroWS
    simpa using this
  have HSP := spots_any p a l _ (hp.below hW0) hok hl hf
  have HNW : Hid (p.now s l c = nowGo c ((p.spots l).1 + (p.spots l).2 - (p.spots l).1) (p.spots l).1 s) := by unfold Hid RP.now; rw [Nat.add_sub_cancel_left]
  have HOK : Hid ((p.now s l c).Ok) := p.now_ok hs l hc
  unfold WS.val
  clear hf hj hb1 hjl hp
  go_enter Tryz.func88, Tryz.ntmps88
  go_wp2_with fail
  refine HSP.mono ?_
  rintro e w' ⟨rfl, n1, rfl⟩
  replace hW0 := below_drewN hW0 n1
  replace hA := hA.drewN n1
  replace hZ := hZ.drewN n1
  clear HSP
  generalize World.drewN _ n1 = W at *
  go_wp2
  generalize (p.spots l).1 = i0 at *
  generalize (p.spots l).2 = m0 at *
  go_loopg [11] (m0) (fun gk i wr => ∃ (k : Nat) (sk : WS), k ≤ i0 + m0 ∧ gk + k = i0 + m0 ∧ i = .int .i64 k ∧ WayAt wr w.heap.size sk ∧ WayAt wr (w.heap.size + 1) zeroWS ∧ Below w.heap.size w wr ∧ Hid (sk.Ok) ∧ Hid (p.now s l c = nowGo c (i0 + m0 - k) k sk))
  case atStart => exact ⟨i0, s, by omega, by omega, rfl, hA, hZ, hW0, hs, HNW⟩
  case round =>
    clear hA hZ hW0 HNW
    obtain ⟨k, sk, hk, hgk, rfl, hA, hZ, hB, HKO, HI⟩ := hrel
    by_cases hlt : k < i0 + m0
    · have HS : Hid (_ = _) := nowGo_step c i0 m0 k sk hlt
      have hck := hA.cell HKO.out k (by omega)
      have hfk := hA.frozen (1 + k)
      have hk24 : (k : Int) < 24 := by omega
      go_wp2
      go_roundg (i0 + m0 - (k + 1))
      case rel =>
        exact ⟨k + 1, WS.set sk k c, by omega, by omega, by go_num, hA.set k c, hZ.setOther (by simp) _, hB.setCell (Nat.le_refl _) _, WS.set_ok HKO.out k hc, by rw [HI.out, HS.out]; rfl⟩
      case measure => omega
    · have HX : Hid (p.now s l c = sk) := by unfold Hid; rw [HI.out, show i0 + m0 - k = 0 by omega]; rfl
      have hr := hA.range
      have ht : wr.there (w.heap.size + 1) 0 sk.cells.toArray.size := by
        have := hZ.there zeroWS_ok
        have hlen := WS.cells_length HKO.out
        rwa [← hlen, ← List.size_toArray] at this
      go_wp2_with (first
        | (refine wpList_load_mid rfl 155 _ rfl w.heap.size 0 rfl sk.cells _ hr Tryz.underlying155 rfl (info_ways_of HKO.out) ?_)
        | (refine wpList_store_mid rfl 155 _ _ rfl (w.heap.size + 1) 0 sk.cells.toArray rfl rfl ht (info_ways_arr HKO.out) (all_oneCell_toArray (WS.cells_one sk)) ?_))
      refine bodyPost_ret (results_cell Tryz.results88 _ _ _ (w.heap.size + 1) sk.cells _ rfl (hZ.store zeroWS_ok HKO.out).range Tryz.underlying155 rfl (info_ways_of HKO.out)) rfl ⟨?_, below_setCells hB (by omega) _ _⟩
      rw [HX.out]
end Go.Proofs.YtmlgajhhnojdjaaGreatDoor.RefR
/- What the document's own ways answer on whether a place may be written. Conditions: the program lies in memory as it is kept; the place's local is one of twelve. -/
namespace Go.Proofs.YtmlgajhhnojdjaaGreatDoor.RefS
open Go.RowKit Go.Proofs.YtmlgajhhnojdjaaGreatDoor.Spec Go.Proofs.YtmlgajhhnojdjaaGreatDoor.RefA Go.Proofs.YtmlgajhhnojdjaaGreatDoor.RefC Go.Proofs.YtmlgajhhnojdjaaGreatDoor.RefG Go.Proofs.YtmlgajhhnojdjaaGreatDoor.RefH Go.Proofs.YtmlgajhhnojdjaaGreatDoor.RefO Go.Proofs.YtmlgajhhnojdjaaGreatDoor.RefP Go.Proofs.YtmlgajhhnojdjaaGreatDoor.RefR Go.Proofs.YtmlgajhhnojdjaaGreatDoor.Aux

def writable (p : RP) (s : WS) (l : B) : Bool := !(partOf l == 115) || only (s.at (p.spots l).1) [119, 104]
theorem writable_nat (p : RP) (s : WS) (l : B) : writable p s l = ((!(((partOf l).toNat : Int) == 115)) || only (s.at (p.spots l).1) [119, 104]) := by
  have e3 := u8_beq (partOf l) 115 (by omega)
  simp only [Int.cast_ofNat_Int] at e3
  rw [writable, e3]
  rfl
set_option maxRecDepth 20000 in
set_option maxHeartbeats 1000000 in
theorem writable_any (p : RP) (a : Nat) (s : WS) (l : B) (w : World) (hp : ProgAt w a p) (hok : p.Ok) (hs : s.Ok) (hl : l.length ≤ maxLen) (hf : 0 ≤ p.find (localOf l)) (h12 : p.lets.length ≤ 12) :
    Calls Tryz.prog 139 #[.pointer (some ⟨a, 0, none⟩), s.val, .string (bs l)] w fun e w' => e = .returned (.bool (writable p s l)) ∧ Below w.heap.size w w' := by
  obtain ⟨j, hj, hjl, _⟩ := RP.find_lt hf
  obtain ⟨hb1, hb2⟩ := RP.spots_bound hj
  have h24 : (p.spots l).1 < 24 := by omega
  have hW0 : Below w.heap.size w (w.alloc (.cells s.cells.toArray 155)) := below_alloc _ _
  have hA := WayAt.new w s
  have HSP := spots_any p a l _ (hp.below hW0) hok hl hf
  have HWR : Hid (_ = _) := writable_nat p s l
  have hfew := hs.few
  unfold WS.val
  clear hf hj hb1 hjl hp
  go_enter Tryz.func139, Tryz.ntmps139
  go_wp2_with fail
  refine HSP.mono ?_
  rintro e w' ⟨rfl, n1, rfl⟩
  replace hW0 := below_drewN hW0 n1
  replace hA := hA.drewN n1
  clear HSP
  generalize World.drewN _ n1 = W at *
  generalize (p.spots l).1 = i0 at *
  have hck := hA.cell hs i0 h24
  have hk24 : (i0 : Int) < 24 := by omega
  have HO := only_any (bs (s.at i0)) (bs [119, 104]) W (by rw [size_bs]; exact hfew i0) (by simp)
  rw [toList_bs, toList_bs] at HO
  go_wp2_with (first
    | (go_at_call 186; refine HO.mono ?_; rintro e w' ⟨rfl, n2, rfl⟩)
    | (go_at_call 159; refine (part_bs l _ hl).mono ?_; rintro e w' ⟨rfl, rfl⟩))
  all_goals
    go_ret
    refine ⟨ret_bool ?_, below_drewN hW0 _⟩
    rw [HWR.out]
    simp [*]
end Go.Proofs.YtmlgajhhnojdjaaGreatDoor.RefS
