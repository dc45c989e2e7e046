/- What the project's reader answers on numbers, names and places. -/
import Derived.Test.YtmlgajhhnojdjaaGreatDoorSAF
import Derived.Test.YtmlgajhhnojdjaaGreatDoorProg
import Derived.Test.YtmlgajhhnojdjaaGreatDoorSAA
import Derived.Outline
import Derived.WalkSmall
import Derived.WalkKit
namespace Go.Proofs.YtmlgajhhnojdjaaGreatDoor.PrjH
open Go Go.RowKit Go.Proofs.YtmlgajhhnojdjaaGreatDoor.Spec Go.Proofs.YtmlgajhhnojdjaaGreatDoor.PrjF Go.Proofs.YtmlgajhhnojdjaaGreatDoor.PrjG

theorem digitsP_le {l : B} {n : Int} (h : digitsP l = some n) : 0 ≤ n ∧ n ≤ 1000000000 := by
  refine ⟨digitsP_ge h, ?_⟩
  cases l with
  | nil => cases h
  | cons c r =>
    rw [digitsP] at h
    split at h
    · rename_i hd
      exact ((parse_digits (r := r) hd.1).1 n h).2
    · cases h
theorem digitsD_le (l : B) : 0 ≤ (digitsP l).getD 0 ∧ (digitsP l).getD 0 ≤ 1000000000 := by
  cases h : digitsP l with
  | none => simp
  | some n => simpa using digitsP_le h
theorem prefix_cases (l : B) : (∃ r, l = 45 :: r ∧ Lib.trimPrefix l [45] = r ∧ Lib.hasPrefix l [45] = true) ∨ ((∀ r, l ≠ 45 :: r) ∧ Lib.trimPrefix l [45] = l ∧ Lib.hasPrefix l [45] = false) := by
  cases l with
  | nil => right; exact ⟨by simp, rfl, rfl⟩
  | cons c r =>
    by_cases h : c = 45
    · subst h; left; exact ⟨r, rfl, rfl, rfl⟩
    · right
      have hp : Lib.hasPrefix (c :: r) [45] = false := by
        simp [Lib.hasPrefix, List.isPrefixOf]; exact fun e => h e.symm
      exact ⟨by intro r' e; simp only [List.cons.injEq] at e; exact h e.1, by simp [Lib.trimPrefix, hp], hp⟩
theorem numberP_other {l : B} (h : ∀ r, l ≠ 45 :: r) : numberP l = digitsP l := by
  cases l with
  | nil => rfl
  | cons c r => rw [numberP, if_neg (fun e => h r (by rw [e]))]
theorem lit_bs (l : B) : (⟨l.toArray⟩ : ByteArray) = bs l := rfl

set_option maxRecDepth 20000 in
theorem numberOf_any (l : B) (w : World) (h : l.length ≤ 1099511627776) (E : Env w) :
    Calls Tryz.prog 203 #[.string (bs l)] w fun e w' => e = .returned (.tuple #[.int .i64 ((numberP l).getD 0), .bool (numberP l).isSome]) ∧ Below w.heap.size w w' := by
  have hdl : (bs l).data.toList = l := by simp [bs]
  have K := Tryz.strings_CutPrefix (bs l) ⟨#[45]⟩ w
  rw [hdl] at K
  have h45 : (⟨#[45]⟩ : ByteArray).data.toList = [45] := rfl
  rw [h45] at K
  rcases prefix_cases l with ⟨r, rfl, h1, h2⟩ | ⟨hne, h1, h2⟩
  · rw [h1, h2] at K
    have D := digitsOf_any r w (by simp at h; omega) E
    obtain ⟨d1, d2⟩ := digitsD_le r
    have hN : numberP (45 :: r) = (match digitsP r with | none => none | some n => if n = 0 then none else some (-n)) := by rw [numberP, if_pos rfl]; cases digitsP r <;> rfl
    rw [hN]
    clear h1 h2 hN hdl
    cases hd : digitsP r with
    | none =>
      rw [hd] at D
      go_enter Tryz.func203, Tryz.ntmps203
      go_wp2_with (first | (go_at_call 228; refine K.mono ?_; rintro e w1 ⟨rfl, rfl⟩) | (go_at_call 229; refine D.mono ?_; rintro e w1 ⟨rfl, hb⟩))
      go_ret2
      exact ⟨rfl, hb⟩
    | some n =>
      rw [hd] at D d1 d2
      simp only [Option.getD_some] at d1 d2
      by_cases hn : n = 0
      · subst hn
        go_enter Tryz.func203, Tryz.ntmps203
        go_wp2_with (first | (go_at_call 228; refine K.mono ?_; rintro e w1 ⟨rfl, rfl⟩) | (go_at_call 229; refine D.mono ?_; rintro e w1 ⟨rfl, hb⟩))
        go_ret2
        exact ⟨rfl, hb⟩
      · have hn' : (n == 0) = false := by simp [hn]
        go_enter Tryz.func203, Tryz.ntmps203
        go_wp2_with (first | (go_at_call 228; refine K.mono ?_; rintro e w1 ⟨rfl, rfl⟩) | (go_at_call 229; refine D.mono ?_; rintro e w1 ⟨rfl, hb⟩))
        go_ret2
        exact ⟨ret_num (by simp) (by simp [hn]), hb⟩
  · rw [h1, h2] at K
    have D := digitsOf_any l w h E
    rw [numberP_other hne]
    clear h1 h2 hne hdl
    go_enter Tryz.func203, Tryz.ntmps203
    go_wp2_with (first | (go_at_call 228; refine K.mono ?_; rintro e w1 ⟨rfl, rfl⟩) | (go_at_call 229; refine D.mono ?_; rintro e w1 ⟨rfl, hb⟩))
    go_ret2
    exact ⟨rfl, hb⟩
set_option maxRecDepth 20000 in
theorem blockOf_any (l : B) (w : World) (h : l.length ≤ 1099511627776) (E : Env w) :
    Calls Tryz.prog 205 #[.string (bs l)] w fun e w' => e = .returned (.tuple #[.int .i64 ((digitsP l).getD 0), .bool (digitsP l).isSome]) ∧ Below w.heap.size w w' := by
  have D := digitsOf_any l w h E
  obtain ⟨d1, d2⟩ := digitsD_le l
  go_enter Tryz.func205, Tryz.ntmps205
  go_wp2_with (go_at_call 229; refine D.mono ?_; rintro e w1 ⟨rfl, hb⟩)
  go_ret2
  exact ⟨rfl, hb⟩
def flagOk (l : B) : Bool := match digitsP l with | some n => decide (n < 50) | none => false
set_option maxRecDepth 20000 in
theorem flagOf_any (l : B) (w : World) (h : l.length ≤ 1099511627776) (E : Env w) :
    Calls Tryz.prog 204 #[.string (bs l)] w fun e w' => e = .returned (.tuple #[.int .i64 ((digitsP l).getD 0), .bool (flagOk l)]) ∧ Below w.heap.size w w' := by
  have D := digitsOf_any l w h E
  obtain ⟨d1, d2⟩ := digitsD_le l
  unfold flagOk
  cases hd : digitsP l with
  | none =>
    rw [hd] at D
    go_enter Tryz.func204, Tryz.ntmps204
    go_wp2_with (go_at_call 229; refine D.mono ?_; rintro e w1 ⟨rfl, hb⟩)
    go_ret2
    exact ⟨rfl, hb⟩
  | some n =>
    rw [hd] at D d1 d2
    simp only [Option.getD_some] at d1 d2
    by_cases hn : n < 50
    all_goals
      go_enter Tryz.func204, Tryz.ntmps204
      go_wp2_with (go_at_call 229; refine D.mono ?_; rintro e w1 ⟨rfl, hb⟩)
      go_ret2
      exact ⟨ret_num rfl (by simp [hn]), hb⟩
end Go.Proofs.YtmlgajhhnojdjaaGreatDoor.PrjH
/- What the document's own reader (package stowref) answers on words: names, numbers, places. No conditions but the strings' lengths. -/
namespace Go.Proofs.YtmlgajhhnojdjaaGreatDoor.RefA
open Go.RowKit Go.Proofs.YtmlgajhhnojdjaaGreatDoor.Spec

theorem ret_bool {a b : Bool} (h : a = b) : Ending.returned (.bool a) = .returned (.bool b) := by rw [h]

theorem name_yes (s : ByteArray) (k : Nat) (h : s.toList.take k |>.all lower) (hk : ¬ k < s.size) : isName s.toList = (decide (1 ≤ s.size) && decide (s.size ≤ 4)) := by
  rw [List.take_of_length_le (by rw [length_toList]; omega)] at h
  simp [isName, h, length_toList]
theorem name_no (s : ByteArray) (k : Nat) (hk : k < s.size) (h : s[k].toNat < 97 ∨ 122 < s[k].toNat) : isName s.toList = false := by
  have hm : s[k] ∈ s.toList := by rw [getElem_toList s k hk]; exact List.getElem_mem _
  have : s.toList.all lower = false := by
    rw [List.all_eq_false]
    exact ⟨_, hm, by simp [lower]; omega⟩
  simp [isName, this]
theorem name_go (s : ByteArray) (k : Nat) (hk : k < s.size) (h : (s.toList.take k).all lower = true) (h1 : (97 : Int) ≤ s[k].toNat) (h2 : (s[k].toNat : Int) ≤ 122) : (s.toList.take (k + 1)).all lower = true := by
  rw [List.take_add_one, getElem?_toList s k hk, List.all_append, h]
  simp [lower]; omega

set_option maxHeartbeats 400000 in
theorem isName_any (s : ByteArray) (w : World) (hs : s.size ≤ maxLen) :
    Calls Tryz.prog 108 #[.string s] w fun e w' => e = .returned (.bool (isName s.toList)) ∧ w' = w := by
  unfold maxLen at hs
  go_enter Tryz.func108, Tryz.ntmps108
  go_wp2
  go_loop [3] (fun i => ∃ k : Nat, k ≤ s.size ∧ i = .int .i64 k ∧ Hid ((s.toList.take k).all lower = true)) (fun i => s.size - (intOf i).toNat)
  case atStart => exact ⟨0, Nat.zero_le _, rfl, rfl⟩
  case round =>
    obtain ⟨k, hk, rfl, hall⟩ := hrel
    by_cases hlt : k < s.size
    · go_wp2
      · go_ret
        exact ⟨ret_bool (name_no s k hlt (by omega)).symm, rfl⟩
      · go_round
        case rel => exact ⟨k + 1, by omega, by go_num, name_go s k hlt hall.out (by omega) (by omega)⟩
        case measure => simp [intOf]; omega
      · go_ret
        exact ⟨ret_bool (name_no s k hlt (by omega)).symm, rfl⟩
    · go_wp2
      all_goals
        go_ret
        refine ⟨ret_bool ?_, rfl⟩
        rw [name_yes s k hall.out hlt, Bool.eq_iff_iff]
        simp; omega

theorem isName_bs (l : B) (w : World) (h : l.length ≤ maxLen) :
    Calls Tryz.prog 108 #[.string (bs l)] w fun e w' => e = .returned (.bool (isName l)) ∧ w' = w := by
  have := isName_any (bs l) w (by rw [size_bs]; exact h)
  rwa [toList_bs] at this

theorem ends_any (s : ByteArray) (w : World) :
    Calls Tryz.prog 85 #[.string s] w fun e w' => e = .returned (.bool (ends s.toList)) ∧ w' = w := by
  go_enter Tryz.func85, Tryz.ntmps85
  go_wp2
  all_goals
    go_ret
    exact ⟨ret_bool (by simp [ends, *]), rfl⟩
theorem ends_bs (l : B) (w : World) :
    Calls Tryz.prog 85 #[.string (bs l)] w fun e w' => e = .returned (.bool (ends l)) ∧ w' = w := by
  have := ends_any (bs l) w
  rwa [toList_bs] at this

theorem ret_str {a b : ByteArray} (h : a = b) : Ending.returned (.string a) = .returned (.string b) := by rw [h]
theorem dotted_yes (s : ByteArray) (h : 2 < s.size) (hd : s[s.size - 2].toNat = 46) : dotted s.toList = true := by
  have h2 : s[s.size - 2] = 46 := UInt8.toNat_inj.mp hd
  simp [dotted, length_toList, h, getElem?_toList s (s.size - 2) (by omega), h2]
theorem dotted_no (s : ByteArray) (h : 2 < s.size) (hd : ¬ s[s.size - 2].toNat = 46) : dotted s.toList = false := by
  have h2 : ¬ s[s.size - 2] = 46 := fun e => hd (by rw [e]; rfl)
  simp [dotted, length_toList, getElem?_toList s (s.size - 2) (by omega), h2]
theorem dotted_short (s : ByteArray) (h : ¬ 2 < s.size) : dotted s.toList = false := by
  simp [dotted, length_toList, h]
theorem local_ext (s : ByteArray) (hd : dotted s.toList = true) : s.extract 0 (s.size - 2) = bs (localOf s.toList) := by
  rw [extract_eq]; simp [localOf, hd, length_toList]
theorem local_self (s : ByteArray) (hd : dotted s.toList = false) : s = bs (localOf s.toList) := by
  simp [localOf, hd, bs_toList]

theorem local_any (s : ByteArray) (w : World) (hs : s.size ≤ maxLen) :
    Calls Tryz.prog 111 #[.string s] w fun e w' => e = .returned (.string (bs (localOf s.toList))) ∧ w' = w := by
  unfold maxLen at hs
  go_enter Tryz.func111, Tryz.ntmps111
  go_wp2
  all_goals go_ret
  · exact ⟨ret_str (local_ext s (dotted_yes s (by omega) (by simp_all; omega))), rfl⟩
  · exact ⟨ret_str (local_self s (dotted_no s (by omega) (by simp_all; omega))), rfl⟩
  · exact ⟨ret_str (local_self s (dotted_short s (by omega))), rfl⟩

theorem ret_int {k : IntKind} {a b : Int} (h : a = b) : Ending.returned (.int k a) = .returned (.int k b) := by rw [h]
theorem part_last (s : ByteArray) (h : 2 < s.size) (hd : dotted s.toList = true) : (s[s.size - 1].toNat : Int) = (partOf s.toList).toNat := by
  have h2 := getElem?_toList s (s.size - 1) (by omega)
  have : s.toList.getLastD 0 = s[s.size - 1] := by
    rw [List.getLastD_eq_getLast?, List.getLast?_eq_getElem?, length_toList, h2]; rfl
  rw [partOf, if_pos hd, this]
theorem part_any (s : ByteArray) (w : World) (hs : s.size ≤ maxLen) :
    Calls Tryz.prog 159 #[.string s] w fun e w' => e = .returned (.int .u8 (partOf s.toList).toNat) ∧ w' = w := by
  unfold maxLen at hs
  go_enter Tryz.func159, Tryz.ntmps159
  go_wp2
  all_goals go_ret
  · exact ⟨ret_int (part_last s (by omega) (dotted_yes s (by omega) (by simp_all; omega))), rfl⟩
  · refine ⟨?_, rfl⟩
    rw [partOf, dotted_no s (by omega) (by simp_all; omega)]; rfl
  · refine ⟨?_, rfl⟩
    rw [partOf, dotted_short s (by omega)]; rfl
theorem local_bs (l : B) (w : World) (h : l.length ≤ maxLen) :
    Calls Tryz.prog 111 #[.string (bs l)] w fun e w' => e = .returned (.string (bs (localOf l))) ∧ w' = w := by
  have := local_any (bs l) w (by rw [size_bs]; exact h)
  rwa [toList_bs] at this
theorem part_bs (l : B) (w : World) (h : l.length ≤ maxLen) :
    Calls Tryz.prog 159 #[.string (bs l)] w fun e w' => e = .returned (.int .u8 (partOf l).toNat) ∧ w' = w := by
  have := part_any (bs l) w (by rw [size_bs]; exact h)
  rwa [toList_bs] at this
end Go.Proofs.YtmlgajhhnojdjaaGreatDoor.RefA
/- What the project's reader answers on names and places, and whether a word has the form that is wanted. -/
namespace Go.Proofs.YtmlgajhhnojdjaaGreatDoor.PrjI
open Go Go.RowKit Go.Proofs.YtmlgajhhnojdjaaGreatDoor.Spec Go.Proofs.YtmlgajhhnojdjaaGreatDoor.RefA Go.Proofs.YtmlgajhhnojdjaaGreatDoor.PrjF Go.Proofs.YtmlgajhhnojdjaaGreatDoor.PrjG Go.Proofs.YtmlgajhhnojdjaaGreatDoor.PrjH

/-- where a byte stands first -/
theorem index_byte (c : UInt8) : ∀ l : B, (Lib.index l [c] = -1 ∧ ¬ c ∈ l) ∨ (∃ i : Nat, Lib.index l [c] = i ∧ i < l.length ∧ l = l.take i ++ c :: l.drop (i + 1) ∧ ¬ c ∈ l.take i)
  | [] => .inl ⟨rfl, by simp⟩
  | b :: l => by
    rw [Lib.index]
    by_cases hb : b = c
    · subst hb
      right
      exact ⟨0, by simp [List.isPrefixOf], by simp, by simp, by simp⟩
    · have hp : List.isPrefixOf [c] (b :: l) = false := by simp [List.isPrefixOf]; exact fun e => hb e.symm
      rw [hp, if_neg (by simp)]
      rcases index_byte c l with ⟨h1, h2⟩ | ⟨i, h1, h2, h3, h4⟩
      · left
        rw [h1]
        exact ⟨rfl, by simp only [List.mem_cons, not_or]; exact ⟨fun e => hb e.symm, h2⟩⟩
      · right
        refine ⟨i + 1, ?_, by simp; omega, ?_, ?_⟩
        · rw [h1, if_neg (by simp)]; rfl
        · simpa using h3
        · simp only [List.take_succ_cons, List.mem_cons, not_or]; exact ⟨fun e => hb e.symm, h4⟩
theorem cutDot_app : ∀ (a t : B), ¬ (46 : UInt8) ∈ a → cutDot (a ++ 46 :: t) = (a, some t)
  | [], t, _ => by simp [cutDot]
  | c :: a, t, h => by
    simp only [List.mem_cons, not_or] at h
    rw [List.cons_append, cutDot, if_neg (fun e => h.1 e.symm), cutDot_app a t h.2]
theorem cutDot_no : ∀ (a : B), ¬ (46 : UInt8) ∈ a → cutDot a = (a, none)
  | [], _ => rfl
  | c :: a, h => by
    simp only [List.mem_cons, not_or] at h
    rw [cutDot, if_neg (fun e => h.1 e.symm), cutDot_no a h.2]
theorem cut_dot (l : B) : Lib.cut l [46] = ((cutDot l).1, (cutDot l).2.getD [], (cutDot l).2.isSome) := by
  unfold Lib.cut
  rcases index_byte 46 l with ⟨h1, h2⟩ | ⟨i, h1, h2, h3, h4⟩
  · rw [h1, cutDot_no l h2]; rfl
  · rw [h1, if_pos (by omega)]
    have : cutDot l = (l.take i, some (l.drop (i + 1))) := by
      conv => lhs; rw [h3]
      exact cutDot_app _ _ h4
    rw [this]; simp
set_option maxRecDepth 20000 in
theorem splitPlace_any (l : B) (w : World) (h : l.length ≤ 1048576) (E : Env w) :
    Calls Tryz.prog 206 #[.string (bs l)] w fun e w' => e = .returned (.tuple #[.string (bs ((splitPl l).getD ([], 0)).1), .int .i64 (((splitPl l).getD ([], 0)).2 : Nat), .bool (splitPl l).isSome]) ∧ Below w.heap.size w w' := by
  obtain ⟨m, hm⟩ := E.most
  have hdl : (bs l).data.toList = l := by simp [bs]
  have K := Tryz.strings_Cut (bs l) ⟨#[46]⟩ m w (by rw [size_bs]; omega) hm
  have h46 : (⟨#[46]⟩ : ByteArray).data.toList = [46] := rfl
  rw [hdl, h46, cut_dot, lit_bs, lit_bs] at K
  rw [splitPl]
  have hb : ∀ n, Below w.heap.size w (w.drewN n) := fun n => below_drewN (Below.refl _ _) n
  cases hc : (cutDot l).2 with
  | none =>
    rw [hc] at K
    go_enter Tryz.func206, Tryz.ntmps206
    go_wp2_with (go_at_call 230; refine K.mono ?_; rintro e w1 ⟨rfl, n, rfl⟩)
    go_ret3
    exact ⟨rfl, hb n⟩
  | some t =>
    rw [hc] at K
    have ht := toList_bs t
    by_cases h97 : t = [97]
    · subst h97
      go_enter Tryz.func206, Tryz.ntmps206
      go_wp2_with (go_at_call 230; refine K.mono ?_; rintro e w1 ⟨rfl, n, rfl⟩)
      go_ret3
      exact ⟨rfl, hb n⟩
    · by_cases h98 : t = [98]
      · subst h98
        go_enter Tryz.func206, Tryz.ntmps206
        go_wp2_with (go_at_call 230; refine K.mono ?_; rintro e w1 ⟨rfl, n, rfl⟩)
        go_ret3
        exact ⟨rfl, hb n⟩
      · by_cases h115 : t = [115]
        · subst h115
          go_enter Tryz.func206, Tryz.ntmps206
          go_wp2_with (go_at_call 230; refine K.mono ?_; rintro e w1 ⟨rfl, n, rfl⟩)
          go_ret3
          exact ⟨rfl, hb n⟩
        · simp only
          rw [if_neg h97, if_neg h98, if_neg h115]
          have b1 : (t == [97]) = false := by simpa using h97
          have b2 : (t == [98]) = false := by simpa using h98
          have b3 : (t == [115]) = false := by simpa using h115
          clear h97 h98 h115
          go_enter Tryz.func206, Tryz.ntmps206
          go_wp2_with (go_at_call 230; refine K.mono ?_; rintro e w1 ⟨rfl, n, rfl⟩)
          go_ret3
          exact ⟨rfl, hb n⟩
theorem name_short (s : ByteArray) (h : s.size < 1 ∨ 4 < s.size) : isName s.toList = false := by
  rw [isName, length_toList]
  rcases h with h | h
  · simp [show ¬ 1 ≤ s.size by omega]
  · simp [show ¬ s.size ≤ 4 by omega]
set_option maxRecDepth 20000 in
theorem pisName_any (s : ByteArray) (w : World) (hs : s.size ≤ maxLen) :
    Calls Tryz.prog 226 #[.string s] w fun e w' => e = .returned (.bool (isName s.toList)) ∧ w' = w := by
  unfold maxLen at hs
  by_cases hsh : s.size < 1 ∨ 4 < s.size
  · rw [name_short s hsh]
    rcases hsh with hsh | hsh
    all_goals
      go_enter Tryz.func226, Tryz.ntmps226
      go_wp2
      go_ret
      exact ⟨rfl, rfl⟩
  · have h1 : 1 ≤ s.size := by omega
    have h4 : s.size ≤ 4 := by omega
    clear hsh
    go_enter Tryz.func226, Tryz.ntmps226
    go_wp2
    go_loop [14] (fun i => ∃ k : Nat, k ≤ s.size ∧ i = .int .i64 k ∧ Hid ((s.toList.take k).all lower = true)) (fun i => s.size - (intOf i).toNat)
    case atStart => exact ⟨0, Nat.zero_le _, rfl, rfl⟩
    case round =>
      obtain ⟨k, hk, rfl, hall⟩ := hrel
      by_cases hlt : k < s.size
      · by_cases hc1 : (s[k].toNat : Int) < 97
        · go_wp2
          go_ret
          exact ⟨ret_bool (name_no s k hlt (by omega)).symm, rfl⟩
        · by_cases hc2 : (122 : Int) < s[k].toNat
          · go_wp2
            go_ret
            exact ⟨ret_bool (name_no s k hlt (by omega)).symm, rfl⟩
          · go_wp2
            go_round
            case rel => exact ⟨k + 1, by omega, by go_num, name_go s k hlt hall.out (by omega) (by omega)⟩
            case measure => simp [intOf]; omega
      · go_wp2
        go_ret
        exact ⟨ret_bool (by rw [name_yes s k hall.out hlt]; simp [h1, h4]), rfl⟩
theorem pisName_bs (l : B) (w : World) (h : l.length ≤ 1099511627776) :
    Calls Tryz.prog 226 #[.string (bs l)] w fun e w' => e = .returned (.bool (isName l)) ∧ w' = w := by
  have := pisName_any (bs l) w (by rw [size_bs]; unfold maxLen; omega)
  rwa [toList_bs] at this
theorem or_three {a b c : Bool} (h : a = true ∨ b = true ∨ c = true) : a = true ∨ (a = false ∧ b = true) ∨ (a = false ∧ b = false ∧ c = true) := by
  cases a <;> cases b <;> simp_all
theorem or_two {a b : Bool} (h : a = true ∨ b = true) : a = true ∨ (a = false ∧ b = true) := by
  cases a <;> simp_all
theorem formedP_nat (l : B) (c : UInt8) : formedP l c =
    if ((c.toNat : Int) == 100) = true ∨ ((c.toNat : Int) == 105) = true ∨ ((c.toNat : Int) == 111) = true then isName l
    else if ((c.toNat : Int) == 116) = true then (tyIdx l).isSome
    else if ((c.toNat : Int) == 112) = true ∨ ((c.toNat : Int) == 109) = true then (splitPl l).isSome && isName ((splitPl l).getD ([], 0)).1
    else if ((c.toNat : Int) == 35) = true then (numberP l).isSome
    else if ((c.toNat : Int) == 98) = true then (digitsP l).isSome
    else if ((c.toNat : Int) == 102) = true then flagOk l
    else if ((c.toNat : Int) == 118) = true then l == [48] || l == [49]
    else false := by
  have e : ∀ n : Nat, n < 256 → (((c.toNat : Int) == (n : Int)) = true ↔ c = UInt8.ofNat n) := fun n hn => by
    rw [u8_eq c n hn, beq_iff_eq]; omega
  have e1 := e 100 (by omega); have e2 := e 105 (by omega); have e3 := e 111 (by omega); have e4 := e 116 (by omega); have e5 := e 112 (by omega)
  have e6 := e 109 (by omega); have e7 := e 35 (by omega); have e8 := e 98 (by omega); have e9 := e 102 (by omega); have e10 := e 118 (by omega)
  simp only [Int.cast_ofNat_Int] at e1 e2 e3 e4 e5 e6 e7 e8 e9 e10
  simp only [e1, e2, e3, e4, e5, e6, e7, e8, e9, e10]
  unfold formedP flagOk
  cases splitPl l <;> rfl
set_option maxRecDepth 20000 in
set_option maxHeartbeats 1000000 in
theorem isFormed_any (l : B) (c : UInt8) (w : World) (h : l.length ≤ 1048576) (E : Env w) :
    Calls Tryz.prog 197 #[.string (bs l), .int .u8 c.toNat] w fun e w' => e = .returned (.bool (formedP l c)) ∧ Below w.heap.size w w' := by
  have ht := toList_bs l
  have KN := pisName_bs l w (by omega)
  have KT := typeOf_any l w E.types
  have KP := splitPlace_any l w h E
  have KS := fun w' => pisName_bs ((splitPl l).getD ([], 0)).1 w' (by
    cases hs : splitPl l with
    | none => simp
    | some x =>
      have : x.1.length ≤ l.length := by
        have h1 : x.1 = (cutDot l).1 := by
          rw [splitPl] at hs
          split at hs
          · cases hs; rfl
          · repeat (first | (split at hs; (cases hs; rfl)) | cases hs)
        rw [h1]
        cases hc : (cutDot l).2 with
        | none => rw [(cutDot_none hc).1]; exact Nat.le_refl _
        | some t => have := congrArg List.length (cutDot_some hc).1; simp at this; omega
      simp; omega)
  have K1 := numberOf_any l w (by omega) E
  have K2 := blockOf_any l w (by omega) E
  have K3 := flagOf_any l w (by omega) E
  have rf := Below.refl w.heap.size w
  rw [formedP_nat]
  by_cases h1 : ((c.toNat : Int) == 100) = true ∨ ((c.toNat : Int) == 105) = true ∨ ((c.toNat : Int) == 111) = true
  · rw [if_pos h1]
    clear KT KP KS K1 K2 K3
    have h1' : ((c.toNat : Int) == 100) = true ∨ (((c.toNat : Int) == 100) = false ∧ ((c.toNat : Int) == 105) = true) ∨ (((c.toNat : Int) == 100) = false ∧ ((c.toNat : Int) == 105) = false ∧ ((c.toNat : Int) == 111) = true) := or_three h1
    clear h1
    rcases h1' with h1 | ⟨h1, h2⟩ | ⟨h1, h2, h3⟩
    all_goals
      go_enter Tryz.func197, Tryz.ntmps197
      go_wp2_with (go_at_call 226; refine KN.mono ?_; rintro e w1 ⟨rfl, rfl⟩)
      go_ret
      exact ⟨rfl, rf⟩
  · rw [if_neg h1]
    simp only [not_or, Bool.not_eq_true] at h1
    obtain ⟨a1, a2, a3⟩ := h1
    by_cases h2 : ((c.toNat : Int) == 116) = true
    · rw [if_pos h2]
      clear KN KP KS K1 K2 K3
      go_enter Tryz.func197, Tryz.ntmps197
      go_wp2_with (go_at_call 169; refine KT.mono ?_; rintro e w1 ⟨rfl, hb⟩)
      go_ret
      exact ⟨rfl, hb⟩
    · rw [if_neg h2]
      rw [Bool.not_eq_true] at h2
      by_cases h3 : ((c.toNat : Int) == 112) = true ∨ ((c.toNat : Int) == 109) = true
      · rw [if_pos h3]
        clear KN KT K1 K2 K3
        have h3' : ((c.toNat : Int) == 112) = true ∨ (((c.toNat : Int) == 112) = false ∧ ((c.toNat : Int) == 109) = true) := or_two h3
        clear h3
        cases hs : (splitPl l).isSome
        all_goals
          rw [hs] at KP
          rcases h3' with h3 | ⟨h3, h4⟩
          all_goals
            go_enter Tryz.func197, Tryz.ntmps197
            go_wp2_with (first | (go_at_call 206; refine KP.mono ?_; rintro e w1 ⟨rfl, hb⟩) | (go_at_call 226; refine (KS _).mono ?_; rintro e w2 ⟨rfl, rfl⟩))
            go_ret
            exact ⟨rfl, hb⟩
      · rw [if_neg h3]
        simp only [not_or, Bool.not_eq_true] at h3
        obtain ⟨a4, a5⟩ := h3
        by_cases h4 : ((c.toNat : Int) == 35) = true
        · rw [if_pos h4]
          clear KN KT KP KS K2 K3
          go_enter Tryz.func197, Tryz.ntmps197
          go_wp2_with (go_at_call 203; refine K1.mono ?_; rintro e w1 ⟨rfl, hb⟩)
          go_ret
          exact ⟨rfl, hb⟩
        · rw [if_neg h4]
          rw [Bool.not_eq_true] at h4
          by_cases h5 : ((c.toNat : Int) == 98) = true
          · rw [if_pos h5]
            clear KN KT KP KS K1 K3
            go_enter Tryz.func197, Tryz.ntmps197
            go_wp2_with (go_at_call 205; refine K2.mono ?_; rintro e w1 ⟨rfl, hb⟩)
            go_ret
            exact ⟨rfl, hb⟩
          · rw [if_neg h5]
            rw [Bool.not_eq_true] at h5
            by_cases h6 : ((c.toNat : Int) == 102) = true
            · rw [if_pos h6]
              clear KN KT KP KS K1 K2
              go_enter Tryz.func197, Tryz.ntmps197
              go_wp2_with (go_at_call 204; refine K3.mono ?_; rintro e w1 ⟨rfl, hb⟩)
              go_ret
              exact ⟨rfl, hb⟩
            · rw [if_neg h6]
              rw [Bool.not_eq_true] at h6
              clear KN KT KP KS K1 K2 K3
              by_cases h7 : ((c.toNat : Int) == 118) = true
              · rw [if_pos h7]
                cases b1 : (l == [48])
                all_goals
                  go_enter Tryz.func197, Tryz.ntmps197
                  go_wp2
                  all_goals
                    go_ret
                    exact ⟨rfl, rf⟩
              · rw [if_neg h7]
                rw [Bool.not_eq_true] at h7
                go_enter Tryz.func197, Tryz.ntmps197
                go_wp2
                go_ret
                exact ⟨rfl, rf⟩
end Go.Proofs.YtmlgajhhnojdjaaGreatDoor.PrjI
/- How a program of the document's own reader lies in memory. -/
namespace Go.Proofs.YtmlgajhhnojdjaaGreatDoor.Aux
open Go Go.RowKit Go.Proofs.YtmlgajhhnojdjaaGreatDoor.Spec

/-- a row of words -/
def StrRow (w : World) (v : Value) (L : List B) : Prop :=
  ∃ g cap, v = .slice (some ⟨g, 0, none⟩) L.length cap ∧ L.length ≤ cap ∧ g < w.heap.size ∧ ∀ j, j < L.length → w.cell? ⟨g, j, none⟩ = some (.string (bs (word L j)))
/-- a row of line numbers -/
def IntRow (w : World) (v : Value) (L : List Nat) : Prop :=
  (L = [] ∧ v = .slice none 0 0) ∨ ∃ g cap, v = .slice (some ⟨g, 0, none⟩) L.length cap ∧ L.length ≤ cap ∧ g < w.heap.size ∧ ∀ j, j < L.length → w.cell? ⟨g, j, none⟩ = some (.int .i64 (L.getD j 0))
/-- a row of rows of words -/
def RowsRow (w : World) (v : Value) (L : List (List B)) : Prop :=
  (L = [] ∧ v = .slice none 0 0) ∨ ∃ g cap, v = .slice (some ⟨g, 0, none⟩) L.length cap ∧ L.length ≤ cap ∧ g < w.heap.size ∧ ∀ j, j < L.length → ∃ u, w.cell? ⟨g, j, none⟩ = some u ∧ StrRow w u (L.getD j [])
/-- a program behind a pointer to block a -/
structure ProgAt (w : World) (a : Nat) (p : RP) : Prop where
  lt : a < w.heap.size
  lines : ∃ v, w.cell? ⟨a, 0, none⟩ = some v ∧ RowsRow w v p.lines
  lets : ∃ v, w.cell? ⟨a, 1, none⟩ = some v ∧ IntRow w v p.lets
  blocks : ∃ v, w.cell? ⟨a, 2, none⟩ = some v ∧ IntRow w v p.blocks
  raw : w.cell? ⟨a, 3, none⟩ = some (.bool p.raw)

theorem StrRow.below {w w' : World} {v : Value} {L : List B} (h : StrRow w v L) (hb : Below w.heap.size w w') : StrRow w' v L := by
  obtain ⟨g, cap, rfl, hc, hg, hcell⟩ := h
  exact ⟨g, cap, rfl, hc, Nat.lt_of_lt_of_le hg hb.size, fun j hj => (hb.cell (p := ⟨g, j, none⟩) hg).trans (hcell j hj)⟩
theorem IntRow.below {w w' : World} {v : Value} {L : List Nat} (h : IntRow w v L) (hb : Below w.heap.size w w') : IntRow w' v L := by
  rcases h with h | ⟨g, cap, rfl, hc, hg, hcell⟩
  · exact .inl h
  · exact .inr ⟨g, cap, rfl, hc, Nat.lt_of_lt_of_le hg hb.size, fun j hj => (hb.cell (p := ⟨g, j, none⟩) hg).trans (hcell j hj)⟩
theorem RowsRow.below {w w' : World} {v : Value} {L : List (List B)} (h : RowsRow w v L) (hb : Below w.heap.size w w') : RowsRow w' v L := by
  rcases h with h | ⟨g, cap, rfl, hc, hg, hcell⟩
  · exact .inl h
  · exact .inr ⟨g, cap, rfl, hc, Nat.lt_of_lt_of_le hg hb.size, fun j hj => by
      obtain ⟨u, hu, hr⟩ := hcell j hj
      exact ⟨u, (hb.cell (p := ⟨g, j, none⟩) hg).trans hu, hr.below hb⟩⟩
theorem ProgAt.below {w w' : World} {a : Nat} {p : RP} (h : ProgAt w a p) (hb : Below w.heap.size w w') : ProgAt w' a p := by
  obtain ⟨hlt, ⟨v1, h1, r1⟩, ⟨v2, h2, r2⟩, ⟨v3, h3, r3⟩, h4⟩ := h
  exact ⟨Nat.lt_of_lt_of_le hlt hb.size, ⟨v1, (hb.cell (p := ⟨a, 0, none⟩) hlt).trans h1, r1.below hb⟩, ⟨v2, (hb.cell (p := ⟨a, 1, none⟩) hlt).trans h2, r2.below hb⟩,
    ⟨v3, (hb.cell (p := ⟨a, 2, none⟩) hlt).trans h3, r3.below hb⟩, (hb.cell (p := ⟨a, 3, none⟩) hlt).trans h4⟩
theorem ProgAt.drewN {w : World} {a : Nat} {p : RP} (h : ProgAt w a p) (n : Nat) : ProgAt (w.drewN n) a p := h.below (below_drewN (Below.refl _ _) n)

/-- what a walk needs of line i of a program -/
theorem ProgAt.line_at {w : World} {a : Nat} {p : RP} (h : ProgAt w a p) (i : Nat) (hi : i < p.lines.length) :
    ∃ (g cap gl capl : Nat), w.cell? ⟨a, 0, none⟩ = some (.slice (some ⟨g, 0, none⟩) p.lines.length cap) ∧ p.lines.length ≤ cap ∧ w.cell? ⟨g, i, none⟩ = some (.slice (some ⟨gl, 0, none⟩) (p.line i).length capl) ∧ (p.line i).length ≤ capl ∧
      ∀ j, j < (p.line i).length → w.cell? ⟨gl, j, none⟩ = some (.string (bs (word (p.line i) j))) := by
  obtain ⟨v, hv, hr⟩ := h.lines
  rcases hr with ⟨he, _⟩ | ⟨g, cap, rfl, hc, hg, hcell⟩
  · rw [he] at hi; simp at hi
  · obtain ⟨u, hu, gl, capl, rfl, hcl, hgl, hw⟩ := hcell i hi
    exact ⟨g, cap, gl, capl, hv, hc, hu, hcl, hw⟩
/-- .. and of the row of lets -/
theorem ProgAt.lets_at {w : World} {a : Nat} {p : RP} (h : ProgAt w a p) :
    ∃ v, w.cell? ⟨a, 1, none⟩ = some v ∧ ((p.lets = [] ∧ v = .slice none 0 0) ∨ ∃ g cap, v = .slice (some ⟨g, 0, none⟩) p.lets.length cap ∧ p.lets.length ≤ cap ∧ ∀ j, j < p.lets.length → w.cell? ⟨g, j, none⟩ = some (.int .i64 (p.lets.getD j 0))) := by
  obtain ⟨v, hv, hr⟩ := h.lets
  rcases hr with hr | ⟨g, cap, e, hc, _, hcell⟩
  · exact ⟨v, hv, .inl hr⟩
  · exact ⟨v, hv, .inr ⟨g, cap, e, hc, hcell⟩⟩
theorem ProgAt.blocks_at {w : World} {a : Nat} {p : RP} (h : ProgAt w a p) :
    ∃ v, w.cell? ⟨a, 2, none⟩ = some v ∧ ((p.blocks = [] ∧ v = .slice none 0 0) ∨ ∃ g cap, v = .slice (some ⟨g, 0, none⟩) p.blocks.length cap ∧ p.blocks.length ≤ cap ∧ ∀ j, j < p.blocks.length → w.cell? ⟨g, j, none⟩ = some (.int .i64 (p.blocks.getD j 0))) := by
  obtain ⟨v, hv, hr⟩ := h.blocks
  rcases hr with hr | ⟨g, cap, e, hc, _, hcell⟩
  · exact ⟨v, hv, .inl hr⟩
  · exact ⟨v, hv, .inr ⟨g, cap, e, hc, hcell⟩⟩
/-- .. the let of local j -/
theorem ProgAt.let_at {w : World} {a : Nat} {p : RP} (h : ProgAt w a p) (j : Nat) (hj : j < p.lets.length) :
    ∃ g cap, w.cell? ⟨a, 1, none⟩ = some (.slice (some ⟨g, 0, none⟩) p.lets.length cap) ∧ p.lets.length ≤ cap ∧ w.cell? ⟨g, j, none⟩ = some (.int .i64 (p.lets.getD j 0)) := by
  obtain ⟨v, hv, hr⟩ := h.lets_at
  rcases hr with ⟨he, _⟩ | ⟨g, cap, rfl, hc, hcell⟩
  · rw [he] at hj; simp at hj
  · exact ⟨g, cap, hv, hc, hcell j hj⟩
theorem ProgAt.block_at {w : World} {a : Nat} {p : RP} (h : ProgAt w a p) (j : Nat) (hj : j < p.blocks.length) :
    ∃ g cap, w.cell? ⟨a, 2, none⟩ = some (.slice (some ⟨g, 0, none⟩) p.blocks.length cap) ∧ p.blocks.length ≤ cap ∧ w.cell? ⟨g, j, none⟩ = some (.int .i64 (p.blocks.getD j 0)) := by
  obtain ⟨v, hv, hr⟩ := h.blocks_at
  rcases hr with ⟨he, _⟩ | ⟨g, cap, rfl, hc, hcell⟩
  · rw [he] at hj; simp at hj
  · exact ⟨g, cap, hv, hc, hcell j hj⟩
/-- the length of the row of lets, whatever it is -/
theorem ProgAt.lets_len {w : World} {a : Nat} {p : RP} (h : ProgAt w a p) : ∃ b cap, w.cell? ⟨a, 1, none⟩ = some (.slice b p.lets.length cap) := by
  obtain ⟨v, hv, hr⟩ := h.lets_at
  rcases hr with ⟨he, rfl⟩ | ⟨g, cap, rfl, hc, hcell⟩
  · exact ⟨none, 0, by rw [he]; exact hv⟩
  · exact ⟨_, cap, hv⟩
theorem ProgAt.blocks_len {w : World} {a : Nat} {p : RP} (h : ProgAt w a p) : ∃ b cap, w.cell? ⟨a, 2, none⟩ = some (.slice b p.blocks.length cap) := by
  obtain ⟨v, hv, hr⟩ := h.blocks_at
  rcases hr with ⟨he, rfl⟩ | ⟨g, cap, rfl, hc, hcell⟩
  · exact ⟨none, 0, by rw [he]; exact hv⟩
  · exact ⟨_, cap, hv⟩
end Go.Proofs.YtmlgajhhnojdjaaGreatDoor.Aux
/- Small laws for walks, over whatever program: one element appended to a row of the call's own. -/
namespace Go.Proofs.YtmlgajhhnojdjaaGreatDoor.Aux
open Go Go.RowKit

/-- 's = append(s, x)', x of one cell, s a row of the call's own: the new element lies in a block of its own first. -/
theorem append_one {P : Program} {w : World} {ops : Array Oper} {rest : List Oper} {o : Oper} {a : Act} {Q : Exit → Act → World → Prop} (hgd : o.guard = none) (s x : Operand) (t : TypeId)
    (ho : o.op = .call { callee := .builtin .append, args := #[s, x], argTypes := #[t, t] })
    (base : Nat) (e : TypeId) (i : TypeInfo) (z : Value) (bytes : Nat) (ht : P.underlying t = some (.slice e)) (hi : P.info? e = some i) (hz : i.zero = some z)
    (hsize : i.size = 1) (hby : i.bytes = bytes) (hzs : z.cells.size = 1)
    (v : Value) (n : Nat) (xs : List Value) (hs : a.eval s = v) (hown : w.ownsRow base e 1 v n xs)
    (u : Value) (hx : a.eval x = .slice (some ⟨w.heap.size, 0, none⟩) 1 1) (h1 : u.oneCell' = true)
    (hb1 : 1 ≤ bytes) (hbytes : (n + 1) * bytes ≤ 140737488355328) (hbase : base ≤ w.heap.size)
    (h : ∀ v' w', w'.ownsRow base e 1 v' (n + 1) (xs ++ [u]) → (w.alloc (.cells #[u] e)).grownBy w' v.ownBlock → wpList P ops Q rest (a.put o.dst v') w') : wpList P ops Q (o :: rest) a (w.alloc (.cells #[u] e)) := by
  refine wpList_append_own _ hgd s x t ho base e i z 1 bytes ht hi hz hsize hby hzs (by decide) v n xs hs (hown.alloc _) ⟨w.heap.size, 0, none⟩ 1 1 [u] hx rfl ?_ ?_ ?_ hbytes ?_ (fun v' w' a b _ => h v' w' a b)
  · intro j u' hj
    match j, hj with
    | 0, hj => simp at hj; subst hj; simp [Addr.add]
  · intro u' hu; simp at hu; subst hu; exact h1
  · have : n + 1 ≤ (n + 1) * bytes := Nat.le_mul_of_pos_right _ hb1
    unfold maxLen; omega
  · simp; omega

/-- the call's own row behind an append: nothing below 'base' has turned -/
theorem below_append {B : Nat} {w0 w w' : World} {o : Obj} {base : Nat} {e : TypeId} {size : Nat} {v : Value} {n : Nat} {xs : List Value} (hb : Below B w0 w) (hB : B ≤ base) (hbase : base ≤ w.heap.size)
    (hown : w.ownsRow base e size v n xs) (hg : (w.alloc o).grownBy w' v.ownBlock) : Below B w0 w' := by
  refine (hb.alloc (by omega) o).grown hg (by simp; omega) fun k hk => ?_
  have := hown.lt k hk
  omega
end Go.Proofs.YtmlgajhhnojdjaaGreatDoor.Aux
