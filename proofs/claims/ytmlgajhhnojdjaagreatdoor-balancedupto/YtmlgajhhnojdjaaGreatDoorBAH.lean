/- What the project's reader answers on numbers. -/
import Derived.Test.YtmlgajhhnojdjaaGreatDoorBAF
import Derived.Test.YtmlgajhhnojdjaaGreatDoorBAG
import Derived.Lib.AtoiErrMem
import Derived.Stop.IfaceNil
import Derived.Laws.Entries
import Derived.Test.YtmlgajhhnojdjaaGreatDoorProg
import Derived.Test.YtmlgajhhnojdjaaGreatDoorBAA
import Derived.Outline
import Derived.WalkSmall
import Derived.WalkKit
namespace Go.Proofs.YtmlgajhhnojdjaaGreatDoor.PrjG
open Go Go.RowKit Go.Proofs.YtmlgajhhnojdjaaGreatDoor.Spec Go.Proofs.YtmlgajhhnojdjaaGreatDoor.PrjF

/-- what the package-level variables hold, as far as the reader asks -/
structure Env (w : World) : Prop where
  shapes : HasShapes w
  types : HasTypes w
  most : ∃ m : Int, w.cell? ⟨3, 0, none⟩ = some (.int .i64 m)
  syn : ∃ te pe, w.cell? ⟨9, 0, none⟩ = some (.iface te pe)
  rng : ∃ te pe, w.cell? ⟨10, 0, none⟩ = some (.iface te pe)
  size : 11 ≤ w.heap.size
theorem Env.below {w w' : World} {B : Nat} (h : Env w) (hb : Below B w w') (hB : 11 ≤ B) : Env w' := by
  obtain ⟨h1, h2, ⟨m, h3⟩, ⟨a, b, h4⟩, ⟨c, d, h5⟩, h6⟩ := h
  have hc : ∀ (k o : Nat), k < 11 → w'.cell? ⟨k, o, none⟩ = w.cell? ⟨k, o, none⟩ := fun k o hk => hb.cell (p := ⟨k, o, none⟩) (by show k < B; omega)
  refine ⟨fun j v hv => ?_, fun j v hv => ?_, ⟨m, ?_⟩, ⟨a, b, ?_⟩, ⟨c, d, ?_⟩, Nat.le_trans h6 hb.size⟩
  · rw [hc _ _ (by decide)]; exact h1 j v hv
  · rw [hc _ _ (by decide)]; exact h2 j v hv
  · rw [hc _ _ (by decide)]; exact h3
  · rw [hc _ _ (by decide)]; exact h4
  · rw [hc _ _ (by decide)]; exact h5
theorem Env.on {w w' : World} (h : Env w) (hb : Below w.heap.size w w') : Env w' := h.below hb h.size

theorem parse_ge (M : Nat) : ∀ (l : B) (acc u : Nat), Lib.parseUintM M acc l = .ok u → acc ≤ u
  | [], acc, u, h => by simp [Lib.parseUintM] at h; omega
  | c :: r, acc, u, h => by
    rw [Lib.parseUintM] at h
    split at h
    · split at h
      · cases h
      · split at h
        · cases h
        · have := parse_ge M r _ u h; omega
    · cases h
theorem parse_num (M : Nat) (hM : 1000000000 ≤ M) : ∀ (l : B) (acc : Nat), acc ≤ 1000000000 →
    (∀ m, numGo acc l = some m → ∃ u : Nat, m = u ∧ Lib.parseUintM M acc l = .ok u ∧ u ≤ 1000000000) ∧ (numGo acc l = none → ∀ u, Lib.parseUintM M acc l = .ok u → 1000000000 < u)
  | [], acc, ha => by
    refine ⟨fun m h => ⟨acc, ?_, rfl, ha⟩, fun h => by simp [numGo] at h⟩
    simp [numGo] at h; omega
  | c :: r, acc, ha => by
    rw [numGo, Lib.parseUintM]
    by_cases hd : digit c = true
    · have hd' := hd
      simp only [digit, Bool.and_eq_true, decide_eq_true_eq] at hd'
      have hsmall : ¬ 1844674407370955162 ≤ acc := by omega
      rw [if_pos hd, if_pos hd', if_neg hsmall]
      have hcast : 10 * (acc : Int) + ((c.toNat : Int) - 48) = ((acc * 10 + (c.toNat - 48) : Nat) : Int) := by omega
      by_cases hgt : 10 * (acc : Int) + ((c.toNat : Int) - 48) > 1000000000
      · rw [if_pos hgt]
        refine ⟨fun m h => (by cases h), fun _ u hu => ?_⟩
        split at hu
        · cases hu
        · have := parse_ge M r _ u hu; omega
      · have hM' : ¬ M < acc * 10 + (c.toNat - 48) := by omega
        rw [if_neg hgt, if_neg hM', hcast]
        exact parse_num M hM r (acc * 10 + (c.toNat - 48)) (by omega)
    · have hd' : ¬ (48 ≤ c.toNat ∧ c.toNat ≤ 57) := fun e => hd (by simp [digit, e.1, e.2])
      rw [if_neg hd, if_neg hd']
      exact ⟨fun m h => (by cases h), fun _ u hu => (by cases hu)⟩
/-- digits as the library parses them -/
theorem parse_digits {c : UInt8} {r : B} (hd : digit c = true) : (∀ m, numGo 0 (c :: r) = some m → Lib.parseIntB 64 (c :: r) = .ok m ∧ m ≤ 1000000000) ∧ (numGo 0 (c :: r) = none → ∀ v, Lib.parseIntB 64 (c :: r) = .ok v → 1000000000 < v) := by
  have hd' := hd
  simp only [digit, Bool.and_eq_true, decide_eq_true_eq] at hd'
  have hp := parse_num (2 ^ 64 - 1) (by decide) (c :: r) 0 (by omega)
  have he : Lib.parseIntB 64 (c :: r) = match Lib.parseUintM (2 ^ 64 - 1) 0 (c :: r) with
      | .syntax => .syntax | .range => .range
      | .ok u => if 2 ^ 63 ≤ u then .range else .ok (u : Int) := by
    have h1 : ¬ c.toNat = 43 := by omega
    have h2 : ¬ c.toNat = 45 := by omega
    simp only [Lib.parseIntB, Lib.parseUintB, h1, h2, or_self, not_false_eq_true, true_and, false_and, if_false]
    rw [if_neg (by simp)]
    rfl
  rw [he]
  constructor
  · intro m hm
    obtain ⟨u, rfl, hu, hl⟩ := hp.1 m hm
    rw [hu]
    simp only
    rw [if_neg (by omega)]
    exact ⟨rfl, by omega⟩
  · intro hn v hv
    cases hu : Lib.parseUintM (2 ^ 64 - 1) 0 (c :: r) with
    | «syntax» => rw [hu] at hv; cases hv
    | range => rw [hu] at hv; cases hv
    | ok u =>
      rw [hu] at hv
      have := hp.2 hn u hu
      simp only at hv
      split at hv
      · cases hv
      · cases hv; omega
theorem iface_error : Tryz.prog.isIface 221 = true := by kernel_rfl
theorem ret_num {a b : Int} {x y : Bool} (h : a = b) (h' : x = y) : Ending.returned (.tuple #[.int .i64 a, .bool x]) = .returned (.tuple #[.int .i64 b, .bool y]) := by rw [h, h']

set_option maxRecDepth 20000 in
theorem digitsOf_any (l : B) (w : World) (h : l.length ≤ 1099511627776) (E : Env w) :
    Calls Tryz.prog 229 #[.string (bs l)] w fun e w' => e = .returned (.tuple #[.int .i64 ((digitsP l).getD 0), .bool (digitsP l).isSome]) ∧ Below w.heap.size w w' := by
  have ht := toList_bs l
  cases l with
  | nil =>
    go_enter Tryz.func229, Tryz.ntmps229
    go_wp2
    go_ret2
    exact ⟨rfl, Below.refl _ _⟩
  | cons c r =>
    have hne : ((c :: r : B) == []) = false := rfl
    have hsz : (bs (c :: r)).size = r.length + 1 := by rw [size_bs]; rfl
    by_cases hd : digit c = true
    · have hd' := hd
      simp only [digit, Bool.and_eq_true, decide_eq_true_eq] at hd'
      by_cases h0 : c = 48 ∧ (c :: r) ≠ [48]
      · have e : digitsP (c :: r) = none := by rw [digitsP, if_neg (fun e => e.2 h0)]
        rw [e]
        have h48 : ((c.toNat : Int) == 48) = true := by rw [h0.1]; rfl
        have hz : ((c :: r : B) == [48]) = false := by simpa using h0.2
        clear h0 hd e
        go_enter Tryz.func229, Tryz.ntmps229
        go_wp2
        go_ret2
        exact ⟨rfl, Below.refl _ _⟩
      · have e : digitsP (c :: r) = numGo 0 (c :: r) := by rw [digitsP, if_pos ⟨hd, h0⟩]
        have hq : ((c.toNat : Int) == 48 && !((c :: r : B) == [48])) = false := by
          rw [Bool.and_eq_false_iff]
          by_cases h48 : c = 48
          · right
            have : (c :: r) = [48] := Decidable.not_not.mp (fun hx => h0 ⟨h48, hx⟩)
            rw [this]; rfl
          · left
            rw [beq_eq_false_iff_ne]
            intro hx
            exact h48 ((u8_eq c 48 (by omega)).mpr (by omega))
        obtain ⟨hp1, hp2⟩ := parse_digits (r := r) hd
        have hlen : (c :: r).length ≤ 281474976710656 := by omega
        have hdl : (bs (c :: r)).data.toList = c :: r := by simp [bs]
        obtain ⟨te, pe, hsyn⟩ := E.syn
        obtain ⟨te', pe', hrng⟩ := E.rng
        have K : Calls Tryz.prog 240 #[.string (bs (c :: r)), .int .i64 10, .int .i64 64] w fun e w' => ∃ (n : Int) (ev : Value), e = .returned (.tuple #[.int .i64 n, ev]) ∧ Below w.heap.size w w' ∧ ((ev = .nilIface ∧ ((numGo 0 (c :: r) = some n ∧ n ≤ 1000000000) ∨ (numGo 0 (c :: r) = none ∧ 1000000000 < n))) ∨ (numGo 0 (c :: r) = none ∧ ∃ t p, ev = .iface t p)) := by
          cases hpr : Lib.parseIntB 64 (c :: r) with
          | ok v =>
            refine (Tryz.strconv_ParseInt_10_at64_ok (bs (c :: r)) (by rw [hsz]; simp at h; omega) v (by rw [hdl]; exact hpr) w).mono ?_
            rintro e w' ⟨rfl, hw⟩
            refine ⟨v, .nilIface, rfl, ?_, .inl ⟨rfl, ?_⟩⟩
            · rcases hw with rfl | ⟨t, rfl⟩
              · exact Below.refl _ _
              · exact Lib.bytesWorld_below _ _ _
            · cases hn : numGo 0 (c :: r) with
              | none => exact .inr ⟨rfl, hp2 hn v hpr⟩
              | some m =>
                obtain ⟨h1, h2⟩ := hp1 m hn
                rw [hpr] at h1
                cases h1
                exact .inl ⟨rfl, h2⟩
          | «syntax» =>
            refine (Tryz.strconv_ParseInt_10_at64_syntax (bs (c :: r)) (by rw [size_bs]; exact hlen) (by rw [hdl]; exact hpr) _ w hsyn (.inr ⟨te, pe, rfl⟩)).mono ?_
            rintro e w' ⟨N, rfl, -, -, hb⟩
            refine ⟨_, _, rfl, hb, .inr ⟨?_, _, _, rfl⟩⟩
            cases hn : numGo 0 (c :: r) with
            | none => rfl
            | some m => have := (hp1 m hn).1; rw [hpr] at this; cases this
          | range =>
            refine (Tryz.strconv_ParseInt_10_at64_range (bs (c :: r)) (by rw [size_bs]; exact hlen) (by rw [hdl]; exact hpr) _ w hrng (.inr ⟨te', pe', rfl⟩)).mono ?_
            rintro e w' ⟨N, rfl, -, -, hb⟩
            refine ⟨_, _, rfl, hb, .inr ⟨?_, _, _, rfl⟩⟩
            cases hn : numGo 0 (c :: r) with
            | none => rfl
            | some m => have := (hp1 m hn).1; rw [hpr] at this; cases this
        rw [e]
        clear e hp1 hp2 hsyn hrng E h0 hdl hlen
        generalize numGo 0 (c :: r) = R at K
        have hcase : ((c.toNat : Int) == 48) = false ∨ (((c.toNat : Int) == 48) = true ∧ ((c :: r : B) == [48]) = true) := by
          cases hx : ((c.toNat : Int) == 48)
          · exact .inl rfl
          · rw [hx, Bool.true_and, Bool.not_eq_false'] at hq
            exact .inr ⟨rfl, hq⟩
        clear hq hd
        have hif := iface_error
        rcases hcase with hc1 | ⟨hc1, hc2⟩
        all_goals
          go_enter Tryz.func229, Tryz.ntmps229
          go_wp2_with (go_at_call 240; refine K.mono ?_; rintro e w1 ⟨n, ev, rfl, hb, ⟨rfl, ⟨hR, hn⟩ | ⟨hR, hn⟩⟩ | ⟨hR, t, p, rfl⟩⟩)
          all_goals
            go_ret2
            rw [hR]
            exact ⟨rfl, hb⟩
    · have e : digitsP (c :: r) = none := by rw [digitsP, if_neg (fun e => hd e.1)]
      rw [e]
      have hd' : (c.toNat : Int) < 48 ∨ ((48 : Int) ≤ c.toNat ∧ (57 : Int) < c.toNat) := by
        simp only [digit, Bool.and_eq_true, decide_eq_true_eq] at hd
        omega
      clear hd e
      rcases hd' with hd' | ⟨hd1, hd2⟩
      all_goals
        go_enter Tryz.func229, Tryz.ntmps229
        go_wp2
        go_ret2
        exact ⟨rfl, Below.refl _ _⟩
end Go.Proofs.YtmlgajhhnojdjaaGreatDoor.PrjG
/- What the project's reader answers on numbers, names and places. -/
namespace Go.Proofs.YtmlgajhhnojdjaaGreatDoor.PrjH
open Go Go.RowKit Go.Proofs.YtmlgajhhnojdjaaGreatDoor.Spec Go.Proofs.YtmlgajhhnojdjaaGreatDoor.PrjF Go.Proofs.YtmlgajhhnojdjaaGreatDoor.PrjG

theorem digitsP_le {l : B} {n : Int} (h : digitsP l = some n) : 0 ≤ n ∧ n ≤ 1000000000 := by
  refine ⟨digitsP_ge h, ?_⟩
  cases l with
  | nil => cases h
  | cons c r =>
    rw [digitsP] at h
    split at h
    · rename_i hd
      exact ((parse_digits (r := r) hd.1).1 n h).2
    · cases h
theorem digitsD_le (l : B) : 0 ≤ (digitsP l).getD 0 ∧ (digitsP l).getD 0 ≤ 1000000000 := by
  cases h : digitsP l with
  | none => simp
  | some n => simpa using digitsP_le h
theorem prefix_cases (l : B) : (∃ r, l = 45 :: r ∧ Lib.trimPrefix l [45] = r ∧ Lib.hasPrefix l [45] = true) ∨ ((∀ r, l ≠ 45 :: r) ∧ Lib.trimPrefix l [45] = l ∧ Lib.hasPrefix l [45] = false) := by
  cases l with
  | nil => right; exact ⟨by simp, rfl, rfl⟩
  | cons c r =>
    by_cases h : c = 45
    · subst h; left; exact ⟨r, rfl, rfl, rfl⟩
    · right
      have hp : Lib.hasPrefix (c :: r) [45] = false := by
        simp [Lib.hasPrefix, List.isPrefixOf]; exact fun e => h e.symm
      exact ⟨by intro r' e; simp only [List.cons.injEq] at e; exact h e.1, by simp [Lib.trimPrefix, hp], hp⟩
theorem numberP_other {l : B} (h : ∀ r, l ≠ 45 :: r) : numberP l = digitsP l := by
  cases l with
  | nil => rfl
  | cons c r => rw [numberP, if_neg (fun e => h r (by rw [e]))]
theorem lit_bs (l : B) : (⟨l.toArray⟩ : ByteArray) = bs l := rfl

set_option maxRecDepth 20000 in
theorem numberOf_any (l : B) (w : World) (h : l.length ≤ 1099511627776) (E : Env w) :
    Calls Tryz.prog 203 #[.string (bs l)] w fun e w' => e = .returned (.tuple #[.int .i64 ((numberP l).getD 0), .bool (numberP l).isSome]) ∧ Below w.heap.size w w' := by
  have hdl : (bs l).data.toList = l := by simp [bs]
  have K := Tryz.strings_CutPrefix (bs l) ⟨#[45]⟩ w
  rw [hdl] at K
  have h45 : (⟨#[45]⟩ : ByteArray).data.toList = [45] := rfl
  rw [h45] at K
  rcases prefix_cases l with ⟨r, rfl, h1, h2⟩ | ⟨hne, h1, h2⟩
  · rw [h1, h2] at K
    have D := digitsOf_any r w (by simp at h; omega) E
    obtain ⟨d1, d2⟩ := digitsD_le r
    have hN : numberP (45 :: r) = (match digitsP r with | none => none | some n => if n = 0 then none else some (-n)) := by rw [numberP, if_pos rfl]; cases digitsP r <;> rfl
    rw [hN]
    clear h1 h2 hN hdl
    cases hd : digitsP r with
    | none =>
      rw [hd] at D
      go_enter Tryz.func203, Tryz.ntmps203
      go_wp2_with (first | (go_at_call 228; refine K.mono ?_; rintro e w1 ⟨rfl, rfl⟩) | (go_at_call 229; refine D.mono ?_; rintro e w1 ⟨rfl, hb⟩))
      go_ret2
      exact ⟨rfl, hb⟩
    | some n =>
      rw [hd] at D d1 d2
      simp only [Option.getD_some] at d1 d2
      by_cases hn : n = 0
      · subst hn
        go_enter Tryz.func203, Tryz.ntmps203
        go_wp2_with (first | (go_at_call 228; refine K.mono ?_; rintro e w1 ⟨rfl, rfl⟩) | (go_at_call 229; refine D.mono ?_; rintro e w1 ⟨rfl, hb⟩))
        go_ret2
        exact ⟨rfl, hb⟩
      · have hn' : (n == 0) = false := by simp [hn]
        go_enter Tryz.func203, Tryz.ntmps203
        go_wp2_with (first | (go_at_call 228; refine K.mono ?_; rintro e w1 ⟨rfl, rfl⟩) | (go_at_call 229; refine D.mono ?_; rintro e w1 ⟨rfl, hb⟩))
        go_ret2
        exact ⟨ret_num (by simp) (by simp [hn]), hb⟩
  · rw [h1, h2] at K
    have D := digitsOf_any l w h E
    rw [numberP_other hne]
    clear h1 h2 hne hdl
    go_enter Tryz.func203, Tryz.ntmps203
    go_wp2_with (first | (go_at_call 228; refine K.mono ?_; rintro e w1 ⟨rfl, rfl⟩) | (go_at_call 229; refine D.mono ?_; rintro e w1 ⟨rfl, hb⟩))
    go_ret2
    exact ⟨rfl, hb⟩
set_option maxRecDepth 20000 in
theorem blockOf_any (l : B) (w : World) (h : l.length ≤ 1099511627776) (E : Env w) :
    Calls Tryz.prog 205 #[.string (bs l)] w fun e w' => e = .returned (.tuple #[.int .i64 ((digitsP l).getD 0), .bool (digitsP l).isSome]) ∧ Below w.heap.size w w' := by
  have D := digitsOf_any l w h E
  obtain ⟨d1, d2⟩ := digitsD_le l
  go_enter Tryz.func205, Tryz.ntmps205
  go_wp2_with (go_at_call 229; refine D.mono ?_; rintro e w1 ⟨rfl, hb⟩)
  go_ret2
  exact ⟨rfl, hb⟩
def flagOk (l : B) : Bool := match digitsP l with | some n => decide (n < 50) | none => false
set_option maxRecDepth 20000 in
theorem flagOf_any (l : B) (w : World) (h : l.length ≤ 1099511627776) (E : Env w) :
    Calls Tryz.prog 204 #[.string (bs l)] w fun e w' => e = .returned (.tuple #[.int .i64 ((digitsP l).getD 0), .bool (flagOk l)]) ∧ Below w.heap.size w w' := by
  have D := digitsOf_any l w h E
  obtain ⟨d1, d2⟩ := digitsD_le l
  unfold flagOk
  cases hd : digitsP l with
  | none =>
    rw [hd] at D
    go_enter Tryz.func204, Tryz.ntmps204
    go_wp2_with (go_at_call 229; refine D.mono ?_; rintro e w1 ⟨rfl, hb⟩)
    go_ret2
    exact ⟨rfl, hb⟩
  | some n =>
    rw [hd] at D d1 d2
    simp only [Option.getD_some] at d1 d2
    by_cases hn : n < 50
    all_goals
      go_enter Tryz.func204, Tryz.ntmps204
      go_wp2_with (go_at_call 229; refine D.mono ?_; rintro e w1 ⟨rfl, hb⟩)
      go_ret2
      exact ⟨ret_num rfl (by simp [hn]), hb⟩
end Go.Proofs.YtmlgajhhnojdjaaGreatDoor.PrjH
/- What the document's own reader (package stowref) answers on words: names, numbers, places. No conditions but the strings' lengths. -/
namespace Go.Proofs.YtmlgajhhnojdjaaGreatDoor.RefA
open Go.RowKit Go.Proofs.YtmlgajhhnojdjaaGreatDoor.Spec

theorem ret_bool {a b : Bool} (h : a = b) : Ending.returned (.bool a) = .returned (.bool b) := by rw [h]

theorem name_yes (s : ByteArray) (k : Nat) (h : s.toList.take k |>.all lower) (hk : ¬ k < s.size) : isName s.toList = (decide (1 ≤ s.size) && decide (s.size ≤ 4)) := by
  rw [List.take_of_length_le (by rw [length_toList]; omega)] at h
  simp [isName, h, length_toList]
theorem name_no (s : ByteArray) (k : Nat) (hk : k < s.size) (h : s[k].toNat < 97 ∨ 122 < s[k].toNat) : isName s.toList = false := by
  have hm : s[k] ∈ s.toList := by rw [getElem_toList s k hk]; exact List.getElem_mem _
  have : s.toList.all lower = false := by
    rw [List.all_eq_false]
    exact ⟨_, hm, by simp [lower]; omega⟩
  simp [isName, this]
theorem name_go (s : ByteArray) (k : Nat) (hk : k < s.size) (h : (s.toList.take k).all lower = true) (h1 : (97 : Int) ≤ s[k].toNat) (h2 : (s[k].toNat : Int) ≤ 122) : (s.toList.take (k + 1)).all lower = true := by
  rw [List.take_add_one, getElem?_toList s k hk, List.all_append, h]
  simp [lower]; omega

end Go.Proofs.YtmlgajhhnojdjaaGreatDoor.RefA
/- What the project's reader answers on names and places, and whether a word has the form that is wanted. -/
namespace Go.Proofs.YtmlgajhhnojdjaaGreatDoor.PrjI
open Go Go.RowKit Go.Proofs.YtmlgajhhnojdjaaGreatDoor.Spec Go.Proofs.YtmlgajhhnojdjaaGreatDoor.RefA Go.Proofs.YtmlgajhhnojdjaaGreatDoor.PrjF Go.Proofs.YtmlgajhhnojdjaaGreatDoor.PrjG Go.Proofs.YtmlgajhhnojdjaaGreatDoor.PrjH

/-- where a byte stands first -/
theorem index_byte (c : UInt8) : ∀ l : B, (Lib.index l [c] = -1 ∧ ¬ c ∈ l) ∨ (∃ i : Nat, Lib.index l [c] = i ∧ i < l.length ∧ l = l.take i ++ c :: l.drop (i + 1) ∧ ¬ c ∈ l.take i)
  | [] => .inl ⟨rfl, by simp⟩
  | b :: l => by
    rw [Lib.index]
    by_cases hb : b = c
    · subst hb
      right
      exact ⟨0, by simp [List.isPrefixOf], by simp, by simp, by simp⟩
    · have hp : List.isPrefixOf [c] (b :: l) = false := by simp [List.isPrefixOf]; exact fun e => hb e.symm
      rw [hp, if_neg (by simp)]
      rcases index_byte c l with ⟨h1, h2⟩ | ⟨i, h1, h2, h3, h4⟩
      · left
        rw [h1]
        exact ⟨rfl, by simp only [List.mem_cons, not_or]; exact ⟨fun e => hb e.symm, h2⟩⟩
      · right
        refine ⟨i + 1, ?_, by simp; omega, ?_, ?_⟩
        · rw [h1, if_neg (by simp)]; rfl
        · simpa using h3
        · simp only [List.take_succ_cons, List.mem_cons, not_or]; exact ⟨fun e => hb e.symm, h4⟩
theorem cutDot_app : ∀ (a t : B), ¬ (46 : UInt8) ∈ a → cutDot (a ++ 46 :: t) = (a, some t)
  | [], t, _ => by simp [cutDot]
  | c :: a, t, h => by
    simp only [List.mem_cons, not_or] at h
    rw [List.cons_append, cutDot, if_neg (fun e => h.1 e.symm), cutDot_app a t h.2]
theorem cutDot_no : ∀ (a : B), ¬ (46 : UInt8) ∈ a → cutDot a = (a, none)
  | [], _ => rfl
  | c :: a, h => by
    simp only [List.mem_cons, not_or] at h
    rw [cutDot, if_neg (fun e => h.1 e.symm), cutDot_no a h.2]
theorem cut_dot (l : B) : Lib.cut l [46] = ((cutDot l).1, (cutDot l).2.getD [], (cutDot l).2.isSome) := by
  unfold Lib.cut
  rcases index_byte 46 l with ⟨h1, h2⟩ | ⟨i, h1, h2, h3, h4⟩
  · rw [h1, cutDot_no l h2]; rfl
  · rw [h1, if_pos (by omega)]
    have : cutDot l = (l.take i, some (l.drop (i + 1))) := by conv => lhs; rw [h3]
                                                              exact cutDot_app _ _ h4
    rw [this]; simp
set_option maxRecDepth 20000 in
theorem splitPlace_any (l : B) (w : World) (h : l.length ≤ 1048576) (E : Env w) :
    Calls Tryz.prog 206 #[.string (bs l)] w fun e w' => e = .returned (.tuple #[.string (bs ((splitPl l).getD ([], 0)).1), .int .i64 (((splitPl l).getD ([], 0)).2 : Nat), .bool (splitPl l).isSome]) ∧ Below w.heap.size w w' := by
  obtain ⟨m, hm⟩ := E.most
  have hdl : (bs l).data.toList = l := by simp [bs]
  have K := Tryz.strings_Cut (bs l) ⟨#[46]⟩ m w (by rw [size_bs]; omega) hm
  have h46 : (⟨#[46]⟩ : ByteArray).data.toList = [46] := rfl
  rw [hdl, h46, cut_dot, lit_bs, lit_bs] at K
  rw [splitPl]
  have hb : ∀ n, Below w.heap.size w (w.drewN n) := fun n => below_drewN (Below.refl _ _) n
  cases hc : (cutDot l).2 with
  | none =>
    rw [hc] at K
    go_enter Tryz.func206, Tryz.ntmps206
    go_wp2_with (go_at_call 230; refine K.mono ?_; rintro e w1 ⟨rfl, n, rfl⟩)
    go_ret3
    exact ⟨rfl, hb n⟩
  | some t =>
    rw [hc] at K
    have ht := toList_bs t
    by_cases h97 : t = [97]
    · subst h97
      go_enter Tryz.func206, Tryz.ntmps206
      go_wp2_with (go_at_call 230; refine K.mono ?_; rintro e w1 ⟨rfl, n, rfl⟩)
      go_ret3
      exact ⟨rfl, hb n⟩
    · by_cases h98 : t = [98]
      · subst h98
        go_enter Tryz.func206, Tryz.ntmps206
        go_wp2_with (go_at_call 230; refine K.mono ?_; rintro e w1 ⟨rfl, n, rfl⟩)
        go_ret3
        exact ⟨rfl, hb n⟩
      · by_cases h115 : t = [115]
        · subst h115
          go_enter Tryz.func206, Tryz.ntmps206
          go_wp2_with (go_at_call 230; refine K.mono ?_; rintro e w1 ⟨rfl, n, rfl⟩)
          go_ret3
          exact ⟨rfl, hb n⟩
        · simp only
          rw [if_neg h97, if_neg h98, if_neg h115]
          have b1 : (t == [97]) = false := by simpa using h97
          have b2 : (t == [98]) = false := by simpa using h98
          have b3 : (t == [115]) = false := by simpa using h115
          clear h97 h98 h115
          go_enter Tryz.func206, Tryz.ntmps206
          go_wp2_with (go_at_call 230; refine K.mono ?_; rintro e w1 ⟨rfl, n, rfl⟩)
          go_ret3
          exact ⟨rfl, hb n⟩
theorem name_short (s : ByteArray) (h : s.size < 1 ∨ 4 < s.size) : isName s.toList = false := by
  rw [isName, length_toList]
  rcases h with h | h
  · simp [show ¬ 1 ≤ s.size by omega]
  · simp [show ¬ s.size ≤ 4 by omega]
set_option maxRecDepth 20000 in
theorem pisName_any (s : ByteArray) (w : World) (hs : s.size ≤ maxLen) :
    Calls Tryz.prog 226 #[.string s] w fun e w' => e = .returned (.bool (isName s.toList)) ∧ w' = w := by
  unfold maxLen at hs
  by_cases hsh : s.size < 1 ∨ 4 < s.size
  · rw [name_short s hsh]
    rcases hsh with hsh | hsh
    all_goals
      go_enter Tryz.func226, Tryz.ntmps226
      go_wp2
      go_ret
      exact ⟨rfl, rfl⟩
  · have h1 : 1 ≤ s.size := by omega
    have h4 : s.size ≤ 4 := by omega
    clear hsh
    go_enter Tryz.func226, Tryz.ntmps226
    go_wp2
    go_loop [14] (fun i => ∃ k : Nat, k ≤ s.size ∧ i = .int .i64 k ∧ Hid ((s.toList.take k).all lower = true)) (fun i => s.size - (intOf i).toNat)
    case atStart => exact ⟨0, Nat.zero_le _, rfl, rfl⟩
    case round =>
      obtain ⟨k, hk, rfl, hall⟩ := hrel
      by_cases hlt : k < s.size
      · by_cases hc1 : (s[k].toNat : Int) < 97
        · go_wp2
          go_ret
          exact ⟨ret_bool (name_no s k hlt (by omega)).symm, rfl⟩
        · by_cases hc2 : (122 : Int) < s[k].toNat
          · go_wp2
            go_ret
            exact ⟨ret_bool (name_no s k hlt (by omega)).symm, rfl⟩
          · go_wp2
            go_round
            case rel => exact ⟨k + 1, by omega, by go_num, name_go s k hlt hall.out (by omega) (by omega)⟩
            case measure => simp [intOf]; omega
      · go_wp2
        go_ret
        exact ⟨ret_bool (by rw [name_yes s k hall.out hlt]; simp [h1, h4]), rfl⟩
theorem pisName_bs (l : B) (w : World) (h : l.length ≤ 1099511627776) :
    Calls Tryz.prog 226 #[.string (bs l)] w fun e w' => e = .returned (.bool (isName l)) ∧ w' = w := by
  have := pisName_any (bs l) w (by rw [size_bs]; unfold maxLen; omega)
  rwa [toList_bs] at this
theorem or_three {a b c : Bool} (h : a = true ∨ b = true ∨ c = true) : a = true ∨ (a = false ∧ b = true) ∨ (a = false ∧ b = false ∧ c = true) := by
  cases a <;> cases b <;> simp_all
theorem or_two {a b : Bool} (h : a = true ∨ b = true) : a = true ∨ (a = false ∧ b = true) := by
  cases a <;> simp_all
theorem formedP_nat (l : B) (c : UInt8) : formedP l c =
    if ((c.toNat : Int) == 100) = true ∨ ((c.toNat : Int) == 105) = true ∨ ((c.toNat : Int) == 111) = true then isName l
    else if ((c.toNat : Int) == 116) = true then (tyIdx l).isSome
    else if ((c.toNat : Int) == 112) = true ∨ ((c.toNat : Int) == 109) = true then (splitPl l).isSome && isName ((splitPl l).getD ([], 0)).1
    else if ((c.toNat : Int) == 35) = true then (numberP l).isSome
    else if ((c.toNat : Int) == 98) = true then (digitsP l).isSome
    else if ((c.toNat : Int) == 102) = true then flagOk l
    else if ((c.toNat : Int) == 118) = true then l == [48] || l == [49]
    else false := by
  have e : ∀ n : Nat, n < 256 → (((c.toNat : Int) == (n : Int)) = true ↔ c = UInt8.ofNat n) := fun n hn => by
    rw [u8_eq c n hn, beq_iff_eq]; omega
  have e1 := e 100 (by omega); have e2 := e 105 (by omega); have e3 := e 111 (by omega); have e4 := e 116 (by omega); have e5 := e 112 (by omega)
  have e6 := e 109 (by omega); have e7 := e 35 (by omega); have e8 := e 98 (by omega); have e9 := e 102 (by omega); have e10 := e 118 (by omega)
  simp only [Int.cast_ofNat_Int] at e1 e2 e3 e4 e5 e6 e7 e8 e9 e10
  simp only [e1, e2, e3, e4, e5, e6, e7, e8, e9, e10]
  unfold formedP flagOk
  cases splitPl l <;> rfl
set_option maxRecDepth 20000 in
set_option maxHeartbeats 1000000 in
theorem isFormed_any (l : B) (c : UInt8) (w : World) (h : l.length ≤ 1048576) (E : Env w) :
    Calls Tryz.prog 197 #[.string (bs l), .int .u8 c.toNat] w fun e w' => e = .returned (.bool (formedP l c)) ∧ Below w.heap.size w w' := by
  have ht := toList_bs l
  have KN := pisName_bs l w (by omega)
  have KT := typeOf_any l w E.types
  have KP := splitPlace_any l w h E
  have KS := fun w' => pisName_bs ((splitPl l).getD ([], 0)).1 w' (by
    cases hs : splitPl l with
    | none => simp
    | some x =>
      have : x.1.length ≤ l.length := by
        have h1 : x.1 = (cutDot l).1 := by
          rw [splitPl] at hs
          split at hs
          · cases hs; rfl
          · repeat (first | (split at hs; (cases hs; rfl)) | cases hs)
        rw [h1]
        cases hc : (cutDot l).2 with
        | none => rw [(cutDot_none hc).1]; exact Nat.le_refl _
        | some t => have := congrArg List.length (cutDot_some hc).1; simp at this; omega
      simp; omega)
  have K1 := numberOf_any l w (by omega) E
  have K2 := blockOf_any l w (by omega) E
  have K3 := flagOf_any l w (by omega) E
  have rf := Below.refl w.heap.size w
  rw [formedP_nat]
  by_cases h1 : ((c.toNat : Int) == 100) = true ∨ ((c.toNat : Int) == 105) = true ∨ ((c.toNat : Int) == 111) = true
  · rw [if_pos h1]
    clear KT KP KS K1 K2 K3
    have h1' : ((c.toNat : Int) == 100) = true ∨ (((c.toNat : Int) == 100) = false ∧ ((c.toNat : Int) == 105) = true) ∨ (((c.toNat : Int) == 100) = false ∧ ((c.toNat : Int) == 105) = false ∧ ((c.toNat : Int) == 111) = true) := or_three h1
    clear h1
    rcases h1' with h1 | ⟨h1, h2⟩ | ⟨h1, h2, h3⟩
    all_goals
      go_enter Tryz.func197, Tryz.ntmps197
      go_wp2_with (go_at_call 226; refine KN.mono ?_; rintro e w1 ⟨rfl, rfl⟩)
      go_ret
      exact ⟨rfl, rf⟩
  · rw [if_neg h1]
    simp only [not_or, Bool.not_eq_true] at h1
    obtain ⟨a1, a2, a3⟩ := h1
    by_cases h2 : ((c.toNat : Int) == 116) = true
    · rw [if_pos h2]
      clear KN KP KS K1 K2 K3
      go_enter Tryz.func197, Tryz.ntmps197
      go_wp2_with (go_at_call 169; refine KT.mono ?_; rintro e w1 ⟨rfl, hb⟩)
      go_ret
      exact ⟨rfl, hb⟩
    · rw [if_neg h2]
      rw [Bool.not_eq_true] at h2
      by_cases h3 : ((c.toNat : Int) == 112) = true ∨ ((c.toNat : Int) == 109) = true
      · rw [if_pos h3]
        clear KN KT K1 K2 K3
        have h3' : ((c.toNat : Int) == 112) = true ∨ (((c.toNat : Int) == 112) = false ∧ ((c.toNat : Int) == 109) = true) := or_two h3
        clear h3
        cases hs : (splitPl l).isSome
        all_goals
          rw [hs] at KP
          rcases h3' with h3 | ⟨h3, h4⟩
          all_goals
            go_enter Tryz.func197, Tryz.ntmps197
            go_wp2_with (first | (go_at_call 206; refine KP.mono ?_; rintro e w1 ⟨rfl, hb⟩) | (go_at_call 226; refine (KS _).mono ?_; rintro e w2 ⟨rfl, rfl⟩))
            go_ret
            exact ⟨rfl, hb⟩
      · rw [if_neg h3]
        simp only [not_or, Bool.not_eq_true] at h3
        obtain ⟨a4, a5⟩ := h3
        by_cases h4 : ((c.toNat : Int) == 35) = true
        · rw [if_pos h4]
          clear KN KT KP KS K2 K3
          go_enter Tryz.func197, Tryz.ntmps197
          go_wp2_with (go_at_call 203; refine K1.mono ?_; rintro e w1 ⟨rfl, hb⟩)
          go_ret
          exact ⟨rfl, hb⟩
        · rw [if_neg h4]
          rw [Bool.not_eq_true] at h4
          by_cases h5 : ((c.toNat : Int) == 98) = true
          · rw [if_pos h5]
            clear KN KT KP KS K1 K3
            go_enter Tryz.func197, Tryz.ntmps197
            go_wp2_with (go_at_call 205; refine K2.mono ?_; rintro e w1 ⟨rfl, hb⟩)
            go_ret
            exact ⟨rfl, hb⟩
          · rw [if_neg h5]
            rw [Bool.not_eq_true] at h5
            by_cases h6 : ((c.toNat : Int) == 102) = true
            · rw [if_pos h6]
              clear KN KT KP KS K1 K2
              go_enter Tryz.func197, Tryz.ntmps197
              go_wp2_with (go_at_call 204; refine K3.mono ?_; rintro e w1 ⟨rfl, hb⟩)
              go_ret
              exact ⟨rfl, hb⟩
            · rw [if_neg h6]
              rw [Bool.not_eq_true] at h6
              clear KN KT KP KS K1 K2 K3
              by_cases h7 : ((c.toNat : Int) == 118) = true
              · rw [if_pos h7]
                cases b1 : (l == [48])
                all_goals
                  go_enter Tryz.func197, Tryz.ntmps197
                  go_wp2
                  all_goals
                    go_ret
                    exact ⟨rfl, rf⟩
              · rw [if_neg h7]
                rw [Bool.not_eq_true] at h7
                go_enter Tryz.func197, Tryz.ntmps197
                go_wp2
                go_ret
                exact ⟨rfl, rf⟩
end Go.Proofs.YtmlgajhhnojdjaaGreatDoor.PrjI
/- How a program of the document's own reader lies in memory. -/
namespace Go.Proofs.YtmlgajhhnojdjaaGreatDoor.Aux
theorem hereAuxB : True := trivial
end Go.Proofs.YtmlgajhhnojdjaaGreatDoor.Aux
/- Small laws for walks, over whatever program: one element appended to a row of the call's own. -/
namespace Go.Proofs.YtmlgajhhnojdjaaGreatDoor.Aux
open Go Go.RowKit

/-- the call's own row behind an append: nothing below 'base' has turned -/
theorem below_append {B : Nat} {w0 w w' : World} {o : Obj} {base : Nat} {e : TypeId} {size : Nat} {v : Value} {n : Nat} {xs : List Value} (hb : Below B w0 w) (hB : B ≤ base) (hbase : base ≤ w.heap.size)
    (hown : w.ownsRow base e size v n xs) (hg : (w.alloc o).grownBy w' v.ownBlock) : Below B w0 w' := by
  refine (hb.alloc (by omega) o).grown hg (by simp; omega) fun k hk => ?_
  have := hown.lt k hk
  omega
end Go.Proofs.YtmlgajhhnojdjaaGreatDoor.Aux
