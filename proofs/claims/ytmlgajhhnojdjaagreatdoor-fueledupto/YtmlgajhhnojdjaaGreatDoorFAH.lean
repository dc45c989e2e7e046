/- What the project's reader answers on numbers. -/
import Derived.Test.YtmlgajhhnojdjaaGreatDoorFAF
import Derived.Test.YtmlgajhhnojdjaaGreatDoorFAG
import Derived.Lib.AtoiErrMem
import Derived.Stop.IfaceNil
import Derived.Laws.Entries
import Derived.Test.YtmlgajhhnojdjaaGreatDoorProg
import Derived.Test.YtmlgajhhnojdjaaGreatDoorFAA
import Derived.Outline
namespace Go.Proofs.YtmlgajhhnojdjaaGreatDoor.PrjG
open Go Go.RowKit Go.Proofs.YtmlgajhhnojdjaaGreatDoor.Spec Go.Proofs.YtmlgajhhnojdjaaGreatDoor.PrjF

/-- what the package-level variables hold, as far as the reader asks -/
structure Env (w : World) : Prop where
  shapes : HasShapes w
  types : HasTypes w
  most : ∃ m : Int, w.cell? ⟨3, 0, none⟩ = some (.int .i64 m)
  syn : ∃ te pe, w.cell? ⟨9, 0, none⟩ = some (.iface te pe)
  rng : ∃ te pe, w.cell? ⟨10, 0, none⟩ = some (.iface te pe)
  size : 11 ≤ w.heap.size
theorem Env.below {w w' : World} {B : Nat} (h : Env w) (hb : Below B w w') (hB : 11 ≤ B) : Env w' := by
  obtain ⟨h1, h2, ⟨m, h3⟩, ⟨a, b, h4⟩, ⟨c, d, h5⟩, h6⟩ := h
  have hc : ∀ (k o : Nat), k < 11 → w'.cell? ⟨k, o, none⟩ = w.cell? ⟨k, o, none⟩ := fun k o hk => hb.cell (p := ⟨k, o, none⟩) (by show k < B; omega)
  refine ⟨fun j v hv => ?_, fun j v hv => ?_, ⟨m, ?_⟩, ⟨a, b, ?_⟩, ⟨c, d, ?_⟩, Nat.le_trans h6 hb.size⟩
  · rw [hc _ _ (by decide)]; exact h1 j v hv
  · rw [hc _ _ (by decide)]; exact h2 j v hv
  · rw [hc _ _ (by decide)]; exact h3
  · rw [hc _ _ (by decide)]; exact h4
  · rw [hc _ _ (by decide)]; exact h5
theorem Env.on {w w' : World} (h : Env w) (hb : Below w.heap.size w w') : Env w' := h.below hb h.size

theorem parse_ge (M : Nat) : ∀ (l : B) (acc u : Nat), Lib.parseUintM M acc l = .ok u → acc ≤ u
  | [], acc, u, h => by simp [Lib.parseUintM] at h; omega
  | c :: r, acc, u, h => by
    rw [Lib.parseUintM] at h
    split at h
    · split at h
      · cases h
      · split at h
        · cases h
        · have := parse_ge M r _ u h; omega
    · cases h
theorem parse_num (M : Nat) (hM : 1000000000 ≤ M) : ∀ (l : B) (acc : Nat), acc ≤ 1000000000 →
    (∀ m, numGo acc l = some m → ∃ u : Nat, m = u ∧ Lib.parseUintM M acc l = .ok u ∧ u ≤ 1000000000) ∧ (numGo acc l = none → ∀ u, Lib.parseUintM M acc l = .ok u → 1000000000 < u)
  | [], acc, ha => by
    refine ⟨fun m h => ⟨acc, ?_, rfl, ha⟩, fun h => by simp [numGo] at h⟩
    simp [numGo] at h; omega
  | c :: r, acc, ha => by
    rw [numGo, Lib.parseUintM]
    by_cases hd : digit c = true
    · have hd' := hd
      simp only [digit, Bool.and_eq_true, decide_eq_true_eq] at hd'
      have hsmall : ¬ 1844674407370955162 ≤ acc := by omega
      rw [if_pos hd, if_pos hd', if_neg hsmall]
      have hcast : 10 * (acc : Int) + ((c.toNat : Int) - 48) = ((acc * 10 + (c.toNat - 48) : Nat) : Int) := by omega
      by_cases hgt : 10 * (acc : Int) + ((c.toNat : Int) - 48) > 1000000000
      · rw [if_pos hgt]
        refine ⟨fun m h => (by cases h), fun _ u hu => ?_⟩
        split at hu
        · cases hu
        · have := parse_ge M r _ u hu; omega
      · have hM' : ¬ M < acc * 10 + (c.toNat - 48) := by omega
        rw [if_neg hgt, if_neg hM', hcast]
        exact parse_num M hM r (acc * 10 + (c.toNat - 48)) (by omega)
    · have hd' : ¬ (48 ≤ c.toNat ∧ c.toNat ≤ 57) := fun e => hd (by simp [digit, e.1, e.2])
      rw [if_neg hd, if_neg hd']
      exact ⟨fun m h => (by cases h), fun _ u hu => (by cases hu)⟩
/-- digits as the library parses them -/
theorem parse_digits {c : UInt8} {r : B} (hd : digit c = true) : (∀ m, numGo 0 (c :: r) = some m → Lib.parseIntB 64 (c :: r) = .ok m ∧ m ≤ 1000000000) ∧ (numGo 0 (c :: r) = none → ∀ v, Lib.parseIntB 64 (c :: r) = .ok v → 1000000000 < v) := by
  have hd' := hd
  simp only [digit, Bool.and_eq_true, decide_eq_true_eq] at hd'
  have hp := parse_num (2 ^ 64 - 1) (by decide) (c :: r) 0 (by omega)
  have he : Lib.parseIntB 64 (c :: r) = match Lib.parseUintM (2 ^ 64 - 1) 0 (c :: r) with
      | .syntax => .syntax | .range => .range
      | .ok u => if 2 ^ 63 ≤ u then .range else .ok (u : Int) := by
    have h1 : ¬ c.toNat = 43 := by omega
    have h2 : ¬ c.toNat = 45 := by omega
    simp only [Lib.parseIntB, Lib.parseUintB, h1, h2, or_self, not_false_eq_true, true_and, false_and, if_false]
    rw [if_neg (by simp)]
    rfl
  rw [he]
  constructor
  · intro m hm
    obtain ⟨u, rfl, hu, hl⟩ := hp.1 m hm
    rw [hu]
    simp only
    rw [if_neg (by omega)]
    exact ⟨rfl, by omega⟩
  · intro hn v hv
    cases hu : Lib.parseUintM (2 ^ 64 - 1) 0 (c :: r) with
    | «syntax» => rw [hu] at hv; cases hv
    | range => rw [hu] at hv; cases hv
    | ok u =>
      rw [hu] at hv
      have := hp.2 hn u hu
      simp only at hv
      split at hv
      · cases hv
      · cases hv; omega
theorem iface_error : Tryz.prog.isIface 221 = true := by kernel_rfl
theorem ret_num {a b : Int} {x y : Bool} (h : a = b) (h' : x = y) : Ending.returned (.tuple #[.int .i64 a, .bool x]) = .returned (.tuple #[.int .i64 b, .bool y]) := by rw [h, h']

set_option maxRecDepth 20000 in
theorem digitsOf_any (l : B) (w : World) (h : l.length ≤ 1099511627776) (E : Env w) :
    Calls Tryz.prog 229 #[.string (bs l)] w fun e w' => e = .returned (.tuple #[.int .i64 ((digitsP l).getD 0), .bool (digitsP l).isSome]) ∧ Below w.heap.size w w' := by
  have ht := toList_bs l
  cases l with
  | nil =>
    go_enter Tryz.func229, Tryz.ntmps229
    go_wp2
    go_ret2
    exact ⟨rfl, Below.refl _ _⟩
  | cons c r =>
    have hne : ((c :: r : B) == []) = false := rfl
    have hsz : (bs (c :: r)).size = r.length + 1 := by rw [size_bs]; rfl
    by_cases hd : digit c = true
    · have hd' := hd
      simp only [digit, Bool.and_eq_true, decide_eq_true_eq] at hd'
      by_cases h0 : c = 48 ∧ (c :: r) ≠ [48]
      · have e : digitsP (c :: r) = none := by rw [digitsP, if_neg (fun e => e.2 h0)]
        rw [e]
        have h48 : ((c.toNat : Int) == 48) = true := by rw [h0.1]; rfl
        have hz : ((c :: r : B) == [48]) = false := by simpa using h0.2
        clear h0 hd e
        go_enter Tryz.func229, Tryz.ntmps229
        go_wp2
        go_ret2
        exact ⟨rfl, Below.refl _ _⟩
      · have e : digitsP (c :: r) = numGo 0 (c :: r) := by rw [digitsP, if_pos ⟨hd, h0⟩]
        have hq : ((c.toNat : Int) == 48 && !((c :: r : B) == [48])) = false := by
          rw [Bool.and_eq_false_iff]
          by_cases h48 : c = 48
          · right
            have : (c :: r) = [48] := Decidable.not_not.mp (fun hx => h0 ⟨h48, hx⟩)
            rw [this]; rfl
          · left
            rw [beq_eq_false_iff_ne]
            intro hx
            exact h48 ((u8_eq c 48 (by omega)).mpr (by omega))
        obtain ⟨hp1, hp2⟩ := parse_digits (r := r) hd
        have hlen : (c :: r).length ≤ 281474976710656 := by omega
        have hdl : (bs (c :: r)).data.toList = c :: r := by simp [bs]
        obtain ⟨te, pe, hsyn⟩ := E.syn
        obtain ⟨te', pe', hrng⟩ := E.rng
        have K : Calls Tryz.prog 240 #[.string (bs (c :: r)), .int .i64 10, .int .i64 64] w fun e w' => ∃ (n : Int) (ev : Value), e = .returned (.tuple #[.int .i64 n, ev]) ∧ Below w.heap.size w w' ∧ ((ev = .nilIface ∧ ((numGo 0 (c :: r) = some n ∧ n ≤ 1000000000) ∨ (numGo 0 (c :: r) = none ∧ 1000000000 < n))) ∨ (numGo 0 (c :: r) = none ∧ ∃ t p, ev = .iface t p)) := by
          cases hpr : Lib.parseIntB 64 (c :: r) with
          | ok v =>
            refine (Tryz.strconv_ParseInt_10_at64_ok (bs (c :: r)) (by rw [hsz]; simp at h; omega) v (by rw [hdl]; exact hpr) w).mono ?_
            rintro e w' ⟨rfl, hw⟩
            refine ⟨v, .nilIface, rfl, ?_, .inl ⟨rfl, ?_⟩⟩
            · rcases hw with rfl | ⟨t, rfl⟩
              · exact Below.refl _ _
              · exact Lib.bytesWorld_below _ _ _
            · cases hn : numGo 0 (c :: r) with
              | none => exact .inr ⟨rfl, hp2 hn v hpr⟩
              | some m =>
                obtain ⟨h1, h2⟩ := hp1 m hn
                rw [hpr] at h1
                cases h1
                exact .inl ⟨rfl, h2⟩
          | «syntax» =>
            refine (Tryz.strconv_ParseInt_10_at64_syntax (bs (c :: r)) (by rw [size_bs]; exact hlen) (by rw [hdl]; exact hpr) _ w hsyn (.inr ⟨te, pe, rfl⟩)).mono ?_
            rintro e w' ⟨N, rfl, -, -, hb⟩
            refine ⟨_, _, rfl, hb, .inr ⟨?_, _, _, rfl⟩⟩
            cases hn : numGo 0 (c :: r) with
            | none => rfl
            | some m => have := (hp1 m hn).1; rw [hpr] at this; cases this
          | range =>
            refine (Tryz.strconv_ParseInt_10_at64_range (bs (c :: r)) (by rw [size_bs]; exact hlen) (by rw [hdl]; exact hpr) _ w hrng (.inr ⟨te', pe', rfl⟩)).mono ?_
            rintro e w' ⟨N, rfl, -, -, hb⟩
            refine ⟨_, _, rfl, hb, .inr ⟨?_, _, _, rfl⟩⟩
            cases hn : numGo 0 (c :: r) with
            | none => rfl
            | some m => have := (hp1 m hn).1; rw [hpr] at this; cases this
        rw [e]
        clear e hp1 hp2 hsyn hrng E h0 hdl hlen
        generalize numGo 0 (c :: r) = R at K
        have hcase : ((c.toNat : Int) == 48) = false ∨ (((c.toNat : Int) == 48) = true ∧ ((c :: r : B) == [48]) = true) := by
          cases hx : ((c.toNat : Int) == 48)
          · exact .inl rfl
          · rw [hx, Bool.true_and, Bool.not_eq_false'] at hq
            exact .inr ⟨rfl, hq⟩
        clear hq hd
        have hif := iface_error
        rcases hcase with hc1 | ⟨hc1, hc2⟩
        all_goals
          go_enter Tryz.func229, Tryz.ntmps229
          go_wp2_with (go_at_call 240; refine K.mono ?_; rintro e w1 ⟨n, ev, rfl, hb, ⟨rfl, ⟨hR, hn⟩ | ⟨hR, hn⟩⟩ | ⟨hR, t, p, rfl⟩⟩)
          all_goals
            go_ret2
            rw [hR]
            exact ⟨rfl, hb⟩
    · have e : digitsP (c :: r) = none := by rw [digitsP, if_neg (fun e => hd e.1)]
      rw [e]
      have hd' : (c.toNat : Int) < 48 ∨ ((48 : Int) ≤ c.toNat ∧ (57 : Int) < c.toNat) := by
        simp only [digit, Bool.and_eq_true, decide_eq_true_eq] at hd
        omega
      clear hd e
      rcases hd' with hd' | ⟨hd1, hd2⟩
      all_goals
        go_enter Tryz.func229, Tryz.ntmps229
        go_wp2
        go_ret2
        exact ⟨rfl, Below.refl _ _⟩
end Go.Proofs.YtmlgajhhnojdjaaGreatDoor.PrjG
/- What the project's reader answers on numbers, names and places. -/
namespace Go.Proofs.YtmlgajhhnojdjaaGreatDoor.PrjH
open Go Go.RowKit Go.Proofs.YtmlgajhhnojdjaaGreatDoor.Spec Go.Proofs.YtmlgajhhnojdjaaGreatDoor.PrjF Go.Proofs.YtmlgajhhnojdjaaGreatDoor.PrjG

theorem digitsP_le {l : B} {n : Int} (h : digitsP l = some n) : 0 ≤ n ∧ n ≤ 1000000000 := by
  refine ⟨digitsP_ge h, ?_⟩
  cases l with
  | nil => cases h
  | cons c r =>
    rw [digitsP] at h
    split at h
    · rename_i hd
      exact ((parse_digits (r := r) hd.1).1 n h).2
    · cases h
theorem digitsD_le (l : B) : 0 ≤ (digitsP l).getD 0 ∧ (digitsP l).getD 0 ≤ 1000000000 := by
  cases h : digitsP l with
  | none => simp
  | some n => simpa using digitsP_le h
theorem prefix_cases (l : B) : (∃ r, l = 45 :: r ∧ Lib.trimPrefix l [45] = r ∧ Lib.hasPrefix l [45] = true) ∨ ((∀ r, l ≠ 45 :: r) ∧ Lib.trimPrefix l [45] = l ∧ Lib.hasPrefix l [45] = false) := by
  cases l with
  | nil => right; exact ⟨by simp, rfl, rfl⟩
  | cons c r =>
    by_cases h : c = 45
    · subst h; left; exact ⟨r, rfl, rfl, rfl⟩
    · right
      have hp : Lib.hasPrefix (c :: r) [45] = false := by
        simp [Lib.hasPrefix, List.isPrefixOf]; exact fun e => h e.symm
      exact ⟨by intro r' e; simp only [List.cons.injEq] at e; exact h e.1, by simp [Lib.trimPrefix, hp], hp⟩
theorem numberP_other {l : B} (h : ∀ r, l ≠ 45 :: r) : numberP l = digitsP l := by
  cases l with
  | nil => rfl
  | cons c r => rw [numberP, if_neg (fun e => h r (by rw [e]))]
theorem lit_bs (l : B) : (⟨l.toArray⟩ : ByteArray) = bs l := rfl

set_option maxRecDepth 20000 in
theorem numberOf_any (l : B) (w : World) (h : l.length ≤ 1099511627776) (E : Env w) :
    Calls Tryz.prog 203 #[.string (bs l)] w fun e w' => e = .returned (.tuple #[.int .i64 ((numberP l).getD 0), .bool (numberP l).isSome]) ∧ Below w.heap.size w w' := by
  have hdl : (bs l).data.toList = l := by simp [bs]
  have K := Tryz.strings_CutPrefix (bs l) ⟨#[45]⟩ w
  rw [hdl] at K
  have h45 : (⟨#[45]⟩ : ByteArray).data.toList = [45] := rfl
  rw [h45] at K
  rcases prefix_cases l with ⟨r, rfl, h1, h2⟩ | ⟨hne, h1, h2⟩
  · rw [h1, h2] at K
    have D := digitsOf_any r w (by simp at h; omega) E
    obtain ⟨d1, d2⟩ := digitsD_le r
    have hN : numberP (45 :: r) = (match digitsP r with | none => none | some n => if n = 0 then none else some (-n)) := by rw [numberP, if_pos rfl]; cases digitsP r <;> rfl
    rw [hN]
    clear h1 h2 hN hdl
    cases hd : digitsP r with
    | none =>
      rw [hd] at D
      go_enter Tryz.func203, Tryz.ntmps203
      go_wp2_with (first | (go_at_call 228; refine K.mono ?_; rintro e w1 ⟨rfl, rfl⟩) | (go_at_call 229; refine D.mono ?_; rintro e w1 ⟨rfl, hb⟩))
      go_ret2
      exact ⟨rfl, hb⟩
    | some n =>
      rw [hd] at D d1 d2
      simp only [Option.getD_some] at d1 d2
      by_cases hn : n = 0
      · subst hn
        go_enter Tryz.func203, Tryz.ntmps203
        go_wp2_with (first | (go_at_call 228; refine K.mono ?_; rintro e w1 ⟨rfl, rfl⟩) | (go_at_call 229; refine D.mono ?_; rintro e w1 ⟨rfl, hb⟩))
        go_ret2
        exact ⟨rfl, hb⟩
      · have hn' : (n == 0) = false := by simp [hn]
        go_enter Tryz.func203, Tryz.ntmps203
        go_wp2_with (first | (go_at_call 228; refine K.mono ?_; rintro e w1 ⟨rfl, rfl⟩) | (go_at_call 229; refine D.mono ?_; rintro e w1 ⟨rfl, hb⟩))
        go_ret2
        exact ⟨ret_num (by simp) (by simp [hn]), hb⟩
  · rw [h1, h2] at K
    have D := digitsOf_any l w h E
    rw [numberP_other hne]
    clear h1 h2 hne hdl
    go_enter Tryz.func203, Tryz.ntmps203
    go_wp2_with (first | (go_at_call 228; refine K.mono ?_; rintro e w1 ⟨rfl, rfl⟩) | (go_at_call 229; refine D.mono ?_; rintro e w1 ⟨rfl, hb⟩))
    go_ret2
    exact ⟨rfl, hb⟩
set_option maxRecDepth 20000 in
theorem blockOf_any (l : B) (w : World) (h : l.length ≤ 1099511627776) (E : Env w) :
    Calls Tryz.prog 205 #[.string (bs l)] w fun e w' => e = .returned (.tuple #[.int .i64 ((digitsP l).getD 0), .bool (digitsP l).isSome]) ∧ Below w.heap.size w w' := by
  have D := digitsOf_any l w h E
  obtain ⟨d1, d2⟩ := digitsD_le l
  go_enter Tryz.func205, Tryz.ntmps205
  go_wp2_with (go_at_call 229; refine D.mono ?_; rintro e w1 ⟨rfl, hb⟩)
  go_ret2
  exact ⟨rfl, hb⟩
def flagOk (l : B) : Bool := match digitsP l with | some n => decide (n < 50) | none => false
set_option maxRecDepth 20000 in
theorem flagOf_any (l : B) (w : World) (h : l.length ≤ 1099511627776) (E : Env w) :
    Calls Tryz.prog 204 #[.string (bs l)] w fun e w' => e = .returned (.tuple #[.int .i64 ((digitsP l).getD 0), .bool (flagOk l)]) ∧ Below w.heap.size w w' := by
  have D := digitsOf_any l w h E
  obtain ⟨d1, d2⟩ := digitsD_le l
  unfold flagOk
  cases hd : digitsP l with
  | none =>
    rw [hd] at D
    go_enter Tryz.func204, Tryz.ntmps204
    go_wp2_with (go_at_call 229; refine D.mono ?_; rintro e w1 ⟨rfl, hb⟩)
    go_ret2
    exact ⟨rfl, hb⟩
  | some n =>
    rw [hd] at D d1 d2
    simp only [Option.getD_some] at d1 d2
    by_cases hn : n < 50
    all_goals
      go_enter Tryz.func204, Tryz.ntmps204
      go_wp2_with (go_at_call 229; refine D.mono ?_; rintro e w1 ⟨rfl, hb⟩)
      go_ret2
      exact ⟨ret_num rfl (by simp [hn]), hb⟩
end Go.Proofs.YtmlgajhhnojdjaaGreatDoor.PrjH
/- What the document's own reader (package stowref) answers on words: names, numbers, places. No conditions but the strings' lengths. -/
namespace Go.Proofs.YtmlgajhhnojdjaaGreatDoor.RefA
open Go.RowKit Go.Proofs.YtmlgajhhnojdjaaGreatDoor.Spec

theorem ret_bool {a b : Bool} (h : a = b) : Ending.returned (.bool a) = .returned (.bool b) := by rw [h]

theorem name_yes (s : ByteArray) (k : Nat) (h : s.toList.take k |>.all lower) (hk : ¬ k < s.size) : isName s.toList = (decide (1 ≤ s.size) && decide (s.size ≤ 4)) := by
  rw [List.take_of_length_le (by rw [length_toList]; omega)] at h
  simp [isName, h, length_toList]
theorem name_no (s : ByteArray) (k : Nat) (hk : k < s.size) (h : s[k].toNat < 97 ∨ 122 < s[k].toNat) : isName s.toList = false := by
  have hm : s[k] ∈ s.toList := by rw [getElem_toList s k hk]; exact List.getElem_mem _
  have : s.toList.all lower = false := by
    rw [List.all_eq_false]
    exact ⟨_, hm, by simp [lower]; omega⟩
  simp [isName, this]
theorem name_go (s : ByteArray) (k : Nat) (hk : k < s.size) (h : (s.toList.take k).all lower = true) (h1 : (97 : Int) ≤ s[k].toNat) (h2 : (s[k].toNat : Int) ≤ 122) : (s.toList.take (k + 1)).all lower = true := by
  rw [List.take_add_one, getElem?_toList s k hk, List.all_append, h]
  simp [lower]; omega

end Go.Proofs.YtmlgajhhnojdjaaGreatDoor.RefA
