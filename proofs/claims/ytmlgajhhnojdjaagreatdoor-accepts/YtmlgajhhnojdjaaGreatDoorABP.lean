/- Programs that are made line by line: a line out of raw numbers, walked. -/
import Derived.Test.YtmlgajhhnojdjaaGreatDoorABO
import Derived.Test.YtmlgajhhnojdjaaGreatDoorABN
namespace Go.Proofs.YtmlgajhhnojdjaaGreatDoor.MadD
open Go Go.RowKit Go.Proofs.YtmlgajhhnojdjaaGreatDoor.Spec Go.Proofs.YtmlgajhhnojdjaaGreatDoor.Aux Go.Proofs.YtmlgajhhnojdjaaGreatDoor.PrjJ Go.Proofs.YtmlgajhhnojdjaaGreatDoor.PrjK Go.Proofs.YtmlgajhhnojdjaaGreatDoor.MadA Go.Proofs.YtmlgajhhnojdjaaGreatDoor.MadM Go.Proofs.YtmlgajhhnojdjaaGreatDoor.MadC

theorem bs_size (l : B) : (bs l).size = l.length := by simp [bs, ByteArray.size]
theorem new_text : ∀ i : Fin 5, (⟨#[110, 101, 119, 32]⟩ ++ bs (plc i) ++ ⟨#[32, 110]⟩ : ByteArray) = bs (ML.new i).text := by decide
theorem load_text : ∀ i : Fin 5, (⟨#[108, 111, 97, 100, 32, 110, 32]⟩ ++ bs (plc i) : ByteArray) = bs (ML.load i).text := by decide
theorem store_text : ∀ i : Fin 5, (⟨#[115, 116, 111, 114, 101, 32]⟩ ++ bs (plc i) ++ ⟨#[32, 110]⟩ : ByteArray) = bs (ML.store i).text := by decide
theorem move_text : ∀ i k : Fin 5, (⟨#[109, 111, 118, 101, 32]⟩ ++ bs (plc i) ++ ⟨#[32]⟩ ++ bs (plc k) : ByteArray) = bs (ML.move i k).text := by decide
theorem drop_text : ∀ i : Fin 5, (⟨#[100, 114, 111, 112, 32]⟩ ++ bs (plc i) : ByteArray) = bs (ML.drop i).text := by decide
theorem some_text : ∀ k : Fin 5, (⟨#[115, 111, 109, 101, 32, 111, 32]⟩ ++ bs (plc k) : ByteArray) = bs (ML.some k).text := by decide
theorem text_size (l : ML) : (bs l.text).size ≤ 1000 := by rw [bs_size]; have := text_len l; omega
def fin5 (c : Int) : Fin 5 := ⟨pickN c 5, pickN_lt c (by decide)⟩
/-- what a step leaves -/
def Acted (w : World) (a : Nat) (T : ByteArray) (n : Nat) (m : MM) : Option (ML × MM) → World → Prop
  | none, w' => MakAt w' a T n m ∧ Turn a w w'
  | some (l, m'), w' => MakAt w' a (T ++ ⟨#[10]⟩ ++ bs l.text) (n + 1) m' ∧ Turn a w w'
section
variable {w : World} {a : Nat} {T : ByteArray} {n : Nat} {m : MM}
set_option maxRecDepth 20000 in
set_option maxHeartbeats 1000000 in
theorem act0 (h : MakAt w a T n m) (kd x y : Int) (i k : Fin 5) (hT : T.size ≤ 900000) (hn : n ≤ 500)
    (KX : Calls Tryz.prog 16 #[.int .i64 x, .int .i64 5] w fun e w' => e = .returned (.int .i64 (i.val : Nat)) ∧ w' = w) (KY : Calls Tryz.prog 16 #[.int .i64 y, .int .i64 5] w fun e w' => e = .returned (.int .i64 (k.val : Nat)) ∧ w' = w)
    (KK : Calls Tryz.prog 16 #[.int .i64 kd, .int .i64 7] w fun e w' => e = .returned (.int .i64 0) ∧ w' = w) :
    Calls Tryz.prog 20 #[.pointer (some ⟨a, 0, none⟩), .int .i64 kd, .int .i64 x, .int .i64 y] w fun e w' => e = .returned (.tuple #[]) ∧ Acted w a T n m (m.step 0 i k) w' := by
  have hib : (i.val : Int) < 5 := by have := i.isLt; omega
  have hkb : (k.val : Int) < 5 := by have := k.isLt; omega
  have ci := h.has i
  have ck := h.has k
  have KC := can_any h i
  have hpi : (plc i).length ≤ 3 := plc_len i
  have hpk : (plc k).length ≤ 3 := plc_len k
  by_cases hc : (m.can i) = true
  · have hs : m.step 0 i k = some (.new i, m.now i true) := if_pos hc
    rw [hs]
    rw [hc] at KC
    go_enter Tryz.func20, Tryz.ntmps20
    go_wp2_with (first
      | (go_at_call 16; have _ := tk2; refine KK.mono ?_; rintro e w1 ⟨rfl, rfl⟩)
      | (go_at_call 16; have tk2 := tk1; refine KY.mono ?_; rintro e w1 ⟨rfl, rfl⟩)
      | (go_at_call 16; have tk1 : True := trivial; refine KX.mono ?_; rintro e w1 ⟨rfl, rfl⟩)
      | (go_at_call 37; refine KC.mono ?_; rintro e w1 ⟨rfl, rfl⟩)
      | (go_at_call 19; refine (now_any h6 i true).mono ?_; rintro e w7 ⟨rfl, h7, t7⟩)
      | (go_at_call 17; simp only [new_text]; refine (line_any h5 (bs (ML.new i).text) (by omega) (text_size _) (by omega)).mono ?_; rintro e w6 ⟨rfl, h6, t6⟩)
      | (go_at_call 18; refine (place_any i _).mono ?_; rintro e w5 ⟨rfl, hb5⟩; have h5 := h.below hb5))
    go_end0
    exact ⟨rfl, h7, ((Turn.of hb5).trans t6).trans t7⟩
  · have hs : m.step 0 i k = none := if_neg hc
    rw [hs]
    rw [Bool.not_eq_true] at hc
    rw [hc] at KC
    go_enter Tryz.func20, Tryz.ntmps20
    go_wp2_with (first
      | (go_at_call 16; have _ := tk2; refine KK.mono ?_; rintro e w1 ⟨rfl, rfl⟩)
      | (go_at_call 16; have tk2 := tk1; refine KY.mono ?_; rintro e w1 ⟨rfl, rfl⟩)
      | (go_at_call 16; have tk1 : True := trivial; refine KX.mono ?_; rintro e w1 ⟨rfl, rfl⟩)
      | (go_at_call 37; refine KC.mono ?_; rintro e w1 ⟨rfl, rfl⟩))
    go_end0
    exact ⟨rfl, h, Turn.refl _ _⟩
set_option maxRecDepth 20000 in
set_option maxHeartbeats 1000000 in
theorem act1 (h : MakAt w a T n m) (kd x y : Int) (i k : Fin 5) (hT : T.size ≤ 900000) (hn : n ≤ 500)
    (KX : Calls Tryz.prog 16 #[.int .i64 x, .int .i64 5] w fun e w' => e = .returned (.int .i64 (i.val : Nat)) ∧ w' = w) (KY : Calls Tryz.prog 16 #[.int .i64 y, .int .i64 5] w fun e w' => e = .returned (.int .i64 (k.val : Nat)) ∧ w' = w)
    (KK : Calls Tryz.prog 16 #[.int .i64 kd, .int .i64 7] w fun e w' => e = .returned (.int .i64 1) ∧ w' = w) :
    Calls Tryz.prog 20 #[.pointer (some ⟨a, 0, none⟩), .int .i64 kd, .int .i64 x, .int .i64 y] w fun e w' => e = .returned (.tuple #[]) ∧ Acted w a T n m (m.step 1 i k) w' := by
  have hib : (i.val : Int) < 5 := by have := i.isLt; omega
  have hkb : (k.val : Int) < 5 := by have := k.isLt; omega
  have ci := h.has i
  have ck := h.has k
  have KC := can_any h i
  have hpi : (plc i).length ≤ 3 := plc_len i
  have hpk : (plc k).length ≤ 3 := plc_len k
  by_cases hc : (m.can i) = true
  · have hs : m.step 1 i k = some (.new i, m.now i true) := if_pos hc
    rw [hs]
    rw [hc] at KC
    go_enter Tryz.func20, Tryz.ntmps20
    go_wp2_with (first
      | (go_at_call 16; have _ := tk2; refine KK.mono ?_; rintro e w1 ⟨rfl, rfl⟩)
      | (go_at_call 16; have tk2 := tk1; refine KY.mono ?_; rintro e w1 ⟨rfl, rfl⟩)
      | (go_at_call 16; have tk1 : True := trivial; refine KX.mono ?_; rintro e w1 ⟨rfl, rfl⟩)
      | (go_at_call 37; refine KC.mono ?_; rintro e w1 ⟨rfl, rfl⟩)
      | (go_at_call 19; refine (now_any h6 i true).mono ?_; rintro e w7 ⟨rfl, h7, t7⟩)
      | (go_at_call 17; simp only [new_text]; refine (line_any h5 (bs (ML.new i).text) (by omega) (text_size _) (by omega)).mono ?_; rintro e w6 ⟨rfl, h6, t6⟩)
      | (go_at_call 18; refine (place_any i _).mono ?_; rintro e w5 ⟨rfl, hb5⟩; have h5 := h.below hb5))
    go_end0
    exact ⟨rfl, h7, ((Turn.of hb5).trans t6).trans t7⟩
  · have hs : m.step 1 i k = none := if_neg hc
    rw [hs]
    rw [Bool.not_eq_true] at hc
    rw [hc] at KC
    go_enter Tryz.func20, Tryz.ntmps20
    go_wp2_with (first
      | (go_at_call 16; have _ := tk2; refine KK.mono ?_; rintro e w1 ⟨rfl, rfl⟩)
      | (go_at_call 16; have tk2 := tk1; refine KY.mono ?_; rintro e w1 ⟨rfl, rfl⟩)
      | (go_at_call 16; have tk1 : True := trivial; refine KX.mono ?_; rintro e w1 ⟨rfl, rfl⟩)
      | (go_at_call 37; refine KC.mono ?_; rintro e w1 ⟨rfl, rfl⟩))
    go_end0
    exact ⟨rfl, h, Turn.refl _ _⟩
set_option maxRecDepth 20000 in
set_option maxHeartbeats 1000000 in
theorem act2 (h : MakAt w a T n m) (kd x y : Int) (i k : Fin 5) (hT : T.size ≤ 900000) (hn : n ≤ 500)
    (KX : Calls Tryz.prog 16 #[.int .i64 x, .int .i64 5] w fun e w' => e = .returned (.int .i64 (i.val : Nat)) ∧ w' = w) (KY : Calls Tryz.prog 16 #[.int .i64 y, .int .i64 5] w fun e w' => e = .returned (.int .i64 (k.val : Nat)) ∧ w' = w)
    (KK : Calls Tryz.prog 16 #[.int .i64 kd, .int .i64 7] w fun e w' => e = .returned (.int .i64 2) ∧ w' = w) :
    Calls Tryz.prog 20 #[.pointer (some ⟨a, 0, none⟩), .int .i64 kd, .int .i64 x, .int .i64 y] w fun e w' => e = .returned (.tuple #[]) ∧ Acted w a T n m (m.step 2 i k) w' := by
  have hib : (i.val : Int) < 5 := by have := i.isLt; omega
  have hkb : (k.val : Int) < 5 := by have := k.isLt; omega
  have ci := h.has i
  have ck := h.has k
  have KC := can_any h i
  have hpi : (plc i).length ≤ 3 := plc_len i
  have hpk : (plc k).length ≤ 3 := plc_len k
  by_cases hc : (m.has i) = true
  · have hs : m.step 2 i k = some (.load i, m) := if_pos hc
    rw [hs]
    rw [hc] at ci
    go_enter Tryz.func20, Tryz.ntmps20
    go_wp2_with (first
      | (go_at_call 16; have _ := tk2; refine KK.mono ?_; rintro e w1 ⟨rfl, rfl⟩)
      | (go_at_call 16; have tk2 := tk1; refine KY.mono ?_; rintro e w1 ⟨rfl, rfl⟩)
      | (go_at_call 16; have tk1 : True := trivial; refine KX.mono ?_; rintro e w1 ⟨rfl, rfl⟩)
      | (go_at_call 37; refine KC.mono ?_; rintro e w1 ⟨rfl, rfl⟩)
      | (go_at_call 17; simp only [load_text]; refine (line_any h5 (bs (ML.load i).text) (by omega) (text_size _) (by omega)).mono ?_; rintro e w6 ⟨rfl, h6, t6⟩)
      | (go_at_call 18; refine (place_any i _).mono ?_; rintro e w5 ⟨rfl, hb5⟩; have h5 := h.below hb5))
    go_end0
    exact ⟨rfl, h6, (Turn.of hb5).trans t6⟩
  · have hs : m.step 2 i k = none := if_neg hc
    rw [hs]
    rw [Bool.not_eq_true] at hc
    rw [hc] at ci
    go_enter Tryz.func20, Tryz.ntmps20
    go_wp2_with (first
      | (go_at_call 16; have _ := tk2; refine KK.mono ?_; rintro e w1 ⟨rfl, rfl⟩)
      | (go_at_call 16; have tk2 := tk1; refine KY.mono ?_; rintro e w1 ⟨rfl, rfl⟩)
      | (go_at_call 16; have tk1 : True := trivial; refine KX.mono ?_; rintro e w1 ⟨rfl, rfl⟩)
      | (go_at_call 37; refine KC.mono ?_; rintro e w1 ⟨rfl, rfl⟩))
    go_end0
    exact ⟨rfl, h, Turn.refl _ _⟩
set_option maxRecDepth 20000 in
set_option maxHeartbeats 1000000 in
theorem act3 (h : MakAt w a T n m) (kd x y : Int) (i k : Fin 5) (hT : T.size ≤ 900000) (hn : n ≤ 500)
    (KX : Calls Tryz.prog 16 #[.int .i64 x, .int .i64 5] w fun e w' => e = .returned (.int .i64 (i.val : Nat)) ∧ w' = w) (KY : Calls Tryz.prog 16 #[.int .i64 y, .int .i64 5] w fun e w' => e = .returned (.int .i64 (k.val : Nat)) ∧ w' = w)
    (KK : Calls Tryz.prog 16 #[.int .i64 kd, .int .i64 7] w fun e w' => e = .returned (.int .i64 3) ∧ w' = w) :
    Calls Tryz.prog 20 #[.pointer (some ⟨a, 0, none⟩), .int .i64 kd, .int .i64 x, .int .i64 y] w fun e w' => e = .returned (.tuple #[]) ∧ Acted w a T n m (m.step 3 i k) w' := by
  have hib : (i.val : Int) < 5 := by have := i.isLt; omega
  have hkb : (k.val : Int) < 5 := by have := k.isLt; omega
  have ci := h.has i
  have ck := h.has k
  have KC := can_any h i
  have hpi : (plc i).length ≤ 3 := plc_len i
  have hpk : (plc k).length ≤ 3 := plc_len k
  by_cases hc : (m.has i) = true
  · have hs : m.step 3 i k = some (.store i, m) := if_pos hc
    rw [hs]
    rw [hc] at ci
    go_enter Tryz.func20, Tryz.ntmps20
    go_wp2_with (first
      | (go_at_call 16; have _ := tk2; refine KK.mono ?_; rintro e w1 ⟨rfl, rfl⟩)
      | (go_at_call 16; have tk2 := tk1; refine KY.mono ?_; rintro e w1 ⟨rfl, rfl⟩)
      | (go_at_call 16; have tk1 : True := trivial; refine KX.mono ?_; rintro e w1 ⟨rfl, rfl⟩)
      | (go_at_call 37; refine KC.mono ?_; rintro e w1 ⟨rfl, rfl⟩)
      | (go_at_call 17; simp only [store_text]; refine (line_any h5 (bs (ML.store i).text) (by omega) (text_size _) (by omega)).mono ?_; rintro e w6 ⟨rfl, h6, t6⟩)
      | (go_at_call 18; refine (place_any i _).mono ?_; rintro e w5 ⟨rfl, hb5⟩; have h5 := h.below hb5))
    go_end0
    exact ⟨rfl, h6, (Turn.of hb5).trans t6⟩
  · have hs : m.step 3 i k = none := if_neg hc
    rw [hs]
    rw [Bool.not_eq_true] at hc
    rw [hc] at ci
    go_enter Tryz.func20, Tryz.ntmps20
    go_wp2_with (first
      | (go_at_call 16; have _ := tk2; refine KK.mono ?_; rintro e w1 ⟨rfl, rfl⟩)
      | (go_at_call 16; have tk2 := tk1; refine KY.mono ?_; rintro e w1 ⟨rfl, rfl⟩)
      | (go_at_call 16; have tk1 : True := trivial; refine KX.mono ?_; rintro e w1 ⟨rfl, rfl⟩)
      | (go_at_call 37; refine KC.mono ?_; rintro e w1 ⟨rfl, rfl⟩))
    go_end0
    exact ⟨rfl, h, Turn.refl _ _⟩
set_option maxRecDepth 20000 in
set_option maxHeartbeats 1000000 in
theorem act4 (h : MakAt w a T n m) (kd x y : Int) (i k : Fin 5) (hT : T.size ≤ 900000) (hn : n ≤ 500)
    (KX : Calls Tryz.prog 16 #[.int .i64 x, .int .i64 5] w fun e w' => e = .returned (.int .i64 (i.val : Nat)) ∧ w' = w) (KY : Calls Tryz.prog 16 #[.int .i64 y, .int .i64 5] w fun e w' => e = .returned (.int .i64 (k.val : Nat)) ∧ w' = w)
    (KK : Calls Tryz.prog 16 #[.int .i64 kd, .int .i64 7] w fun e w' => e = .returned (.int .i64 4) ∧ w' = w) :
    Calls Tryz.prog 20 #[.pointer (some ⟨a, 0, none⟩), .int .i64 kd, .int .i64 x, .int .i64 y] w fun e w' => e = .returned (.tuple #[]) ∧ Acted w a T n m (m.step 4 i k) w' := by
  have hib : (i.val : Int) < 5 := by have := i.isLt; omega
  have hkb : (k.val : Int) < 5 := by have := k.isLt; omega
  have ci := h.has i
  have ck := h.has k
  have KC := can_any h i
  have hpi : (plc i).length ≤ 3 := plc_len i
  have hpk : (plc k).length ≤ 3 := plc_len k
  by_cases hc : (m.has k && (m.can i || i == k)) = true
  · have hs : m.step 4 i k = some (.move i k, (m.now k false).now i true) := if_pos hc
    rw [hs]
    rw [Bool.and_eq_true, Bool.or_eq_true] at hc
    obtain ⟨hc1, hc2⟩ := hc
    rw [hc1] at ck
    have hik : (((i.val : Nat) : Int) == ((k.val : Nat) : Int)) = (i == k) := by
      rw [Bool.eq_iff_iff, beq_iff_eq, beq_iff_eq, Fin.ext_iff]; omega
    rcases Bool.eq_false_or_eq_true (m.can i) with hc3 | hc3
    · rw [hc3] at KC
      go_enter Tryz.func20, Tryz.ntmps20
      go_wp2_with (first
        | (go_at_call 16; have _ := tk2; refine KK.mono ?_; rintro e w1 ⟨rfl, rfl⟩)
        | (go_at_call 16; have tk2 := tk1; refine KY.mono ?_; rintro e w1 ⟨rfl, rfl⟩)
        | (go_at_call 16; have tk1 : True := trivial; refine KX.mono ?_; rintro e w1 ⟨rfl, rfl⟩)
        | (go_at_call 37; refine KC.mono ?_; rintro e w1 ⟨rfl, rfl⟩)
        | (go_at_call 19; refine (now_any h7 i true).mono ?_; rintro e w8 ⟨rfl, h8, t8⟩)
        | (go_at_call 19; refine (now_any h6 k false).mono ?_; rintro e w7 ⟨rfl, h7, t7⟩)
        | (go_at_call 17; simp only [move_text]; refine (line_any h4 (bs (ML.move i k).text) (by omega) (text_size _) (by omega)).mono ?_; rintro e w6 ⟨rfl, h6, t6⟩)
        | (go_at_call 18; refine (place_any k _).mono ?_; rintro e w4 ⟨rfl, hb4⟩; have h4 := h5.below hb4)
        | (go_at_call 18; refine (place_any i _).mono ?_; rintro e w5 ⟨rfl, hb5⟩; have h5 := h.below hb5))
      go_end0
      exact ⟨rfl, h8, ((((Turn.of hb5).on hb4).trans t6).trans t7).trans t8⟩
    · rw [hc3] at KC hc2
      have hikE : k = i := by
        have : (i == k) = true := by simpa using hc2
        exact (by simpa using this : i = k).symm
      subst hikE
      have hik2 : (((k.val : Nat) : Int) == ((k.val : Nat) : Int)) = true := by simp
      go_enter Tryz.func20, Tryz.ntmps20
      go_wp2_with (first
        | (go_at_call 16; have _ := tk2; refine KK.mono ?_; rintro e w1 ⟨rfl, rfl⟩)
        | (go_at_call 16; have tk2 := tk1; refine KY.mono ?_; rintro e w1 ⟨rfl, rfl⟩)
        | (go_at_call 16; have tk1 : True := trivial; refine KX.mono ?_; rintro e w1 ⟨rfl, rfl⟩)
        | (go_at_call 37; refine KC.mono ?_; rintro e w1 ⟨rfl, rfl⟩)
        | (go_at_call 19; refine (now_any h7 k true).mono ?_; rintro e w8 ⟨rfl, h8, t8⟩)
        | (go_at_call 19; refine (now_any h6 k false).mono ?_; rintro e w7 ⟨rfl, h7, t7⟩)
        | (go_at_call 17; simp only [move_text]; refine (line_any h4 (bs (ML.move k k).text) (by omega) (text_size _) (by omega)).mono ?_; rintro e w6 ⟨rfl, h6, t6⟩)
        | (go_at_call 18; refine (place_any k _).mono ?_; rintro e w4 ⟨rfl, hb4⟩; have h4 := h5.below hb4)
        | (go_at_call 18; refine (place_any k _).mono ?_; rintro e w5 ⟨rfl, hb5⟩; have h5 := h.below hb5))
      go_end0
      exact ⟨rfl, h8, ((((Turn.of hb5).on hb4).trans t6).trans t7).trans t8⟩
  · have hs : m.step 4 i k = none := if_neg hc
    rw [hs]
    have hik : (((i.val : Nat) : Int) == ((k.val : Nat) : Int)) = (i == k) := by
      rw [Bool.eq_iff_iff, beq_iff_eq, beq_iff_eq, Fin.ext_iff]; omega
    rcases Bool.eq_false_or_eq_true (m.has k) with hk | hk
    · rw [hk] at ck hc
      have hc1 : m.can i = false := by
        cases h1 : m.can i
        · rfl
        · rw [h1] at hc; exact absurd rfl hc
      have hik2 : (((i.val : Nat) : Int) == ((k.val : Nat) : Int)) = false := by
        rw [hik]
        cases h1 : (i == k)
        · rfl
        · rw [hc1, h1] at hc; exact absurd rfl hc
      rw [hc1] at KC
      clear hik
      go_enter Tryz.func20, Tryz.ntmps20
      go_wp2_with (first
        | (go_at_call 16; have _ := tk2; refine KK.mono ?_; rintro e w1 ⟨rfl, rfl⟩)
        | (go_at_call 16; have tk2 := tk1; refine KY.mono ?_; rintro e w1 ⟨rfl, rfl⟩)
        | (go_at_call 16; have tk1 : True := trivial; refine KX.mono ?_; rintro e w1 ⟨rfl, rfl⟩)
        | (go_at_call 37; refine KC.mono ?_; rintro e w1 ⟨rfl, rfl⟩))
      go_end0
      exact ⟨rfl, h, Turn.refl _ _⟩
    · rw [hk] at ck
      rcases Bool.eq_false_or_eq_true (m.can i) with hc3 | hc3
      · rw [hc3] at KC
        go_enter Tryz.func20, Tryz.ntmps20
        go_wp2_with (first
          | (go_at_call 16; have _ := tk2; refine KK.mono ?_; rintro e w1 ⟨rfl, rfl⟩)
          | (go_at_call 16; have tk2 := tk1; refine KY.mono ?_; rintro e w1 ⟨rfl, rfl⟩)
          | (go_at_call 16; have tk1 : True := trivial; refine KX.mono ?_; rintro e w1 ⟨rfl, rfl⟩)
          | (go_at_call 37; refine KC.mono ?_; rintro e w1 ⟨rfl, rfl⟩))
        go_end0
        exact ⟨rfl, h, Turn.refl _ _⟩
      · rw [hc3] at KC
        go_enter Tryz.func20, Tryz.ntmps20
        go_wp2_with (first
          | (go_at_call 16; have _ := tk2; refine KK.mono ?_; rintro e w1 ⟨rfl, rfl⟩)
          | (go_at_call 16; have tk2 := tk1; refine KY.mono ?_; rintro e w1 ⟨rfl, rfl⟩)
          | (go_at_call 16; have tk1 : True := trivial; refine KX.mono ?_; rintro e w1 ⟨rfl, rfl⟩)
          | (go_at_call 37; refine KC.mono ?_; rintro e w1 ⟨rfl, rfl⟩))
        go_end0
        exact ⟨rfl, h, Turn.refl _ _⟩
set_option maxRecDepth 20000 in
set_option maxHeartbeats 1000000 in
theorem act5 (h : MakAt w a T n m) (kd x y : Int) (i k : Fin 5) (hT : T.size ≤ 900000) (hn : n ≤ 500)
    (KX : Calls Tryz.prog 16 #[.int .i64 x, .int .i64 5] w fun e w' => e = .returned (.int .i64 (i.val : Nat)) ∧ w' = w) (KY : Calls Tryz.prog 16 #[.int .i64 y, .int .i64 5] w fun e w' => e = .returned (.int .i64 (k.val : Nat)) ∧ w' = w)
    (KK : Calls Tryz.prog 16 #[.int .i64 kd, .int .i64 7] w fun e w' => e = .returned (.int .i64 5) ∧ w' = w) :
    Calls Tryz.prog 20 #[.pointer (some ⟨a, 0, none⟩), .int .i64 kd, .int .i64 x, .int .i64 y] w fun e w' => e = .returned (.tuple #[]) ∧ Acted w a T n m (m.step 5 i k) w' := by
  have hib : (i.val : Int) < 5 := by have := i.isLt; omega
  have hkb : (k.val : Int) < 5 := by have := k.isLt; omega
  have ci := h.has i
  have ck := h.has k
  have KC := can_any h i
  have hpi : (plc i).length ≤ 3 := plc_len i
  have hpk : (plc k).length ≤ 3 := plc_len k
  by_cases hc : (m.can i) = true
  · have hs : m.step 5 i k = some (.drop i, m.now i false) := if_pos hc
    rw [hs]
    rw [hc] at KC
    go_enter Tryz.func20, Tryz.ntmps20
    go_wp2_with (first
      | (go_at_call 16; have _ := tk2; refine KK.mono ?_; rintro e w1 ⟨rfl, rfl⟩)
      | (go_at_call 16; have tk2 := tk1; refine KY.mono ?_; rintro e w1 ⟨rfl, rfl⟩)
      | (go_at_call 16; have tk1 : True := trivial; refine KX.mono ?_; rintro e w1 ⟨rfl, rfl⟩)
      | (go_at_call 37; refine KC.mono ?_; rintro e w1 ⟨rfl, rfl⟩)
      | (go_at_call 19; refine (now_any h6 i false).mono ?_; rintro e w7 ⟨rfl, h7, t7⟩)
      | (go_at_call 17; simp only [drop_text]; refine (line_any h5 (bs (ML.drop i).text) (by omega) (text_size _) (by omega)).mono ?_; rintro e w6 ⟨rfl, h6, t6⟩)
      | (go_at_call 18; refine (place_any i _).mono ?_; rintro e w5 ⟨rfl, hb5⟩; have h5 := h.below hb5))
    go_end0
    exact ⟨rfl, h7, ((Turn.of hb5).trans t6).trans t7⟩
  · have hs : m.step 5 i k = none := if_neg hc
    rw [hs]
    rw [Bool.not_eq_true] at hc
    rw [hc] at KC
    go_enter Tryz.func20, Tryz.ntmps20
    go_wp2_with (first
      | (go_at_call 16; have _ := tk2; refine KK.mono ?_; rintro e w1 ⟨rfl, rfl⟩)
      | (go_at_call 16; have tk2 := tk1; refine KY.mono ?_; rintro e w1 ⟨rfl, rfl⟩)
      | (go_at_call 16; have tk1 : True := trivial; refine KX.mono ?_; rintro e w1 ⟨rfl, rfl⟩)
      | (go_at_call 37; refine KC.mono ?_; rintro e w1 ⟨rfl, rfl⟩))
    go_end0
    exact ⟨rfl, h, Turn.refl _ _⟩
set_option maxRecDepth 20000 in
set_option maxHeartbeats 1000000 in
theorem act6 (h : MakAt w a T n m) (kd x y : Int) (i k : Fin 5) (hT : T.size ≤ 900000) (hn : n ≤ 500)
    (KX : Calls Tryz.prog 16 #[.int .i64 x, .int .i64 5] w fun e w' => e = .returned (.int .i64 (i.val : Nat)) ∧ w' = w) (KY : Calls Tryz.prog 16 #[.int .i64 y, .int .i64 5] w fun e w' => e = .returned (.int .i64 (k.val : Nat)) ∧ w' = w)
    (KK : Calls Tryz.prog 16 #[.int .i64 kd, .int .i64 7] w fun e w' => e = .returned (.int .i64 6) ∧ w' = w) :
    Calls Tryz.prog 20 #[.pointer (some ⟨a, 0, none⟩), .int .i64 kd, .int .i64 x, .int .i64 y] w fun e w' => e = .returned (.tuple #[]) ∧ Acted w a T n m (m.step 6 i k) w' := by
  have hib : (i.val : Int) < 5 := by have := i.isLt; omega
  have hkb : (k.val : Int) < 5 := by have := k.isLt; omega
  have ci := h.has i
  have ck := h.has k
  have KC := can_any h i
  have hpi : (plc i).length ≤ 3 := plc_len i
  have hpk : (plc k).length ≤ 3 := plc_len k
  by_cases hc : (m.has k) = true
  · have hs : m.step 6 i k = some (.some k, (m.now k false).now 4 true) := if_pos hc
    rw [hs]
    rw [hc] at ck
    go_enter Tryz.func20, Tryz.ntmps20
    go_wp2_with (first
      | (go_at_call 16; have _ := tk2; refine KK.mono ?_; rintro e w1 ⟨rfl, rfl⟩)
      | (go_at_call 16; have tk2 := tk1; refine KY.mono ?_; rintro e w1 ⟨rfl, rfl⟩)
      | (go_at_call 16; have tk1 : True := trivial; refine KX.mono ?_; rintro e w1 ⟨rfl, rfl⟩)
      | (go_at_call 37; refine KC.mono ?_; rintro e w1 ⟨rfl, rfl⟩)
      | (go_at_call 19; refine (now_any h7 4 true).mono ?_; rintro e w8 ⟨rfl, h8, t8⟩)
      | (go_at_call 19; refine (now_any h6 k false).mono ?_; rintro e w7 ⟨rfl, h7, t7⟩)
      | (go_at_call 17; simp only [some_text]; refine (line_any h5 (bs (ML.some k).text) (by omega) (text_size _) (by omega)).mono ?_; rintro e w6 ⟨rfl, h6, t6⟩)
      | (go_at_call 18; refine (place_any k _).mono ?_; rintro e w5 ⟨rfl, hb5⟩; have h5 := h.below hb5))
    go_end0
    exact ⟨rfl, h8, (((Turn.of hb5).trans t6).trans t7).trans t8⟩
  · have hs : m.step 6 i k = none := if_neg hc
    rw [hs]
    rw [Bool.not_eq_true] at hc
    rw [hc] at ck
    go_enter Tryz.func20, Tryz.ntmps20
    go_wp2_with (first
      | (go_at_call 16; have _ := tk2; refine KK.mono ?_; rintro e w1 ⟨rfl, rfl⟩)
      | (go_at_call 16; have tk2 := tk1; refine KY.mono ?_; rintro e w1 ⟨rfl, rfl⟩)
      | (go_at_call 16; have tk1 : True := trivial; refine KX.mono ?_; rintro e w1 ⟨rfl, rfl⟩)
      | (go_at_call 37; refine KC.mono ?_; rintro e w1 ⟨rfl, rfl⟩))
    go_end0
    exact ⟨rfl, h, Turn.refl _ _⟩
/-- a line out of raw numbers -/
theorem act_any (h : MakAt w a T n m) (kd x y : Int) (hkd : -9223372036854775808 ≤ kd ∧ kd ≤ 9223372036854775807) (hx : -9223372036854775808 ≤ x ∧ x ≤ 9223372036854775807) (hy : -9223372036854775808 ≤ y ∧ y ≤ 9223372036854775807) (hT : T.size ≤ 900000) (hn : n ≤ 500) :
    Calls Tryz.prog 20 #[.pointer (some ⟨a, 0, none⟩), .int .i64 kd, .int .i64 x, .int .i64 y] w fun e w' => e = .returned (.tuple #[]) ∧ Acted w a T n m (m.step (pickN kd 7) (fin5 x) (fin5 y)) w' := by
  have KX : Calls Tryz.prog 16 #[.int .i64 x, .int .i64 5] w fun e w' => e = .returned (.int .i64 ((fin5 x).val : Nat)) ∧ w' = w := pick_any x 5 w hx (by decide)
  have KY : Calls Tryz.prog 16 #[.int .i64 y, .int .i64 5] w fun e w' => e = .returned (.int .i64 ((fin5 y).val : Nat)) ∧ w' = w := pick_any y 5 w hy (by decide)
  have KK : Calls Tryz.prog 16 #[.int .i64 kd, .int .i64 7] w fun e w' => e = .returned (.int .i64 (pickN kd 7 : Nat)) ∧ w' = w := pick_any kd 7 w hkd (by decide)
  have hlt := pickN_lt kd (n := 7) (by decide)
  generalize pickN kd 7 = g at KK hlt ⊢
  have hg : g = 0 ∨ g = 1 ∨ g = 2 ∨ g = 3 ∨ g = 4 ∨ g = 5 ∨ g = 6 := by omega
  rcases hg with rfl | rfl | rfl | rfl | rfl | rfl | rfl
  · exact act0 h kd x y _ _ hT hn KX KY KK
  · exact act1 h kd x y _ _ hT hn KX KY KK
  · exact act2 h kd x y _ _ hT hn KX KY KK
  · exact act3 h kd x y _ _ hT hn KX KY KK
  · exact act4 h kd x y _ _ hT hn KX KY KK
  · exact act5 h kd x y _ _ hT hn KX KY KK
  · exact act6 h kd x y _ _ hT hn KX KY KK
end
end Go.Proofs.YtmlgajhhnojdjaaGreatDoor.MadD
/- Programs that are made line by line: what Check says of them; their beginning, walked. -/
namespace Go.Proofs.YtmlgajhhnojdjaaGreatDoor.MadE
open Go Go.RowKit Go.Proofs.YtmlgajhhnojdjaaGreatDoor.Spec Go.Proofs.YtmlgajhhnojdjaaGreatDoor.Aux Go.Proofs.YtmlgajhhnojdjaaGreatDoor.PrjJ Go.Proofs.YtmlgajhhnojdjaaGreatDoor.PrjK Go.Proofs.YtmlgajhhnojdjaaGreatDoor.FlwI Go.Proofs.YtmlgajhhnojdjaaGreatDoor.FlwP Go.Proofs.YtmlgajhhnojdjaaGreatDoor.FlwQ Go.Proofs.YtmlgajhhnojdjaaGreatDoor.FlwY Go.Proofs.YtmlgajhhnojdjaaGreatDoor.FlwZ Go.Proofs.YtmlgajhhnojdjaaGreatDoor.FlwZa Go.Proofs.YtmlgajhhnojdjaaGreatDoor.MadA Go.Proofs.YtmlgajhhnojdjaaGreatDoor.MadM Go.Proofs.YtmlgajhhnojdjaaGreatDoor.MadB Go.Proofs.YtmlgajhhnojdjaaGreatDoor.MadC Go.Proofs.YtmlgajhhnojdjaaGreatDoor.MadD

def headT : B := [108, 101, 116, 32, 110, 32, 105, 110, 116] ++ tails (headL.drop 1)
/-- the text so far -/
def txt (L : List ML) : B := headT ++ tails (L.map ML.text)
theorem tails_app (L M : List B) : tails (L ++ M) = tails L ++ tails M := by simp [tails]
theorem txt_add (L : List ML) (l : ML) : txt (L ++ [l]) = txt L ++ 10 :: l.text := by
  unfold txt
  rw [List.map_append, tails_app, List.append_assoc]; simp [tails]
theorem made_txt (L : List ML) : madeT L = txt L ++ 10 :: endT := by
  unfold madeT txt headT
  rw [tails_app, tails_app]
  simp [tails]
theorem tails_len : ∀ L : List ML, (tails (L.map ML.text)).length ≤ 13 * L.length
  | [] => by simp [tails]
  | l :: L => by
    have h1 := tails_len L
    have h2 := text_len l
    have e : tails ((l :: L).map ML.text) = 10 :: (l.text ++ tails (L.map ML.text)) := by simp [tails]
    rw [e, List.length_cons, List.length_append, List.length_cons]; omega
theorem txt_len (L : List ML) : (txt L).length ≤ 100 + 13 * L.length := by
  unfold txt
  have h1 := tails_len L
  have h2 : headT.length ≤ 100 := by decide
  rw [List.length_append]; omega
theorem bs_app (a b : B) : bs a ++ bs b = bs (a ++ b) := eq_bs (by rw [append_toList, toList_bs, toList_bs])
theorem bs_line (L : List ML) (l : ML) : bs (txt L) ++ ⟨#[10]⟩ ++ bs l.text = bs (txt (L ++ [l])) := by
  have e : (⟨#[10]⟩ : ByteArray) = bs [10] := rfl
  rw [e, bs_app, bs_app, txt_add]; simp
theorem bs_end (L : List ML) : bs (txt L) ++ ⟨#[10]⟩ ++ ⟨#[101, 110, 100, 32, 110]⟩ = bs (madeT L) := by
  have e : (⟨#[10]⟩ : ByteArray) = bs [10] := rfl
  have e2 : (⟨#[101, 110, 100, 32, 110]⟩ : ByteArray) = bs endT := rfl
  rw [e, e2, bs_app, bs_app, made_txt]; simp
/-- .. and of one without -/
theorem chk_right {L : List ML} {m : MM} (h : Made L m) (hl : L.length ≤ 111) {c k : Int} (ha : chkAns (madeT L) c k) : c = 0 ∧ k = 0 := by
  have hr := made_read L hl
  obtain ⟨-, -, p, hp, -⟩ := prjRead_good hr
  rcases ha with ⟨c', k', -, h1, -⟩ | ⟨p', q, E, -, h2, hD, h3⟩
  · rw [hp] at h1; cases h1
  · rw [hr] at h2
    simp only [Prod.mk.injEq, Option.some.injEq, and_true] at h2
    subst h2
    have h4 := one_block (q := madeQ L) rfl (made_next _) hD.inv
    have h5 := made_right h [headQ ++ qlines L 8 ++ [endQ (8 + L.length)]]
    have h6 : firstSome (faultB (madeQ L) E) (madeQ L).blocks.length 0 = none := h4.trans h5
    rcases h3 with ⟨n, h7, -⟩ | ⟨-, rfl, rfl⟩
    · rw [h6] at h7; cases h7
    · exact ⟨rfl, rfl⟩
/-- the maker's beginning -/
def MM0 : MM := ⟨false, false, false, false, 0⟩
set_option maxRecDepth 20000 in
set_option maxHeartbeats 1000000 in
theorem begun_any (w : World) : Calls Tryz.prog 36 #[] w fun e w' => ∃ a, e = .returned (.pointer (some ⟨a, 0, none⟩)) ∧ MakAt w' a (bs (txt [])) 8 MM0 ∧ w.heap.size ≤ a ∧ Below w.heap.size w w' := by
  have h0 : MakAt (w.alloc (.cells #[.string ⟨#[108, 101, 116, 32, 110, 32, 105, 110, 116]⟩, .int .i64 1, .bool false, .bool false, .bool false, .bool false, .bool false, .int .u8 110] 30)) w.heap.size ⟨#[108, 101, 116, 32, 110, 32, 105, 110, 116]⟩ 1 MM0 := Array.getElem?_push_size
  have hbA : Below w.heap.size w (w.alloc (.cells #[.string ⟨#[108, 101, 116, 32, 110, 32, 105, 110, 116]⟩, .int .i64 1, .bool false, .bool false, .bool false, .bool false, .bool false, .int .u8 110] 30)) := (Below.refl _ _).alloc (Nat.le_refl _) _
  go_enter Tryz.func36, Tryz.ntmps36
  go_wp2_with (first
    | (go_at_call 17; refine (line_any h6 _ (by decide) (by decide) (by decide)).mono ?_; rintro e w7 ⟨rfl, h7, t7⟩)
    | (go_at_call 17; refine (line_any h5 _ (by decide) (by decide) (by decide)).mono ?_; rintro e w6 ⟨rfl, h6, t6⟩)
    | (go_at_call 17; refine (line_any h4 _ (by decide) (by decide) (by decide)).mono ?_; rintro e w5 ⟨rfl, h5, t5⟩)
    | (go_at_call 17; refine (line_any h3 _ (by decide) (by decide) (by decide)).mono ?_; rintro e w4 ⟨rfl, h4, t4⟩)
    | (go_at_call 17; refine (line_any h2 _ (by decide) (by decide) (by decide)).mono ?_; rintro e w3 ⟨rfl, h3, t3⟩)
    | (go_at_call 17; refine (line_any h1 _ (by decide) (by decide) (by decide)).mono ?_; rintro e w2 ⟨rfl, h2, t2⟩)
    | (go_at_call 17; refine (line_any h0 _ (by decide) (by decide) (by decide)).mono ?_; rintro e w1 ⟨rfl, h1, t1⟩))
  go_ret
  refine ⟨w.heap.size, rfl, h7, Nat.le_refl _, ?_⟩
  have T := ((((((t1.trans t2).trans t3).trans t4).trans t5).trans t6).trans t7)
  exact hbA.trans (T.below (Nat.le_refl _) hbA.size)
end Go.Proofs.YtmlgajhhnojdjaaGreatDoor.MadE
/- stowkeep's small functions, walked: awake, some, starts. -/
namespace Go.Proofs.YtmlgajhhnojdjaaGreatDoor.RunB
open Go Go.RowKit Go.Proofs.YtmlgajhhnojdjaaGreatDoor.Spec Go.Proofs.YtmlgajhhnojdjaaGreatDoor.Aux Go.Proofs.YtmlgajhhnojdjaaGreatDoor.Own Go.Proofs.YtmlgajhhnojdjaaGreatDoor.RunA Go.Proofs.YtmlgajhhnojdjaaGreatDoor.PrjG Go.Proofs.YtmlgajhhnojdjaaGreatDoor.PrjJ Go.Proofs.YtmlgajhhnojdjaaGreatDoor.PrjK Go.Proofs.YtmlgajhhnojdjaaGreatDoor.PrjM Go.Proofs.YtmlgajhhnojdjaaGreatDoor.PrjS Go.Proofs.YtmlgajhhnojdjaaGreatDoor.FlwZ Go.Proofs.YtmlgajhhnojdjaaGreatDoor.FlwZa Go.Proofs.YtmlgajhhnojdjaaGreatDoor.MadE

theorem feed_nil (w : World) : FeedAt w (.slice none 0 0) [] := ⟨none, 0, rfl, Nat.le_refl _, Nat.zero_le _, fun _j hj => absurd hj (Nat.not_lt_zero _)⟩
end Go.Proofs.YtmlgajhhnojdjaaGreatDoor.RunB
