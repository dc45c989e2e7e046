/- Proved: the law Refuses (a program of one block that is made of raw acts, with one line more that uses what is not there: ErrUse, and just that line; whatever comes behind it) answers true and leaves what came in as it was. Conditions: none but that the listed package variables hold what the program's text lays. -/
import Derived.Test.YtmlgajhhnojdjaaGreatDoorQAV
import Derived.Deep.DeepCutAuto
import Derived.Test.YtmlgajhhnojdjaaGreatDoorRows
import Derived.Test.YtmlgajhhnojdjaaGreatDoorQAD
import Derived.LaidLaws
import Derived.Lib.LaidTab
import Derived.ShapedOpen
import Derived.WalkKit
import Derived.ProofKit
import Derived.Test.YtmlgajhhnojdjaaGreatDoorCards
import Derived.Test.YtmlgajhhnojdjaaGreatDoorTie
import Derived.OpenShut
import Derived.Deep.Slices
import Derived.Deep.DeepHandedRow
import Derived.Deep.DeepWitnessRowRef
/- The law Refuses, walked: whatever the raw acts, in every world that holds the tables. -/
namespace Go.Proofs.YtmlgajhhnojdjaaGreatDoor.MadG
open Go Go.RowKit Go.Proofs.YtmlgajhhnojdjaaGreatDoor.Spec Go.Proofs.YtmlgajhhnojdjaaGreatDoor.Aux Go.Proofs.YtmlgajhhnojdjaaGreatDoor.PrjG Go.Proofs.YtmlgajhhnojdjaaGreatDoor.PrjJ Go.Proofs.YtmlgajhhnojdjaaGreatDoor.PrjK Go.Proofs.YtmlgajhhnojdjaaGreatDoor.FlwZ Go.Proofs.YtmlgajhhnojdjaaGreatDoor.FlwZa Go.Proofs.YtmlgajhhnojdjaaGreatDoor.MadA Go.Proofs.YtmlgajhhnojdjaaGreatDoor.MadM Go.Proofs.YtmlgajhhnojdjaaGreatDoor.MadB Go.Proofs.YtmlgajhhnojdjaaGreatDoor.MadC Go.Proofs.YtmlgajhhnojdjaaGreatDoor.MadD Go.Proofs.YtmlgajhhnojdjaaGreatDoor.MadE Go.Proofs.YtmlgajhhnojdjaaGreatDoor.MadF

def fin3 (c : Int) : Fin 3 := ⟨pickN c 3, pickN_lt c (by decide)⟩
theorem nx_mod (k : Fin 5) : ((k.val : Nat) + 1 : Int) % 4 = ((nx k).val : Nat) := by revert k; decide
theorem sofar_line {w : World} {a : Nat} {L : List ML} {m : MM} (h : SoFar w a L m) (hL : L.length ≤ 150) (l : ML) : Calls Tryz.prog 17 #[.pointer (some ⟨a, 0, none⟩), .string (bs l.text)] w fun e w' => e = .returned (.tuple #[]) ∧ SoFar w' a (L ++ [l]) m ∧ Turn a w w' := by
  refine (line_any h (bs l.text) (by have := txt_size hL; omega) (text_size _) (by omega)).mono ?_
  rintro e w' ⟨rfl, h1, h2⟩
  refine ⟨rfl, ?_, h2⟩
  rw [bs_line] at h1
  unfold SoFar
  rw [List.length_append]
  exact h1
theorem sofar_below {w w' : World} {a : Nat} {L : List ML} {m : MM} (h : SoFar w a L m) (hb : Below w.heap.size w w') : SoFar w' a L m := MakAt.below h hb
/-- the wrong lines -/
def badL (k : Fin 5) (j : Fin 3) : ML := match j with | 0 => .load k | 1 => .store k | 2 => .move (nx k) k
theorem bad_of {m : MM} {k : Fin 5} (h : m.has k = false) (j : Fin 3) : FlwH.faultyQ Q0 ((badL k j).q 0) m.st = true := by
  obtain ⟨p, q, a, b, o⟩ := m
  obtain ⟨h1, h2, h3⟩ := bad_wrong p q a b o k h
  match j with
  | 0 => exact h1
  | 1 => exact h2
  | 2 => exact h3
set_option maxRecDepth 20000 in
set_option maxHeartbeats 4000000 in
theorem Refuses_any (v1 v2 : Value) (n1 n2 : Nat) (which how : Int) (hw1 : i64 which) (hw2 : i64 how) (w : World) (hv1 : ActsAt w v1 n1) (hv2 : ActsAt w v2 n2) (E : Env w) :
    Calls Tryz.prog 4 #[v1, .int .i64 which, .int .i64 how, v2] w fun e w' => e = .returned (.bool true) ∧ Below w.heap.size w w' := by
  have KS := straight_any v1 n1 w hv1
  have KW : ∀ w', Calls Tryz.prog 16 #[.int .i64 which, .int .i64 5] w' fun e w'' => e = .returned (.int .i64 ((fin5 which).val : Nat)) ∧ w'' = w' := fun w' => pick_any which 5 w' hw1 (by decide)
  have KH : ∀ w', Calls Tryz.prog 16 #[.int .i64 how, .int .i64 3] w' fun e w'' => e = .returned (.int .i64 ((fin3 how).val : Nat)) ∧ w'' = w' := fun w' => pick_any how 3 w' hw2 (by decide)
  generalize fin5 which = k at KW
  generalize fin3 how = j at KH
  have hpk : (plc k).length ≤ 3 := plc_len k
  have hpn : (plc (nx k)).length ≤ 3 := plc_len (nx k)
  have hkb : (k.val : Int) < 5 := by have := k.isLt; omega
  obtain ⟨ad2, cap2, rfl, hcap, hmax, hc⟩ := hv2
  go_enter Tryz.func4, Tryz.ntmps4
  go_upto_if 27 with (first
    | (go_at_call 16; refine (KW _).mono ?_; rintro e w2 ⟨rfl, rfl⟩)
    | (go_at_call 15; refine KS.mono ?_; rintro e w1 ⟨a, L, m, rfl, hS, hM, hL, ha, hB1⟩; have HM : Hid (_) := hM; clear hM; have ck := hS.has k; have hlt := hS.lt))
  go_cut [] (fun wc => ∃ L1 m1, SoFar wc a L1 m1 ∧ Hid (Made L1 m1) ∧ Hid (m1.has k = false) ∧ L1.length ≤ 101 ∧ Below w.heap.size w wc)
  case first =>
    cases hk : m.has k
    · rw [hk] at ck
      go_wp2
      go_meet
      case rel => exact ⟨L, m, hS, HM, hk, by omega, hB1⟩
    · rw [hk] at ck
      have HMD : Hid (Made (L ++ [ML.drop k]) (m.now k false)) := by
        obtain ⟨p, q, a', b, o⟩ := m
        exact Made.line HM.out (drop_right p q a' b o k (has_can _ k hk))
      go_wp2_with (first
        | (go_at_call 19; refine (now_any h4 k false).mono ?_; rintro e w5 ⟨rfl, h5, t5⟩)
        | (go_at_call 17; simp only [drop_text]; refine (sofar_line h3 (by omega) (.drop k)).mono ?_; rintro e w4 ⟨rfl, h4, t4⟩)
        | (go_at_call 18; refine (place_any k _).mono ?_; rintro e w3 ⟨rfl, hb3⟩; have h3 := sofar_below hS hb3))
      go_meet
      case rel =>
        have hT : Turn a w2 w5 := ((Turn.of hb3).trans t4).trans t5
        exact ⟨L ++ [ML.drop k], m.now k false, h5, HMD, now_has m k, by rw [List.length_append]; simp; omega, hB1.trans (hT.below ha hB1.size)⟩
  case rest =>
    obtain ⟨L1, m1, hS1, HM1, hk1, hL1, hBc⟩ := hcut
    clear ck hS HM hL KS KW
    obtain ⟨d0, d1, -⟩ := MakAt.facts hS1
    have e4 := nx_mod k
    go_upto_region 8 with (first
      | (go_at_call 18; have _ := hb6; refine (place_any k _).mono ?_; rintro e w7 ⟨rfl, hb7⟩)
      | (go_at_call 18; have _ := hb5; rw [e4]; refine (place_any (nx k) _).mono ?_; rintro e w6 ⟨rfl, hb6⟩)
      | (go_at_call 18; have _ := hb4; refine (place_any k _).mono ?_; rintro e w5 ⟨rfl, hb5⟩)
      | (go_at_call 18; refine (place_any k _).mono ?_; rintro e w4 ⟨rfl, hb4⟩))
    have hb47 : Below wc.heap.size wc w7 := ((hb4.trans (hb5.mono hb4.size)).trans (hb6.mono (Nat.le_trans hb4.size hb5.size))).trans (hb7.mono (Nat.le_trans (Nat.le_trans hb4.size hb5.size) hb6.size))
    have hb8 := hb47.alloc hb47.size (.cells #[.string (⟨#[108, 111, 97, 100, 32, 110, 32]⟩ ++ bs (plc k)), .string (⟨#[115, 116, 111, 114, 101, 32]⟩ ++ bs (plc k) ++ ⟨#[32, 110]⟩), .string (⟨#[109, 111, 118, 101, 32]⟩ ++ bs (plc (nx k)) ++ ⟨#[32]⟩ ++ bs (plc k))] 9)
    have hS8 := sofar_below hS1 hb8
    have hB8 := hBc.trans (hb8.mono hBc.size)
    have hh8 : (w7.alloc (.cells #[.string (⟨#[108, 111, 97, 100, 32, 110, 32]⟩ ++ bs (plc k)), .string (⟨#[115, 116, 111, 114, 101, 32]⟩ ++ bs (plc k) ++ ⟨#[32, 110]⟩), .string (⟨#[109, 111, 118, 101, 32]⟩ ++ bs (plc (nx k)) ++ ⟨#[32]⟩ ++ bs (plc k))] 9)).heap[w7.heap.size]? = some (.cells #[.string (⟨#[108, 111, 97, 100, 32, 110, 32]⟩ ++ bs (plc k)), .string (⟨#[115, 116, 111, 114, 101, 32]⟩ ++ bs (plc k) ++ ⟨#[32, 110]⟩), .string (⟨#[109, 111, 118, 101, 32]⟩ ++ bs (plc (nx k)) ++ ⟨#[32]⟩ ++ bs (plc k))] 9) := Array.getElem?_push_size
    have q0 : (w7.alloc (.cells #[.string (⟨#[108, 111, 97, 100, 32, 110, 32]⟩ ++ bs (plc k)), .string (⟨#[115, 116, 111, 114, 101, 32]⟩ ++ bs (plc k) ++ ⟨#[32, 110]⟩), .string (⟨#[109, 111, 118, 101, 32]⟩ ++ bs (plc (nx k)) ++ ⟨#[32]⟩ ++ bs (plc k))] 9)).cell? ⟨w7.heap.size, 0, none⟩ = some (.string (bs (ML.load k).text)) := by rw [cell_of_heap hh8, ← load_text]; rfl
    have q1 : (w7.alloc (.cells #[.string (⟨#[108, 111, 97, 100, 32, 110, 32]⟩ ++ bs (plc k)), .string (⟨#[115, 116, 111, 114, 101, 32]⟩ ++ bs (plc k) ++ ⟨#[32, 110]⟩), .string (⟨#[109, 111, 118, 101, 32]⟩ ++ bs (plc (nx k)) ++ ⟨#[32]⟩ ++ bs (plc k))] 9)).cell? ⟨w7.heap.size, 1, none⟩ = some (.string (bs (ML.store k).text)) := by rw [cell_of_heap hh8, ← store_text]; rfl
    have q2 : (w7.alloc (.cells #[.string (⟨#[108, 111, 97, 100, 32, 110, 32]⟩ ++ bs (plc k)), .string (⟨#[115, 116, 111, 114, 101, 32]⟩ ++ bs (plc k) ++ ⟨#[32, 110]⟩), .string (⟨#[109, 111, 118, 101, 32]⟩ ++ bs (plc (nx k)) ++ ⟨#[32]⟩ ++ bs (plc k))] 9)).cell? ⟨w7.heap.size, 2, none⟩ = some (.string (bs (ML.move (nx k) k).text)) := by rw [cell_of_heap hh8, ← move_text]; rfl
    clear hb4 hb5 hb6 hb7 hb47 d0 d1 e4 hh8
    generalize w7.alloc (.cells #[.string (⟨#[108, 111, 97, 100, 32, 110, 32]⟩ ++ bs (plc k)), .string (⟨#[115, 116, 111, 114, 101, 32]⟩ ++ bs (plc k) ++ ⟨#[32, 110]⟩), .string (⟨#[109, 111, 118, 101, 32]⟩ ++ bs (plc (nx k)) ++ ⟨#[32]⟩ ++ bs (plc k))] 9) = W8 at *
    go_cut [] (fun wd => SoFar wd a (L1 ++ [badL k j]) m1 ∧ Below w.heap.size w wd)
    case first =>
      have fin : ∀ wd, SoFar wd a (L1 ++ [badL k j]) m1 → Turn a W8 wd → SoFar wd a (L1 ++ [badL k j]) m1 ∧ Below w.heap.size w wd := fun wd h1 h2 => ⟨h1, hB8.trans (h2.below ha hB8.size)⟩
      match j with
      | 0 =>
        go_wp2_with (first
          | (go_at_call 16; refine (KH _).mono ?_; rintro e w9 ⟨rfl, rfl⟩)
          | (go_at_call 17; refine (sofar_line hS8 (by omega) (.load k)).mono ?_; rintro e w9 ⟨rfl, h9, t9⟩))
        go_meet
        case rel => exact fin _ h9 t9
      | 1 =>
        go_wp2_with (first
          | (go_at_call 16; refine (KH _).mono ?_; rintro e w9 ⟨rfl, rfl⟩)
          | (go_at_call 17; refine (sofar_line hS8 (by omega) (.store k)).mono ?_; rintro e w9 ⟨rfl, h9, t9⟩))
        go_meet
        case rel => exact fin _ h9 t9
      | 2 =>
        go_wp2_with (first
          | (go_at_call 16; refine (KH _).mono ?_; rintro e w9 ⟨rfl, rfl⟩)
          | (go_at_call 17; refine (sofar_line hS8 (by omega) (.move (nx k) k)).mono ?_; rintro e w9 ⟨rfl, h9, t9⟩))
        go_meet
        case rel => exact fin _ h9 t9
    case rest =>
      obtain ⟨hS9, hB9⟩ := hcut
      have K1 : ∀ w', Below w.heap.size w w' → Calls Tryz.prog 21 #[.string ⟨#[108, 101, 116, 32, 110, 32, 105, 110, 116, 10, 108, 101, 116, 32, 112, 32, 98, 111, 120, 10, 98, 108, 111, 99, 107, 10, 115, 101, 116, 32, 110, 32, 53, 10, 110, 101, 119, 32, 112, 32, 110, 10, 108, 111, 97, 100, 32, 110, 32, 112, 10, 101, 110, 100, 32, 110]⟩] w' fun e w'' => e = .returned (.tuple #[.int .i64 0, .int .i64 0]) ∧ Below w'.heap.size w' w'' := fun w' hb => (Check_any oneText w' (by decide) (E.on hb)).mono fun e w'' ⟨⟨c, kk, hc, he⟩, hb2⟩ => by
        obtain ⟨rfl, rfl⟩ := chk_one hc.out
        exact ⟨he, hb2⟩
      have K2 : ∀ M : List ML, M.length ≤ 5 → ∀ w', Below w.heap.size w w' → Calls Tryz.prog 21 #[.string (bs (madeT (L1 ++ badL k j :: M)))] w' fun e w'' => e = .returned (.tuple #[.int .i64 5, .int .i64 (8 + (L1.length : Int))]) ∧ Below w'.heap.size w' w'' := fun M hM w' hb => by
        have hlen : (madeT (L1 ++ badL k j :: M)).length ≤ 1048576 := by
          rw [made_txt, List.length_append]
          have h1 := txt_len (L1 ++ badL k j :: M)
          have h2 : (10 :: endT).length = 6 := rfl
          rw [h2]
          rw [List.length_append, List.length_cons] at h1
          omega
        refine (Check_any _ w' hlen (E.on hb)).mono ?_
        rintro e w'' ⟨⟨c, kk, hc, rfl⟩, hb2⟩
        obtain ⟨rfl, rfl⟩ := chk_wrong HM1.out (bad_of hk1.out j) M (by rw [List.length_append, List.length_cons]; omega) hc.out
        refine ⟨?_, hb2⟩
        rw [show ((8 + L1.length : Nat) : Int) = 8 + (L1.length : Int) by omega]
      clear hS8 hB8 q0 q1 q2 KH hS1 hBc HM1 hk1
      have bN : ((8 + (L1.length : Int)) == (8 + (L1.length : Int))) = true := by simp
      go_wp2
      go_loopg [13] (5) (fun g v13 wr => ∃ (i : Nat) (M : List ML) (m2 : MM), i ≤ 5 ∧ g + i = 5 ∧ v13 = .int .i64 i ∧ SoFar wr a (L1 ++ badL k j :: M) m2 ∧ M.length ≤ i ∧ Below w.heap.size w wr)
      case atStart => exact ⟨0, [], m1, by omega, by omega, rfl, hS9, by simp, hB9⟩
      case round =>
        obtain ⟨i, M, m2, hi, hgi, rfl, hS, hL, hB⟩ := hrel
        by_cases hlt2 : i < n2 ∧ i < 5
        · obtain ⟨hin, hi5⟩ := hlt2
          have hinI : (i : Int) < (n2 : Int) := by omega
          have hi1I : (i : Int) < 5 := by omega
          obtain ⟨g', o, rfl, hg, x, y, z, a1, a2, a3, c1, c2, c3⟩ := hc i hin
          rw [← cell_below hB hg] at c1 c2 c3
          have hgr : g' < wr.heap.size := Nat.lt_of_lt_of_le hg hB.size
          have hll : (L1 ++ badL k j :: M).length ≤ 120 := by rw [List.length_append, List.length_cons]; omega
          have KA := act_any (w := wr.drew) (a := a) (T := bs (txt (L1 ++ badL k j :: M))) (n := 8 + (L1 ++ badL k j :: M).length) (m := m2) hS x y z a1 a2 a3 (by have := txt_size hll; omega) (by omega)
          clear K1 K2
          go_wp2
          go_region_with (go_at_call 20; refine KA.mono ?_; rintro e w2 ⟨rfl, hA⟩; obtain ⟨hT, hD⟩ := SoFar.acted hA; have HD : Hid (_) := hD; have hTT : Hid (Turn a wr w2) := ⟨hT.os, hT.tape, hT.output, hT.size, hT.block⟩; clear hA hD hT)
          all_goals go_wp2_with fail
          all_goals
            go_roundg (5 - (i + 1))
            case measure => omega
            case rel =>
              have hB2 := hB.trans (hTT.out.below ha hB.size)
              rcases HD.out with ⟨-, h2⟩ | ⟨l, m', hs, h2⟩
              · exact ⟨i + 1, M, m2, by omega, by omega, by go_num, h2, by omega, hB2⟩
              · exact ⟨i + 1, M ++ [l], m', by omega, by omega, by go_num, by simpa using h2, by rw [List.length_append]; simp; omega, hB2⟩
        · have KE := line_any hS ⟨#[101, 110, 100, 32, 110]⟩ (by have := txt_size (show (L1 ++ badL k j :: M).length ≤ 120 by rw [List.length_append, List.length_cons]; omega); omega) (by decide) (by rw [List.length_append, List.length_cons]; omega)
          rw [bs_end] at KE
          have K3 := K2 M (by omega)
          clear K2
          generalize madeT (L1 ++ badL k j :: M) = T at *
          by_cases h1 : i < n2
          · have h1I : (i : Int) < (n2 : Int) := by omega
            have h2I : ¬ (i : Int) < 5 := by omega
            go_wp2_with (first
              | (go_at_call 17; refine KE.mono ?_; rintro e w5 ⟨rfl, h5, t5⟩; obtain ⟨c5, -⟩ := h5.facts; have b5 := hB.trans (t5.below ha hB.size))
              | (go_at_call 21; refine (K3 _ b6).mono ?_; rintro e w7 ⟨rfl, hb7⟩)
              | (go_at_call 21; refine (K1 _ b5).mono ?_; rintro e w6 ⟨rfl, hb6⟩; have b6 := b5.trans (hb6.mono b5.size); obtain ⟨c6, -⟩ := (h5.below hb6).facts))
            go_ret
            exact ⟨rfl, b6.trans (hb7.mono b6.size)⟩
          · have h1I : ¬ (i : Int) < (n2 : Int) := by omega
            go_wp2_with (first
              | (go_at_call 17; refine KE.mono ?_; rintro e w5 ⟨rfl, h5, t5⟩; obtain ⟨c5, -⟩ := h5.facts; have b5 := hB.trans (t5.below ha hB.size))
              | (go_at_call 21; refine (K3 _ b6).mono ?_; rintro e w7 ⟨rfl, hb7⟩)
              | (go_at_call 21; refine (K1 _ b5).mono ?_; rintro e w6 ⟨rfl, hb6⟩; have b6 := b5.trans (hb6.mono b5.size); obtain ⟨c6, -⟩ := (h5.below hb6).facts))
            go_ret
            exact ⟨rfl, b6.trans (hb7.mono b6.size)⟩
end Go.Proofs.YtmlgajhhnojdjaaGreatDoor.MadG
/- What the cards' lists give: the tables and variables that the reader asks. -/
namespace Go.Proofs.YtmlgajhhnojdjaaGreatDoor.PrjY
open Go Go.RowKit Go.Proofs.YtmlgajhhnojdjaaGreatDoor.Spec Go.Proofs.YtmlgajhhnojdjaaGreatDoor.PrjF Go.Proofs.YtmlgajhhnojdjaaGreatDoor.PrjG

section
variable {H : Type} {enc : TypeId × Value → H} {P : Program} {w : World} {base : Nat} {sp : Nat → Bool} {held : Bool} {fuel : Nat} {t : TypeId} {cs : List Value} {p : List MemPlace}
theorem trod_str {l : B} (ht : P.underlying t = some .string) (h : DataW.trod enc P w base sp held fuel t cs = some (.lit (.string l), p)) : cs = [.string (bs l)] := by
  cases fuel with
  | zero => simp [DataW.trod] at h
  | succ fuel =>
    match cs with
    | [] => simp [DataW.trod, ht] at h
    | _ :: _ :: _ => simp [DataW.trod, ht] at h
    | [c] =>
      cases c <;> simp [DataW.trod, ht] at h
      obtain ⟨-, h, -⟩ := h
      rename_i s
      rw [← h]
      simp [bs]
theorem trod_arr {n : Nat} {e : TypeId} {ds : List (DataW H)} (ht : P.underlying t = some (.array n e)) (h : DataW.trod enc P w base sp held fuel t cs = some (.agg ds, p)) :
    ∃ fuel', cs.length = P.cellsOf t ∧ ds.length = n ∧ ∀ i d, ds[i]? = some d → ∃ p', DataW.trod enc P w base sp held fuel' e ((cs.drop (i * P.cellsOf e)).take (P.cellsOf e)) = some (d, p') := by
  cases fuel with
  | zero => simp [DataW.trod] at h
  | succ fuel =>
    simp only [DataW.trod, ht] at h
    split at h
    · rename_i hl
      obtain ⟨xs, hm, hx⟩ := Option.map_eq_some_iff.1 h
      simp only [Prod.mk.injEq, DataW.agg.injEq] at hx
      have hxl : xs.length = n := by simpa using Lib.mapM_length hm
      refine ⟨fuel, hl, by rw [← hx.1]; simpa using hxl, fun i d hd => ?_⟩
      rw [← hx.1, List.getElem?_map, Option.map_eq_some_iff] at hd
      obtain ⟨y, hy, rfl⟩ := hd
      have hi : i < n := by
        rcases Nat.lt_or_ge i n with hi | hi
        · exact hi
        · rw [List.getElem?_eq_none (by omega)] at hy; cases hy
      obtain ⟨b, hb, hf⟩ := Lib.mapM_at hm i i (by simp [hi])
      rw [hy] at hb
      cases hb
      exact ⟨y.2, hf⟩
    · cases h
theorem trod_two {f0 f1 : Field} {a b : B} (ht : P.underlying t = some (.struct #[f0, f1])) (h0 : f0.offset = 0) (h1 : f1.offset = 1) (u0 : P.underlying f0.type = some .string) (u1 : P.underlying f1.type = some .string) (c0 : P.cellsOf f0.type = 1) (c1 : P.cellsOf f1.type = 1) (ct : P.cellsOf t = 2)
    (h : DataW.trod enc P w base sp held fuel t cs = some (.agg [.lit (.string a), .lit (.string b)], p)) : cs = [.string (bs a), .string (bs b)] := by
  cases fuel with
  | zero => simp [DataW.trod] at h
  | succ fuel =>
    simp only [DataW.trod, ht] at h
    split at h
    · rename_i hl
      rw [ct] at hl
      obtain ⟨xs, hm, hx⟩ := Option.map_eq_some_iff.1 h
      simp only [Prod.mk.injEq, DataW.agg.injEq] at hx
      obtain ⟨b0, hb0, hf0⟩ := Lib.mapM_at hm 0 f0 (by simp)
      obtain ⟨b1, hb1, hf1⟩ := Lib.mapM_at hm 1 f1 (by simp)
      have e0 := congrArg (·[0]?) hx.1
      have e1 := congrArg (·[1]?) hx.1
      simp only [List.getElem?_map, hb0, hb1, Option.map_some, List.getElem?_cons_zero, List.getElem?_cons_succ, Option.some.injEq] at e0 e1
      rw [h0, c0] at hf0
      rw [h1, c1] at hf1
      have g0 := trod_str (l := a) (p := b0.2) u0 (by rw [hf0, ← e0])
      have g1 := trod_str (l := b) (p := b1.2) u1 (by rw [hf1, ← e1])
      match cs, hl with
      | [x, y], _ =>
        simp only [List.drop_zero, List.take_succ_cons, List.take_zero, List.cons.injEq, and_true] at g0
        simp only [List.drop_succ_cons, List.drop_zero, List.take_succ_cons, List.take_zero, List.cons.injEq, and_true] at g1
        rw [g0, g1]
    · cases h
end
theorem flat_chunks {α : Type} (f : α → List Value) (m : Nat) (hf : ∀ x, (f x).length = m) : ∀ (l : List α) (cs : List Value), cs.length = l.length * m → (∀ i x, l[i]? = some x → (cs.drop (i * m)).take m = f x) → cs = l.flatMap f
  | [], cs, hl, _ => by simpa using hl
  | x :: l, cs, hl, h => by
    have h0 := h 0 x rfl
    rw [Nat.zero_mul, List.drop_zero] at h0
    have ih := flat_chunks f m hf l (cs.drop m) (by rw [List.length_drop, hl, List.length_cons, Nat.add_mul]; omega) (fun i y hy => by
      have := h (i + 1) y (by simpa using hy)
      rw [List.drop_drop, show m + i * m = (i + 1) * m by rw [Nat.add_mul]; omega]
      exact this)
    rw [List.flatMap_cons, ← h0, ← ih, List.take_append_drop]
theorem cells_of_var {P : Program} {w : World} {n : String} {g : Nat} {cs : Array Value} (hg : P.globalNamed n = some g) (h : w.var? P n = some cs) : (∀ j, w.cell? ⟨g, j, none⟩ = cs[j]?) ∧ g < w.heap.size := by
  unfold World.var? at h
  rw [hg] at h
  simp only [Option.bind_some] at h
  split at h
  · rename_i cs' t f hh
    cases h
    exact ⟨fun j => by simp [World.cell?, hh], by rw [Array.getElem?_eq_some_iff] at hh; exact hh.1⟩
  · cases h
theorem shapes_data {H : Type} : (Rows.laid_stow_prog_shapes : DataW H) = .agg (shapeTab.map fun x => .agg [.lit (.string x.1), .lit (.string x.2)]) := rfl
theorem types_data {H : Type} : (Rows.laid_stow_prog_typeWords : DataW H) = .agg (typeTab.map fun x => .lit (.string x)) := rfl
theorem int_of_shape {P : Program} {w : World} {g : Nat} {t : TypeId} {zero : Array Value} (h : w.ShapedOpen P) (hg : g < P.globals.size) (h0 : ((begin P (fun _ _ => 0) default).world.heap[g]?).bind Obj.row? = some (zero, t)) (hz : zero.size = 1)
    (hb : P.buildable t = true) (hc : P.cellTypes P.depth t = some [t]) (hu : P.underlying t = some (.int .i64)) : ∃ m : Int, w.cell? ⟨g, 0, none⟩ = some (.int .i64 m) := by
  obtain ⟨cs, hh, hs, hr⟩ := h.1 g zero t hg h0
  obtain ⟨ts, hts, -, hall⟩ := hr hb
  rw [hc] at hts
  cases hts
  have h1 : 0 < cs.size := by omega
  obtain ⟨u, hu', hok⟩ := hall 0 cs[0] (by simp [h1])
  have : u = t := by simpa using hu'.symm
  subst this
  have hcell : w.cell? ⟨g, 0, none⟩ = some cs[0] := by simp [World.cell?, hh, h1]
  rw [hcell]
  unfold Cell.ok at hok
  rw [hu] at hok
  cases hv : cs[0] <;> rw [hv] at hok <;> simp at hok
  rename_i k n
  obtain ⟨rfl, -⟩ := hok
  exact ⟨n, rfl⟩
theorem met_of {P : Program} {laid : List (String × DataW Unit)} {W : World} (hf : (laid.filter fun x => x.2.handleName?.isSome) = []) (h : laidMetH P laid W) : laidMet P laid W := by
  unfold laidMetH at h; rw [hf] at h; exact h
theorem laid_mem {P : Program} {w : World} {n : String} {d : DataW Unit} : ∀ {laid : List (String × DataW Unit)} {ps : List MemPlace}, DataW.LaidVars P w laid ps → (n, d) ∈ laid → ∃ g t cs fuel p, P.globalNamed n = some g ∧ (P.globals[g]?).map (·.type) = some t ∧ w.var? P n = some cs ∧ DataW.trod (fun _ => ()) P w 0 (fun _ => true) false fuel t cs.toList = some (d, p)
  | [], _, _, hm => by cases hm
  | (n', d') :: r, ps, h, hm => by
    obtain ⟨g, t, cs, fuel, p, q, h1, h2, h3, h4, h5, -⟩ := h
    rcases List.mem_cons.1 hm with e | hm
    · cases e; exact ⟨g, t, cs, fuel, p, h1, h2, h3, h4⟩
    · exact laid_mem h5 hm
theorem name_shapes : Tryz.prog.globalNamed "stow/prog.shapes" = some 0 := by kernel_rfl
theorem name_types : Tryz.prog.globalNamed "stow/prog.typeWords" = some 1 := by kernel_rfl
theorem name_syn : Tryz.prog.globalNamed "strconv.ErrSyntax" = some 9 := by kernel_rfl
theorem name_rng : Tryz.prog.globalNamed "strconv.ErrRange" = some 10 := by kernel_rfl
theorem type_shapes : (Tryz.prog.globals[0]?).map (·.type) = some 148 := by kernel_rfl
theorem type_types : (Tryz.prog.globals[1]?).map (·.type) = some 149 := by kernel_rfl
theorem type_syn : (Tryz.prog.globals[9]?).map (·.type) = some 221 := by kernel_rfl
theorem type_rng : (Tryz.prog.globals[10]?).map (·.type) = some 221 := by kernel_rfl
theorem cells_shapes : Tryz.prog.cellsOf 148 = 46 := by kernel_rfl
theorem cells_shape : Tryz.prog.cellsOf 147 = 2 := by kernel_rfl
theorem cells_types : Tryz.prog.cellsOf 149 = 4 := by kernel_rfl
theorem cells_string : Tryz.prog.cellsOf 9 = 1 := by kernel_rfl
theorem many : Tryz.prog.globals.size = 11 := by kernel_rfl
/-- what the list of a row gives the reader -/
theorem env_of {laid : List (String × DataW Unit)} {W : World} (hL : laidMet Tryz.prog laid W) (hsh : W.ShapedOpen Tryz.prog) (m1 : ("stow/prog.shapes", Rows.laid_stow_prog_shapes) ∈ laid) (m2 : ("stow/prog.typeWords", Rows.laid_stow_prog_typeWords) ∈ laid)
    (m3 : ("strconv.ErrSyntax", Rows.laid_strconv_ErrSyntax) ∈ laid) (m4 : ("strconv.ErrRange", Rows.laid_strconv_ErrRange) ∈ laid) : Env W := by
  obtain ⟨ps, hV, -⟩ := hL
  refine ⟨?_, ?_, ?_, ?_, ?_, ?_⟩
  · obtain ⟨g, t, cs, fuel, p, h1, h2, h3, h4⟩ := laid_mem hV m1
    rw [name_shapes] at h1
    cases h1
    rw [type_shapes] at h2
    cases h2
    rw [shapes_data] at h4
    obtain ⟨fuel', hl, hn, hi⟩ := trod_arr Tryz.underlying148 h4
    rw [cells_shapes] at hl
    have hcs : cs.toList = shapeCells := by
      refine flat_chunks (fun x : B × B => [.string (bs x.1), .string (bs x.2)]) 2 (fun _ => rfl) shapeTab cs.toList hl fun i x hx => ?_
      obtain ⟨p', hp'⟩ := hi i (.agg [.lit (.string x.1), .lit (.string x.2)]) (by rw [List.getElem?_map, hx]; rfl)
      rw [cells_shape] at hp'
      exact trod_two Tryz.underlying147 rfl rfl Tryz.underlying9 Tryz.underlying9 cells_string cells_string cells_shape hp'
    obtain ⟨hc, -⟩ := cells_of_var name_shapes h3
    intro j v hv
    rw [Nat.zero_add, hc, ← Array.getElem?_toList, hcs]
    exact hv
  · obtain ⟨g, t, cs, fuel, p, h1, h2, h3, h4⟩ := laid_mem hV m2
    rw [name_types] at h1
    cases h1
    rw [type_types] at h2
    cases h2
    rw [types_data] at h4
    obtain ⟨fuel', hl, hn, hi⟩ := trod_arr Tryz.underlying149 h4
    rw [cells_types] at hl
    have hcs : cs.toList = typeTab.flatMap (fun x : B => [.string (bs x)]) := by
      refine flat_chunks (fun x : B => [.string (bs x)]) 1 (fun _ => rfl) typeTab cs.toList hl fun i x hx => ?_
      obtain ⟨p', hp'⟩ := hi i (.lit (.string x)) (by rw [List.getElem?_map, hx]; rfl)
      rw [cells_string] at hp'
      exact trod_str Tryz.underlying9 hp'
    obtain ⟨hc, -⟩ := cells_of_var name_types h3
    intro j v hv
    rw [Nat.zero_add, hc, ← Array.getElem?_toList, hcs]
    exact hv
  · exact int_of_shape hsh (by rw [many]; decide) (g := 3) (t := 3) (zero := #[.int .i64 0]) (by kernel_rfl) rfl (by kernel_rfl) (by kernel_rfl) Tryz.underlying3
  · obtain ⟨g, t, cs, fuel, p, h1, h2, h3, h4⟩ := laid_mem hV m3
    rw [name_syn] at h1
    cases h1
    rw [type_syn] at h2
    cases h2
    obtain ⟨fuel', u, v, hcs, -⟩ := iface_of_trod Tryz.underlying221 h4
    obtain ⟨hc, -⟩ := cells_of_var name_syn h3
    exact ⟨u, v, by rw [hc, ← Array.getElem?_toList, hcs]; rfl⟩
  · obtain ⟨g, t, cs, fuel, p, h1, h2, h3, h4⟩ := laid_mem hV m4
    rw [name_rng] at h1
    cases h1
    rw [type_rng] at h2
    cases h2
    obtain ⟨fuel', u, v, hcs, -⟩ := iface_of_trod Tryz.underlying221 h4
    obtain ⟨hc, -⟩ := cells_of_var name_rng h3
    exact ⟨u, v, by rw [hc, ← Array.getElem?_toList, hcs]; rfl⟩
  · obtain ⟨g, t, cs, fuel, p, h1, h2, h3, h4⟩ := laid_mem hV m4
    have := (cells_of_var name_rng h3).2
    omega
end Go.Proofs.YtmlgajhhnojdjaaGreatDoor.PrjY
/- A world in which the tables lie as start-up lays them: the witness that the cards ask. -/
namespace Go.Proofs.YtmlgajhhnojdjaaGreatDoor.PrjZ
open Go Go.RowKit Go.Proofs.YtmlgajhhnojdjaaGreatDoor.Spec

/-- plain data, cell by cell -/
def flatD {H : Type} : Nat → DataW H → List Value
  | 0, _ => []
  | _ + 1, .lit (.int k n) => [.int k n]
  | _ + 1, .lit (.string l) => [.string (bs l)]
  | n + 1, .agg ds => ds.flatMap (flatD n)
  | _ + 1, _ => []
def put (g : Nat) (cs : List Value) (h : Array Obj) : Array Obj := h.modify g fun
  | .cells _ t frozen => .cells cs.toArray t frozen
  | o => o
noncomputable def low : Nat := (World.holding Tryz.prog default ⟨#[], #[], []⟩).heap.size
noncomputable def laidWorld (os : Os) : World :=
  let w0 := World.holding Tryz.prog os ⟨#[.cells #[.string (bs [118, 97, 108, 117, 101, 32, 111, 117, 116, 32, 111, 102, 32, 114, 97, 110, 103, 101])] 327, .cells #[.string (bs [105, 110, 118, 97, 108, 105, 100, 32, 115, 121, 110, 116, 97, 120])] 327], #[], []⟩
  { w0 with heap := put 0 (flatD 8 (Rows.laid_stow_prog_shapes (H := Unit))) (put 1 (flatD 8 (Rows.laid_stow_prog_typeWords (H := Unit))) (put 2 (flatD 8 (Rows.laid_stow_prog_suffixes (H := Unit)))
      (put 4 (flatD 8 (Rows.laid_internal_strconv_uint64pow10 (H := Unit))) (put 5 (flatD 8 Rows.laid_unicode_utf8_first) (put 6 (flatD 8 (Rows.laid_unicode_utf8_acceptRanges (H := Unit)))
      (put 7 (flatD 8 (Rows.laid_math_bits_deBruijn32tab (H := Unit))) (put 8 (flatD 8 (Rows.laid_math_bits_deBruijn64tab (H := Unit)))
      (put 10 [.iface 325 (.pointer (some ⟨low, 0, none⟩))] (put 9 [.iface 325 (.pointer (some ⟨low + 1, 0, none⟩))] w0.heap))))))))) }
theorem laid_met (os : Os) (args : Array Value) : laidMet Tryz.prog Rows.lookedUptoRow.laid ((laidWorld os).forCall (fun _ _ => 0) ⟨#[], args, []⟩).memory :=
  laidMet_of_run' 8 (by kernel_rfl) (by kernel_rfl)
end Go.Proofs.YtmlgajhhnojdjaaGreatDoor.PrjZ
namespace Go.Proofs.YtmlgajhhnojdjaaGreatDoor.refusesCard
open Go.ChangeShapes Go.WideShapes Go.ChangeAt Go.RowKit Go.Proofs.YtmlgajhhnojdjaaGreatDoor.MadF

theorem own : ownKnob Tryz.prog.godebug = none := by kernel_rfl
theorem laidOut : laidOutB Tryz.prog = true := by kernel_rfl
theorem cellsA : Tryz.prog.cellsOf 37 = 3 := by kernel_rfl
theorem cellsI : Tryz.prog.cellsOf 3 = 1 := by kernel_rfl
theorem i64_of {n : Int} (h : (Lit.int .i64 n).wf = true) : i64 n := by
  have e1 : IntKind.i64.min = -9223372036854775808 := rfl
  have e2 : IntKind.i64.max = 9223372036854775807 := rfl
  unfold i64; simpa [Lit.wf, e1, e2] using h
theorem cell_lt {W : World} {g o : Nat} {v : Value} (h : W.cell? ⟨g, o, none⟩ = some v) : g < W.heap.size := by
  by_cases hg : g < W.heap.size
  · exact hg
  · rw [World.cell?] at h
    simp only [Array.getElem?_eq_none (Nat.le_of_not_lt hg)] at h
    cases h
set_option maxRecDepth 100000 in
theorem acts_open {H : Type} {enc : TypeId × Value → H} {W : World} {a0 : Option Addr} {len cap fuel : Nat} {x : DataW H × List MemPlace} (h : DataW.trod enc Tryz.prog W 0 (fun _ => true) true fuel 24 [.slice a0 len cap] = some x) : ActsAt W (.slice a0 len cap) len := by
  rcases Go.Deep.open_slice Tryz.underlying24 h with ⟨h0, -⟩ | ⟨a, len', cap', m, n, D, Pl, h0, -, hl, hm, hmm, -, hx⟩
  · simp only [List.cons.injEq, Value.slice.injEq, and_true] at h0
    obtain ⟨rfl, rfl, rfl⟩ := h0
    exact ⟨none, 0, rfl, Nat.le_refl _, Nat.zero_le _, fun j hj => absurd hj (Nat.not_lt_zero _)⟩
  · simp only [List.cons.injEq, Value.slice.injEq, and_true] at h0
    obtain ⟨rfl, rfl, rfl⟩ := h0
    simp only [if_true] at hmm
    subst hmm
    rw [cellsA] at hx
    refine ⟨some a, _, rfl, hl, hm, fun j hj => ?_⟩
    obtain ⟨b, off, spot⟩ := a
    obtain ⟨cs, h1, h2⟩ := hx j (by omega)
    obtain ⟨-, hlen, hcell⟩ := World.cells?_some h1
    obtain ⟨xs, k, -, -, -, hxl, hf⟩ := DataW.trod_struct Tryz.underlying37 h2
    match xs, hxl, cs, hlen with
    | [y0, y1, y2], _, [v0, v1, v2], _ =>
      have g0 := hf 0 _ rfl
      have g1 := hf 1 _ rfl
      have g2 := hf 2 _ rfl
      simp [cellsI] at g0 g1 g2
      obtain ⟨n0, e0, -, w0⟩ := DataW.trod_int Tryz.underlying3 g0
      obtain ⟨n1, e1, -, w1⟩ := DataW.trod_int Tryz.underlying3 g1
      obtain ⟨n2, e2, -, w2⟩ := DataW.trod_int Tryz.underlying3 g2
      simp only [List.cons.injEq, and_true] at e0 e1 e2
      subst e0 e1 e2
      have c0 := hcell 0 (by omega)
      have c1 := hcell 1 (by omega)
      have c2 := hcell 2 (by omega)
      rw [Go.Deep.add_add] at c0 c1 c2
      have hspot : spot = none := by
        obtain ⟨cs0, q1, -⟩ := hx 0 (by omega)
        obtain ⟨-, hlen0, hcell0⟩ := World.cells?_some q1
        have z := hcell0 0 (by omega)
        rw [List.getElem?_eq_getElem (by omega)] at z
        simpa [Addr.add] using World.cell?_spot z
      subst hspot
      rw [add_plain] at c0 c1 c2
      simp only [Nat.add_zero, ← Nat.add_assoc] at c0 c1 c2
      have c0' : W.cell? ⟨b, off + j * 3, none⟩ = some (.int .i64 n0) := by simpa using c0
      have c1' : W.cell? ⟨b, off + j * 3 + 1, none⟩ = some (.int .i64 n1) := by simpa using c1
      have c2' : W.cell? ⟨b, off + j * 3 + 2, none⟩ = some (.int .i64 n2) := by simpa using c2
      exact ⟨b, off, rfl, cell_lt c0', n0, n1, n2, i64_of w0, i64_of w1, i64_of w2, c0', c1', c2'⟩
abbrev spec : OpenSpec := OpenSpec.ofChange Rows.refusesSpec
set_option maxRecDepth 100000 in
theorem contract (H : Type) (enc : TypeId × Value → H) (W : World) (base : Nat) (args : Array Value) (ds gs : List (DataW H)) (before : List MemPlace)
    (hval : ∀ (j : Nat) t v, Tryz.f4.params[j]? = some t → args[j]? = some v → Value.okWide Tryz.prog W .any base t v)
    (hW : DataW.Whole enc Tryz.prog Tryz.f4.params.toList Rows.refusesSpec.vars false W args.toList ds gs before) (hL : laidMetH Tryz.prog Rows.refusesRow.laid W) (hsh : W.ShapedOpen Tryz.prog) :
    Calls Tryz.prog 4 args W fun e W' => ∃ v, e = .returned v ∧ Rows.refusesSpec.post enc Tryz.prog Tryz.f4 false true false false W args v W' := by
  have E := PrjY.env_of (laid := Rows.refusesRow.laid) (PrjY.met_of (by kernel_rfl) hL) hsh (by simp [Rows.refusesRow]) (by simp [Rows.refusesRow]) (by simp [Rows.refusesRow]) (by simp [Rows.refusesRow])
  have hW' := hW
  obtain ⟨p, q, hA0, hV, rfl, hfz, hnd⟩ := hW
  have hA : DataW.TrodAll enc Tryz.prog W 0 (fun _ => true) true Tryz.f4.params.toList args.toList ds p := hA0
  rw [Tryz.params4] at hA
  have hv0 := fun v (h : args[0]? = some v) => hval 0 24 v (by rw [Tryz.params4]; rfl) h
  have hv1 := fun v (h : args[1]? = some v) => hval 1 3 v (by rw [Tryz.params4]; rfl) h
  have hv2 := fun v (h : args[2]? = some v) => hval 2 3 v (by rw [Tryz.params4]; rfl) h
  have hv3 := fun v (h : args[3]? = some v) => hval 3 24 v (by rw [Tryz.params4]; rfl) h
  clear hval
  obtain ⟨v0, v1, v2, v3, d0, d1, d2, d3, p0, p1, p2, p3, rfl, rfl, rfl, h0, h1, h2, h3⟩ := trodAll_four hA
  obtain ⟨rfl, rfl⟩ := trodVars_none hV
  obtain ⟨a0, l0, c0, rfl⟩ := okWide_slice Tryz.underlying24 (hv0 v0 rfl)
  obtain ⟨a3, l3, c3, rfl⟩ := okWide_slice Tryz.underlying24 (hv3 v3 rfl)
  obtain ⟨n1, rfl, rfl, rfl, w1⟩ := open_int Tryz.underlying3 (hv1 v1 rfl) h1
  obtain ⟨n2, rfl, rfl, rfl, w2⟩ := open_int Tryz.underlying3 (hv2 v2 rfl) h2
  clear hA0
  have hlt : ∀ x ∈ p0 ++ [] ++ [] ++ p3, x.block < W.heap.size := fun x hx => by simpa using hW'.lt x (by simpa using hx)
  have k0 : ∀ W', Below W.heap.size W W' → DataW.Trod enc Tryz.prog W' 0 (fun b => decide (b < W.heap.size)) true 24 (.slice a0 l0 c0) d0 p0 := fun W' hn => Below.trod laidOut (by kernel_rfl) (of_decide_eq_true (by kernel_rfl)) h0 hn (fun x hx => hlt x (by simp [hx]))
  have k3 : ∀ W', Below W.heap.size W W' → DataW.Trod enc Tryz.prog W' 0 (fun b => decide (b < W.heap.size)) true 24 (.slice a3 l3 c3) d3 p3 := fun W' hn => Below.trod laidOut (by kernel_rfl) (of_decide_eq_true (by kernel_rfl)) h3 hn (fun x hx => hlt x (by simp [hx]))
  obtain ⟨f0, hf0⟩ := h0
  obtain ⟨f3, hf3⟩ := h3
  have walk := MadG.Refuses_any (.slice a0 l0 c0) (.slice a3 l3 c3) l0 l3 n1 n2 (i64_of w1) (i64_of w2) W (acts_open hf0) (acts_open hf3) E
  refine walk.mono fun e W' ⟨he, hb⟩ => ?_
  subst he
  exact ⟨_, rfl, _, _, _, [], _, [], hW', trodAll_mk1 (shut_bool Tryz.underlying4 _), trodAll_mk4 (k0 W' hb) (shut_int Tryz.underlying3 w1) (shut_int Tryz.underlying3 w2) (k3 W' hb), rfl, hb.frame _, fun h => by cases h⟩
theorem reads (os : Os) {H : Type} (enc : TypeId × Value → H) : ∃ places, DataW.whole enc Tryz.prog ((PrjZ.laidWorld os).forCall (fun _ _ => 0) ⟨#[], #[.slice none 0 0, .int .i64 0, .int .i64 0, .slice none 0 0], []⟩).memory Tryz.f4.params.toList Rows.refusesSpec.vars false #[Value.slice none 0 0, .int .i64 0, .int .i64 0, Value.slice none 0 0].toList 8 = some ([.nil, .lit (.int .i64 0), .lit (.int .i64 0), .nil], [], places) :=
  ⟨[], by kernel_rfl⟩
set_option maxRecDepth 100000 in
theorem lifted (os : Os) (started : os.Started) (H : Type) (enc : TypeId × Value → H) (F : Stop.Interp) :
    ReturnsInHanded {} Tryz.checked os 4 .any (spec.preRow enc Tryz.prog Tryz.f4 Rows.refusesRow.domain false Rows.refusesRow.laid) ((spec.at F).post enc Tryz.prog Tryz.f4 false true false false) := by
  obtain ⟨places, hx⟩ := reads os enc
  refine returnsInHanded_of_row (C := Tryz.checked) (s := spec) own started (by kernel_rfl) Tryz.func4
    (witness_row_at (enc := enc) (C := Tryz.checked) false (PrjZ.laidWorld os) #[.slice none 0 0, .int .i64 0, .int .i64 0, .slice none 0 0] rfl (by kernel_rfl) (by kernel_rfl) (by kernel_rfl)
      (OpenSpec.preRow_of_cond 8 hx (by kernel_rfl) (fun k hk => by cases hk) (by kernel_rfl) (PrjZ.laid_met os _))) ?_
  intro W base args ds gs before hval hW _ _ _ hL hsh _
  exact contract H enc W base args ds gs before hval hW hL hsh
theorem said : Rows.RefusesSaid :=
  OpenClaim.holds_of_cond 4 Tryz.f4 rfl rfl rfl rfl rfl rfl rfl ⟨rfl, rfl, rfl, rfl, rfl⟩ rfl rfl rfl rfl rfl (by kernel_rfl) Tryz.func4 (by kernel_rfl)
    (of_decide_eq_true (by kernel_rfl)) (by unfold Func.isWrapper; first | (rw [if_pos (by decide +kernel)]; kernel_rfl) | (rw [if_neg (by decide +kernel)]; exact ⟨rfl, rfl⟩))
    (fun os started H enc _ F => by rw [OpenClaim.pre_eq_preRow]; exact lifted os started H enc F)
theorem plain (f : FuncId) (fn : Func) (hf : Tryz.pinned.checked.prog.funcNamed "stow/stowkeep.Refuses" = some f) (hfn : Tryz.pinned.checked.prog.funcs[f]? = some fn) :
    true = Tryz.pinned.checked.prog.looks [] ∧ ∀ (j : Nat) t, fn.params[j]? = some t → Tryz.pinned.checked.prog.wantsStandIn t = false := by
  obtain rfl : f = 4 := Option.some.inj ((show Tryz.prog.funcNamed "stow/stowkeep.Refuses" = some 4 by kernel_rfl).symm.trans hf) |>.symm
  obtain rfl : fn = Tryz.f4 := (Option.some.inj (Tryz.func4.symm.trans hfn)).symm
  refine ⟨by kernel_rfl, fun j t ht => ?_⟩
  rw [Tryz.params4] at ht
  have hm : t = 24 ∨ t = 3 := by
    have h1 : t ∈ [24, 3, 3, 24] := Array.mem_def.mp (Array.mem_of_getElem? ht)
    simp only [List.mem_cons, List.not_mem_nil, or_false] at h1
    rcases h1 with h | h | h | h
    · exact .inl h
    · exact .inr h
    · exact .inr h
    · exact .inl h
  rcases hm with rfl | rfl
  · exact (show Tryz.prog.wantsStandIn 24 = false by kernel_rfl)
  · exact (show Tryz.prog.wantsStandIn 3 = false by kernel_rfl)
/-- THE CARD -/
theorem card : Rows.RefusesCardSaid :=
  Claim7.holds_tied_plain_at .later [] _ _ _ _ said (fun _ h => by cases h) (by kernel_rfl) (fun _ h => by cases h) refuses_row_tie rfl ⟨rfl, rfl⟩ (by kernel_rfl) rfl plain (by kernel_rfl)
end Go.Proofs.YtmlgajhhnojdjaaGreatDoor.refusesCard
