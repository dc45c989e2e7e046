/- Proved: the law Checked (every Check, of two texts and again, is as the document's own answer says: the error and its line) answers true and leaves what came in as it was. Conditions: the texts have together at most 2^20 letters; the listed package variables hold what the program's text lays. -/
import Derived.Test.YtmlgajhhnojdjaaGreatDoorPAN
import Derived.Test.YtmlgajhhnojdjaaGreatDoorPAS
import Derived.Test.YtmlgajhhnojdjaaGreatDoorPAU
import Derived.Test.YtmlgajhhnojdjaaGreatDoorPAX
import Derived.Test.YtmlgajhhnojdjaaGreatDoorRows
import Derived.Test.YtmlgajhhnojdjaaGreatDoorPAD
import Derived.LaidLaws
import Derived.Lib.LaidTab
import Derived.ShapedOpen
import Derived.WalkKit
import Derived.ProofKit
import Derived.Test.YtmlgajhhnojdjaaGreatDoorCards
import Derived.Test.YtmlgajhhnojdjaaGreatDoorTie
import Derived.OpenShut
import Derived.Deep.DeepHandedRow
import Derived.Deep.DeepWitnessRowRef
/- The law Checked, walked: for texts of at most 2^20 letters, in every world that holds the tables. -/
namespace Go.Proofs.YtmlgajhhnojdjaaGreatDoor.FlwZ
open Go Go.RowKit Go.Proofs.YtmlgajhhnojdjaaGreatDoor.Spec Go.Proofs.YtmlgajhhnojdjaaGreatDoor.Aux Go.Proofs.YtmlgajhhnojdjaaGreatDoor.PrjF Go.Proofs.YtmlgajhhnojdjaaGreatDoor.PrjG Go.Proofs.YtmlgajhhnojdjaaGreatDoor.PrjJ Go.Proofs.YtmlgajhhnojdjaaGreatDoor.PrjK Go.Proofs.YtmlgajhhnojdjaaGreatDoor.PrjM Go.Proofs.YtmlgajhhnojdjaaGreatDoor.PrjS Go.Proofs.YtmlgajhhnojdjaaGreatDoor.PrjW Go.Proofs.YtmlgajhhnojdjaaGreatDoor.PrjX Go.Proofs.YtmlgajhhnojdjaaGreatDoor.RefM Go.Proofs.YtmlgajhhnojdjaaGreatDoor.RefZf Go.Proofs.YtmlgajhhnojdjaaGreatDoor.FlwF Go.Proofs.YtmlgajhhnojdjaaGreatDoor.FlwI Go.Proofs.YtmlgajhhnojdjaaGreatDoor.FlwK Go.Proofs.YtmlgajhhnojdjaaGreatDoor.FlwM Go.Proofs.YtmlgajhhnojdjaaGreatDoor.FlwO Go.Proofs.YtmlgajhhnojdjaaGreatDoor.FlwP Go.Proofs.YtmlgajhhnojdjaaGreatDoor.FlwQ Go.Proofs.YtmlgajhhnojdjaaGreatDoor.FlwR Go.Proofs.YtmlgajhhnojdjaaGreatDoor.FlwV Go.Proofs.YtmlgajhhnojdjaaGreatDoor.FlwX Go.Proofs.YtmlgajhhnojdjaaGreatDoor.FlwY

theorem prjRead_bad {text : B} {raw : Bool} {c k : Nat} (h : prjRead text raw = (none, c, k)) : 1 ≤ c ∧ refRead text raw = (none, c, k) := by
  have hc : 1 ≤ c := by
    by_cases hlong : (split 10 text).length > (if raw then 4000 else 120)
    · rw [prjRead, if_pos hlong] at h; simp only [Prod.mk.injEq] at h; omega
    · rw [prjRead, if_neg hlong] at h
      split at h
      · simp only [Prod.mk.injEq] at h; omega
      · split at h
        · simp only [Prod.mk.injEq] at h; omega
        · split at h
          · simp only [Prod.mk.injEq] at h; omega
          · split at h
            · simp only [Prod.mk.injEq] at h; omega
            · cases h
  refine ⟨hc, ?_⟩
  have h2 := (read_same text raw).1
  rw [h] at h2
  simp only at h2
  cases hr : refRead text raw with
  | mk op ck =>
    rw [hr] at h2
    simp only at h2
    subst h2
    cases op with
    | none => rfl
    | some p => have := (refRead_good hr).2.1; omega
theorem prjRead_good {text : B} {raw : Bool} {q : QP} {c k : Nat} (h : prjRead text raw = (some q, c, k)) : c = 0 ∧ k = 0 ∧ ∃ p, refRead text raw = (some p, 0, 0) ∧ Both text raw p q := by
  obtain ⟨p, hb⟩ := read_more (text := text) (raw := raw) (q := q) (by rw [h])
  have h2 := (read_same text raw).1
  have e : refRead text raw = (some p, (refRead text raw).2.1, (refRead text raw).2.2) := by rw [← hb.ref]
  obtain ⟨-, e1, e2, -⟩ := refRead_good e
  have e3 : refRead text raw = (some p, 0, 0) := by rw [e, e1, e2]
  rw [h, e3] at h2
  simp only [Prod.mk.injEq] at h2
  exact ⟨h2.1, h2.2, p, e3, hb⟩
theorem got_below {z a : Nat} {w w' : World} {q : QP} (h : Got z a w q) (hb : Below w.heap.size w w') : Got z a w' q := by
  obtain ⟨vl, vb, us, vss, hp⟩ := h.at_
  exact ⟨⟨vl, vb, us, vss, hp.below hb⟩, h.ok, h.locals, h.blocks, h.lines⟩
theorem both_pos {text : B} {p : RP} {q : QP} (h : Both text false p q) : 0 < q.blocks.length := by
  rw [h.len]; exact h.ok.first.1
/-- the ways of a program that was read, gone to the end -/
theorem flow_any {text : B} {p : RP} {q : QP} {z a : Nat} {w : World} (hB : Both text false p q) (hG : Got z a w q) : Calls Tryz.prog 54 #[.pointer (some ⟨a, 0, none⟩)] w fun e w' =>
    (∃ E', Done text p q E' ∧ e = .returned (ansOf (firstSome (faultB q E') q.blocks.length 0))) ∧ Below w.heap.size w w' := by
  obtain ⟨vl, vb, us, vss, hp⟩ := hG.at_
  refine (FirstFault_any hp (both_pos hB) hG.blocks hB.twelve hB.qok hG.lines (InvF q) (invF_start q (both_pos hB)) (fun E O b _ _ hb hO hI => invF_step q hB.qok hB.twelve E O b hb hO hI)).mono ?_
  rintro e w' ⟨⟨E', -, -, hI, rfl⟩, hb⟩
  exact ⟨⟨E', ⟨hB, hI, (both_pos hB)⟩, rfl⟩, hb⟩
/-- what the project's checked leaves -/
def CheckPost (text : B) (w : World) (e : Ending) (w' : World) : Prop :=
  Below w.heap.size w w' ∧ ((∃ c k : Nat, 1 ≤ c ∧ refRead text false = (none, c, k) ∧ e = .returned (.tuple #[.pointer none, .int .i64 (c : Int), .int .i64 (k : Int)])) ∨
    ∃ p q E, refRead text false = (some p, 0, 0) ∧ prjRead text false = (some q, 0, 0) ∧ Done text p q E ∧ ((∃ n : Nat, firstSome (faultB q E) q.blocks.length 0 = some n ∧ e = .returned (.tuple #[.pointer none, .int .i64 5, .int .i64 (n : Int)])) ∨
      (firstSome (faultB q E) q.blocks.length 0 = none ∧ ∃ a z, e = .returned (.tuple #[.pointer (some ⟨a, 0, none⟩), .int .i64 0, .int .i64 0]) ∧ w.heap.size ≤ z ∧ Got z a w' q)))
/-- its error, its line -/
def chkAns (text : B) (c k : Int) : Prop := (∃ c' k' : Nat, 1 ≤ c' ∧ refRead text false = (none, c', k') ∧ c = c' ∧ k = k') ∨
    ∃ p q E, refRead text false = (some p, 0, 0) ∧ prjRead text false = (some q, 0, 0) ∧ Done text p q E ∧ ((∃ n : Nat, firstSome (faultB q E) q.blocks.length 0 = some n ∧ c = 5 ∧ k = n) ∨ (firstSome (faultB q E) q.blocks.length 0 = none ∧ c = 0 ∧ k = 0))
theorem CheckPost.ans {text : B} {w w' : World} {e : Ending} (h : CheckPost text w e w') : Below w.heap.size w w' ∧ ∃ v c k, e = .returned (.tuple #[v, .int .i64 c, .int .i64 k]) ∧ chkAns text c k := by
  obtain ⟨hb, h | ⟨p, q, E, h1, hq, h2, ⟨n, h3, rfl⟩ | ⟨h3, a, z, rfl, -⟩⟩⟩ := h
  · obtain ⟨c, k, h0, h1, rfl⟩ := h
    exact ⟨hb, _, _, _, rfl, .inl ⟨c, k, h0, h1, rfl, rfl⟩⟩
  · exact ⟨hb, _, _, _, rfl, .inr ⟨p, q, E, h1, hq, h2, .inl ⟨n, h3, rfl, rfl⟩⟩⟩
  · exact ⟨hb, _, _, _, rfl, .inr ⟨p, q, E, h1, hq, h2, .inr ⟨h3, rfl, rfl⟩⟩⟩
/-- the document's own answer is this one -/
theorem chk_same {text : B} {w w' : World} {e : Ending} (h : CheckedPost text w e w') : Below w.heap.size w w' ∧ ∃ v c k, e = .returned (.tuple #[v, .int .i64 c, .int .i64 k]) ∧ ∀ c' k', chkAns text c' k' → c' = c ∧ k' = k := by
  obtain ⟨hb, ⟨c, k, h1, rfl⟩ | ⟨p, L, h1, hL, ⟨h2, rfl⟩ | ⟨h2, a, rfl, -⟩⟩⟩ := h
  · refine ⟨hb, _, _, _, rfl, fun c' k' ha => ?_⟩
    rcases ha with ⟨c2, k2, -, h3, rfl, rfl⟩ | ⟨p, q, E, h3, -⟩
    · rw [h1] at h3; cases h3; exact ⟨rfl, rfl⟩
    · rw [h1] at h3; cases h3
  · refine ⟨hb, _, _, _, rfl, fun c' k' ha => ?_⟩
    rcases ha with ⟨c2, k2, -, h3, -⟩ | ⟨p', q, E, h3, -, hD, ⟨n, h4, rfl, rfl⟩ | ⟨h4, rfl, rfl⟩⟩
    · rw [h1] at h3; cases h3
    · rw [h1] at h3; cases h3
      rw [hD.same hL, h4]; exact ⟨rfl, rfl⟩
    · rw [h1] at h3; cases h3
      rw [hD.same hL, h4] at h2; exact absurd h2 (by decide)
  · refine ⟨hb, _, _, _, rfl, fun c' k' ha => ?_⟩
    rcases ha with ⟨c2, k2, -, h3, -⟩ | ⟨p', q, E, h3, -, hD, ⟨n, h4, rfl, rfl⟩ | ⟨h4, rfl, rfl⟩⟩
    · rw [h1] at h3; cases h3
    · rw [h1] at h3; cases h3
      rw [hD.same hL, h4] at h2
      have : (0 : Int) ≤ FlwX.asInt (some n) := by show (0 : Int) ≤ (n : Int); omega
      omega
    · exact ⟨rfl, rfl⟩
end Go.Proofs.YtmlgajhhnojdjaaGreatDoor.FlwZ
/- The law Checked, walked: for texts of at most 2^20 letters, in every world that holds the tables. -/
namespace Go.Proofs.YtmlgajhhnojdjaaGreatDoor.FlwZa
open Go Go.RowKit Go.Proofs.YtmlgajhhnojdjaaGreatDoor.Spec Go.Proofs.YtmlgajhhnojdjaaGreatDoor.Aux Go.Proofs.YtmlgajhhnojdjaaGreatDoor.PrjF Go.Proofs.YtmlgajhhnojdjaaGreatDoor.PrjG Go.Proofs.YtmlgajhhnojdjaaGreatDoor.PrjJ Go.Proofs.YtmlgajhhnojdjaaGreatDoor.PrjK Go.Proofs.YtmlgajhhnojdjaaGreatDoor.PrjM Go.Proofs.YtmlgajhhnojdjaaGreatDoor.PrjW Go.Proofs.YtmlgajhhnojdjaaGreatDoor.PrjX Go.Proofs.YtmlgajhhnojdjaaGreatDoor.RefM Go.Proofs.YtmlgajhhnojdjaaGreatDoor.RefZf Go.Proofs.YtmlgajhhnojdjaaGreatDoor.FlwP Go.Proofs.YtmlgajhhnojdjaaGreatDoor.FlwQ Go.Proofs.YtmlgajhhnojdjaaGreatDoor.FlwV Go.Proofs.YtmlgajhhnojdjaaGreatDoor.FlwY Go.Proofs.YtmlgajhhnojdjaaGreatDoor.FlwZ

set_option maxRecDepth 20000 in
set_option maxHeartbeats 1000000 in
theorem pchecked_any (text : B) (w : World) (h : text.length ≤ 1048576) (E : Env w) : Calls Tryz.prog 38 #[.string (bs text)] w (CheckPost text w) := by
  have HRD := read_any' text w h E
  go_enter Tryz.func38, Tryz.ntmps38
  cases hr : prjRead text false with
  | mk op ck =>
    obtain ⟨c, k⟩ := ck
    cases op with
    | none =>
      obtain ⟨hc1, hc2⟩ := prjRead_bad hr
      have hcb : ((c : Int) == 0) = false := by simp; omega
      have HR : Hid (_ = _) := hr
      have HR2 : Hid (_ = _) := hc2
      go_wp2_with (go_at_call 53; refine HRD.mono ?_; rintro e w1 ⟨hb1, v, rfl, hv⟩; rw [HR.out] at hv; obtain ⟨-, rfl⟩ : True ∧ v = .pointer none := (by rcases hv with ⟨-, hv⟩ | ⟨p, a, z, hp, -⟩; exact ⟨trivial, hv⟩; cases hp); have hw1 : Hid (Below w.heap.size w w1) := hb1; simp only [HR.out])
      go_ret3
      exact ⟨hw1.out, .inl ⟨c, k, hc1, HR2.out, rfl⟩⟩
    | some q =>
      obtain ⟨rfl, rfl, p, hp, hB⟩ := prjRead_good hr
      have HR : Hid (_ = _) := hr
      have HP : Hid (_ = _) := hp
      have HB : Hid (_) := hB
      clear hr hp hB
      go_upto_region 4 with (go_at_call 53; refine HRD.mono ?_; rintro e w1 ⟨hb1, v, rfl, hv⟩; rw [HR.out] at hv; obtain ⟨a, z, rfl, hz, hG⟩ : ∃ a z, v = .pointer (some ⟨a, 0, none⟩) ∧ Hid (w.heap.size ≤ z) ∧ Hid (Got z a w1 q) := (by rcases hv with ⟨hv, -⟩ | ⟨q', a, z, hq, hv, hz, hg⟩; (cases hv); (cases hq; exact ⟨a, z, hv, hz, hg⟩)); have hw1 : Hid (Below w.heap.size w w1) := hb1; clear hv hb1; simp only [HR.out])
      have HF := flow_any HB.out hG.out
      go_upto_region 5 with (go_at_call 54; refine HF.mono ?_; rintro e w2 ⟨⟨E', hD, rfl⟩, hb2⟩; have HD : Hid (_) := hD; have HBB : Hid (_) := hb2; clear hD hb2; rw [ansOf_eq]; obtain ⟨r, hr⟩ : ∃ r, Hid (firstSome (faultB q E') q.blocks.length 0 = r) := ⟨_, rfl⟩; rw [hr.out])
      clear HF HRD
      have HW : Hid (Below w.heap.size w w2) := hw1.out.trans (HBB.out.mono hw1.out.size)
      cases r with
      | none =>
        simp only [Option.isSome_none]
        go_wp2
        go_ret3
        exact ⟨HW.out, .inr ⟨p, q, E', HP.out, HR.out, HD.out, .inr ⟨hr.out, a, z, rfl, hz.out, got_below hG.out HBB.out⟩⟩⟩
      | some n =>
        simp only [Option.isSome_some, Option.getD_some]
        go_wp2
        go_ret3
        exact ⟨HW.out, .inr ⟨p, q, E', HP.out, HR.out, HD.out, .inl ⟨n, hr.out, rfl⟩⟩⟩
set_option maxRecDepth 20000 in
theorem Check_any (text : B) (w : World) (h : text.length ≤ 1048576) (E : Env w) : Calls Tryz.prog 21 #[.string (bs text)] w fun e w' => (∃ c k, Hid (chkAns text c k) ∧ e = .returned (.tuple #[.int .i64 c, .int .i64 k])) ∧ Below w.heap.size w w' := by
  have K := (pchecked_any text w h E).mono (R' := fun e w' => ∃ v c k, e = .returned (.tuple #[v, .int .i64 c, .int .i64 k]) ∧ Hid (chkAns text c k) ∧ Below w.heap.size w w') fun e w' hp => by
    obtain ⟨hb, v, c, k, rfl, ha⟩ := hp.ans
    exact ⟨v, c, k, rfl, ha, hb⟩
  go_enter Tryz.func21, Tryz.ntmps21
  go_wp2_with (go_at_call 38; refine K.mono ?_; rintro e w1 ⟨v, c, k, rfl, ha, hb⟩)
  go_ret2
  exact ⟨⟨c, k, ha, rfl⟩, hb⟩
set_option maxRecDepth 20000 in
theorem check_any (text : B) (w : World) (h : text.length ≤ 1048576) (E : Env w) : Calls Tryz.prog 14 #[.string (bs text)] w fun e w' => e = .returned (.bool true) ∧ Below w.heap.size w w' := by
  have K1 := Check_any text w h E
  have K2 := fun w' => (checked_any text w' (by omega)).mono (R' := fun e w'' => ∃ v c k, e = .returned (.tuple #[v, .int .i64 c, .int .i64 k]) ∧ Hid (∀ c' k', chkAns text c' k' → c' = c ∧ k' = k) ∧ Below w'.heap.size w' w'') fun e w'' hp => by
    obtain ⟨hb, v, c, k, rfl, ha⟩ := chk_same hp
    exact ⟨v, c, k, rfl, ha, hb⟩
  have KN := fun n w' => num_any n w'
  have bb : ∀ c : Int, (c == c) = true := fun c => by simp
  go_enter Tryz.func14, Tryz.ntmps14
  go_wp2_with (first
    | (go_at_call 21; refine K1.mono ?_; rintro e w1 ⟨⟨c, k, ha, rfl⟩, hb1⟩)
    | (go_at_call 34; refine (K2 _).mono ?_; rintro e w2 ⟨v, c', k', rfl, hs, hb2⟩; obtain ⟨rfl, rfl⟩ := hs.out _ _ ha.out; have b1 := bb c; have b2 := bb k)
    | (go_at_call 35; refine (KN _ _).mono ?_; rintro e w3 ⟨rfl, rfl⟩))
  go_ret
  exact ⟨rfl, hb1.trans (hb2.mono hb1.size)⟩
def oneText : B := [108, 101, 116, 32, 110, 32, 105, 110, 116, 10, 108, 101, 116, 32, 112, 32, 98, 111, 120, 10, 98, 108, 111, 99, 107, 10, 115, 101, 116, 32, 110, 32, 53, 10, 110, 101, 119, 32, 112, 32, 110, 10, 108, 111, 97, 100, 32, 110, 32, 112, 10, 101, 110, 100, 32, 110]
set_option maxRecDepth 20000 in
set_option maxHeartbeats 1000000 in
theorem Checked_any (one other : B) (w : World) (h1 : one.length ≤ 1048576) (h2 : other.length ≤ 1048576) (E : Env w) : Calls Tryz.prog 3 #[.string (bs one), .string (bs other)] w fun e w' => e = .returned (.bool true) ∧ Below w.heap.size w w' := by
  have K := fun (t : B) (ht : t.length ≤ 1048576) (w' : World) (hb : Below w.heap.size w w') => (check_any t w' ht (E.on hb)).mono (R' := fun e w'' => e = .returned (.bool true) ∧ Below w.heap.size w w'') fun e w'' ⟨h1, h2⟩ => ⟨h1, hb.trans (h2.mono hb.size)⟩
  have K1 := K one h1
  have K2 := K other h2
  have K4 : ∀ w', Below w.heap.size w w' → Calls Tryz.prog 14 #[.string ⟨#[108, 101, 116, 32, 110, 32, 105, 110, 116, 10, 108, 101, 116, 32, 112, 32, 98, 111, 120, 10, 98, 108, 111, 99, 107, 10, 115, 101, 116, 32, 110, 32, 53, 10, 110, 101, 119, 32, 112, 32, 110, 10, 108, 111, 97, 100, 32, 110, 32, 112, 10, 101, 110, 100, 32, 110]⟩] w' _ := K oneText (by decide)
  have K5 : ∀ w', Below w.heap.size w w' → Calls Tryz.prog 14 #[.string ⟨#[108, 101, 116, 32, 110, 32, 105, 110, 116, 10, 108, 101, 116, 32, 112, 32, 98, 111, 120, 10, 98, 108, 111, 99, 107, 10, 115, 101, 116, 32, 110, 32, 53, 10, 110, 101, 119, 32, 112, 32, 110, 10, 100, 114, 111, 112, 32, 112, 10, 108, 111, 97, 100, 32, 110, 32, 112, 10, 101, 110, 100, 32, 110]⟩] w' _ := K badText (by decide)
  clear K
  have K0 := K1 w (Below.refl _ _)
  go_enter Tryz.func3, Tryz.ntmps3
  go_wp2_with (first
    | (go_at_call 14; refine (K5 _ hb4).mono ?_; rintro e w5 ⟨rfl, hb5⟩)
    | (go_at_call 14; refine (K4 _ hb3).mono ?_; rintro e w4 ⟨rfl, hb4⟩)
    | (go_at_call 14; refine (K1 _ hb2).mono ?_; rintro e w3 ⟨rfl, hb3⟩)
    | (go_at_call 14; refine (K2 _ hb1).mono ?_; rintro e w2 ⟨rfl, hb2⟩)
    | (go_at_call 14; refine K0.mono ?_; rintro e w1 ⟨rfl, hb1⟩))
  go_ret
  exact ⟨rfl, hb5⟩
end Go.Proofs.YtmlgajhhnojdjaaGreatDoor.FlwZa
/- What the cards' lists give: the tables and variables that the reader asks. -/
namespace Go.Proofs.YtmlgajhhnojdjaaGreatDoor.PrjY
open Go Go.RowKit Go.Proofs.YtmlgajhhnojdjaaGreatDoor.Spec Go.Proofs.YtmlgajhhnojdjaaGreatDoor.PrjF Go.Proofs.YtmlgajhhnojdjaaGreatDoor.PrjG

section
variable {H : Type} {enc : TypeId × Value → H} {P : Program} {w : World} {base : Nat} {sp : Nat → Bool} {held : Bool} {fuel : Nat} {t : TypeId} {cs : List Value} {p : List MemPlace}
theorem trod_str {l : B} (ht : P.underlying t = some .string) (h : DataW.trod enc P w base sp held fuel t cs = some (.lit (.string l), p)) : cs = [.string (bs l)] := by
  cases fuel with
  | zero => simp [DataW.trod] at h
  | succ fuel =>
    match cs with
    | [] => simp [DataW.trod, ht] at h
    | _ :: _ :: _ => simp [DataW.trod, ht] at h
    | [c] =>
      cases c <;> simp [DataW.trod, ht] at h
      obtain ⟨-, h, -⟩ := h
      rename_i s
      rw [← h]
      simp [bs]
theorem trod_arr {n : Nat} {e : TypeId} {ds : List (DataW H)} (ht : P.underlying t = some (.array n e)) (h : DataW.trod enc P w base sp held fuel t cs = some (.agg ds, p)) :
    ∃ fuel', cs.length = P.cellsOf t ∧ ds.length = n ∧ ∀ i d, ds[i]? = some d → ∃ p', DataW.trod enc P w base sp held fuel' e ((cs.drop (i * P.cellsOf e)).take (P.cellsOf e)) = some (d, p') := by
  cases fuel with
  | zero => simp [DataW.trod] at h
  | succ fuel =>
    simp only [DataW.trod, ht] at h
    split at h
    · rename_i hl
      obtain ⟨xs, hm, hx⟩ := Option.map_eq_some_iff.1 h
      simp only [Prod.mk.injEq, DataW.agg.injEq] at hx
      have hxl : xs.length = n := by simpa using Lib.mapM_length hm
      refine ⟨fuel, hl, by rw [← hx.1]; simpa using hxl, fun i d hd => ?_⟩
      rw [← hx.1, List.getElem?_map, Option.map_eq_some_iff] at hd
      obtain ⟨y, hy, rfl⟩ := hd
      have hi : i < n := by
        rcases Nat.lt_or_ge i n with hi | hi
        · exact hi
        · rw [List.getElem?_eq_none (by omega)] at hy; cases hy
      obtain ⟨b, hb, hf⟩ := Lib.mapM_at hm i i (by simp [hi])
      rw [hy] at hb
      cases hb
      exact ⟨y.2, hf⟩
    · cases h
theorem trod_two {f0 f1 : Field} {a b : B} (ht : P.underlying t = some (.struct #[f0, f1])) (h0 : f0.offset = 0) (h1 : f1.offset = 1) (u0 : P.underlying f0.type = some .string) (u1 : P.underlying f1.type = some .string) (c0 : P.cellsOf f0.type = 1) (c1 : P.cellsOf f1.type = 1) (ct : P.cellsOf t = 2)
    (h : DataW.trod enc P w base sp held fuel t cs = some (.agg [.lit (.string a), .lit (.string b)], p)) : cs = [.string (bs a), .string (bs b)] := by
  cases fuel with
  | zero => simp [DataW.trod] at h
  | succ fuel =>
    simp only [DataW.trod, ht] at h
    split at h
    · rename_i hl
      rw [ct] at hl
      obtain ⟨xs, hm, hx⟩ := Option.map_eq_some_iff.1 h
      simp only [Prod.mk.injEq, DataW.agg.injEq] at hx
      obtain ⟨b0, hb0, hf0⟩ := Lib.mapM_at hm 0 f0 (by simp)
      obtain ⟨b1, hb1, hf1⟩ := Lib.mapM_at hm 1 f1 (by simp)
      have e0 := congrArg (·[0]?) hx.1
      have e1 := congrArg (·[1]?) hx.1
      simp only [List.getElem?_map, hb0, hb1, Option.map_some, List.getElem?_cons_zero, List.getElem?_cons_succ, Option.some.injEq] at e0 e1
      rw [h0, c0] at hf0
      rw [h1, c1] at hf1
      have g0 := trod_str (l := a) (p := b0.2) u0 (by rw [hf0, ← e0])
      have g1 := trod_str (l := b) (p := b1.2) u1 (by rw [hf1, ← e1])
      match cs, hl with
      | [x, y], _ =>
        simp only [List.drop_zero, List.take_succ_cons, List.take_zero, List.cons.injEq, and_true] at g0
        simp only [List.drop_succ_cons, List.drop_zero, List.take_succ_cons, List.take_zero, List.cons.injEq, and_true] at g1
        rw [g0, g1]
    · cases h
end
theorem flat_chunks {α : Type} (f : α → List Value) (m : Nat) (hf : ∀ x, (f x).length = m) : ∀ (l : List α) (cs : List Value), cs.length = l.length * m → (∀ i x, l[i]? = some x → (cs.drop (i * m)).take m = f x) → cs = l.flatMap f
  | [], cs, hl, _ => by simpa using hl
  | x :: l, cs, hl, h => by
    have h0 := h 0 x rfl
    rw [Nat.zero_mul, List.drop_zero] at h0
    have ih := flat_chunks f m hf l (cs.drop m) (by rw [List.length_drop, hl, List.length_cons, Nat.add_mul]; omega) (fun i y hy => by
      have := h (i + 1) y (by simpa using hy)
      rw [List.drop_drop, show m + i * m = (i + 1) * m by rw [Nat.add_mul]; omega]
      exact this)
    rw [List.flatMap_cons, ← h0, ← ih, List.take_append_drop]
theorem cells_of_var {P : Program} {w : World} {n : String} {g : Nat} {cs : Array Value} (hg : P.globalNamed n = some g) (h : w.var? P n = some cs) : (∀ j, w.cell? ⟨g, j, none⟩ = cs[j]?) ∧ g < w.heap.size := by
  unfold World.var? at h
  rw [hg] at h
  simp only [Option.bind_some] at h
  split at h
  · rename_i cs' t f hh
    cases h
    exact ⟨fun j => by simp [World.cell?, hh], by rw [Array.getElem?_eq_some_iff] at hh; exact hh.1⟩
  · cases h
theorem shapes_data {H : Type} : (Rows.laid_stow_prog_shapes : DataW H) = .agg (shapeTab.map fun x => .agg [.lit (.string x.1), .lit (.string x.2)]) := rfl
theorem types_data {H : Type} : (Rows.laid_stow_prog_typeWords : DataW H) = .agg (typeTab.map fun x => .lit (.string x)) := rfl
theorem int_of_shape {P : Program} {w : World} {g : Nat} {t : TypeId} {zero : Array Value} (h : w.ShapedOpen P) (hg : g < P.globals.size) (h0 : ((begin P (fun _ _ => 0) default).world.heap[g]?).bind Obj.row? = some (zero, t)) (hz : zero.size = 1)
    (hb : P.buildable t = true) (hc : P.cellTypes P.depth t = some [t]) (hu : P.underlying t = some (.int .i64)) : ∃ m : Int, w.cell? ⟨g, 0, none⟩ = some (.int .i64 m) := by
  obtain ⟨cs, hh, hs, hr⟩ := h.1 g zero t hg h0
  obtain ⟨ts, hts, -, hall⟩ := hr hb
  rw [hc] at hts
  cases hts
  have h1 : 0 < cs.size := by omega
  obtain ⟨u, hu', hok⟩ := hall 0 cs[0] (by simp [h1])
  have : u = t := by simpa using hu'.symm
  subst this
  have hcell : w.cell? ⟨g, 0, none⟩ = some cs[0] := by simp [World.cell?, hh, h1]
  rw [hcell]
  unfold Cell.ok at hok
  rw [hu] at hok
  cases hv : cs[0] <;> rw [hv] at hok <;> simp at hok
  rename_i k n
  obtain ⟨rfl, -⟩ := hok
  exact ⟨n, rfl⟩
theorem met_of {P : Program} {laid : List (String × DataW Unit)} {W : World} (hf : (laid.filter fun x => x.2.handleName?.isSome) = []) (h : laidMetH P laid W) : laidMet P laid W := by
  unfold laidMetH at h; rw [hf] at h; exact h
theorem laid_mem {P : Program} {w : World} {n : String} {d : DataW Unit} : ∀ {laid : List (String × DataW Unit)} {ps : List MemPlace}, DataW.LaidVars P w laid ps → (n, d) ∈ laid → ∃ g t cs fuel p, P.globalNamed n = some g ∧ (P.globals[g]?).map (·.type) = some t ∧ w.var? P n = some cs ∧ DataW.trod (fun _ => ()) P w 0 (fun _ => true) false fuel t cs.toList = some (d, p)
  | [], _, _, hm => by cases hm
  | (n', d') :: r, ps, h, hm => by
    obtain ⟨g, t, cs, fuel, p, q, h1, h2, h3, h4, h5, -⟩ := h
    rcases List.mem_cons.1 hm with e | hm
    · cases e; exact ⟨g, t, cs, fuel, p, h1, h2, h3, h4⟩
    · exact laid_mem h5 hm
theorem name_shapes : Tryz.prog.globalNamed "stow/prog.shapes" = some 0 := by kernel_rfl
theorem name_types : Tryz.prog.globalNamed "stow/prog.typeWords" = some 1 := by kernel_rfl
theorem name_syn : Tryz.prog.globalNamed "strconv.ErrSyntax" = some 9 := by kernel_rfl
theorem name_rng : Tryz.prog.globalNamed "strconv.ErrRange" = some 10 := by kernel_rfl
theorem type_shapes : (Tryz.prog.globals[0]?).map (·.type) = some 148 := by kernel_rfl
theorem type_types : (Tryz.prog.globals[1]?).map (·.type) = some 149 := by kernel_rfl
theorem type_syn : (Tryz.prog.globals[9]?).map (·.type) = some 221 := by kernel_rfl
theorem type_rng : (Tryz.prog.globals[10]?).map (·.type) = some 221 := by kernel_rfl
theorem cells_shapes : Tryz.prog.cellsOf 148 = 46 := by kernel_rfl
theorem cells_shape : Tryz.prog.cellsOf 147 = 2 := by kernel_rfl
theorem cells_types : Tryz.prog.cellsOf 149 = 4 := by kernel_rfl
theorem cells_string : Tryz.prog.cellsOf 9 = 1 := by kernel_rfl
theorem many : Tryz.prog.globals.size = 11 := by kernel_rfl
/-- what the list of a row gives the reader -/
theorem env_of {laid : List (String × DataW Unit)} {W : World} (hL : laidMet Tryz.prog laid W) (hsh : W.ShapedOpen Tryz.prog) (m1 : ("stow/prog.shapes", Rows.laid_stow_prog_shapes) ∈ laid) (m2 : ("stow/prog.typeWords", Rows.laid_stow_prog_typeWords) ∈ laid)
    (m3 : ("strconv.ErrSyntax", Rows.laid_strconv_ErrSyntax) ∈ laid) (m4 : ("strconv.ErrRange", Rows.laid_strconv_ErrRange) ∈ laid) : Env W := by
  obtain ⟨ps, hV, -⟩ := hL
  refine ⟨?_, ?_, ?_, ?_, ?_, ?_⟩
  · obtain ⟨g, t, cs, fuel, p, h1, h2, h3, h4⟩ := laid_mem hV m1
    rw [name_shapes] at h1
    cases h1
    rw [type_shapes] at h2
    cases h2
    rw [shapes_data] at h4
    obtain ⟨fuel', hl, hn, hi⟩ := trod_arr Tryz.underlying148 h4
    rw [cells_shapes] at hl
    have hcs : cs.toList = shapeCells := by
      refine flat_chunks (fun x : B × B => [.string (bs x.1), .string (bs x.2)]) 2 (fun _ => rfl) shapeTab cs.toList hl fun i x hx => ?_
      obtain ⟨p', hp'⟩ := hi i (.agg [.lit (.string x.1), .lit (.string x.2)]) (by rw [List.getElem?_map, hx]; rfl)
      rw [cells_shape] at hp'
      exact trod_two Tryz.underlying147 rfl rfl Tryz.underlying9 Tryz.underlying9 cells_string cells_string cells_shape hp'
    obtain ⟨hc, -⟩ := cells_of_var name_shapes h3
    intro j v hv
    rw [Nat.zero_add, hc, ← Array.getElem?_toList, hcs]
    exact hv
  · obtain ⟨g, t, cs, fuel, p, h1, h2, h3, h4⟩ := laid_mem hV m2
    rw [name_types] at h1
    cases h1
    rw [type_types] at h2
    cases h2
    rw [types_data] at h4
    obtain ⟨fuel', hl, hn, hi⟩ := trod_arr Tryz.underlying149 h4
    rw [cells_types] at hl
    have hcs : cs.toList = typeTab.flatMap (fun x : B => [.string (bs x)]) := by
      refine flat_chunks (fun x : B => [.string (bs x)]) 1 (fun _ => rfl) typeTab cs.toList hl fun i x hx => ?_
      obtain ⟨p', hp'⟩ := hi i (.lit (.string x)) (by rw [List.getElem?_map, hx]; rfl)
      rw [cells_string] at hp'
      exact trod_str Tryz.underlying9 hp'
    obtain ⟨hc, -⟩ := cells_of_var name_types h3
    intro j v hv
    rw [Nat.zero_add, hc, ← Array.getElem?_toList, hcs]
    exact hv
  · exact int_of_shape hsh (by rw [many]; decide) (g := 3) (t := 3) (zero := #[.int .i64 0]) (by kernel_rfl) rfl (by kernel_rfl) (by kernel_rfl) Tryz.underlying3
  · obtain ⟨g, t, cs, fuel, p, h1, h2, h3, h4⟩ := laid_mem hV m3
    rw [name_syn] at h1
    cases h1
    rw [type_syn] at h2
    cases h2
    obtain ⟨fuel', u, v, hcs, -⟩ := iface_of_trod Tryz.underlying221 h4
    obtain ⟨hc, -⟩ := cells_of_var name_syn h3
    exact ⟨u, v, by rw [hc, ← Array.getElem?_toList, hcs]; rfl⟩
  · obtain ⟨g, t, cs, fuel, p, h1, h2, h3, h4⟩ := laid_mem hV m4
    rw [name_rng] at h1
    cases h1
    rw [type_rng] at h2
    cases h2
    obtain ⟨fuel', u, v, hcs, -⟩ := iface_of_trod Tryz.underlying221 h4
    obtain ⟨hc, -⟩ := cells_of_var name_rng h3
    exact ⟨u, v, by rw [hc, ← Array.getElem?_toList, hcs]; rfl⟩
  · obtain ⟨g, t, cs, fuel, p, h1, h2, h3, h4⟩ := laid_mem hV m4
    have := (cells_of_var name_rng h3).2
    omega
end Go.Proofs.YtmlgajhhnojdjaaGreatDoor.PrjY
/- A world in which the tables lie as start-up lays them: the witness that the cards ask. -/
namespace Go.Proofs.YtmlgajhhnojdjaaGreatDoor.PrjZ
open Go Go.RowKit Go.Proofs.YtmlgajhhnojdjaaGreatDoor.Spec

/-- plain data, cell by cell -/
def flatD {H : Type} : Nat → DataW H → List Value
  | 0, _ => []
  | _ + 1, .lit (.int k n) => [.int k n]
  | _ + 1, .lit (.string l) => [.string (bs l)]
  | n + 1, .agg ds => ds.flatMap (flatD n)
  | _ + 1, _ => []
def put (g : Nat) (cs : List Value) (h : Array Obj) : Array Obj := h.modify g fun
  | .cells _ t frozen => .cells cs.toArray t frozen
  | o => o
noncomputable def low : Nat := (World.holding Tryz.prog default ⟨#[], #[], []⟩).heap.size
noncomputable def laidWorld (os : Os) : World :=
  let w0 := World.holding Tryz.prog os ⟨#[.cells #[.string (bs [118, 97, 108, 117, 101, 32, 111, 117, 116, 32, 111, 102, 32, 114, 97, 110, 103, 101])] 327, .cells #[.string (bs [105, 110, 118, 97, 108, 105, 100, 32, 115, 121, 110, 116, 97, 120])] 327], #[], []⟩
  { w0 with heap := put 0 (flatD 8 (Rows.laid_stow_prog_shapes (H := Unit))) (put 1 (flatD 8 (Rows.laid_stow_prog_typeWords (H := Unit))) (put 2 (flatD 8 (Rows.laid_stow_prog_suffixes (H := Unit)))
      (put 4 (flatD 8 (Rows.laid_internal_strconv_uint64pow10 (H := Unit))) (put 5 (flatD 8 Rows.laid_unicode_utf8_first) (put 6 (flatD 8 (Rows.laid_unicode_utf8_acceptRanges (H := Unit)))
      (put 7 (flatD 8 (Rows.laid_math_bits_deBruijn32tab (H := Unit))) (put 8 (flatD 8 (Rows.laid_math_bits_deBruijn64tab (H := Unit)))
      (put 10 [.iface 325 (.pointer (some ⟨low, 0, none⟩))] (put 9 [.iface 325 (.pointer (some ⟨low + 1, 0, none⟩))] w0.heap))))))))) }
theorem laid_met (os : Os) (args : Array Value) : laidMet Tryz.prog Rows.lookedUptoRow.laid ((laidWorld os).forCall (fun _ _ => 0) ⟨#[], args, []⟩).memory :=
  laidMet_of_run' 8 (by kernel_rfl) (by kernel_rfl)
end Go.Proofs.YtmlgajhhnojdjaaGreatDoor.PrjZ
namespace Go.Proofs.YtmlgajhhnojdjaaGreatDoor.checkedCard
open Go.ChangeShapes Go.WideShapes Go.ChangeAt Go.RowKit
open Go.ChangeMaps (open_string shut_string)

theorem own : ownKnob Tryz.prog.godebug = none := by kernel_rfl
theorem lit_of (s : ByteArray) : s = Spec.bs s.data.toList := by simp [Spec.bs]
theorem short {H : Type} {s t : ByteArray} (hk : Rows.uptoSmall H [.lit (.string s.data.toList), .lit (.string t.data.toList)] = true) : s.data.toList.length ≤ 1048576 ∧ t.data.toList.length ≤ 1048576 := by
  have h : Rows.uptoBulkAll [DataW.lit (H := H) (.string s.data.toList), DataW.lit (H := H) (.string t.data.toList)] ≤ 1048576 := of_decide_eq_true hk
  simp only [Rows.uptoBulkAll, Rows.uptoBulk] at h
  omega
set_option maxRecDepth 100000 in
theorem contract (H : Type) (enc : TypeId × Value → H) (W : World) (base : Nat) (args : Array Value) (ds gs : List (DataW H)) (before : List MemPlace)
    (hval : ∀ (j : Nat) t v, Tryz.f3.params[j]? = some t → args[j]? = some v → Value.okWide Tryz.prog W .any base t v)
    (hW : DataW.Whole enc Tryz.prog Tryz.f3.params.toList Rows.checkedSpec.vars false W args.toList ds gs before) (hk : Rows.uptoSmall H (ds ++ gs) = true) (hL : laidMetH Tryz.prog Rows.checkedUptoRow.laid W) (hsh : W.ShapedOpen Tryz.prog) :
    Calls Tryz.prog 3 args W fun e W' => ∃ v, e = .returned v ∧ Rows.checkedSpec.post enc Tryz.prog Tryz.f3 false true false false W args v W' := by
  have E := PrjY.env_of (laid := Rows.checkedUptoRow.laid) (PrjY.met_of (by kernel_rfl) hL) hsh (by simp [Rows.checkedUptoRow]) (by simp [Rows.checkedUptoRow]) (by simp [Rows.checkedUptoRow]) (by simp [Rows.checkedUptoRow])
  have hW' := hW
  obtain ⟨p, q, hA0, hV, rfl, hfz, hnd⟩ := hW
  have hA : DataW.TrodAll enc Tryz.prog W 0 (fun _ => true) true Tryz.f3.params.toList args.toList ds p := hA0
  rw [Tryz.params3] at hA
  have hv0 := fun v (h : args[0]? = some v) => hval 0 9 v (by rw [Tryz.params3]; rfl) h
  have hv1 := fun v (h : args[1]? = some v) => hval 1 9 v (by rw [Tryz.params3]; rfl) h
  clear hval
  obtain ⟨v0, v1, d0, d1, p0, p1, rfl, rfl, rfl, h0, h1⟩ := trodAll_two hA
  obtain ⟨rfl, rfl⟩ := trodVars_none hV
  obtain ⟨s, rfl, rfl, rfl, ms⟩ := open_string Tryz.underlying9 (hv0 v0 rfl) h0
  obtain ⟨t, rfl, rfl, rfl, mt⟩ := open_string Tryz.underlying9 (hv1 v1 rfl) h1
  clear hA0
  simp only [List.append_nil] at hW' hk
  obtain ⟨l1, l2⟩ := short hk
  have walk := FlwZa.Checked_any s.data.toList t.data.toList W l1 l2 E
  rw [← lit_of, ← lit_of] at walk
  refine walk.mono fun e W' ⟨he, hb⟩ => ?_
  subst he
  exact ⟨_, rfl, _, _, _, [], _, [], hW', trodAll_mk1 (shut_bool Tryz.underlying4 _), trodAll_mk2 (shut_string Tryz.underlying9 ms) (shut_string Tryz.underlying9 mt), rfl, hb.frame _, fun h => by cases h⟩
theorem reads (os : Os) {H : Type} (enc : TypeId × Value → H) : ∃ places, DataW.whole enc Tryz.prog ((PrjZ.laidWorld os).forCall (fun _ _ => 0) ⟨#[], #[.string ⟨#[]⟩, .string ⟨#[]⟩], []⟩).memory Tryz.f3.params.toList Rows.checkedSpec.vars false #[Value.string ⟨#[]⟩, Value.string ⟨#[]⟩].toList 8 = some ([.lit (.string []), .lit (.string [])], [], places) :=
  ⟨[], by kernel_rfl⟩
set_option maxRecDepth 100000 in
theorem liftedUpto (os : Os) (started : os.Started) (H : Type) (enc : TypeId × Value → H) (F : Stop.Interp) :
    ReturnsInHanded {} Tryz.checked os 3 .any ((Rows.OpenSpec.upto Rows.checkedSpec).preRow enc Tryz.prog Tryz.f3 Rows.checkedUptoRow.domain false Rows.checkedUptoRow.laid) (((Rows.OpenSpec.upto Rows.checkedSpec).at F).post enc Tryz.prog Tryz.f3 false true false false) := by
  obtain ⟨places, hx⟩ := reads os enc
  refine returnsInHanded_of_row (C := Tryz.checked) (s := Rows.OpenSpec.upto Rows.checkedSpec) own started (by kernel_rfl) Tryz.func3
    (witness_row_at (enc := enc) (C := Tryz.checked) false (PrjZ.laidWorld os) #[.string ⟨#[]⟩, .string ⟨#[]⟩] rfl (by kernel_rfl) (by kernel_rfl) (by kernel_rfl)
      (OpenSpec.preRow_of_cond 8 hx (by kernel_rfl) (fun k hk => by cases hk; kernel_rfl) (by kernel_rfl) (PrjZ.laid_met os _))) ?_
  intro W base args ds gs before hval hW _ hcond _ hL hsh _
  exact contract H enc W base args ds gs before hval hW (hcond _ rfl) hL hsh
theorem saidUpto : Rows.CheckedUptoSaid :=
  OpenClaim.holds_of_cond 3 Tryz.f3 rfl rfl rfl rfl rfl rfl rfl ⟨rfl, rfl, rfl, rfl, rfl⟩ rfl rfl rfl rfl rfl (by kernel_rfl) Tryz.func3 (by kernel_rfl)
    (of_decide_eq_true (by kernel_rfl)) (by unfold Func.isWrapper; first | (rw [if_pos (by decide +kernel)]; kernel_rfl) | (rw [if_neg (by decide +kernel)]; exact ⟨rfl, rfl⟩))
    (fun os started H enc _ F => by rw [OpenClaim.pre_eq_preRow]; exact liftedUpto os started H enc F)
theorem plain (f : FuncId) (fn : Func) (hf : Tryz.pinned.checked.prog.funcNamed "stow/stowlaw.Checked" = some f) (hfn : Tryz.pinned.checked.prog.funcs[f]? = some fn) :
    true = Tryz.pinned.checked.prog.looks [] ∧ ∀ (j : Nat) t, fn.params[j]? = some t → Tryz.pinned.checked.prog.wantsStandIn t = false := by
  obtain rfl : f = 3 := Option.some.inj ((show Tryz.prog.funcNamed "stow/stowlaw.Checked" = some 3 by kernel_rfl).symm.trans hf) |>.symm
  obtain rfl : fn = Tryz.f3 := (Option.some.inj (Tryz.func3.symm.trans hfn)).symm
  refine ⟨by kernel_rfl, fun j t ht => ?_⟩
  rw [Tryz.params3] at ht
  obtain rfl : t = 9 := by simpa using Array.mem_of_getElem? ht
  exact (show Tryz.prog.wantsStandIn 9 = false by kernel_rfl)
/-- THE CARD -/
theorem cardUpto : Rows.CheckedUptoCardSaid :=
  Claim7.holds_tied_plain_at .later [] _ _ _ _ saidUpto (fun _ h => by cases h) (by kernel_rfl) (fun _ h => by cases h) checkedUpto_row_tie rfl ⟨rfl, rfl⟩ (by kernel_rfl) rfl plain (by kernel_rfl)
end Go.Proofs.YtmlgajhhnojdjaaGreatDoor.checkedCard
