/- The law Executed, walked: Exec is as the document says. For texts and inputs of at most 2^20 letters, in every world that holds the tables. -/
import Derived.Test.YtmlgajhhnojdjaaGreatDoorSBT
import Derived.Test.YtmlgajhhnojdjaaGreatDoorSBS
import Derived.Test.YtmlgajhhnojdjaaGreatDoorSAU
import Derived.Test.YtmlgajhhnojdjaaGreatDoorRows
import Derived.Test.YtmlgajhhnojdjaaGreatDoorSAF
import Derived.LaidLaws
import Derived.Lib.LaidTab
import Derived.ShapedOpen
import Derived.Test.YtmlgajhhnojdjaaGreatDoorSAY
import Derived.Deep.Slices
import Derived.OpenShut
import Derived.ChangeSlices
import Derived.WalkKit
import Derived.ProofKit
namespace Go.Proofs.YtmlgajhhnojdjaaGreatDoor.Ran
open Go Go.RowKit Go.Proofs.YtmlgajhhnojdjaaGreatDoor.Spec Go.Proofs.YtmlgajhhnojdjaaGreatDoor.Aux Go.Proofs.YtmlgajhhnojdjaaGreatDoor.Own Go.Proofs.YtmlgajhhnojdjaaGreatDoor.RunA Go.Proofs.YtmlgajhhnojdjaaGreatDoor.RunB Go.Proofs.YtmlgajhhnojdjaaGreatDoor.PrjG Go.Proofs.YtmlgajhhnojdjaaGreatDoor.PrjX Go.Proofs.YtmlgajhhnojdjaaGreatDoor.MadE Go.Proofs.YtmlgajhhnojdjaaGreatDoor.Mac Go.Proofs.YtmlgajhhnojdjaaGreatDoor.FlwZa Go.Proofs.YtmlgajhhnojdjaaGreatDoor.Ex

/-- the document's own Exec, its answer laid out -/
theorem refExec_laid (text : B) (vi : Value) (inp : List Int) (fuel room : Int) (w : World) (hf : FeedAt w vi inp) (hinp : ∀ n ∈ inp, isI64 n) (h : text.length ≤ 1048576) :
    Calls Tryz.prog 47 #[.string (bs text), vi, .int .i64 fuel, .int .i64 room] w fun e w' => (∃ (o x : Int) (t : B) (l c k : Int), Hid (RefEx text inp fuel room (.agg #[.int .i64 o, .int .i64 x, .string (bs t), .int .i64 l]) c k) ∧ e = .returned (.tuple #[.agg #[.int .i64 o, .int .i64 x, .string (bs t), .int .i64 l], .int .i64 c, .int .i64 k])) ∧ Below w.heap.size w w' := by
  refine (refExec_any text vi inp fuel room w hf hinp h).mono ?_
  rintro e w' ⟨⟨v, c, k, hr, rfl⟩, hb⟩
  obtain ⟨o, x, t, l, rfl⟩ := hr.out.form
  exact ⟨⟨o, x, t, l, c, k, hr, rfl⟩, hb⟩
/-- Exec, its answer laid out -/
theorem SExec_laid (text : B) (vi : Value) (inp : List Int) (fuel room : Int) (w : World) (hf : FeedAt w vi inp) (hinp : ∀ n ∈ inp, isI64 n) (h : text.length ≤ 1048576) (E : Env w) (hp : Pow w) :
    Calls Tryz.prog 31 #[.string (bs text), vi, .int .i64 fuel, .int .i64 room] w fun e w' => (∃ (o x : Int) (t : B) (l c k : Int), Hid (ExecIs text inp fuel room (.agg #[.int .i64 o, .int .i64 x, .string (bs t), .int .i64 l]) c k) ∧ e = .returned (.tuple #[.agg #[.int .i64 o, .int .i64 x, .string (bs t), .int .i64 l], .int .i64 c, .int .i64 k])) ∧ Below w.heap.size w w' := by
  refine (SExec_any text vi inp fuel room w hf hinp h E hp).mono ?_
  rintro e w' ⟨⟨v, c, k, hr, rfl⟩, hb⟩
  obtain ⟨o, x, t, l, rfl⟩ := hr.out.form
  exact ⟨⟨o, x, t, l, c, k, hr, rfl⟩, hb⟩
set_option maxRecDepth 20000 in
set_option maxHeartbeats 2000000 in
theorem exec_some (text : B) (a : Addr) (c : Nat) (inp : List Int) (fuel room : Int) (w : World) (hf : FeedAt w (.slice (some a) inp.length c) inp) (hi : ∀ n ∈ inp, isI64 n) (hl : inp.length ≤ 1048576) (h : text.length ≤ 1048576) (E : Env w) (hp : Pow w) :
    Calls Tryz.prog 29 #[.string (bs text), .slice (some a) inp.length c, .int .i64 fuel, .int .i64 room] w fun e w' => e = .returned (.bool true) ∧ Below w.heap.size w w' := by
  have KL := lent_some a c inp w hf hl
  have KR := fun w' v (hb : Below w.heap.size w w') (hv : FeedAt w' v inp) => SExec_laid text v inp fuel room w' hv hi h (E.on hb) (hp.below hb E.size)
  have KF := fun w' (hb : Below w.heap.size w w') => refExec_laid text (.slice (some a) inp.length c) inp fuel room w' (feed_below hf hb (Nat.le_refl _)) hi h
  have KS := fun w' v (hb : Below w.heap.size w w') (hv : LentAt w' v inp) => still_any v (.slice (some a) inp.length c) inp w' (feed_below hf hb (Nat.le_refl _)) hv hl
  have KM := fun o x t l w' => same_any o x t l w'
  have KN := fun n w' => num_any n w'
  have bb : ∀ c : Int, (c == c) = true := fun c => by simp
  clear hf hi h E hp
  go_enter Tryz.func29, Tryz.ntmps29
  go_wp2_with (first
    | (go_at_call 39; refine KL.mono ?_; rintro e w1 ⟨⟨b, rfl, hB⟩, hb1⟩; have hv1 := lent_feed hB hl; have hL1 : LentAt w1 (.slice (some ⟨b, 0, none⟩) (inp.length + 2) (inp.length + 2)) inp := .inr ⟨b, rfl, hB⟩)
    | (go_at_call 31; refine (KR _ _ hb1 hv1).mono ?_; rintro e w2 ⟨⟨o, x, t, l, c1, k1, hRa, rfl⟩, hb2'⟩; have hL2 := (hL1.below hb2').below ((Below.refl _ _).alloc (Nat.le_refl _) (.cells #[.int .i64 o, .int .i64 x, .string (bs t), .int .i64 l] 47)); have hb2 := (hb1.trans (hb2'.mono hb1.size)).alloc (Nat.le_trans hb1.size hb2'.size) (.cells #[.int .i64 o, .int .i64 x, .string (bs t), .int .i64 l] 47))
    | (go_at_call 47; refine (KF _ hb2).mono ?_; rintro e w3 ⟨⟨o', x', t', l', c2, k2, hRb, rfl⟩, hb3'⟩; obtain ⟨ev, rfl, rfl⟩ := exec_same hRa.out hRb.out; obtain ⟨rfl, rfl, rfl, rfl⟩ := agg_inj ev; clear ev hRa hRb; have hL3 := (hL2.below hb3').below ((Below.refl _ _).alloc (Nat.le_refl _) (.cells #[.int .i64 o, .int .i64 x, .string (bs t), .int .i64 l] 73)); have hb3 := (hb2.trans (hb3'.mono hb2.size)).alloc (Nat.le_trans hb2.size hb3'.size) (.cells #[.int .i64 o, .int .i64 x, .string (bs t), .int .i64 l] 73); have hra := laid_two (y := .cells #[.int .i64 o, .int .i64 x, .string (bs t), .int .i64 l] 73) hb3'; obtain ⟨a0, a1, a2, a3, -⟩ := res_facts hra; have hne : ¬ w2.heap.size = w3.heap.size := Nat.ne_of_lt (laid_one hb3').2)
    | (go_at_call 41; refine (KM _ _ _ _ _).mono ?_; rintro e w4 ⟨rfl, hb4'⟩; have hL4 := hL3.below hb4'; have hb4 := hb3.trans (hb4'.mono hb3.size))
    | (go_at_call 42; refine (KS _ _ hb4 hL4).mono ?_; rintro e w5 ⟨rfl, hb5'⟩; have hb5 := hb4.trans (hb5'.mono hb4.size); have e1 := bb c1; have e2 := bb k1)
    | (go_at_call 35; refine (KN _ _).mono ?_; rintro e w6 ⟨rfl, rfl⟩))
  go_ret
  exact ⟨rfl, hb5⟩
set_option maxRecDepth 20000 in
set_option maxHeartbeats 2000000 in
theorem exec_nil (text : B) (c : Nat) (fuel room : Int) (w : World) (hf : FeedAt w (.slice none 0 c) []) (h : text.length ≤ 1048576) (E : Env w) (hp : Pow w) :
    Calls Tryz.prog 29 #[.string (bs text), .slice none 0 c, .int .i64 fuel, .int .i64 room] w fun e w' => e = .returned (.bool true) ∧ Below w.heap.size w w' := by
  have hi : ∀ n ∈ ([] : List Int), isI64 n := fun n hn => by cases hn
  have KL := lent_nil c w
  have KR := fun w' v (hb : Below w.heap.size w w') (hv : FeedAt w' v []) => SExec_laid text v [] fuel room w' hv hi h (E.on hb) (hp.below hb E.size)
  have KF := fun w' (hb : Below w.heap.size w w') => refExec_laid text (.slice none 0 c) [] fuel room w' (feed_below hf hb (Nat.le_refl _)) hi h
  have KS := fun w' v (hb : Below w.heap.size w w') (hv : LentAt w' v []) => still_any v (.slice none 0 c) [] w' (feed_below hf hb (Nat.le_refl _)) hv (by decide)
  have KM := fun o x t l w' => same_any o x t l w'
  have KN := fun n w' => num_any n w'
  have bb : ∀ c : Int, (c == c) = true := fun c => by simp
  clear hf hi h E hp
  go_enter Tryz.func29, Tryz.ntmps29
  go_wp2_with (first
    | (go_at_call 39; refine KL.mono ?_; rintro e w1 ⟨rfl, hw1⟩; have hb1 : Below w.heap.size w w1 := (by rw [hw1]; exact Below.refl _ _); have hv1 := feed_nil w1; have hL1 : LentAt w1 (.slice none 0 0) [] := .inl ⟨rfl, rfl⟩; clear hw1)
    | (go_at_call 31; refine (KR _ _ hb1 hv1).mono ?_; rintro e w2 ⟨⟨o, x, t, l, c1, k1, hRa, rfl⟩, hb2'⟩; have hL2 := (hL1.below hb2').below ((Below.refl _ _).alloc (Nat.le_refl _) (.cells #[.int .i64 o, .int .i64 x, .string (bs t), .int .i64 l] 47)); have hb2 := (hb1.trans (hb2'.mono hb1.size)).alloc (Nat.le_trans hb1.size hb2'.size) (.cells #[.int .i64 o, .int .i64 x, .string (bs t), .int .i64 l] 47))
    | (go_at_call 47; refine (KF _ hb2).mono ?_; rintro e w3 ⟨⟨o', x', t', l', c2, k2, hRb, rfl⟩, hb3'⟩; obtain ⟨ev, rfl, rfl⟩ := exec_same hRa.out hRb.out; obtain ⟨rfl, rfl, rfl, rfl⟩ := agg_inj ev; clear ev hRa hRb; have hL3 := (hL2.below hb3').below ((Below.refl _ _).alloc (Nat.le_refl _) (.cells #[.int .i64 o, .int .i64 x, .string (bs t), .int .i64 l] 73)); have hb3 := (hb2.trans (hb3'.mono hb2.size)).alloc (Nat.le_trans hb2.size hb3'.size) (.cells #[.int .i64 o, .int .i64 x, .string (bs t), .int .i64 l] 73); have hra := laid_two (y := .cells #[.int .i64 o, .int .i64 x, .string (bs t), .int .i64 l] 73) hb3'; obtain ⟨a0, a1, a2, a3, -⟩ := res_facts hra; have hne : ¬ w2.heap.size = w3.heap.size := Nat.ne_of_lt (laid_one hb3').2)
    | (go_at_call 41; refine (KM _ _ _ _ _).mono ?_; rintro e w4 ⟨rfl, hb4'⟩; have hL4 := hL3.below hb4'; have hb4 := hb3.trans (hb4'.mono hb3.size))
    | (go_at_call 42; refine (KS _ _ hb4 hL4).mono ?_; rintro e w5 ⟨rfl, hb5'⟩; have hb5 := hb4.trans (hb5'.mono hb4.size); have e1 := bb c1; have e2 := bb k1)
    | (go_at_call 35; refine (KN _ _).mono ?_; rintro e w6 ⟨rfl, rfl⟩))
  go_ret
  exact ⟨rfl, hb5⟩
/-- one run of both -/
theorem exec_law (text : B) (vi : Value) (inp : List Int) (fuel room : Int) (w : World) (hf : FeedAt w vi inp) (hi : ∀ n ∈ inp, isI64 n) (hl : inp.length ≤ 1048576) (h : text.length ≤ 1048576) (E : Env w) (hp : Pow w) :
    Calls Tryz.prog 29 #[.string (bs text), vi, .int .i64 fuel, .int .i64 room] w fun e w' => e = .returned (.bool true) ∧ Below w.heap.size w w' := by
  obtain ⟨ad, c, rfl, h1, h2, h3⟩ := id hf
  cases ad with
  | none =>
    have e : inp = [] := by
      cases inp with
      | nil => rfl
      | cons z zs =>
        obtain ⟨g, f, e, -⟩ := h3 0 (by simp)
        cases e
    subst e
    exact exec_nil text c fuel room w hf h E hp
  | some a => exact exec_some text a c inp fuel room w hf hi hl h E hp
set_option maxRecDepth 20000 in
set_option maxHeartbeats 2000000 in
theorem Executed_any (one other : B) (vi vo : Value) (inp ino : List Int) (fuel room less little : Int) (w : World) (hf : FeedAt w vi inp) (hfo : FeedAt w vo ino) (hi : ∀ n ∈ inp, isI64 n) (hio : ∀ n ∈ ino, isI64 n) (hl : inp.length ≤ 1048576) (hlo : ino.length ≤ 1048576) (h1 : one.length ≤ 1048576) (h2 : other.length ≤ 1048576) (E : Env w) (hp : Pow w) :
    Calls Tryz.prog 10 #[.string (bs one), vi, .int .i64 fuel, .int .i64 room, .string (bs other), vo, .int .i64 less, .int .i64 little] w fun e w' => e = .returned (.bool true) ∧ Below w.heap.size w w' := by
  have K := fun (t : B) (v : Value) (l : List Int) (f r : Int) (ht : t.length ≤ 1048576) (hv : ∀ w', Below w.heap.size w w' → FeedAt w' v l) (hn : ∀ n ∈ l, isI64 n) (hL : l.length ≤ 1048576) (w' : World) (hb : Below w.heap.size w w') => (exec_law t v l f r w' (hv w' hb) hn hL ht (E.on hb) (hp.below hb E.size)).mono (R' := fun e w'' => e = .returned (.bool true) ∧ Below w.heap.size w w'') fun e w'' ⟨h1, h2⟩ => ⟨h1, hb.trans (h2.mono hb.size)⟩
  have F1 := fun w' (hb : Below w.heap.size w w') => feed_below hf hb (Nat.le_refl _)
  have F2 := fun w' (hb : Below w.heap.size w w') => feed_below hfo hb (Nat.le_refl _)
  have K1 := K one vi inp fuel room h1 F1 hi hl
  have K2 := K other vi inp fuel room h2 F1 hi hl
  have K3 := K one vo ino fuel room h1 F2 hio hlo
  have K4 := K one vi inp less room h1 F1 hi hl
  have K5 := K one vi inp fuel little h1 F1 hi hl
  have K7 : ∀ w', Below w.heap.size w w' → Calls Tryz.prog 29 #[.string ⟨#[108, 101, 116, 32, 110, 32, 105, 110, 116, 10, 108, 101, 116, 32, 112, 32, 98, 111, 120, 10, 98, 108, 111, 99, 107, 10, 115, 101, 116, 32, 110, 32, 53, 10, 110, 101, 119, 32, 112, 32, 110, 10, 102, 114, 101, 101, 32, 112, 10, 102, 114, 101, 101, 32, 112, 10, 101, 110, 100, 32, 110]⟩, .slice none 0 0, .int .i64 9, .int .i64 1] w' _ := K [108, 101, 116, 32, 110, 32, 105, 110, 116, 10, 108, 101, 116, 32, 112, 32, 98, 111, 120, 10, 98, 108, 111, 99, 107, 10, 115, 101, 116, 32, 110, 32, 53, 10, 110, 101, 119, 32, 112, 32, 110, 10, 102, 114, 101, 101, 32, 112, 10, 102, 114, 101, 101, 32, 112, 10, 101, 110, 100, 32, 110] (.slice none 0 0) [] 9 1 (by decide) (fun w' _ => feed_nil w') (fun n hn => by cases hn) (by decide)
  have K0 := K1 w (Below.refl _ _)
  obtain ⟨ad, c, rfl, -⟩ := hf
  obtain ⟨ado, co, rfl, -⟩ := hfo
  clear K F1 F2 hi hio hl hlo h1 h2 E hp
  go_enter Tryz.func10, Tryz.ntmps10
  go_wp2_with (first
    | (go_at_call 29; refine (K7 _ hb6).mono ?_; rintro e w7 ⟨rfl, hb7⟩)
    | (go_at_call 29; refine (K1 _ hb5).mono ?_; rintro e w6 ⟨rfl, hb6⟩; clear K1)
    | (go_at_call 29; refine (K5 _ hb4).mono ?_; rintro e w5 ⟨rfl, hb5⟩; clear K5)
    | (go_at_call 29; refine (K4 _ hb3).mono ?_; rintro e w4 ⟨rfl, hb4⟩; clear K4)
    | (go_at_call 29; refine (K3 _ hb2).mono ?_; rintro e w3 ⟨rfl, hb3⟩; clear K3)
    | (go_at_call 29; refine (K2 _ hb1).mono ?_; rintro e w2 ⟨rfl, hb2⟩; clear K2)
    | (go_at_call 29; refine K0.mono ?_; rintro e w1 ⟨rfl, hb1⟩; clear K0))
  go_ret
  exact ⟨rfl, hb7⟩
end Go.Proofs.YtmlgajhhnojdjaaGreatDoor.Ran
/- What the cards' lists give: the tables and variables that the reader asks. -/
namespace Go.Proofs.YtmlgajhhnojdjaaGreatDoor.PrjY
open Go Go.RowKit Go.Proofs.YtmlgajhhnojdjaaGreatDoor.Spec Go.Proofs.YtmlgajhhnojdjaaGreatDoor.PrjF Go.Proofs.YtmlgajhhnojdjaaGreatDoor.PrjG

section
variable {H : Type} {enc : TypeId × Value → H} {P : Program} {w : World} {base : Nat} {sp : Nat → Bool} {held : Bool} {fuel : Nat} {t : TypeId} {cs : List Value} {p : List MemPlace}
theorem trod_str {l : B} (ht : P.underlying t = some .string) (h : DataW.trod enc P w base sp held fuel t cs = some (.lit (.string l), p)) : cs = [.string (bs l)] := by
  cases fuel with
  | zero => simp [DataW.trod] at h
  | succ fuel =>
    match cs with
    | [] => simp [DataW.trod, ht] at h
    | _ :: _ :: _ => simp [DataW.trod, ht] at h
    | [c] =>
      cases c <;> simp [DataW.trod, ht] at h
      obtain ⟨-, h, -⟩ := h
      rename_i s
      rw [← h]
      simp [bs]
theorem trod_arr {n : Nat} {e : TypeId} {ds : List (DataW H)} (ht : P.underlying t = some (.array n e)) (h : DataW.trod enc P w base sp held fuel t cs = some (.agg ds, p)) :
    ∃ fuel', cs.length = P.cellsOf t ∧ ds.length = n ∧ ∀ i d, ds[i]? = some d → ∃ p', DataW.trod enc P w base sp held fuel' e ((cs.drop (i * P.cellsOf e)).take (P.cellsOf e)) = some (d, p') := by
  cases fuel with
  | zero => simp [DataW.trod] at h
  | succ fuel =>
    simp only [DataW.trod, ht] at h
    split at h
    · rename_i hl
      obtain ⟨xs, hm, hx⟩ := Option.map_eq_some_iff.1 h
      simp only [Prod.mk.injEq, DataW.agg.injEq] at hx
      have hxl : xs.length = n := by simpa using Lib.mapM_length hm
      refine ⟨fuel, hl, by rw [← hx.1]; simpa using hxl, fun i d hd => ?_⟩
      rw [← hx.1, List.getElem?_map, Option.map_eq_some_iff] at hd
      obtain ⟨y, hy, rfl⟩ := hd
      have hi : i < n := by
        rcases Nat.lt_or_ge i n with hi | hi
        · exact hi
        · rw [List.getElem?_eq_none (by omega)] at hy; cases hy
      obtain ⟨b, hb, hf⟩ := Lib.mapM_at hm i i (by simp [hi])
      rw [hy] at hb
      cases hb
      exact ⟨y.2, hf⟩
    · cases h
theorem trod_two {f0 f1 : Field} {a b : B} (ht : P.underlying t = some (.struct #[f0, f1])) (h0 : f0.offset = 0) (h1 : f1.offset = 1) (u0 : P.underlying f0.type = some .string) (u1 : P.underlying f1.type = some .string) (c0 : P.cellsOf f0.type = 1) (c1 : P.cellsOf f1.type = 1) (ct : P.cellsOf t = 2)
    (h : DataW.trod enc P w base sp held fuel t cs = some (.agg [.lit (.string a), .lit (.string b)], p)) : cs = [.string (bs a), .string (bs b)] := by
  cases fuel with
  | zero => simp [DataW.trod] at h
  | succ fuel =>
    simp only [DataW.trod, ht] at h
    split at h
    · rename_i hl
      rw [ct] at hl
      obtain ⟨xs, hm, hx⟩ := Option.map_eq_some_iff.1 h
      simp only [Prod.mk.injEq, DataW.agg.injEq] at hx
      obtain ⟨b0, hb0, hf0⟩ := Lib.mapM_at hm 0 f0 (by simp)
      obtain ⟨b1, hb1, hf1⟩ := Lib.mapM_at hm 1 f1 (by simp)
      have e0 := congrArg (·[0]?) hx.1
      have e1 := congrArg (·[1]?) hx.1
      simp only [List.getElem?_map, hb0, hb1, Option.map_some, List.getElem?_cons_zero, List.getElem?_cons_succ, Option.some.injEq] at e0 e1
      rw [h0, c0] at hf0
      rw [h1, c1] at hf1
      have g0 := trod_str (l := a) (p := b0.2) u0 (by rw [hf0, ← e0])
      have g1 := trod_str (l := b) (p := b1.2) u1 (by rw [hf1, ← e1])
      match cs, hl with
      | [x, y], _ =>
        simp only [List.drop_zero, List.take_succ_cons, List.take_zero, List.cons.injEq, and_true] at g0
        simp only [List.drop_succ_cons, List.drop_zero, List.take_succ_cons, List.take_zero, List.cons.injEq, and_true] at g1
        rw [g0, g1]
    · cases h
end
theorem flat_chunks {α : Type} (f : α → List Value) (m : Nat) (hf : ∀ x, (f x).length = m) : ∀ (l : List α) (cs : List Value), cs.length = l.length * m → (∀ i x, l[i]? = some x → (cs.drop (i * m)).take m = f x) → cs = l.flatMap f
  | [], cs, hl, _ => by simpa using hl
  | x :: l, cs, hl, h => by
    have h0 := h 0 x rfl
    rw [Nat.zero_mul, List.drop_zero] at h0
    have ih := flat_chunks f m hf l (cs.drop m) (by rw [List.length_drop, hl, List.length_cons, Nat.add_mul]; omega) (fun i y hy => by
      have := h (i + 1) y (by simpa using hy)
      rw [List.drop_drop, show m + i * m = (i + 1) * m by rw [Nat.add_mul]; omega]
      exact this)
    rw [List.flatMap_cons, ← h0, ← ih, List.take_append_drop]
theorem cells_of_var {P : Program} {w : World} {n : String} {g : Nat} {cs : Array Value} (hg : P.globalNamed n = some g) (h : w.var? P n = some cs) : (∀ j, w.cell? ⟨g, j, none⟩ = cs[j]?) ∧ g < w.heap.size := by
  unfold World.var? at h
  rw [hg] at h
  simp only [Option.bind_some] at h
  split at h
  · rename_i cs' t f hh
    cases h
    exact ⟨fun j => by simp [World.cell?, hh], by rw [Array.getElem?_eq_some_iff] at hh; exact hh.1⟩
  · cases h
theorem shapes_data {H : Type} : (Rows.laid_stow_prog_shapes : DataW H) = .agg (shapeTab.map fun x => .agg [.lit (.string x.1), .lit (.string x.2)]) := rfl
theorem types_data {H : Type} : (Rows.laid_stow_prog_typeWords : DataW H) = .agg (typeTab.map fun x => .lit (.string x)) := rfl
theorem int_of_shape {P : Program} {w : World} {g : Nat} {t : TypeId} {zero : Array Value} (h : w.ShapedOpen P) (hg : g < P.globals.size) (h0 : ((begin P (fun _ _ => 0) default).world.heap[g]?).bind Obj.row? = some (zero, t)) (hz : zero.size = 1)
    (hb : P.buildable t = true) (hc : P.cellTypes P.depth t = some [t]) (hu : P.underlying t = some (.int .i64)) : ∃ m : Int, w.cell? ⟨g, 0, none⟩ = some (.int .i64 m) := by
  obtain ⟨cs, hh, hs, hr⟩ := h.1 g zero t hg h0
  obtain ⟨ts, hts, -, hall⟩ := hr hb
  rw [hc] at hts
  cases hts
  have h1 : 0 < cs.size := by omega
  obtain ⟨u, hu', hok⟩ := hall 0 cs[0] (by simp [h1])
  have : u = t := by simpa using hu'.symm
  subst this
  have hcell : w.cell? ⟨g, 0, none⟩ = some cs[0] := by simp [World.cell?, hh, h1]
  rw [hcell]
  unfold Cell.ok at hok
  rw [hu] at hok
  cases hv : cs[0] <;> rw [hv] at hok <;> simp at hok
  rename_i k n
  obtain ⟨rfl, -⟩ := hok
  exact ⟨n, rfl⟩
theorem met_of {P : Program} {laid : List (String × DataW Unit)} {W : World} (hf : (laid.filter fun x => x.2.handleName?.isSome) = []) (h : laidMetH P laid W) : laidMet P laid W := by
  unfold laidMetH at h; rw [hf] at h; exact h
theorem laid_mem {P : Program} {w : World} {n : String} {d : DataW Unit} : ∀ {laid : List (String × DataW Unit)} {ps : List MemPlace}, DataW.LaidVars P w laid ps → (n, d) ∈ laid → ∃ g t cs fuel p, P.globalNamed n = some g ∧ (P.globals[g]?).map (·.type) = some t ∧ w.var? P n = some cs ∧ DataW.trod (fun _ => ()) P w 0 (fun _ => true) false fuel t cs.toList = some (d, p)
  | [], _, _, hm => by cases hm
  | (n', d') :: r, ps, h, hm => by
    obtain ⟨g, t, cs, fuel, p, q, h1, h2, h3, h4, h5, -⟩ := h
    rcases List.mem_cons.1 hm with e | hm
    · cases e; exact ⟨g, t, cs, fuel, p, h1, h2, h3, h4⟩
    · exact laid_mem h5 hm
theorem name_shapes : Tryz.prog.globalNamed "stow/prog.shapes" = some 0 := by kernel_rfl
theorem name_types : Tryz.prog.globalNamed "stow/prog.typeWords" = some 1 := by kernel_rfl
theorem name_syn : Tryz.prog.globalNamed "strconv.ErrSyntax" = some 9 := by kernel_rfl
theorem name_rng : Tryz.prog.globalNamed "strconv.ErrRange" = some 10 := by kernel_rfl
theorem type_shapes : (Tryz.prog.globals[0]?).map (·.type) = some 148 := by kernel_rfl
theorem type_types : (Tryz.prog.globals[1]?).map (·.type) = some 149 := by kernel_rfl
theorem type_syn : (Tryz.prog.globals[9]?).map (·.type) = some 221 := by kernel_rfl
theorem type_rng : (Tryz.prog.globals[10]?).map (·.type) = some 221 := by kernel_rfl
theorem cells_shapes : Tryz.prog.cellsOf 148 = 46 := by kernel_rfl
theorem cells_shape : Tryz.prog.cellsOf 147 = 2 := by kernel_rfl
theorem cells_types : Tryz.prog.cellsOf 149 = 4 := by kernel_rfl
theorem cells_string : Tryz.prog.cellsOf 9 = 1 := by kernel_rfl
theorem many : Tryz.prog.globals.size = 11 := by kernel_rfl
/-- what the list of a row gives the reader -/
theorem env_of {laid : List (String × DataW Unit)} {W : World} (hL : laidMet Tryz.prog laid W) (hsh : W.ShapedOpen Tryz.prog) (m1 : ("stow/prog.shapes", Rows.laid_stow_prog_shapes) ∈ laid) (m2 : ("stow/prog.typeWords", Rows.laid_stow_prog_typeWords) ∈ laid)
    (m3 : ("strconv.ErrSyntax", Rows.laid_strconv_ErrSyntax) ∈ laid) (m4 : ("strconv.ErrRange", Rows.laid_strconv_ErrRange) ∈ laid) : Env W := by
  obtain ⟨ps, hV, -⟩ := hL
  refine ⟨?_, ?_, ?_, ?_, ?_, ?_⟩
  · obtain ⟨g, t, cs, fuel, p, h1, h2, h3, h4⟩ := laid_mem hV m1
    rw [name_shapes] at h1
    cases h1
    rw [type_shapes] at h2
    cases h2
    rw [shapes_data] at h4
    obtain ⟨fuel', hl, hn, hi⟩ := trod_arr Tryz.underlying148 h4
    rw [cells_shapes] at hl
    have hcs : cs.toList = shapeCells := by
      refine flat_chunks (fun x : B × B => [.string (bs x.1), .string (bs x.2)]) 2 (fun _ => rfl) shapeTab cs.toList hl fun i x hx => ?_
      obtain ⟨p', hp'⟩ := hi i (.agg [.lit (.string x.1), .lit (.string x.2)]) (by rw [List.getElem?_map, hx]; rfl)
      rw [cells_shape] at hp'
      exact trod_two Tryz.underlying147 rfl rfl Tryz.underlying9 Tryz.underlying9 cells_string cells_string cells_shape hp'
    obtain ⟨hc, -⟩ := cells_of_var name_shapes h3
    intro j v hv
    rw [Nat.zero_add, hc, ← Array.getElem?_toList, hcs]
    exact hv
  · obtain ⟨g, t, cs, fuel, p, h1, h2, h3, h4⟩ := laid_mem hV m2
    rw [name_types] at h1
    cases h1
    rw [type_types] at h2
    cases h2
    rw [types_data] at h4
    obtain ⟨fuel', hl, hn, hi⟩ := trod_arr Tryz.underlying149 h4
    rw [cells_types] at hl
    have hcs : cs.toList = typeTab.flatMap (fun x : B => [.string (bs x)]) := by
      refine flat_chunks (fun x : B => [.string (bs x)]) 1 (fun _ => rfl) typeTab cs.toList hl fun i x hx => ?_
      obtain ⟨p', hp'⟩ := hi i (.lit (.string x)) (by rw [List.getElem?_map, hx]; rfl)
      rw [cells_string] at hp'
      exact trod_str Tryz.underlying9 hp'
    obtain ⟨hc, -⟩ := cells_of_var name_types h3
    intro j v hv
    rw [Nat.zero_add, hc, ← Array.getElem?_toList, hcs]
    exact hv
  · exact int_of_shape hsh (by rw [many]; decide) (g := 3) (t := 3) (zero := #[.int .i64 0]) (by kernel_rfl) rfl (by kernel_rfl) (by kernel_rfl) Tryz.underlying3
  · obtain ⟨g, t, cs, fuel, p, h1, h2, h3, h4⟩ := laid_mem hV m3
    rw [name_syn] at h1
    cases h1
    rw [type_syn] at h2
    cases h2
    obtain ⟨fuel', u, v, hcs, -⟩ := iface_of_trod Tryz.underlying221 h4
    obtain ⟨hc, -⟩ := cells_of_var name_syn h3
    exact ⟨u, v, by rw [hc, ← Array.getElem?_toList, hcs]; rfl⟩
  · obtain ⟨g, t, cs, fuel, p, h1, h2, h3, h4⟩ := laid_mem hV m4
    rw [name_rng] at h1
    cases h1
    rw [type_rng] at h2
    cases h2
    obtain ⟨fuel', u, v, hcs, -⟩ := iface_of_trod Tryz.underlying221 h4
    obtain ⟨hc, -⟩ := cells_of_var name_rng h3
    exact ⟨u, v, by rw [hc, ← Array.getElem?_toList, hcs]; rfl⟩
  · obtain ⟨g, t, cs, fuel, p, h1, h2, h3, h4⟩ := laid_mem hV m4
    have := (cells_of_var name_rng h3).2
    omega
end Go.Proofs.YtmlgajhhnojdjaaGreatDoor.PrjY
/- What the cards' lists and arguments give besides: the table of powers; a list of numbers in memory. -/
namespace Go.Proofs.YtmlgajhhnojdjaaGreatDoor.PrjY
open Go Go.RowKit Go.Proofs.YtmlgajhhnojdjaaGreatDoor.Spec Go.Proofs.YtmlgajhhnojdjaaGreatDoor.Own

theorem type_pow : (Tryz.prog.globals[4]?).map (·.type) = some 299 := by kernel_rfl
theorem pow_data {H : Type} : (Rows.laid_internal_strconv_uint64pow10 : DataW H) = Lib.tabData .u64 Lib.pow10Tab := rfl
theorem cells_u64 : Tryz.prog.cellsOf 281 = 1 := by kernel_rfl
theorem cells_pow : Tryz.prog.cellsOf 299 = 20 := by kernel_rfl
theorem cells_i64 : Tryz.prog.cellsOf 2 = 1 := by kernel_rfl
theorem pow_of {laid : List (String × DataW Unit)} {W : World} (hL : laidMet Tryz.prog laid W) (m : ("internal/strconv.uint64pow10", Rows.laid_internal_strconv_uint64pow10) ∈ laid) : Own.Pow W := by
  obtain ⟨ps, hV, -⟩ := hL
  obtain ⟨g, t, cs, fuel, p, h1, h2, h3, h4⟩ := laid_mem hV m
  rw [pow_at] at h1
  cases h1
  rw [type_pow] at h2
  cases h2
  rw [pow_data] at h4
  have := Lib.cells_of_tab Tryz.underlying299 Tryz.underlying281 cells_u64 cells_pow h4
  unfold Own.Pow Lib.TabIs
  rw [h3, ← this]
theorem lt_of_cell {W : World} {g o : Nat} {v : Value} (h : W.cell? ⟨g, o, none⟩ = some v) : g < W.heap.size := by
  by_cases hg : g < W.heap.size
  · exact hg
  · rw [World.cell?] at h
    simp only [Array.getElem?_eq_none (Nat.le_of_not_lt hg)] at h
    cases h
theorem isI64_of {n : Int} (h : (Lit.int .i64 n).wf = true) : isI64 n := by
  have e1 : IntKind.i64.min = -9223372036854775808 := rfl
  have e2 : IntKind.i64.max = 9223372036854775807 := rfl
  unfold isI64; simpa [Lit.wf, e1, e2] using h
/-- a list of numbers that came in -/
theorem feed_open {H : Type} {enc : TypeId × Value → H} {W : World} {a0 : Option Addr} {len cap fuel : Nat} {x : DataW H × List MemPlace} (h : DataW.trod enc Tryz.prog W 0 (fun _ => true) true fuel 42 [.slice a0 len cap] = some x) : ∃ inp, FeedAt W (.slice a0 len cap) inp ∧ ∀ n ∈ inp, isI64 n := by
  rcases Go.ChangeShapes.open_ints Tryz.underlying42 Tryz.underlying2 cells_i64 h with ⟨h0, -⟩ | ⟨a, len', cap', zs, h0, -, hl, hm, hzl, -, hx, hwf⟩
  · simp only [List.cons.injEq, Value.slice.injEq, and_true] at h0
    obtain ⟨rfl, rfl, rfl⟩ := h0
    exact ⟨[], ⟨none, 0, rfl, Nat.le_refl _, Nat.zero_le _, fun j hj => absurd hj (Nat.not_lt_zero _)⟩, fun n hn => by cases hn⟩
  · simp only [List.cons.injEq, Value.slice.injEq, and_true] at h0
    obtain ⟨rfl, rfl, rfl⟩ := h0
    simp only [if_true] at hzl
    have htl : (zs.take len).length = len := by rw [List.length_take]; omega
    refine ⟨zs.take len, ⟨some a, cap, by rw [htl], by rw [htl]; exact hl, hm, fun j hj => ?_⟩, fun n hn => isI64_of (hwf n (List.mem_of_mem_take hn))⟩
    rw [htl] at hj
    obtain ⟨b, off, spot⟩ := a
    have hc := hx j (by omega)
    have hspot : spot = none := by simpa [Addr.add] using World.cell?_spot (hx 0 (by omega))
    subst hspot
    have hc' : W.cell? ⟨b, off + j, none⟩ = some (.int .i64 (zs.getD j 0)) := by
      by_cases e : j = 0
      · subst e; simpa [Addr.add] using hc
      · simpa [Addr.add, e] using hc
    refine ⟨b, off, rfl, lt_of_cell hc', ?_⟩
    rw [hc', List.getD_eq_getElem?_getD, List.getD_eq_getElem?_getD, List.getElem?_take_of_lt hj]
end Go.Proofs.YtmlgajhhnojdjaaGreatDoor.PrjY
/- What a card's bulk says of a list of numbers that came in: it is no longer than that. -/
namespace Go.Proofs.YtmlgajhhnojdjaaGreatDoor.PrjY
open Go Go.RowKit Go.Proofs.YtmlgajhhnojdjaaGreatDoor.Spec Go.Proofs.YtmlgajhhnojdjaaGreatDoor.Own

theorem bulk_lits {H : Type} : ∀ zs : List Int, Rows.uptoBulkAll (Go.ChangeShapes.lits (H := H) .i64 zs) = zs.length
  | [] => by simp [Go.ChangeShapes.lits, Rows.uptoBulkAll]
  | z :: zs => by
    have := bulk_lits (H := H) zs
    simp only [Go.ChangeShapes.lits, List.map_cons, Rows.uptoBulkAll, Rows.uptoBulk, List.length_cons] at this ⊢
    omega
/-- a list of numbers that came in, and its length -/
theorem feed_bulk {H : Type} {enc : TypeId × Value → H} {W : World} {a0 : Option Addr} {len cap fuel : Nat} {x : DataW H × List MemPlace} (h : DataW.trod enc Tryz.prog W 0 (fun _ => true) true fuel 42 [.slice a0 len cap] = some x) : len ≤ Rows.uptoBulk x.1 := by
  rcases Go.ChangeShapes.open_ints Tryz.underlying42 Tryz.underlying2 cells_i64 h with ⟨h0, -⟩ | ⟨a, len', cap', zs, h0, -, hl, hm, hzl, rfl, hx, hwf⟩
  · simp only [List.cons.injEq, Value.slice.injEq, and_true] at h0
    omega
  · simp only [List.cons.injEq, Value.slice.injEq, and_true] at h0
    obtain ⟨rfl, rfl, rfl⟩ := h0
    simp only [if_true] at hzl
    have htl : (zs.take len).length = len := by rw [List.length_take]; omega
    simp only [Rows.uptoBulk, bulk_lits]
    omega
end Go.Proofs.YtmlgajhhnojdjaaGreatDoor.PrjY
/- A world in which the tables lie as start-up lays them: the witness that the cards ask. -/
namespace Go.Proofs.YtmlgajhhnojdjaaGreatDoor.PrjZ
open Go Go.RowKit Go.Proofs.YtmlgajhhnojdjaaGreatDoor.Spec

/-- plain data, cell by cell -/
def flatD {H : Type} : Nat → DataW H → List Value
  | 0, _ => []
  | _ + 1, .lit (.int k n) => [.int k n]
  | _ + 1, .lit (.string l) => [.string (bs l)]
  | n + 1, .agg ds => ds.flatMap (flatD n)
  | _ + 1, _ => []
def put (g : Nat) (cs : List Value) (h : Array Obj) : Array Obj := h.modify g fun
  | .cells _ t frozen => .cells cs.toArray t frozen
  | o => o
noncomputable def low : Nat := (World.holding Tryz.prog default ⟨#[], #[], []⟩).heap.size
noncomputable def laidWorld (os : Os) : World :=
  let w0 := World.holding Tryz.prog os ⟨#[.cells #[.string (bs [118, 97, 108, 117, 101, 32, 111, 117, 116, 32, 111, 102, 32, 114, 97, 110, 103, 101])] 327, .cells #[.string (bs [105, 110, 118, 97, 108, 105, 100, 32, 115, 121, 110, 116, 97, 120])] 327], #[], []⟩
  { w0 with heap := put 0 (flatD 8 (Rows.laid_stow_prog_shapes (H := Unit))) (put 1 (flatD 8 (Rows.laid_stow_prog_typeWords (H := Unit))) (put 2 (flatD 8 (Rows.laid_stow_prog_suffixes (H := Unit)))
      (put 4 (flatD 8 (Rows.laid_internal_strconv_uint64pow10 (H := Unit))) (put 5 (flatD 8 Rows.laid_unicode_utf8_first) (put 6 (flatD 8 (Rows.laid_unicode_utf8_acceptRanges (H := Unit)))
      (put 7 (flatD 8 (Rows.laid_math_bits_deBruijn32tab (H := Unit))) (put 8 (flatD 8 (Rows.laid_math_bits_deBruijn64tab (H := Unit)))
      (put 10 [.iface 325 (.pointer (some ⟨low, 0, none⟩))] (put 9 [.iface 325 (.pointer (some ⟨low + 1, 0, none⟩))] w0.heap))))))))) }
theorem laid_met (os : Os) (args : Array Value) : laidMet Tryz.prog Rows.lookedUptoRow.laid ((laidWorld os).forCall (fun _ _ => 0) ⟨#[], args, []⟩).memory :=
  laidMet_of_run' 8 (by kernel_rfl) (by kernel_rfl)
end Go.Proofs.YtmlgajhhnojdjaaGreatDoor.PrjZ
