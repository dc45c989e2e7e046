/- The law Fueled, walked: more fuel goes on where less has stopped. For texts of at most 2^20 letters, in every world that holds the tables. -/
import Derived.Test.YtmlgajhhnojdjaaGreatDoorFBP
import Derived.Test.YtmlgajhhnojdjaaGreatDoorRows
import Derived.Test.YtmlgajhhnojdjaaGreatDoorFAH
import Derived.LaidLaws
import Derived.Lib.LaidTab
import Derived.ShapedOpen
import Derived.Test.YtmlgajhhnojdjaaGreatDoorFAP
import Derived.Deep.Slices
import Derived.OpenShut
import Derived.ChangeSlices
import Derived.WalkKit
import Derived.ProofKit
namespace Go.Proofs.YtmlgajhhnojdjaaGreatDoor.RunB
open Go Go.RowKit Go.Proofs.YtmlgajhhnojdjaaGreatDoor.Spec Go.Proofs.YtmlgajhhnojdjaaGreatDoor.Aux Go.Proofs.YtmlgajhhnojdjaaGreatDoor.Own Go.Proofs.YtmlgajhhnojdjaaGreatDoor.RunA Go.Proofs.YtmlgajhhnojdjaaGreatDoor.PrjG Go.Proofs.YtmlgajhhnojdjaaGreatDoor.PrjJ Go.Proofs.YtmlgajhhnojdjaaGreatDoor.PrjK Go.Proofs.YtmlgajhhnojdjaaGreatDoor.PrjM Go.Proofs.YtmlgajhhnojdjaaGreatDoor.PrjS Go.Proofs.YtmlgajhhnojdjaaGreatDoor.FlwZ Go.Proofs.YtmlgajhhnojdjaaGreatDoor.FlwZa Go.Proofs.YtmlgajhhnojdjaaGreatDoor.MadC Go.Proofs.YtmlgajhhnojdjaaGreatDoor.MadE

/-- a run stays within bounds -/
theorem run_in (q : QP) (room : Int) (h12 : q.locals.length ≤ 12) (hq : ∀ j, ∀ l ∈ q.blocks.getD j [], isI64 l.number) : ∀ (f : Nat) (ls : List QLine) (o : Go.Proofs.YtmlgajhhnojdjaaGreatDoor.Own.Own) (ans : Nat × Int × Go.Proofs.YtmlgajhhnojdjaaGreatDoor.Own.Own) (t : Nat), (∀ l ∈ ls, isI64 l.number) → o.In t → t + 3 * f + 24 ≤ 1000000 → runO q room f ls o = some ans → ans.2.2.In (t + 3 * f + 24)
  | f, [], o, ans, t, _, _, _, h => by cases f <;> simp [runO] at h
  | 0, l :: ls, o, ans, t, _, hI, _, h => by
    rw [runO] at h; cases h; exact hI.mono (by omega)
  | f + 1, l :: ls, o, ans, t, hl, hI, ht, h => by
    have hl' : ∀ m ∈ ls, isI64 m.number := fun m hm => hl m (List.mem_cons_of_mem _ hm)
    rw [runO] at h
    split at h
    · split at h
      · cases h; exact hI.mono (by omega)
      · exact (run_in q room h12 hq f ls (o.calc l) ans t hl' (hI.setInt _ (calc_i64 _ _ _)) (by omega) h).mono (by omega)
    · split at h
      · have hd := hI.drop [plOf l 0] (by simp; omega)
        split at h
        · cases h; exact hd.mono (by simp; omega)
        · exact (run_in q room h12 hq f ls _ ans (t + 1 + 1) hl' (hd.new (by simp; omega) _ (hI.num _)) (by omega) h).mono (by omega)
      · split at h
        · split at h
          · exact (run_in q room h12 hq f _ o ans t (hq _) hI (by omega) h).mono (by omega)
          · cases h
        · split at h
          · cases h; exact (hI.dropAll q q.locals.length (by omega)).mono (by omega)
          · split at h
            · exact (run_in q room h12 hq f ls _ ans (t + 3) hl' (hI.do1 (by omega) q l (hl l (List.mem_cons_self ..))) (by omega) h).mono (by omega)
            · cases h
theorem Good.nums {text : B} {q : QP} (h : Good text q) : ∀ j, ∀ l ∈ q.blocks.getD j [], isI64 l.number := fun j l hl => by
  obtain ⟨p, E, -, hD, -⟩ := h.done
  have := (hD.both.qok.lines _ (getD_memB hl) l hl).number
  unfold isI64; omega
theorem Good.twelve {text : B} {q : QP} (h : Good text q) : q.locals.length ≤ 12 := by
  obtain ⟨p, E, -, hD, -⟩ := h.done
  exact hD.both.twelve
theorem run_short {text : B} {q : QP} (h : Good text q) {inp : List Int} (hi : ∀ n ∈ inp, isI64 n) {room : Int} {f : Nat} (hf : f ≤ 1000) {ans : Nat × Int × Go.Proofs.YtmlgajhhnojdjaaGreatDoor.Own.Own} (hr : runO q room f (q.blocks.getD 0 []) (Own.start inp) = some ans) : ans.2.2.In 3024 ∧ ans.2.2.yd.text.length ≤ 93744 := by
  have hI := (run_in q room h.twelve h.nums f _ _ ans 0 (h.nums 0) (Own.In.start hi) (by omega) hr).mono (show 0 + 3 * f + 24 ≤ 3024 by omega)
  refine ⟨hI, ?_⟩
  have h1 := join_len _ hI.words
  have h2 := hI.trace
  unfold Yd.text
  omega
/-- two runs of one program -/
theorem fuel_two {text : B} {inp : List Int} {n m k : Int} {va vb : Value} {ca ka cb kb : Int} (hi : ∀ x ∈ inp, isI64 x) (ha : RunIs text inp n k va ca ka) (hb : RunIs text inp (n + m) k vb cb kb) (h1 : mayRun inp n k) (h2 : mayRun inp (n + m) k) (hm : 0 ≤ m) :
    ca = cb ∧ (¬ ca = 0 ∧ va = zeroRes ∧ vb = zeroRes ∨ ca = 0 ∧ ∃ a b : Nat × Int × Go.Proofs.YtmlgajhhnojdjaaGreatDoor.Own.Own, va = resV a ∧ vb = resV b ∧ a.2.2.yd.text <+: b.2.2.yd.text ∧ (a.1 = 2 ∨ a = b) ∧ b.2.2.yd.text.length ≤ 93744) := by
  have e := (chk_det (ha.chk h1) (hb.chk h2)).1
  subst e
  refine ⟨rfl, ?_⟩
  rcases ha with ⟨-, h3, rfl⟩ | ⟨-, h3, -⟩ | ⟨-, rfl, rfl, q, a, hg, hr, rfl⟩
  · rcases hb with ⟨-, -, rfl⟩ | ⟨-, h4, -⟩ | ⟨-, h4, -⟩
    · exact .inl ⟨h3, rfl, rfl⟩
    · exact absurd h2 h4
    · exact absurd h4 h3
  · exact absurd h1 h3
  · rcases hb with ⟨-, h4, -⟩ | ⟨-, h4, -⟩ | ⟨-, -, -, q', b, hg', hr', rfl⟩
    · exact absurd rfl h4
    · exact absurd h2 h4
    · obtain rfl := hg.one hg'
      obtain ⟨-, h5, h6, -, -⟩ := h1
      obtain ⟨-, h7, h8, -, -⟩ := h2
      rw [show (n + m).toNat = n.toNat + m.toNat by omega] at hr'
      obtain ⟨h9, h10⟩ := run_more q k m.toNat n.toNat _ _ a b hr hr'
      exact .inr ⟨rfl, a, b, rfl, rfl, text_pre h9, h10, (run_short hg hi (by omega) hr').2⟩
theorem RunIs.form {text : B} {inp : List Int} {fuel room : Int} {v : Value} {c k : Int} (h : RunIs text inp fuel room v c k) : ∃ (o x : Int) (t : B) (l : Int), v = .agg #[.int .i64 o, .int .i64 x, .string (bs t), .int .i64 l] := by
  rcases h with ⟨-, -, rfl⟩ | ⟨-, -, rfl, -⟩ | ⟨-, -, -, q, ans, -, -, rfl⟩
  · exact ⟨0, 0, [], 0, rfl⟩
  · exact ⟨0, 0, [], 0, rfl⟩
  · exact ⟨_, _, _, _, rfl⟩
/-- Run, its answer laid out -/
theorem SRun_laid (text : B) (vi : Value) (inp : List Int) (fuel room : Int) (w : World) (hf : FeedAt w vi inp) (hinp : ∀ n ∈ inp, isI64 n) (h : text.length ≤ 1048576) (E : Env w) (hp : Pow w) :
    Calls Tryz.prog 23 #[.string (bs text), vi, .int .i64 fuel, .int .i64 room] w fun e w' => (∃ (o x : Int) (t : B) (l c k : Int), Hid (RunIs text inp fuel room (.agg #[.int .i64 o, .int .i64 x, .string (bs t), .int .i64 l]) c k) ∧ e = .returned (.tuple #[.agg #[.int .i64 o, .int .i64 x, .string (bs t), .int .i64 l], .int .i64 c, .int .i64 k])) ∧ Below w.heap.size w w' := by
  refine (SRun_any text vi inp fuel room w hf hinp h E hp).mono ?_
  rintro e w' ⟨⟨v, c, k, hr, rfl⟩, hb⟩
  obtain ⟨o, x, t, l, rfl⟩ := hr.out.form
  exact ⟨⟨o, x, t, l, c, k, hr, rfl⟩, hb⟩
theorem laid_one {w4 w6 : World} {x : Obj} (hb : Below (w4.alloc x).heap.size (w4.alloc x) w6) : w6.heap[w4.heap.size]? = some x ∧ w4.heap.size < w6.heap.size := by
  have h : (w4.alloc x).heap[w4.heap.size]? = some x := Array.getElem?_push_size
  have hs := hb.size
  have e : (w4.alloc x).heap.size = w4.heap.size + 1 := by simp
  exact ⟨by rw [hb.block _ (by omega)]; exact h, by omega⟩
theorem laid_two {w4 w6 : World} {x y : Obj} (hb : Below (w4.alloc x).heap.size (w4.alloc x) w6) : (w6.alloc y).heap[w4.heap.size]? = some x := by
  have h : (w4.alloc x).heap[w4.heap.size]? = some x := Array.getElem?_push_size
  have hs := hb.size
  have e : (w4.alloc x).heap.size = w4.heap.size + 1 := by simp
  show (w6.heap.push y)[w4.heap.size]? = _
  rw [Array.getElem?_push_lt (by omega)]
  rw [← h, ← hb.block _ (by omega), Array.getElem?_eq_getElem (by omega)]
set_option maxRecDepth 20000 in
set_option maxHeartbeats 1000000 in
theorem Fueled_any (text : B) (vi : Value) (inp : List Int) (fuel more room : Int) (w : World) (h1 : isI64 fuel) (h2 : isI64 more) (h3 : isI64 room) (hf : FeedAt w vi inp) (hinp : ∀ n ∈ inp, isI64 n) (h : text.length ≤ 1048576) (E : Env w) (hp : Pow w) :
    Calls Tryz.prog 8 #[.string (bs text), vi, .int .i64 fuel, .int .i64 more, .int .i64 room] w fun e w' => e = .returned (.bool true) ∧ Below w.heap.size w w' := by
  have KA := awake_any w E hp
  have KN : ∀ w', Calls Tryz.prog 16 #[.int .i64 fuel, .int .i64 1001] w' fun e w'' => e = .returned (.int .i64 (pickN fuel 1001 : Nat)) ∧ w'' = w' := fun w' => pick_any fuel 1001 w' h1 (by decide)
  have KK : ∀ w', Calls Tryz.prog 16 #[.int .i64 room, .int .i64 51] w' fun e w'' => e = .returned (.int .i64 (pickN room 51 : Nat)) ∧ w'' = w' := fun w' => pick_any room 51 w' h3 (by decide)
  have hn := pickN_lt fuel (n := 1001) (by decide)
  have hk := pickN_lt room (n := 51) (by decide)
  generalize pickN fuel 1001 = n at *
  generalize pickN room 51 = k at *
  have KM : ∀ w', Calls Tryz.prog 16 #[.int .i64 more, .int .i64 (1001 - (n : Int))] w' fun e w'' => e = .returned (.int .i64 (pickN more (1001 - n) : Nat)) ∧ w'' = w' := fun w' => by
    have := pick_any more (1001 - n) w' h2 (by omega)
    rwa [show ((1001 - n : Nat) : Int) = 1001 - (n : Int) by omega] at this
  have hm := pickN_lt more (n := 1001 - n) (by omega)
  generalize pickN more (1001 - n) = m at *
  have hi' : ∀ x ∈ inp.take 100, isI64 x := fun x hx => hinp x (List.mem_of_mem_take hx)
  have hl100 : (inp.take 100).length ≤ 100 := by rw [List.length_take]; omega
  have HM1 : Hid (mayRun (inp.take 100) (n : Int) (k : Int)) := ⟨hl100, by omega, by omega, by omega, by omega⟩
  have HM2 : Hid (mayRun (inp.take 100) ((n : Int) + (m : Int)) (k : Int)) := ⟨hl100, by omega, by omega, by omega, by omega⟩
  have KS : ∀ w', Below w.heap.size w w' → Calls Tryz.prog 26 #[vi] w' _ := fun w' hb => some_any w' vi inp (feed_below hf hb (Nat.le_refl _))
  have KR : ∀ (x : Int) w' v, Below w.heap.size w w' → FeedAt w' v (inp.take 100) → Calls Tryz.prog 23 #[.string (bs text), v, .int .i64 x, .int .i64 (k : Int)] w' _ := fun x w' v hb hv => SRun_laid text v (inp.take 100) x k w' hv hi' h (E.on hb) (hp.below hb E.size)
  have KT := fun (a b : B) w' (h : a <+: b) (hl : b.length ≤ 93744) => starts_pre a b w' h (by omega)
  clear h1 h2 h3 hf hinp h E hp
  go_enter Tryz.func8, Tryz.ntmps8
  go_upto_region 7 with (first
    | (go_at_call 25; refine KA.mono ?_; rintro e w1 ⟨rfl, hb1⟩)
    | (go_at_call 16; refine (KN _).mono ?_; rintro e w2 ⟨rfl, rfl⟩; clear KN)
    | (go_at_call 16; refine (KM _).mono ?_; rintro e w2 ⟨rfl, rfl⟩; clear KM)
    | (go_at_call 16; refine (KK _).mono ?_; rintro e w2 ⟨rfl, rfl⟩)
    | (go_at_call 26; have _ := hb5; refine (KS _ hb5).mono ?_; rintro e w2 ⟨⟨v5, rfl, hv5⟩, rfl⟩)
    | (go_at_call 26; refine (KS _ hb1).mono ?_; rintro e w2 ⟨⟨v3, rfl, hv3⟩, rfl⟩)
    | (go_at_call 23; have _ := hv5; refine (KR _ _ _ hb5 hv5).mono ?_; rintro e w6 ⟨⟨ob, xb, tb, lb, cb, kb, hRb, rfl⟩, hb6⟩; have hra := laid_two (y := .cells #[.int .i64 ob, .int .i64 xb, .string (bs tb), .int .i64 lb] 47) hb6; obtain ⟨a0, a1, a2, a3, -⟩ := res_facts hra; obtain ⟨hra6, hlt6⟩ := laid_one hb6; obtain ⟨q0, q1, q2, q3, -⟩ := res_facts hra6)
    | (go_at_call 23; refine (KR _ _ _ hb1 hv3).mono ?_; rintro e w4 ⟨⟨oa, xa, ta, la, ca, ka, hRa, rfl⟩, hb4⟩; have hb5 := hb1.trans ((hb4.alloc hb4.size (.cells #[.int .i64 oa, .int .i64 xa, .string (bs ta), .int .i64 la] 47)).mono hb1.size)))
  have HBZ : Hid (Below w.heap.size w (w6.alloc (.cells #[.int .i64 ob, .int .i64 xb, .string (bs tb), .int .i64 lb] 47))) := hb5.trans ((hb6.alloc hb6.size _).mono hb5.size)
  obtain ⟨rfl, hcs⟩ := fuel_two hi' hRa.out hRb.out HM1.out HM2.out (by omega)
  clear HM1 HM2 hRa hRb hb5 hb6 hb4 hb1 hv3 hv5 hra hra6 KS KR KK KA
  rcases hcs with ⟨hc, -, -⟩ | ⟨rfl, a, b, ea, eb, hpre, hsame, hlen⟩
  · have cb : (ca == 0) = false := by rw [beq_eq_false_iff_ne]; exact hc
    have cc : (ca == ca) = true := by simp
    clear hc
    go_wp2
    go_ret
    exact ⟨rfl, HBZ.out⟩
  · simp only [resV, Value.agg.injEq, Array.mk.injEq, List.cons.injEq, Value.int.injEq, Value.string.injEq, true_and, and_true] at ea eb
    obtain ⟨rfl, rfl, eta, rfl⟩ := ea
    obtain ⟨rfl, rfl, etb, rfl⟩ := eb
    have HT : ∀ W, Calls Tryz.prog 27 #[.string (bs tb), .string (bs ta)] W fun e w' => e = .returned (.bool true) ∧ w' = W := fun W => by rw [eta, etb]; exact KT _ _ W hpre hlen
    have hs2 : a.1 = 2 ∨ ¬ a.1 = 2 ∧ a = b := by
      rcases hsame with e | e
      · exact .inl e
      · by_cases e2 : a.1 = 2
        · exact .inl e2
        · exact .inr ⟨e2, e⟩
    clear hsame
    rcases hs2 with h2 | ⟨h2, rfl⟩
    · have b2 : (((a.1 : Nat) : Int) == 2) = true := by rw [h2]; rfl
      clear h2 hpre hlen KT eta etb
      go_wp2_with (go_at_call 27; refine (HT _).mono ?_; rintro e w7 ⟨rfl, rfl⟩)
      go_ret
      exact ⟨rfl, HBZ.out⟩
    · obtain rfl : ta = tb := by have := congrArg ByteArray.toList (eta.trans etb.symm); rwa [toList_bs, toList_bs] at this
      have b1 : (((a.1 : Nat) : Int) == ((a.1 : Nat) : Int)) = true := by simp
      have b2 : (((a.1 : Nat) : Int) == 2) = false := by rw [beq_eq_false_iff_ne]; omega
      clear h2 hpre hlen KT eta etb
      go_wp2_with (go_at_call 27; refine (HT _).mono ?_; rintro e w7 ⟨rfl, rfl⟩)
      all_goals
        go_ret
        exact ⟨rfl, HBZ.out⟩
end Go.Proofs.YtmlgajhhnojdjaaGreatDoor.RunB
/- What the cards' lists give: the tables and variables that the reader asks. -/
namespace Go.Proofs.YtmlgajhhnojdjaaGreatDoor.PrjY
open Go Go.RowKit Go.Proofs.YtmlgajhhnojdjaaGreatDoor.Spec Go.Proofs.YtmlgajhhnojdjaaGreatDoor.PrjF Go.Proofs.YtmlgajhhnojdjaaGreatDoor.PrjG

section
variable {H : Type} {enc : TypeId × Value → H} {P : Program} {w : World} {base : Nat} {sp : Nat → Bool} {held : Bool} {fuel : Nat} {t : TypeId} {cs : List Value} {p : List MemPlace}
theorem trod_str {l : B} (ht : P.underlying t = some .string) (h : DataW.trod enc P w base sp held fuel t cs = some (.lit (.string l), p)) : cs = [.string (bs l)] := by
  cases fuel with
  | zero => simp [DataW.trod] at h
  | succ fuel =>
    match cs with
    | [] => simp [DataW.trod, ht] at h
    | _ :: _ :: _ => simp [DataW.trod, ht] at h
    | [c] =>
      cases c <;> simp [DataW.trod, ht] at h
      obtain ⟨-, h, -⟩ := h
      rename_i s
      rw [← h]
      simp [bs]
theorem trod_arr {n : Nat} {e : TypeId} {ds : List (DataW H)} (ht : P.underlying t = some (.array n e)) (h : DataW.trod enc P w base sp held fuel t cs = some (.agg ds, p)) :
    ∃ fuel', cs.length = P.cellsOf t ∧ ds.length = n ∧ ∀ i d, ds[i]? = some d → ∃ p', DataW.trod enc P w base sp held fuel' e ((cs.drop (i * P.cellsOf e)).take (P.cellsOf e)) = some (d, p') := by
  cases fuel with
  | zero => simp [DataW.trod] at h
  | succ fuel =>
    simp only [DataW.trod, ht] at h
    split at h
    · rename_i hl
      obtain ⟨xs, hm, hx⟩ := Option.map_eq_some_iff.1 h
      simp only [Prod.mk.injEq, DataW.agg.injEq] at hx
      have hxl : xs.length = n := by simpa using Lib.mapM_length hm
      refine ⟨fuel, hl, by rw [← hx.1]; simpa using hxl, fun i d hd => ?_⟩
      rw [← hx.1, List.getElem?_map, Option.map_eq_some_iff] at hd
      obtain ⟨y, hy, rfl⟩ := hd
      have hi : i < n := by
        rcases Nat.lt_or_ge i n with hi | hi
        · exact hi
        · rw [List.getElem?_eq_none (by omega)] at hy; cases hy
      obtain ⟨b, hb, hf⟩ := Lib.mapM_at hm i i (by simp [hi])
      rw [hy] at hb
      cases hb
      exact ⟨y.2, hf⟩
    · cases h
theorem trod_two {f0 f1 : Field} {a b : B} (ht : P.underlying t = some (.struct #[f0, f1])) (h0 : f0.offset = 0) (h1 : f1.offset = 1) (u0 : P.underlying f0.type = some .string) (u1 : P.underlying f1.type = some .string) (c0 : P.cellsOf f0.type = 1) (c1 : P.cellsOf f1.type = 1) (ct : P.cellsOf t = 2)
    (h : DataW.trod enc P w base sp held fuel t cs = some (.agg [.lit (.string a), .lit (.string b)], p)) : cs = [.string (bs a), .string (bs b)] := by
  cases fuel with
  | zero => simp [DataW.trod] at h
  | succ fuel =>
    simp only [DataW.trod, ht] at h
    split at h
    · rename_i hl
      rw [ct] at hl
      obtain ⟨xs, hm, hx⟩ := Option.map_eq_some_iff.1 h
      simp only [Prod.mk.injEq, DataW.agg.injEq] at hx
      obtain ⟨b0, hb0, hf0⟩ := Lib.mapM_at hm 0 f0 (by simp)
      obtain ⟨b1, hb1, hf1⟩ := Lib.mapM_at hm 1 f1 (by simp)
      have e0 := congrArg (·[0]?) hx.1
      have e1 := congrArg (·[1]?) hx.1
      simp only [List.getElem?_map, hb0, hb1, Option.map_some, List.getElem?_cons_zero, List.getElem?_cons_succ, Option.some.injEq] at e0 e1
      rw [h0, c0] at hf0
      rw [h1, c1] at hf1
      have g0 := trod_str (l := a) (p := b0.2) u0 (by rw [hf0, ← e0])
      have g1 := trod_str (l := b) (p := b1.2) u1 (by rw [hf1, ← e1])
      match cs, hl with
      | [x, y], _ =>
        simp only [List.drop_zero, List.take_succ_cons, List.take_zero, List.cons.injEq, and_true] at g0
        simp only [List.drop_succ_cons, List.drop_zero, List.take_succ_cons, List.take_zero, List.cons.injEq, and_true] at g1
        rw [g0, g1]
    · cases h
end
theorem flat_chunks {α : Type} (f : α → List Value) (m : Nat) (hf : ∀ x, (f x).length = m) : ∀ (l : List α) (cs : List Value), cs.length = l.length * m → (∀ i x, l[i]? = some x → (cs.drop (i * m)).take m = f x) → cs = l.flatMap f
  | [], cs, hl, _ => by simpa using hl
  | x :: l, cs, hl, h => by
    have h0 := h 0 x rfl
    rw [Nat.zero_mul, List.drop_zero] at h0
    have ih := flat_chunks f m hf l (cs.drop m) (by rw [List.length_drop, hl, List.length_cons, Nat.add_mul]; omega) (fun i y hy => by
      have := h (i + 1) y (by simpa using hy)
      rw [List.drop_drop, show m + i * m = (i + 1) * m by rw [Nat.add_mul]; omega]
      exact this)
    rw [List.flatMap_cons, ← h0, ← ih, List.take_append_drop]
theorem cells_of_var {P : Program} {w : World} {n : String} {g : Nat} {cs : Array Value} (hg : P.globalNamed n = some g) (h : w.var? P n = some cs) : (∀ j, w.cell? ⟨g, j, none⟩ = cs[j]?) ∧ g < w.heap.size := by
  unfold World.var? at h
  rw [hg] at h
  simp only [Option.bind_some] at h
  split at h
  · rename_i cs' t f hh
    cases h
    exact ⟨fun j => by simp [World.cell?, hh], by rw [Array.getElem?_eq_some_iff] at hh; exact hh.1⟩
  · cases h
theorem shapes_data {H : Type} : (Rows.laid_stow_prog_shapes : DataW H) = .agg (shapeTab.map fun x => .agg [.lit (.string x.1), .lit (.string x.2)]) := rfl
theorem types_data {H : Type} : (Rows.laid_stow_prog_typeWords : DataW H) = .agg (typeTab.map fun x => .lit (.string x)) := rfl
theorem int_of_shape {P : Program} {w : World} {g : Nat} {t : TypeId} {zero : Array Value} (h : w.ShapedOpen P) (hg : g < P.globals.size) (h0 : ((begin P (fun _ _ => 0) default).world.heap[g]?).bind Obj.row? = some (zero, t)) (hz : zero.size = 1)
    (hb : P.buildable t = true) (hc : P.cellTypes P.depth t = some [t]) (hu : P.underlying t = some (.int .i64)) : ∃ m : Int, w.cell? ⟨g, 0, none⟩ = some (.int .i64 m) := by
  obtain ⟨cs, hh, hs, hr⟩ := h.1 g zero t hg h0
  obtain ⟨ts, hts, -, hall⟩ := hr hb
  rw [hc] at hts
  cases hts
  have h1 : 0 < cs.size := by omega
  obtain ⟨u, hu', hok⟩ := hall 0 cs[0] (by simp [h1])
  have : u = t := by simpa using hu'.symm
  subst this
  have hcell : w.cell? ⟨g, 0, none⟩ = some cs[0] := by simp [World.cell?, hh, h1]
  rw [hcell]
  unfold Cell.ok at hok
  rw [hu] at hok
  cases hv : cs[0] <;> rw [hv] at hok <;> simp at hok
  rename_i k n
  obtain ⟨rfl, -⟩ := hok
  exact ⟨n, rfl⟩
theorem met_of {P : Program} {laid : List (String × DataW Unit)} {W : World} (hf : (laid.filter fun x => x.2.handleName?.isSome) = []) (h : laidMetH P laid W) : laidMet P laid W := by
  unfold laidMetH at h; rw [hf] at h; exact h
theorem laid_mem {P : Program} {w : World} {n : String} {d : DataW Unit} : ∀ {laid : List (String × DataW Unit)} {ps : List MemPlace}, DataW.LaidVars P w laid ps → (n, d) ∈ laid → ∃ g t cs fuel p, P.globalNamed n = some g ∧ (P.globals[g]?).map (·.type) = some t ∧ w.var? P n = some cs ∧ DataW.trod (fun _ => ()) P w 0 (fun _ => true) false fuel t cs.toList = some (d, p)
  | [], _, _, hm => by cases hm
  | (n', d') :: r, ps, h, hm => by
    obtain ⟨g, t, cs, fuel, p, q, h1, h2, h3, h4, h5, -⟩ := h
    rcases List.mem_cons.1 hm with e | hm
    · cases e; exact ⟨g, t, cs, fuel, p, h1, h2, h3, h4⟩
    · exact laid_mem h5 hm
theorem name_shapes : Tryz.prog.globalNamed "stow/prog.shapes" = some 0 := by kernel_rfl
theorem name_types : Tryz.prog.globalNamed "stow/prog.typeWords" = some 1 := by kernel_rfl
theorem name_syn : Tryz.prog.globalNamed "strconv.ErrSyntax" = some 9 := by kernel_rfl
theorem name_rng : Tryz.prog.globalNamed "strconv.ErrRange" = some 10 := by kernel_rfl
theorem type_shapes : (Tryz.prog.globals[0]?).map (·.type) = some 148 := by kernel_rfl
theorem type_types : (Tryz.prog.globals[1]?).map (·.type) = some 149 := by kernel_rfl
theorem type_syn : (Tryz.prog.globals[9]?).map (·.type) = some 221 := by kernel_rfl
theorem type_rng : (Tryz.prog.globals[10]?).map (·.type) = some 221 := by kernel_rfl
theorem cells_shapes : Tryz.prog.cellsOf 148 = 46 := by kernel_rfl
theorem cells_shape : Tryz.prog.cellsOf 147 = 2 := by kernel_rfl
theorem cells_types : Tryz.prog.cellsOf 149 = 4 := by kernel_rfl
theorem cells_string : Tryz.prog.cellsOf 9 = 1 := by kernel_rfl
theorem many : Tryz.prog.globals.size = 11 := by kernel_rfl
/-- what the list of a row gives the reader -/
theorem env_of {laid : List (String × DataW Unit)} {W : World} (hL : laidMet Tryz.prog laid W) (hsh : W.ShapedOpen Tryz.prog) (m1 : ("stow/prog.shapes", Rows.laid_stow_prog_shapes) ∈ laid) (m2 : ("stow/prog.typeWords", Rows.laid_stow_prog_typeWords) ∈ laid)
    (m3 : ("strconv.ErrSyntax", Rows.laid_strconv_ErrSyntax) ∈ laid) (m4 : ("strconv.ErrRange", Rows.laid_strconv_ErrRange) ∈ laid) : Env W := by
  obtain ⟨ps, hV, -⟩ := hL
  refine ⟨?_, ?_, ?_, ?_, ?_, ?_⟩
  · obtain ⟨g, t, cs, fuel, p, h1, h2, h3, h4⟩ := laid_mem hV m1
    rw [name_shapes] at h1
    cases h1
    rw [type_shapes] at h2
    cases h2
    rw [shapes_data] at h4
    obtain ⟨fuel', hl, hn, hi⟩ := trod_arr Tryz.underlying148 h4
    rw [cells_shapes] at hl
    have hcs : cs.toList = shapeCells := by
      refine flat_chunks (fun x : B × B => [.string (bs x.1), .string (bs x.2)]) 2 (fun _ => rfl) shapeTab cs.toList hl fun i x hx => ?_
      obtain ⟨p', hp'⟩ := hi i (.agg [.lit (.string x.1), .lit (.string x.2)]) (by rw [List.getElem?_map, hx]; rfl)
      rw [cells_shape] at hp'
      exact trod_two Tryz.underlying147 rfl rfl Tryz.underlying9 Tryz.underlying9 cells_string cells_string cells_shape hp'
    obtain ⟨hc, -⟩ := cells_of_var name_shapes h3
    intro j v hv
    rw [Nat.zero_add, hc, ← Array.getElem?_toList, hcs]
    exact hv
  · obtain ⟨g, t, cs, fuel, p, h1, h2, h3, h4⟩ := laid_mem hV m2
    rw [name_types] at h1
    cases h1
    rw [type_types] at h2
    cases h2
    rw [types_data] at h4
    obtain ⟨fuel', hl, hn, hi⟩ := trod_arr Tryz.underlying149 h4
    rw [cells_types] at hl
    have hcs : cs.toList = typeTab.flatMap (fun x : B => [.string (bs x)]) := by
      refine flat_chunks (fun x : B => [.string (bs x)]) 1 (fun _ => rfl) typeTab cs.toList hl fun i x hx => ?_
      obtain ⟨p', hp'⟩ := hi i (.lit (.string x)) (by rw [List.getElem?_map, hx]; rfl)
      rw [cells_string] at hp'
      exact trod_str Tryz.underlying9 hp'
    obtain ⟨hc, -⟩ := cells_of_var name_types h3
    intro j v hv
    rw [Nat.zero_add, hc, ← Array.getElem?_toList, hcs]
    exact hv
  · exact int_of_shape hsh (by rw [many]; decide) (g := 3) (t := 3) (zero := #[.int .i64 0]) (by kernel_rfl) rfl (by kernel_rfl) (by kernel_rfl) Tryz.underlying3
  · obtain ⟨g, t, cs, fuel, p, h1, h2, h3, h4⟩ := laid_mem hV m3
    rw [name_syn] at h1
    cases h1
    rw [type_syn] at h2
    cases h2
    obtain ⟨fuel', u, v, hcs, -⟩ := iface_of_trod Tryz.underlying221 h4
    obtain ⟨hc, -⟩ := cells_of_var name_syn h3
    exact ⟨u, v, by rw [hc, ← Array.getElem?_toList, hcs]; rfl⟩
  · obtain ⟨g, t, cs, fuel, p, h1, h2, h3, h4⟩ := laid_mem hV m4
    rw [name_rng] at h1
    cases h1
    rw [type_rng] at h2
    cases h2
    obtain ⟨fuel', u, v, hcs, -⟩ := iface_of_trod Tryz.underlying221 h4
    obtain ⟨hc, -⟩ := cells_of_var name_rng h3
    exact ⟨u, v, by rw [hc, ← Array.getElem?_toList, hcs]; rfl⟩
  · obtain ⟨g, t, cs, fuel, p, h1, h2, h3, h4⟩ := laid_mem hV m4
    have := (cells_of_var name_rng h3).2
    omega
end Go.Proofs.YtmlgajhhnojdjaaGreatDoor.PrjY
/- What the cards' lists and arguments give besides: the table of powers; a list of numbers in memory. -/
namespace Go.Proofs.YtmlgajhhnojdjaaGreatDoor.PrjY
open Go Go.RowKit Go.Proofs.YtmlgajhhnojdjaaGreatDoor.Spec Go.Proofs.YtmlgajhhnojdjaaGreatDoor.Own

theorem type_pow : (Tryz.prog.globals[4]?).map (·.type) = some 299 := by kernel_rfl
theorem pow_data {H : Type} : (Rows.laid_internal_strconv_uint64pow10 : DataW H) = Lib.tabData .u64 Lib.pow10Tab := rfl
theorem cells_u64 : Tryz.prog.cellsOf 281 = 1 := by kernel_rfl
theorem cells_pow : Tryz.prog.cellsOf 299 = 20 := by kernel_rfl
theorem cells_i64 : Tryz.prog.cellsOf 2 = 1 := by kernel_rfl
theorem pow_of {laid : List (String × DataW Unit)} {W : World} (hL : laidMet Tryz.prog laid W) (m : ("internal/strconv.uint64pow10", Rows.laid_internal_strconv_uint64pow10) ∈ laid) : Own.Pow W := by
  obtain ⟨ps, hV, -⟩ := hL
  obtain ⟨g, t, cs, fuel, p, h1, h2, h3, h4⟩ := laid_mem hV m
  rw [pow_at] at h1
  cases h1
  rw [type_pow] at h2
  cases h2
  rw [pow_data] at h4
  have := Lib.cells_of_tab Tryz.underlying299 Tryz.underlying281 cells_u64 cells_pow h4
  unfold Own.Pow Lib.TabIs
  rw [h3, ← this]
theorem lt_of_cell {W : World} {g o : Nat} {v : Value} (h : W.cell? ⟨g, o, none⟩ = some v) : g < W.heap.size := by
  by_cases hg : g < W.heap.size
  · exact hg
  · rw [World.cell?] at h
    simp only [Array.getElem?_eq_none (Nat.le_of_not_lt hg)] at h
    cases h
theorem isI64_of {n : Int} (h : (Lit.int .i64 n).wf = true) : isI64 n := by
  have e1 : IntKind.i64.min = -9223372036854775808 := rfl
  have e2 : IntKind.i64.max = 9223372036854775807 := rfl
  unfold isI64; simpa [Lit.wf, e1, e2] using h
/-- a list of numbers that came in -/
theorem feed_open {H : Type} {enc : TypeId × Value → H} {W : World} {a0 : Option Addr} {len cap fuel : Nat} {x : DataW H × List MemPlace} (h : DataW.trod enc Tryz.prog W 0 (fun _ => true) true fuel 42 [.slice a0 len cap] = some x) : ∃ inp, FeedAt W (.slice a0 len cap) inp ∧ ∀ n ∈ inp, isI64 n := by
  rcases Go.ChangeShapes.open_ints Tryz.underlying42 Tryz.underlying2 cells_i64 h with ⟨h0, -⟩ | ⟨a, len', cap', zs, h0, -, hl, hm, hzl, -, hx, hwf⟩
  · simp only [List.cons.injEq, Value.slice.injEq, and_true] at h0
    obtain ⟨rfl, rfl, rfl⟩ := h0
    exact ⟨[], ⟨none, 0, rfl, Nat.le_refl _, Nat.zero_le _, fun j hj => absurd hj (Nat.not_lt_zero _)⟩, fun n hn => by cases hn⟩
  · simp only [List.cons.injEq, Value.slice.injEq, and_true] at h0
    obtain ⟨rfl, rfl, rfl⟩ := h0
    simp only [if_true] at hzl
    have htl : (zs.take len).length = len := by rw [List.length_take]; omega
    refine ⟨zs.take len, ⟨some a, cap, by rw [htl], by rw [htl]; exact hl, hm, fun j hj => ?_⟩, fun n hn => isI64_of (hwf n (List.mem_of_mem_take hn))⟩
    rw [htl] at hj
    obtain ⟨b, off, spot⟩ := a
    have hc := hx j (by omega)
    have hspot : spot = none := by simpa [Addr.add] using World.cell?_spot (hx 0 (by omega))
    subst hspot
    have hc' : W.cell? ⟨b, off + j, none⟩ = some (.int .i64 (zs.getD j 0)) := by
      by_cases e : j = 0
      · subst e; simpa [Addr.add] using hc
      · simpa [Addr.add, e] using hc
    refine ⟨b, off, rfl, lt_of_cell hc', ?_⟩
    rw [hc', List.getD_eq_getElem?_getD, List.getD_eq_getElem?_getD, List.getElem?_take_of_lt hj]
end Go.Proofs.YtmlgajhhnojdjaaGreatDoor.PrjY
/- A world in which the tables lie as start-up lays them: the witness that the cards ask. -/
namespace Go.Proofs.YtmlgajhhnojdjaaGreatDoor.PrjZ
open Go Go.RowKit Go.Proofs.YtmlgajhhnojdjaaGreatDoor.Spec

/-- plain data, cell by cell -/
def flatD {H : Type} : Nat → DataW H → List Value
  | 0, _ => []
  | _ + 1, .lit (.int k n) => [.int k n]
  | _ + 1, .lit (.string l) => [.string (bs l)]
  | n + 1, .agg ds => ds.flatMap (flatD n)
  | _ + 1, _ => []
def put (g : Nat) (cs : List Value) (h : Array Obj) : Array Obj := h.modify g fun
  | .cells _ t frozen => .cells cs.toArray t frozen
  | o => o
noncomputable def low : Nat := (World.holding Tryz.prog default ⟨#[], #[], []⟩).heap.size
noncomputable def laidWorld (os : Os) : World :=
  let w0 := World.holding Tryz.prog os ⟨#[.cells #[.string (bs [118, 97, 108, 117, 101, 32, 111, 117, 116, 32, 111, 102, 32, 114, 97, 110, 103, 101])] 327, .cells #[.string (bs [105, 110, 118, 97, 108, 105, 100, 32, 115, 121, 110, 116, 97, 120])] 327], #[], []⟩
  { w0 with heap := put 0 (flatD 8 (Rows.laid_stow_prog_shapes (H := Unit))) (put 1 (flatD 8 (Rows.laid_stow_prog_typeWords (H := Unit))) (put 2 (flatD 8 (Rows.laid_stow_prog_suffixes (H := Unit)))
      (put 4 (flatD 8 (Rows.laid_internal_strconv_uint64pow10 (H := Unit))) (put 5 (flatD 8 Rows.laid_unicode_utf8_first) (put 6 (flatD 8 (Rows.laid_unicode_utf8_acceptRanges (H := Unit)))
      (put 7 (flatD 8 (Rows.laid_math_bits_deBruijn32tab (H := Unit))) (put 8 (flatD 8 (Rows.laid_math_bits_deBruijn64tab (H := Unit)))
      (put 10 [.iface 325 (.pointer (some ⟨low, 0, none⟩))] (put 9 [.iface 325 (.pointer (some ⟨low + 1, 0, none⟩))] w0.heap))))))))) }
theorem laid_met (os : Os) (args : Array Value) : laidMet Tryz.prog Rows.lookedUptoRow.laid ((laidWorld os).forCall (fun _ _ => 0) ⟨#[], args, []⟩).memory :=
  laidMet_of_run' 8 (by kernel_rfl) (by kernel_rfl)
end Go.Proofs.YtmlgajhhnojdjaaGreatDoor.PrjZ
