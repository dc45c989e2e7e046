/- stowkeep's small functions, walked: awake, some, starts. -/
import Derived.Test.YtmlgajhhnojdjaaGreatDoorKBL
import Derived.Test.YtmlgajhhnojdjaaGreatDoorKBO
import Derived.Test.YtmlgajhhnojdjaaGreatDoorKBN
import Derived.Deep.QuietTactic
import Derived.Test.YtmlgajhhnojdjaaGreatDoorRows
import Derived.Test.YtmlgajhhnojdjaaGreatDoorKAF
import Derived.LaidLaws
import Derived.Lib.LaidTab
import Derived.ShapedOpen
import Derived.Test.YtmlgajhhnojdjaaGreatDoorKAM
import Derived.Deep.Slices
import Derived.OpenShut
import Derived.ChangeSlices
namespace Go.Proofs.YtmlgajhhnojdjaaGreatDoor.RunB
open Go Go.RowKit Go.Proofs.YtmlgajhhnojdjaaGreatDoor.Spec Go.Proofs.YtmlgajhhnojdjaaGreatDoor.Aux Go.Proofs.YtmlgajhhnojdjaaGreatDoor.Own Go.Proofs.YtmlgajhhnojdjaaGreatDoor.RunA Go.Proofs.YtmlgajhhnojdjaaGreatDoor.PrjG Go.Proofs.YtmlgajhhnojdjaaGreatDoor.PrjJ Go.Proofs.YtmlgajhhnojdjaaGreatDoor.PrjK Go.Proofs.YtmlgajhhnojdjaaGreatDoor.PrjM Go.Proofs.YtmlgajhhnojdjaaGreatDoor.PrjS Go.Proofs.YtmlgajhhnojdjaaGreatDoor.FlwZ Go.Proofs.YtmlgajhhnojdjaaGreatDoor.FlwZa Go.Proofs.YtmlgajhhnojdjaaGreatDoor.MadE

def oneEnd : Go.Proofs.YtmlgajhhnojdjaaGreatDoor.Own.Own := ⟨⟨[(5, false)], 0, [43 :: Lib.itoa 1, 60 :: Lib.itoa 1, 45 :: Lib.itoa 1]⟩, [], 5 :: List.replicate 11 0, List.replicate 24 0⟩
theorem one_run : runO oneQ 1 9 (oneQ.blocks.getD 0 []) (Own.start []) = some (1, 5, oneEnd) := by rfl
theorem itoa_one : Lib.itoa 1 = [49] := by simp [Lib.itoa, Lib.decDigits]
def oneRes : Value := .agg #[.int .i64 1, .int .i64 5, .string ⟨#[43, 49, 32, 60, 49, 32, 45, 49]⟩, .int .i64 0]
theorem one_res : resV (1, 5, oneEnd) = oneRes := by
  have e : oneEnd.yd.text = [43, 49, 32, 60, 49, 32, 45, 49] := by
    show Lib.join [43 :: Lib.itoa 1, 60 :: Lib.itoa 1, 45 :: Lib.itoa 1] [32] = _
    rw [itoa_one]; rfl
  unfold resV oneRes
  simp only [e]
  rfl
theorem one_is {v : Value} {c k : Int} (h : RunIs oneText [] 9 1 v c k) : v = oneRes ∧ c = 0 ∧ k = 0 := by
  have hm : mayRun [] 9 1 := by unfold mayRun; simp
  rcases h with ⟨h1, h2, -⟩ | ⟨-, h2, -⟩ | ⟨-, rfl, rfl, q, ans, hg, hr, rfl⟩
  · exact absurd (chk_one h1).1 h2
  · exact absurd hm h2
  · have e := hg.read.symm.trans one_read
    simp only [Prod.mk.injEq, Option.some.injEq, and_true] at e
    subst e
    have e2 := hr.symm.trans one_run
    cases e2
    exact ⟨one_res, rfl, rfl⟩
theorem feed_nil (w : World) : FeedAt w (.slice none 0 0) [] := ⟨none, 0, rfl, Nat.le_refl _, Nat.zero_le _, fun _j hj => absurd hj (Nat.not_lt_zero _)⟩
set_option maxRecDepth 20000 in
set_option maxHeartbeats 2000000 in
theorem awake_any (w : World) (E : Env w) (hp : Pow w) : Calls Tryz.prog 25 #[] w fun e w' => e = .returned (.bool true) ∧ Below w.heap.size w w' := by
  have KC : Calls Tryz.prog 21 #[.string ⟨#[108, 101, 116, 32, 110, 32, 105, 110, 116, 10, 108, 101, 116, 32, 112, 32, 98, 111, 120, 10, 98, 108, 111, 99, 107, 10, 115, 101, 116, 32, 110, 32, 53, 10, 110, 101, 119, 32, 112, 32, 110, 10, 108, 111, 97, 100, 32, 110, 32, 112, 10, 101, 110, 100, 32, 110]⟩] w _ := (Check_any oneText w (by decide) E).mono (R' := fun e w' => e = .returned (.tuple #[.int .i64 0, .int .i64 0]) ∧ Below w.heap.size w w') fun e w' ⟨⟨c, k, ha, he⟩, hb⟩ => by
    obtain ⟨rfl, rfl⟩ := chk_one ha.out; exact ⟨he, hb⟩
  have KR : ∀ w', Env w' → Pow w' → Calls Tryz.prog 23 #[.string ⟨#[108, 101, 116, 32, 110, 32, 105, 110, 116, 10, 108, 101, 116, 32, 112, 32, 98, 111, 120, 10, 98, 108, 111, 99, 107, 10, 115, 101, 116, 32, 110, 32, 53, 10, 110, 101, 119, 32, 112, 32, 110, 10, 108, 111, 97, 100, 32, 110, 32, 112, 10, 101, 110, 100, 32, 110]⟩, .slice none 0 0, .int .i64 9, .int .i64 1] w' _ := fun w' E' hp' =>
    (SRun_any oneText (.slice none 0 0) [] 9 1 w' (feed_nil w') (fun n hn => by cases hn) (by decide) E' hp').mono (R' := fun e w'' => e = .returned (.tuple #[oneRes, .int .i64 0, .int .i64 0]) ∧ Below w'.heap.size w' w'') fun e w'' ⟨⟨v, c, k, ha, he⟩, hb⟩ => by
    obtain ⟨rfl, rfl, rfl⟩ := one_is ha.out; exact ⟨he, hb⟩
  go_enter Tryz.func25, Tryz.ntmps25
  go_wp2_with (first
    | (go_at_call 21; refine KC.mono ?_; rintro e w1 ⟨rfl, hb1⟩; have E1 := E.on hb1; have hp1 := hp.below hb1 E.size)
    | (go_at_call 23; refine (KR _ E1 hp1).mono ?_; rintro e w2 ⟨rfl, hb2⟩; simp only [oneRes]))
  go_ret
  exact ⟨rfl, hb1.trans ((hb2.alloc hb2.size _).mono hb1.size)⟩
set_option maxRecDepth 20000 in
theorem some_any (w : World) (vi : Value) (inp : List Int) (hf : FeedAt w vi inp) : Calls Tryz.prog 26 #[vi] w fun e w' => (∃ v, e = .returned v ∧ FeedAt w v (inp.take 100)) ∧ w' = w := by
  obtain ⟨ad, c, rfl, h1, h2, h3⟩ := id hf
  have hml : (maxLen : Int) ≤ 9223372036854775807 := by decide
  by_cases hl : inp.length ≤ 100
  · have HF : Hid (FeedAt w (.slice ad inp.length c) (inp.take 100)) := by rw [List.take_of_length_le hl]; exact hf
    clear hf h3
    go_enter Tryz.func26, Tryz.ntmps26
    go_wp2
    go_ret
    exact ⟨⟨_, rfl, HF.out⟩, rfl⟩
  · have h100 : (inp.take 100).length = 100 := by rw [List.length_take]; omega
    obtain ⟨g, f, rfl, hg, -⟩ := h3 0 (by omega)
    have HF : Hid (FeedAt w (.slice (some ⟨g, f, none⟩) 100 c) (inp.take 100)) := ⟨some ⟨g, f, none⟩, c, by rw [h100], by rw [h100]; omega, h2, fun j hj => by
      rw [h100] at hj
      obtain ⟨g', f', e, hg', hc⟩ := h3 j (by omega)
      simp only [Option.some.injEq, Addr.mk.injEq, and_true] at e
      obtain ⟨rfl, rfl⟩ := e
      refine ⟨g, f, rfl, hg, ?_⟩
      rw [hc, List.getD_eq_getElem?_getD, List.getD_eq_getElem?_getD, List.getElem?_take_of_lt hj]⟩
    clear hf h3 h100
    go_enter Tryz.func26, Tryz.ntmps26
    go_wp2
    go_ret
    exact ⟨⟨_, rfl, HF.out⟩, rfl⟩
end Go.Proofs.YtmlgajhhnojdjaaGreatDoor.RunB
/- The law Fueled, walked: more fuel goes on where less has stopped. For texts of at most 2^20 letters, in every world that holds the tables. -/
namespace Go.Proofs.YtmlgajhhnojdjaaGreatDoor.RunB
open Go Go.RowKit Go.Proofs.YtmlgajhhnojdjaaGreatDoor.Spec Go.Proofs.YtmlgajhhnojdjaaGreatDoor.Aux Go.Proofs.YtmlgajhhnojdjaaGreatDoor.Own Go.Proofs.YtmlgajhhnojdjaaGreatDoor.RunA Go.Proofs.YtmlgajhhnojdjaaGreatDoor.PrjG Go.Proofs.YtmlgajhhnojdjaaGreatDoor.PrjJ Go.Proofs.YtmlgajhhnojdjaaGreatDoor.PrjK Go.Proofs.YtmlgajhhnojdjaaGreatDoor.PrjM Go.Proofs.YtmlgajhhnojdjaaGreatDoor.PrjS Go.Proofs.YtmlgajhhnojdjaaGreatDoor.FlwZ Go.Proofs.YtmlgajhhnojdjaaGreatDoor.FlwZa Go.Proofs.YtmlgajhhnojdjaaGreatDoor.MadC Go.Proofs.YtmlgajhhnojdjaaGreatDoor.MadE

theorem laid_one {w4 w6 : World} {x : Obj} (hb : Below (w4.alloc x).heap.size (w4.alloc x) w6) : w6.heap[w4.heap.size]? = some x ∧ w4.heap.size < w6.heap.size := by
  have h : (w4.alloc x).heap[w4.heap.size]? = some x := Array.getElem?_push_size
  have hs := hb.size
  have e : (w4.alloc x).heap.size = w4.heap.size + 1 := by simp
  exact ⟨by rw [hb.block _ (by omega)]; exact h, by omega⟩
theorem laid_two {w4 w6 : World} {x y : Obj} (hb : Below (w4.alloc x).heap.size (w4.alloc x) w6) : (w6.alloc y).heap[w4.heap.size]? = some x := by
  have h : (w4.alloc x).heap[w4.heap.size]? = some x := Array.getElem?_push_size
  have hs := hb.size
  have e : (w4.alloc x).heap.size = w4.heap.size + 1 := by simp
  show (w6.heap.push y)[w4.heap.size]? = _
  rw [Array.getElem?_push_lt (by omega)]
  rw [← h, ← hb.block _ (by omega), Array.getElem?_eq_getElem (by omega)]
end Go.Proofs.YtmlgajhhnojdjaaGreatDoor.RunB
/- The law Calm, walked: a raw program, whatever it does, is stopped ahead of any use of a box that is not live: what its trace says is right, also where it is broken. For texts of at most 2^20 letters, in every world that holds the tables. -/
namespace Go.Proofs.YtmlgajhhnojdjaaGreatDoor.Ex
open Go Go.RowKit Go.Proofs.YtmlgajhhnojdjaaGreatDoor.Spec Go.Proofs.YtmlgajhhnojdjaaGreatDoor.Aux Go.Proofs.YtmlgajhhnojdjaaGreatDoor.Own Go.Proofs.YtmlgajhhnojdjaaGreatDoor.RunA Go.Proofs.YtmlgajhhnojdjaaGreatDoor.RunB Go.Proofs.YtmlgajhhnojdjaaGreatDoor.RefM Go.Proofs.YtmlgajhhnojdjaaGreatDoor.PrjG Go.Proofs.YtmlgajhhnojdjaaGreatDoor.PrjJ Go.Proofs.YtmlgajhhnojdjaaGreatDoor.PrjK Go.Proofs.YtmlgajhhnojdjaaGreatDoor.PrjM Go.Proofs.YtmlgajhhnojdjaaGreatDoor.PrjS Go.Proofs.YtmlgajhhnojdjaaGreatDoor.PrjX Go.Proofs.YtmlgajhhnojdjaaGreatDoor.FlwZ Go.Proofs.YtmlgajhhnojdjaaGreatDoor.MadC Go.Proofs.YtmlgajhhnojdjaaGreatDoor.Bal

/-- a run stays within bounds -/
theorem runB_in {q : QP} (h12 : q.locals.length ≤ 12) (room : Int) (hln : ∀ j, ∀ l ∈ q.blocks.getD j [], RLn q l) :
    ∀ (f : Nat) (ls : List QLine) (b : Br) (t : Nat) (ans : Nat × Int × Br), (∀ l ∈ ls, RLn q l) → Held q b → b.In t → t + f ≤ 999999 → runB q room f ls b = some ans → ans.2.2.In (t + f)
  | f, [], b, t, ans, _, _, _, _, h => by cases f <;> simp [runB] at h
  | 0, l :: ls, b, t, ans, _, _, hI, _, h => by rw [runB] at h; cases h; exact hI
  | f + 1, l :: ls, b, t, ans, hl, hH, hI, ht, h => by
    have hl0 := hl l (List.mem_cons_self ..)
    have hl' : ∀ m ∈ ls, RLn q m := fun m hm => hl m (List.mem_cons_of_mem _ hm)
    have o1 := hl0.ok.op
    have o2 := hl0.ok.op2
    have o3 := hl0.has
    rw [runB] at h
    cases hb : b.breaks q l
    · rw [hb, if_neg (by decide)] at h
      by_cases h6 : l.op = 6
      · rw [if_pos h6] at h
        split at h
        · cases h; exact hI.mono (by omega)
        · exact (runB_in h12 room hln f ls _ t ans hl' (calc_held h12 hl0 h6 hH) (hI.calc q l) (by omega) h).mono (by omega)
      · rw [if_neg h6] at h
        by_cases h9 : l.op = 9
        · rw [if_pos h9] at h
          split at h
          · cases h; exact hI.mono (by omega)
          · exact (runB_in h12 room hln f ls _ (t + 1) ans hl' (new_held h12 hl0 h9 _ hH) (hI.new (by omega) q _ (hI.val q _)) (by omega) h).mono (by omega)
        · rw [if_neg h9] at h
          by_cases hT : l.op = 18 ∨ l.op = 19 ∨ l.op = 20 ∨ l.op = 21
          · rw [if_pos hT] at h
            split at h
            · exact (runB_in h12 room hln f _ b t ans (hln _) hH hI (by omega) h).mono (by omega)
            · cases h
          · rw [if_neg hT] at h
            by_cases h22 : l.op = 22
            · rw [if_pos h22] at h; cases h; exact hI.mono (by omega)
            · rw [if_neg h22] at h
              obtain ⟨hd, hH2⟩ := line_held h12 hl0 (by omega) hb hH
              exact (runB_in h12 room hln f ls _ (t + 1) ans hl' hH2 (hI.do1 (by omega) q hd (by have := hl0.ok.number; unfold isI64; omega)) (by omega) h).mono (by omega)
    · rw [hb, if_pos rfl] at h; cases h; exact hI.mono (by omega)
/-- what a raw run leaves -/
theorem exec_tells {text : B} {inp : List Int} {fuel room : Int} {v : Value} {c k : Int} (hi : ∀ x ∈ inp, isI64 x) (h : ExecIs text inp fuel room v c k) (hm : mayExec inp fuel room) : (c = ((prjRead text true).2.1 : Nat) ∧ k = ((prjRead text true).2.2 : Nat)) ∧ ((¬ c = 0 ∧ v = zeroRes) ∨
    (c = 0 ∧ ∃ (o x : Int) (t : B) (l : Int) (L : List Bool), v = .agg #[.int .i64 o, .int .i64 x, .string (bs t), .int .i64 l] ∧ tell t = ⟨L, l, true⟩ ∧ t.length ≤ 6200000 ∧ ¬ o = 0)) := by
  rcases h with ⟨c', k', h1, h2, rfl, rfl, rfl⟩ | ⟨-, h1, -⟩ | ⟨-, rfl, rfl, q, ans, h2, hr, rfl⟩
  · rw [h2]; exact ⟨⟨rfl, rfl⟩, .inl ⟨by omega, rfl⟩⟩
  · exact absurd hm h1
  · refine ⟨by rw [h2]; exact ⟨rfl, rfl⟩, .inr ⟨rfl, ?_⟩⟩
    obtain ⟨-, a2, a3, -, -⟩ := hm
    obtain ⟨ans', hr', hH, ho, hmade⟩ := raw_run h2 inp room fuel.toNat
    rw [hr] at hr'
    cases hr'
    obtain ⟨-, -, p, hp, hB⟩ := prjRead_good h2
    have hS := raw_shape h2
    have hln : ∀ j, ∀ l ∈ q.blocks.getD j [], RLn q l := fun j l hl => rln_of (hB.qok.lines _ (getD_memB hl) l hl) (hS.lines j l hl)
    have hI := runB_in hB.twelve room hln fuel.toNat _ _ 0 ans (hln 0) (start_held q inp) (Br.In.start hi) (by omega) hr
    obtain ⟨cs, hcs⟩ := hH.bal
    refine ⟨(ans.1 : Nat), ans.2.1, ans.2.2.yd.text, ans.2.2.yd.live, _, rfl, hcs.tells (by omega), ?_, by omega⟩
    have h1 := join_len _ hI.words
    have h2 := hI.trace
    unfold Yd.text
    omega
theorem ExecIs.form {text : B} {inp : List Int} {fuel room : Int} {v : Value} {c k : Int} (h : ExecIs text inp fuel room v c k) : ∃ (o x : Int) (t : B) (l : Int), v = .agg #[.int .i64 o, .int .i64 x, .string (bs t), .int .i64 l] := by
  rcases h with ⟨-, -, -, -, -, -, rfl⟩ | ⟨-, -, rfl, -⟩ | ⟨-, -, -, q, ans, -, -, rfl⟩
  · exact ⟨0, 0, [], 0, rfl⟩
  · exact ⟨0, 0, [], 0, rfl⟩
  · exact ⟨_, _, _, _, rfl⟩
/-! the document's example -/
def twoText : B := [108, 101, 116, 32, 110, 32, 105, 110, 116, 10, 108, 101, 116, 32, 112, 32, 98, 111, 120, 10, 98, 108, 111, 99, 107, 10, 115, 101, 116, 32, 110, 32, 53, 10, 110, 101, 119, 32, 112, 32, 110, 10, 102, 114, 101, 101, 32, 112, 10, 102, 114, 101, 101, 32, 112, 10, 101, 110, 100, 32, 110]
def twoQ : QP := ⟨[([110], 0), ([112], 1)], [[⟨3, 2, [(0, 0)], 5, 0, []⟩, ⟨4, 9, [(1, 0), (0, 0)], 0, 0, []⟩, ⟨5, 16, [(1, 0)], 0, 0, []⟩, ⟨6, 16, [(1, 0)], 0, 0, []⟩, ⟨7, 22, [(0, 0)], 0, 0, []⟩]]⟩
set_option maxRecDepth 100000 in
theorem two_read : prjRead twoText true = (some twoQ, 0, 0) := by rfl
def twoRes : Value := .agg #[.int .i64 5, .int .i64 0, .string ⟨#[43, 49, 32, 45, 49]⟩, .int .i64 0]
set_option maxRecDepth 100000 in
theorem two_run : ∃ b : Br, runB twoQ 1 9 (twoQ.blocks.getD 0 []) (Br.start []) = some (5, 0, b) ∧ b.yd.trace = [43 :: Lib.itoa 1, 45 :: Lib.itoa 1] ∧ b.yd.live = 0 := ⟨_, rfl, rfl, rfl⟩
theorem two_is {v : Value} {c k : Int} (h : ExecIs twoText [] 9 1 v c k) : v = twoRes := by
  have hm : mayExec [] 9 1 := by unfold mayExec; simp
  rcases h with ⟨c', k', -, h2, -⟩ | ⟨-, h2, -⟩ | ⟨-, -, -, q, ans, h2, hr, rfl⟩
  · rw [two_read] at h2; cases h2
  · exact absurd hm h2
  · rw [two_read] at h2
    simp only [Prod.mk.injEq, Option.some.injEq, and_true] at h2
    subst h2
    obtain ⟨b, h3, h4, h5⟩ := two_run
    have e := hr.symm.trans h3
    cases e
    unfold resB twoRes
    have e : b.yd.text = [43, 49, 32, 45, 49] := by unfold Yd.text; rw [h4, itoa_one]; rfl
    simp only [e, h5]
    rfl
set_option maxRecDepth 20000 in
set_option maxHeartbeats 4000000 in
theorem Calm_any (text : B) (vi : Value) (inp : List Int) (fuel room : Int) (w : World) (h1 : isI64 fuel) (h3 : isI64 room) (hf : FeedAt w vi inp) (hinp : ∀ n ∈ inp, isI64 n) (h : text.length ≤ 1048576) (E : Env w) (hp : Pow w) :
    Calls Tryz.prog 11 #[.string (bs text), vi, .int .i64 fuel, .int .i64 room] w fun e w' => e = .returned (.bool true) ∧ Below w.heap.size w w' := by
  have KA := awake_any w E hp
  have KN : ∀ w', Calls Tryz.prog 16 #[.int .i64 fuel, .int .i64 200001] w' fun e w'' => e = .returned (.int .i64 (pickN fuel 200001 : Nat)) ∧ w'' = w' := fun w' => pick_any fuel 200001 w' h1 (by decide)
  have KK : ∀ w', Calls Tryz.prog 16 #[.int .i64 room, .int .i64 51] w' fun e w'' => e = .returned (.int .i64 (pickN room 51 : Nat)) ∧ w'' = w' := fun w' => pick_any room 51 w' h3 (by decide)
  have hn := pickN_lt fuel (n := 200001) (by decide)
  have hk := pickN_lt room (n := 51) (by decide)
  generalize pickN fuel 200001 = n at *
  generalize pickN room 51 = k at *
  have hi' : ∀ x ∈ inp.take 100, isI64 x := fun x hx => hinp x (List.mem_of_mem_take hx)
  have hl100 : (inp.take 100).length ≤ 100 := by rw [List.length_take]; omega
  have HM1 : Hid (mayExec (inp.take 100) (n : Int) (k : Int)) := ⟨hl100, by omega, by omega, by omega, by omega⟩
  have KC : ∀ w', Below w.heap.size w w' → Calls Tryz.prog 30 #[.string (bs text)] w' fun e w'' => e = .returned (.tuple #[.int .i64 ((prjRead text true).2.1 : Nat), .int .i64 ((prjRead text true).2.2 : Nat)]) ∧ Below w'.heap.size w' w'' := fun w' hb => by
    have := Look_any text w' h (E.on hb)
    rw [← (read_same text true).1] at this
    exact this
  have KS : ∀ w', Below w.heap.size w w' → Calls Tryz.prog 26 #[vi] w' _ := fun w' hb => some_any w' vi inp (feed_below hf hb (Nat.le_refl _))
  have KR : ∀ w' v, Below w.heap.size w w' → FeedAt w' v (inp.take 100) → Calls Tryz.prog 31 #[.string (bs text), v, .int .i64 (n : Int), .int .i64 (k : Int)] w' fun e w'' => (∃ (o x : Int) (t : B) (l c k' : Int), Hid (ExecIs text (inp.take 100) n k (.agg #[.int .i64 o, .int .i64 x, .string (bs t), .int .i64 l]) c k') ∧ e = .returned (.tuple #[.agg #[.int .i64 o, .int .i64 x, .string (bs t), .int .i64 l], .int .i64 c, .int .i64 k'])) ∧ Below w'.heap.size w' w'' := fun w' v hb hv => by
    refine (SExec_any text v (inp.take 100) n k w' hv hi' h (E.on hb) (hp.below hb E.size)).mono ?_
    rintro e w'' ⟨⟨v, c, k', hr, rfl⟩, hb2⟩
    obtain ⟨o, x, t, l, rfl⟩ := hr.out.form
    exact ⟨⟨o, x, t, l, c, k', hr, rfl⟩, hb2⟩
  have KG : ∀ w', Below w.heap.size w w' → Calls Tryz.prog 31 #[.string ⟨#[108, 101, 116, 32, 110, 32, 105, 110, 116, 10, 108, 101, 116, 32, 112, 32, 98, 111, 120, 10, 98, 108, 111, 99, 107, 10, 115, 101, 116, 32, 110, 32, 53, 10, 110, 101, 119, 32, 112, 32, 110, 10, 102, 114, 101, 101, 32, 112, 10, 102, 114, 101, 101, 32, 112, 10, 101, 110, 100, 32, 110]⟩, .slice none 0 0, .int .i64 9, .int .i64 1] w' _ := fun w' hb =>
    (SExec_any twoText (.slice none 0 0) [] 9 1 w' (feed_nil w') (fun n hn => by cases hn) (by decide) (E.on hb) (hp.below hb E.size)).mono (R' := fun e w'' => (∃ c k', e = .returned (.tuple #[twoRes, .int .i64 c, .int .i64 k'])) ∧ Below w'.heap.size w' w'') fun e w'' ⟨⟨v, c, k, ha, he⟩, hb⟩ => by
    obtain rfl := two_is ha.out; exact ⟨⟨c, k, he⟩, hb⟩
  have HI : Hid (∀ x ∈ inp.take 100, isI64 x) := hi'
  generalize hlc : (((prjRead text true).2.1 : Nat) : Int) = lc at KC
  generalize hlk : (((prjRead text true).2.2 : Nat) : Int) = lk at KC
  have HLC : Hid (_ = _) := hlc
  have HLK : Hid (_ = _) := hlk
  clear h1 h3 hf hinp h E hp hi' hl100 hlc hlk
  go_enter Tryz.func11, Tryz.ntmps11
  go_upto_region 4 with (first
    | (go_at_call 25; refine KA.mono ?_; rintro e w1 ⟨rfl, hb1⟩; clear KA)
    | (go_at_call 30; refine (KC _ hb1).mono ?_; rintro e w2 ⟨rfl, hb2'⟩; have hb2 : Below w.heap.size w w2 := hb1.trans (hb2'.mono hb1.size); clear KC)
    | (go_at_call 26; refine (KS _ hb2).mono ?_; rintro e w3 ⟨⟨v3, rfl, hv3⟩, rfl⟩; clear KS)
    | (go_at_call 16; refine (KN _).mono ?_; rintro e w3 ⟨rfl, rfl⟩; clear KN)
    | (go_at_call 16; refine (KK _).mono ?_; rintro e w3 ⟨rfl, rfl⟩; clear KK)
    | (go_at_call 31; refine (KR _ _ hb2 hv3).mono ?_; rintro e w4 ⟨⟨oa, xa, ta, la, ca, ka, hRa, rfl⟩, hb4⟩; clear KR))
  have hb5 : Below w.heap.size w (w4.alloc (.cells #[.int .i64 oa, .int .i64 xa, .string (bs ta), .int .i64 la] 47)) := hb2.trans ((hb4.alloc hb4.size _).mono hb2.size)
  obtain ⟨⟨e1, e2⟩, hcs⟩ := exec_tells HI.out hRa.out HM1.out
  rw [HLC.out] at e1
  rw [HLK.out] at e2
  subst e1 e2
  clear hRa HM1 HI hv3 hb4 hb2' hb2 hb1 HLC HLK
  go_upto_region 5 with (go_at_call 31; refine (KG _ hb5).mono ?_; rintro e w6 ⟨⟨cg, kg, rfl⟩, hb6⟩; simp only [twoRes]; clear KG)
  have hra := laid_two (y := .cells #[.int .i64 5, .int .i64 0, .string ⟨#[43, 49, 32, 45, 49]⟩, .int .i64 0] 47) hb6
  obtain ⟨a0, a1, a2, a3, -⟩ := res_facts hra
  obtain ⟨hra6, hlt6⟩ := laid_one hb6
  obtain ⟨q0, q1, q2, q3, -⟩ := res_facts hra6
  have hrg : (w6.alloc (.cells #[.int .i64 5, .int .i64 0, .string ⟨#[43, 49, 32, 45, 49]⟩, .int .i64 0] 47)).heap[w6.heap.size]? = some (.cells #[.int .i64 5, .int .i64 0, .string ⟨#[43, 49, 32, 45, 49]⟩, .int .i64 0] 47 (0, 0)) := Array.getElem?_push_size
  obtain ⟨g0, g1, g2, g3, -⟩ := res_facts hrg
  have HB : Hid (Below w.heap.size w (w6.alloc (.cells #[.int .i64 5, .int .i64 0, .string ⟨#[43, 49, 32, 45, 49]⟩, .int .i64 0] 47))) := hb5.trans ((hb6.alloc hb6.size _).mono hb5.size)
  have HRA : Hid (_ = _) := hra
  have hsW : (w6.alloc (.cells #[.int .i64 5, .int .i64 0, .string ⟨#[43, 49, 32, 45, 49]⟩, .int .i64 0] 47)).heap.size = w6.heap.size + 1 := by simp
  clear hb5 hb6 hrg hra hra6
  have cc : (ca == ca) = true := by simp
  have ck : (ka == ka) = true := by simp
  rcases hcs with ⟨hc, hz⟩ | ⟨rfl, o, x, t, l, L, hv, htell, hlen, ho⟩
  · have cb : (ca == 0) = false := by rw [beq_eq_false_iff_ne]; exact hc
    simp only [zeroRes, Value.agg.injEq, Array.mk.injEq, List.cons.injEq, Value.int.injEq, Value.string.injEq, true_and, and_true] at hz
    obtain ⟨rfl, rfl, eta, rfl⟩ := hz
    obtain rfl : ta = [] := by have := congrArg ByteArray.toList (eta.trans (show _ = bs [] from rfl)); rwa [toList_bs, toList_bs] at this
    have e0 : bs ([] : B) = ⟨#[]⟩ := rfl
    rw [e0] at q2 a2
    rw [e0]
    clear hc eta HRA e0
    go_wp2
    go_ret
    exact ⟨rfl, HB.out⟩
  · simp only [Value.agg.injEq, Array.mk.injEq, List.cons.injEq, Value.int.injEq, Value.string.injEq, true_and, and_true] at hv
    obtain ⟨rfl, rfl, eta, rfl⟩ := hv
    obtain rfl : ta = t := by have := congrArg ByteArray.toList eta; rwa [toList_bs, toList_bs] at this
    have KT := told_any (bs ta) (w6.alloc (.cells #[.int .i64 5, .int .i64 0, .string ⟨#[43, 49, 32, 45, 49]⟩, .int .i64 0] 47)) (by rw [size_bs]; omega)
    rw [toList_bs, htell] at KT
    have ob : (oa == 0) = false := by rw [beq_eq_false_iff_ne]; exact ho
    have ll : (la == la) = true := by simp
    clear eta htell hlen ho
    go_upto_region 10 with (go_at_call 24; refine KT.mono ?_; rintro e w7 ⟨⟨y, vl, rfl, hst⟩, hb7⟩; have HB7 : Hid (Below _ _ _) := HB.out.trans (hb7.mono HB.out.size); have hR7 := (hb7.block w4.heap.size (by omega)).trans HRA.out; obtain ⟨r0, r1, r2, r3, -⟩ := res_facts hR7; obtain ⟨-, s1, s2, -⟩ := hst.facts; clear hst hb7 hR7)
    go_quiet (fail)
    go_wp2
    go_ret
    have on : (oa != 0) = true := by rw [bne, ob]; rfl
    exact ⟨congrArg (fun z => Ending.returned (.bool z)) on, below_drewN HB7.out _⟩
end Go.Proofs.YtmlgajhhnojdjaaGreatDoor.Ex
/- What the cards' lists give: the tables and variables that the reader asks. -/
namespace Go.Proofs.YtmlgajhhnojdjaaGreatDoor.PrjY
open Go Go.RowKit Go.Proofs.YtmlgajhhnojdjaaGreatDoor.Spec Go.Proofs.YtmlgajhhnojdjaaGreatDoor.PrjF Go.Proofs.YtmlgajhhnojdjaaGreatDoor.PrjG

section
variable {H : Type} {enc : TypeId × Value → H} {P : Program} {w : World} {base : Nat} {sp : Nat → Bool} {held : Bool} {fuel : Nat} {t : TypeId} {cs : List Value} {p : List MemPlace}
theorem trod_str {l : B} (ht : P.underlying t = some .string) (h : DataW.trod enc P w base sp held fuel t cs = some (.lit (.string l), p)) : cs = [.string (bs l)] := by
  cases fuel with
  | zero => simp [DataW.trod] at h
  | succ fuel =>
    match cs with
    | [] => simp [DataW.trod, ht] at h
    | _ :: _ :: _ => simp [DataW.trod, ht] at h
    | [c] =>
      cases c <;> simp [DataW.trod, ht] at h
      obtain ⟨-, h, -⟩ := h
      rename_i s
      rw [← h]
      simp [bs]
theorem trod_arr {n : Nat} {e : TypeId} {ds : List (DataW H)} (ht : P.underlying t = some (.array n e)) (h : DataW.trod enc P w base sp held fuel t cs = some (.agg ds, p)) :
    ∃ fuel', cs.length = P.cellsOf t ∧ ds.length = n ∧ ∀ i d, ds[i]? = some d → ∃ p', DataW.trod enc P w base sp held fuel' e ((cs.drop (i * P.cellsOf e)).take (P.cellsOf e)) = some (d, p') := by
  cases fuel with
  | zero => simp [DataW.trod] at h
  | succ fuel =>
    simp only [DataW.trod, ht] at h
    split at h
    · rename_i hl
      obtain ⟨xs, hm, hx⟩ := Option.map_eq_some_iff.1 h
      simp only [Prod.mk.injEq, DataW.agg.injEq] at hx
      have hxl : xs.length = n := by simpa using Lib.mapM_length hm
      refine ⟨fuel, hl, by rw [← hx.1]; simpa using hxl, fun i d hd => ?_⟩
      rw [← hx.1, List.getElem?_map, Option.map_eq_some_iff] at hd
      obtain ⟨y, hy, rfl⟩ := hd
      have hi : i < n := by
        rcases Nat.lt_or_ge i n with hi | hi
        · exact hi
        · rw [List.getElem?_eq_none (by omega)] at hy; cases hy
      obtain ⟨b, hb, hf⟩ := Lib.mapM_at hm i i (by simp [hi])
      rw [hy] at hb
      cases hb
      exact ⟨y.2, hf⟩
    · cases h
theorem trod_two {f0 f1 : Field} {a b : B} (ht : P.underlying t = some (.struct #[f0, f1])) (h0 : f0.offset = 0) (h1 : f1.offset = 1) (u0 : P.underlying f0.type = some .string) (u1 : P.underlying f1.type = some .string) (c0 : P.cellsOf f0.type = 1) (c1 : P.cellsOf f1.type = 1) (ct : P.cellsOf t = 2)
    (h : DataW.trod enc P w base sp held fuel t cs = some (.agg [.lit (.string a), .lit (.string b)], p)) : cs = [.string (bs a), .string (bs b)] := by
  cases fuel with
  | zero => simp [DataW.trod] at h
  | succ fuel =>
    simp only [DataW.trod, ht] at h
    split at h
    · rename_i hl
      rw [ct] at hl
      obtain ⟨xs, hm, hx⟩ := Option.map_eq_some_iff.1 h
      simp only [Prod.mk.injEq, DataW.agg.injEq] at hx
      obtain ⟨b0, hb0, hf0⟩ := Lib.mapM_at hm 0 f0 (by simp)
      obtain ⟨b1, hb1, hf1⟩ := Lib.mapM_at hm 1 f1 (by simp)
      have e0 := congrArg (·[0]?) hx.1
      have e1 := congrArg (·[1]?) hx.1
      simp only [List.getElem?_map, hb0, hb1, Option.map_some, List.getElem?_cons_zero, List.getElem?_cons_succ, Option.some.injEq] at e0 e1
      rw [h0, c0] at hf0
      rw [h1, c1] at hf1
      have g0 := trod_str (l := a) (p := b0.2) u0 (by rw [hf0, ← e0])
      have g1 := trod_str (l := b) (p := b1.2) u1 (by rw [hf1, ← e1])
      match cs, hl with
      | [x, y], _ =>
        simp only [List.drop_zero, List.take_succ_cons, List.take_zero, List.cons.injEq, and_true] at g0
        simp only [List.drop_succ_cons, List.drop_zero, List.take_succ_cons, List.take_zero, List.cons.injEq, and_true] at g1
        rw [g0, g1]
    · cases h
end
theorem flat_chunks {α : Type} (f : α → List Value) (m : Nat) (hf : ∀ x, (f x).length = m) : ∀ (l : List α) (cs : List Value), cs.length = l.length * m → (∀ i x, l[i]? = some x → (cs.drop (i * m)).take m = f x) → cs = l.flatMap f
  | [], cs, hl, _ => by simpa using hl
  | x :: l, cs, hl, h => by
    have h0 := h 0 x rfl
    rw [Nat.zero_mul, List.drop_zero] at h0
    have ih := flat_chunks f m hf l (cs.drop m) (by rw [List.length_drop, hl, List.length_cons, Nat.add_mul]; omega) (fun i y hy => by
      have := h (i + 1) y (by simpa using hy)
      rw [List.drop_drop, show m + i * m = (i + 1) * m by rw [Nat.add_mul]; omega]
      exact this)
    rw [List.flatMap_cons, ← h0, ← ih, List.take_append_drop]
theorem cells_of_var {P : Program} {w : World} {n : String} {g : Nat} {cs : Array Value} (hg : P.globalNamed n = some g) (h : w.var? P n = some cs) : (∀ j, w.cell? ⟨g, j, none⟩ = cs[j]?) ∧ g < w.heap.size := by
  unfold World.var? at h
  rw [hg] at h
  simp only [Option.bind_some] at h
  split at h
  · rename_i cs' t f hh
    cases h
    exact ⟨fun j => by simp [World.cell?, hh], by rw [Array.getElem?_eq_some_iff] at hh; exact hh.1⟩
  · cases h
theorem shapes_data {H : Type} : (Rows.laid_stow_prog_shapes : DataW H) = .agg (shapeTab.map fun x => .agg [.lit (.string x.1), .lit (.string x.2)]) := rfl
theorem types_data {H : Type} : (Rows.laid_stow_prog_typeWords : DataW H) = .agg (typeTab.map fun x => .lit (.string x)) := rfl
theorem int_of_shape {P : Program} {w : World} {g : Nat} {t : TypeId} {zero : Array Value} (h : w.ShapedOpen P) (hg : g < P.globals.size) (h0 : ((begin P (fun _ _ => 0) default).world.heap[g]?).bind Obj.row? = some (zero, t)) (hz : zero.size = 1)
    (hb : P.buildable t = true) (hc : P.cellTypes P.depth t = some [t]) (hu : P.underlying t = some (.int .i64)) : ∃ m : Int, w.cell? ⟨g, 0, none⟩ = some (.int .i64 m) := by
  obtain ⟨cs, hh, hs, hr⟩ := h.1 g zero t hg h0
  obtain ⟨ts, hts, -, hall⟩ := hr hb
  rw [hc] at hts
  cases hts
  have h1 : 0 < cs.size := by omega
  obtain ⟨u, hu', hok⟩ := hall 0 cs[0] (by simp [h1])
  have : u = t := by simpa using hu'.symm
  subst this
  have hcell : w.cell? ⟨g, 0, none⟩ = some cs[0] := by simp [World.cell?, hh, h1]
  rw [hcell]
  unfold Cell.ok at hok
  rw [hu] at hok
  cases hv : cs[0] <;> rw [hv] at hok <;> simp at hok
  rename_i k n
  obtain ⟨rfl, -⟩ := hok
  exact ⟨n, rfl⟩
theorem met_of {P : Program} {laid : List (String × DataW Unit)} {W : World} (hf : (laid.filter fun x => x.2.handleName?.isSome) = []) (h : laidMetH P laid W) : laidMet P laid W := by
  unfold laidMetH at h; rw [hf] at h; exact h
theorem laid_mem {P : Program} {w : World} {n : String} {d : DataW Unit} : ∀ {laid : List (String × DataW Unit)} {ps : List MemPlace}, DataW.LaidVars P w laid ps → (n, d) ∈ laid → ∃ g t cs fuel p, P.globalNamed n = some g ∧ (P.globals[g]?).map (·.type) = some t ∧ w.var? P n = some cs ∧ DataW.trod (fun _ => ()) P w 0 (fun _ => true) false fuel t cs.toList = some (d, p)
  | [], _, _, hm => by cases hm
  | (n', d') :: r, ps, h, hm => by
    obtain ⟨g, t, cs, fuel, p, q, h1, h2, h3, h4, h5, -⟩ := h
    rcases List.mem_cons.1 hm with e | hm
    · cases e; exact ⟨g, t, cs, fuel, p, h1, h2, h3, h4⟩
    · exact laid_mem h5 hm
theorem name_shapes : Tryz.prog.globalNamed "stow/prog.shapes" = some 0 := by kernel_rfl
theorem name_types : Tryz.prog.globalNamed "stow/prog.typeWords" = some 1 := by kernel_rfl
theorem name_syn : Tryz.prog.globalNamed "strconv.ErrSyntax" = some 9 := by kernel_rfl
theorem name_rng : Tryz.prog.globalNamed "strconv.ErrRange" = some 10 := by kernel_rfl
theorem type_shapes : (Tryz.prog.globals[0]?).map (·.type) = some 148 := by kernel_rfl
theorem type_types : (Tryz.prog.globals[1]?).map (·.type) = some 149 := by kernel_rfl
theorem type_syn : (Tryz.prog.globals[9]?).map (·.type) = some 221 := by kernel_rfl
theorem type_rng : (Tryz.prog.globals[10]?).map (·.type) = some 221 := by kernel_rfl
theorem cells_shapes : Tryz.prog.cellsOf 148 = 46 := by kernel_rfl
theorem cells_shape : Tryz.prog.cellsOf 147 = 2 := by kernel_rfl
theorem cells_types : Tryz.prog.cellsOf 149 = 4 := by kernel_rfl
theorem cells_string : Tryz.prog.cellsOf 9 = 1 := by kernel_rfl
theorem many : Tryz.prog.globals.size = 11 := by kernel_rfl
/-- what the list of a row gives the reader -/
theorem env_of {laid : List (String × DataW Unit)} {W : World} (hL : laidMet Tryz.prog laid W) (hsh : W.ShapedOpen Tryz.prog) (m1 : ("stow/prog.shapes", Rows.laid_stow_prog_shapes) ∈ laid) (m2 : ("stow/prog.typeWords", Rows.laid_stow_prog_typeWords) ∈ laid)
    (m3 : ("strconv.ErrSyntax", Rows.laid_strconv_ErrSyntax) ∈ laid) (m4 : ("strconv.ErrRange", Rows.laid_strconv_ErrRange) ∈ laid) : Env W := by
  obtain ⟨ps, hV, -⟩ := hL
  refine ⟨?_, ?_, ?_, ?_, ?_, ?_⟩
  · obtain ⟨g, t, cs, fuel, p, h1, h2, h3, h4⟩ := laid_mem hV m1
    rw [name_shapes] at h1
    cases h1
    rw [type_shapes] at h2
    cases h2
    rw [shapes_data] at h4
    obtain ⟨fuel', hl, hn, hi⟩ := trod_arr Tryz.underlying148 h4
    rw [cells_shapes] at hl
    have hcs : cs.toList = shapeCells := by
      refine flat_chunks (fun x : B × B => [.string (bs x.1), .string (bs x.2)]) 2 (fun _ => rfl) shapeTab cs.toList hl fun i x hx => ?_
      obtain ⟨p', hp'⟩ := hi i (.agg [.lit (.string x.1), .lit (.string x.2)]) (by rw [List.getElem?_map, hx]; rfl)
      rw [cells_shape] at hp'
      exact trod_two Tryz.underlying147 rfl rfl Tryz.underlying9 Tryz.underlying9 cells_string cells_string cells_shape hp'
    obtain ⟨hc, -⟩ := cells_of_var name_shapes h3
    intro j v hv
    rw [Nat.zero_add, hc, ← Array.getElem?_toList, hcs]
    exact hv
  · obtain ⟨g, t, cs, fuel, p, h1, h2, h3, h4⟩ := laid_mem hV m2
    rw [name_types] at h1
    cases h1
    rw [type_types] at h2
    cases h2
    rw [types_data] at h4
    obtain ⟨fuel', hl, hn, hi⟩ := trod_arr Tryz.underlying149 h4
    rw [cells_types] at hl
    have hcs : cs.toList = typeTab.flatMap (fun x : B => [.string (bs x)]) := by
      refine flat_chunks (fun x : B => [.string (bs x)]) 1 (fun _ => rfl) typeTab cs.toList hl fun i x hx => ?_
      obtain ⟨p', hp'⟩ := hi i (.lit (.string x)) (by rw [List.getElem?_map, hx]; rfl)
      rw [cells_string] at hp'
      exact trod_str Tryz.underlying9 hp'
    obtain ⟨hc, -⟩ := cells_of_var name_types h3
    intro j v hv
    rw [Nat.zero_add, hc, ← Array.getElem?_toList, hcs]
    exact hv
  · exact int_of_shape hsh (by rw [many]; decide) (g := 3) (t := 3) (zero := #[.int .i64 0]) (by kernel_rfl) rfl (by kernel_rfl) (by kernel_rfl) Tryz.underlying3
  · obtain ⟨g, t, cs, fuel, p, h1, h2, h3, h4⟩ := laid_mem hV m3
    rw [name_syn] at h1
    cases h1
    rw [type_syn] at h2
    cases h2
    obtain ⟨fuel', u, v, hcs, -⟩ := iface_of_trod Tryz.underlying221 h4
    obtain ⟨hc, -⟩ := cells_of_var name_syn h3
    exact ⟨u, v, by rw [hc, ← Array.getElem?_toList, hcs]; rfl⟩
  · obtain ⟨g, t, cs, fuel, p, h1, h2, h3, h4⟩ := laid_mem hV m4
    rw [name_rng] at h1
    cases h1
    rw [type_rng] at h2
    cases h2
    obtain ⟨fuel', u, v, hcs, -⟩ := iface_of_trod Tryz.underlying221 h4
    obtain ⟨hc, -⟩ := cells_of_var name_rng h3
    exact ⟨u, v, by rw [hc, ← Array.getElem?_toList, hcs]; rfl⟩
  · obtain ⟨g, t, cs, fuel, p, h1, h2, h3, h4⟩ := laid_mem hV m4
    have := (cells_of_var name_rng h3).2
    omega
end Go.Proofs.YtmlgajhhnojdjaaGreatDoor.PrjY
/- What the cards' lists and arguments give besides: the table of powers; a list of numbers in memory. -/
namespace Go.Proofs.YtmlgajhhnojdjaaGreatDoor.PrjY
open Go Go.RowKit Go.Proofs.YtmlgajhhnojdjaaGreatDoor.Spec Go.Proofs.YtmlgajhhnojdjaaGreatDoor.Own

theorem type_pow : (Tryz.prog.globals[4]?).map (·.type) = some 299 := by kernel_rfl
theorem pow_data {H : Type} : (Rows.laid_internal_strconv_uint64pow10 : DataW H) = Lib.tabData .u64 Lib.pow10Tab := rfl
theorem cells_u64 : Tryz.prog.cellsOf 281 = 1 := by kernel_rfl
theorem cells_pow : Tryz.prog.cellsOf 299 = 20 := by kernel_rfl
theorem cells_i64 : Tryz.prog.cellsOf 2 = 1 := by kernel_rfl
theorem pow_of {laid : List (String × DataW Unit)} {W : World} (hL : laidMet Tryz.prog laid W) (m : ("internal/strconv.uint64pow10", Rows.laid_internal_strconv_uint64pow10) ∈ laid) : Own.Pow W := by
  obtain ⟨ps, hV, -⟩ := hL
  obtain ⟨g, t, cs, fuel, p, h1, h2, h3, h4⟩ := laid_mem hV m
  rw [pow_at] at h1
  cases h1
  rw [type_pow] at h2
  cases h2
  rw [pow_data] at h4
  have := Lib.cells_of_tab Tryz.underlying299 Tryz.underlying281 cells_u64 cells_pow h4
  unfold Own.Pow Lib.TabIs
  rw [h3, ← this]
theorem lt_of_cell {W : World} {g o : Nat} {v : Value} (h : W.cell? ⟨g, o, none⟩ = some v) : g < W.heap.size := by
  by_cases hg : g < W.heap.size
  · exact hg
  · rw [World.cell?] at h
    simp only [Array.getElem?_eq_none (Nat.le_of_not_lt hg)] at h
    cases h
theorem isI64_of {n : Int} (h : (Lit.int .i64 n).wf = true) : isI64 n := by
  have e1 : IntKind.i64.min = -9223372036854775808 := rfl
  have e2 : IntKind.i64.max = 9223372036854775807 := rfl
  unfold isI64; simpa [Lit.wf, e1, e2] using h
/-- a list of numbers that came in -/
theorem feed_open {H : Type} {enc : TypeId × Value → H} {W : World} {a0 : Option Addr} {len cap fuel : Nat} {x : DataW H × List MemPlace} (h : DataW.trod enc Tryz.prog W 0 (fun _ => true) true fuel 42 [.slice a0 len cap] = some x) : ∃ inp, FeedAt W (.slice a0 len cap) inp ∧ ∀ n ∈ inp, isI64 n := by
  rcases Go.ChangeShapes.open_ints Tryz.underlying42 Tryz.underlying2 cells_i64 h with ⟨h0, -⟩ | ⟨a, len', cap', zs, h0, -, hl, hm, hzl, -, hx, hwf⟩
  · simp only [List.cons.injEq, Value.slice.injEq, and_true] at h0
    obtain ⟨rfl, rfl, rfl⟩ := h0
    exact ⟨[], ⟨none, 0, rfl, Nat.le_refl _, Nat.zero_le _, fun j hj => absurd hj (Nat.not_lt_zero _)⟩, fun n hn => by cases hn⟩
  · simp only [List.cons.injEq, Value.slice.injEq, and_true] at h0
    obtain ⟨rfl, rfl, rfl⟩ := h0
    simp only [if_true] at hzl
    have htl : (zs.take len).length = len := by rw [List.length_take]; omega
    refine ⟨zs.take len, ⟨some a, cap, by rw [htl], by rw [htl]; exact hl, hm, fun j hj => ?_⟩, fun n hn => isI64_of (hwf n (List.mem_of_mem_take hn))⟩
    rw [htl] at hj
    obtain ⟨b, off, spot⟩ := a
    have hc := hx j (by omega)
    have hspot : spot = none := by simpa [Addr.add] using World.cell?_spot (hx 0 (by omega))
    subst hspot
    have hc' : W.cell? ⟨b, off + j, none⟩ = some (.int .i64 (zs.getD j 0)) := by
      by_cases e : j = 0
      · subst e; simpa [Addr.add] using hc
      · simpa [Addr.add, e] using hc
    refine ⟨b, off, rfl, lt_of_cell hc', ?_⟩
    rw [hc', List.getD_eq_getElem?_getD, List.getD_eq_getElem?_getD, List.getElem?_take_of_lt hj]
end Go.Proofs.YtmlgajhhnojdjaaGreatDoor.PrjY
