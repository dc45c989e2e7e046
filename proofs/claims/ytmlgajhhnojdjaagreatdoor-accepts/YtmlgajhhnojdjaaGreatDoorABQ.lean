/- The law Fueled, walked: more fuel goes on where less has stopped. For texts of at most 2^20 letters, in every world that holds the tables. -/
import Derived.Test.YtmlgajhhnojdjaaGreatDoorABP
import Derived.Test.YtmlgajhhnojdjaaGreatDoorABJ
import Derived.Test.YtmlgajhhnojdjaaGreatDoorABK
import Derived.Deep.QuietTactic
import Derived.Deep.LoopGhost
import Derived.Deep.RegionLaw
import Derived.BigRegion
import Derived.BigQuiet
import Derived.Deep.DeepCutAuto
namespace Go.Proofs.YtmlgajhhnojdjaaGreatDoor.RunB
open Go Go.RowKit Go.Proofs.YtmlgajhhnojdjaaGreatDoor.Spec Go.Proofs.YtmlgajhhnojdjaaGreatDoor.Aux Go.Proofs.YtmlgajhhnojdjaaGreatDoor.Own Go.Proofs.YtmlgajhhnojdjaaGreatDoor.RunA Go.Proofs.YtmlgajhhnojdjaaGreatDoor.PrjG Go.Proofs.YtmlgajhhnojdjaaGreatDoor.PrjJ Go.Proofs.YtmlgajhhnojdjaaGreatDoor.PrjK Go.Proofs.YtmlgajhhnojdjaaGreatDoor.PrjM Go.Proofs.YtmlgajhhnojdjaaGreatDoor.PrjS Go.Proofs.YtmlgajhhnojdjaaGreatDoor.FlwZ Go.Proofs.YtmlgajhhnojdjaaGreatDoor.FlwZa Go.Proofs.YtmlgajhhnojdjaaGreatDoor.MadC Go.Proofs.YtmlgajhhnojdjaaGreatDoor.MadE

/-- a run stays within bounds -/
theorem run_in (q : QP) (room : Int) (h12 : q.locals.length ≤ 12) (hq : ∀ j, ∀ l ∈ q.blocks.getD j [], isI64 l.number) : ∀ (f : Nat) (ls : List QLine) (o : Go.Proofs.YtmlgajhhnojdjaaGreatDoor.Own.Own) (ans : Nat × Int × Go.Proofs.YtmlgajhhnojdjaaGreatDoor.Own.Own) (t : Nat), (∀ l ∈ ls, isI64 l.number) → o.In t → t + 3 * f + 24 ≤ 1000000 → runO q room f ls o = some ans → ans.2.2.In (t + 3 * f + 24)
  | f, [], o, ans, t, _, _, _, h => by cases f <;> simp [runO] at h
  | 0, l :: ls, o, ans, t, _, hI, _, h => by
    rw [runO] at h; cases h; exact hI.mono (by omega)
  | f + 1, l :: ls, o, ans, t, hl, hI, ht, h => by
    have hl' : ∀ m ∈ ls, isI64 m.number := fun m hm => hl m (List.mem_cons_of_mem _ hm)
    rw [runO] at h
    split at h
    · split at h
      · cases h; exact hI.mono (by omega)
      · exact (run_in q room h12 hq f ls (o.calc l) ans t hl' (hI.setInt _ (calc_i64 _ _ _)) (by omega) h).mono (by omega)
    · split at h
      · have hd := hI.drop [plOf l 0] (by simp; omega)
        split at h
        · cases h; exact hd.mono (by simp; omega)
        · exact (run_in q room h12 hq f ls _ ans (t + 1 + 1) hl' (hd.new (by simp; omega) _ (hI.num _)) (by omega) h).mono (by omega)
      · split at h
        · split at h
          · exact (run_in q room h12 hq f _ o ans t (hq _) hI (by omega) h).mono (by omega)
          · cases h
        · split at h
          · cases h; exact (hI.dropAll q q.locals.length (by omega)).mono (by omega)
          · split at h
            · exact (run_in q room h12 hq f ls _ ans (t + 3) hl' (hI.do1 (by omega) q l (hl l (List.mem_cons_self ..))) (by omega) h).mono (by omega)
            · cases h
theorem Good.nums {text : B} {q : QP} (h : Good text q) : ∀ j, ∀ l ∈ q.blocks.getD j [], isI64 l.number := fun j l hl => by
  obtain ⟨p, E, -, hD, -⟩ := h.done
  have := (hD.both.qok.lines _ (getD_memB hl) l hl).number
  unfold isI64; omega
theorem Good.twelve {text : B} {q : QP} (h : Good text q) : q.locals.length ≤ 12 := by
  obtain ⟨p, E, -, hD, -⟩ := h.done
  exact hD.both.twelve
theorem run_short {text : B} {q : QP} (h : Good text q) {inp : List Int} (hi : ∀ n ∈ inp, isI64 n) {room : Int} {f : Nat} (hf : f ≤ 1000) {ans : Nat × Int × Go.Proofs.YtmlgajhhnojdjaaGreatDoor.Own.Own} (hr : runO q room f (q.blocks.getD 0 []) (Own.start inp) = some ans) : ans.2.2.In 3024 ∧ ans.2.2.yd.text.length ≤ 93744 := by
  have hI := (run_in q room h.twelve h.nums f _ _ ans 0 (h.nums 0) (Own.In.start hi) (by omega) hr).mono (show 0 + 3 * f + 24 ≤ 3024 by omega)
  refine ⟨hI, ?_⟩
  have h1 := join_len _ hI.words
  have h2 := hI.trace
  unfold Yd.text
  omega
end Go.Proofs.YtmlgajhhnojdjaaGreatDoor.RunB
/- The law Balanced, walked: of every program that Check takes, whatever comes in: no box is used or freed ahead of its making or behind its freeing, none twice; at an end none is left. For texts of at most 2^20 letters, in every world that holds the tables. -/
namespace Go.Proofs.YtmlgajhhnojdjaaGreatDoor.Bal
open Go Go.RowKit Go.Proofs.YtmlgajhhnojdjaaGreatDoor.Spec Go.Proofs.YtmlgajhhnojdjaaGreatDoor.Aux Go.Proofs.YtmlgajhhnojdjaaGreatDoor.Own Go.Proofs.YtmlgajhhnojdjaaGreatDoor.RunA Go.Proofs.YtmlgajhhnojdjaaGreatDoor.RunB Go.Proofs.YtmlgajhhnojdjaaGreatDoor.PrjG Go.Proofs.YtmlgajhhnojdjaaGreatDoor.PrjJ Go.Proofs.YtmlgajhhnojdjaaGreatDoor.PrjK Go.Proofs.YtmlgajhhnojdjaaGreatDoor.PrjM Go.Proofs.YtmlgajhhnojdjaaGreatDoor.PrjS Go.Proofs.YtmlgajhhnojdjaaGreatDoor.FlwZ Go.Proofs.YtmlgajhhnojdjaaGreatDoor.FlwZa Go.Proofs.YtmlgajhhnojdjaaGreatDoor.MadC Go.Proofs.YtmlgajhhnojdjaaGreatDoor.MadE

/-- what a run of a program that was checked leaves -/
theorem run_tells {text : B} {inp : List Int} {fuel room : Int} {v : Value} {c k : Int} (hi : ∀ x ∈ inp, isI64 x) (h : RunIs text inp fuel room v c k) (hm : mayRun inp fuel room) : (¬ c = 0 ∧ v = zeroRes) ∨
    (c = 0 ∧ k = 0 ∧ ∃ (o x : Int) (t : B) (l : Int) (L : List Bool), v = .agg #[.int .i64 o, .int .i64 x, .string (bs t), .int .i64 l] ∧ tell t = ⟨L, l, true⟩ ∧ t.length ≤ 93744 ∧ (-3024 ≤ l ∧ l ≤ 3024) ∧ ((o = 1 ∧ l = 0) ∨ ((o = 2 ∨ o = 3 ∨ o = 4) ∧ x = 0))) := by
  rcases h with ⟨-, h1, rfl⟩ | ⟨-, h1, -⟩ | ⟨-, rfl, rfl, q, ans, hg, hr, rfl⟩
  · exact .inl ⟨h1, rfl⟩
  · exact absurd hm h1
  · obtain ⟨-, h2, h3, -, -⟩ := hm
    obtain ⟨ans', hr', hF⟩ := hg.run (bal_steps hg.twelve) ⟨start_fit q inp, start_bal q inp⟩ room fuel.toNat
    rw [hr] at hr'
    cases hr'
    obtain ⟨hB, hE⟩ := run_bal hg.twelve hF
    obtain ⟨hI, hS⟩ := run_short hg hi (by omega) hr
    have hmade := run_made q room _ _ _ _ hr
    have hm0 : (Own.start inp).yd.made.length = 0 := rfl
    exact .inr ⟨rfl, rfl, (ans.1 : Nat), ans.2.1, ans.2.2.yd.text, ans.2.2.yd.live, _, rfl, hB.y.tells (by omega), hS, by have := hI.live; omega, by omega⟩
end Go.Proofs.YtmlgajhhnojdjaaGreatDoor.Bal
/- Programs that are made line by line: the makers' loops, walked. -/
namespace Go.Proofs.YtmlgajhhnojdjaaGreatDoor.MadF
open Go Go.RowKit Go.Proofs.YtmlgajhhnojdjaaGreatDoor.Spec Go.Proofs.YtmlgajhhnojdjaaGreatDoor.Aux Go.Proofs.YtmlgajhhnojdjaaGreatDoor.PrjJ Go.Proofs.YtmlgajhhnojdjaaGreatDoor.PrjK Go.Proofs.YtmlgajhhnojdjaaGreatDoor.MadA Go.Proofs.YtmlgajhhnojdjaaGreatDoor.MadM Go.Proofs.YtmlgajhhnojdjaaGreatDoor.MadB Go.Proofs.YtmlgajhhnojdjaaGreatDoor.MadC Go.Proofs.YtmlgajhhnojdjaaGreatDoor.MadD Go.Proofs.YtmlgajhhnojdjaaGreatDoor.MadE

def i64 (x : Int) : Prop := -9223372036854775808 ≤ x ∧ x ≤ 9223372036854775807
/-- raw acts in memory -/
def ActsAt (w : World) (v : Value) (n : Nat) : Prop :=
  ∃ ad cap, v = .slice ad n cap ∧ n ≤ cap ∧ cap ≤ maxLen ∧ ∀ j, j < n → ∃ g o, ad = some ⟨g, o, none⟩ ∧ g < w.heap.size ∧ ∃ x y z, i64 x ∧ i64 y ∧ i64 z ∧ w.cell? ⟨g, o + j * 3, none⟩ = some (.int .i64 x) ∧ w.cell? ⟨g, o + j * 3 + 1, none⟩ = some (.int .i64 y) ∧ w.cell? ⟨g, o + j * 3 + 2, none⟩ = some (.int .i64 z)
theorem cell_below {w w' : World} (hb : Below w.heap.size w w') {g : Nat} (hg : g < w.heap.size) (o : Nat) : w'.cell? ⟨g, o, none⟩ = w.cell? ⟨g, o, none⟩ := by
  have := hb.block g hg
  simp only [World.cell?, this]
/-- the lines so far, as they lie in memory -/
def SoFar (w : World) (a : Nat) (L : List ML) (m : MM) : Prop := MakAt w a (bs (txt L)) (8 + L.length) m
theorem SoFar.acted {w w' : World} {a : Nat} {L : List ML} {m : MM} {x : Option (ML × MM)} (h : Acted w a (bs (txt L)) (8 + L.length) m x w') : Turn a w w' ∧ ((x = none ∧ SoFar w' a L m) ∨ ∃ l m', x = some (l, m') ∧ SoFar w' a (L ++ [l]) m') := by
  match x, h with
  | none, h => exact ⟨h.2, .inl ⟨rfl, h.1⟩⟩
  | some (l, m'), h =>
    refine ⟨h.2, .inr ⟨l, m', rfl, ?_⟩⟩
    have := h.1
    rw [bs_line] at this
    unfold SoFar
    rw [List.length_append]
    exact this
theorem txt_size {L : List ML} {k : Nat} (h : L.length ≤ k) : (bs (txt L)).size ≤ 100 + 13 * k := by
  rw [bs_size]; have := txt_len L; omega
set_option maxRecDepth 20000 in
set_option maxHeartbeats 2000000 in
theorem straight_any (v : Value) (n : Nat) (w : World) (hv : ActsAt w v n) : Calls Tryz.prog 15 #[v] w fun e w' => ∃ a L m, e = .returned (.pointer (some ⟨a, 0, none⟩)) ∧ SoFar w' a L m ∧ Made L m ∧ L.length ≤ 100 ∧ w.heap.size ≤ a ∧ Below w.heap.size w w' := by
  have KB := begun_any w
  obtain ⟨ad, cap, rfl, hcap, hmax, hc⟩ := hv
  go_enter Tryz.func15, Tryz.ntmps15
  go_wp2_with (go_at_call 36; refine KB.mono ?_; rintro e w1 ⟨a, rfl, h1, ha, hb1⟩)
  go_loopg [4] (100) (fun g v4 wr => ∃ (i : Nat) (L : List ML) (m : MM), i ≤ 100 ∧ g + i = 100 ∧ v4 = .int .i64 i ∧ SoFar wr a L m ∧ Hid (Made L m) ∧ L.length ≤ i ∧ Below w.heap.size w wr)
  case atStart => exact ⟨0, [], MM0, by omega, by omega, rfl, h1, Made.start, by simp, hb1⟩
  case round =>
    obtain ⟨i, L, m, hi, hgi, rfl, hS, HM, hL, hB⟩ := hrel
    by_cases hlt : i < n ∧ i < 100
    · obtain ⟨hin, hi100⟩ := hlt
      have hinI : (i : Int) < (n : Int) := by omega
      have hi1I : (i : Int) < 100 := by omega
      obtain ⟨g', o, rfl, hg, x, y, z, a1, a2, a3, c1, c2, c3⟩ := hc i hin
      rw [← cell_below hB hg] at c1 c2 c3
      have hgr : g' < wr.heap.size := Nat.lt_of_lt_of_le hg hB.size
      have KA := act_any (w := wr.drew) (a := a) (T := bs (txt L)) (n := 8 + L.length) (m := m) hS x y z a1 a2 a3 (by have := txt_size hL; omega) (by omega)
      go_wp2
      go_region_with (go_at_call 20; refine KA.mono ?_; rintro e w2 ⟨rfl, hA⟩; obtain ⟨hT, hD⟩ := SoFar.acted hA; have HD : Hid (_) := hD; have hTT : Hid (Turn a wr w2) := ⟨hT.os, hT.tape, hT.output, hT.size, hT.block⟩; clear hA hD hT)
      all_goals go_wp2_with fail
      all_goals
        go_roundg (100 - (i + 1))
        case measure => omega
        case rel =>
          have hB2 : Below w.heap.size w w2 := hB.trans (hTT.out.below ha hB.size)
          rcases HD.out with ⟨-, h2⟩ | ⟨l, m', hs, h2⟩
          · exact ⟨i + 1, L, m, by omega, by omega, by go_num, h2, HM, by omega, hB2⟩
          · exact ⟨i + 1, L ++ [l], m', by omega, by omega, by go_num, h2, Made.line HM.out (step_right hs), by rw [List.length_append]; simp; omega, hB2⟩
    · have hc : (decide ((i : Int) < (n : Int)) && decide ((i : Int) < 100)) = false := by
        rw [Bool.and_eq_false_iff]
        by_cases h1 : i < n
        · right; rw [decide_eq_false_iff_not]; omega
        · left; rw [decide_eq_false_iff_not]; omega
      by_cases h1 : i < n
      · have h1I : (i : Int) < (n : Int) := by omega
        have h2I : ¬ (i : Int) < 100 := by omega
        go_wp2
        go_ret
        exact ⟨a, rfl, L, m, hS, HM.out, by omega, ha, hB⟩
      · have h1I : ¬ (i : Int) < (n : Int) := by omega
        go_wp2
        go_ret
        exact ⟨a, rfl, L, m, hS, HM.out, by omega, ha, hB⟩
end Go.Proofs.YtmlgajhhnojdjaaGreatDoor.MadF
/- The law Refuses, walked: whatever the raw acts, in every world that holds the tables. -/
namespace Go.Proofs.YtmlgajhhnojdjaaGreatDoor.MadG
theorem hereMadG : True := trivial
end Go.Proofs.YtmlgajhhnojdjaaGreatDoor.MadG
/- The law Accepts, walked: a program of one block that is made of raw acts is taken, and ends with all its boxes freed. Whatever the raw acts, in every world that holds the tables. -/
namespace Go.Proofs.YtmlgajhhnojdjaaGreatDoor.Bal
open Go Go.RowKit Go.Proofs.YtmlgajhhnojdjaaGreatDoor.Spec Go.Proofs.YtmlgajhhnojdjaaGreatDoor.Aux Go.Proofs.YtmlgajhhnojdjaaGreatDoor.Own Go.Proofs.YtmlgajhhnojdjaaGreatDoor.RunA Go.Proofs.YtmlgajhhnojdjaaGreatDoor.RunB Go.Proofs.YtmlgajhhnojdjaaGreatDoor.PrjG Go.Proofs.YtmlgajhhnojdjaaGreatDoor.PrjJ Go.Proofs.YtmlgajhhnojdjaaGreatDoor.PrjK Go.Proofs.YtmlgajhhnojdjaaGreatDoor.PrjM Go.Proofs.YtmlgajhhnojdjaaGreatDoor.PrjS Go.Proofs.YtmlgajhhnojdjaaGreatDoor.FlwZ Go.Proofs.YtmlgajhhnojdjaaGreatDoor.FlwZa Go.Proofs.YtmlgajhhnojdjaaGreatDoor.MadA Go.Proofs.YtmlgajhhnojdjaaGreatDoor.MadM Go.Proofs.YtmlgajhhnojdjaaGreatDoor.MadB Go.Proofs.YtmlgajhhnojdjaaGreatDoor.MadC Go.Proofs.YtmlgajhhnojdjaaGreatDoor.MadE Go.Proofs.YtmlgajhhnojdjaaGreatDoor.MadF Go.Proofs.YtmlgajhhnojdjaaGreatDoor.MadG

/-! no more boxes live than there are places -/
theorem above_split (k : Nat) : ∀ cs : List Nat, cs.countP (fun n => decide (k < n)) = cs.countP (fun n => decide (k + 1 < n)) + cs.count (k + 1)
  | [] => rfl
  | c :: cs => by
    rw [List.countP_cons, List.countP_cons, List.count_cons, above_split k cs]
    simp only [decide_eq_true_eq, beq_iff_eq]
    split <;> split <;> split <;> omega
theorem count_above (cs : List Nat) : ∀ (ms : List Bool) (k : Nat), (∀ j, j < ms.length → ms.getD j false = true → 1 ≤ cs.count (k + 1 + j)) → ms.count true ≤ cs.countP (fun n => decide (k < n))
  | [], _, _ => by simp
  | b :: ms, k, h => by
    have ih := count_above cs ms (k + 1) (fun j hj hb => by
      have := h (j + 1) (by simpa using hj) (by simpa using hb)
      rwa [show k + 1 + (j + 1) = k + 1 + 1 + j by omega] at this)
    rw [above_split k cs, List.count_cons]
    cases b with
    | false => simp; omega
    | true =>
      have := h 0 (by simp) rfl
      rw [Nat.add_zero] at this
      simp only [beq_self_eq_true, if_true]
      omega
theorem live_le {cs : List Nat} {y : Yd} (h : BalY cs y) : y.live ≤ cs.length := by
  rw [h.sum]
  have h1 := count_above cs (y.made.map (·.2)) 0 (fun j _ hb => by
    have ht := h.tal (0 + 1 + j) (by omega)
    have hl : (y.at (0 + 1 + j)).2 = true := by rw [← at_map, show 0 + 1 + j - 1 = j by omega]; exact hb
    unfold liveN at ht
    rw [if_pos hl] at ht
    omega)
  have h2 := List.countP_le_length (l := cs) (p := fun n => decide (0 < n))
  omega
/-- a straight program comes to its end -/
theorem straight_ends {q : QP} (h12 : q.locals.length ≤ 12) {e : QLine} (he : e.op = 22) : ∀ (xs : List QLine) (f : Nat) (o : Go.Proofs.YtmlgajhhnojdjaaGreatDoor.Own.Own) (ans : Nat × Int × Go.Proofs.YtmlgajhhnojdjaaGreatDoor.Own.Own), (∀ l ∈ xs, LnOk q l ∧ (goesOn l.op ∨ l.op = 9)) → xs.length < f → BalH q [] o → runO q 50 f (xs ++ [e]) o = some ans → ans.1 = 1
  | xs, 0, _, _, _, hf, _, _ => by omega
  | [], f + 1, o, ans, _, _, _, h => by
    rw [List.nil_append, runO, if_neg (by omega), if_neg (by omega), if_neg (by omega), if_pos he] at h
    cases h; rfl
  | l :: xs, f + 1, o, ans, hx, hf, hb, h => by
    obtain ⟨hl, hop⟩ := hx l (List.mem_cons_self ..)
    have hx' : ∀ m ∈ xs, LnOk q m ∧ (goesOn m.op ∨ m.op = 9) := fun m hm => hx m (List.mem_cons_of_mem _ hm)
    have hf' : xs.length < f := by simpa using hf
    rw [List.cons_append, runO] at h
    rcases hop with hgo | h9
    · have hgo' := hgo
      unfold goesOn at hgo'
      rw [if_neg (by omega), if_neg (by omega), if_neg (by omega), if_neg (by omega)] at h
      split at h
      · rename_i hn
        exact straight_ends h12 he xs f _ ans hx' hf' (line_bal h12 hl hgo hn hb) h
      · cases h
    · obtain ⟨h1, c, h2, h3, h4⟩ := first_in hl h9
      rw [if_neg (by omega), if_pos h9] at h
      split at h
      · rename_i hr
        have hd := drop_bal [plOf l 0] hb (fun p hp => by rw [List.mem_singleton.1 hp]; exact slot_in (by omega))
        have := live_le hd.y
        have hlen := hd.len
        simp only [List.nil_append] at this
        omega
      · exact straight_ends h12 he xs f _ ans hx' hf' (new_bal hb (slot_in (by omega)) (real_of h1 h2 h3 _ (by rw [h4]; simp)) _) h
theorem qline_op (l : ML) (n : Nat) : goesOn (l.q n).op ∨ (l.q n).op = 9 := by
  cases l <;> simp [ML.q, goesOn]
theorem qlines_op : ∀ (L : List ML) (n : Nat), ∀ l ∈ qlines L n, goesOn l.op ∨ l.op = 9
  | [], _, _, h => by cases h
  | m :: L, n, l, h => by
    rw [qlines] at h
    rcases List.mem_cons.1 h with rfl | h
    · exact qline_op m n
    · exact qlines_op L (n + 1) l h
theorem made_len (L : List ML) : ∀ n, (qlines L n).length = L.length := by
  induction L with
  | nil => intro n; rfl
  | cons m L ih => intro n; rw [qlines, List.length_cons, ih, List.length_cons]
/-- a made program runs to its end -/
theorem made_ends {L : List ML} {m : MM} (h : Made L m) (hl : L.length ≤ 100) {v : Value} {c k : Int} (hr : RunIs (madeT L) [] 1000 50 v c k) : c = 0 ∧ ∃ (x : Int) (t : B) (M : List Bool), v = .agg #[.int .i64 1, .int .i64 x, .string (bs t), .int .i64 0] ∧ tell t = ⟨M, 0, true⟩ ∧ t.length ≤ 93744 := by
  have hm : mayRun [] 1000 50 := by unfold mayRun; simp
  have hc := (chk_right h (by omega) (hr.chk hm)).1
  have ht := run_tells (fun x hx => by cases hx) hr hm
  rcases ht with ⟨h0, -⟩ | ⟨-, -, o, x, t, l, M, hv, h1, h2, -, h3⟩
  · exact absurd hc h0
  · refine ⟨hc, x, t, M, ?_⟩
    have ho : o = 1 := by
      rcases hr with ⟨-, h0, -⟩ | ⟨-, h0, -⟩ | ⟨-, -, -, q, ans, hg, hrun, rfl⟩
      · exact absurd hc h0
      · exact absurd hm h0
      · have e := hg.read.symm.trans (made_read L (by omega))
        simp only [Prod.mk.injEq, Option.some.injEq, and_true] at e
        subst e
        simp only [resV, Value.agg.injEq, Array.mk.injEq, List.cons.injEq, Value.int.injEq, true_and] at hv
        obtain ⟨p, E, -, hD, -⟩ := hg.done
        have hS := read_shape hg.read
        have hq := hD.both.qok
        have hln : ∀ l ∈ (madeQ L).blocks.getD 0 [], LnOk (madeQ L) l := fun l hl => ⟨hq.lines _ (getD_memB hl) l hl, hS.has _ l hl, hS.fits _ l hl⟩
        have e1 := straight_ends hg.twelve (e := endQ (8 + L.length)) rfl (headQ ++ qlines L 8) 1000 (Own.start []) ans (fun l hl => ⟨hln l (List.mem_append_left _ hl), ?_⟩) (by rw [List.length_append, made_len]; show 2 + L.length < 1000; omega) (start_bal _ _) hrun
        · have := hv.1; omega
        · rcases List.mem_append.1 hl with hl | hl
          · have : l.op = 2 ∨ l.op = 13 := by
              simp only [headQ, List.mem_cons, List.not_mem_nil, or_false] at hl
              rcases hl with rfl | rfl
              · exact .inl rfl
              · exact .inr rfl
            left; unfold goesOn; omega
          · exact qlines_op L 8 l hl
    subst ho
    have hl0 : l = 0 := by omega
    subst hl0
    exact ⟨hv, h1, h2⟩
set_option maxRecDepth 20000 in
set_option maxHeartbeats 4000000 in
theorem Accepts_any (v : Value) (n : Nat) (w : World) (hv : ActsAt w v n) (E : Env w) (hp : Pow w) :
    Calls Tryz.prog 6 #[v] w fun e w' => e = .returned (.bool true) ∧ Below w.heap.size w w' := by
  have KS := straight_any v n w hv
  have KC : ∀ (L : List ML) (m : MM) w', Made L m → L.length ≤ 100 → Below w.heap.size w w' → Calls Tryz.prog 21 #[.string (bs (madeT L))] w' fun e w'' => e = .returned (.tuple #[.int .i64 0, .int .i64 0]) ∧ Below w'.heap.size w' w'' := fun L m w' hM hL hb => by
    refine (Check_any _ w' ?_ (E.on hb)).mono ?_
    · rw [made_txt, List.length_append]
      have h1 := txt_len L
      have h2 : (10 :: endT).length = 6 := rfl
      omega
    · rintro e w'' ⟨⟨c, k, hc, rfl⟩, hb2⟩
      obtain ⟨rfl, rfl⟩ := chk_right hM (by omega) hc.out
      exact ⟨rfl, hb2⟩
  have KR : ∀ (L : List ML) (m : MM) w', Made L m → L.length ≤ 100 → Below w.heap.size w w' → Calls Tryz.prog 23 #[.string (bs (madeT L)), .slice none 0 0, .int .i64 1000, .int .i64 50] w' fun e w'' => (∃ (x : Int) (t : B) (M : List Bool) (k : Int), e = .returned (.tuple #[.agg #[.int .i64 1, .int .i64 x, .string (bs t), .int .i64 0], .int .i64 0, .int .i64 k]) ∧ Hid (tell t = ⟨M, 0, true⟩) ∧ Hid (t.length ≤ 93744)) ∧ Below w'.heap.size w' w'' := fun L m w' hM hL hb => by
    refine (SRun_any _ (.slice none 0 0) [] 1000 50 w' (feed_nil w') (fun n hn => by cases hn) ?_ (E.on hb) (hp.below hb E.size)).mono ?_
    · rw [made_txt, List.length_append]
      have h1 := txt_len L
      have h2 : (10 :: endT).length = 6 := rfl
      omega
    · rintro e w'' ⟨⟨v, c, k, hc, rfl⟩, hb2⟩
      obtain ⟨rfl, x, t, M, rfl, h1, h2⟩ := made_ends hM hL hc.out
      exact ⟨⟨x, t, M, k, rfl, h1, h2⟩, hb2⟩
  have KT := fun (t : B) (M : List Bool) (h : tell t = ⟨M, 0, true⟩) (hl : t.length ≤ 93744) w' => (told_any (bs t) w' (by rw [size_bs]; omega)).mono (R' := fun e w'' => (∃ y, e = .returned (.pointer (some ⟨y, 0, none⟩)) ∧ w''.cell? ⟨y, 1, none⟩ = some (.int .i64 0) ∧ w''.cell? ⟨y, 2, none⟩ = some (.bool true)) ∧ Below w'.heap.size w' w'') fun e w'' ⟨⟨y, vl, he, hst⟩, hb⟩ => by
    rw [toList_bs, h] at hst
    exact ⟨⟨y, he, hst.facts.2.1, hst.facts.2.2.1⟩, hb⟩
  go_enter Tryz.func6, Tryz.ntmps6
  go_upto_region 3 with (first
    | (go_at_call 15; refine KS.mono ?_; rintro e w1 ⟨a, L, m, rfl, hS, hM, hL, ha, hB1⟩; have HM : Hid (_) := hM; clear hM; have hlt := hS.lt)
    | (go_at_call 17; refine (line_any hS ⟨#[101, 110, 100, 32, 110]⟩ (by have := txt_size hL; omega) (by decide) (by omega)).mono ?_; rintro e w2 ⟨rfl, h2, t2⟩; rw [bs_end] at h2; have hB2 := hB1.trans (t2.below ha hB1.size)))
  obtain ⟨d0, -⟩ := h2.facts
  clear hS hv KS t2 hB1 hlt E hp
  go_wp2_with (first
    | (go_at_call 21; refine (KC L m _ HM.out hL hB2).mono ?_; rintro e w3 ⟨rfl, hb3⟩; have hB3 := hB2.trans (hb3.mono hB2.size); have h3 := MakAt.below h2 hb3; obtain ⟨g0, -⟩ := h3.facts)
    | (go_at_call 23; refine (KR L m _ HM.out hL hB3).mono ?_; rintro e w4 ⟨⟨x, t, M, k, rfl, htell, hlen⟩, hb4⟩; have hB4 := hB3.trans ((hb4.alloc hb4.size (.cells #[.int .i64 1, .int .i64 x, .string (bs t), .int .i64 0] 47)).mono hB3.size); have hRA : (w4.alloc (.cells #[.int .i64 1, .int .i64 x, .string (bs t), .int .i64 0] 47)).heap[w4.heap.size]? = some (.cells #[.int .i64 1, .int .i64 x, .string (bs t), .int .i64 0] 47 (0, 0)) := Array.getElem?_push_size; have hs4 : (w4.alloc (.cells #[.int .i64 1, .int .i64 x, .string (bs t), .int .i64 0] 47)).heap.size = w4.heap.size + 1 := (by simp); obtain ⟨a0, a1, a2, a3, -⟩ := res_facts hRA)
    | (go_at_call 24; refine (KT t M htell.out hlen.out _).mono ?_; rintro e w6 ⟨⟨y, rfl, s1, s2⟩, hb6⟩; have HB6 : Hid (Below _ _ _) := hB4.trans (hb6.mono hB4.size); have hR6 := (hb6.block w4.heap.size (by omega)).trans hRA; obtain ⟨q0, q1, q2, q3, -⟩ := res_facts hR6; clear hb6 hR6))
  go_ret
  exact ⟨rfl, HB6.out⟩
end Go.Proofs.YtmlgajhhnojdjaaGreatDoor.Bal
