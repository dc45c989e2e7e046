/- Plain facts: of one text there is one answer of Check; a run with more fuel goes on where less stopped. -/
import Derived.Test.YtmlgajhhnojdjaaGreatDoorKBJ
import Derived.Test.YtmlgajhhnojdjaaGreatDoorKBI
import Derived.Test.YtmlgajhhnojdjaaGreatDoorKBK
namespace Go.Proofs.YtmlgajhhnojdjaaGreatDoor.RunB
open Go Go.Proofs.YtmlgajhhnojdjaaGreatDoor.Spec Go.Proofs.YtmlgajhhnojdjaaGreatDoor.Aux Go.Proofs.YtmlgajhhnojdjaaGreatDoor.Own Go.Proofs.YtmlgajhhnojdjaaGreatDoor.RunA Go.Proofs.YtmlgajhhnojdjaaGreatDoor.RefM Go.Proofs.YtmlgajhhnojdjaaGreatDoor.PrjS Go.Proofs.YtmlgajhhnojdjaaGreatDoor.FlwA Go.Proofs.YtmlgajhhnojdjaaGreatDoor.FlwI Go.Proofs.YtmlgajhhnojdjaaGreatDoor.FlwJ Go.Proofs.YtmlgajhhnojdjaaGreatDoor.FlwK Go.Proofs.YtmlgajhhnojdjaaGreatDoor.FlwM Go.Proofs.YtmlgajhhnojdjaaGreatDoor.FlwO Go.Proofs.YtmlgajhhnojdjaaGreatDoor.FlwP Go.Proofs.YtmlgajhhnojdjaaGreatDoor.FlwQ Go.Proofs.YtmlgajhhnojdjaaGreatDoor.FlwS Go.Proofs.YtmlgajhhnojdjaaGreatDoor.FlwV Go.Proofs.YtmlgajhhnojdjaaGreatDoor.FlwY Go.Proofs.YtmlgajhhnojdjaaGreatDoor.FlwZ

/-! words are only added -/
/-! what Run answers -/
def zeroRes : Value := .agg #[.int .i64 0, .int .i64 0, .string ⟨#[]⟩, .int .i64 0]
def mayRun (inp : List Int) (fuel room : Int) : Prop := inp.length ≤ 100 ∧ 0 ≤ fuel ∧ fuel ≤ 1000 ∧ 0 ≤ room ∧ room ≤ 50
/-- a program that may run -/
structure Good (text : B) (q : QP) : Prop where
  read : prjRead text false = (some q, 0, 0)
  done : ∃ p E, refRead text false = (some p, 0, 0) ∧ Done text p q E ∧ firstSome (faultB q E) q.blocks.length 0 = none
theorem Good.chk {text : B} {q : QP} (h : Good text q) : chkAns text 0 0 := by
  obtain ⟨p, E, h1, h2, h3⟩ := h.done
  exact .inr ⟨p, q, E, h1, h.read, h2, .inr ⟨h3, rfl, rfl⟩⟩
theorem Good.run {text : B} {q : QP} (h : Good text q) {J : List Nat → Own.Own → Prop} (H : Steps q J) {inp : List Int} (hJ : J startSt (Own.start inp)) (room : Int) (f : Nat) : ∃ ans, runO q room f (q.blocks.getD 0 []) (Own.start inp) = some ans ∧ Fin' q J room ans := by
  obtain ⟨p, E, -, h2, h3⟩ := h.done
  exact run_checked h2 h.read h3 H hJ room f
end Go.Proofs.YtmlgajhhnojdjaaGreatDoor.RunB
/- Check, walked: for texts of at most 2^20 letters, in every world that holds the tables. -/
namespace Go.Proofs.YtmlgajhhnojdjaaGreatDoor.FlwZa
open Go Go.RowKit Go.Proofs.YtmlgajhhnojdjaaGreatDoor.Spec Go.Proofs.YtmlgajhhnojdjaaGreatDoor.Aux Go.Proofs.YtmlgajhhnojdjaaGreatDoor.PrjF Go.Proofs.YtmlgajhhnojdjaaGreatDoor.PrjG Go.Proofs.YtmlgajhhnojdjaaGreatDoor.PrjJ Go.Proofs.YtmlgajhhnojdjaaGreatDoor.PrjK Go.Proofs.YtmlgajhhnojdjaaGreatDoor.PrjM Go.Proofs.YtmlgajhhnojdjaaGreatDoor.PrjW Go.Proofs.YtmlgajhhnojdjaaGreatDoor.PrjX Go.Proofs.YtmlgajhhnojdjaaGreatDoor.RefM Go.Proofs.YtmlgajhhnojdjaaGreatDoor.FlwP Go.Proofs.YtmlgajhhnojdjaaGreatDoor.FlwQ Go.Proofs.YtmlgajhhnojdjaaGreatDoor.FlwV Go.Proofs.YtmlgajhhnojdjaaGreatDoor.FlwY Go.Proofs.YtmlgajhhnojdjaaGreatDoor.FlwZ

set_option maxRecDepth 20000 in
set_option maxHeartbeats 1000000 in
theorem pchecked_any (text : B) (w : World) (h : text.length ≤ 1048576) (E : Env w) : Calls Tryz.prog 38 #[.string (bs text)] w (CheckPost text w) := by
  have HRD := read_any' text w h E
  go_enter Tryz.func38, Tryz.ntmps38
  cases hr : prjRead text false with
  | mk op ck =>
    obtain ⟨c, k⟩ := ck
    cases op with
    | none =>
      obtain ⟨hc1, hc2⟩ := prjRead_bad hr
      have hcb : ((c : Int) == 0) = false := by simp; omega
      have HR : Hid (_ = _) := hr
      have HR2 : Hid (_ = _) := hc2
      go_wp2_with (go_at_call 53; refine HRD.mono ?_; rintro e w1 ⟨hb1, v, rfl, hv⟩; rw [HR.out] at hv; obtain ⟨-, rfl⟩ : True ∧ v = .pointer none := (by rcases hv with ⟨-, hv⟩ | ⟨p, a, z, hp, -⟩; exact ⟨trivial, hv⟩; cases hp); have hw1 : Hid (Below w.heap.size w w1) := hb1; simp only [HR.out])
      go_ret3
      exact ⟨hw1.out, .inl ⟨c, k, hc1, HR2.out, rfl⟩⟩
    | some q =>
      obtain ⟨rfl, rfl, p, hp, hB⟩ := prjRead_good hr
      have HR : Hid (_ = _) := hr
      have HP : Hid (_ = _) := hp
      have HB : Hid (_) := hB
      clear hr hp hB
      go_upto_region 4 with (go_at_call 53; refine HRD.mono ?_; rintro e w1 ⟨hb1, v, rfl, hv⟩; rw [HR.out] at hv; obtain ⟨a, z, rfl, hz, hG⟩ : ∃ a z, v = .pointer (some ⟨a, 0, none⟩) ∧ Hid (w.heap.size ≤ z) ∧ Hid (Got z a w1 q) := (by rcases hv with ⟨hv, -⟩ | ⟨q', a, z, hq, hv, hz, hg⟩; (cases hv); (cases hq; exact ⟨a, z, hv, hz, hg⟩)); have hw1 : Hid (Below w.heap.size w w1) := hb1; clear hv hb1; simp only [HR.out])
      have HF := flow_any HB.out hG.out
      go_upto_region 5 with (go_at_call 54; refine HF.mono ?_; rintro e w2 ⟨⟨E', hD, rfl⟩, hb2⟩; have HD : Hid (_) := hD; have HBB : Hid (_) := hb2; clear hD hb2; rw [ansOf_eq]; obtain ⟨r, hr⟩ : ∃ r, Hid (firstSome (faultB q E') q.blocks.length 0 = r) := ⟨_, rfl⟩; rw [hr.out])
      clear HF HRD
      have HW : Hid (Below w.heap.size w w2) := hw1.out.trans (HBB.out.mono hw1.out.size)
      cases r with
      | none =>
        simp only [Option.isSome_none]
        go_wp2
        go_ret3
        exact ⟨HW.out, .inr ⟨p, q, E', HP.out, HR.out, HD.out, .inr ⟨hr.out, a, z, rfl, hz.out, got_below hG.out HBB.out⟩⟩⟩
      | some n =>
        simp only [Option.isSome_some, Option.getD_some]
        go_wp2
        go_ret3
        exact ⟨HW.out, .inr ⟨p, q, E', HP.out, HR.out, HD.out, .inl ⟨n, hr.out, rfl⟩⟩⟩
set_option maxRecDepth 20000 in
theorem Check_any (text : B) (w : World) (h : text.length ≤ 1048576) (E : Env w) : Calls Tryz.prog 21 #[.string (bs text)] w fun e w' => (∃ c k, Hid (chkAns text c k) ∧ e = .returned (.tuple #[.int .i64 c, .int .i64 k])) ∧ Below w.heap.size w w' := by
  have K := (pchecked_any text w h E).mono (R' := fun e w' => ∃ v c k, e = .returned (.tuple #[v, .int .i64 c, .int .i64 k]) ∧ Hid (chkAns text c k) ∧ Below w.heap.size w w') fun e w' hp => by
    obtain ⟨hb, v, c, k, rfl, ha⟩ := hp.ans
    exact ⟨v, c, k, rfl, ha, hb⟩
  go_enter Tryz.func21, Tryz.ntmps21
  go_wp2_with (go_at_call 38; refine K.mono ?_; rintro e w1 ⟨v, c, k, rfl, ha, hb⟩)
  go_ret2
  exact ⟨⟨c, k, ha, rfl⟩, hb⟩
def oneText : B := [108, 101, 116, 32, 110, 32, 105, 110, 116, 10, 108, 101, 116, 32, 112, 32, 98, 111, 120, 10, 98, 108, 111, 99, 107, 10, 115, 101, 116, 32, 110, 32, 53, 10, 110, 101, 119, 32, 112, 32, 110, 10, 108, 111, 97, 100, 32, 110, 32, 112, 10, 101, 110, 100, 32, 110]
end Go.Proofs.YtmlgajhhnojdjaaGreatDoor.FlwZa
/- The project's Run, walked: for texts of at most 2^20 letters, in every world that holds the tables. -/
namespace Go.Proofs.YtmlgajhhnojdjaaGreatDoor.RunB
open Go Go.RowKit Go.Proofs.YtmlgajhhnojdjaaGreatDoor.Spec Go.Proofs.YtmlgajhhnojdjaaGreatDoor.Aux Go.Proofs.YtmlgajhhnojdjaaGreatDoor.Own Go.Proofs.YtmlgajhhnojdjaaGreatDoor.RunA Go.Proofs.YtmlgajhhnojdjaaGreatDoor.RefM Go.Proofs.YtmlgajhhnojdjaaGreatDoor.PrjG Go.Proofs.YtmlgajhhnojdjaaGreatDoor.PrjJ Go.Proofs.YtmlgajhhnojdjaaGreatDoor.PrjK Go.Proofs.YtmlgajhhnojdjaaGreatDoor.PrjM Go.Proofs.YtmlgajhhnojdjaaGreatDoor.PrjS Go.Proofs.YtmlgajhhnojdjaaGreatDoor.PrjW Go.Proofs.YtmlgajhhnojdjaaGreatDoor.FlwA Go.Proofs.YtmlgajhhnojdjaaGreatDoor.FlwP Go.Proofs.YtmlgajhhnojdjaaGreatDoor.FlwQ Go.Proofs.YtmlgajhhnojdjaaGreatDoor.FlwV Go.Proofs.YtmlgajhhnojdjaaGreatDoor.FlwY Go.Proofs.YtmlgajhhnojdjaaGreatDoor.FlwZ Go.Proofs.YtmlgajhhnojdjaaGreatDoor.FlwZa

def RunIs (text : B) (inp : List Int) (fuel room : Int) (v : Value) (c k : Int) : Prop :=
  (chkAns text c k ∧ c ≠ 0 ∧ v = zeroRes) ∨ (chkAns text 0 0 ∧ ¬ mayRun inp fuel room ∧ v = zeroRes ∧ c = 6 ∧ k = 0) ∨
    (mayRun inp fuel room ∧ c = 0 ∧ k = 0 ∧ ∃ q ans, Good text q ∧ runO q room fuel.toNat (q.blocks.getD 0 []) (Own.start inp) = some ans ∧ v = resV ans)
set_option maxRecDepth 20000 in
theorem mayRun_any (ad : Option Addr) (n c : Nat) (f m r : Int) (w : World) : Calls Tryz.prog 43 #[.slice ad n c, .int .i64 f, .int .i64 m, .int .i64 r] w fun e w' => e = .returned (.bool (decide (n ≤ 100 ∧ 0 ≤ f ∧ f ≤ m ∧ 0 ≤ r ∧ r ≤ 50))) ∧ w' = w := by
  go_enter Tryz.func43, Tryz.ntmps43
  by_cases h1 : n ≤ 100 <;> by_cases h2 : 0 ≤ f <;> by_cases h3 : f ≤ m <;> by_cases h4 : 0 ≤ r <;> by_cases h5 : r ≤ 50
  all_goals
    go_wp2 <;> (go_ret; simp [h1, h2, h3, h4, h5])
theorem rok_of {q : QP} {l : QLine} (hl : LnOk q l) : ROk q l := ⟨op_cases hl, fun h => by
  rcases h with e | e
  · exact same_halves hl e
  · obtain ⟨e0, e1, -⟩ := some_halves hl e
    rw [e0, e1]; rfl⟩
/-- machine.Run of a program that was checked -/
theorem mrun_any {text : B} {q : QP} (hg : Good text q) {z a : Nat} {w : World} (hG : Got z a w q) (vi : Value) (inp : List Int) (hf : FeedAt w vi inp) (hinp : ∀ n ∈ inp, isI64 n) (fuel room : Int) (hm : mayRun inp fuel room) (hpw : Pow w) (h11 : 11 ≤ w.heap.size) :
    Calls Tryz.prog 44 #[.pointer (some ⟨a, 0, none⟩), vi, .int .i64 fuel, .int .i64 room] w fun e w' => (∃ ans, e = .returned (resV ans) ∧ Hid (runO q room fuel.toNat (q.blocks.getD 0 []) (Own.start inp) = some ans)) ∧ Below w.heap.size w w' := by
  obtain ⟨-, h0, h1, h2, h3⟩ := hm
  obtain ⟨f, rfl⟩ : ∃ f : Nat, fuel = f := ⟨fuel.toNat, by omega⟩
  obtain ⟨r, rfl⟩ : ∃ r : Nat, room = r := ⟨room.toNat, by omega⟩
  obtain ⟨p, E, hp, hD, hn⟩ := hg.done
  have hls := hD.both.twelve
  obtain ⟨ans, ha, -⟩ := hg.run (fit_steps hls) (start_fit q inp) (r : Nat) f
  obtain ⟨vl, vb, us, vss, hP⟩ := hG.at_
  have hS := read_shape hg.read
  have hq := hD.both.qok
  refine (Run_any hP vi inp hf hinp f r (by omega) (by omega) hD.pos hG.blocks hls hq hG.lines (fun j l hl => rok_of ⟨hq.lines _ (getD_memB hl) l hl, hS.has _ l hl, hS.fits _ l hl⟩) hpw h11 ha).mono ?_
  rintro e w' ⟨rfl, hb⟩
  exact ⟨⟨ans, rfl, ha⟩, hb⟩
theorem res_facts {w1 : World} {R : Nat} {u0 u1 u2 u3 : Value} (hR : w1.heap[R]? = some (.cells #[u0, u1, u2, u3] 47 (0, 0))) : w1.cell? ⟨R, 0, none⟩ = some u0 ∧ w1.cell? ⟨R, 1, none⟩ = some u1 ∧ w1.cell? ⟨R, 2, none⟩ = some u2 ∧ w1.cell? ⟨R, 3, none⟩ = some u3 ∧
    w1.frozen? ⟨R, 0, none⟩ = false ∧ w1.frozen? ⟨R, 1, none⟩ = false ∧ w1.frozen? ⟨R, 2, none⟩ = false ∧ w1.frozen? ⟨R, 3, none⟩ = false :=
  ⟨by rw [cell_of_heap hR]; rfl, by rw [cell_of_heap hR]; rfl, by rw [cell_of_heap hR]; rfl, by rw [cell_of_heap hR]; rfl, frozen_of_heap hR 0, frozen_of_heap hR 1, frozen_of_heap hR 2, frozen_of_heap hR 3⟩
theorem feed_below {w w1 : World} {v : Value} {l : List Int} (h : FeedAt w v l) {b : Nat} (hb : Below b w w1) (hs : w.heap.size ≤ b) : FeedAt w1 v l := by
  obtain ⟨ad, c, rfl, h1, h2, h3⟩ := h
  refine ⟨ad, c, rfl, h1, h2, fun j hj => ?_⟩
  obtain ⟨g, f, e, hg, hc⟩ := h3 j hj
  exact ⟨g, f, e, by have := hb.size; omega, (hb.cell (p := ⟨g, f + j, none⟩) (Nat.lt_of_lt_of_le hg hs)).trans hc⟩
theorem CheckPost.good {text : B} {w w' : World} {e : Ending} (h : CheckPost text w e w') : Below w.heap.size w w' ∧ ∃ v c k, e = .returned (.tuple #[v, .int .i64 c, .int .i64 k]) ∧ ((¬ c = 0 ∧ chkAns text c k) ∨ (c = 0 ∧ k = 0 ∧ ∃ q a z, v = .pointer (some ⟨a, 0, none⟩) ∧ Good text q ∧ Got z a w' q)) := by
  obtain ⟨hb, h | ⟨p, q, E, h1, hq, h2, ⟨n, h3, rfl⟩ | ⟨h3, a, z, rfl, -, hG⟩⟩⟩ := h
  · obtain ⟨c, k, h0, h1, rfl⟩ := h
    exact ⟨hb, _, _, _, rfl, .inl ⟨by omega, .inl ⟨c, k, h0, h1, rfl, rfl⟩⟩⟩
  · exact ⟨hb, _, _, _, rfl, .inl ⟨by decide, .inr ⟨p, q, E, h1, hq, h2, .inl ⟨n, h3, rfl, rfl⟩⟩⟩⟩
  · exact ⟨hb, _, _, _, rfl, .inr ⟨rfl, rfl, q, a, z, rfl, ⟨hq, p, E, h1, h2, h3⟩, hG⟩⟩
theorem results_cell_two {fn : Func} {p u v : Tmp} {ty : TypeId} (h : fn.results = #[.cell p ty, .tmp u, .tmp v]) (tmps : Array Value) (P : Program) (w : World) (b : Nat) (cs : List Value) (d : TypeDesc) (hp : tmps.getD p undef = .pointer (some ⟨b, 0, none⟩))
    (hc : w.rangeAt b 0 cs) (hu : P.underlying ty = some d) (hd : d.isRow = true) (hi : (P.info? ty).map (·.size) = some cs.length) : (results fn tmps).run P w = .ok (.tuple #[.agg cs.toArray, tmps.getD u undef, tmps.getD v undef]) w := by
  have := run_loadVar_mid (P := P) w b 0 ty cs d hc hu hd hi
  rw [Array.getD_eq_getD_getElem?] at hp
  unfold results
  simp [h, hp, asAddr, this]
set_option maxRecDepth 20000 in
set_option maxHeartbeats 2000000 in
theorem SRun_any (text : B) (vi : Value) (inp : List Int) (fuel room : Int) (w : World) (hf : FeedAt w vi inp) (hinp : ∀ n ∈ inp, isI64 n) (h : text.length ≤ 1048576) (E : Env w) (hp : Pow w) :
    Calls Tryz.prog 23 #[.string (bs text), vi, .int .i64 fuel, .int .i64 room] w fun e w' => (∃ v c k, Hid (RunIs text inp fuel room v c k) ∧ e = .returned (.tuple #[v, .int .i64 c, .int .i64 k])) ∧ Below w.heap.size w w' := by
  obtain ⟨w0, hw0⟩ : ∃ w0, w.alloc (.cells #[.int .i64 0, .int .i64 0, .string ⟨#[]⟩, .int .i64 0] 47) = w0 := ⟨_, rfl⟩
  have hb0 : Below w.heap.size w w0 := by rw [← hw0]; exact (Below.refl _ _).alloc (Nat.le_refl _) _
  have hs0 : w0.heap.size = w.heap.size + 1 := by rw [← hw0]; simp
  have hR0 : w0.heap[w.heap.size]? = some (.cells #[.int .i64 0, .int .i64 0, .string ⟨#[]⟩, .int .i64 0] 47 (0, 0)) := by rw [← hw0]; exact Array.getElem?_push_size
  have K := pchecked_any text w0 h (E.on hb0)
  go_enter Tryz.func23, Tryz.ntmps23
  go_upto_region 1 with fail
  try rw [hw0]
  clear hw0
  have hR : ∀ W, Below w0.heap.size w0 W → W.heap[w.heap.size]? = some (.cells #[.int .i64 0, .int .i64 0, .string ⟨#[]⟩, .int .i64 0] 47 (0, 0)) := fun W hW => by rw [hW.block _ (by omega)]; exact hR0
  have HR : Hid (∀ W, Below w0.heap.size w0 W → W.heap[w.heap.size]? = some (.cells #[.int .i64 0, .int .i64 0, .string ⟨#[]⟩, .int .i64 0] 47 (0, 0))) := hR
  clear hR hR0
  go_upto_region 2 with (go_at_call 38; refine K.mono ?_; rintro e w1 ⟨hb1, hpost⟩; have HB1 : Hid (Below w0.heap.size w0 w1) := hb1; obtain ⟨-, v, c, k, rfl, hgd⟩ := CheckPost.good ⟨hb1, hpost⟩; have HP : Hid _ := hgd; clear hpost hb1 hgd)
  rcases HP.out with ⟨hc, hck⟩ | ⟨rfl, rfl, q, a, z, rfl, hgood, hG⟩
  · have cb : (c == 0) = false := by rw [beq_eq_false_iff_ne]; exact hc
    have HC : Hid (¬ c = 0 ∧ chkAns text c k) := ⟨hc, hck⟩
    clear hc hck HP
    have hr1 := HR.out w1 HB1.out
    obtain ⟨d0, d1, d2, d3, f0, f1, f2, f3⟩ := res_facts hr1
    obtain ⟨e4, hB4⟩ := res_put hr1 (.int .i64 0) (.int .i64 0) (.string ⟨#[]⟩) (.int .i64 0)
    go_wp2
    refine bodyPost_ret (results_cell_two Tryz.results23 _ _ _ w.heap.size [.int .i64 0, .int .i64 0, .string ⟨#[]⟩, .int .i64 0] _ rfl (fun j u hu => by rw [Nat.zero_add, cell_of_heap e4]; simpa using hu) Tryz.underlying47 rfl info_result) rfl ?_
    refine ⟨⟨_, _, _, .inl ⟨HC.out.2, HC.out.1, rfl⟩, rfl⟩, (hb0.trans (HB1.out.mono (by omega))).trans hB4⟩
  · clear HP
    have hpw := hp.below hb0 E.size
    have hpw1 := hpw.below HB1.out (by have := E.size; omega)
    have h11 : 11 ≤ w1.heap.size := by have := E.size; have := HB1.out.size; omega
    have hf1 : FeedAt w1 vi inp := feed_below (feed_below hf hb0 (Nat.le_refl _)) HB1.out (Nat.le_refl _)
    obtain ⟨ad, cap, rfl, -⟩ := id hf
    have KM := fun W => mayRun_any ad inp.length cap fuel 1000 room W
    have HGD : Hid (Good text q) := hgood
    clear hgood
    by_cases hm : mayRun inp fuel room
    · have hd : decide (inp.length ≤ 100 ∧ 0 ≤ fuel ∧ fuel ≤ 1000 ∧ 0 ≤ room ∧ room ≤ 50) = true := decide_eq_true hm
      simp only [hd] at KM
      have KR := mrun_any HGD.out hG (.slice ad inp.length cap) inp hf1 hinp fuel room hm hpw1 h11
      have HM : Hid (mayRun inp fuel room) := hm
      clear hm hd hpw hpw1 hf hf1 hinp hG K
      go_wp2_with (first
        | (go_at_call 43; refine (KM _).mono ?_; rintro e w2 ⟨rfl, rfl⟩)
        | (go_at_call 44; refine KR.mono ?_; rintro e w3 ⟨⟨ans, rfl, HA⟩, hb3⟩; have hr3 := HR.out w3 (HB1.out.trans (hb3.mono HB1.out.size)); obtain ⟨d0, d1, d2, d3, f0, f1, f2, f3⟩ := res_facts hr3; obtain ⟨e4, hB4⟩ := res_put hr3 (.int .i64 ((ans.1 : Nat) : Int)) (.int .i64 ans.2.1) (.string (bs ans.2.2.yd.text)) (.int .i64 ans.2.2.yd.live); simp only [resV]))
      refine bodyPost_ret (results_cell_two Tryz.results23 _ _ _ w.heap.size [.int .i64 ((ans.1 : Nat) : Int), .int .i64 ans.2.1, .string (bs ans.2.2.yd.text), .int .i64 ans.2.2.yd.live] _ rfl (fun j u hu => by rw [Nat.zero_add, cell_of_heap e4]; simpa using hu) Tryz.underlying47 rfl info_result) rfl ?_
      refine ⟨⟨_, _, _, .inr (.inr ⟨HM.out, rfl, rfl, q, ans, HGD.out, HA.out, rfl⟩), rfl⟩, ((hb0.trans (HB1.out.mono (by omega))).trans (hb3.mono (by have := HB1.out.size; omega))).trans hB4⟩
    · have hd : decide (inp.length ≤ 100 ∧ 0 ≤ fuel ∧ fuel ≤ 1000 ∧ 0 ≤ room ∧ room ≤ 50) = false := decide_eq_false hm
      simp only [hd] at KM
      have HM : Hid (¬ mayRun inp fuel room) := hm
      clear hm hd hpw hpw1 hf hf1 hinp hG K
      have hr1 := HR.out w1 HB1.out
      obtain ⟨d0, d1, d2, d3, f0, f1, f2, f3⟩ := res_facts hr1
      obtain ⟨e4, hB4⟩ := res_put hr1 (.int .i64 0) (.int .i64 0) (.string ⟨#[]⟩) (.int .i64 0)
      go_wp2_with (go_at_call 43; refine (KM _).mono ?_; rintro e w2 ⟨rfl, rfl⟩)
      refine bodyPost_ret (results_cell_two Tryz.results23 _ _ _ w.heap.size [.int .i64 0, .int .i64 0, .string ⟨#[]⟩, .int .i64 0] _ rfl (fun j u hu => by rw [Nat.zero_add, cell_of_heap e4]; simpa using hu) Tryz.underlying47 rfl info_result) rfl ?_
      refine ⟨⟨_, _, _, .inr (.inl ⟨HGD.out.chk, HM.out, rfl, rfl, rfl⟩), rfl⟩, (hb0.trans (HB1.out.mono (by omega))).trans hB4⟩
end Go.Proofs.YtmlgajhhnojdjaaGreatDoor.RunB
