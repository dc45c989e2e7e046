/- Check, walked: for texts of at most 2^20 letters, in every world that holds the tables. -/
import Derived.Test.YtmlgajhhnojdjaaGreatDoorABI
import Derived.Test.YtmlgajhhnojdjaaGreatDoorABM
import Derived.Test.YtmlgajhhnojdjaaGreatDoorAAF
namespace Go.Proofs.YtmlgajhhnojdjaaGreatDoor.FlwZa
open Go Go.RowKit Go.Proofs.YtmlgajhhnojdjaaGreatDoor.Spec Go.Proofs.YtmlgajhhnojdjaaGreatDoor.Aux Go.Proofs.YtmlgajhhnojdjaaGreatDoor.PrjF Go.Proofs.YtmlgajhhnojdjaaGreatDoor.PrjG Go.Proofs.YtmlgajhhnojdjaaGreatDoor.PrjJ Go.Proofs.YtmlgajhhnojdjaaGreatDoor.PrjK Go.Proofs.YtmlgajhhnojdjaaGreatDoor.PrjM Go.Proofs.YtmlgajhhnojdjaaGreatDoor.PrjW Go.Proofs.YtmlgajhhnojdjaaGreatDoor.PrjX Go.Proofs.YtmlgajhhnojdjaaGreatDoor.RefM Go.Proofs.YtmlgajhhnojdjaaGreatDoor.FlwP Go.Proofs.YtmlgajhhnojdjaaGreatDoor.FlwQ Go.Proofs.YtmlgajhhnojdjaaGreatDoor.FlwV Go.Proofs.YtmlgajhhnojdjaaGreatDoor.FlwY Go.Proofs.YtmlgajhhnojdjaaGreatDoor.FlwZ

set_option maxRecDepth 20000 in
set_option maxHeartbeats 1000000 in
theorem pchecked_any (text : B) (w : World) (h : text.length ≤ 1048576) (E : Env w) : Calls Tryz.prog 38 #[.string (bs text)] w (CheckPost text w) := by
  have HRD := read_any' text w h E
  go_enter Tryz.func38, Tryz.ntmps38
  cases hr : prjRead text false with
  | mk op ck =>
    obtain ⟨c, k⟩ := ck
    cases op with
    | none =>
      obtain ⟨hc1, hc2⟩ := prjRead_bad hr
      have hcb : ((c : Int) == 0) = false := by simp; omega
      have HR : Hid (_ = _) := hr
      have HR2 : Hid (_ = _) := hc2
      go_wp2_with (go_at_call 53; refine HRD.mono ?_; rintro e w1 ⟨hb1, v, rfl, hv⟩; rw [HR.out] at hv; obtain ⟨-, rfl⟩ : True ∧ v = .pointer none := (by rcases hv with ⟨-, hv⟩ | ⟨p, a, z, hp, -⟩; exact ⟨trivial, hv⟩; cases hp); have hw1 : Hid (Below w.heap.size w w1) := hb1; simp only [HR.out])
      go_ret3
      exact ⟨hw1.out, .inl ⟨c, k, hc1, HR2.out, rfl⟩⟩
    | some q =>
      obtain ⟨rfl, rfl, p, hp, hB⟩ := prjRead_good hr
      have HR : Hid (_ = _) := hr
      have HP : Hid (_ = _) := hp
      have HB : Hid (_) := hB
      clear hr hp hB
      go_upto_region 4 with (go_at_call 53; refine HRD.mono ?_; rintro e w1 ⟨hb1, v, rfl, hv⟩; rw [HR.out] at hv; obtain ⟨a, z, rfl, hz, hG⟩ : ∃ a z, v = .pointer (some ⟨a, 0, none⟩) ∧ Hid (w.heap.size ≤ z) ∧ Hid (Got z a w1 q) := (by rcases hv with ⟨hv, -⟩ | ⟨q', a, z, hq, hv, hz, hg⟩; (cases hv); (cases hq; exact ⟨a, z, hv, hz, hg⟩)); have hw1 : Hid (Below w.heap.size w w1) := hb1; clear hv hb1; simp only [HR.out])
      have HF := flow_any HB.out hG.out
      go_upto_region 5 with (go_at_call 54; refine HF.mono ?_; rintro e w2 ⟨⟨E', hD, rfl⟩, hb2⟩; have HD : Hid (_) := hD; have HBB : Hid (_) := hb2; clear hD hb2; rw [ansOf_eq]; obtain ⟨r, hr⟩ : ∃ r, Hid (firstSome (faultB q E') q.blocks.length 0 = r) := ⟨_, rfl⟩; rw [hr.out])
      clear HF HRD
      have HW : Hid (Below w.heap.size w w2) := hw1.out.trans (HBB.out.mono hw1.out.size)
      cases r with
      | none =>
        simp only [Option.isSome_none]
        go_wp2
        go_ret3
        exact ⟨HW.out, .inr ⟨p, q, E', HP.out, HR.out, HD.out, .inr ⟨hr.out, a, z, rfl, hz.out, got_below hG.out HBB.out⟩⟩⟩
      | some n =>
        simp only [Option.isSome_some, Option.getD_some]
        go_wp2
        go_ret3
        exact ⟨HW.out, .inr ⟨p, q, E', HP.out, HR.out, HD.out, .inl ⟨n, hr.out, rfl⟩⟩⟩
set_option maxRecDepth 20000 in
theorem Check_any (text : B) (w : World) (h : text.length ≤ 1048576) (E : Env w) : Calls Tryz.prog 21 #[.string (bs text)] w fun e w' => (∃ c k, Hid (chkAns text c k) ∧ e = .returned (.tuple #[.int .i64 c, .int .i64 k])) ∧ Below w.heap.size w w' := by
  have K := (pchecked_any text w h E).mono (R' := fun e w' => ∃ v c k, e = .returned (.tuple #[v, .int .i64 c, .int .i64 k]) ∧ Hid (chkAns text c k) ∧ Below w.heap.size w w') fun e w' hp => by
    obtain ⟨hb, v, c, k, rfl, ha⟩ := hp.ans
    exact ⟨v, c, k, rfl, ha, hb⟩
  go_enter Tryz.func21, Tryz.ntmps21
  go_wp2_with (go_at_call 38; refine K.mono ?_; rintro e w1 ⟨v, c, k, rfl, ha, hb⟩)
  go_ret2
  exact ⟨⟨c, k, ha, rfl⟩, hb⟩
end Go.Proofs.YtmlgajhhnojdjaaGreatDoor.FlwZa
/- The project's Run, walked: for texts of at most 2^20 letters, in every world that holds the tables. -/
namespace Go.Proofs.YtmlgajhhnojdjaaGreatDoor.RunB
open Go Go.RowKit Go.Proofs.YtmlgajhhnojdjaaGreatDoor.Spec Go.Proofs.YtmlgajhhnojdjaaGreatDoor.Aux Go.Proofs.YtmlgajhhnojdjaaGreatDoor.Own Go.Proofs.YtmlgajhhnojdjaaGreatDoor.RunA Go.Proofs.YtmlgajhhnojdjaaGreatDoor.RefM Go.Proofs.YtmlgajhhnojdjaaGreatDoor.PrjG Go.Proofs.YtmlgajhhnojdjaaGreatDoor.PrjJ Go.Proofs.YtmlgajhhnojdjaaGreatDoor.PrjK Go.Proofs.YtmlgajhhnojdjaaGreatDoor.PrjM Go.Proofs.YtmlgajhhnojdjaaGreatDoor.PrjS Go.Proofs.YtmlgajhhnojdjaaGreatDoor.PrjW Go.Proofs.YtmlgajhhnojdjaaGreatDoor.FlwA Go.Proofs.YtmlgajhhnojdjaaGreatDoor.FlwP Go.Proofs.YtmlgajhhnojdjaaGreatDoor.FlwQ Go.Proofs.YtmlgajhhnojdjaaGreatDoor.FlwV Go.Proofs.YtmlgajhhnojdjaaGreatDoor.FlwY Go.Proofs.YtmlgajhhnojdjaaGreatDoor.FlwZ Go.Proofs.YtmlgajhhnojdjaaGreatDoor.FlwZa

def RunIs (text : B) (inp : List Int) (fuel room : Int) (v : Value) (c k : Int) : Prop :=
  (chkAns text c k ∧ c ≠ 0 ∧ v = zeroRes) ∨ (chkAns text 0 0 ∧ ¬ mayRun inp fuel room ∧ v = zeroRes ∧ c = 6 ∧ k = 0) ∨
    (mayRun inp fuel room ∧ c = 0 ∧ k = 0 ∧ ∃ q ans, Good text q ∧ runO q room fuel.toNat (q.blocks.getD 0 []) (Own.start inp) = some ans ∧ v = resV ans)
theorem RunIs.chk {text : B} {inp : List Int} {fuel room : Int} {v : Value} {c k : Int} (h : RunIs text inp fuel room v c k) (hm : mayRun inp fuel room) : chkAns text c k := by
  rcases h with ⟨h, -⟩ | ⟨-, h, -⟩ | ⟨-, rfl, rfl, q, ans, h, -⟩
  · exact h
  · exact absurd hm h
  · exact h.chk
set_option maxRecDepth 20000 in
theorem mayRun_any (ad : Option Addr) (n c : Nat) (f m r : Int) (w : World) : Calls Tryz.prog 43 #[.slice ad n c, .int .i64 f, .int .i64 m, .int .i64 r] w fun e w' => e = .returned (.bool (decide (n ≤ 100 ∧ 0 ≤ f ∧ f ≤ m ∧ 0 ≤ r ∧ r ≤ 50))) ∧ w' = w := by
  go_enter Tryz.func43, Tryz.ntmps43
  by_cases h1 : n ≤ 100 <;> by_cases h2 : 0 ≤ f <;> by_cases h3 : f ≤ m <;> by_cases h4 : 0 ≤ r <;> by_cases h5 : r ≤ 50
  all_goals
    go_wp2 <;> (go_ret; simp [h1, h2, h3, h4, h5])
theorem rok_of {q : QP} {l : QLine} (hl : LnOk q l) : ROk q l := ⟨op_cases hl, fun h => by
  rcases h with e | e
  · exact same_halves hl e
  · obtain ⟨e0, e1, -⟩ := some_halves hl e
    rw [e0, e1]; rfl⟩
/-- machine.Run of a program that was checked -/
theorem mrun_any {text : B} {q : QP} (hg : Good text q) {z a : Nat} {w : World} (hG : Got z a w q) (vi : Value) (inp : List Int) (hf : FeedAt w vi inp) (hinp : ∀ n ∈ inp, isI64 n) (fuel room : Int) (hm : mayRun inp fuel room) (hpw : Pow w) (h11 : 11 ≤ w.heap.size) :
    Calls Tryz.prog 44 #[.pointer (some ⟨a, 0, none⟩), vi, .int .i64 fuel, .int .i64 room] w fun e w' => (∃ ans, e = .returned (resV ans) ∧ Hid (runO q room fuel.toNat (q.blocks.getD 0 []) (Own.start inp) = some ans)) ∧ Below w.heap.size w w' := by
  obtain ⟨-, h0, h1, h2, h3⟩ := hm
  obtain ⟨f, rfl⟩ : ∃ f : Nat, fuel = f := ⟨fuel.toNat, by omega⟩
  obtain ⟨r, rfl⟩ : ∃ r : Nat, room = r := ⟨room.toNat, by omega⟩
  obtain ⟨p, E, hp, hD, hn⟩ := hg.done
  have hls := hD.both.twelve
  obtain ⟨ans, ha, -⟩ := hg.run (fit_steps hls) (start_fit q inp) (r : Nat) f
  obtain ⟨vl, vb, us, vss, hP⟩ := hG.at_
  have hS := read_shape hg.read
  have hq := hD.both.qok
  refine (Run_any hP vi inp hf hinp f r (by omega) (by omega) hD.pos hG.blocks hls hq hG.lines (fun j l hl => rok_of ⟨hq.lines _ (getD_memB hl) l hl, hS.has _ l hl, hS.fits _ l hl⟩) hpw h11 ha).mono ?_
  rintro e w' ⟨rfl, hb⟩
  exact ⟨⟨ans, rfl, ha⟩, hb⟩
theorem res_facts {w1 : World} {R : Nat} {u0 u1 u2 u3 : Value} (hR : w1.heap[R]? = some (.cells #[u0, u1, u2, u3] 47 (0, 0))) : w1.cell? ⟨R, 0, none⟩ = some u0 ∧ w1.cell? ⟨R, 1, none⟩ = some u1 ∧ w1.cell? ⟨R, 2, none⟩ = some u2 ∧ w1.cell? ⟨R, 3, none⟩ = some u3 ∧
    w1.frozen? ⟨R, 0, none⟩ = false ∧ w1.frozen? ⟨R, 1, none⟩ = false ∧ w1.frozen? ⟨R, 2, none⟩ = false ∧ w1.frozen? ⟨R, 3, none⟩ = false :=
  ⟨by rw [cell_of_heap hR]; rfl, by rw [cell_of_heap hR]; rfl, by rw [cell_of_heap hR]; rfl, by rw [cell_of_heap hR]; rfl, frozen_of_heap hR 0, frozen_of_heap hR 1, frozen_of_heap hR 2, frozen_of_heap hR 3⟩
theorem feed_below {w w1 : World} {v : Value} {l : List Int} (h : FeedAt w v l) {b : Nat} (hb : Below b w w1) (hs : w.heap.size ≤ b) : FeedAt w1 v l := by
  obtain ⟨ad, c, rfl, h1, h2, h3⟩ := h
  refine ⟨ad, c, rfl, h1, h2, fun j hj => ?_⟩
  obtain ⟨g, f, e, hg, hc⟩ := h3 j hj
  exact ⟨g, f, e, by have := hb.size; omega, (hb.cell (p := ⟨g, f + j, none⟩) (Nat.lt_of_lt_of_le hg hs)).trans hc⟩
theorem CheckPost.good {text : B} {w w' : World} {e : Ending} (h : CheckPost text w e w') : Below w.heap.size w w' ∧ ∃ v c k, e = .returned (.tuple #[v, .int .i64 c, .int .i64 k]) ∧ ((¬ c = 0 ∧ chkAns text c k) ∨ (c = 0 ∧ k = 0 ∧ ∃ q a z, v = .pointer (some ⟨a, 0, none⟩) ∧ Good text q ∧ Got z a w' q)) := by
  obtain ⟨hb, h | ⟨p, q, E, h1, hq, h2, ⟨n, h3, rfl⟩ | ⟨h3, a, z, rfl, -, hG⟩⟩⟩ := h
  · obtain ⟨c, k, h0, h1, rfl⟩ := h
    exact ⟨hb, _, _, _, rfl, .inl ⟨by omega, .inl ⟨c, k, h0, h1, rfl, rfl⟩⟩⟩
  · exact ⟨hb, _, _, _, rfl, .inl ⟨by decide, .inr ⟨p, q, E, h1, hq, h2, .inl ⟨n, h3, rfl, rfl⟩⟩⟩⟩
  · exact ⟨hb, _, _, _, rfl, .inr ⟨rfl, rfl, q, a, z, rfl, ⟨hq, p, E, h1, h2, h3⟩, hG⟩⟩
theorem results_cell_two {fn : Func} {p u v : Tmp} {ty : TypeId} (h : fn.results = #[.cell p ty, .tmp u, .tmp v]) (tmps : Array Value) (P : Program) (w : World) (b : Nat) (cs : List Value) (d : TypeDesc) (hp : tmps.getD p undef = .pointer (some ⟨b, 0, none⟩))
    (hc : w.rangeAt b 0 cs) (hu : P.underlying ty = some d) (hd : d.isRow = true) (hi : (P.info? ty).map (·.size) = some cs.length) : (results fn tmps).run P w = .ok (.tuple #[.agg cs.toArray, tmps.getD u undef, tmps.getD v undef]) w := by
  have := run_loadVar_mid (P := P) w b 0 ty cs d hc hu hd hi
  rw [Array.getD_eq_getD_getElem?] at hp
  unfold results
  simp [h, hp, asAddr, this]
set_option maxRecDepth 20000 in
set_option maxHeartbeats 2000000 in
theorem SRun_any (text : B) (vi : Value) (inp : List Int) (fuel room : Int) (w : World) (hf : FeedAt w vi inp) (hinp : ∀ n ∈ inp, isI64 n) (h : text.length ≤ 1048576) (E : Env w) (hp : Pow w) :
    Calls Tryz.prog 23 #[.string (bs text), vi, .int .i64 fuel, .int .i64 room] w fun e w' => (∃ v c k, Hid (RunIs text inp fuel room v c k) ∧ e = .returned (.tuple #[v, .int .i64 c, .int .i64 k])) ∧ Below w.heap.size w w' := by
  obtain ⟨w0, hw0⟩ : ∃ w0, w.alloc (.cells #[.int .i64 0, .int .i64 0, .string ⟨#[]⟩, .int .i64 0] 47) = w0 := ⟨_, rfl⟩
  have hb0 : Below w.heap.size w w0 := by rw [← hw0]; exact (Below.refl _ _).alloc (Nat.le_refl _) _
  have hs0 : w0.heap.size = w.heap.size + 1 := by rw [← hw0]; simp
  have hR0 : w0.heap[w.heap.size]? = some (.cells #[.int .i64 0, .int .i64 0, .string ⟨#[]⟩, .int .i64 0] 47 (0, 0)) := by rw [← hw0]; exact Array.getElem?_push_size
  have K := pchecked_any text w0 h (E.on hb0)
  go_enter Tryz.func23, Tryz.ntmps23
  go_upto_region 1 with fail
  try rw [hw0]
  clear hw0
  have hR : ∀ W, Below w0.heap.size w0 W → W.heap[w.heap.size]? = some (.cells #[.int .i64 0, .int .i64 0, .string ⟨#[]⟩, .int .i64 0] 47 (0, 0)) := fun W hW => by rw [hW.block _ (by omega)]; exact hR0
  have HR : Hid (∀ W, Below w0.heap.size w0 W → W.heap[w.heap.size]? = some (.cells #[.int .i64 0, .int .i64 0, .string ⟨#[]⟩, .int .i64 0] 47 (0, 0))) := hR
  clear hR hR0
  go_upto_region 2 with (go_at_call 38; refine K.mono ?_; rintro e w1 ⟨hb1, hpost⟩; have HB1 : Hid (Below w0.heap.size w0 w1) := hb1; obtain ⟨-, v, c, k, rfl, hgd⟩ := CheckPost.good ⟨hb1, hpost⟩; have HP : Hid _ := hgd; clear hpost hb1 hgd)
  rcases HP.out with ⟨hc, hck⟩ | ⟨rfl, rfl, q, a, z, rfl, hgood, hG⟩
  · have cb : (c == 0) = false := by rw [beq_eq_false_iff_ne]; exact hc
    have HC : Hid (¬ c = 0 ∧ chkAns text c k) := ⟨hc, hck⟩
    clear hc hck HP
    have hr1 := HR.out w1 HB1.out
    obtain ⟨d0, d1, d2, d3, f0, f1, f2, f3⟩ := res_facts hr1
    obtain ⟨e4, hB4⟩ := res_put hr1 (.int .i64 0) (.int .i64 0) (.string ⟨#[]⟩) (.int .i64 0)
    go_wp2
    refine bodyPost_ret (results_cell_two Tryz.results23 _ _ _ w.heap.size [.int .i64 0, .int .i64 0, .string ⟨#[]⟩, .int .i64 0] _ rfl (fun j u hu => by rw [Nat.zero_add, cell_of_heap e4]; simpa using hu) Tryz.underlying47 rfl info_result) rfl ?_
    refine ⟨⟨_, _, _, .inl ⟨HC.out.2, HC.out.1, rfl⟩, rfl⟩, (hb0.trans (HB1.out.mono (by omega))).trans hB4⟩
  · clear HP
    have hpw := hp.below hb0 E.size
    have hpw1 := hpw.below HB1.out (by have := E.size; omega)
    have h11 : 11 ≤ w1.heap.size := by have := E.size; have := HB1.out.size; omega
    have hf1 : FeedAt w1 vi inp := feed_below (feed_below hf hb0 (Nat.le_refl _)) HB1.out (Nat.le_refl _)
    obtain ⟨ad, cap, rfl, -⟩ := id hf
    have KM := fun W => mayRun_any ad inp.length cap fuel 1000 room W
    have HGD : Hid (Good text q) := hgood
    clear hgood
    by_cases hm : mayRun inp fuel room
    · have hd : decide (inp.length ≤ 100 ∧ 0 ≤ fuel ∧ fuel ≤ 1000 ∧ 0 ≤ room ∧ room ≤ 50) = true := decide_eq_true hm
      simp only [hd] at KM
      have KR := mrun_any HGD.out hG (.slice ad inp.length cap) inp hf1 hinp fuel room hm hpw1 h11
      have HM : Hid (mayRun inp fuel room) := hm
      clear hm hd hpw hpw1 hf hf1 hinp hG K
      go_wp2_with (first
        | (go_at_call 43; refine (KM _).mono ?_; rintro e w2 ⟨rfl, rfl⟩)
        | (go_at_call 44; refine KR.mono ?_; rintro e w3 ⟨⟨ans, rfl, HA⟩, hb3⟩; have hr3 := HR.out w3 (HB1.out.trans (hb3.mono HB1.out.size)); obtain ⟨d0, d1, d2, d3, f0, f1, f2, f3⟩ := res_facts hr3; obtain ⟨e4, hB4⟩ := res_put hr3 (.int .i64 ((ans.1 : Nat) : Int)) (.int .i64 ans.2.1) (.string (bs ans.2.2.yd.text)) (.int .i64 ans.2.2.yd.live); simp only [resV]))
      refine bodyPost_ret (results_cell_two Tryz.results23 _ _ _ w.heap.size [.int .i64 ((ans.1 : Nat) : Int), .int .i64 ans.2.1, .string (bs ans.2.2.yd.text), .int .i64 ans.2.2.yd.live] _ rfl (fun j u hu => by rw [Nat.zero_add, cell_of_heap e4]; simpa using hu) Tryz.underlying47 rfl info_result) rfl ?_
      refine ⟨⟨_, _, _, .inr (.inr ⟨HM.out, rfl, rfl, q, ans, HGD.out, HA.out, rfl⟩), rfl⟩, ((hb0.trans (HB1.out.mono (by omega))).trans (hb3.mono (by have := HB1.out.size; omega))).trans hB4⟩
    · have hd : decide (inp.length ≤ 100 ∧ 0 ≤ fuel ∧ fuel ≤ 1000 ∧ 0 ≤ room ∧ room ≤ 50) = false := decide_eq_false hm
      simp only [hd] at KM
      have HM : Hid (¬ mayRun inp fuel room) := hm
      clear hm hd hpw hpw1 hf hf1 hinp hG K
      have hr1 := HR.out w1 HB1.out
      obtain ⟨d0, d1, d2, d3, f0, f1, f2, f3⟩ := res_facts hr1
      obtain ⟨e4, hB4⟩ := res_put hr1 (.int .i64 0) (.int .i64 0) (.string ⟨#[]⟩) (.int .i64 0)
      go_wp2_with (go_at_call 43; refine (KM _).mono ?_; rintro e w2 ⟨rfl, rfl⟩)
      refine bodyPost_ret (results_cell_two Tryz.results23 _ _ _ w.heap.size [.int .i64 0, .int .i64 0, .string ⟨#[]⟩, .int .i64 0] _ rfl (fun j u hu => by rw [Nat.zero_add, cell_of_heap e4]; simpa using hu) Tryz.underlying47 rfl info_result) rfl ?_
      refine ⟨⟨_, _, _, .inr (.inl ⟨HGD.out.chk, HM.out, rfl, rfl, rfl⟩), rfl⟩, (hb0.trans (HB1.out.mono (by omega))).trans hB4⟩
end Go.Proofs.YtmlgajhhnojdjaaGreatDoor.RunB
/- Plain facts: programs of one block that are made line by line, and what the project's reader makes of them. -/
namespace Go.Proofs.YtmlgajhhnojdjaaGreatDoor.MadA
open Go Go.Proofs.YtmlgajhhnojdjaaGreatDoor.Spec

theorem split_no (c : UInt8) : ∀ (a : B), ¬ c ∈ a → split c a = [a]
  | [], _ => rfl
  | x :: a, h => by
    simp only [List.mem_cons, not_or] at h
    rw [split, if_neg (fun e => h.1 e.symm), split_no c a h.2]; rfl
theorem split_app (c : UInt8) : ∀ (a t : B), ¬ c ∈ a → split c (a ++ c :: t) = a :: split c t
  | [], t, _ => by simp [split]
  | x :: a, t, h => by
    simp only [List.mem_cons, not_or] at h
    rw [List.cons_append, split, if_neg (fun e => h.1 e.symm), split_app c a t h.2]; rfl
/-- the five places: p, q, x.a, x.b, o.s -/
def plc (i : Fin 5) : B := match i with
  | 0 => [112] | 1 => [113] | 2 => [120, 46, 97] | 3 => [120, 46, 98] | 4 => [111, 46, 115]
def plq (i : Fin 5) : Nat × Nat := match i with
  | 0 => (1, 0) | 1 => (2, 0) | 2 => (3, 1) | 3 => (3, 2) | 4 => (4, 3)
inductive ML where
  | new (i : Fin 5)
  | load (i : Fin 5)
  | store (i : Fin 5)
  | move (i k : Fin 5)
  | drop (i : Fin 5)
  | some (k : Fin 5)
def ML.text : ML → B
  | new i => [110, 101, 119, 32] ++ plc i ++ [32, 110]
  | load i => [108, 111, 97, 100, 32, 110, 32] ++ plc i
  | store i => [115, 116, 111, 114, 101, 32] ++ plc i ++ [32, 110]
  | move i k => [109, 111, 118, 101, 32] ++ plc i ++ ([32] ++ plc k)
  | drop i => [100, 114, 111, 112, 32] ++ plc i
  | some k => [115, 111, 109, 101, 32, 111, 32] ++ plc k
def ML.sent : ML → Nat × List B
  | new i => (9, [plc i, [110]])
  | load i => (10, [[110], plc i])
  | store i => (11, [plc i, [110]])
  | move i k => (12, [plc i, plc k])
  | drop i => (15, [plc i])
  | some k => (14, [[111], plc k])
def ML.q (n : Nat) : ML → QLine
  | new i => ⟨n, 9, [plq i, (0, 0)], 0, 0, []⟩
  | load i => ⟨n, 10, [(0, 0), plq i], 0, 0, []⟩
  | store i => ⟨n, 11, [plq i, (0, 0)], 0, 0, []⟩
  | move i k => ⟨n, 12, [plq i, plq k], 0, 0, []⟩
  | drop i => ⟨n, 15, [plq i], 0, 0, []⟩
  | some k => ⟨n, 14, [(4, 0), plq k], 0, 0, []⟩
def locs : List (B × Nat) := [([110], 0), ([112], 1), ([113], 1), ([120], 2), ([111], 3)]
def headL : List B := [[108, 101, 116, 32, 110, 32, 105, 110, 116], [108, 101, 116, 32, 112, 32, 98, 111, 120], [108, 101, 116, 32, 113, 32, 98, 111, 120], [108, 101, 116, 32, 120, 32, 112, 97, 105, 114], [108, 101, 116, 32, 111, 32, 111, 112, 116], [98, 108, 111, 99, 107], [115, 101, 116, 32, 110, 32, 53], [110, 111, 110, 101, 32, 111]]
def headS : List (Nat × List B) := [(0, [[110], [105, 110, 116]]), (0, [[112], [98, 111, 120]]), (0, [[113], [98, 111, 120]]), (0, [[120], [112, 97, 105, 114]]), (0, [[111], [111, 112, 116]]), (1, []), (2, [[110], [53]]), (13, [[111]])]
def headQ : List QLine := [⟨6, 2, [(0, 0)], 5, 0, []⟩, ⟨7, 13, [(4, 0)], 0, 0, []⟩]
def endT : B := [101, 110, 100, 32, 110]
def endQ (n : Nat) : QLine := ⟨n, 22, [(0, 0)], 0, 0, []⟩
/-- lines, each behind the sign that ends one -/
def tails (L : List B) : B := L.flatMap fun l => 10 :: l
theorem split_tails : ∀ (L : List B) (a : B), ¬ 10 ∈ a → (∀ l ∈ L, ¬ 10 ∈ l) → split 10 (a ++ tails L) = a :: L
  | [], a, ha, _ => by rw [tails, List.flatMap_nil, List.append_nil]; exact split_no 10 a ha
  | l :: L, a, ha, hL => by
    have e : tails (l :: L) = 10 :: (l ++ tails L) := by simp [tails]
    rw [e, split_app 10 a _ ha, split_tails L l (hL l (List.mem_cons_self ..)) (fun x hx => hL x (List.mem_cons_of_mem _ hx))]
theorem text_no : ∀ m : ML, ¬ 10 ∈ m.text
  | .new i => by revert i; decide
  | .load i => by revert i; decide
  | .store i => by revert i; decide
  | .move i k => by revert i k; decide
  | .drop i => by revert i; decide
  | .some k => by revert k; decide
theorem text_sent : ∀ m : ML, sentP (split 32 m.text) = some m.sent
  | .new i => by revert i; decide
  | .load i => by revert i; decide
  | .store i => by revert i; decide
  | .move i k => by revert i k; decide
  | .drop i => by revert i; decide
  | .some k => by revert k; decide
theorem sent_op : ∀ m : ML, 2 ≤ m.sent.1 ∧ m.sent.1 < 18 ∧ hasP false m.sent.1 = true
  | .new i => by decide +revert
  | .load i => by decide +revert
  | .store i => by decide +revert
  | .move i k => ⟨by show 2 ≤ 12; decide, by show 12 < 18; decide, rfl⟩
  | .drop i => by decide +revert
  | .some k => by decide +revert
instance : DecidableEq QLine := fun x y => decidable_of_iff (x.num = y.num ∧ x.op = y.op ∧ x.places = y.places ∧ x.number = y.number ∧ x.flag = y.flag ∧ x.next = y.next)
  ⟨fun ⟨h1, h2, h3, h4, h5, h6⟩ => by cases x; cases y; simp only at h1 h2 h3 h4 h5 h6; subst h1 h2 h3 h4 h5 h6; rfl, fun h => by subst h; exact ⟨rfl, rfl, rfl, rfl, rfl, rfl⟩⟩
theorem sent_line : ∀ m : ML, lineP locs 1 m.sent = some (m.q 0)
  | .new i => by revert i; decide
  | .load i => by revert i; decide
  | .store i => by revert i; decide
  | .move i k => by revert i k; decide
  | .drop i => by revert i; decide
  | .some k => by revert k; decide
theorem q_num (m : ML) (n : Nat) : { m.q 0 with num := n } = m.q n := by cases m <;> rfl
theorem q_fits (bl : List (List QLine)) (n : Nat) : ∀ m : ML, (⟨locs, bl⟩ : QP).fits (m.q n) = true
  | .new i => by
    have : ∀ i, (⟨locs, []⟩ : QP).fits ((ML.new i).q 0) = true := by decide
    exact this i
  | .load i => by
    have : ∀ i, (⟨locs, []⟩ : QP).fits ((ML.load i).q 0) = true := by decide
    exact this i
  | .store i => by
    have : ∀ i, (⟨locs, []⟩ : QP).fits ((ML.store i).q 0) = true := by decide
    exact this i
  | .move i k => by
    have : ∀ i k, (⟨locs, []⟩ : QP).fits ((ML.move i k).q 0) = true := by decide
    exact this i k
  | .drop i => by
    have : ∀ i, (⟨locs, []⟩ : QP).fits ((ML.drop i).q 0) = true := by decide
    exact this i
  | .some k => by
    have : ∀ k, (⟨locs, []⟩ : QP).fits ((ML.some k).q 0) = true := by decide
    exact this k
/-- the whole text -/
def madeT (L : List ML) : B := [108, 101, 116, 32, 110, 32, 105, 110, 116] ++ tails (headL.drop 1 ++ L.map ML.text ++ [endT])
def qlines : List ML → Nat → List QLine
  | [], _ => []
  | m :: L, n => m.q n :: qlines L (n + 1)
def madeQ (L : List ML) : QP := ⟨locs, [headQ ++ qlines L 8 ++ [endQ (8 + L.length)]]⟩
theorem made_split (L : List ML) : split 10 (madeT L) = headL ++ L.map ML.text ++ [endT] := by
  rw [madeT, split_tails _ _ (by decide)]
  · rfl
  · intro l hl
    simp only [List.mem_append, List.mem_map, List.mem_singleton] at hl
    rcases hl with (hl | ⟨m, -, rfl⟩) | rfl
    · revert l; decide
    · exact text_no m
    · decide
theorem made_body : ∀ (L : List ML) (i : Nat), splitGo false ((L.map ML.text ++ [endT]).map (split 32)) ⟨1, 5, 1⟩ i = (L.map ML.sent ++ [(22, [[110]])], ⟨2, 5, 1⟩, none)
  | [], i => by
    have h : sentP (split 32 endT) = some (22, [[110]]) := by decide
    show splitGo false [split 32 endT] ⟨1, 5, 1⟩ i = _
    rw [splitGo, h]; rfl
  | m :: L, i => by
    obtain ⟨h1, h2, h3⟩ := sent_op m
    have ha : admitsP false ⟨1, 5, 1⟩ m.sent.1 = (⟨1, 5, 1⟩, true) := by
      unfold admitsP
      rw [h3, if_neg (by decide), if_neg (by omega), if_neg (by omega), if_neg (by decide), if_neg (by omega)]
    show splitGo false (split 32 m.text :: (L.map ML.text ++ [endT]).map (split 32)) ⟨1, 5, 1⟩ i = _
    rw [splitGo, text_sent m]
    simp only [ha, if_true]
    rw [made_body L (i + 1)]; rfl
theorem head_sents : ∀ (r : List (List B)), splitGo false (headL.map (split 32) ++ r) ⟨0, 0, 0⟩ 0 = (headS ++ (splitGo false r ⟨1, 5, 1⟩ 8).1, (splitGo false r ⟨1, 5, 1⟩ 8).2) := by
  intro r
  rfl
theorem made_sents (L : List ML) : splitGo false (wordsOf (madeT L)) ⟨0, 0, 0⟩ 0 = (headS ++ (L.map ML.sent ++ [(22, [[110]])]), ⟨2, 5, 1⟩, none) := by
  rw [wordsOf, made_split, List.append_assoc, List.map_append, head_sents, made_body]
theorem made_count (L : List ML) : countB (headS ++ (L.map ML.sent ++ [(22, [[110]])])) = 1 := by
  unfold countB
  rw [List.filter_append, List.filter_append, List.length_append, List.length_append]
  have h1 : (headS.filter fun x => x.1 == 1).length = 1 := by decide
  have h2 : ((L.map ML.sent).filter fun x => x.1 == 1) = [] := by
    rw [List.filter_eq_nil_iff]
    intro x hx
    obtain ⟨m, -, rfl⟩ := List.mem_map.mp hx
    have := (sent_op m).1
    simp; omega
  rw [h1, h2]; rfl
theorem look_head (r : List (Nat × List B)) : lookGo 1 (headS ++ r) 0 QP.empty = lookGo 1 r 8 ⟨locs, [headQ]⟩ := by
  rfl
theorem look_body : ∀ (L : List ML) (i : Nat) (A : List QLine), lookGo 1 (L.map ML.sent ++ [(22, [[110]])]) i ⟨locs, [A]⟩ = (⟨locs, [A ++ qlines L i ++ [endQ (i + L.length)]]⟩, none)
  | [], i, A => by
    have h : lineP locs 1 (22, [[110]]) = some (endQ 0) := by decide
    show lookGo 1 [(22, [[110]])] i ⟨locs, [A]⟩ = _
    rw [lookGo, if_neg (by decide), if_neg (by decide)]
    simp only [h]
    simp [lookGo, QP.addLine, qlines, endQ]
  | m :: L, i, A => by
    obtain ⟨h1, h2, h3⟩ := sent_op m
    show lookGo 1 (m.sent :: (L.map ML.sent ++ [(22, [[110]])])) i ⟨locs, [A]⟩ = _
    rw [lookGo, if_neg (by omega), if_neg (by omega)]
    simp only [sent_line m, q_num]
    have e : (⟨locs, [A]⟩ : QP).addLine (m.q i) = ⟨locs, [A ++ [m.q i]]⟩ := by simp [QP.addLine]
    rw [e, look_body L (i + 1) (A ++ [m.q i]), qlines, List.length_cons]
    simp only [List.append_assoc, List.cons_append, List.nil_append, Prod.mk.injEq, and_true]
    rw [show i + 1 + L.length = i + (L.length + 1) by omega]
theorem qlines_mem : ∀ (L : List ML) (i : Nat) (l : QLine), l ∈ qlines L i → ∃ m n, l = ML.q n m
  | [], _, _, h => by cases h
  | m :: L, i, l, h => by
    rcases List.mem_cons.mp h with rfl | h
    · exact ⟨m, i, rfl⟩
    · exact qlines_mem L (i + 1) l h
theorem made_fits (L : List ML) : (madeQ L).misfit = none := by
  unfold QP.misfit
  rw [Option.map_eq_none_iff, List.find?_eq_none]
  intro l hl
  have hf : (madeQ L).fits l = true := by
    unfold madeQ at hl ⊢
    simp only [List.flatten_cons, List.flatten_nil, List.append_nil, List.mem_append, List.mem_singleton] at hl
    rcases hl with (hl | hl) | rfl
    · simp only [headQ, List.mem_cons, List.not_mem_nil, or_false] at hl
      rcases hl with rfl | rfl <;> rfl
    · obtain ⟨m, n, rfl⟩ := qlines_mem _ _ _ hl
      exact q_fits _ n m
    · rfl
  rw [hf]; decide
theorem made_read (L : List ML) (hL : L.length ≤ 111) : prjRead (madeT L) false = (some (madeQ L), 0, 0) := by
  have hl : ¬ (split 10 (madeT L)).length > (if false = true then 4000 else 120) := by
    rw [made_split]
    have : headL.length = 8 := rfl
    simp [this]; omega
  have hk : lookGo 1 (headS ++ (L.map ML.sent ++ [(22, [[110]])])) 0 QP.empty = (madeQ L, none) := by
    rw [look_head, look_body]; rfl
  unfold prjRead
  rw [if_neg hl, made_sents]
  simp only [made_count, hk, made_fits]
  rfl
theorem plc_len : ∀ i, (plc i).length ≤ 3 := by decide
theorem text_len (m : ML) : m.text.length ≤ 12 := by
  cases m <;> rename_i i <;> simp only [ML.text, List.length_append, List.length_cons, List.length_nil] <;> have := plc_len i <;> first | omega | skip
  rename_i k
  have := plc_len k
  omega
end Go.Proofs.YtmlgajhhnojdjaaGreatDoor.MadA
/- Plain definitions: which places of a program that is made line by line have a box. -/
namespace Go.Proofs.YtmlgajhhnojdjaaGreatDoor.MadM
open Go Go.Proofs.YtmlgajhhnojdjaaGreatDoor.Spec Go.Proofs.YtmlgajhhnojdjaaGreatDoor.MadA

/-- which places have a box; the opt: 0 nothing, 1 whole, 2 hollow -/
structure MM where
  p : Bool
  q : Bool
  a : Bool
  b : Bool
  o : Fin 3
def bb (x : Bool) : Nat := if x then 2 else 1
def ov (o : Fin 3) : Nat := match o with | 0 => 4 | 1 => 2 | 2 => 8
def stM (p q a b : Bool) (o : Fin 3) : List Nat := [2, 1, bb p, 1, bb q, 1, bb a, bb b, ov o, 1, 1, 1, 1, 1, 1, 1, 1, 1, 1, 1, 1, 1, 1, 1]
def MM.st (m : MM) : List Nat := stM m.p m.q m.a m.b m.o
def MM.has (m : MM) (k : Fin 5) : Bool := match k with | 0 => m.p | 1 => m.q | 2 => m.a | 3 => m.b | 4 => m.o == 1
def MM.can (m : MM) (k : Fin 5) : Bool := decide (k.val < 4) || !(m.o == 0)
def MM.now (m : MM) (k : Fin 5) (v : Bool) : MM := match k with | 0 => { m with p := v } | 1 => { m with q := v } | 2 => { m with a := v } | 3 => { m with b := v } | 4 => { m with o := if v then 1 else 2 }
/-- a line out of raw numbers, if it may be, and what comes of it -/
def MM.step (m : MM) (kind : Nat) (i k : Fin 5) : Option (ML × MM) :=
  if kind ≤ 1 then (if m.can i then some (.new i, m.now i true) else none)
  else if kind = 2 then (if m.has i then some (.load i, m) else none)
  else if kind = 3 then (if m.has i then some (.store i, m) else none)
  else if kind = 4 then (if m.has k && (m.can i || i == k) then some (.move i k, (m.now k false).now i true) else none)
  else if kind = 5 then (if m.can i then some (.drop i, m.now i false) else none)
  else (if m.has k then some (.some k, (m.now k false).now 4 true) else none)
end Go.Proofs.YtmlgajhhnojdjaaGreatDoor.MadM
