/- Check, walked: for texts of at most 2^20 letters, in every world that holds the tables. -/
import Derived.Test.YtmlgajhhnojdjaaGreatDoorBBK
import Derived.Test.YtmlgajhhnojdjaaGreatDoorBBO
import Derived.Test.YtmlgajhhnojdjaaGreatDoorBAF
import Derived.Test.YtmlgajhhnojdjaaGreatDoorBBH
import Derived.Test.YtmlgajhhnojdjaaGreatDoorBAK
import Derived.Deep.DeepCutAuto
namespace Go.Proofs.YtmlgajhhnojdjaaGreatDoor.FlwZa
open Go Go.RowKit Go.Proofs.YtmlgajhhnojdjaaGreatDoor.Spec Go.Proofs.YtmlgajhhnojdjaaGreatDoor.Aux Go.Proofs.YtmlgajhhnojdjaaGreatDoor.PrjF Go.Proofs.YtmlgajhhnojdjaaGreatDoor.PrjG Go.Proofs.YtmlgajhhnojdjaaGreatDoor.PrjJ Go.Proofs.YtmlgajhhnojdjaaGreatDoor.PrjK Go.Proofs.YtmlgajhhnojdjaaGreatDoor.PrjM Go.Proofs.YtmlgajhhnojdjaaGreatDoor.PrjW Go.Proofs.YtmlgajhhnojdjaaGreatDoor.PrjX Go.Proofs.YtmlgajhhnojdjaaGreatDoor.RefM Go.Proofs.YtmlgajhhnojdjaaGreatDoor.FlwP Go.Proofs.YtmlgajhhnojdjaaGreatDoor.FlwQ Go.Proofs.YtmlgajhhnojdjaaGreatDoor.FlwV Go.Proofs.YtmlgajhhnojdjaaGreatDoor.FlwY Go.Proofs.YtmlgajhhnojdjaaGreatDoor.FlwZ

set_option maxRecDepth 20000 in
set_option maxHeartbeats 1000000 in
theorem pchecked_any (text : B) (w : World) (h : text.length ≤ 1048576) (E : Env w) : Calls Tryz.prog 38 #[.string (bs text)] w (CheckPost text w) := by
  have HRD := read_any' text w h E
  go_enter Tryz.func38, Tryz.ntmps38
  cases hr : prjRead text false with
  | mk op ck =>
    obtain ⟨c, k⟩ := ck
    cases op with
    | none =>
      obtain ⟨hc1, hc2⟩ := prjRead_bad hr
      have hcb : ((c : Int) == 0) = false := by simp; omega
      have HR : Hid (_ = _) := hr
      have HR2 : Hid (_ = _) := hc2
      go_wp2_with (go_at_call 53; refine HRD.mono ?_; rintro e w1 ⟨hb1, v, rfl, hv⟩; rw [HR.out] at hv; obtain ⟨-, rfl⟩ : True ∧ v = .pointer none := (by rcases hv with ⟨-, hv⟩ | ⟨p, a, z, hp, -⟩; exact ⟨trivial, hv⟩; cases hp); have hw1 : Hid (Below w.heap.size w w1) := hb1; simp only [HR.out])
      go_ret3
      exact ⟨hw1.out, .inl ⟨c, k, hc1, HR2.out, rfl⟩⟩
    | some q =>
      obtain ⟨rfl, rfl, p, hp, hB⟩ := prjRead_good hr
      have HR : Hid (_ = _) := hr
      have HP : Hid (_ = _) := hp
      have HB : Hid (_) := hB
      clear hr hp hB
      go_upto_region 4 with (go_at_call 53; refine HRD.mono ?_; rintro e w1 ⟨hb1, v, rfl, hv⟩; rw [HR.out] at hv; obtain ⟨a, z, rfl, hz, hG⟩ : ∃ a z, v = .pointer (some ⟨a, 0, none⟩) ∧ Hid (w.heap.size ≤ z) ∧ Hid (Got z a w1 q) := (by rcases hv with ⟨hv, -⟩ | ⟨q', a, z, hq, hv, hz, hg⟩; (cases hv); (cases hq; exact ⟨a, z, hv, hz, hg⟩)); have hw1 : Hid (Below w.heap.size w w1) := hb1; clear hv hb1; simp only [HR.out])
      have HF := flow_any HB.out hG.out
      go_upto_region 5 with (go_at_call 54; refine HF.mono ?_; rintro e w2 ⟨⟨E', hD, rfl⟩, hb2⟩; have HD : Hid (_) := hD; have HBB : Hid (_) := hb2; clear hD hb2; rw [ansOf_eq]; obtain ⟨r, hr⟩ : ∃ r, Hid (firstSome (faultB q E') q.blocks.length 0 = r) := ⟨_, rfl⟩; rw [hr.out])
      clear HF HRD
      have HW : Hid (Below w.heap.size w w2) := hw1.out.trans (HBB.out.mono hw1.out.size)
      cases r with
      | none =>
        simp only [Option.isSome_none]
        go_wp2
        go_ret3
        exact ⟨HW.out, .inr ⟨p, q, E', HP.out, HR.out, HD.out, .inr ⟨hr.out, a, z, rfl, hz.out, got_below hG.out HBB.out⟩⟩⟩
      | some n =>
        simp only [Option.isSome_some, Option.getD_some]
        go_wp2
        go_ret3
        exact ⟨HW.out, .inr ⟨p, q, E', HP.out, HR.out, HD.out, .inl ⟨n, hr.out, rfl⟩⟩⟩
set_option maxRecDepth 20000 in
theorem Check_any (text : B) (w : World) (h : text.length ≤ 1048576) (E : Env w) : Calls Tryz.prog 21 #[.string (bs text)] w fun e w' => (∃ c k, Hid (chkAns text c k) ∧ e = .returned (.tuple #[.int .i64 c, .int .i64 k])) ∧ Below w.heap.size w w' := by
  have K := (pchecked_any text w h E).mono (R' := fun e w' => ∃ v c k, e = .returned (.tuple #[v, .int .i64 c, .int .i64 k]) ∧ Hid (chkAns text c k) ∧ Below w.heap.size w w') fun e w' hp => by
    obtain ⟨hb, v, c, k, rfl, ha⟩ := hp.ans
    exact ⟨v, c, k, rfl, ha, hb⟩
  go_enter Tryz.func21, Tryz.ntmps21
  go_wp2_with (go_at_call 38; refine K.mono ?_; rintro e w1 ⟨v, c, k, rfl, ha, hb⟩)
  go_ret2
  exact ⟨⟨c, k, ha, rfl⟩, hb⟩
def oneText : B := [108, 101, 116, 32, 110, 32, 105, 110, 116, 10, 108, 101, 116, 32, 112, 32, 98, 111, 120, 10, 98, 108, 111, 99, 107, 10, 115, 101, 116, 32, 110, 32, 53, 10, 110, 101, 119, 32, 112, 32, 110, 10, 108, 111, 97, 100, 32, 110, 32, 112, 10, 101, 110, 100, 32, 110]
end Go.Proofs.YtmlgajhhnojdjaaGreatDoor.FlwZa
/- The project's Run, walked: for texts of at most 2^20 letters, in every world that holds the tables. -/
namespace Go.Proofs.YtmlgajhhnojdjaaGreatDoor.RunB
open Go Go.RowKit Go.Proofs.YtmlgajhhnojdjaaGreatDoor.Spec Go.Proofs.YtmlgajhhnojdjaaGreatDoor.Aux Go.Proofs.YtmlgajhhnojdjaaGreatDoor.Own Go.Proofs.YtmlgajhhnojdjaaGreatDoor.RunA Go.Proofs.YtmlgajhhnojdjaaGreatDoor.RefM Go.Proofs.YtmlgajhhnojdjaaGreatDoor.PrjG Go.Proofs.YtmlgajhhnojdjaaGreatDoor.PrjJ Go.Proofs.YtmlgajhhnojdjaaGreatDoor.PrjK Go.Proofs.YtmlgajhhnojdjaaGreatDoor.PrjM Go.Proofs.YtmlgajhhnojdjaaGreatDoor.PrjS Go.Proofs.YtmlgajhhnojdjaaGreatDoor.PrjW Go.Proofs.YtmlgajhhnojdjaaGreatDoor.FlwA Go.Proofs.YtmlgajhhnojdjaaGreatDoor.FlwP Go.Proofs.YtmlgajhhnojdjaaGreatDoor.FlwQ Go.Proofs.YtmlgajhhnojdjaaGreatDoor.FlwV Go.Proofs.YtmlgajhhnojdjaaGreatDoor.FlwY Go.Proofs.YtmlgajhhnojdjaaGreatDoor.FlwZ Go.Proofs.YtmlgajhhnojdjaaGreatDoor.FlwZa

def RunIs (text : B) (inp : List Int) (fuel room : Int) (v : Value) (c k : Int) : Prop :=
  (chkAns text c k ∧ c ≠ 0 ∧ v = zeroRes) ∨ (chkAns text 0 0 ∧ ¬ mayRun inp fuel room ∧ v = zeroRes ∧ c = 6 ∧ k = 0) ∨
    (mayRun inp fuel room ∧ c = 0 ∧ k = 0 ∧ ∃ q ans, Good text q ∧ runO q room fuel.toNat (q.blocks.getD 0 []) (Own.start inp) = some ans ∧ v = resV ans)
theorem RunIs.chk {text : B} {inp : List Int} {fuel room : Int} {v : Value} {c k : Int} (h : RunIs text inp fuel room v c k) (hm : mayRun inp fuel room) : chkAns text c k := by
  rcases h with ⟨h, -⟩ | ⟨-, h, -⟩ | ⟨-, rfl, rfl, q, ans, h, -⟩
  · exact h
  · exact absurd hm h
  · exact h.chk
set_option maxRecDepth 20000 in
theorem mayRun_any (ad : Option Addr) (n c : Nat) (f m r : Int) (w : World) : Calls Tryz.prog 43 #[.slice ad n c, .int .i64 f, .int .i64 m, .int .i64 r] w fun e w' => e = .returned (.bool (decide (n ≤ 100 ∧ 0 ≤ f ∧ f ≤ m ∧ 0 ≤ r ∧ r ≤ 50))) ∧ w' = w := by
  go_enter Tryz.func43, Tryz.ntmps43
  by_cases h1 : n ≤ 100 <;> by_cases h2 : 0 ≤ f <;> by_cases h3 : f ≤ m <;> by_cases h4 : 0 ≤ r <;> by_cases h5 : r ≤ 50
  all_goals
    go_wp2 <;> (go_ret; simp [h1, h2, h3, h4, h5])
theorem rok_of {q : QP} {l : QLine} (hl : LnOk q l) : ROk q l := ⟨op_cases hl, fun h => by
  rcases h with e | e
  · exact same_halves hl e
  · obtain ⟨e0, e1, -⟩ := some_halves hl e
    rw [e0, e1]; rfl⟩
/-- machine.Run of a program that was checked -/
theorem mrun_any {text : B} {q : QP} (hg : Good text q) {z a : Nat} {w : World} (hG : Got z a w q) (vi : Value) (inp : List Int) (hf : FeedAt w vi inp) (hinp : ∀ n ∈ inp, isI64 n) (fuel room : Int) (hm : mayRun inp fuel room) (hpw : Pow w) (h11 : 11 ≤ w.heap.size) :
    Calls Tryz.prog 44 #[.pointer (some ⟨a, 0, none⟩), vi, .int .i64 fuel, .int .i64 room] w fun e w' => (∃ ans, e = .returned (resV ans) ∧ Hid (runO q room fuel.toNat (q.blocks.getD 0 []) (Own.start inp) = some ans)) ∧ Below w.heap.size w w' := by
  obtain ⟨-, h0, h1, h2, h3⟩ := hm
  obtain ⟨f, rfl⟩ : ∃ f : Nat, fuel = f := ⟨fuel.toNat, by omega⟩
  obtain ⟨r, rfl⟩ : ∃ r : Nat, room = r := ⟨room.toNat, by omega⟩
  obtain ⟨p, E, hp, hD, hn⟩ := hg.done
  have hls := hD.both.twelve
  obtain ⟨ans, ha, -⟩ := hg.run (fit_steps hls) (start_fit q inp) (r : Nat) f
  obtain ⟨vl, vb, us, vss, hP⟩ := hG.at_
  have hS := read_shape hg.read
  have hq := hD.both.qok
  refine (Run_any hP vi inp hf hinp f r (by omega) (by omega) hD.pos hG.blocks hls hq hG.lines (fun j l hl => rok_of ⟨hq.lines _ (getD_memB hl) l hl, hS.has _ l hl, hS.fits _ l hl⟩) hpw h11 ha).mono ?_
  rintro e w' ⟨rfl, hb⟩
  exact ⟨⟨ans, rfl, ha⟩, hb⟩
theorem res_facts {w1 : World} {R : Nat} {u0 u1 u2 u3 : Value} (hR : w1.heap[R]? = some (.cells #[u0, u1, u2, u3] 47 (0, 0))) : w1.cell? ⟨R, 0, none⟩ = some u0 ∧ w1.cell? ⟨R, 1, none⟩ = some u1 ∧ w1.cell? ⟨R, 2, none⟩ = some u2 ∧ w1.cell? ⟨R, 3, none⟩ = some u3 ∧
    w1.frozen? ⟨R, 0, none⟩ = false ∧ w1.frozen? ⟨R, 1, none⟩ = false ∧ w1.frozen? ⟨R, 2, none⟩ = false ∧ w1.frozen? ⟨R, 3, none⟩ = false :=
  ⟨by rw [cell_of_heap hR]; rfl, by rw [cell_of_heap hR]; rfl, by rw [cell_of_heap hR]; rfl, by rw [cell_of_heap hR]; rfl, frozen_of_heap hR 0, frozen_of_heap hR 1, frozen_of_heap hR 2, frozen_of_heap hR 3⟩
theorem feed_below {w w1 : World} {v : Value} {l : List Int} (h : FeedAt w v l) {b : Nat} (hb : Below b w w1) (hs : w.heap.size ≤ b) : FeedAt w1 v l := by
  obtain ⟨ad, c, rfl, h1, h2, h3⟩ := h
  refine ⟨ad, c, rfl, h1, h2, fun j hj => ?_⟩
  obtain ⟨g, f, e, hg, hc⟩ := h3 j hj
  exact ⟨g, f, e, by have := hb.size; omega, (hb.cell (p := ⟨g, f + j, none⟩) (Nat.lt_of_lt_of_le hg hs)).trans hc⟩
theorem CheckPost.good {text : B} {w w' : World} {e : Ending} (h : CheckPost text w e w') : Below w.heap.size w w' ∧ ∃ v c k, e = .returned (.tuple #[v, .int .i64 c, .int .i64 k]) ∧ ((¬ c = 0 ∧ chkAns text c k) ∨ (c = 0 ∧ k = 0 ∧ ∃ q a z, v = .pointer (some ⟨a, 0, none⟩) ∧ Good text q ∧ Got z a w' q)) := by
  obtain ⟨hb, h | ⟨p, q, E, h1, hq, h2, ⟨n, h3, rfl⟩ | ⟨h3, a, z, rfl, -, hG⟩⟩⟩ := h
  · obtain ⟨c, k, h0, h1, rfl⟩ := h
    exact ⟨hb, _, _, _, rfl, .inl ⟨by omega, .inl ⟨c, k, h0, h1, rfl, rfl⟩⟩⟩
  · exact ⟨hb, _, _, _, rfl, .inl ⟨by decide, .inr ⟨p, q, E, h1, hq, h2, .inl ⟨n, h3, rfl, rfl⟩⟩⟩⟩
  · exact ⟨hb, _, _, _, rfl, .inr ⟨rfl, rfl, q, a, z, rfl, ⟨hq, p, E, h1, h2, h3⟩, hG⟩⟩
theorem results_cell_two {fn : Func} {p u v : Tmp} {ty : TypeId} (h : fn.results = #[.cell p ty, .tmp u, .tmp v]) (tmps : Array Value) (P : Program) (w : World) (b : Nat) (cs : List Value) (d : TypeDesc) (hp : tmps.getD p undef = .pointer (some ⟨b, 0, none⟩))
    (hc : w.rangeAt b 0 cs) (hu : P.underlying ty = some d) (hd : d.isRow = true) (hi : (P.info? ty).map (·.size) = some cs.length) : (results fn tmps).run P w = .ok (.tuple #[.agg cs.toArray, tmps.getD u undef, tmps.getD v undef]) w := by
  have := run_loadVar_mid (P := P) w b 0 ty cs d hc hu hd hi
  rw [Array.getD_eq_getD_getElem?] at hp
  unfold results
  simp [h, hp, asAddr, this]
set_option maxRecDepth 20000 in
set_option maxHeartbeats 2000000 in
theorem SRun_any (text : B) (vi : Value) (inp : List Int) (fuel room : Int) (w : World) (hf : FeedAt w vi inp) (hinp : ∀ n ∈ inp, isI64 n) (h : text.length ≤ 1048576) (E : Env w) (hp : Pow w) :
    Calls Tryz.prog 23 #[.string (bs text), vi, .int .i64 fuel, .int .i64 room] w fun e w' => (∃ v c k, Hid (RunIs text inp fuel room v c k) ∧ e = .returned (.tuple #[v, .int .i64 c, .int .i64 k])) ∧ Below w.heap.size w w' := by
  obtain ⟨w0, hw0⟩ : ∃ w0, w.alloc (.cells #[.int .i64 0, .int .i64 0, .string ⟨#[]⟩, .int .i64 0] 47) = w0 := ⟨_, rfl⟩
  have hb0 : Below w.heap.size w w0 := by rw [← hw0]; exact (Below.refl _ _).alloc (Nat.le_refl _) _
  have hs0 : w0.heap.size = w.heap.size + 1 := by rw [← hw0]; simp
  have hR0 : w0.heap[w.heap.size]? = some (.cells #[.int .i64 0, .int .i64 0, .string ⟨#[]⟩, .int .i64 0] 47 (0, 0)) := by rw [← hw0]; exact Array.getElem?_push_size
  have K := pchecked_any text w0 h (E.on hb0)
  go_enter Tryz.func23, Tryz.ntmps23
  go_upto_region 1 with fail
  try rw [hw0]
  clear hw0
  have hR : ∀ W, Below w0.heap.size w0 W → W.heap[w.heap.size]? = some (.cells #[.int .i64 0, .int .i64 0, .string ⟨#[]⟩, .int .i64 0] 47 (0, 0)) := fun W hW => by rw [hW.block _ (by omega)]; exact hR0
  have HR : Hid (∀ W, Below w0.heap.size w0 W → W.heap[w.heap.size]? = some (.cells #[.int .i64 0, .int .i64 0, .string ⟨#[]⟩, .int .i64 0] 47 (0, 0))) := hR
  clear hR hR0
  go_upto_region 2 with (go_at_call 38; refine K.mono ?_; rintro e w1 ⟨hb1, hpost⟩; have HB1 : Hid (Below w0.heap.size w0 w1) := hb1; obtain ⟨-, v, c, k, rfl, hgd⟩ := CheckPost.good ⟨hb1, hpost⟩; have HP : Hid _ := hgd; clear hpost hb1 hgd)
  rcases HP.out with ⟨hc, hck⟩ | ⟨rfl, rfl, q, a, z, rfl, hgood, hG⟩
  · have cb : (c == 0) = false := by rw [beq_eq_false_iff_ne]; exact hc
    have HC : Hid (¬ c = 0 ∧ chkAns text c k) := ⟨hc, hck⟩
    clear hc hck HP
    have hr1 := HR.out w1 HB1.out
    obtain ⟨d0, d1, d2, d3, f0, f1, f2, f3⟩ := res_facts hr1
    obtain ⟨e4, hB4⟩ := res_put hr1 (.int .i64 0) (.int .i64 0) (.string ⟨#[]⟩) (.int .i64 0)
    go_wp2
    refine bodyPost_ret (results_cell_two Tryz.results23 _ _ _ w.heap.size [.int .i64 0, .int .i64 0, .string ⟨#[]⟩, .int .i64 0] _ rfl (fun j u hu => by rw [Nat.zero_add, cell_of_heap e4]; simpa using hu) Tryz.underlying47 rfl info_result) rfl ?_
    refine ⟨⟨_, _, _, .inl ⟨HC.out.2, HC.out.1, rfl⟩, rfl⟩, (hb0.trans (HB1.out.mono (by omega))).trans hB4⟩
  · clear HP
    have hpw := hp.below hb0 E.size
    have hpw1 := hpw.below HB1.out (by have := E.size; omega)
    have h11 : 11 ≤ w1.heap.size := by have := E.size; have := HB1.out.size; omega
    have hf1 : FeedAt w1 vi inp := feed_below (feed_below hf hb0 (Nat.le_refl _)) HB1.out (Nat.le_refl _)
    obtain ⟨ad, cap, rfl, -⟩ := id hf
    have KM := fun W => mayRun_any ad inp.length cap fuel 1000 room W
    have HGD : Hid (Good text q) := hgood
    clear hgood
    by_cases hm : mayRun inp fuel room
    · have hd : decide (inp.length ≤ 100 ∧ 0 ≤ fuel ∧ fuel ≤ 1000 ∧ 0 ≤ room ∧ room ≤ 50) = true := decide_eq_true hm
      simp only [hd] at KM
      have KR := mrun_any HGD.out hG (.slice ad inp.length cap) inp hf1 hinp fuel room hm hpw1 h11
      have HM : Hid (mayRun inp fuel room) := hm
      clear hm hd hpw hpw1 hf hf1 hinp hG K
      go_wp2_with (first
        | (go_at_call 43; refine (KM _).mono ?_; rintro e w2 ⟨rfl, rfl⟩)
        | (go_at_call 44; refine KR.mono ?_; rintro e w3 ⟨⟨ans, rfl, HA⟩, hb3⟩; have hr3 := HR.out w3 (HB1.out.trans (hb3.mono HB1.out.size)); obtain ⟨d0, d1, d2, d3, f0, f1, f2, f3⟩ := res_facts hr3; obtain ⟨e4, hB4⟩ := res_put hr3 (.int .i64 ((ans.1 : Nat) : Int)) (.int .i64 ans.2.1) (.string (bs ans.2.2.yd.text)) (.int .i64 ans.2.2.yd.live); simp only [resV]))
      refine bodyPost_ret (results_cell_two Tryz.results23 _ _ _ w.heap.size [.int .i64 ((ans.1 : Nat) : Int), .int .i64 ans.2.1, .string (bs ans.2.2.yd.text), .int .i64 ans.2.2.yd.live] _ rfl (fun j u hu => by rw [Nat.zero_add, cell_of_heap e4]; simpa using hu) Tryz.underlying47 rfl info_result) rfl ?_
      refine ⟨⟨_, _, _, .inr (.inr ⟨HM.out, rfl, rfl, q, ans, HGD.out, HA.out, rfl⟩), rfl⟩, ((hb0.trans (HB1.out.mono (by omega))).trans (hb3.mono (by have := HB1.out.size; omega))).trans hB4⟩
    · have hd : decide (inp.length ≤ 100 ∧ 0 ≤ fuel ∧ fuel ≤ 1000 ∧ 0 ≤ room ∧ room ≤ 50) = false := decide_eq_false hm
      simp only [hd] at KM
      have HM : Hid (¬ mayRun inp fuel room) := hm
      clear hm hd hpw hpw1 hf hf1 hinp hG K
      have hr1 := HR.out w1 HB1.out
      obtain ⟨d0, d1, d2, d3, f0, f1, f2, f3⟩ := res_facts hr1
      obtain ⟨e4, hB4⟩ := res_put hr1 (.int .i64 0) (.int .i64 0) (.string ⟨#[]⟩) (.int .i64 0)
      go_wp2_with (go_at_call 43; refine (KM _).mono ?_; rintro e w2 ⟨rfl, rfl⟩)
      refine bodyPost_ret (results_cell_two Tryz.results23 _ _ _ w.heap.size [.int .i64 0, .int .i64 0, .string ⟨#[]⟩, .int .i64 0] _ rfl (fun j u hu => by rw [Nat.zero_add, cell_of_heap e4]; simpa using hu) Tryz.underlying47 rfl info_result) rfl ?_
      refine ⟨⟨_, _, _, .inr (.inl ⟨HGD.out.chk, HM.out, rfl, rfl, rfl⟩), rfl⟩, (hb0.trans (HB1.out.mono (by omega))).trans hB4⟩
end Go.Proofs.YtmlgajhhnojdjaaGreatDoor.RunB
/- Plain facts: programs of one block that are made line by line, and what the project's reader makes of them. -/
namespace Go.Proofs.YtmlgajhhnojdjaaGreatDoor.MadA
open Go Go.Proofs.YtmlgajhhnojdjaaGreatDoor.Spec

/-- the five places: p, q, x.a, x.b, o.s -/
def plc (i : Fin 5) : B := match i with
  | 0 => [112] | 1 => [113] | 2 => [120, 46, 97] | 3 => [120, 46, 98] | 4 => [111, 46, 115]
def plq (i : Fin 5) : Nat × Nat := match i with
  | 0 => (1, 0) | 1 => (2, 0) | 2 => (3, 1) | 3 => (3, 2) | 4 => (4, 3)
inductive ML where
  | new (i : Fin 5)
  | load (i : Fin 5)
  | store (i : Fin 5)
  | move (i k : Fin 5)
  | drop (i : Fin 5)
  | some (k : Fin 5)
def ML.text : ML → B
  | new i => [110, 101, 119, 32] ++ plc i ++ [32, 110]
  | load i => [108, 111, 97, 100, 32, 110, 32] ++ plc i
  | store i => [115, 116, 111, 114, 101, 32] ++ plc i ++ [32, 110]
  | move i k => [109, 111, 118, 101, 32] ++ plc i ++ ([32] ++ plc k)
  | drop i => [100, 114, 111, 112, 32] ++ plc i
  | some k => [115, 111, 109, 101, 32, 111, 32] ++ plc k
def ML.q (n : Nat) : ML → QLine
  | new i => ⟨n, 9, [plq i, (0, 0)], 0, 0, []⟩
  | load i => ⟨n, 10, [(0, 0), plq i], 0, 0, []⟩
  | store i => ⟨n, 11, [plq i, (0, 0)], 0, 0, []⟩
  | move i k => ⟨n, 12, [plq i, plq k], 0, 0, []⟩
  | drop i => ⟨n, 15, [plq i], 0, 0, []⟩
  | some k => ⟨n, 14, [(4, 0), plq k], 0, 0, []⟩
instance : DecidableEq QLine := fun x y => decidable_of_iff (x.num = y.num ∧ x.op = y.op ∧ x.places = y.places ∧ x.number = y.number ∧ x.flag = y.flag ∧ x.next = y.next)
  ⟨fun ⟨h1, h2, h3, h4, h5, h6⟩ => by cases x; cases y; simp only at h1 h2 h3 h4 h5 h6; subst h1 h2 h3 h4 h5 h6; rfl, fun h => by subst h; exact ⟨rfl, rfl, rfl, rfl, rfl, rfl⟩⟩
end Go.Proofs.YtmlgajhhnojdjaaGreatDoor.MadA
/- Plain definitions: which places of a program that is made line by line have a box. -/
namespace Go.Proofs.YtmlgajhhnojdjaaGreatDoor.MadM
open Go Go.Proofs.YtmlgajhhnojdjaaGreatDoor.Spec Go.Proofs.YtmlgajhhnojdjaaGreatDoor.MadA

/-- which places have a box; the opt: 0 nothing, 1 whole, 2 hollow -/
structure MM where
  p : Bool
  q : Bool
  a : Bool
  b : Bool
  o : Fin 3
end Go.Proofs.YtmlgajhhnojdjaaGreatDoor.MadM
/- Plain facts: which places of a program that is made line by line have a box, and where its first fault is. -/
namespace Go.Proofs.YtmlgajhhnojdjaaGreatDoor.MadB
open Go Go.Proofs.YtmlgajhhnojdjaaGreatDoor.Spec Go.Proofs.YtmlgajhhnojdjaaGreatDoor.Aux Go.Proofs.YtmlgajhhnojdjaaGreatDoor.FlwF Go.Proofs.YtmlgajhhnojdjaaGreatDoor.FlwG Go.Proofs.YtmlgajhhnojdjaaGreatDoor.FlwH Go.Proofs.YtmlgajhhnojdjaaGreatDoor.FlwI Go.Proofs.YtmlgajhhnojdjaaGreatDoor.FlwJ Go.Proofs.YtmlgajhhnojdjaaGreatDoor.FlwM Go.Proofs.YtmlgajhhnojdjaaGreatDoor.FlwO Go.Proofs.YtmlgajhhnojdjaaGreatDoor.FlwP Go.Proofs.YtmlgajhhnojdjaaGreatDoor.FlwQ Go.Proofs.YtmlgajhhnojdjaaGreatDoor.FlwS Go.Proofs.YtmlgajhhnojdjaaGreatDoor.FlwX Go.Proofs.YtmlgajhhnojdjaaGreatDoor.FlwY Go.Proofs.YtmlgajhhnojdjaaGreatDoor.MadA Go.Proofs.YtmlgajhhnojdjaaGreatDoor.MadM

theorem outsL_none (q : QP) : ∀ (ls : List QLine) (s : List Nat), (∀ l ∈ ls, l.next = []) → outsL q ls s = []
  | [], _, _ => rfl
  | l :: ls, s, h => by
    rw [outsL, h l (List.mem_cons_self ..)]
    exact outsL_none q ls _ fun x hx => h x (List.mem_cons_of_mem _ hx)
/-- of one block that leads nowhere the ways are those it starts with -/
theorem one_block {q : QP} {E : List (List Nat)} {O : Nat → Bool} {ls : List QLine} (hq : q.blocks = [ls]) (hn : ∀ l ∈ ls, l.next = []) (h : InvF q E O) : firstSome (faultB q E) q.blocks.length 0 = faultL q ls startSt := by
  have hl : q.blocks.length = 1 := by rw [hq]; rfl
  have hb : q.blocks.getD 0 [] = ls := by rw [hq]; rfl
  have hU : QClosed q (fun _ => startSt) := ⟨fun _ _ => startSt_ok, leS_refl _, fun b hb' _ x hx => by
    have : b = 0 := by omega
    subst this
    rw [hb, outsL_none q ls _ hn] at hx; cases hx⟩
  have h1 := h.inv.least _ hU 0 (by omega)
  have h2 := h.inv.start
  have hs := h.inv.ok.at (i := 0) (by rw [h.inv.len]; omega)
  have he : E.getD 0 [] = startSt := by
    refine ext24 hs.len (by decide) fun k hk => ?_
    have a1 := h1 k hk
    have a2 := h2 k hk
    unfold le1 at a1 a2
    rw [Nat.or_comm, a2] at a1
    exact a1
  rw [hl]
  show (faultB q E 0).or none = _
  unfold faultB
  rw [he, if_neg startSt_ne, hb, Option.or_none]
end Go.Proofs.YtmlgajhhnojdjaaGreatDoor.MadB
/- Programs that are made line by line: the maker's steps, walked. -/
namespace Go.Proofs.YtmlgajhhnojdjaaGreatDoor.MadC
open Go Go.RowKit Go.Proofs.YtmlgajhhnojdjaaGreatDoor.Spec Go.Proofs.YtmlgajhhnojdjaaGreatDoor.Aux Go.Proofs.YtmlgajhhnojdjaaGreatDoor.PrjJ Go.Proofs.YtmlgajhhnojdjaaGreatDoor.PrjK Go.Proofs.YtmlgajhhnojdjaaGreatDoor.MadA Go.Proofs.YtmlgajhhnojdjaaGreatDoor.MadM

section
variable {w w' : World} {a : Nat} {T : ByteArray} {n : Nat} {m : MM}
def pickN (c : Int) (n : Nat) : Nat := ((if c < 0 then -(c + 1) else c) % n).toNat
theorem pickN_lt (c : Int) {n : Nat} (hn : 0 < n) : pickN c n < n := by
  unfold pickN
  have h1 := Int.emod_nonneg (if c < 0 then -(c + 1) else c) (b := (n : Int)) (by omega)
  have h2 := Int.emod_lt_of_pos (if c < 0 then -(c + 1) else c) (b := (n : Int)) (by omega)
  omega
end
theorem pick_any (c : Int) (n : Nat) (w : World) (hc : -9223372036854775808 ≤ c ∧ c ≤ 9223372036854775807) (hn : 0 < n ∧ n ≤ 10000000) : Calls Tryz.prog 16 #[.int .i64 c, .int .i64 n] w fun e w' => e = .returned (.int .i64 (pickN c n : Nat)) ∧ w' = w := by
  have hz : ((n : Int) == 0) = false := by rw [beq_eq_false_iff_ne]; omega
  by_cases h : c < 0
  · go_enter Tryz.func16, Tryz.ntmps16
    go_wp2
    go_ret
    refine ⟨?_, rfl⟩
    have e : -((c + 1).tmod (n : Int)) = ((pickN c n : Nat) : Int) := by
      unfold pickN
      rw [if_pos h, ← Int.neg_tmod, Int.tmod_eq_emod_of_nonneg (by omega), Int.toNat_of_nonneg (Int.emod_nonneg _ (by omega))]
    show Ending.returned (Value.int .i64 (-((c + 1).tmod (n : Int)))) = _
    rw [e]
  · go_enter Tryz.func16, Tryz.ntmps16
    go_wp2
    go_ret
    refine ⟨?_, rfl⟩
    have e : c % (n : Int) = ((pickN c n : Nat) : Int) := by
      unfold pickN
      rw [if_neg (by omega), Int.toNat_of_nonneg (Int.emod_nonneg _ (by omega))]
    show Ending.returned (Value.int .i64 (c % (n : Int))) = _
    rw [e]
section
variable {w : World} {a : Nat} {T : ByteArray} {n : Nat} {m : MM}
end
end Go.Proofs.YtmlgajhhnojdjaaGreatDoor.MadC
/- Programs that are made line by line: a line out of raw numbers, walked. -/
namespace Go.Proofs.YtmlgajhhnojdjaaGreatDoor.MadD
theorem hereMadD : True := trivial
end Go.Proofs.YtmlgajhhnojdjaaGreatDoor.MadD
/- Programs that are made line by line: what Check says of them; their beginning, walked. -/
namespace Go.Proofs.YtmlgajhhnojdjaaGreatDoor.MadE
open Go Go.RowKit Go.Proofs.YtmlgajhhnojdjaaGreatDoor.Spec Go.Proofs.YtmlgajhhnojdjaaGreatDoor.Aux Go.Proofs.YtmlgajhhnojdjaaGreatDoor.PrjJ Go.Proofs.YtmlgajhhnojdjaaGreatDoor.PrjK Go.Proofs.YtmlgajhhnojdjaaGreatDoor.FlwI Go.Proofs.YtmlgajhhnojdjaaGreatDoor.FlwP Go.Proofs.YtmlgajhhnojdjaaGreatDoor.FlwQ Go.Proofs.YtmlgajhhnojdjaaGreatDoor.FlwY Go.Proofs.YtmlgajhhnojdjaaGreatDoor.FlwZ Go.Proofs.YtmlgajhhnojdjaaGreatDoor.FlwZa Go.Proofs.YtmlgajhhnojdjaaGreatDoor.MadA Go.Proofs.YtmlgajhhnojdjaaGreatDoor.MadM Go.Proofs.YtmlgajhhnojdjaaGreatDoor.MadB Go.Proofs.YtmlgajhhnojdjaaGreatDoor.MadC Go.Proofs.YtmlgajhhnojdjaaGreatDoor.MadD

def oneQ : QP := ⟨[([110], 0), ([112], 1)], [[⟨3, 2, [(0, 0)], 5, 0, []⟩, ⟨4, 9, [(1, 0), (0, 0)], 0, 0, []⟩, ⟨5, 10, [(0, 0), (1, 0)], 0, 0, []⟩, ⟨6, 22, [(0, 0)], 0, 0, []⟩]]⟩
set_option maxRecDepth 100000 in
theorem one_read : prjRead oneText false = (some oneQ, 0, 0) := by rfl
theorem chk_one {c k : Int} (ha : chkAns oneText c k) : c = 0 ∧ k = 0 := by
  have hr := one_read
  obtain ⟨-, -, p, hp, -⟩ := prjRead_good hr
  rcases ha with ⟨c', k', -, h1, -⟩ | ⟨p', q, E, -, h2, hD, h3⟩
  · rw [hp] at h1; cases h1
  · rw [hr] at h2
    simp only [Prod.mk.injEq, Option.some.injEq, and_true] at h2
    subst h2
    have h4 := one_block (q := oneQ) rfl (by decide) hD.inv
    have h5 : faultL oneQ _ startSt = none := (by decide : faultL oneQ [⟨3, 2, [(0, 0)], 5, 0, []⟩, ⟨4, 9, [(1, 0), (0, 0)], 0, 0, []⟩, ⟨5, 10, [(0, 0), (1, 0)], 0, 0, []⟩, ⟨6, 22, [(0, 0)], 0, 0, []⟩] startSt = none)
    have h6 := h4.trans h5
    rcases h3 with ⟨n, h7, -⟩ | ⟨-, rfl, rfl⟩
    · rw [h6] at h7; cases h7
    · exact ⟨rfl, rfl⟩
end Go.Proofs.YtmlgajhhnojdjaaGreatDoor.MadE
/- stowkeep's small functions, walked: awake, some, starts. -/
namespace Go.Proofs.YtmlgajhhnojdjaaGreatDoor.RunB
open Go Go.RowKit Go.Proofs.YtmlgajhhnojdjaaGreatDoor.Spec Go.Proofs.YtmlgajhhnojdjaaGreatDoor.Aux Go.Proofs.YtmlgajhhnojdjaaGreatDoor.Own Go.Proofs.YtmlgajhhnojdjaaGreatDoor.RunA Go.Proofs.YtmlgajhhnojdjaaGreatDoor.PrjG Go.Proofs.YtmlgajhhnojdjaaGreatDoor.PrjJ Go.Proofs.YtmlgajhhnojdjaaGreatDoor.PrjK Go.Proofs.YtmlgajhhnojdjaaGreatDoor.PrjM Go.Proofs.YtmlgajhhnojdjaaGreatDoor.PrjS Go.Proofs.YtmlgajhhnojdjaaGreatDoor.FlwZ Go.Proofs.YtmlgajhhnojdjaaGreatDoor.FlwZa Go.Proofs.YtmlgajhhnojdjaaGreatDoor.MadE

def oneEnd : Go.Proofs.YtmlgajhhnojdjaaGreatDoor.Own.Own := ⟨⟨[(5, false)], 0, [43 :: Lib.itoa 1, 60 :: Lib.itoa 1, 45 :: Lib.itoa 1]⟩, [], 5 :: List.replicate 11 0, List.replicate 24 0⟩
theorem one_run : runO oneQ 1 9 (oneQ.blocks.getD 0 []) (Own.start []) = some (1, 5, oneEnd) := by rfl
theorem itoa_one : Lib.itoa 1 = [49] := by simp [Lib.itoa, Lib.decDigits]
def oneRes : Value := .agg #[.int .i64 1, .int .i64 5, .string ⟨#[43, 49, 32, 60, 49, 32, 45, 49]⟩, .int .i64 0]
theorem one_res : resV (1, 5, oneEnd) = oneRes := by
  have e : oneEnd.yd.text = [43, 49, 32, 60, 49, 32, 45, 49] := by
    show Lib.join [43 :: Lib.itoa 1, 60 :: Lib.itoa 1, 45 :: Lib.itoa 1] [32] = _
    rw [itoa_one]; rfl
  unfold resV oneRes
  simp only [e]
  rfl
theorem one_is {v : Value} {c k : Int} (h : RunIs oneText [] 9 1 v c k) : v = oneRes ∧ c = 0 ∧ k = 0 := by
  have hm : mayRun [] 9 1 := by unfold mayRun; simp
  rcases h with ⟨h1, h2, -⟩ | ⟨-, h2, -⟩ | ⟨-, rfl, rfl, q, ans, hg, hr, rfl⟩
  · exact absurd (chk_one h1).1 h2
  · exact absurd hm h2
  · have e := hg.read.symm.trans one_read
    simp only [Prod.mk.injEq, Option.some.injEq, and_true] at e
    subst e
    have e2 := hr.symm.trans one_run
    cases e2
    exact ⟨one_res, rfl, rfl⟩
theorem feed_nil (w : World) : FeedAt w (.slice none 0 0) [] := ⟨none, 0, rfl, Nat.le_refl _, Nat.zero_le _, fun _j hj => absurd hj (Nat.not_lt_zero _)⟩
set_option maxRecDepth 20000 in
set_option maxHeartbeats 2000000 in
theorem awake_any (w : World) (E : Env w) (hp : Pow w) : Calls Tryz.prog 25 #[] w fun e w' => e = .returned (.bool true) ∧ Below w.heap.size w w' := by
  have KC : Calls Tryz.prog 21 #[.string ⟨#[108, 101, 116, 32, 110, 32, 105, 110, 116, 10, 108, 101, 116, 32, 112, 32, 98, 111, 120, 10, 98, 108, 111, 99, 107, 10, 115, 101, 116, 32, 110, 32, 53, 10, 110, 101, 119, 32, 112, 32, 110, 10, 108, 111, 97, 100, 32, 110, 32, 112, 10, 101, 110, 100, 32, 110]⟩] w _ := (Check_any oneText w (by decide) E).mono (R' := fun e w' => e = .returned (.tuple #[.int .i64 0, .int .i64 0]) ∧ Below w.heap.size w w') fun e w' ⟨⟨c, k, ha, he⟩, hb⟩ => by
    obtain ⟨rfl, rfl⟩ := chk_one ha.out; exact ⟨he, hb⟩
  have KR : ∀ w', Env w' → Pow w' → Calls Tryz.prog 23 #[.string ⟨#[108, 101, 116, 32, 110, 32, 105, 110, 116, 10, 108, 101, 116, 32, 112, 32, 98, 111, 120, 10, 98, 108, 111, 99, 107, 10, 115, 101, 116, 32, 110, 32, 53, 10, 110, 101, 119, 32, 112, 32, 110, 10, 108, 111, 97, 100, 32, 110, 32, 112, 10, 101, 110, 100, 32, 110]⟩, .slice none 0 0, .int .i64 9, .int .i64 1] w' _ := fun w' E' hp' =>
    (SRun_any oneText (.slice none 0 0) [] 9 1 w' (feed_nil w') (fun n hn => by cases hn) (by decide) E' hp').mono (R' := fun e w'' => e = .returned (.tuple #[oneRes, .int .i64 0, .int .i64 0]) ∧ Below w'.heap.size w' w'') fun e w'' ⟨⟨v, c, k, ha, he⟩, hb⟩ => by
    obtain ⟨rfl, rfl, rfl⟩ := one_is ha.out; exact ⟨he, hb⟩
  go_enter Tryz.func25, Tryz.ntmps25
  go_wp2_with (first
    | (go_at_call 21; refine KC.mono ?_; rintro e w1 ⟨rfl, hb1⟩; have E1 := E.on hb1; have hp1 := hp.below hb1 E.size)
    | (go_at_call 23; refine (KR _ E1 hp1).mono ?_; rintro e w2 ⟨rfl, hb2⟩; simp only [oneRes]))
  go_ret
  exact ⟨rfl, hb1.trans ((hb2.alloc hb2.size _).mono hb1.size)⟩
set_option maxRecDepth 20000 in
theorem some_any (w : World) (vi : Value) (inp : List Int) (hf : FeedAt w vi inp) : Calls Tryz.prog 26 #[vi] w fun e w' => (∃ v, e = .returned v ∧ FeedAt w v (inp.take 100)) ∧ w' = w := by
  obtain ⟨ad, c, rfl, h1, h2, h3⟩ := id hf
  have hml : (maxLen : Int) ≤ 9223372036854775807 := by decide
  by_cases hl : inp.length ≤ 100
  · have HF : Hid (FeedAt w (.slice ad inp.length c) (inp.take 100)) := by rw [List.take_of_length_le hl]; exact hf
    clear hf h3
    go_enter Tryz.func26, Tryz.ntmps26
    go_wp2
    go_ret
    exact ⟨⟨_, rfl, HF.out⟩, rfl⟩
  · have h100 : (inp.take 100).length = 100 := by rw [List.length_take]; omega
    obtain ⟨g, f, rfl, hg, -⟩ := h3 0 (by omega)
    have HF : Hid (FeedAt w (.slice (some ⟨g, f, none⟩) 100 c) (inp.take 100)) := ⟨some ⟨g, f, none⟩, c, by rw [h100], by rw [h100]; omega, h2, fun j hj => by
      rw [h100] at hj
      obtain ⟨g', f', e, hg', hc⟩ := h3 j (by omega)
      simp only [Option.some.injEq, Addr.mk.injEq, and_true] at e
      obtain ⟨rfl, rfl⟩ := e
      refine ⟨g, f, rfl, hg, ?_⟩
      rw [hc, List.getD_eq_getElem?_getD, List.getD_eq_getElem?_getD, List.getElem?_take_of_lt hj]⟩
    clear hf h3 h100
    go_enter Tryz.func26, Tryz.ntmps26
    go_wp2
    go_ret
    exact ⟨⟨_, rfl, HF.out⟩, rfl⟩
end Go.Proofs.YtmlgajhhnojdjaaGreatDoor.RunB
