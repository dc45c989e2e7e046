/- What the document's own ways answer on spots and blocks. Conditions: the program lies in memory as it is kept; what is named is there. -/
import Derived.Test.YtmlgajhhnojdjaaGreatDoorQAN
import Derived.Test.YtmlgajhhnojdjaaGreatDoorQAE
import Derived.Deep.MidRow
import Derived.Deep.RegionLaw
import Derived.Deep.RegionHeld3
import Derived.BigRegion
import Derived.Test.YtmlgajhhnojdjaaGreatDoorQAB
namespace Go.Proofs.YtmlgajhhnojdjaaGreatDoor.RefP
open Go.RowKit Go.Proofs.YtmlgajhhnojdjaaGreatDoor.Spec Go.Proofs.YtmlgajhhnojdjaaGreatDoor.RefA Go.Proofs.YtmlgajhhnojdjaaGreatDoor.RefC Go.Proofs.YtmlgajhhnojdjaaGreatDoor.RefG Go.Proofs.YtmlgajhhnojdjaaGreatDoor.RefH Go.Proofs.YtmlgajhhnojdjaaGreatDoor.RefO Go.Proofs.YtmlgajhhnojdjaaGreatDoor.Aux

theorem ret_two {a b c d : Int} (h : a = c) (h' : b = d) : Ending.returned (.tuple #[.int .i64 a, .int .i64 b]) = .returned (.tuple #[.int .i64 c, .int .i64 d]) := by rw [h, h']
set_option maxRecDepth 20000 in
set_option maxHeartbeats 1000000 in
theorem spots_any (p : RP) (a : Nat) (l : B) (w : World) (hp : ProgAt w a p) (hok : p.Ok) (hl : l.length ≤ maxLen) (hf : 0 ≤ p.find (localOf l)) :
    Calls Tryz.prog 143 #[.pointer (some ⟨a, 0, none⟩), .string (bs l)] w fun e w' => e = .returned (.tuple #[.int .i64 ((p.spots l).1 : Int), .int .i64 ((p.spots l).2 : Int)]) ∧ ∃ n, w' = w.drewN n := by
  obtain ⟨j, hj, hjl, _⟩ := RP.find_lt hf
  have hln := hok.letn
  have HF : ∀ n, Calls Tryz.prog 110 #[.pointer (some ⟨a, 0, none⟩), .string (bs (localOf l))] (w.drewN n) fun e w' => e = .returned (.int .i64 j) ∧ ∃ m, w' = w.drewN m := fun n =>
    (find_any p a (localOf l) (w.drewN n) (hp.drewN n) hok).mono fun e w' ⟨he, m, hm⟩ => ⟨by rw [he, hj], n + m, by rw [hm]; simp⟩
  have HT : ∀ n, Calls Tryz.prog 113 #[.pointer (some ⟨a, 0, none⟩), .string (bs l)] (w.drewN n) fun e w' => e = .returned (.string (bs (p.typeOf l))) ∧ ∃ m, w' = w.drewN m := fun n =>
    (typeOf_any p a l (w.drewN n) (hp.drewN n) hok hl hf).mono fun e w' ⟨he, m, hm⟩ => ⟨he, n + m, by rw [hm]; simp⟩
  have HS : Hid (p.spots l = if partOf l = 98 then (2 * j + 1, 1) else if p.typeOf l = wPair then (2 * j, 2) else (2 * j, 1)) := by unfold Hid RP.spots; rw [hj]; rfl
  have e2 := u8_beq (partOf l) 98 (by omega)
  simp only [Int.cast_ofNat_Int] at e2
  have HE : Hid (_ = _) := e2
  clear hj hf e2
  obtain ⟨w0, rfl⟩ : ∃ w0 : World, w = w0.drewN 0 := ⟨w, rfl⟩
  go_enter Tryz.func143, Tryz.ntmps143
  go_wp2_with (first
    | (go_at_call 111; refine (local_bs l _ hl).mono ?_; rintro e w' ⟨rfl, rfl⟩)
    | (go_at_call 110; refine (HF _).mono ?_; rintro e w' ⟨rfl, n1, rfl⟩)
    | (go_at_call 159; refine (part_bs l _ hl).mono ?_; rintro e w' ⟨rfl, rfl⟩)
    | (go_at_call 113; refine (HT _).mono ?_; rintro e w' ⟨rfl, n2, rfl⟩))
  · go_ret2
    have hx : partOf l = 98 := by have h1 := HE.out; rw [‹(((partOf l).toNat : Int) == 98) = true›] at h1; simpa using h1.symm
    exact ⟨ret_two (by rw [HS.out, if_pos hx]; rfl) (by rw [HS.out, if_pos hx]; rfl), n1, by simp⟩
  · go_ret2
    have hx : ¬ partOf l = 98 := by have h1 := HE.out; rw [‹(((partOf l).toNat : Int) == 98) = false›] at h1; simpa using h1.symm
    have hy : p.typeOf l = wPair := by simpa [wPair] using ‹(p.typeOf l == _) = true›
    exact ⟨ret_two (by rw [HS.out, if_neg hx, if_pos hy]; rfl) (by rw [HS.out, if_neg hx, if_pos hy]; rfl), n2, by simp⟩
  · go_ret2
    have hx : ¬ partOf l = 98 := by have h1 := HE.out; rw [‹(((partOf l).toNat : Int) == 98) = false›] at h1; simpa using h1.symm
    have hy : ¬ p.typeOf l = wPair := by simpa [wPair] using ‹(p.typeOf l == _) = false›
    exact ⟨ret_two (by rw [HS.out, if_neg hx, if_neg hy]; rfl) (by rw [HS.out, if_neg hx, if_neg hy]; rfl), n2, by simp⟩

set_option maxRecDepth 20000 in
set_option maxHeartbeats 1000000 in
theorem block_any (p : RP) (a : Nat) (l : B) (n : Nat) (w : World) (hp : ProgAt w a p) (hok : p.Ok) (hl : l.length ≤ maxLen) (hn : number l = some (n : Int)) (hb : n < p.blocks.length) :
    Calls Tryz.prog 89 #[.pointer (some ⟨a, 0, none⟩), .string (bs l)] w fun e w' => e = .returned (.int .i64 (p.blocks.getD n 0)) ∧ ∃ m, w' = w.drewN m := by
  obtain ⟨g, c, h1, h1', h2⟩ := hp.block_at n hb
  have hbn := hok.blockn
  have HN := number_bs l w hl
  rw [hn] at HN
  have hb0 : (n : Int) < p.blocks.length := by omega
  clear hn
  go_enter Tryz.func89, Tryz.ntmps89
  go_wp2_with (go_at_call 112; refine HN.mono ?_; rintro e w' ⟨rfl, rfl⟩)
  go_ret
  exact ⟨ret_int (by simp [hb]), 0, rfl⟩
end Go.Proofs.YtmlgajhhnojdjaaGreatDoor.RefP
/- What the document's own ways answer on whether a place is there. Conditions: the program lies in memory as it is kept; the place's local is one of twelve. -/
namespace Go.Proofs.YtmlgajhhnojdjaaGreatDoor.RefQ
open Go.RowKit Go.Proofs.YtmlgajhhnojdjaaGreatDoor.Spec Go.Proofs.YtmlgajhhnojdjaaGreatDoor.RefA Go.Proofs.YtmlgajhhnojdjaaGreatDoor.RefC Go.Proofs.YtmlgajhhnojdjaaGreatDoor.RefG Go.Proofs.YtmlgajhhnojdjaaGreatDoor.RefH Go.Proofs.YtmlgajhhnojdjaaGreatDoor.RefO Go.Proofs.YtmlgajhhnojdjaaGreatDoor.RefP Go.Proofs.YtmlgajhhnojdjaaGreatDoor.Aux

set_option maxRecDepth 20000 in
set_option maxHeartbeats 1000000 in
theorem there_any (p : RP) (a : Nat) (s : WS) (l : B) (w : World) (hp : ProgAt w a p) (hok : p.Ok) (hs : s.Ok) (hl : l.length ≤ maxLen) (hf : 0 ≤ p.find (localOf l)) (h12 : p.lets.length ≤ 12) :
    Calls Tryz.prog 138 #[.pointer (some ⟨a, 0, none⟩), s.val, .string (bs l)] w fun e w' => e = .returned (.bool (p.there s l)) ∧ Below w.heap.size w w' := by
  obtain ⟨j, hj, hjl, _⟩ := RP.find_lt hf
  obtain ⟨hb1, hb2⟩ := RP.spots_bound hj
  have hW : Below w.heap.size w (w.alloc (.cells s.cells.toArray 155)) := (Below.refl _ _).alloc (Nat.le_refl _) _
  have hPA := hp.below hW
  have HC : Hid (∀ k, k < 24 → (w.alloc (.cells s.cells.toArray 155)).cell? ⟨w.heap.size, 1 + k, none⟩ = some (.string (bs (s.at k)))) := fun k hk => by
    have := WS.cells_at hs k hk
    rw [cell_of_heap (cs := s.cells.toArray) (e := 155) (f := (0, 0)) (by show (w.heap.push _)[w.heap.size]? = _; simp)]
    simpa using this
  have HT : ∀ n, Calls Tryz.prog 113 #[.pointer (some ⟨a, 0, none⟩), .string (bs l)] ((w.alloc (.cells s.cells.toArray 155)).drewN n) fun e w' => e = .returned (.string (bs (p.typeOf l))) ∧ ∃ m, w' = (w.alloc (.cells s.cells.toArray 155)).drewN m := fun n =>
    (typeOf_any p a l _ (hPA.drewN n) hok hl hf).mono fun e w' ⟨he, m, hm⟩ => ⟨he, n + m, by rw [hm]; simp⟩
  have HSP : ∀ n, Calls Tryz.prog 143 #[.pointer (some ⟨a, 0, none⟩), .string (bs l)] ((w.alloc (.cells s.cells.toArray 155)).drewN n) fun e w' => e = .returned (.tuple #[.int .i64 ((p.spots l).1 : Int), .int .i64 ((p.spots l).2 : Int)]) ∧ ∃ m, w' = (w.alloc (.cells s.cells.toArray 155)).drewN m := fun n =>
    (spots_any p a l _ (hPA.drewN n) hok hl hf).mono fun e w' ⟨he, m, hm⟩ => ⟨he, n + m, by rw [hm]; simp⟩
  have HTh : Hid (p.there s l = thereGo s (p.some l) ((p.spots l).1 + (p.spots l).2 - (p.spots l).1) (p.spots l).1) := by unfold Hid RP.there; rw [Nat.add_sub_cancel_left]
  have hfew := hs.few
  have hsome : (bs (p.some l)).size ≤ 1000 := by rw [size_bs]; unfold RP.some; split <;> simp
  have HSM : Hid (p.some l = if p.typeOf l = wOpt then [110, 119] else [119]) := rfl
  have h24 : (p.spots l).1 + (p.spots l).2 ≤ 24 := by omega
  unfold WS.val
  clear hf hj hb1 hjl
  go_enter Tryz.func138, Tryz.ntmps138
  go_wp2_with fail
  refine (HT 0).mono ?_
  rintro e w' ⟨rfl, n1, rfl⟩
  have hbw : ∀ n, Below w.heap.size w ((w.alloc (.cells s.cells.toArray 155)).drewN n) := fun n => below_drewN hW n
  have hcells : ∀ k, k < 24 → (w.alloc (.cells s.cells.toArray 155)).cell? ⟨w.heap.size, 1 + k, none⟩ = some (.string (bs (s.at k))) := HC.out
  clear HC HT hW hPA hp
  generalize w.alloc (.cells s.cells.toArray 155) = W at *
  go_upto_if 17 with fail
  go_cut [8] (fun v wc => wc = W.drewN n1 ∧ v = .string (bs (p.some l)))
  case first =>
    go_wp2
    · go_meet
      case rel => exact ⟨rfl, by rw [HSM.out, if_pos (by simpa [wOpt] using ‹(p.typeOf l == _) = true›)]; rfl⟩
    · go_meet
      case rel => exact ⟨rfl, by rw [HSM.out, if_neg (by simpa [wOpt] using ‹(p.typeOf l == _) = false›)]; rfl⟩
  case rest =>
    obtain ⟨rfl, rfl⟩ := hcut
    go_wp2_with (go_at_call 143; refine (HSP _).mono ?_; rintro e w' ⟨rfl, n2, rfl⟩)
    clear HSP
    generalize (p.spots l).1 = i0 at *
    generalize (p.spots l).2 = m0 at *
    go_loopg [11] (m0) (fun gk i wr => ∃ k n : Nat, k ≤ i0 + m0 ∧ gk + k = i0 + m0 ∧ i = .int .i64 k ∧ wr = W.drewN n ∧ Hid (p.there s l = thereGo s (p.some l) (i0 + m0 - k) k))
    case atStart => exact ⟨i0, n2, by omega, by omega, rfl, rfl, HTh⟩
    case round =>
      obtain ⟨k, n, hk, hgk, rfl, rfl, HI⟩ := hrel
      by_cases hlt : k < i0 + m0
      · have HS : Hid (_ = _) := thereGo_step s (p.some l) i0 m0 k hlt
        have hck := hcells k (by omega)
        have hk24 : (k : Int) < 24 := by omega
        have HO := only_any (bs (s.at k)) (bs (p.some l)) (W.drewN n) (by rw [size_bs]; exact hfew k) hsome
        rw [toList_bs, toList_bs] at HO
        clear hcells
        cases ho : only (s.at k) (p.some l)
        · rw [ho] at HO
          have hx : p.there s l = false := by rw [HI.out, HS.out, ho]; rfl
          clear ho
          go_wp2_with (go_at_call 186; refine HO.mono ?_; rintro e w' ⟨rfl, n3, rfl⟩)
          go_ret
          exact ⟨ret_bool hx.symm, hbw _⟩
        · rw [ho] at HO
          have hx : Hid (thereGo s (p.some l) (i0 + m0 - k) k = thereGo s (p.some l) (i0 + m0 - (k + 1)) (k + 1)) := by unfold Hid; rw [HS.out, ho]; rfl
          clear ho
          go_wp2_with (go_at_call 186; refine HO.mono ?_; rintro e w' ⟨rfl, n3, rfl⟩)
          go_roundg (i0 + m0 - (k + 1))
          case rel => exact ⟨k + 1, n + n3, by omega, by omega, by go_num, by simp, by rw [HI.out, hx.out]; rfl⟩
          case measure => omega
      · have hx : p.there s l = true := by rw [HI.out, show i0 + m0 - k = 0 by omega]; rfl
        go_wp2
        go_ret
        exact ⟨ret_bool hx.symm, hbw _⟩
end Go.Proofs.YtmlgajhhnojdjaaGreatDoor.RefQ
/- Plain definitions: a place is in one way. -/
namespace Go.Proofs.YtmlgajhhnojdjaaGreatDoor.Spec
open Go Go.Proofs.YtmlgajhhnojdjaaGreatDoor.Aux
def nowGo (c : B) : Nat → Nat → WS → WS
  | 0, _, s => s
  | m + 1, k, s => nowGo c m (k + 1) (WS.set s k c)
def RP.now (p : RP) (s : WS) (l c : B) : WS := nowGo c (p.spots l).2 (p.spots l).1 s
def zeroWS : WS := ⟨false, List.replicate 24 []⟩
theorem zeroWS_ok : zeroWS.Ok := ⟨rfl, fun k => by
  unfold WS.at zeroWS
  simp only [List.getD_eq_getElem?_getD, List.getElem?_replicate]
  split <;> simp⟩
theorem nowGo_step (c : B) (i n k : Nat) (s : WS) (hk : k < i + n) : nowGo c (i + n - k) k s = nowGo c (i + n - (k + 1)) (k + 1) (WS.set s k c) := by
  rw [show i + n - k = (i + n - (k + 1)) + 1 by omega, nowGo]
theorem nowGo_ok (c : B) (hc : c.length ≤ 1000) : ∀ (m k : Nat) (s : WS), s.Ok → (nowGo c m k s).Ok
  | 0, _, _, h => h
  | m + 1, k, _, h => nowGo_ok c hc m (k + 1) _ (WS.set_ok h k hc)
theorem RP.now_ok (p : RP) {s : WS} (hs : s.Ok) (l : B) {c : B} (hc : c.length ≤ 1000) : (p.now s l c).Ok := nowGo_ok c hc _ _ _ hs
end Go.Proofs.YtmlgajhhnojdjaaGreatDoor.Spec
/- What the document's own ways make of a place that is in one way. Conditions: the program lies in memory as it is kept; the place's local is one of twelve. -/
namespace Go.Proofs.YtmlgajhhnojdjaaGreatDoor.RefR
open Go.RowKit Go.Proofs.YtmlgajhhnojdjaaGreatDoor.Spec Go.Proofs.YtmlgajhhnojdjaaGreatDoor.RefA Go.Proofs.YtmlgajhhnojdjaaGreatDoor.RefC Go.Proofs.YtmlgajhhnojdjaaGreatDoor.RefG Go.Proofs.YtmlgajhhnojdjaaGreatDoor.RefH Go.Proofs.YtmlgajhhnojdjaaGreatDoor.RefO Go.Proofs.YtmlgajhhnojdjaaGreatDoor.RefP Go.Proofs.YtmlgajhhnojdjaaGreatDoor.Aux

theorem info_ways : (Tryz.prog.info? 155).map (·.size) = some 25 := by kernel_rfl
theorem info_ways_of {s : WS} (h : s.Ok) : (Tryz.prog.info? 155).map (·.size) = some s.cells.length := by rw [WS.cells_length h]; exact info_ways
theorem info_ways_arr {s : WS} (h : s.Ok) : (Tryz.prog.info? 155).map (·.size) = some s.cells.toArray.size := by simpa using info_ways_of h

set_option maxRecDepth 20000 in
set_option maxHeartbeats 1000000 in
theorem now_any (p : RP) (a : Nat) (s : WS) (l c : B) (w : World) (hp : ProgAt w a p) (hok : p.Ok) (hs : s.Ok) (hl : l.length ≤ maxLen) (hc : c.length ≤ 1000) (hf : 0 ≤ p.find (localOf l)) (h12 : p.lets.length ≤ 12) :
    Calls Tryz.prog 88 #[.pointer (some ⟨a, 0, none⟩), s.val, .string (bs l), .string (bs c)] w fun e w' => e = .returned (p.now s l c).val ∧ Below w.heap.size w w' := by
  obtain ⟨j, hj, hjl, _⟩ := RP.find_lt hf
  obtain ⟨hb1, hb2⟩ := RP.spots_bound hj
  have h24 : (p.spots l).1 + (p.spots l).2 ≤ 24 := by omega
  have hW0 : Below w.heap.size w ((w.alloc (.cells s.cells.toArray 155)).alloc (.cells zeroWS.cells.toArray 155)) := ((Below.refl _ _).alloc (Nat.le_refl _) _).alloc (by simp) _
  have hA : WayAt ((w.alloc (.cells s.cells.toArray 155)).alloc (.cells zeroWS.cells.toArray 155)) w.heap.size s := (WayAt.new w s).below (below_alloc _ _)
  have hZ : WayAt ((w.alloc (.cells s.cells.toArray 155)).alloc (.cells zeroWS.cells.toArray 155)) (w.heap.size + 1) zeroWS := by
    have := WayAt.new (w.alloc (.cells s.cells.toArray 155)) zeroWS
    simpa using this
  have HSP := spots_any p a l _ (hp.below hW0) hok hl hf
  have HNW : Hid (p.now s l c = nowGo c ((p.spots l).1 + (p.spots l).2 - (p.spots l).1) (p.spots l).1 s) := by unfold Hid RP.now; rw [Nat.add_sub_cancel_left]
  have HOK : Hid ((p.now s l c).Ok) := p.now_ok hs l hc
  unfold WS.val
  clear hf hj hb1 hjl hp
  go_enter Tryz.func88, Tryz.ntmps88
  go_wp2_with fail
  refine HSP.mono ?_
  rintro e w' ⟨rfl, n1, rfl⟩
  replace hW0 := below_drewN hW0 n1
  replace hA := hA.drewN n1
  replace hZ := hZ.drewN n1
  clear HSP
  generalize World.drewN _ n1 = W at *
  go_wp2
  generalize (p.spots l).1 = i0 at *
  generalize (p.spots l).2 = m0 at *
  go_loopg [11] (m0) (fun gk i wr => ∃ (k : Nat) (sk : WS), k ≤ i0 + m0 ∧ gk + k = i0 + m0 ∧ i = .int .i64 k ∧ WayAt wr w.heap.size sk ∧ WayAt wr (w.heap.size + 1) zeroWS ∧ Below w.heap.size w wr ∧ Hid (sk.Ok) ∧ Hid (p.now s l c = nowGo c (i0 + m0 - k) k sk))
  case atStart => exact ⟨i0, s, by omega, by omega, rfl, hA, hZ, hW0, hs, HNW⟩
  case round =>
    clear hA hZ hW0 HNW
    obtain ⟨k, sk, hk, hgk, rfl, hA, hZ, hB, HKO, HI⟩ := hrel
    by_cases hlt : k < i0 + m0
    · have HS : Hid (_ = _) := nowGo_step c i0 m0 k sk hlt
      have hck := hA.cell HKO.out k (by omega)
      have hfk := hA.frozen (1 + k)
      have hk24 : (k : Int) < 24 := by omega
      go_wp2
      go_roundg (i0 + m0 - (k + 1))
      case rel =>
        exact ⟨k + 1, WS.set sk k c, by omega, by omega, by go_num, hA.set k c, hZ.setOther (by simp) _, hB.setCell (Nat.le_refl _) _, WS.set_ok HKO.out k hc, by rw [HI.out, HS.out]; rfl⟩
      case measure => omega
    · have HX : Hid (p.now s l c = sk) := by unfold Hid; rw [HI.out, show i0 + m0 - k = 0 by omega]; rfl
      have hr := hA.range
      have ht : wr.there (w.heap.size + 1) 0 sk.cells.toArray.size := by
        have := hZ.there zeroWS_ok
        have hlen := WS.cells_length HKO.out
        rwa [← hlen, ← List.size_toArray] at this
      go_wp2_with (first
        | (refine wpList_load_mid rfl 155 _ rfl w.heap.size 0 rfl sk.cells _ hr Tryz.underlying155 rfl (info_ways_of HKO.out) ?_)
        | (refine wpList_store_mid rfl 155 _ _ rfl (w.heap.size + 1) 0 sk.cells.toArray rfl rfl ht (info_ways_arr HKO.out) (all_oneCell_toArray (WS.cells_one sk)) ?_))
      refine bodyPost_ret (results_cell Tryz.results88 _ _ _ (w.heap.size + 1) sk.cells _ rfl (hZ.store zeroWS_ok HKO.out).range Tryz.underlying155 rfl (info_ways_of HKO.out)) rfl ⟨?_, below_setCells hB (by omega) _ _⟩
      rw [HX.out]
end Go.Proofs.YtmlgajhhnojdjaaGreatDoor.RefR
/- What the document's own ways answer on whether a place may be written. Conditions: the program lies in memory as it is kept; the place's local is one of twelve. -/
namespace Go.Proofs.YtmlgajhhnojdjaaGreatDoor.RefS
open Go.RowKit Go.Proofs.YtmlgajhhnojdjaaGreatDoor.Spec Go.Proofs.YtmlgajhhnojdjaaGreatDoor.RefA Go.Proofs.YtmlgajhhnojdjaaGreatDoor.RefC Go.Proofs.YtmlgajhhnojdjaaGreatDoor.RefG Go.Proofs.YtmlgajhhnojdjaaGreatDoor.RefH Go.Proofs.YtmlgajhhnojdjaaGreatDoor.RefO Go.Proofs.YtmlgajhhnojdjaaGreatDoor.RefP Go.Proofs.YtmlgajhhnojdjaaGreatDoor.RefR Go.Proofs.YtmlgajhhnojdjaaGreatDoor.Aux

def writable (p : RP) (s : WS) (l : B) : Bool := !(partOf l == 115) || only (s.at (p.spots l).1) [119, 104]
theorem writable_nat (p : RP) (s : WS) (l : B) : writable p s l = ((!(((partOf l).toNat : Int) == 115)) || only (s.at (p.spots l).1) [119, 104]) := by
  have e3 := u8_beq (partOf l) 115 (by omega)
  simp only [Int.cast_ofNat_Int] at e3
  rw [writable, e3]
  rfl
set_option maxRecDepth 20000 in
set_option maxHeartbeats 1000000 in
theorem writable_any (p : RP) (a : Nat) (s : WS) (l : B) (w : World) (hp : ProgAt w a p) (hok : p.Ok) (hs : s.Ok) (hl : l.length ≤ maxLen) (hf : 0 ≤ p.find (localOf l)) (h12 : p.lets.length ≤ 12) :
    Calls Tryz.prog 139 #[.pointer (some ⟨a, 0, none⟩), s.val, .string (bs l)] w fun e w' => e = .returned (.bool (writable p s l)) ∧ Below w.heap.size w w' := by
  obtain ⟨j, hj, hjl, _⟩ := RP.find_lt hf
  obtain ⟨hb1, hb2⟩ := RP.spots_bound hj
  have h24 : (p.spots l).1 < 24 := by omega
  have hW0 : Below w.heap.size w (w.alloc (.cells s.cells.toArray 155)) := below_alloc _ _
  have hA := WayAt.new w s
  have HSP := spots_any p a l _ (hp.below hW0) hok hl hf
  have HWR : Hid (_ = _) := writable_nat p s l
  have hfew := hs.few
  unfold WS.val
  clear hf hj hb1 hjl hp
  go_enter Tryz.func139, Tryz.ntmps139
  go_wp2_with fail
  refine HSP.mono ?_
  rintro e w' ⟨rfl, n1, rfl⟩
  replace hW0 := below_drewN hW0 n1
  replace hA := hA.drewN n1
  clear HSP
  generalize World.drewN _ n1 = W at *
  generalize (p.spots l).1 = i0 at *
  have hck := hA.cell hs i0 h24
  have hk24 : (i0 : Int) < 24 := by omega
  have HO := only_any (bs (s.at i0)) (bs [119, 104]) W (by rw [size_bs]; exact hfew i0) (by simp)
  rw [toList_bs, toList_bs] at HO
  go_wp2_with (first
    | (go_at_call 186; refine HO.mono ?_; rintro e w' ⟨rfl, n2, rfl⟩)
    | (go_at_call 159; refine (part_bs l _ hl).mono ?_; rintro e w' ⟨rfl, rfl⟩))
  all_goals
    go_ret
    refine ⟨ret_bool ?_, below_drewN hW0 _⟩
    rw [HWR.out]
    simp [*]
end Go.Proofs.YtmlgajhhnojdjaaGreatDoor.RefS
/- Ways read and written whole, as rules for a walk: what is asked of the world stands behind a name. -/
namespace Go.Proofs.YtmlgajhhnojdjaaGreatDoor.Aux
open Go Go.RowKit Go.Proofs.YtmlgajhhnojdjaaGreatDoor.Spec Go.Proofs.YtmlgajhhnojdjaaGreatDoor.RefR
def HasWays (w : World) (b : Nat) : Prop := ∃ s : WS, s.Ok ∧ WayAt w b s
def waysOf (w : World) (b : Nat) : Array Value := match w.heap[b]? with | some (.cells cs _ _) => cs | _ => #[]
def IsWays (xs : Array Value) : Prop := ∃ s : WS, s.Ok ∧ xs = s.cells.toArray
theorem waysOf_eq {w : World} {b : Nat} {s : WS} (h : WayAt w b s) : waysOf w b = s.cells.toArray := by
  unfold WayAt at h; simp [waysOf, h]
theorem loadAt_ways (w : World) (b : Nat) (h : HasWays w b) : (Instr.loadAt 155 (.pointer (some ⟨b, 0, none⟩))).run Tryz.prog w = .ok (.agg (waysOf w b)) w := by
  obtain ⟨s, hs, hw⟩ := h
  rw [waysOf_eq hw]
  exact run_loadAt_mid w b 0 155 s.cells _ hw.range Tryz.underlying155 rfl (info_ways_of hs)
theorem loadVar_ways (w : World) (b : Nat) (h : HasWays w b) : (loadVar 155 ⟨b, 0, none⟩).run Tryz.prog w = .ok (.agg (waysOf w b)) w := by
  obtain ⟨s, hs, hw⟩ := h
  rw [waysOf_eq hw]
  exact run_loadVar_mid w b 0 155 s.cells _ hw.range Tryz.underlying155 rfl (info_ways_of hs)
theorem loadCells_ways (w : World) (b : Nat) (h : HasWays w b) : (loadCells ⟨b, 0, none⟩ 25).run Tryz.prog w = .ok (waysOf w b) w := by
  obtain ⟨s, hs, hw⟩ := h
  rw [waysOf_eq hw, ← WS.cells_length hs]
  exact run_loadCells_list (P := Tryz.prog) w ⟨b, 0, none⟩ s.cells (fun j v hv => by rw [Addr.add_mid]; exact hw.range j v hv)
theorem storeVar_ways (w : World) (b : Nat) (xs : Array Value) (h : HasWays w b) (hx : IsWays xs) : (storeVar 155 ⟨b, 0, none⟩ (.agg xs)).run Tryz.prog w = .ok () (w.setCells b 0 xs.toList) := by
  obtain ⟨s, hs, hw⟩ := h
  obtain ⟨t, ht, rfl⟩ := hx
  refine run_storeVar_mid w b 0 155 t.cells.toArray ?_ (info_ways_arr ht) (all_oneCell_toArray (WS.cells_one t))
  have := hw.there hs
  rwa [← WS.cells_length ht, ← List.size_toArray] at this
theorem storeAt_ways (w : World) (b : Nat) (xs : Array Value) (h : HasWays w b) (hx : IsWays xs) : (Instr.storeAt 155 (.pointer (some ⟨b, 0, none⟩)) (.agg xs)).run Tryz.prog w = .ok () (w.setCells b 0 xs.toList) := by
  obtain ⟨s, hs, hw⟩ := h
  obtain ⟨t, ht, rfl⟩ := hx
  refine run_storeAt_mid w b 0 155 t.cells.toArray ?_ (info_ways_arr ht) (all_oneCell_toArray (WS.cells_one t))
  have := hw.there hs
  rwa [← WS.cells_length ht, ← List.size_toArray] at this
/-- the block that a pointer names; does it name ways? the cells of a struct -/
def ptrBlock : Value → Nat
  | .pointer (some ad) => ad.block
  | _ => 0
def PtrWays (w : World) (v : Value) : Prop := ∃ b, v = .pointer (some ⟨b, 0, none⟩) ∧ HasWays w b
def aggCells : Value → Array Value
  | .agg xs => xs
  | _ => #[]
def AggWays (v : Value) : Prop := ∃ xs, v = .agg xs ∧ IsWays xs
@[simp] theorem ptrBlock_ptr (ad : Addr) : ptrBlock (.pointer (some ad)) = ad.block := rfl
@[simp] theorem ptrWays_ptr (w : World) (b : Nat) : PtrWays w (.pointer (some ⟨b, 0, none⟩)) = HasWays w b := by
  simp [PtrWays]
@[simp] theorem aggCells_agg (xs : Array Value) : aggCells (.agg xs) = xs := rfl
@[simp] theorem aggWays_agg (xs : Array Value) : AggWays (.agg xs) = IsWays xs := by
  simp [AggWays]
section
variable (d : Option Tmp) (x y : Operand) (t : TypeId) (ps : String) (af : Array Edge) (g : Option (Nat × Bool)) (a : Act) (w : World) (K : Act → World → Prop) (Q : Exit → Act → World → Prop)
theorem wp_load_ways (h : PtrWays w (a.eval x)) : Oper.wp Tryz.prog { dst := d, op := Op.load 155 x, type := t, pos := ps, after := af, guard := g } a w K Q = K (a.put d (.agg (waysOf w (ptrBlock (a.eval x))))) w := by
  obtain ⟨b, hb, hh⟩ := h
  have := loadVar_ways w b hh
  unfold Oper.wp execOp
  simp only [hb, Instr.loadAt, Instr.sureAddr, Sem.run_bind, Sem.run_pure, Result.andThen_ok, this, ptrBlock_ptr]
  rfl
theorem wp_store_ways (h : PtrWays w (a.eval x)) (h' : AggWays (a.eval y)) : Oper.wp Tryz.prog { dst := d, op := Op.store 155 x y, type := t, pos := ps, after := af, guard := g } a w K Q = K (a.put d undef) (w.setCells (ptrBlock (a.eval x)) 0 (aggCells (a.eval y)).toList) := by
  obtain ⟨b, hb, hh⟩ := h
  obtain ⟨xs, hy, hx⟩ := h'
  have := storeVar_ways w b xs hh hx
  unfold Oper.wp execOp
  simp only [hb, hy, Instr.storeAt, Instr.sureAddr, Sem.run_bind, Sem.run_pure, Result.andThen_ok, this, ptrBlock_ptr, aggCells_agg]
  rfl
end
end Go.Proofs.YtmlgajhhnojdjaaGreatDoor.Aux
/- What the document's own ways make of a move or a some. Conditions: the program lies in memory as it is kept; the locals are twelve at most; both places' locals are there. -/
namespace Go.Proofs.YtmlgajhhnojdjaaGreatDoor.RefT
open Go.RowKit Go.Proofs.YtmlgajhhnojdjaaGreatDoor.Spec Go.Proofs.YtmlgajhhnojdjaaGreatDoor.RefA Go.Proofs.YtmlgajhhnojdjaaGreatDoor.RefC Go.Proofs.YtmlgajhhnojdjaaGreatDoor.RefG Go.Proofs.YtmlgajhhnojdjaaGreatDoor.RefH Go.Proofs.YtmlgajhhnojdjaaGreatDoor.RefO Go.Proofs.YtmlgajhhnojdjaaGreatDoor.RefP Go.Proofs.YtmlgajhhnojdjaaGreatDoor.RefQ Go.Proofs.YtmlgajhhnojdjaaGreatDoor.RefR Go.Proofs.YtmlgajhhnojdjaaGreatDoor.RefS Go.Proofs.YtmlgajhhnojdjaaGreatDoor.Aux

attribute [local go_sem ↓] wp_load_ways wp_store_ways

/-- memory inside a function that keeps ways in block b and its result in block b + 1 -/
structure Kept (w : World) (wr : World) (s : WS) : Prop where
  here : WayAt wr w.heap.size s
  zero : WayAt wr (w.heap.size + 1) zeroWS
  old : Below w.heap.size w wr
theorem Kept.below {w wr w' : World} {s : WS} (h : Kept w wr s) (hb : Below wr.heap.size wr w') : Kept w w' s := ⟨h.here.below hb, h.zero.below hb, h.old.trans (hb.mono h.old.size)⟩
theorem Kept.drewN {w wr : World} {s : WS} (h : Kept w wr s) (n : Nat) : Kept w (wr.drewN n) s := h.below (below_drewN (Below.refl _ _) n)
theorem Kept.store {w wr : World} {s t : WS} (h : Kept w wr s) (hs : s.Ok) (ht : t.Ok) : Kept w (wr.setCells w.heap.size 0 t.cells) t :=
  ⟨h.here.store hs ht, h.zero.other (by omega) _ _, below_setCells h.old (Nat.le_refl _) _ _⟩
theorem kept_start (w : World) (s : WS) : Kept w ((w.alloc (.cells s.cells.toArray 155)).alloc (.cells zeroWS.cells.toArray 155)) s :=
  ⟨(WayAt.new w s).below (below_alloc _ _), by simpa using WayAt.new (w.alloc (.cells s.cells.toArray 155)) zeroWS, ((Below.refl _ _).alloc (Nat.le_refl _) _).alloc (by simp) _⟩
theorem Kept.load {w wr : World} {s : WS} (h : Kept w wr s) (hs : s.Ok) : (Instr.loadAt 155 (.pointer (some ⟨w.heap.size, 0, none⟩))).run Tryz.prog wr = .ok (.agg s.cells.toArray) wr :=
  run_loadAt_mid wr w.heap.size 0 155 s.cells _ h.here.range Tryz.underlying155 rfl (info_ways_of hs)

/-- move and some -/
def RP.taken (p : RP) (s : WS) (ws : List B) : WS := p.now (p.now s (word ws 2) (left (word ws 2))) (word ws 1) [119]
def RP.takes (p : RP) (ws : List B) (s : WS) : WS × Bool :=
  (if word ws 0 = [109, 111, 118, 101] ∧ p.typeOf (word ws 1) = [111, 112, 116] then p.now (RP.taken p s ws) (word ws 1) (s.at (p.spots (word ws 2)).1) else RP.taken p s ws,
   p.there s (word ws 2) && (writable p (p.now s (word ws 2) (left (word ws 2))) (word ws 1) || (word ws 0 == [115, 111, 109, 101])))

set_option maxRecDepth 20000 in
set_option maxHeartbeats 4000000 in
theorem takes_any (p : RP) (a : Nat) (s : WS) (ws : List B) (gw cw : Nat) (w : World) (hp : ProgAt w a p) (hok : p.Ok) (hs : s.Ok) (h12 : p.lets.length ≤ 12)
    (hgw : gw < w.heap.size) (hws : ∀ j, j < 3 → w.cell? ⟨gw, j, none⟩ = some (.string (bs (word ws j)))) (hl : ∀ j, (word ws j).length ≤ maxLen)
    (hf1 : 0 ≤ p.find (localOf (word ws 1))) (hf2 : 0 ≤ p.find (localOf (word ws 2))) :
    Calls Tryz.prog 141 #[.pointer (some ⟨a, 0, none⟩), .slice (some ⟨gw, 0, none⟩) 3 cw, s.val] w fun e w' => e = .returned (.tuple #[(RP.takes p ws s).1.val, .bool (RP.takes p ws s).2]) ∧ Below w.heap.size w w' := by
  have HC : Hid (∀ j wr, j < 3 → Below w.heap.size w wr → wr.cell? ⟨gw, j, none⟩ = some (.string (bs (word ws j)))) := fun j wr hj hb => (hb.cell (p := ⟨gw, j, none⟩) hgw).trans (hws j hj)
  obtain ⟨j2, hj2, hjl2, _⟩ := RP.find_lt hf2
  obtain ⟨hb21, hb22⟩ := RP.spots_bound hj2
  have h24 : (p.spots (word ws 2)).1 < 24 := by omega
  have HRES : Hid (RP.takes p ws s = _) := rfl
  have hleft : (left (word ws 2)).length ≤ 1000 := by unfold left; split <;> simp
  have hs1 := p.now_ok hs (word ws 2) hleft
  have hs2 := p.now_ok hs1 (word ws 1) (c := [119]) (by simp)
  have hwas := hs.few (p.spots (word ws 2)).1
  have hs3 := p.now_ok hs2 (word ws 1) hwas
  clear hws hj2 hb21 hb22 hjl2
  unfold WS.val
  go_enter Tryz.func141, Tryz.ntmps141
  go_upto_region 0 with fail
  go_cut [5, 6, 7] (fun v5 v6 v7 wc => Kept w wc s ∧ v5 = .pointer (some ⟨w.heap.size, 0, none⟩) ∧ v6 = .pointer (some ⟨w.heap.size + 1, 0, none⟩) ∧ v7 = .bool false)
  case first =>
    go_wp2
    go_meet
    case rel => exact ⟨kept_start w s, rfl, rfl, rfl⟩
  case rest =>
    obtain ⟨hK, rfl, rfl, rfl⟩ := hcut
    go_upto_region 1 with fail
    go_cut [8] (fun v wc => Kept w wc s ∧ v = .bool (p.there s (word ws 2)))
    case first =>
      have hc2 := HC.out 2 _ (by omega) hK.old
      have hKd : Kept w wc.drew s := hK.below ((Below.refl _ _).drew)
      have hh : HasWays wc.drew w.heap.size := ⟨s, hs, hKd.here⟩
      have hv := waysOf_eq hKd.here
      have HTh := there_any p a s (word ws 2) wc.drew (hp.below hKd.old) hok hs (hl 2) hf2 h12
      unfold WS.val at HTh
      go_region_law (go_simp; go_at_call 138; refine HTh.mono ?_; rintro e w1 ⟨rfl, hb1⟩)
      all_goals go_wp2_with fail
      all_goals
        go_meet
        case rel => exact ⟨hKd.below hb1, rfl⟩
    case rest =>
      obtain ⟨hK1, rfl⟩ := hcut
      clear hK
      have hc2 := HC.out 2 _ (by omega) hK1.old
      have HSP := spots_any p a (word ws 2) _ (hp.below hK1.old) hok (hl 2) hf2
      have hck := hK1.here.cell hs _ h24
      have hk24 : ((p.spots (word ws 2)).1 : Int) < 24 := by omega
      go_upto_region 4 with (go_at_call 143; refine HSP.mono ?_; rintro e w' ⟨rfl, n2, rfl⟩)
      have hK2 := hK1.drewN n2
      clear hck hc2 HSP hK1
      generalize hW : World.drewN _ n2 = W at *
      clear hW
      generalize hs1' : p.now s (word ws 2) (left (word ws 2)) = s1 at *
      have HS1 : Hid (_ = _) := hs1'
      go_cut [] (fun wc' => Kept w wc' s1)
      case first =>
        have hKd : Kept w W.drew s := hK2.below ((Below.refl _ _).drew)
        have hc2 := HC.out 2 _ (by omega) hK2.old
        have hh : HasWays W.drew w.heap.size := ⟨s, hs, hKd.here⟩
        have hv := waysOf_eq hKd.here
        have HNw := now_any p a s (word ws 2) (left (word ws 2)) W.drew (hp.below hKd.old) hok hs (hl 2) hleft hf2 h12
        rw [hs1'] at HNw
        unfold WS.val at HNw
        clear hs1'
        go_region_law (first
          | (go_simp; go_at_call 140; refine (left_bs _ _ (hl 2)).mono ?_; rintro e w' ⟨rfl, rfl⟩)
          | (go_simp; go_at_call 88; refine HNw.mono ?_; rintro e w1 ⟨rfl, hb1⟩; have hh1 : HasWays w1 w.heap.size := ⟨s, hs, (hKd.below hb1).here⟩; have hi1 : IsWays s1.cells.toArray := ⟨s1, hs1, rfl⟩))
        all_goals go_wp2_with fail
        all_goals
          go_meet
          case rel => exact (hKd.below hb1).store hs hs1
      case rest =>
        rename_i hcutOld
        have hK3 := hcut
        clear hcut hK2
        go_upto_region 5 with fail
        go_cut [12] (fun v wc => Kept w wc s1 ∧ v = .bool (writable p s1 (word ws 1)))
        case first =>
          have hc1 := HC.out 1 _ (by omega) hK3.old
          have hKd := hK3.below ((Below.refl _ _).drew)
          have hh : HasWays wc.drew w.heap.size := ⟨s1, hs1, hKd.here⟩
          have hv := waysOf_eq hKd.here
          have HWr := writable_any p a s1 (word ws 1) wc.drew (hp.below hKd.old) hok hs1 (hl 1) hf1 h12
          unfold WS.val at HWr
          go_region_law (go_simp; go_at_call 139; refine HWr.mono ?_; rintro e w1 ⟨rfl, hb1⟩)
          all_goals go_wp2_with fail
          all_goals
            go_meet
            case rel => exact ⟨hKd.below hb1, rfl⟩
        case rest =>
          obtain ⟨hK4, rfl⟩ := hcut
          clear hK3
          have hc1 := HC.out 1 _ (by omega) hK4.old
          have HT := typeOf_any p a (word ws 1) _ (hp.below hK4.old) hok (hl 1) hf1
          go_upto_region 7 with (go_at_call 113; refine HT.mono ?_; rintro e w' ⟨rfl, n3, rfl⟩)
          have hK5 := hK4.drewN n3
          clear hc1 HT hK4
          generalize hW2 : World.drewN _ n3 = W2 at *
          clear hW2
          generalize hs2' : p.now s1 (word ws 1) [119] = s2 at *
          have HS2 : Hid (_ = _) := hs2'
          go_cut [] (fun wc' => Kept w wc' s2)
          case first =>
            have hKd := hK5.below ((Below.refl _ _).drew)
            have hc1 := HC.out 1 _ (by omega) hK5.old
            have hh : HasWays W2.drew w.heap.size := ⟨s1, hs1, hKd.here⟩
            have hv := waysOf_eq hKd.here
            have HNw := now_any p a s1 (word ws 1) [119] W2.drew (hp.below hKd.old) hok hs1 (hl 1) (by simp) hf1 h12
            rw [hs2'] at HNw
            unfold WS.val at HNw
            clear hs2'
            go_region_law (go_simp; go_at_call 88; refine HNw.mono ?_; rintro e w1 ⟨rfl, hb1⟩; have hh1 : HasWays w1 w.heap.size := ⟨s1, hs1, (hKd.below hb1).here⟩; have hi1 : IsWays s2.cells.toArray := ⟨s2, hs2, rfl⟩)
            all_goals go_wp2_with fail
            all_goals
              go_meet
              case rel => exact (hKd.below hb1).store hs1 hs2
          case rest =>
            have hK6 := hcut
            clear hcut hK5
            have hc0 := HC.out 0 _ (by omega) hK6.old
            go_upto_region 8 with fail
            go_cut [66] (fun v wc' => Kept w wc' s2 ∧ v = .bool ((word ws 0 == [109, 111, 118, 101]) && (p.typeOf (word ws 1) == [111, 112, 116])))
            case first =>
              go_wp2
              all_goals
                go_meet
                case rel => exact ⟨hK6, by simp [*]⟩
            case rest =>
              obtain ⟨hK7, rfl⟩ := hcut
              clear hK6 hc0
              have HX1 : Hid ((RP.takes p ws s).1 = if ((word ws 0 == [109, 111, 118, 101]) && (p.typeOf (word ws 1) == [111, 112, 116])) = true then p.now s2 (word ws 1) (s.at (p.spots (word ws 2)).1) else s2) := by
                unfold Hid RP.takes RP.taken
                rw [HS1.out, HS2.out]
                simp only [Bool.and_eq_true, beq_iff_eq]
              have HX2 : Hid ((RP.takes p ws s).2 = (p.there s (word ws 2) && (writable p s1 (word ws 1) || (word ws 0 == [115, 111, 109, 101])))) := by
                unfold Hid RP.takes
                rw [HS1.out]
              generalize ((word ws 0 == [109, 111, 118, 101]) && (p.typeOf (word ws 1) == [111, 112, 116])) = bb at *
              have HOK3 : Hid ((RP.takes p ws s).1.Ok) := by unfold Hid; rw [HX1.out]; split; exact hs3; exact hs2
              clear HRES HS1 HS2 hs1' hs2'
              go_upto_if 66 with fail
              go_cut [] (fun wc' => Kept w wc' (RP.takes p ws s).1)
              case first =>
                cases bb
                · have HX3 : Hid ((RP.takes p ws s).1 = s2) := by unfold Hid; rw [HX1.out, if_neg (by decide)]
                  go_wp2
                  go_meet
                  case rel => rw [HX3.out]; exact hK7
                · have HX3 : Hid ((RP.takes p ws s).1 = p.now s2 (word ws 1) (s.at (p.spots (word ws 2)).1)) := by unfold Hid; rw [HX1.out, if_pos rfl]
                  generalize hs3' : p.now s2 (word ws 1) (s.at (p.spots (word ws 2)).1) = s3 at *
                  have hc1 := HC.out 1 _ (by omega) hK7.old
                  have hKd := hK7.below ((Below.refl _ _).drew)
                  have hh : HasWays wc.drew w.heap.size := ⟨s2, hs2, hKd.here⟩
                  have hv := waysOf_eq hKd.here
                  have HNw := now_any p a s2 (word ws 1) (s.at (p.spots (word ws 2)).1) wc.drew (hp.below hKd.old) hok hs2 (hl 1) hwas hf1 h12
                  rw [hs3'] at HNw
                  unfold WS.val at HNw
                  clear hs3' HX1
                  go_wp2_with fail
                  go_region_law (go_simp; go_at_call 88; refine HNw.mono ?_; rintro e w1 ⟨rfl, hb1⟩; have hh1 : HasWays w1 w.heap.size := ⟨s2, hs2, (hKd.below hb1).here⟩; have hi1 : IsWays s3.cells.toArray := ⟨s3, hs3, rfl⟩)
                  all_goals go_wp2_with fail
                  all_goals
                    go_meet
                    case rel => rw [HX3.out]; exact (hKd.below hb1).store hs2 hs3
              case rest =>
                have hK8 := hcut
                clear hcut hK7 HX1
                have hOK3 := HOK3.out
                have hc0 := HC.out 0 _ (by omega) hK8.old
                have hKd := hK8.below ((Below.refl _ _).drew)
                have hh : HasWays wc.drew w.heap.size := ⟨(RP.takes p ws s).1, hOK3, hKd.here⟩
                have hz : HasWays wc.drew (w.heap.size + 1) := ⟨zeroWS, zeroWS_ok, hKd.zero⟩
                have hv := waysOf_eq hKd.here
                have hi1 : IsWays (RP.takes p ws s).1.cells.toArray := ⟨(RP.takes p ws s).1, hOK3, rfl⟩
                have hc0' : (wc.drew.setCells (w.heap.size + 1) 0 (RP.takes p ws s).1.cells).cell? ⟨gw, 0, none⟩ = some (.string (bs (word ws 0))) := by
                  rw [World.cell?_setCells_out _ _ _ _ _ (fun e _ => by simp at e; omega)]; exact hc0
                cases hthere : p.there s (word ws 2) <;> cases hwr : writable p s1 (word ws 1)
                all_goals
                  rw [hthere, hwr] at HX2
                  clear hthere hwr
                  go_wp2_with fail
                  go_region
                  all_goals go_wp2_with fail
                  all_goals
                    refine bodyPost_ret (results_cell_bool Tryz.results141 _ _ _ (w.heap.size + 1) (RP.takes p ws s).1.cells _ rfl (hKd.zero.store zeroWS_ok hOK3).range Tryz.underlying155 rfl (info_ways_of hOK3)) rfl ⟨?_, below_setCells hKd.old (by omega) _ _⟩
                    rw [HX2.out]
                    rfl
end Go.Proofs.YtmlgajhhnojdjaaGreatDoor.RefT
/- Plain definitions: what is there behind a line, and whether it needs what may not be there. -/
namespace Go.Proofs.YtmlgajhhnojdjaaGreatDoor.Spec
open Go Go.Proofs.YtmlgajhhnojdjaaGreatDoor.RefS Go.Proofs.YtmlgajhhnojdjaaGreatDoor.RefT

def RP.step (p : RP) (ws : List B) (s : WS) : WS × Bool :=
  if word ws 0 = [115, 101, 116] ∨ word ws 0 = [105, 110] then (p.now s (word ws 1) [119], true)
  else if word ws 0 = [97, 100, 100] ∨ word ws 0 = [115, 117, 98] ∨ word ws 0 = [109, 117, 108] ∨ word ws 0 = [100, 105, 118] then (p.now s (word ws 1) [119], p.there s (word ws 2) && p.there s (word ws 3))
  else if word ws 0 = [111, 117, 116] ∨ word ws 0 = [105, 102] ∨ word ws 0 = [101, 110, 100] ∨ word ws 0 = [109, 97, 116, 99, 104] then (s, p.there s (word ws 1))
  else if word ws 0 = [110, 101, 119] then (p.now s (word ws 1) [119], p.there s (word ws 2) && writable p s (word ws 1))
  else if word ws 0 = [108, 111, 97, 100] then (p.now s (word ws 1) [119], p.there s (word ws 2))
  else if word ws 0 = [115, 116, 111, 114, 101] then (s, p.there s (word ws 1) && p.there s (word ws 2))
  else if word ws 0 = [110, 111, 110, 101] then (p.now s (word ws 1) [110], true)
  else if word ws 0 = [100, 114, 111, 112] then (p.now s (word ws 1) (left (word ws 1)), writable p s (word ws 1))
  else if word ws 0 = [109, 111, 118, 101] ∨ word ws 0 = [115, 111, 109, 101] then RP.takes p ws s
  else (s, true)
end Go.Proofs.YtmlgajhhnojdjaaGreatDoor.Spec
/- Plain definitions: ways, with others besides; letters that ways may have. -/
namespace Go.Proofs.YtmlgajhhnojdjaaGreatDoor.Spec
open Go Go.Proofs.YtmlgajhhnojdjaaGreatDoor.Aux Go.Proofs.YtmlgajhhnojdjaaGreatDoor.RefS Go.Proofs.YtmlgajhhnojdjaaGreatDoor.RefT

def addGo (s : B) (m : Bool) : B → B × Bool
  | [] => (s, m)
  | c :: r => addGo (withC s c) (m || !(withC s c == s)) r
def addAt (o : WS) (i : Nat) (s : WS) (m : Bool) : WS × Bool := (WS.set s i (addGo (s.at i) m (o.at i)).1, (addGo (s.at i) m (o.at i)).2)
def addsGo (o : WS) : Nat → Nat → WS → Bool → WS × Bool
  | 0, _, s, m => (s, m)
  | n + 1, i, s, m => addsGo o n (i + 1) (addAt o i s m).1 (addAt o i s m).2
def WS.add (s o : WS) : WS × Bool := if s.known then addsGo o 24 0 s false else ({ o with known := true }, true)
theorem addsGo_step (o : WS) (i : Nat) (s : WS) (m : Bool) (hi : i < 24) : addsGo o (24 - i) i s m = addsGo o (24 - (i + 1)) (i + 1) (addAt o i s m).1 (addAt o i s m).2 := by
  rw [show 24 - i = (24 - (i + 1)) + 1 by omega, addsGo]
theorem addGo_step (s : B) (m : Bool) (o : B) (k : Nat) (hk : k < o.length) : addGo s m (o.drop k) = addGo (withC s o[k]) (m || !(withC s o[k] == s)) (o.drop (k + 1)) := by
  rw [List.drop_eq_getElem_cons hk, addGo]
theorem withC_length (s : B) (c : UInt8) : (withC s c).length ≤ s.length + 1 := by
  unfold withC; split <;> simp
theorem addGo_length : ∀ (o s : B) (m : Bool), (addGo s m o).1.length ≤ s.length + o.length
  | [], s, m => by simp [addGo]
  | c :: r, s, m => by
    have h1 := addGo_length r (withC s c) (m || !(withC s c == s))
    have h2 := withC_length s c
    rw [addGo]; simp; omega
theorem WS.at_set (s : WS) (k j : Nat) (c : B) (hk : k < s.spots.length) : (WS.set s k c).at j = if j = k then c else s.at j := by
  unfold WS.at WS.set
  simp only [List.getD_eq_getElem?_getD, List.getElem?_set]
  by_cases h : k = j
  · subst h; simp [hk]
  · rw [if_neg h, if_neg (fun e => h e.symm)]
theorem WS.set_set (s : WS) (k : Nat) (a b : B) : WS.set (WS.set s k a) k b = WS.set s k b := by
  simp [WS.set]
theorem WS.set_self (s : WS) (k : Nat) (h : k < s.spots.length) : WS.set s k (s.at k) = s := by
  unfold WS.set WS.at
  cases s with
  | mk kn sp =>
    simp only [WS.mk.injEq, true_and] at h ⊢
    apply List.ext_getElem?
    intro j
    rw [List.getElem?_set]
    by_cases hj : k = j
    · subst hj; simp [h]
    · simp [hj]

/-- few letters in each spot, each once -/
def letters : B := [45, 110, 119, 104]
structure Few (s : B) : Prop where
  once : s.Nodup
  among : ∀ c ∈ s, c ∈ letters
theorem len_le : ∀ (l m : B), l.Nodup → (∀ x ∈ l, x ∈ m) → l.length ≤ m.length
  | [], m, _, _ => by simp
  | a :: l, m, hn, h => by
    obtain ⟨h1, h2⟩ := List.nodup_cons.mp hn
    have h3 := len_le l (m.erase a) h2 (fun x hx => (List.mem_erase_of_ne (by rintro rfl; exact h1 hx)).mpr (h x (by simp [hx])))
    have h4 := List.length_erase_of_mem (h a (by simp))
    have h5 := List.length_pos_of_mem (h a (by simp))
    simp; omega
theorem Few.length {s : B} (h : Few s) : s.length ≤ 4 := len_le s letters h.once h.among
structure WS.Few (s : WS) : Prop where
  len : s.spots.length = 24
  few : ∀ k, Spec.Few (s.at k)
theorem WS.Few.ok {s : WS} (h : s.Few) : s.Ok := ⟨h.len, fun k => by have := (h.few k).length; omega⟩
theorem few_nil : Few [] := ⟨List.nodup_nil, by simp⟩
theorem few_one (c : UInt8) (h : c ∈ letters) : Few [c] := ⟨by simp, by simpa using h⟩
theorem WS.Few.set {s : WS} (h : s.Few) (k : Nat) {c : B} (hc : Spec.Few c) : (WS.set s k c).Few := by
  refine ⟨by simp [WS.set, h.len], fun j => ?_⟩
  by_cases hk : k < s.spots.length
  · rw [WS.at_set s k j c hk]; split
    · exact hc
    · exact h.few j
  · have : WS.set s k c = s := by
      unfold WS.set; rw [List.set_eq_of_length_le (by omega)]
    rw [this]; exact h.few j
theorem zeroWS_few : zeroWS.Few := ⟨rfl, fun k => by
  have : zeroWS.at k = [] := by
    unfold WS.at zeroWS
    simp only [List.getD_eq_getElem?_getD, List.getElem?_replicate]
    split <;> simp
  rw [this]; exact few_nil⟩
theorem nowGo_few (c : B) (hc : Few c) : ∀ (m k : Nat) (s : WS), s.Few → (nowGo c m k s).Few
  | 0, _, _, h => h
  | m + 1, k, _, h => nowGo_few c hc m (k + 1) _ (h.set k hc)
theorem RP.now_few (p : RP) {s : WS} (hs : s.Few) (l : B) {c : B} (hc : Few c) : (p.now s l c).Few := nowGo_few c hc _ _ _ hs
theorem left_few (l : B) : Few (left l) := by
  unfold left; split
  · exact few_one _ (by simp [letters])
  · exact few_one _ (by simp [letters])
theorem few_w : Few [119] := few_one _ (by simp [letters])
theorem few_n : Few [110] := few_one _ (by simp [letters])
theorem RP.takes_few (p : RP) {s : WS} (hs : s.Few) (ws : List B) : (RP.takes p ws s).1.Few := by
  unfold RP.takes RP.taken
  have h1 := p.now_few (p.now_few hs (word ws 2) (left_few (word ws 2))) (word ws 1) few_w
  split
  · exact p.now_few h1 _ (hs.few _)
  · exact h1
theorem RP.step_few (p : RP) {s : WS} (hs : s.Few) (ws : List B) : (p.step ws s).1.Few := by
  unfold RP.step
  have hw := p.now_few hs (word ws 1) few_w
  have hn := p.now_few hs (word ws 1) few_n
  have hl := p.now_few hs (word ws 1) (left_few (word ws 1))
  have ht := p.takes_few hs ws
  repeat' split
  all_goals assumption
theorem withC_few {s : B} {c : UInt8} (hs : Few s) (hc : c ∈ letters) : Few (withC s c) := by
  unfold withC
  split
  · exact hs
  · rename_i hn
    refine ⟨List.nodup_append.mpr ⟨hs.once, by simp, fun a ha b hb => ?_⟩, fun x hx => ?_⟩
    · rw [List.mem_singleton] at hb; rintro rfl; exact hn (hb ▸ ha)
    · rcases List.mem_append.mp hx with hx | hx
      · exact hs.among x hx
      · rw [List.mem_singleton] at hx; rw [hx]; exact hc
theorem addGo_few : ∀ (o s : B) (m : Bool), Few s → (∀ c ∈ o, c ∈ letters) → Few (addGo s m o).1
  | [], s, m, h, _ => h
  | c :: r, s, m, h, ho => by
    rw [addGo]
    exact addGo_few r _ _ (withC_few h (ho c (by simp))) (fun x hx => ho x (by simp [hx]))
theorem addAt_few {s o : WS} (hs : s.Few) (ho : o.Few) (i : Nat) (m : Bool) : (addAt o i s m).1.Few := hs.set i (addGo_few _ _ _ (hs.few i) (ho.few i).among)
theorem addsGo_few {o : WS} (ho : o.Few) : ∀ (n i : Nat) (s : WS) (m : Bool), s.Few → (addsGo o n i s m).1.Few
  | 0, _, _, _, h => h
  | n + 1, i, _, m, h => addsGo_few ho n (i + 1) _ _ (addAt_few h ho i m)
theorem WS.add_few {s o : WS} (hs : s.Few) (ho : o.Few) : (s.add o).1.Few := by
  unfold WS.add
  split
  · exact addsGo_few ho _ _ _ _ hs
  · exact ⟨ho.len, ho.few⟩

/-- how many letters there are -/
def WS.count (s : WS) : Nat := (s.spots.map List.length).sum + if s.known then 1 else 0
theorem sum_set : ∀ (l : List B) (k : Nat) (c : B), k < l.length → ((l.set k c).map List.length).sum + (l.getD k []).length = (l.map List.length).sum + c.length
  | [], k, _, h => by simp at h
  | x :: l, 0, c, _ => by simp; omega
  | x :: l, k + 1, c, h => by
    have := sum_set l k c (by simpa using h)
    simp at this ⊢; omega
theorem addGo_count : ∀ (o s : B) (m : Bool), s.length ≤ (addGo s m o).1.length ∧ ((addGo s m o).2 = true → m = true ∨ s.length < (addGo s m o).1.length) ∧ (m = true → (addGo s m o).2 = true)
  | [], s, m => by simp [addGo]
  | c :: r, s, m => by
    rw [addGo]
    obtain ⟨h1, h2, h3⟩ := addGo_count r (withC s c) (m || !(withC s c == s))
    have hw : withC s c = s ∨ (withC s c).length = s.length + 1 := by unfold withC; split <;> simp
    refine ⟨?_, fun h => ?_, fun h => h3 (by simp [h])⟩
    · rcases hw with hw | hw
      · rw [hw] at h1 ⊢; exact h1
      · omega
    · rcases hw with hw | hw
      · rw [hw] at h2 h ⊢
        have := h2 h
        simpa using this
      · right; omega
theorem addAt_count {s : WS} (hs : s.spots.length = 24) (o : WS) (i : Nat) (hi : i < 24) (m : Bool) : s.count ≤ (addAt o i s m).1.count ∧ ((addAt o i s m).2 = true → m = true ∨ s.count < (addAt o i s m).1.count) := by
  obtain ⟨h1, h2, -⟩ := addGo_count (o.at i) (s.at i) m
  have hc := sum_set s.spots i (addGo (s.at i) m (o.at i)).1 (by omega)
  unfold WS.at at h1 h2 hc
  unfold WS.count addAt WS.set WS.at
  simp only
  refine ⟨by omega, fun h => ?_⟩
  rcases h2 h with h | h
  · exact .inl h
  · right; omega
theorem addsGo_count (o : WS) : ∀ (n i : Nat) (s : WS) (m : Bool), s.spots.length = 24 → i + n ≤ 24 → s.count ≤ (addsGo o n i s m).1.count ∧ ((addsGo o n i s m).2 = true → m = true ∨ s.count < (addsGo o n i s m).1.count)
  | 0, _, s, m, _, _ => ⟨Nat.le_refl _, fun h => .inl h⟩
  | n + 1, i, s, m, hs, hi => by
    obtain ⟨a1, a2⟩ := addAt_count hs o i (by omega) m
    obtain ⟨b1, b2⟩ := addsGo_count o n (i + 1) (addAt o i s m).1 (addAt o i s m).2 (by simp [addAt, WS.set, hs]) (by omega)
    rw [addsGo]
    refine ⟨by omega, fun h => ?_⟩
    rcases b2 h with h | h
    · rcases a2 h with h | h
      · exact .inl h
      · right; omega
    · right; omega
theorem WS.count_le {s : WS} (h : s.Few) : s.count ≤ 97 := by
  have : ∀ l : List B, (∀ x ∈ l, x.length ≤ 4) → (l.map List.length).sum ≤ 4 * l.length := by
    intro l
    induction l with
    | nil => simp
    | cons x l ih => intro hl; have h1 := ih (fun y hy => hl y (by simp [hy])); have h2 := hl x (by simp); simp; omega
  have h4 := this s.spots (fun x hx => by
    obtain ⟨k, hk, rfl⟩ := List.getElem_of_mem hx
    have := (h.few k).length
    simpa [WS.at, hk] using this)
  unfold WS.count
  rw [h.len] at h4
  split <;> omega
end Go.Proofs.YtmlgajhhnojdjaaGreatDoor.Spec
/- Plain definitions: all ways at every line, gone through until nothing is added. -/
namespace Go.Proofs.YtmlgajhhnojdjaaGreatDoor.Spec
open Go Go.Proofs.YtmlgajhhnojdjaaGreatDoor.Aux Go.Proofs.YtmlgajhhnojdjaaGreatDoor.RefS Go.Proofs.YtmlgajhhnojdjaaGreatDoor.RefT

def RP.blockOf (p : RP) (w : B) : Nat := p.blocks.getD ((number w).getD 0).toNat 0
def wMatch : B := [109, 97, 116, 99, 104]
/-- what a terminator's word k leads on with -/
def RP.outOf (p : RP) (ws : List B) (s : WS) (k : Nat) : WS :=
  if word ws 0 = wMatch ∧ k = 2 then p.now s (word ws 1) [119] else if word ws 0 = wMatch ∧ k = 1 then p.now s (word ws 1) [110] else s
def lw (L : List WS) (i : Nat) : WS := L.getD i zeroWS
def addTo (b : Nat) (o : WS) (x : List WS × Bool) : List WS × Bool := (x.1.set b ((lw x.1 b).add o).1, x.2 || ((lw x.1 b).add o).2)
/-- a terminator: the words from k on -/
def RP.leadGo (p : RP) (ws : List B) (s : WS) (f : B) : Nat → Nat → List WS × Bool → List WS × Bool
  | 0, _, x => x
  | m + 1, k, x => RP.leadGo p ws s f m (k + 1) (if f.getD k 0 = 78 then addTo (p.blockOf (word ws (k + 1))) (p.outOf ws s k) x else x)
def RP.lead (p : RP) (ws : List B) (s : WS) (x : List WS × Bool) : List WS × Bool := p.leadGo ws s (behind (word ws 0) p.raw).1 (behind (word ws 0) p.raw).1.length 0 x
/-- line i is gone through -/
def RP.through (p : RP) (i : Nat) (x : List WS × Bool) : List WS × Bool :=
  if (lw x.1 i).known then
    if ends (word (p.line i) 0) then p.lead (p.line i) (p.step (p.line i) (lw x.1 i)).1 x else addTo (i + 1) (p.step (p.line i) (lw x.1 i)).1 x
  else x
def RP.passGo (p : RP) : Nat → Nat → List WS × Bool → List WS × Bool
  | 0, _, x => x
  | m + 1, i, x => RP.passGo p m (i + 1) (p.through i x)
def RP.pass (p : RP) (L : List WS) : List WS × Bool := p.passGo p.lines.length 0 (L, false)
def startWS : WS := ⟨true, List.replicate 24 [45]⟩
def RP.start0 (p : RP) : List WS := (List.replicate p.lines.length zeroWS).set (p.blocks.getD 0 0) startWS
inductive RP.Reach (p : RP) : List WS → Prop
  | start : RP.Reach p p.start0
  | pass (L : List WS) : RP.Reach p L → (p.pass L).2 = true → RP.Reach p (p.pass L).1
def RP.Settled (p : RP) (L : List WS) : Prop := ∃ L0, p.Reach L0 ∧ p.pass L0 = (L, false)
/-- the first line that needs what may not be there; -1: there is none -/
def RP.faultGo (p : RP) (L : List WS) : Nat → Nat → Int
  | 0, _ => -1
  | m + 1, i => if ((lw L i).known && !(p.step (p.line i) (lw L i)).2) = true then i else RP.faultGo p L m (i + 1)
theorem RP.passGo_step (p : RP) (n i : Nat) (x : List WS × Bool) (hi : i < n) : p.passGo (n - i) i x = p.passGo (n - (i + 1)) (i + 1) (p.through i x) := by
  rw [show n - i = (n - (i + 1)) + 1 by omega, RP.passGo]
theorem RP.leadGo_step (p : RP) (ws : List B) (s : WS) (f : B) (n k : Nat) (x : List WS × Bool) (hk : k < n) : p.leadGo ws s f (n - k) k x = p.leadGo ws s f (n - (k + 1)) (k + 1) (if f.getD k 0 = 78 then addTo (p.blockOf (word ws (k + 1))) (p.outOf ws s k) x else x) := by
  rw [show n - k = (n - (k + 1)) + 1 by omega, RP.leadGo]
theorem RP.faultGo_step (p : RP) (L : List WS) (n i : Nat) (hi : i < n) : p.faultGo L (n - i) i = if ((lw L i).known && !(p.step (p.line i) (lw L i)).2) = true then (i : Int) else p.faultGo L (n - (i + 1)) (i + 1) := by
  rw [show n - i = (n - (i + 1)) + 1 by omega, RP.faultGo]
theorem RP.out_few (p : RP) {s : WS} (hs : s.Few) (ws : List B) (k : Nat) : (p.outOf ws s k).Few := by
  unfold RP.outOf
  split
  · exact p.now_few hs _ few_w
  · split
    · exact p.now_few hs _ few_n
    · exact hs

/-- rows of ways as they are kept -/
structure RowsOk (L : List WS) : Prop where
  few : ∀ i, (lw L i).Few
  zero : ∀ i, (lw L i).known = false → lw L i = zeroWS
def total (L : List WS) : Nat := (L.map WS.count).sum
theorem lw_set (L : List WS) (b : Nat) (t : WS) (hb : b < L.length) (i : Nat) : lw (L.set b t) i = if i = b then t else lw L i := by
  unfold lw
  simp only [List.getD_eq_getElem?_getD, List.getElem?_set]
  by_cases h : b = i
  · subst h; simp [hb]
  · rw [if_neg h, if_neg (fun e => h e.symm)]
theorem sum_set_count : ∀ (l : List WS) (k : Nat) (t : WS), k < l.length → total (l.set k t) + (lw l k).count = total l + t.count
  | [], k, _, h => by simp at h
  | x :: l, 0, t, _ => by simp [total, lw]; omega
  | x :: l, k + 1, t, h => by
    have := sum_set_count l k t (by simpa using h)
    simp [total, lw] at this ⊢; omega
theorem addsGo_known (o : WS) : ∀ (n i : Nat) (s : WS) (m : Bool), (addsGo o n i s m).1.known = s.known
  | 0, _, _, _ => rfl
  | n + 1, i, s, m => by rw [addsGo, addsGo_known o n]; rfl
theorem WS.add_known (s o : WS) : (s.add o).1.known = true := by
  unfold WS.add
  split
  · rw [addsGo_known]; assumption
  · rfl
theorem zero_count : zeroWS.count = 0 := by decide
theorem WS.add_count {s o : WS} (hs : s.Few) (hz : s.known = false → s = zeroWS) : s.count ≤ (s.add o).1.count ∧ ((s.add o).2 = true → s.count < (s.add o).1.count) := by
  unfold WS.add
  by_cases hk : s.known = true
  · rw [if_pos hk]
    obtain ⟨h1, h2⟩ := addsGo_count o 24 0 s false hs.len (by omega)
    exact ⟨h1, fun h => by rcases h2 h with h | h; cases h; exact h⟩
  · rw [if_neg hk]
    have := hz (by simpa using hk)
    rw [this, zero_count]
    have : 1 ≤ WS.count { o with known := true } := by unfold WS.count; simp
    exact ⟨by omega, fun _ => this⟩
/-- what one more adding keeps -/
structure Grows (x y : List WS × Bool) : Prop where
  len : y.1.length = x.1.length
  rows : RowsOk y.1
  more : total x.1 ≤ total y.1
  told : y.2 = true → x.2 = true ∨ total x.1 < total y.1
theorem Grows.refl {x : List WS × Bool} (h : RowsOk x.1) : Grows x x := ⟨rfl, h, Nat.le_refl _, .inl⟩
theorem Grows.trans {x y z : List WS × Bool} (h : Grows x y) (h' : Grows y z) : Grows x z :=
  ⟨h'.len.trans h.len, h'.rows, Nat.le_trans h.more h'.more, fun e => by
    rcases h'.told e with e | e
    · rcases h.told e with e | e
      · exact .inl e
      · right; have := h'.more; omega
    · right; have := h.more; omega⟩
theorem addTo_grows {x : List WS × Bool} (h : RowsOk x.1) {b : Nat} (hb : b < x.1.length) {o : WS} (ho : o.Few) : Grows x (addTo b o x) := by
  have hc := sum_set_count x.1 b ((lw x.1 b).add o).1 hb
  obtain ⟨h1, h2⟩ := WS.add_count (o := o) (h.few b) (h.zero b)
  unfold addTo
  refine ⟨by simp, ⟨fun i => ?_, fun i hi => ?_⟩, by simp only; omega, fun e => ?_⟩
  · simp only; rw [lw_set _ _ _ hb]; split
    · exact WS.add_few (h.few b) ho
    · exact h.few i
  · simp only at hi ⊢; rw [lw_set _ _ _ hb] at hi ⊢; split at hi
    · rw [WS.add_known] at hi; cases hi
    · rename_i hne; rw [if_neg hne]; exact h.zero i hi
  · simp only [Bool.or_eq_true] at e
    rcases e with e | e
    · exact .inl e
    · right; have := h2 e; simp only; omega
theorem RP.leadGo_grows (p : RP) (ws : List B) (s : WS) (hs : s.Few) (f : B) (hb : ∀ k, f.getD k 0 = 78 → p.blockOf (word ws (k + 1)) < p.lines.length) : ∀ (m k : Nat) (x : List WS × Bool), x.1.length = p.lines.length → RowsOk x.1 → Grows x (p.leadGo ws s f m k x)
  | 0, _, x, _, h => Grows.refl h
  | m + 1, k, x, hl, h => by
    rw [RP.leadGo]
    by_cases hc : f.getD k 0 = 78
    · rw [if_pos hc]
      have h1 := addTo_grows h (b := p.blockOf (word ws (k + 1))) (by rw [hl]; exact hb k hc) (p.out_few hs ws k)
      exact h1.trans (RP.leadGo_grows p ws s hs f hb m (k + 1) _ (h1.len.trans hl) h1.rows)
    · rw [if_neg hc]
      exact RP.leadGo_grows p ws s hs f hb m (k + 1) x hl h
/-- where a line leads is a line -/
structure Leads (p : RP) : Prop where
  next : ∀ i, i < p.lines.length → ends (word (p.line i) 0) = false → i + 1 < p.lines.length
  into : ∀ i, i < p.lines.length → ∀ k, (behind (word (p.line i) 0) p.raw).1.getD k 0 = 78 → p.blockOf (word (p.line i) (k + 1)) < p.lines.length
theorem RP.through_grows {p : RP} (hp : Leads p) (i : Nat) (hi : i < p.lines.length) (x : List WS × Bool) (hl : x.1.length = p.lines.length) (h : RowsOk x.1) : Grows x (p.through i x) := by
  unfold RP.through
  split
  · have hf := p.step_few (h.few i) (p.line i)
    split
    · exact p.leadGo_grows _ _ hf _ (hp.into i hi) _ _ x hl h
    · rename_i he
      exact addTo_grows h (by rw [hl]; exact hp.next i hi (by simpa using he)) hf
  · exact Grows.refl h
theorem RP.passGo_grows {p : RP} (hp : Leads p) : ∀ (m i : Nat) (x : List WS × Bool), i + m ≤ p.lines.length → x.1.length = p.lines.length → RowsOk x.1 → Grows x (p.passGo m i x)
  | 0, _, x, _, _, h => Grows.refl h
  | m + 1, i, x, hi, hl, h => by
    have h1 := RP.through_grows hp i (by omega) x hl h
    rw [RP.passGo]
    exact h1.trans (RP.passGo_grows hp m (i + 1) _ (by omega) (h1.len.trans hl) h1.rows)
theorem RP.pass_grows {p : RP} (hp : Leads p) (L : List WS) (hl : L.length = p.lines.length) (h : RowsOk L) : Grows (L, false) (p.pass L) := RP.passGo_grows hp _ 0 (L, false) (by omega) hl h
theorem lw_zero (n i : Nat) : lw (List.replicate n zeroWS) i = zeroWS := by
  unfold lw
  simp only [List.getD_eq_getElem?_getD, List.getElem?_replicate]
  split <;> rfl
theorem startWS_few : startWS.Few := ⟨rfl, fun k => by
  unfold WS.at startWS
  simp only [List.getD_eq_getElem?_getD, List.getElem?_replicate]
  split
  · exact few_one 45 (by simp [letters])
  · exact few_nil⟩
theorem rows_zero (n : Nat) : RowsOk (List.replicate n zeroWS) := ⟨fun i => by rw [lw_zero]; exact zeroWS_few, fun i _ => lw_zero n i⟩
theorem rows_start {p : RP} (hb : p.blocks.getD 0 0 < p.lines.length) : RowsOk p.start0 ∧ p.start0.length = p.lines.length := by
  refine ⟨⟨fun i => ?_, fun i hi => ?_⟩, by simp [RP.start0]⟩
  · unfold RP.start0
    rw [lw_set _ _ _ (by simpa using hb), lw_zero]
    split
    · exact startWS_few
    · exact zeroWS_few
  · unfold RP.start0 at hi ⊢
    rw [lw_set _ _ _ (by simpa using hb), lw_zero] at hi ⊢
    split at hi
    · cases hi
    · rename_i h; rw [if_neg h]
theorem total_le {L : List WS} (h : RowsOk L) : total L ≤ 97 * L.length := by
  have : ∀ l : List WS, (∀ x ∈ l, x.count ≤ 97) → total l ≤ 97 * l.length := by
    intro l
    induction l with
    | nil => simp [total]
    | cons x l ih => intro hl; have h1 := ih (fun y hy => hl y (by simp [hy])); have h2 := hl x (by simp); simp [total] at h1 ⊢; omega
  refine this L fun x hx => ?_
  obtain ⟨k, hk, rfl⟩ := List.getElem_of_mem hx
  have := WS.count_le (h.few k)
  simpa [lw, hk] using this
end Go.Proofs.YtmlgajhhnojdjaaGreatDoor.Spec
