/- What the project's reader answers on how many blocks there are, and which local has a name. -/
import Derived.Test.YtmlgajhhnojdjaaGreatDoorSAK
namespace Go.Proofs.YtmlgajhhnojdjaaGreatDoor.PrjO
open Go Go.RowKit Go.Proofs.YtmlgajhhnojdjaaGreatDoor.Spec Go.Proofs.YtmlgajhhnojdjaaGreatDoor.Aux Go.Proofs.YtmlgajhhnojdjaaGreatDoor.PrjF Go.Proofs.YtmlgajhhnojdjaaGreatDoor.PrjG Go.Proofs.YtmlgajhhnojdjaaGreatDoor.PrjH Go.Proofs.YtmlgajhhnojdjaaGreatDoor.PrjI Go.Proofs.YtmlgajhhnojdjaaGreatDoor.PrjJ Go.Proofs.YtmlgajhhnojdjaaGreatDoor.PrjK Go.Proofs.YtmlgajhhnojdjaaGreatDoor.PrjL Go.Proofs.YtmlgajhhnojdjaaGreatDoor.PrjM Go.Proofs.YtmlgajhhnojdjaaGreatDoor.PrjN

theorem sents_form {z : Nat} {w : World} {v : Value} {S : List (Nat × List B)} {vs : List Value} (h : SentsAt z w v S vs) (hn : 0 < S.length) : ∃ g cap, v = .slice (some ⟨g, 0, none⟩) S.length cap ∧ S.length ≤ cap ∧ g < w.heap.size := by
  obtain ⟨g, cap, hv, hc, hg, -⟩ := own_cell h.row hn
  exact ⟨g, cap, hv, hc, hg⟩
theorem sents_cells {z : Nat} {w : World} {g cap : Nat} {S : List (Nat × List B)} {vs : List Value} (h : SentsAt z w (.slice (some ⟨g, 0, none⟩) S.length cap) S vs) (j : Nat) (hj : j < S.length) :
    w.cell? ⟨g, j * 2, none⟩ = some (.int .i64 ((S.getD j (0, [])).1 : Nat)) ∧ ∃ gw ow cw, w.cell? ⟨g, j * 2 + 1, none⟩ = some (.slice (some ⟨gw, ow, none⟩) (S.getD j (0, [])).2.length cw) ∧ WordsAt w (.slice (some ⟨gw, ow, none⟩) (S.getD j (0, [])).2.length cw) (S.getD j (0, [])).2 := by
  obtain ⟨g', cap', hv, -, -, h1, h2⟩ := h.at j hj
  simp only [Value.slice.injEq, Option.some.injEq, Addr.mk.injEq, and_true, true_and] at hv
  obtain ⟨rfl, rfl⟩ := hv
  have h3 := h.each j hj
  have h3' := h3
  obtain ⟨gw, ow, cw, e, -⟩ := h3'
  rw [e] at h2 h3
  exact ⟨h1, gw, ow, cw, h2, h3⟩
theorem countB_step (S : List (Nat × List B)) (k : Nat) (hk : k < S.length) : countB (S.take (k + 1)) = countB (S.take k) + if (S.getD k (0, [])).1 = 1 then 1 else 0 := by
  unfold countB
  rw [List.take_add_one, List.getElem?_eq_getElem hk, Option.toList_some, List.filter_append, List.length_append]
  congr 1
  have : S.getD k (0, []) = S[k] := by simp [List.getD_eq_getElem?_getD, hk]
  rw [this]
  by_cases h : S[k].1 = 1
  · rw [if_pos h]; simp [h]
  · rw [if_neg h]; simp [h]
theorem countB_le (S : List (Nat × List B)) : countB S ≤ S.length := List.length_filter_le ..
set_option maxRecDepth 20000 in
theorem countBlocks_any {z g cap : Nat} {S : List (Nat × List B)} {vs : List Value} (w : World) (h : SentsAt z w (.slice (some ⟨g, 0, none⟩) S.length cap) S vs) (hS : S.length ≤ 4000) (_hcap : S.length ≤ cap) :
    Calls Tryz.prog 167 #[.slice (some ⟨g, 0, none⟩) S.length cap] w fun e w' => e = .returned (.int .i64 (countB S : Nat)) ∧ Below w.heap.size w w' := by
  go_enter Tryz.func167, Tryz.ntmps167
  go_wp2
  go_loopw [3, 8] (fun n i wr => ∃ (k c : Nat), k ≤ S.length ∧ c ≤ k ∧ i = .int .i64 k ∧ n = .int .i64 c ∧ Below w.heap.size w wr ∧ Hid (c = countB (S.take k))) (fun _ i _ => S.length - (intOf i).toNat)
  case atStart => exact ⟨0, 0, Nat.zero_le _, Nat.le_refl _, rfl, rfl, Below.refl _ _, rfl⟩
  case round =>
    obtain ⟨k, c, hk, hc, rfl, rfl, hB, HC⟩ := hrel
    by_cases hlt : k < S.length
    · obtain ⟨h1, gw, ow, cw, h2, -⟩ := sents_cells (h.below hB) k hlt
      have HS : Hid (_ = _) := countB_step S k hlt
      by_cases h1b : (S.getD k (0, [])).1 = 1
      · have hb1 : (((S.getD k (0, [])).1 : Int) == 1) = true := by rw [h1b]; rfl
        have HQ : Hid ((S.getD k (0, [])).1 = 1) := h1b
        clear h1b
        generalize (S.getD k (0, [])).1 = op at *
        go_wp2
        go_roundw
        case rel => exact ⟨k + 1, c + 1, by omega, by omega, by go_num, by go_num, hB.alloc hB.size _, by unfold Hid; rw [HS.out, if_pos HQ.out, HC.out]⟩
        case measure => simp [intOf]; omega
      · have hb1 : (((S.getD k (0, [])).1 : Int) == 1) = false := by rw [beq_eq_false_iff_ne]; omega
        have HQ : Hid (¬ (S.getD k (0, [])).1 = 1) := h1b
        clear h1b
        generalize (S.getD k (0, [])).1 = op at *
        go_wp2
        go_roundw
        case rel => exact ⟨k + 1, c, by omega, by omega, by go_num, by go_num, hB.alloc hB.size _, by unfold Hid; rw [HS.out, if_neg HQ.out, HC.out]; rfl⟩
        case measure => simp [intOf]; omega
    · go_wp2
      go_ret
      have e := HC.out
      rw [List.take_of_length_le (by omega)] at e
      exact ⟨by rw [e]; rfl, hB⟩

/-- locals in memory -/
def LocAt (w : World) (v : Value) (ls : List (B × Nat)) : Prop := ∃ z, w.ownsRow z 146 2 v ls.length (locCells ls)
theorem LocAt.below {w w' : World} {v : Value} {ls : List (B × Nat)} (h : LocAt w v ls) (hb : Below w.heap.size w w') : LocAt w' v ls := by
  obtain ⟨z, h⟩ := h; exact ⟨z, own_below h hb⟩
theorem loc_cells {w : World} {v : Value} {ls : List (B × Nat)} (h : LocAt w v ls) : (ls = [] ∧ v = .slice none 0 0) ∨ ∃ g cap, v = .slice (some ⟨g, 0, none⟩) ls.length cap ∧ ls.length ≤ cap ∧ g < w.heap.size ∧ ∀ j, j < ls.length → w.cell? ⟨g, j * 2, none⟩ = some (.string (bs (ls.getD j ([], 0)).1)) ∧ w.cell? ⟨g, j * 2 + 1, none⟩ = some (.int .i64 ((ls.getD j ([], 0)).2 : Nat)) := by
  obtain ⟨z, h⟩ := h
  rcases h.2 with ⟨hv, hn⟩ | ⟨g, cap, cur, hv, hz, hg, hc, hm, hs, ht⟩
  · exact .inl ⟨List.eq_nil_of_length_eq_zero hn, hv⟩
  · refine .inr ⟨g, cap, hv, hc, lt_of_heap hg, fun j hj => ?_⟩
    have key : ∀ c, c < 2 → w.cell? ⟨g, j * 2 + c, none⟩ = (locCell (ls.getD j ([], 0)))[c]? := fun c hc2 => by
      rw [cell_of_heap hg]
      have : (cur.toList.take (ls.length * 2))[j * 2 + c]? = cur[j * 2 + c]? := by
        rw [List.getElem?_take, if_pos (by omega)]; simp
      rw [← this, ht, locCells, flat_get locCell 2 (fun _ => rfl) ls j c hc2]
      simp [hj]
    exact ⟨key 0 (by decide), key 1 (by decide)⟩
theorem findQ_drop (ls : List (B × Nat)) (n : B) (k : Nat) (hk : k < ls.length) : findQGo (ls.drop k) n k = if (ls.getD k ([], 0)).1 = n then (k : Int) else findQGo (ls.drop (k + 1)) n (k + 1) := by
  rw [List.drop_eq_getElem_cons hk, findQGo]
  have : ls.getD k ([], 0) = ls[k] := by simp [List.getD_eq_getElem?_getD, hk]
  rw [this]
/-- the closure -/
theorem isLocal_any (a n : B) (t : Int) (b : Nat) (w : World) (hn : w.cell? ⟨b, 0, none⟩ = some (.string (bs n))) (hb : b < w.heap.size) :
    Calls Tryz.prog 202 #[.agg #[.string (bs a), .int .i64 t], .pointer (some ⟨b, 0, none⟩)] w fun e w' => e = .returned (.bool (a == n)) ∧ Below w.heap.size w w' := by
  have ht := toList_bs a
  have ht2 := toList_bs n
  have hne : b ≠ w.heap.size := by omega
  go_enter Tryz.func202, Tryz.ntmps202
  go_wp2
  go_ret
  exact ⟨rfl, (Below.refl _ _).alloc (Nat.le_refl _) _⟩
set_option maxRecDepth 20000 in
theorem indexFunc_any (ls : List (B × Nat)) (v : Value) (n : B) (b : Nat) (w : World) (hv : LocAt w v ls) (hls : ls.length ≤ 4000) (hn : w.cell? ⟨b, 0, none⟩ = some (.string (bs n))) (hb : b < w.heap.size) :
    Calls Tryz.prog 201 #[v, .func (.func 202) #[] #[.pointer (some ⟨b, 0, none⟩)]] w fun e w' => e = .returned (.int .i64 (findQ ls n)) ∧ Below w.heap.size w w' := by
  rcases loc_cells hv with ⟨rfl, rfl⟩ | ⟨g, cap, rfl, hcap, hg, hcell⟩
  · go_enter Tryz.func201, Tryz.ntmps201
    go_wp2
    go_loopw [8] (fun i wr => i = .int .i64 0 ∧ wr = w) (fun _ _ => 0)
    case atStart => exact ⟨rfl, rfl⟩
    case round =>
      obtain ⟨rfl, rfl⟩ := hrel
      go_wp2
      go_ret
      exact ⟨rfl, Below.refl _ _⟩
  · have HF : Hid (findQ ls n = findQGo (ls.drop 0) n 0) := rfl
    go_enter Tryz.func201, Tryz.ntmps201
    go_wp2
    go_loopw [8] (fun i wr => ∃ k : Nat, k ≤ ls.length ∧ i = .int .i64 k ∧ Below w.heap.size w wr ∧ Hid (findQ ls n = findQGo (ls.drop k) n k)) (fun i _ => ls.length - (intOf i).toNat)
    case atStart => exact ⟨0, Nat.zero_le _, rfl, Below.refl _ _, HF⟩
    case round =>
      obtain ⟨k, hk, rfl, hB, HI⟩ := hrel
      by_cases hlt : k < ls.length
      · obtain ⟨h1, h2⟩ := hcell k hlt
        have c1 := (hB.cell (p := ⟨g, k * 2, none⟩) hg).trans h1
        have c2 := (hB.cell (p := ⟨g, k * 2 + 1, none⟩) hg).trans h2
        have cn := (hB.cell (p := ⟨b, 0, none⟩) hb).trans hn
        have HS : Hid (_ = _) := findQ_drop ls n k hlt
        have KL := isLocal_any (ls.getD k ([], 0)).1 n ((ls.getD k ([], 0)).2 : Nat) b wr cn (Nat.lt_of_lt_of_le hb hB.size)
        clear h1 h2 hcell
        generalize (ls.getD k ([], 0)).1 = a at *
        generalize (ls.getD k ([], 0)).2 = t at *
        by_cases hq : a = n
        · have hqb : (a == n) = true := by simp [hq]
          have HQ : Hid (a = n) := hq
          rw [hqb] at KL
          clear hq hqb
          go_wp2_with (go_at_call 202; refine KL.mono ?_; rintro e w1 ⟨rfl, hb1⟩)
          go_ret
          exact ⟨by rw [HI.out, HS.out, if_pos HQ.out]; rfl, hB.trans (hb1.mono hB.size)⟩
        · have hqb : (a == n) = false := by simp [hq]
          have HQ : Hid (¬ a = n) := hq
          rw [hqb] at KL
          clear hq hqb
          go_wp2_with (go_at_call 202; refine KL.mono ?_; rintro e w1 ⟨rfl, hb1⟩)
          go_roundw
          case rel => exact ⟨k + 1, by omega, by go_num, hB.trans (hb1.mono hB.size), by unfold Hid; rw [HI.out, HS.out, if_neg HQ.out]⟩
          case measure => simp [intOf]; omega
      · have e : findQ ls n = -1 := by rw [HI.out, List.drop_eq_nil_of_le (by omega)]; rfl
        go_wp2
        go_ret
        exact ⟨by rw [e]; rfl, hB⟩
set_option maxRecDepth 20000 in
theorem find_any (ls : List (B × Nat)) (v u : Value) (n : B) (a : Nat) (w : World) (hp : w.heap[a]? = some (.cells #[v, u] 110 (0, 0))) (hv : LocAt w v ls) (hls : ls.length ≤ 4000) :
    Calls Tryz.prog 168 #[.pointer (some ⟨a, 0, none⟩), .string (bs n)] w fun e w' => e = .returned (.int .i64 (findQ ls n)) ∧ Below w.heap.size w w' := by
  have hal : Below w.heap.size w (w.alloc (.cells #[.string (bs n)] 9)) := (Below.refl _ _).alloc (Nat.le_refl _) _
  have KI := indexFunc_any ls v n w.heap.size (w.alloc (.cells #[.string (bs n)] 9)) (hv.below hal) hls (by simp) (by simp)
  have hlt := lt_of_heap hp
  have hc : w.cell? ⟨a, 0, none⟩ = some v := by rw [cell_of_heap hp]; rfl
  have hne : a ≠ w.heap.size := by omega
  have hmf : ∀ (fn : Fn) (first cap : Array Value) (w : World), (Instr.makeFunc fn first cap).run Tryz.prog w = .ok (.func fn first cap) w := fun _ _ _ _ => rfl
  go_enter Tryz.func168, Tryz.ntmps168
  go_wp2_with (go_at_call 201; refine KI.mono ?_; rintro e w1 ⟨rfl, hb1⟩)
  go_ret
  exact ⟨rfl, hal.trans (hb1.mono hal.size)⟩
end Go.Proofs.YtmlgajhhnojdjaaGreatDoor.PrjO
