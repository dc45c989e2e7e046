/- The project's machine that owns: a run. -/
import Derived.Test.YtmlgajhhnojdjaaGreatDoorKAS
import Derived.Test.YtmlgajhhnojdjaaGreatDoorKBC
namespace Go.Proofs.YtmlgajhhnojdjaaGreatDoor.Own
open Go Go.RowKit Go.Proofs.YtmlgajhhnojdjaaGreatDoor.Spec Go.Proofs.YtmlgajhhnojdjaaGreatDoor.Aux Go.Proofs.YtmlgajhhnojdjaaGreatDoor.PrjJ Go.Proofs.YtmlgajhhnojdjaaGreatDoor.PrjK Go.Proofs.YtmlgajhhnojdjaaGreatDoor.PrjL Go.Proofs.YtmlgajhhnojdjaaGreatDoor.PrjM Go.Proofs.YtmlgajhhnojdjaaGreatDoor.PrjQ Go.Proofs.YtmlgajhhnojdjaaGreatDoor.PrjS Go.Proofs.YtmlgajhhnojdjaaGreatDoor.PrjT Go.Proofs.YtmlgajhhnojdjaaGreatDoor.FlwA Go.Proofs.YtmlgajhhnojdjaaGreatDoor.FlwB Go.Proofs.YtmlgajhhnojdjaaGreatDoor.FlwD Go.Proofs.YtmlgajhhnojdjaaGreatDoor.FlwE Go.Proofs.YtmlgajhhnojdjaaGreatDoor.FlwM
attribute [local go_sem ↓] wp_build_own wp_alloc_own wp_store_own
attribute [local go_sem] jumpTo_normal jumpTo_exit jumpTo_ret jumpTo_panic jumpTo_goto

def resV (r : Nat × Int × Own) : Value := .agg #[.int .i64 ((r.1 : Nat) : Int), .int .i64 r.2.1, .string (bs r.2.2.yd.text), .int .i64 r.2.2.yd.live]
theorem block_of {z a : Nat} {w0 : World} {q : QP} {vl vb : Value} {us : List Value} {vss : List (List (Value × Value))} (h : PAt z a w0 q vl vb us vss) {b : Nat} (hb : b < q.blocks.length) :
    ∃ gb cb adk ck, vb = .slice (some ⟨gb, 0, none⟩) q.blocks.length cb ∧ q.blocks.length ≤ cb ∧ (∀ W, Below w0.heap.size w0 W → W.cell? ⟨gb, b, none⟩ = some (.slice adk (q.blocks.getD b []).length ck)) ∧ BlockAt z w0 (.slice adk (q.blocks.getD b []).length ck) (q.blocks.getD b []) (vss.getD b []) := by
  obtain ⟨gb, cb, adk, ck, e, hcb, hgb, hcell, hus⟩ := blocks_cell2 h b hb
  refine ⟨gb, cb, adk, ck, e, hcb, fun W hW => (hW.cell (p := ⟨gb, b, none⟩) hgb).trans hcell, ?_⟩
  have h1 := h.each b hb
  rw [hus] at h1; exact h1
theorem line_of {z : Nat} {w0 : World} {ad : Option Addr} {n c : Nat} {ls : List QLine} {vs : List (Value × Value)} (h : BlockAt z w0 (.slice ad n c) ls vs) {j : Nat} (hj : j < ls.length) :
    ∃ g ap cp an cn, ad = some ⟨g, 0, none⟩ ∧ n = ls.length ∧ ls.length ≤ c ∧ ∀ W, Below w0.heap.size w0 W → (W.cell? ⟨g, j * 6, none⟩ = some (.int .i64 ((ls.getD j QLine.nil).num : Nat)) ∧ W.cell? ⟨g, j * 6 + 1, none⟩ = some (.int .i64 ((ls.getD j QLine.nil).op : Nat)) ∧ W.cell? ⟨g, j * 6 + 2, none⟩ = some (.slice ap (ls.getD j QLine.nil).places.length cp) ∧
      W.cell? ⟨g, j * 6 + 3, none⟩ = some (.int .i64 (ls.getD j QLine.nil).number) ∧ W.cell? ⟨g, j * 6 + 4, none⟩ = some (.int .i64 (ls.getD j QLine.nil).flag) ∧ W.cell? ⟨g, j * 6 + 5, none⟩ = some (.slice an (ls.getD j QLine.nil).next.length cn)) ∧
      LineAt z W (ls.getD j QLine.nil) (.slice ap (ls.getD j QLine.nil).places.length cp) (.slice an (ls.getD j QLine.nil).next.length cn) := by
  obtain ⟨g, ap, cp, an, cn, e, hn, hc, hg, k0, k1, k2, k3, k4, k5, hvs⟩ := block_cells2 h j hj
  refine ⟨g, ap, cp, an, cn, e, hn, hc, fun W hW => ⟨⟨(hW.cell (p := ⟨g, j * 6, none⟩) hg).trans k0, (hW.cell (p := ⟨g, j * 6 + 1, none⟩) hg).trans k1, (hW.cell (p := ⟨g, j * 6 + 2, none⟩) hg).trans k2, (hW.cell (p := ⟨g, j * 6 + 3, none⟩) hg).trans k3, (hW.cell (p := ⟨g, j * 6 + 4, none⟩) hg).trans k4, (hW.cell (p := ⟨g, j * 6 + 5, none⟩) hg).trans k5⟩, ?_⟩⟩
  have h1 := h.each j hj
  rw [hvs] at h1
  exact LineAt.below h1 hW
/-- what a run may ask of a line, besides -/
structure ROk (q : QP) (l : QLine) : Prop where
  op : goesOn l.op ∨ l.op = 6 ∨ l.op = 9 ∨ l.op = 18 ∨ l.op = 19 ∨ l.op = 20 ∨ l.op = 22
  hl : l.op = 12 ∨ l.op = 14 → (QP.halvesQ q (plOf l 0)).length = (QP.halvesQ q (plOf l 1)).length
theorem oat_start {w : World} {a : Nat} {vi : Value} {inp : List Int} (hf : FeedAt w vi inp) (u v : Value) : OAt w w.heap.size a ((w.alloc (.cells (ownCells u v).toArray 104)).setCells w.heap.size 0 (ownCells (.pointer (some ⟨a, 0, none⟩)) vi)) (Own.start inp) vi (.slice none 0 0) (.slice none 0 0) := by
  obtain ⟨h1, h2⟩ := own_new w u v (.pointer (some ⟨a, 0, none⟩)) vi
  exact ⟨⟨Nat.le_refl _, .inl rfl, h1, World.ownsRow_nil _ _ _ _, World.ownsRow_nil _ _ _ _⟩, h2, by simp [Own.start], by simp [Own.start], hf⟩
theorem res_put {w1 : World} {R : Nat} {u0 u1 u2 u3 : Value} (hR : w1.heap[R]? = some (.cells #[u0, u1, u2, u3] 47 (0, 0))) (v0 v1 v2 v3 : Value) :
    ((((w1.setCell ⟨R, 0, none⟩ v0).setCell ⟨R, 1, none⟩ v1).setCell ⟨R, 2, none⟩ v2).setCell ⟨R, 3, none⟩ v3).heap[R]? = some (.cells #[v0, v1, v2, v3] 47 (0, 0)) ∧ Below R w1 ((((w1.setCell ⟨R, 0, none⟩ v0).setCell ⟨R, 1, none⟩ v1).setCell ⟨R, 2, none⟩ v2).setCell ⟨R, 3, none⟩ v3) := by
  have e1 := Aux.heap_setCell_same hR 0 v0
  have e2 := Aux.heap_setCell_same e1 1 v1
  have e3 := Aux.heap_setCell_same e2 2 v2
  have e4 := Aux.heap_setCell_same e3 3 v3
  have hT := ((((Turn.refl R w1).setCell 0 v0).setCell 1 v1).setCell 2 v2).setCell 3 v3
  exact ⟨e4, hT.below (Nat.le_refl _) (Nat.le_of_lt (lt_of_heap hR))⟩
section
variable {a : Nat} {w : World} {q : QP}
set_option maxRecDepth 20000 in
set_option maxHeartbeats 8000000 in
theorem Run_any {z : Nat} {vl vb : Value} {us : List Value} {vss : List (List (Value × Value))} (h : PAt z a w q vl vb us vss) (vi : Value) (inp : List Int) (hf : FeedAt w vi inp) (hinp : ∀ n ∈ inp, isI64 n) (fuel room : Nat) (hfu : fuel ≤ 1000) (_hro : room ≤ 50)
    (hb0 : 0 < q.blocks.length) (_hn : q.blocks.length ≤ 4000) (hls : q.locals.length ≤ 12) (hq : QOk q.blocks.length q) (hlines : ∀ j, (q.blocks.getD j []).length ≤ 4000) (hrok : ∀ j, ∀ l ∈ q.blocks.getD j [], ROk q l) (hpw : Pow w) (h11 : 11 ≤ w.heap.size)
    {ans : Nat × Int × Own} (hans : runO q (room : Nat) fuel (q.blocks.getD 0 []) (Own.start inp) = some ans) :
    Calls Tryz.prog 44 #[.pointer (some ⟨a, 0, none⟩), vi, .int .i64 (fuel : Nat), .int .i64 (room : Nat)] w fun e w' => e = .returned (resV ans) ∧ Below w.heap.size w w' := by
  obtain ⟨w0, hw0⟩ : ∃ w0, w.alloc (.cells #[.int .i64 0, .int .i64 0, .string ⟨#[]⟩, .int .i64 0] 47) = w0 := ⟨_, rfl⟩
  have hb00 : Below w.heap.size w w0 := by rw [← hw0]; exact (Below.refl _ _).alloc (Nat.le_refl _) _
  have hs0 : w0.heap.size = w.heap.size + 1 := by rw [← hw0]; simp
  have hR0 : w0.heap[w.heap.size]? = some (.cells #[.int .i64 0, .int .i64 0, .string ⟨#[]⟩, .int .i64 0] 47 (0, 0)) := by rw [← hw0]; exact Array.getElem?_push_size
  have hP0 := h.below hb00
  have hpw0 := hpw.below hb00 h11
  have hf0 : FeedAt w0 vi inp := by
    obtain ⟨ad, c, rfl, h1, h2, h3⟩ := hf
    refine ⟨ad, c, rfl, h1, h2, fun j hj => ?_⟩
    obtain ⟨g, f, e, hg, hc⟩ := h3 j hj
    exact ⟨g, f, e, by omega, (hb00.cell (p := ⟨g, f + j, none⟩) hg).trans hc⟩
  have hO0 := oat_start (a := a) hf0 (.pointer none) (.slice none 0 0)
  have hroom := roomOwn_new w0 (.pointer none) (.slice none 0 0)
  have hH : Hid (runO q (room : Nat) fuel (q.blocks.getD 0 []) (Own.start inp) = some ans) := hans
  obtain ⟨ad, c, rfl, -⟩ := hf
  clear hans h hpw
  rw [hs0] at hO0 hroom
  go_enter Tryz.func44, Tryz.ntmps44
  go_wp2
  try rw [hw0]
  refine wp_scope_to ?_
  intro J hJ
  go_upto_region 2 with fail
  clear hroom hw0 hf0
  generalize ((w0.alloc (Obj.cells (ownCells (Value.pointer none) (Value.slice none 0 0)).toArray 104)).setCells (w.heap.size + 1) 0 (ownCells (Value.pointer (some { block := a, off := 0 })) (Value.slice ad inp.length c))) = W0 at *
  have hI0 := (Own.In.start hinp).mono (Nat.zero_le (3 * (1000 - fuel)))
  have hst : Hid (∃ o vi vm vt, OAt w0 (w.heap.size + 1) a W0 o vi vm vt ∧ o.In (3 * (1000 - fuel)) ∧ runO q (room : Nat) fuel (q.blocks.getD 0 []) o = some ans) := ⟨_, _, _, _, hO0, hI0, hH.out⟩
  clear hO0 hI0 hH
  go_wp2
  go_loopg [2, 11] (fuel + 1) (fun g v2 v11 wr => ∃ (f b : Nat), g = f + 1 ∧ f ≤ 1000 ∧ v2 = .int .i64 f ∧ v11 = .int .i64 b ∧ b < q.blocks.length ∧ Hid (∃ o vi vm vt, OAt w0 (w.heap.size + 1) a wr o vi vm vt ∧ o.In (3 * (1000 - f)) ∧ runO q (room : Nat) f (q.blocks.getD b []) o = some ans))
  case atStart => exact ⟨fuel, 0, rfl, hfu, rfl, rfl, hb0, hst⟩
  case round =>
    obtain ⟨f0, b, hg, hf0, rfl, rfl, hb, hst⟩ := hrel
    obtain ⟨gb, cb, adk, ck, rfl, hcb, hbc, hBA⟩ := block_of hP0 hb
    have hbi : (b : Int) < (q.blocks.length : Nat) := by omega
    have hold : Below w0.heap.size w0 wr := by obtain ⟨o, vi, vm, vt, h1, -⟩ := hst.out; exact h1.old
    obtain ⟨p0, p1, -, -⟩ := PAt.facts (hP0.below hold)
    have hcell := hbc wr hold
    have hln := hlines b
    have hok : ∀ l ∈ q.blocks.getD b [], LOk q.locals.length q.blocks.length l := hq.lines _ (by simp [hb])
    have hrk : ∀ l ∈ q.blocks.getD b [], ROk q l := hrok b
    generalize hblk : q.blocks.getD b [] = blk at *
    clear hblk hbc
    generalize vss.getD b [] = vsj at *
    have hne : 0 < blk.length := by
      obtain ⟨o, vi, vm, vt, -, -, h3⟩ := hst.out
      cases blk with
      | nil => cases f0 <;> simp [runO] at h3
      | cons _ _ => simp
    have HD : Hid (∀ k, k < blk.length → blk.drop k = blk.getD k QLine.nil :: blk.drop (k + 1)) := fun k hk => by rw [List.drop_eq_getElem_cons hk]; simp [hk]
    have HR1 : Hid (∀ W W', Below w0.heap.size w0 W → Below W.heap.size W W' → W'.heap[w.heap.size]? = some (.cells #[.int .i64 0, .int .i64 0, .string ⟨#[]⟩, .int .i64 0] 47 (0, 0))) := fun W W' h1 h2 => by
      have hs := h1.size
      rw [h2.block _ (by omega), h1.block _ (by omega)]; exact hR0
    go_wp2
    go_loopg [2, 11, 26] (blk.length) (fun g v2 v11 v26 wn => ∃ (k f b' : Nat), g + k = blk.length ∧ f + k = f0 ∧ v2 = .int .i64 f ∧ v11 = .int .i64 b' ∧ v26 = .int .i64 k ∧ Hid (∃ o vi vm vt, OAt w0 (w.heap.size + 1) a wn o vi vm vt ∧ o.In (3 * (1000 - f)) ∧ ((k < blk.length ∧ runO q (room : Nat) f (blk.drop k) o = some ans) ∨ (k = blk.length ∧ b' < q.blocks.length ∧ runO q (room : Nat) f (q.blocks.getD b' []) o = some ans))))
    case atStart =>
      obtain ⟨o, vi, vm, vt, h1, h2, h3⟩ := hst.out
      exact ⟨0, f0, b, rfl, rfl, rfl, rfl, rfl, o, vi, vm, vt, h1, h2, .inl ⟨hne, h3⟩⟩
    case round =>
      obtain ⟨k, f, b', hgk, hfk, rfl, rfl, rfl, hst⟩ := hrel
      clear p0 p1 hcell hold
      by_cases hk : k < blk.length
      · obtain ⟨o, vi, vm, vt, hO, hI, hcs⟩ := hst.out
        have HR : Hid (runO q (room : Nat) f (blk.getD k QLine.nil :: blk.drop (k + 1)) o = some ans) := by
          rcases hcs with ⟨-, h⟩ | ⟨h, -⟩
          · rw [HD.out k hk] at h; exact h
          · omega
        clear hcs hst
        obtain ⟨gl, apl, cp, an, cn, rfl, -, hcl, HL⟩ := line_of hBA hk
        have hmem : blk.getD k QLine.nil ∈ blk := by simp [hk]
        have hl := hok _ hmem
        have hr := hrk _ hmem
        have hki : (k : Int) < (blk.length : Nat) := by omega
        generalize blk.getD k QLine.nil = l at *
        obtain ⟨k0, k1, k2, k3, k4, k5⟩ := (HL _ hO.old).1
        have hbL : Below wr.heap.size wr (wr.alloc (.cells #[.int .i64 (l.num : Nat), .int .i64 (l.op : Nat), .slice apl l.places.length cp, .int .i64 l.number, .int .i64 l.flag, .slice an l.next.length cn] 115)) := (Below.refl _ _).alloc (Nat.le_refl _) _
        have hOL := hO.below hbL
        have hLL := (HL _ hOL.old).2
        have hlnL : (wr.alloc (.cells #[.int .i64 (l.num : Nat), .int .i64 (l.op : Nat), .slice apl l.places.length cp, .int .i64 l.number, .int .i64 l.flag, .slice an l.next.length cn] 115)).heap[wr.heap.size]? = some (.cells #[.int .i64 (l.num : Nat), .int .i64 (l.op : Nat), .slice apl l.places.length cp, .int .i64 l.number, .int .i64 l.flag, .slice an l.next.length cn] 115 (0, 0)) := Array.getElem?_push_size
        clear hmem hbL
        have HB4 : Hid (∀ W W' W'', Below w0.heap.size w0 W → Below W.heap.size W W' → Below w.heap.size W' W'' → Below w.heap.size w W'') := fun W W' W'' h1 h2 h3 => by
          have := h1.size
          exact hb00.trans (((h1.mono (by omega)).trans (h2.mono (by omega))).trans h3)
        cases f with
        | zero =>
          have hA : ans = (2, 0, o) := by have := HR.out; rw [runO] at this; exact (Option.some.inj this).symm
          have KR := fun (W : World) (hW : OAt w0 (w.heap.size + 1) a W o vi vm vt) => result_any hW.yat 2 0 ((hI.sz (by omega)).ok (by omega))
          subst hA
          go_wp2
          apply wp_goto
          refine hJ _ _ _ _ rfl ?_
          go_wp2_with (go_at_call 66; go_fit (KR _ hOL); rintro e wz ⟨rfl, hbz⟩; have hRz := HR1.out _ _ hOL.old hbz; have z0 : wz.cell? ⟨w.heap.size, 0, none⟩ = some (.int .i64 0) := (by rw [cell_of_heap hRz]; rfl); have z1 : wz.cell? ⟨w.heap.size, 1, none⟩ = some (.int .i64 0) := (by rw [cell_of_heap hRz]; rfl); have z2 : wz.cell? ⟨w.heap.size, 2, none⟩ = some (.string ⟨#[]⟩) := (by rw [cell_of_heap hRz]; rfl); have z3 : wz.cell? ⟨w.heap.size, 3, none⟩ = some (.int .i64 0) := (by rw [cell_of_heap hRz]; rfl); have rf := frozen_of_heap hRz; have rf0 := rf 0; have rf1 := rf 1; have rf2 := rf 2; have rf3 := rf 3; clear rf)
          try rw [Exit.noGoto_ret]
          obtain ⟨e4, hB4⟩ := res_put hRz (.int .i64 2) (.int .i64 0) (.string (bs o.yd.text)) (.int .i64 o.yd.live)
          refine bodyPost_ret (results_cell Tryz.results44 _ _ _ w.heap.size [.int .i64 2, .int .i64 0, .string (bs o.yd.text), .int .i64 o.yd.live] _ rfl (fun j u hu => by rw [Nat.zero_add, cell_of_heap e4]; simpa using hu) Tryz.underlying47 rfl info_result) rfl ?_
          exact ⟨rfl, HB4.out _ _ _ hOL.old hbz hB4⟩
        | succ f =>
          have hF0 : (((f + 1 : Nat) : Int) == 0) = false := by rw [beq_eq_false_iff_ne]; omega
          have HN : Hid (∀ o', runO q (room : Nat) f (blk.drop (k + 1)) o' = some ans → k + 1 < blk.length) := fun o' h => by
            by_cases hlt : k + 1 < blk.length
            · exact hlt
            · rw [List.drop_eq_nil_of_le (by omega)] at h; cases f <;> simp [runO] at h
          rcases hr.op with hgo | hop | hop | hop | hop | hop | hop
          ·
            have hne : l.op ≠ 6 ∧ l.op ≠ 9 ∧ l.op ≠ 18 ∧ l.op ≠ 19 ∧ l.op ≠ 20 ∧ l.op ≠ 22 := by unfold goesOn at hgo; omega
            have b6 : (((l.op : Nat) : Int) == 6) = false := by rw [beq_eq_false_iff_ne]; omega
            have b9 : (((l.op : Nat) : Int) == 9) = false := by rw [beq_eq_false_iff_ne]; omega
            have b18 : (((l.op : Nat) : Int) == 18) = false := by rw [beq_eq_false_iff_ne]; omega
            have b19 : (((l.op : Nat) : Int) == 19) = false := by rw [beq_eq_false_iff_ne]; omega
            have b20 : (((l.op : Nat) : Int) == 20) = false := by rw [beq_eq_false_iff_ne]; omega
            have b22 : (((l.op : Nat) : Int) == 22) = false := by rw [beq_eq_false_iff_ne]; omega
            have HR2 := HR.out
            rw [runO, if_neg hne.1, if_neg hne.2.1, if_neg (by omega), if_neg hne.2.2.2.2.2] at HR2
            have hneed : o.need l = true := by
              cases hv : o.need l with
              | true => rfl
              | false => rw [hv, if_neg (by decide)] at HR2; cases HR2
            rw [if_pos hneed] at HR2
            have HRn : Hid (runO q (room : Nat) f (blk.drop (k + 1)) (o.do1 q l) = some ans) := HR2
            have hI2 := (hI.do1 (by omega) q l (by have := hl.number; unfold isI64; omega)).mono (show 3 * (1000 - (f + 1)) + 3 ≤ 3 * (1000 - f) by omega)
            have KD := do_any hOL hLL hl hls hgo hI (by omega) hneed ⟨hP0.blk, ⟨_, hP0.locals⟩⟩ hr.hl hpw0 (by omega)
            clear HR HR2 hneed hne hgo
            generalize o.do1 q l = o2 at *
            go_wp2_with (go_at_call 65; go_fit KD; rintro e w1 ⟨rfl, vi2, vm2, vt2, hO2, r2⟩)
            go_roundg (blk.length - (k + 1))
            case measure => omega
            case rel => exact ⟨k + 1, f, b', by omega, by omega, by go_num, rfl, by go_num, o2, vi2, vm2, vt2, hO2, hI2, .inl ⟨HN.out _ HRn.out, HRn.out⟩⟩
          ·
            have b6 : (((l.op : Nat) : Int) == 6) = true := by rw [beq_iff_eq]; omega
            have b9 : (((l.op : Nat) : Int) == 9) = false := by rw [beq_eq_false_iff_ne]; omega
            have b18 : (((l.op : Nat) : Int) == 18) = false := by rw [beq_eq_false_iff_ne]; omega
            have b19 : (((l.op : Nat) : Int) == 19) = false := by rw [beq_eq_false_iff_ne]; omega
            have b20 : (((l.op : Nat) : Int) == 20) = false := by rw [beq_eq_false_iff_ne]; omega
            have b22 : (((l.op : Nat) : Int) == 22) = false := by rw [beq_eq_false_iff_ne]; omega
            have hlen : l.places.length = 3 := by rw [hl.plen, hop]; rfl
            obtain ⟨g, rfl, hcp, hg, c1, c2⟩ := place_at hLL hlen 2 (by omega)
            have hx := (hl.places (l.places.getD 2 (0, 0)) (by simp [hlen])).1
            have HR2 := HR.out
            rw [runO, if_pos hop] at HR2
            have KC := fun (W : World) (hb : Below (wr.alloc (.cells #[.int .i64 (l.num : Nat), .int .i64 (l.op : Nat), .slice (some ⟨g, 0, none⟩) l.places.length cp, .int .i64 l.number, .int .i64 l.flag, .slice an l.next.length cn] 115)).heap.size (wr.alloc (.cells #[.int .i64 (l.num : Nat), .int .i64 (l.op : Nat), .slice (some ⟨g, 0, none⟩) l.places.length cp, .int .i64 l.number, .int .i64 l.flag, .slice an l.next.length cn] 115)) W) (hz : ¬ o.num (plOf l 2) = 0) => calculate_any (hOL.below hb) (LineAt.below hLL hb) hl hls (.inr (.inr (.inr hop))) (fun _ => hz) hI.nums
            have hC : Hid (({ o with ints := o.ints.set (QLine.pl l 0).1 (calcI l.op (o.num (QLine.pl l 1)) (o.num (QLine.pl l 2))) } : Own) = o.calc l) := rfl
            rw [hC.out] at KC
            have KN := number_any hOL (l.places.getD 2 (0, 0)) (by omega)
            have hI2 : (o.calc l).In (3 * (1000 - f)) := (hI.setInt _ (calc_i64 _ _ _)).mono (show 3 * (1000 - (f + 1)) ≤ 3 * (1000 - f) by omega)
            rw [hlen] at hOL hLL hlnL c1 c2 KC KN
            rw [hlen] at k2
            have hpl : plOf l 2 = l.places.getD 2 (0, 0) := rfl
            rw [hpl] at HR2 KC
            clear hpl hC
            generalize l.places.getD 2 (0, 0) = p2 at *
            by_cases hz : o.num p2 = 0
            · have hzb : (o.num p2 == 0) = true := by rw [hz]; rfl
              rw [if_pos hz] at HR2
              have hA : ans = (4, 0, o) := (Option.some.inj HR2).symm
              subst hA
              have KR := fun (W : World) (hW : OAt w0 (w.heap.size + 1) a W o vi vm vt) => result_any hW.yat 4 0 ((hI.sz (by omega)).ok (by omega))
              clear HR HR2 hz KC hlen hop
              generalize o.num p2 = n2 at *
              go_wp2_with (go_at_call 58; go_fit KN; rintro e w1 ⟨rfl, h1⟩; have hO1 := hOL.below h1)
              apply wp_goto
              refine hJ _ _ _ _ rfl ?_
              go_wp2_with (go_at_call 66; go_fit (KR _ hO1); rintro e wz ⟨rfl, hbz⟩; have hRz := HR1.out _ _ hO1.old hbz; have z0 : wz.cell? ⟨w.heap.size, 0, none⟩ = some (.int .i64 0) := (by rw [cell_of_heap hRz]; rfl); have z1 : wz.cell? ⟨w.heap.size, 1, none⟩ = some (.int .i64 0) := (by rw [cell_of_heap hRz]; rfl); have z2 : wz.cell? ⟨w.heap.size, 2, none⟩ = some (.string ⟨#[]⟩) := (by rw [cell_of_heap hRz]; rfl); have z3 : wz.cell? ⟨w.heap.size, 3, none⟩ = some (.int .i64 0) := (by rw [cell_of_heap hRz]; rfl); have rf := frozen_of_heap hRz; have rf0 := rf 0; have rf1 := rf 1; have rf2 := rf 2; have rf3 := rf 3; clear rf)
              try rw [Exit.noGoto_ret]
              obtain ⟨e4, hB4⟩ := res_put hRz (.int .i64 4) (.int .i64 0) (.string (bs o.yd.text)) (.int .i64 o.yd.live)
              refine bodyPost_ret (results_cell Tryz.results44 _ _ _ w.heap.size [.int .i64 4, .int .i64 0, .string (bs o.yd.text), .int .i64 o.yd.live] _ rfl (fun j u hu => by rw [Nat.zero_add, cell_of_heap e4]; simpa using hu) Tryz.underlying47 rfl info_result) rfl ?_
              exact ⟨rfl, HB4.out _ _ _ hO1.old hbz hB4⟩
            · have hzb : (o.num p2 == 0) = false := by rw [beq_eq_false_iff_ne]; exact hz
              rw [if_neg hz] at HR2
              have HRn : Hid (runO q (room : Nat) f (blk.drop (k + 1)) (o.calc l) = some ans) := HR2
              have KC2 := fun W hb => KC W hb hz
              clear HR HR2 hz KC hlen hop
              generalize o.num p2 = n2 at *
              generalize o.calc l = o2 at *
              go_wp2_with (first
                | (go_at_call 58; go_fit KN; rintro e w1 ⟨rfl, h1⟩; have hln1 := (h1.block _ (lt_of_heap hlnL)).trans hlnL; have m0 : w1.cell? ⟨wr.heap.size, 0, none⟩ = _ := cell_of_heap hln1 0; have m1 : w1.cell? ⟨wr.heap.size, 1, none⟩ = _ := cell_of_heap hln1 1; have m2 : w1.cell? ⟨wr.heap.size, 2, none⟩ = _ := cell_of_heap hln1 2; have m3 : w1.cell? ⟨wr.heap.size, 3, none⟩ = _ := cell_of_heap hln1 3; have m4 : w1.cell? ⟨wr.heap.size, 4, none⟩ = _ := cell_of_heap hln1 4; have m5 : w1.cell? ⟨wr.heap.size, 5, none⟩ = _ := cell_of_heap hln1 5; simp at m0 m1 m2 m3 m4 m5)
                | (go_at_call 59; go_fit (KC2 _ h1); rintro e w2 ⟨rfl, hO2, r2⟩))
              go_roundg (blk.length - (k + 1))
              case measure => omega
              case rel => exact ⟨k + 1, f, b', by omega, by omega, by go_num, rfl, by go_num, o2, vi, vm, vt, hO2, hI2, .inl ⟨HN.out _ HRn.out, HRn.out⟩⟩
          ·
            have b6 : (((l.op : Nat) : Int) == 6) = false := by rw [beq_eq_false_iff_ne]; omega
            have b9 : (((l.op : Nat) : Int) == 9) = true := by rw [beq_iff_eq]; omega
            have b18 : (((l.op : Nat) : Int) == 18) = false := by rw [beq_eq_false_iff_ne]; omega
            have b19 : (((l.op : Nat) : Int) == 19) = false := by rw [beq_eq_false_iff_ne]; omega
            have b20 : (((l.op : Nat) : Int) == 20) = false := by rw [beq_eq_false_iff_ne]; omega
            have b22 : (((l.op : Nat) : Int) == 22) = false := by rw [beq_eq_false_iff_ne]; omega
            have hlen : l.places.length = 2 := by rw [hl.plen, hop]; rfl
            obtain ⟨g, rfl, hcp, hg, -, -⟩ := place_at hLL hlen 0 (by omega)
            have hx0 := (hl.places (l.places.getD 0 (0, 0)) (by simp [hlen])).1
            have hx1 := (hl.places (l.places.getD 1 (0, 0)) (by simp [hlen])).1
            have PC : Hid (∀ W, Below w0.heap.size w0 W → W.cell? ⟨g, 0, none⟩ = some (.int .i64 ((l.places.getD 0 (0, 0)).1 : Nat)) ∧ W.cell? ⟨g, 1, none⟩ = some (.int .i64 ((l.places.getD 0 (0, 0)).2 : Nat)) ∧ W.cell? ⟨g, 2, none⟩ = some (.int .i64 ((l.places.getD 1 (0, 0)).1 : Nat)) ∧ W.cell? ⟨g, 3, none⟩ = some (.int .i64 ((l.places.getD 1 (0, 0)).2 : Nat))) := fun W hW => by
              have hp := (HL W hW).2.places
              exact ⟨(place_of hp (j := 0) (by omega)).1, (place_of hp (j := 0) (by omega)).2, (place_of hp (j := 1) (by omega)).1, (place_of hp (j := 1) (by omega)).2⟩
            have HR2 := HR.out
            rw [runO, if_neg (by omega), if_pos hop] at HR2
            have e0 : plOf l 0 = l.places.getD 0 (0, 0) := rfl
            have e1 : plOf l 1 = l.places.getD 1 (0, 0) := rfl
            rw [e0, e1] at HR2
            obtain ⟨c0, c1, c2, c3⟩ := PC.out _ hOL.old
            rw [hlen] at hOL hLL hlnL c0 c1 c2 c3
            rw [hlen] at k2
            clear e0 e1 HR hop
            generalize l.places.getD 0 (0, 0) = p0 at *
            generalize l.places.getD 1 (0, 0) = p1 at *
            have hbP : Below (wr.alloc (.cells #[.int .i64 (l.num : Nat), .int .i64 (l.op : Nat), .slice (some ⟨g, 0, none⟩) 2 cp, .int .i64 l.number, .int .i64 l.flag, .slice an l.next.length cn] 115)).heap.size (wr.alloc (.cells #[.int .i64 (l.num : Nat), .int .i64 (l.op : Nat), .slice (some ⟨g, 0, none⟩) 2 cp, .int .i64 l.number, .int .i64 l.flag, .slice an l.next.length cn] 115)) ((wr.alloc (.cells #[.int .i64 (l.num : Nat), .int .i64 (l.op : Nat), .slice (some ⟨g, 0, none⟩) 2 cp, .int .i64 l.number, .int .i64 l.flag, .slice an l.next.length cn] 115)).alloc (.cells #[.int .i64 (p0.1 : Nat), .int .i64 (p0.2 : Nat)] 119)) := (Below.refl _ _).alloc (Nat.le_refl _) _
            have hOP := hOL.below hbP
            have KD := drop_any hOP (place_one (wr.alloc (.cells #[.int .i64 (l.num : Nat), .int .i64 (l.op : Nat), .slice (some ⟨g, 0, none⟩) 2 cp, .int .i64 l.number, .int .i64 l.flag, .slice an l.next.length cn] 115)) p0 (n := wr.heap.size + 1) (by simp)) (fun y hy => by simp only [List.mem_singleton] at hy; subst hy; omega) (by simp) hI.bx (hI.sz (by omega)) (by simp; omega) hpw0 (by omega)
            have hI1 := hI.drop [p0] (by simp; omega)
            have hnum1 : (o.drop [p0]).num p1 = o.num p1 := by unfold Own.num; rw [(drop_parts [p0] o).2.1]
            have HNW : Hid (o.num p1 = (o.drop [p0]).num p1) := hnum1.symm
            rw [HNW.out] at HR2
            clear hlen hnum1 HNW
            generalize o.drop [p0] = o1 at *
            by_cases hfl : o1.yd.live ≥ (room : Nat)
            · rw [if_pos hfl] at HR2
              have hA : ans = (3, 0, o1) := (Option.some.inj HR2).symm
              subst hA
              have KR := fun (W : World) (vm vt : Value) (hW : OAt w0 (w.heap.size + 1) a W o1 vi vm vt) => result_any hW.yat 3 0 ((hI1.sz (by simp; omega)).ok (by simp; omega))
              have hfb : decide ((room : Int) ≤ o1.yd.live) = true := decide_eq_true hfl
              clear HR2
              go_wp2_with (go_at_call 60; go_fit KD; rintro e w2 ⟨rfl, vm2, vt2, hO2, r2⟩; obtain ⟨f0, f1, f2, -⟩ := hO2.yat.facts)
              apply wp_goto
              refine hJ _ _ _ _ rfl ?_
              go_wp2_with (go_at_call 66; go_fit (KR _ _ _ hO2); rintro e wz ⟨rfl, hbz⟩; have hRz := HR1.out _ _ hO2.old hbz; have z0 : wz.cell? ⟨w.heap.size, 0, none⟩ = some (.int .i64 0) := (by rw [cell_of_heap hRz]; rfl); have z1 : wz.cell? ⟨w.heap.size, 1, none⟩ = some (.int .i64 0) := (by rw [cell_of_heap hRz]; rfl); have z2 : wz.cell? ⟨w.heap.size, 2, none⟩ = some (.string ⟨#[]⟩) := (by rw [cell_of_heap hRz]; rfl); have z3 : wz.cell? ⟨w.heap.size, 3, none⟩ = some (.int .i64 0) := (by rw [cell_of_heap hRz]; rfl); have rf := frozen_of_heap hRz; have rf0 := rf 0; have rf1 := rf 1; have rf2 := rf 2; have rf3 := rf 3; clear rf)
              try rw [Exit.noGoto_ret]
              obtain ⟨e4, hB4⟩ := res_put hRz (.int .i64 3) (.int .i64 0) (.string (bs o1.yd.text)) (.int .i64 o1.yd.live)
              refine bodyPost_ret (results_cell Tryz.results44 _ _ _ w.heap.size [.int .i64 3, .int .i64 0, .string (bs o1.yd.text), .int .i64 o1.yd.live] _ rfl (fun j u hu => by rw [Nat.zero_add, cell_of_heap e4]; simpa using hu) Tryz.underlying47 rfl info_result) rfl ?_
              exact ⟨rfl, HB4.out _ _ _ hO2.old hbz hB4⟩
            · rw [if_neg hfl] at HR2
              have HRn : Hid (runO q (room : Nat) f (blk.drop (k + 1)) (o1.new p0 (o1.num p1)) = some ans) := HR2
              have hI2 := (hI1.new (by simp; omega) p0 (hI1.num p1)).mono (show 3 * (1000 - (f + 1)) + [p0].length + 1 ≤ 3 * (1000 - f) by simp; omega)
              have hfb : decide ((room : Int) ≤ o1.yd.live) = false := decide_eq_false hfl
              have hfl' : o1.yd.live < (room : Int) := by omega
              clear HR2 hfl
              have hok1 : o1.yd.Ok := (hI1.sz (by simp; omega)).ok (by simp; omega)
              go_upto_region 18 with (go_at_call 60; go_fit KD; rintro e w2 ⟨rfl, vm2, vt2, hO2, r2⟩; obtain ⟨f0, f1, f2, -⟩ := hO2.yat.facts)
              have hO2d := hO2.drew
              have hr0 : Roam (w.heap.size + 1) vm2 vt2 w2 vm2 vt2 w2.drew := Roam.of (drewed w2)
              obtain ⟨d0, d1, d2, d3⟩ := PC.out _ hO2.old
              have hsl : slotQ p0 < 24 := by unfold slotQ; split <;> omega
              have hsi : (slotQ p0 : Int) < 24 := by omega
              have hnm : isI64 (o1.num p1) := hI1.num p1
              have KS := fun (W : World) => slot_any p0 W (by omega)
              have KN := fun (W : World) (hW : OAt w0 (w.heap.size + 1) a W o1 vi vm2 vt2) => number_any hW p1 (by omega)
              have KB := fun (W : World) (hW : OAt w0 (w.heap.size + 1) a W o1 vi vm2 vt2) => build_any hW.yat (o1.num p1) (hpw0.below hW.old (by omega)) hok1 (by omega)
              have hgx : g ≠ w.heap.size + 1 := fun e => by
                have h1 := hO2.yat.blk
                rw [← e] at h1
                exact own_at_ne (HL _ hO2.old).2.places h1 (by decide) rfl
              have hxg : w.heap.size + 1 ≠ g := fun e => hgx e.symm
              have hE : Hid (({ o1 with yd := o1.yd.build (o1.num p1), boxes := o1.boxes.set (slotQ p0) (o1.yd.made.length + 1) } : Own) = o1.new p0 (o1.num p1)) := rfl
              clear KD hok1
              generalize o1.num p1 = n1 at *
              generalize slotQ p0 = sl at *
              go_region_held3 (fun W => W.cell? ⟨g, 0, none⟩ = some (.int .i64 (p0.1 : Nat)) ∧ W.cell? ⟨g, 1, none⟩ = some (.int .i64 (p0.2 : Nat)) ∧ W.cell? ⟨g, 2, none⟩ = some (.int .i64 (p1.1 : Nat)) ∧ W.cell? ⟨g, 3, none⟩ = some (.int .i64 (p1.2 : Nat))) (go_keep)
                (first
                | (go_at_call 62; go_fit (KS wB); rintro e w6 ⟨rfl, h6⟩; have hF2 := hF.below h6; have rF2 := rF.trans (Roam.of h6); obtain ⟨x0, x1, x2, x3⟩ := PC.out _ hF2.old; obtain ⟨i1, i2⟩ := hF2.bx (j := sl) hsl; have hZ := hF2; have rZ := rF2)
                | (go_at_call 62; go_fit (KS wN); rintro e w5 ⟨rfl, h5⟩; have hOC := hON.below h5; have rC := rN.trans (Roam.of h5); obtain ⟨x0, x1, x2, x3⟩ := PC.out _ hOC.old)
                | (go_at_call 62; go_fit (KS w2.drew); rintro e wS ⟨rfl, h5⟩; have hOS := hO2d.below h5; have rS := hr0.trans (Roam.of h5); obtain ⟨x0, x1, x2, x3⟩ := PC.out _ hOS.old)
                | (go_at_call 58; go_fit (KN _ hOS); rintro e w4 ⟨rfl, h4⟩; have hOC := hOS.below h4; have rC := rS.trans (Roam.of h4); obtain ⟨y0, y1, y2, y3⟩ := PC.out _ hOC.old)
                | (go_at_call 58; go_fit (KN _ hO2d); rintro e wN ⟨rfl, h4⟩; have hON := hO2d.below h4; have rN := hr0.trans (Roam.of h4); obtain ⟨y0, y1, y2, y3⟩ := PC.out _ hON.old)
                | (go_at_call 61; go_fit (KB _ hOC); rintro e wC ⟨rfl, vm3, vt3, hy3, r3⟩; have hZ := hOC.yard hy3 r3; have rZ := rC.trans r3; obtain ⟨z0, z1, z2, z3⟩ := PC.out _ hZ.old; obtain ⟨i1, i2⟩ := hZ.bx (j := sl) hsl)
                | (go_at_call 61; go_fit (KB _ hON); rintro e wB ⟨rfl, vm3, vt3, hy3, r3⟩; have hF := hON.yard hy3 r3; have rF := rN.trans r3; obtain ⟨z0, z1, z2, z3⟩ := PC.out _ hF.old; obtain ⟨i1, i2⟩ := hF.bx (j := sl) hsl))
              all_goals go_wp2_with fail
              all_goals
                obtain ⟨h7, r7⟩ := hZ.setBx sl (o1.yd.made.length + 1)
                have h8 := h7
                rw [hE.out] at h8
                go_roundg (blk.length - (k + 1))
                case measure => omega
                case rel => exact ⟨k + 1, f, b', by omega, by omega, by go_num, rfl, by go_num, o1.new p0 n1, vi, vm3, vt3, h8, hI2, .inl ⟨HN.out _ HRn.out, HRn.out⟩⟩
          ·
            have b6 : (((l.op : Nat) : Int) == 6) = false := by rw [beq_eq_false_iff_ne]; omega
            have b9 : (((l.op : Nat) : Int) == 9) = false := by rw [beq_eq_false_iff_ne]; omega
            have b18 : (((l.op : Nat) : Int) == 18) = true := by rw [beq_iff_eq]; omega
            have b19 : (((l.op : Nat) : Int) == 19) = false := by rw [beq_eq_false_iff_ne]; omega
            have b20 : (((l.op : Nat) : Int) == 20) = false := by rw [beq_eq_false_iff_ne]; omega
            have b22 : (((l.op : Nat) : Int) == 22) = false := by rw [beq_eq_false_iff_ne]; omega
            have HR2 := HR.out
            rw [runO, if_neg (by omega), if_neg (by omega), if_pos (by omega)] at HR2
            have hnil : blk.drop (k + 1) = [] := by
              by_cases hnl : blk.drop (k + 1) = []
              · exact hnl
              · rw [if_neg hnl] at HR2; cases HR2
            have hk1 : k + 1 = blk.length := by have := List.drop_eq_nil_iff.mp hnil; omega
            rw [if_pos hnil] at HR2
            have hnx : (if o.other l then 1 else 0) < l.next.length := by
              have h1 : l.next.length = 1 := by rw [hl.nlen, hop]; rfl
              rw [h1]
              have ho : o.other l = false := (by rw [Own.other, if_neg (by omega), if_neg (by omega)]); rw [ho]; decide
            have KX := next_any hOL hLL hl hls (.inl hop) hnx
            have hbn : l.next.getD (if o.other l then 1 else 0) 0 < q.blocks.length := hl.next _ (by rw [List.getD_eq_getElem?_getD, List.getElem?_eq_getElem hnx]; exact List.getElem_mem _)
            have HRn : Hid (runO q (room : Nat) f (q.blocks.getD (l.next.getD (if o.other l then 1 else 0) 0) []) o = some ans) := HR2
            have hI2 := hI.mono (show 3 * (1000 - (f + 1)) ≤ 3 * (1000 - f) by omega)
            clear HR HR2 hnil hnx hop
            generalize l.next.getD (if o.other l then 1 else 0) 0 = bn at *
            go_wp2_with (go_at_call 63; go_fit KX; rintro e w1 ⟨rfl, h1⟩)
            go_roundg (blk.length - (k + 1))
            case measure => omega
            case rel => exact ⟨k + 1, f, bn, by omega, by omega, by go_num, rfl, by go_num, o, vi, vm, vt, hOL.below h1, hI2, .inr ⟨hk1, hbn, HRn.out⟩⟩
          ·
            have b6 : (((l.op : Nat) : Int) == 6) = false := by rw [beq_eq_false_iff_ne]; omega
            have b9 : (((l.op : Nat) : Int) == 9) = false := by rw [beq_eq_false_iff_ne]; omega
            have b18 : (((l.op : Nat) : Int) == 18) = false := by rw [beq_eq_false_iff_ne]; omega
            have b19 : (((l.op : Nat) : Int) == 19) = true := by rw [beq_iff_eq]; omega
            have b20 : (((l.op : Nat) : Int) == 20) = false := by rw [beq_eq_false_iff_ne]; omega
            have b22 : (((l.op : Nat) : Int) == 22) = false := by rw [beq_eq_false_iff_ne]; omega
            have HR2 := HR.out
            rw [runO, if_neg (by omega), if_neg (by omega), if_pos (by omega)] at HR2
            have hnil : blk.drop (k + 1) = [] := by
              by_cases hnl : blk.drop (k + 1) = []
              · exact hnl
              · rw [if_neg hnl] at HR2; cases HR2
            have hk1 : k + 1 = blk.length := by have := List.drop_eq_nil_iff.mp hnil; omega
            rw [if_pos hnil] at HR2
            have hnx : (if o.other l then 1 else 0) < l.next.length := by
              have h1 : l.next.length = 2 := by rw [hl.nlen, hop]; rfl
              rw [h1]
              split <;> omega
            have KX := next_any hOL hLL hl hls (.inr (.inl hop)) hnx
            have hbn : l.next.getD (if o.other l then 1 else 0) 0 < q.blocks.length := hl.next _ (by rw [List.getD_eq_getElem?_getD, List.getElem?_eq_getElem hnx]; exact List.getElem_mem _)
            have HRn : Hid (runO q (room : Nat) f (q.blocks.getD (l.next.getD (if o.other l then 1 else 0) 0) []) o = some ans) := HR2
            have hI2 := hI.mono (show 3 * (1000 - (f + 1)) ≤ 3 * (1000 - f) by omega)
            clear HR HR2 hnil hnx hop
            generalize l.next.getD (if o.other l then 1 else 0) 0 = bn at *
            go_wp2_with (go_at_call 63; go_fit KX; rintro e w1 ⟨rfl, h1⟩)
            go_roundg (blk.length - (k + 1))
            case measure => omega
            case rel => exact ⟨k + 1, f, bn, by omega, by omega, by go_num, rfl, by go_num, o, vi, vm, vt, hOL.below h1, hI2, .inr ⟨hk1, hbn, HRn.out⟩⟩
          ·
            have b6 : (((l.op : Nat) : Int) == 6) = false := by rw [beq_eq_false_iff_ne]; omega
            have b9 : (((l.op : Nat) : Int) == 9) = false := by rw [beq_eq_false_iff_ne]; omega
            have b18 : (((l.op : Nat) : Int) == 18) = false := by rw [beq_eq_false_iff_ne]; omega
            have b19 : (((l.op : Nat) : Int) == 19) = false := by rw [beq_eq_false_iff_ne]; omega
            have b20 : (((l.op : Nat) : Int) == 20) = true := by rw [beq_iff_eq]; omega
            have b22 : (((l.op : Nat) : Int) == 22) = false := by rw [beq_eq_false_iff_ne]; omega
            have HR2 := HR.out
            rw [runO, if_neg (by omega), if_neg (by omega), if_pos (by omega)] at HR2
            have hnil : blk.drop (k + 1) = [] := by
              by_cases hnl : blk.drop (k + 1) = []
              · exact hnl
              · rw [if_neg hnl] at HR2; cases HR2
            have hk1 : k + 1 = blk.length := by have := List.drop_eq_nil_iff.mp hnil; omega
            rw [if_pos hnil] at HR2
            have hnx : (if o.other l then 1 else 0) < l.next.length := by
              have h1 : l.next.length = 2 := by rw [hl.nlen, hop]; rfl
              rw [h1]
              split <;> omega
            have KX := next_any hOL hLL hl hls (.inr (.inr hop)) hnx
            have hbn : l.next.getD (if o.other l then 1 else 0) 0 < q.blocks.length := hl.next _ (by rw [List.getD_eq_getElem?_getD, List.getElem?_eq_getElem hnx]; exact List.getElem_mem _)
            have HRn : Hid (runO q (room : Nat) f (q.blocks.getD (l.next.getD (if o.other l then 1 else 0) 0) []) o = some ans) := HR2
            have hI2 := hI.mono (show 3 * (1000 - (f + 1)) ≤ 3 * (1000 - f) by omega)
            clear HR HR2 hnil hnx hop
            generalize l.next.getD (if o.other l then 1 else 0) 0 = bn at *
            go_wp2_with (go_at_call 63; go_fit KX; rintro e w1 ⟨rfl, h1⟩)
            go_roundg (blk.length - (k + 1))
            case measure => omega
            case rel => exact ⟨k + 1, f, bn, by omega, by omega, by go_num, rfl, by go_num, o, vi, vm, vt, hOL.below h1, hI2, .inr ⟨hk1, hbn, HRn.out⟩⟩
          ·
            have b6 : (((l.op : Nat) : Int) == 6) = false := by rw [beq_eq_false_iff_ne]; omega
            have b9 : (((l.op : Nat) : Int) == 9) = false := by rw [beq_eq_false_iff_ne]; omega
            have b18 : (((l.op : Nat) : Int) == 18) = false := by rw [beq_eq_false_iff_ne]; omega
            have b19 : (((l.op : Nat) : Int) == 19) = false := by rw [beq_eq_false_iff_ne]; omega
            have b20 : (((l.op : Nat) : Int) == 20) = false := by rw [beq_eq_false_iff_ne]; omega
            have b22 : (((l.op : Nat) : Int) == 22) = true := by rw [beq_iff_eq]; omega
            have hlen : l.places.length = 1 := by rw [hl.plen, hop]; rfl
            obtain ⟨g, rfl, hcp, hg, c1, c2⟩ := place_at hLL hlen 0 (by omega)
            have hx := (hl.places (l.places.getD 0 (0, 0)) (by simp [hlen])).1
            have hl0 : 0 < q.locals.length := by omega
            have HR2 := HR.out
            rw [runO, if_neg (by omega), if_neg (by omega), if_neg (by omega), if_pos hop] at HR2
            have KN := number_any hOL (l.places.getD 0 (0, 0)) (by omega)
            rw [hlen] at hOL hLL hlnL c1 c2 KN
            rw [hlen] at k2
            have hA : ans = (1, o.num (l.places.getD 0 (0, 0)), o.dropAll q q.locals.length) := (Option.some.inj HR2).symm
            have HA : Hid (ans = (1, o.num (l.places.getD 0 (0, 0)), o.dropAll q q.locals.length)) := hA
            clear hA
            have KA := fun (W : World) (hW : OAt w0 (w.heap.size + 1) a W o vi vm vt) => dropAll_any hW ⟨hP0.blk, ⟨_, hP0.locals⟩⟩ hl0 hls hI (by omega) hpw0 (by omega)
            have hI2 := hI.dropAll q q.locals.length (by omega)
            have KR := fun (n : Int) (W : World) (vm vt : Value) (hW : OAt w0 (w.heap.size + 1) a W (o.dropAll q q.locals.length) vi vm vt) => result_any hW.yat 1 n ((hI2.sz (by omega)).ok (by omega))
            clear HR HR2 hlen hop
            generalize l.places.getD 0 (0, 0) = p0 at *
            generalize o.num p0 = n0 at *
            generalize o.dropAll q q.locals.length = o2 at *
            go_wp2_with (first
              | (go_at_call 58; go_fit KN; rintro e w1 ⟨rfl, h1⟩; have hO1 := hOL.below h1)
              | (go_at_call 64; go_fit (KA _ hO1); rintro e w2 ⟨rfl, vm2, vt2, hO2, r2⟩))
            apply wp_goto
            refine hJ _ _ _ _ rfl ?_
            go_wp2_with (go_at_call 66; go_fit (KR _ _ _ _ hO2); rintro e wz ⟨rfl, hbz⟩; have hRz := HR1.out _ _ hO2.old hbz; have z0 : wz.cell? ⟨w.heap.size, 0, none⟩ = some (.int .i64 0) := (by rw [cell_of_heap hRz]; rfl); have z1 : wz.cell? ⟨w.heap.size, 1, none⟩ = some (.int .i64 0) := (by rw [cell_of_heap hRz]; rfl); have z2 : wz.cell? ⟨w.heap.size, 2, none⟩ = some (.string ⟨#[]⟩) := (by rw [cell_of_heap hRz]; rfl); have z3 : wz.cell? ⟨w.heap.size, 3, none⟩ = some (.int .i64 0) := (by rw [cell_of_heap hRz]; rfl); have rf := frozen_of_heap hRz; have rf0 := rf 0; have rf1 := rf 1; have rf2 := rf 2; have rf3 := rf 3; clear rf)
            try rw [Exit.noGoto_ret]
            obtain ⟨e4, hB4⟩ := res_put hRz (.int .i64 1) (.int .i64 n0) (.string (bs o2.yd.text)) (.int .i64 o2.yd.live)
            refine bodyPost_ret (results_cell Tryz.results44 _ _ _ w.heap.size [.int .i64 1, .int .i64 n0, .string (bs o2.yd.text), .int .i64 o2.yd.live] _ rfl (fun j u hu => by rw [Nat.zero_add, cell_of_heap e4]; simpa using hu) Tryz.underlying47 rfl info_result) rfl ?_
            exact ⟨by rw [HA.out]; rfl, HB4.out _ _ _ hO2.old hbz hB4⟩
      · have hk : k = blk.length := by omega
        subst hk
        obtain ⟨o, vi, vm, vt, hO, hI, hcs⟩ := hst.out
        have hcs2 : b' < q.blocks.length ∧ Hid (runO q (room : Nat) f (q.blocks.getD b' []) o = some ans) := by
          rcases hcs with ⟨h, -⟩ | ⟨-, h1, h2⟩
          · omega
          · exact ⟨h1, h2⟩
        clear hst hcs
        go_wp2
        go_roundg (f + 1)
        case measure => omega
        case rel => exact ⟨f, b', rfl, by omega, rfl, rfl, hcs2.1, o, vi, vm, vt, hO, hI, hcs2.2.out⟩
end
end Go.Proofs.YtmlgajhhnojdjaaGreatDoor.Own
