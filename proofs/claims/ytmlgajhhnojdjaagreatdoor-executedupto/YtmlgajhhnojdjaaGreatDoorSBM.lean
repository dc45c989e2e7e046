/- The project's bare machine: a run. -/
import Derived.Test.YtmlgajhhnojdjaaGreatDoorSBJ
import Derived.Test.YtmlgajhhnojdjaaGreatDoorSBL
namespace Go.Proofs.YtmlgajhhnojdjaaGreatDoor.Ex
open Go Go.RowKit Go.Proofs.YtmlgajhhnojdjaaGreatDoor.Spec Go.Proofs.YtmlgajhhnojdjaaGreatDoor.Aux Go.Proofs.YtmlgajhhnojdjaaGreatDoor.PrjJ Go.Proofs.YtmlgajhhnojdjaaGreatDoor.PrjK Go.Proofs.YtmlgajhhnojdjaaGreatDoor.PrjL Go.Proofs.YtmlgajhhnojdjaaGreatDoor.PrjM Go.Proofs.YtmlgajhhnojdjaaGreatDoor.PrjQ Go.Proofs.YtmlgajhhnojdjaaGreatDoor.PrjS Go.Proofs.YtmlgajhhnojdjaaGreatDoor.PrjT Go.Proofs.YtmlgajhhnojdjaaGreatDoor.FlwA Go.Proofs.YtmlgajhhnojdjaaGreatDoor.FlwB Go.Proofs.YtmlgajhhnojdjaaGreatDoor.FlwD Go.Proofs.YtmlgajhhnojdjaaGreatDoor.FlwE Go.Proofs.YtmlgajhhnojdjaaGreatDoor.FlwM Go.Proofs.YtmlgajhhnojdjaaGreatDoor.Own Go.Proofs.YtmlgajhhnojdjaaGreatDoor.RunB
attribute [local go_sem ↓] wp_build_bare wp_alloc_bare wp_store_bare
attribute [local go_sem] jumpTo_normal jumpTo_exit jumpTo_ret jumpTo_panic jumpTo_goto

def resB (r : Nat × Int × Br) : Value := .agg #[.int .i64 ((r.1 : Nat) : Int), .int .i64 r.2.1, .string (bs r.2.2.yd.text), .int .i64 r.2.2.yd.live]
theorem bat_start {w : World} {a : Nat} {vi : Value} {inp : List Int} (hf : FeedAt w vi inp) (u v : Value) : BAt w w.heap.size a ((w.alloc (.cells (bareCells u v).toArray 136)).setCells w.heap.size 0 (bareCells (.pointer (some ⟨a, 0, none⟩)) vi)) (Br.start inp) vi (.slice none 0 0) (.slice none 0 0) := by
  obtain ⟨h1, h2⟩ := bare_new w u v (.pointer (some ⟨a, 0, none⟩)) vi
  exact ⟨⟨Nat.le_refl _, .inr rfl, h1, World.ownsRow_nil _ _ _ _, World.ownsRow_nil _ _ _ _⟩, h2, by simp [Br.start], by simp [Br.start], hf⟩
section
variable {a : Nat} {w : World} {q : QP}
set_option maxRecDepth 20000 in
set_option maxHeartbeats 8000000 in
theorem Exec_any {z : Nat} {vl vb : Value} {us : List Value} {vss : List (List (Value × Value))} (h : PAt z a w q vl vb us vss) (vi : Value) (inp : List Int) (hf : FeedAt w vi inp) (hinp : ∀ n ∈ inp, isI64 n) (fuel room : Nat) (hfu : fuel ≤ 200000)
    (hb0 : 0 < q.blocks.length) (hls : q.locals.length ≤ 12) (hq : QOk q.blocks.length q) (hlines : ∀ j, (q.blocks.getD j []).length ≤ 4000) (hrok : ∀ j, ∀ l ∈ q.blocks.getD j [], RLn q l) (hpw : Pow w) (h11 : 11 ≤ w.heap.size)
    {ans : Nat × Int × Br} (hans : runB q (room : Nat) fuel (q.blocks.getD 0 []) (Br.start inp) = some ans) :
    Calls Tryz.prog 49 #[.pointer (some ⟨a, 0, none⟩), vi, .int .i64 (fuel : Nat), .int .i64 (room : Nat)] w fun e w' => e = .returned (resB ans) ∧ Below w.heap.size w w' := by
  obtain ⟨w0, hw0⟩ : ∃ w0, w.alloc (.cells #[.int .i64 0, .int .i64 0, .string ⟨#[]⟩, .int .i64 0] 47) = w0 := ⟨_, rfl⟩
  have hb00 : Below w.heap.size w w0 := by rw [← hw0]; exact (Below.refl _ _).alloc (Nat.le_refl _) _
  have hs0 : w0.heap.size = w.heap.size + 1 := by rw [← hw0]; simp
  have hR0 : w0.heap[w.heap.size]? = some (.cells #[.int .i64 0, .int .i64 0, .string ⟨#[]⟩, .int .i64 0] 47 (0, 0)) := by rw [← hw0]; exact Array.getElem?_push_size
  have hP0 := h.below hb00
  have hpw0 := hpw.below hb00 h11
  have hf0 : FeedAt w0 vi inp := feed_below hf hb00 (Nat.le_refl _)
  have hO0 := bat_start (a := a) hf0 (.pointer none) (.slice none 0 0)
  have hroom := roomBare_new w0 (.pointer none) (.slice none 0 0)
  have hH : Hid (runB q (room : Nat) fuel (q.blocks.getD 0 []) (Br.start inp) = some ans) := hans
  obtain ⟨ad, c, rfl, -⟩ := hf
  clear hans h hpw
  rw [hs0] at hO0 hroom
  go_enter Tryz.func49, Tryz.ntmps49
  go_wp2
  try rw [hw0]
  refine wp_scope_to ?_
  intro J hJ
  go_upto_region 2 with fail
  clear hroom hw0 hf0
  generalize ((w0.alloc (Obj.cells (bareCells (Value.pointer none) (Value.slice none 0 0)).toArray 136)).setCells (w.heap.size + 1) 0 (bareCells (Value.pointer (some { block := a, off := 0 })) (Value.slice ad inp.length c))) = W0 at *
  have hI0 := (Br.In.start hinp).mono (Nat.zero_le (200000 - fuel))
  have hst : Hid (∃ b vi vm vt, BAt w0 (w.heap.size + 1) a W0 b vi vm vt ∧ b.In (200000 - fuel) ∧ Held q b ∧ runB q (room : Nat) fuel (q.blocks.getD 0 []) b = some ans) := ⟨_, _, _, _, hO0, hI0, start_held q inp, hH.out⟩
  clear hO0 hI0 hH
  go_wp2
  go_loopg [2, 11] (fuel + 1) (fun g v2 v11 wr => ∃ (f n : Nat), g = f + 1 ∧ f ≤ 200000 ∧ v2 = .int .i64 f ∧ v11 = .int .i64 n ∧ n < q.blocks.length ∧ Hid (∃ b vi vm vt, BAt w0 (w.heap.size + 1) a wr b vi vm vt ∧ b.In (200000 - f) ∧ Held q b ∧ runB q (room : Nat) f (q.blocks.getD n []) b = some ans))
  case atStart => exact ⟨fuel, 0, rfl, hfu, rfl, rfl, hb0, hst⟩
  case round =>
    obtain ⟨f0, n, hg, hf0, rfl, rfl, hb, hst⟩ := hrel
    obtain ⟨gb, cb, adk, ck, rfl, hcb, hbc, hBA⟩ := block_of hP0 hb
    have hbi : (n : Int) < (q.blocks.length : Nat) := by omega
    have hold : Below w0.heap.size w0 wr := by obtain ⟨b, vi, vm, vt, h1, -⟩ := hst.out; exact h1.old
    obtain ⟨p0, p1, -, -⟩ := PAt.facts (hP0.below hold)
    have hcell := hbc wr hold
    have hln := hlines n
    have hok : ∀ l ∈ q.blocks.getD n [], LOk q.locals.length q.blocks.length l := hq.lines _ (by simp [hb])
    have hrk : ∀ l ∈ q.blocks.getD n [], RLn q l := hrok n
    generalize hblk : q.blocks.getD n [] = blk at *
    clear hblk hbc
    generalize vss.getD n [] = vsj at *
    have hne : 0 < blk.length := by
      obtain ⟨b, vi, vm, vt, -, -, -, h3⟩ := hst.out
      cases blk with
      | nil => cases f0 <;> simp [runB] at h3
      | cons _ _ => simp
    have HD : Hid (∀ k, k < blk.length → blk.drop k = blk.getD k QLine.nil :: blk.drop (k + 1)) := fun k hk => by rw [List.drop_eq_getElem_cons hk]; simp [hk]
    have HR1 : Hid (∀ W W', Below w0.heap.size w0 W → Below W.heap.size W W' → W'.heap[w.heap.size]? = some (.cells #[.int .i64 0, .int .i64 0, .string ⟨#[]⟩, .int .i64 0] 47 (0, 0))) := fun W W' h1 h2 => by
      have hs := h1.size
      rw [h2.block _ (by omega), h1.block _ (by omega)]; exact hR0
    go_wp2
    go_loopg [2, 11, 26] (blk.length) (fun g v2 v11 v26 wn => ∃ (k f b' : Nat), g + k = blk.length ∧ f + k = f0 ∧ v2 = .int .i64 f ∧ v11 = .int .i64 b' ∧ v26 = .int .i64 k ∧ Hid (∃ b vi vm vt, BAt w0 (w.heap.size + 1) a wn b vi vm vt ∧ b.In (200000 - f) ∧ Held q b ∧ ((k < blk.length ∧ runB q (room : Nat) f (blk.drop k) b = some ans) ∨ (k = blk.length ∧ b' < q.blocks.length ∧ runB q (room : Nat) f (q.blocks.getD b' []) b = some ans))))
    case atStart =>
      obtain ⟨b, vi, vm, vt, h1, h2, h4, h3⟩ := hst.out
      exact ⟨0, f0, n, rfl, rfl, rfl, rfl, rfl, b, vi, vm, vt, h1, h2, h4, .inl ⟨hne, h3⟩⟩
    case round =>
      obtain ⟨k, f, b', hgk, hfk, rfl, rfl, rfl, hst⟩ := hrel
      clear p0 p1 hcell hold
      by_cases hk : k < blk.length
      · obtain ⟨b, vi, vm, vt, hO, hI, hH, hcs⟩ := hst.out
        have HR : Hid (runB q (room : Nat) f (blk.getD k QLine.nil :: blk.drop (k + 1)) b = some ans) := by
          rcases hcs with ⟨-, h⟩ | ⟨h, -⟩
          · rw [HD.out k hk] at h; exact h
          · omega
        clear hcs hst
        obtain ⟨gl, apl, cp, an, cn, rfl, -, hcl, HL⟩ := line_of hBA hk
        have hmem : blk.getD k QLine.nil ∈ blk := by simp [hk]
        have hl := hok _ hmem
        have hr := hrk _ hmem
        have hki : (k : Int) < (blk.length : Nat) := by omega
        generalize blk.getD k QLine.nil = l at *
        obtain ⟨k0, k1, k2, k3, k4, k5⟩ := (HL _ hO.old).1
        have hbL : Below wr.heap.size wr (wr.alloc (.cells #[.int .i64 (l.num : Nat), .int .i64 (l.op : Nat), .slice apl l.places.length cp, .int .i64 l.number, .int .i64 l.flag, .slice an l.next.length cn] 115)) := (Below.refl _ _).alloc (Nat.le_refl _) _
        have hOL := hO.below hbL
        have hLL := (HL w0 (Below.refl _ _)).2
        have hPQ : PQ w0 a q _ _ := ⟨hP0.blk, ⟨_, hP0.locals⟩⟩
        have hlnL : (wr.alloc (.cells #[.int .i64 (l.num : Nat), .int .i64 (l.op : Nat), .slice apl l.places.length cp, .int .i64 l.number, .int .i64 l.flag, .slice an l.next.length cn] 115)).heap[wr.heap.size]? = some (.cells #[.int .i64 (l.num : Nat), .int .i64 (l.op : Nat), .slice apl l.places.length cp, .int .i64 l.number, .int .i64 l.flag, .slice an l.next.length cn] 115 (0, 0)) := Array.getElem?_push_size
        clear hmem hbL
        have HB4 : Hid (∀ W W' W'', Below w0.heap.size w0 W → Below W.heap.size W W' → Below w.heap.size W' W'' → Below w.heap.size w W'') := fun W W' W'' h1 h2 h3 => by
          have := h1.size
          exact hb00.trans (((h1.mono (by omega)).trans (h2.mono (by omega))).trans h3)
        cases f with
        | zero =>
          have HA : Hid (ans = (2, 0, b)) := by have := HR.out; rw [runB] at this; exact (Option.some.inj this).symm
          have KR := fun (W : World) (hW : BAt w0 (w.heap.size + 1) a W b vi vm vt) => result_any hW.yat 2 0 (hI.ok (by omega))
          --<Z
          go_wp2
          apply wp_goto
          refine hJ _ _ _ _ rfl ?_
          go_wp2_with (go_at_call 66; go_fit (KR _ hOL); rintro e wz ⟨rfl, hbz⟩; have hRz := HR1.out _ _ hOL.old hbz; obtain ⟨z0, z1, z2, z3, rf0, rf1, rf2, rf3⟩ := res_facts hRz)
          try rw [Exit.noGoto_ret]
          obtain ⟨e4, hB4⟩ := res_put hRz (.int .i64 2) (.int .i64 0) (.string (bs b.yd.text)) (.int .i64 b.yd.live)
          refine bodyPost_ret (results_cell Tryz.results49 _ _ _ w.heap.size [.int .i64 2, .int .i64 0, .string (bs b.yd.text), .int .i64 b.yd.live] _ rfl (fun j u hu => by rw [Nat.zero_add, cell_of_heap e4]; simpa using hu) Tryz.underlying47 rfl info_result) rfl ?_
          exact ⟨by rw [HA.out]; rfl, HB4.out _ _ _ hOL.old hbz hB4⟩
          -->Z
        | succ f =>
          have hF0 : (((f + 1 : Nat) : Int) == 0) = false := by rw [beq_eq_false_iff_ne]; omega
          have HN : Hid (∀ o', runB q (room : Nat) f (blk.drop (k + 1)) o' = some ans → k + 1 < blk.length) := fun o' h => by
            by_cases hlt : k + 1 < blk.length
            · exact hlt
            · rw [List.drop_eq_nil_of_le (by omega)] at h; cases f <;> simp [runB] at h
          have hb10 : l.op = 11 ∨ l.op = 16 → (b.cell q (plOf l 0)).1 = true → 1 ≤ b.val q (plOf l 0) ∧ b.val q (plOf l 0) ≤ b.yd.made.length := fun e hf => by
            have hlen : 0 < l.places.length := by rcases e with e | e <;> (rw [hl.plen, e]; decide)
            have k0 := fits_at hr.fits (j := 0) hlen
            have hw : (wantsOf l.op).getD 0 0 = 112 := by rcases e with e | e <;> (rw [e]; rfl)
            rw [hw] at k0
            exact hH.fit.val (by have := (Ex.place_of hr hlen).1; omega) (box_tag k0) (kind_box k0).1 hf
          have hb11 : l.op = 10 → (b.cell q (plOf l 1)).1 = true → 1 ≤ b.val q (plOf l 1) ∧ b.val q (plOf l 1) ≤ b.yd.made.length := fun e hf => by
            have hlen : 1 < l.places.length := by rw [hl.plen, e]; decide
            have k0 := fits_at hr.fits (j := 1) hlen
            have hw : (wantsOf l.op).getD 1 0 = 112 := by rw [e]; rfl
            rw [hw] at k0
            exact hH.fit.val (by have := (Ex.place_of hr hlen).1; omega) (box_tag k0) (kind_box k0).1 hf
          have KB := breaks_any hOL hPQ hls hLL hl (hI.ok (by omega)) hr.has hb10 hb11
          clear hb10 hb11
          cases hbr : b.breaks q l
          · rw [hbr] at KB
            have HR2 := HR.out
            rw [runB, if_neg (by rw [hbr]; decide)] at HR2
            have hops : (l.op = 2 ∨ l.op = 3 ∨ l.op = 4 ∨ l.op = 5 ∨ l.op = 7 ∨ l.op = 8 ∨ l.op = 10 ∨ l.op = 11 ∨ l.op = 16 ∨ l.op = 12 ∨ l.op = 13 ∨ l.op = 14 ∨ l.op = 17) ∨ l.op = 6 ∨ l.op = 9 ∨ (l.op = 18 ∨ l.op = 19 ∨ l.op = 20 ∨ l.op = 21) ∨ l.op = 22 := by
              have o1 := hl.op; have o2 := hl.op2; have o3 := hr.has; omega
            rcases hops with hop | hop | hop | hop | hop
            ·
          --<D
              have hdl := line_held hls hr hop hbr hH
              rw [if_neg (by omega), if_neg (by omega), if_neg (by omega), if_neg (by omega)] at HR2
              have HRn : Hid (runB q (room : Nat) f (blk.drop (k + 1)) (b.do1 q l) = some ans) := HR2
              have hI2 := (hI.do1 (by omega) q hdl.1 (by have := hl.number; unfold isI64; omega)).mono (show 200000 - (f + 1) + 1 ≤ 200000 - f by omega)
              have hH2 := hdl.2
              have KD := fun (W : World) (hW : BAt w0 (w.heap.size + 1) a W b vi vm vt) => do_any hW hPQ hls hLL hl hdl.1 (hI.val q) (hI.ok (by omega)) hpw0 (by omega)
              have b6 : (((l.op : Nat) : Int) == 6) = false := by rw [beq_eq_false_iff_ne]; omega
              have b9 : (((l.op : Nat) : Int) == 9) = false := by rw [beq_eq_false_iff_ne]; omega
              have b18 : (((l.op : Nat) : Int) == 18) = false := by rw [beq_eq_false_iff_ne]; omega
              have b19 : (((l.op : Nat) : Int) == 19) = false := by rw [beq_eq_false_iff_ne]; omega
              have b20 : (((l.op : Nat) : Int) == 20) = false := by rw [beq_eq_false_iff_ne]; omega
              have b21 : (((l.op : Nat) : Int) == 21) = false := by rw [beq_eq_false_iff_ne]; omega
              have b22 : (((l.op : Nat) : Int) == 22) = false := by rw [beq_eq_false_iff_ne]; omega
              clear HR HR2 hop hbr hdl
              generalize b.do1 q l = b2 at *
              go_wp2_with (first
                | (go_at_call 73; go_fit KB; rintro e w1 ⟨rfl, h1⟩; have hO1 := hOL.below h1; have hln1 := (h1.block _ (lt_of_heap hlnL)).trans hlnL; have m0 : w1.cell? ⟨wr.heap.size, 0, none⟩ = _ := cell_of_heap hln1 0; have m1 : w1.cell? ⟨wr.heap.size, 1, none⟩ = _ := cell_of_heap hln1 1; have m2 : w1.cell? ⟨wr.heap.size, 2, none⟩ = _ := cell_of_heap hln1 2; have m3 : w1.cell? ⟨wr.heap.size, 3, none⟩ = _ := cell_of_heap hln1 3; have m4 : w1.cell? ⟨wr.heap.size, 4, none⟩ = _ := cell_of_heap hln1 4; have m5 : w1.cell? ⟨wr.heap.size, 5, none⟩ = _ := cell_of_heap hln1 5; simp at m0 m1 m2 m3 m4 m5)
                | (go_at_call 78; go_fit (KD _ hO1); rintro e w2 ⟨rfl, vi2, vm2, vt2, hO2, r2⟩))
              go_roundg (blk.length - (k + 1))
              case measure => omega
              case rel => exact ⟨k + 1, f, b', by omega, by omega, by go_num, rfl, by go_num, b2, vi2, vm2, vt2, hO2, hI2, hH2, .inl ⟨HN.out _ HRn.out, HRn.out⟩⟩
          -->D
            ·
          --<6
              have hlen : l.places.length = 3 := by rw [hl.plen, hop]; rfl
              obtain ⟨g, rfl, hcp, hg, c4, c5⟩ := place_at hLL hlen 2 (by omega)
              have hx := (hl.places (l.places.getD 2 (0, 0)) (by simp [hlen])).1
              have PC : Hid (∀ W, Below w0.heap.size w0 W → W.cell? ⟨g, 4, none⟩ = some (.int .i64 ((l.places.getD 2 (0, 0)).1 : Nat)) ∧ W.cell? ⟨g, 5, none⟩ = some (.int .i64 ((l.places.getD 2 (0, 0)).2 : Nat))) := fun W hW => ⟨(hW.cell (p := ⟨g, 4, none⟩) hg).trans c4, (hW.cell (p := ⟨g, 5, none⟩) hg).trans c5⟩
              have KV := fun (W : World) (hW : BAt w0 (w.heap.size + 1) a W b vi vm vt) => value_any hW hPQ hls (l.places.getD 2 (0, 0)) hx
              have KC := fun (W : World) (hW : BAt w0 (w.heap.size + 1) a W b vi vm vt) (hz : ¬ b.val q (l.places.getD 2 (0, 0)) = 0) => calculate_any hW hPQ hls hLL hl (.inr (.inr (.inr hop))) (fun _ => hz) (hI.val q)
              rw [if_pos hop] at HR2
              have hpl : plOf l 2 = l.places.getD 2 (0, 0) := rfl
              rw [hpl] at HR2
              have hI2 := (hI.calc q l).mono (show 200000 - (f + 1) ≤ 200000 - f by omega)
              have hH2 := calc_held hls hr hop hH
              have b6 : (((l.op : Nat) : Int) == 6) = true := by rw [beq_iff_eq]; omega
              have b9 : (((l.op : Nat) : Int) == 9) = false := by rw [beq_eq_false_iff_ne]; omega
              have b18 : (((l.op : Nat) : Int) == 18) = false := by rw [beq_eq_false_iff_ne]; omega
              have b19 : (((l.op : Nat) : Int) == 19) = false := by rw [beq_eq_false_iff_ne]; omega
              have b20 : (((l.op : Nat) : Int) == 20) = false := by rw [beq_eq_false_iff_ne]; omega
              have b21 : (((l.op : Nat) : Int) == 21) = false := by rw [beq_eq_false_iff_ne]; omega
              have b22 : (((l.op : Nat) : Int) == 22) = false := by rw [beq_eq_false_iff_ne]; omega
              rw [hlen] at hOL hlnL KB KC k2
              clear hpl
              generalize l.places.getD 2 (0, 0) = p2 at *
              by_cases hz : b.val q p2 = 0
              · have hzb : (b.val q p2 == 0) = true := by rw [hz]; rfl
                rw [if_pos hz] at HR2
                have HA : Hid (ans = (4, 0, b)) := (Option.some.inj HR2).symm
                have KR := fun (W : World) (hW : BAt w0 (w.heap.size + 1) a W b vi vm vt) => result_any hW.yat 4 0 (hI.ok (by omega))
                clear HR HR2 hz KC hlen hop hbr
                generalize b.val q p2 = n2 at *
                go_wp2_with (first
                  | (go_at_call 73; go_fit KB; rintro e w1 ⟨rfl, h1⟩; have hO1 := hOL.below h1; have hln1 := (h1.block _ (lt_of_heap hlnL)).trans hlnL; have m0 : w1.cell? ⟨wr.heap.size, 0, none⟩ = _ := cell_of_heap hln1 0; have m1 : w1.cell? ⟨wr.heap.size, 1, none⟩ = _ := cell_of_heap hln1 1; have m2 : w1.cell? ⟨wr.heap.size, 2, none⟩ = _ := cell_of_heap hln1 2; have m3 : w1.cell? ⟨wr.heap.size, 3, none⟩ = _ := cell_of_heap hln1 3; have m4 : w1.cell? ⟨wr.heap.size, 4, none⟩ = _ := cell_of_heap hln1 4; have m5 : w1.cell? ⟨wr.heap.size, 5, none⟩ = _ := cell_of_heap hln1 5; simp at m0 m1 m2 m3 m4 m5; obtain ⟨q0, q1⟩ := PC.out _ hO1.old)
                  | (go_at_call 74; go_fit (KV _ hO1); rintro e w3 ⟨rfl, h3⟩; have hO3 := hO1.below h3))
                apply wp_goto
                refine hJ _ _ _ _ rfl ?_
                go_wp2_with (go_at_call 66; go_fit (KR _ hO3); rintro e wz ⟨rfl, hbz⟩; have hRz := HR1.out _ _ hO3.old hbz; obtain ⟨z0, z1, z2, z3, rf0, rf1, rf2, rf3⟩ := res_facts hRz)
                try rw [Exit.noGoto_ret]
                obtain ⟨e4, hB4⟩ := res_put hRz (.int .i64 4) (.int .i64 0) (.string (bs b.yd.text)) (.int .i64 b.yd.live)
                refine bodyPost_ret (results_cell Tryz.results49 _ _ _ w.heap.size [.int .i64 4, .int .i64 0, .string (bs b.yd.text), .int .i64 b.yd.live] _ rfl (fun j u hu => by rw [Nat.zero_add, cell_of_heap e4]; simpa using hu) Tryz.underlying47 rfl info_result) rfl ?_
                exact ⟨by rw [HA.out]; rfl, HB4.out _ _ _ hO3.old hbz hB4⟩
              · have hzb : (b.val q p2 == 0) = false := by rw [beq_eq_false_iff_ne]; exact hz
                rw [if_neg hz] at HR2
                have HRn : Hid (runB q (room : Nat) f (blk.drop (k + 1)) (b.calc q l) = some ans) := HR2
                have KC2 := fun W hW => KC W hW hz
                clear HR HR2 hz KC hlen hop hbr
                generalize b.val q p2 = n2 at *
                generalize b.calc q l = b2 at *
                go_wp2_with (first
                  | (go_at_call 73; go_fit KB; rintro e w1 ⟨rfl, h1⟩; have hO1 := hOL.below h1; have hln1 := (h1.block _ (lt_of_heap hlnL)).trans hlnL; have m0 : w1.cell? ⟨wr.heap.size, 0, none⟩ = _ := cell_of_heap hln1 0; have m1 : w1.cell? ⟨wr.heap.size, 1, none⟩ = _ := cell_of_heap hln1 1; have m2 : w1.cell? ⟨wr.heap.size, 2, none⟩ = _ := cell_of_heap hln1 2; have m3 : w1.cell? ⟨wr.heap.size, 3, none⟩ = _ := cell_of_heap hln1 3; have m4 : w1.cell? ⟨wr.heap.size, 4, none⟩ = _ := cell_of_heap hln1 4; have m5 : w1.cell? ⟨wr.heap.size, 5, none⟩ = _ := cell_of_heap hln1 5; simp at m0 m1 m2 m3 m4 m5; obtain ⟨q0, q1⟩ := PC.out _ hO1.old)
                  | (go_at_call 74; go_fit (KV _ hO1); rintro e w3 ⟨rfl, h3⟩; have hO3 := hO1.below h3; have hln3 := (h3.block _ (lt_of_heap hln1)).trans hln1; have n0 : w3.cell? ⟨wr.heap.size, 0, none⟩ = _ := cell_of_heap hln3 0; have n1 : w3.cell? ⟨wr.heap.size, 1, none⟩ = _ := cell_of_heap hln3 1; have n2 : w3.cell? ⟨wr.heap.size, 2, none⟩ = _ := cell_of_heap hln3 2; have n3 : w3.cell? ⟨wr.heap.size, 3, none⟩ = _ := cell_of_heap hln3 3; have n4 : w3.cell? ⟨wr.heap.size, 4, none⟩ = _ := cell_of_heap hln3 4; have n5 : w3.cell? ⟨wr.heap.size, 5, none⟩ = _ := cell_of_heap hln3 5; simp at n0 n1 n2 n3 n4 n5)
                  | (go_at_call 75; go_fit (KC2 _ hO3); rintro e w4 ⟨rfl, hO2, r2⟩))
                go_roundg (blk.length - (k + 1))
                case measure => omega
                case rel => exact ⟨k + 1, f, b', by omega, by omega, by go_num, rfl, by go_num, b2, vi, vm, vt, hO2, hI2, hH2, .inl ⟨HN.out _ HRn.out, HRn.out⟩⟩
          -->6
            ·
          --<9
              have hlen : l.places.length = 2 := by rw [hl.plen, hop]; rfl
              obtain ⟨g, rfl, hcp, hg, c0, c1⟩ := place_at hLL hlen 0 (by omega)
              obtain ⟨g', e', -, -, c2, c3⟩ := place_at hLL hlen 1 (by omega)
              simp only [Option.some.injEq, Addr.mk.injEq, and_true] at e'
              subst e'
              have hx0 := (hl.places (l.places.getD 0 (0, 0)) (by simp [hlen])).1
              have hx1 := (hl.places (l.places.getD 1 (0, 0)) (by simp [hlen])).1
              have PC : Hid (∀ W, Below w0.heap.size w0 W → W.cell? ⟨g, 0, none⟩ = some (.int .i64 ((l.places.getD 0 (0, 0)).1 : Nat)) ∧ W.cell? ⟨g, 1, none⟩ = some (.int .i64 ((l.places.getD 0 (0, 0)).2 : Nat)) ∧ W.cell? ⟨g, 2, none⟩ = some (.int .i64 ((l.places.getD 1 (0, 0)).1 : Nat)) ∧ W.cell? ⟨g, 3, none⟩ = some (.int .i64 ((l.places.getD 1 (0, 0)).2 : Nat))) := fun W hW => ⟨(hW.cell (p := ⟨g, 0, none⟩) hg).trans c0, (hW.cell (p := ⟨g, 1, none⟩) hg).trans c1, (hW.cell (p := ⟨g, 2, none⟩) hg).trans c2, (hW.cell (p := ⟨g, 3, none⟩) hg).trans c3⟩
              have KV := fun (W : World) (hW : BAt w0 (w.heap.size + 1) a W b vi vm vt) => value_any hW hPQ hls (l.places.getD 1 (0, 0)) hx1
              have KU := fun (W : World) (hW : BAt w0 (w.heap.size + 1) a W b vi vm vt) => build_any hW.yat (b.val q (l.places.getD 1 (0, 0))) (hpw0.below hW.old (by omega)) (hI.ok (by omega)) (by omega)
              have KW := fun (W : World) (vm' vt' : Value) (hW : BAt w0 (w.heap.size + 1) a W { b with yd := b.yd.build (b.val q (l.places.getD 1 (0, 0))) } vi vm' vt') => write_any hW hPQ hls (l.places.getD 0 (0, 0)) hx0 ((b.yd.made.length + 1 : Nat) : Int)
              rw [if_neg (by omega), if_pos hop] at HR2
              have hI2 := (hI.new (by omega) q (plOf l 0) (hI.val q (plOf l 1))).mono (show 200000 - (f + 1) + 1 ≤ 200000 - f by omega)
              have hH2 := new_held hls hr hop (b.val q (plOf l 1)) hH
              have hNW : Hid (b.new q (plOf l 0) (b.val q (plOf l 1)) = ({ b with yd := b.yd.build (b.val q (l.places.getD 1 (0, 0))) } : Br).write q (l.places.getD 0 (0, 0)) ((b.yd.made.length + 1 : Nat) : Int)) := rfl
              rw [hNW.out] at hI2 hH2 HR2
              have hmi := hI.many
              have b6 : (((l.op : Nat) : Int) == 6) = false := by rw [beq_eq_false_iff_ne]; omega
              have b9 : (((l.op : Nat) : Int) == 9) = true := by rw [beq_iff_eq]; omega
              have b18 : (((l.op : Nat) : Int) == 18) = false := by rw [beq_eq_false_iff_ne]; omega
              have b19 : (((l.op : Nat) : Int) == 19) = false := by rw [beq_eq_false_iff_ne]; omega
              have b20 : (((l.op : Nat) : Int) == 20) = false := by rw [beq_eq_false_iff_ne]; omega
              have b21 : (((l.op : Nat) : Int) == 21) = false := by rw [beq_eq_false_iff_ne]; omega
              have b22 : (((l.op : Nat) : Int) == 22) = false := by rw [beq_eq_false_iff_ne]; omega
              rw [hlen] at hOL hlnL KB k2
              generalize l.places.getD 0 (0, 0) = p0 at *
              generalize l.places.getD 1 (0, 0) = p1 at *
              clear hNW hlen hop hbr
              generalize b.val q p1 = n1 at *
              by_cases hz : b.yd.live ≥ (room : Nat)
              · rw [if_pos hz] at HR2
                have HA : Hid (ans = (3, 0, b)) := (Option.some.inj HR2).symm
                have KR := fun (W : World) (hW : BAt w0 (w.heap.size + 1) a W b vi vm vt) => result_any hW.yat 3 0 (hI.ok (by omega))
                have hzI : ((room : Nat) : Int) ≤ b.yd.live := hz
                clear HR HR2 KV KU KW hI2 hH2 hz
                go_wp2_with (go_at_call 73; go_fit KB; rintro e w1 ⟨rfl, h1⟩; have hO1 := hOL.below h1; have hln1 := (h1.block _ (lt_of_heap hlnL)).trans hlnL; have m0 : w1.cell? ⟨wr.heap.size, 0, none⟩ = _ := cell_of_heap hln1 0; have m1 : w1.cell? ⟨wr.heap.size, 1, none⟩ = _ := cell_of_heap hln1 1; have m2 : w1.cell? ⟨wr.heap.size, 2, none⟩ = _ := cell_of_heap hln1 2; have m3 : w1.cell? ⟨wr.heap.size, 3, none⟩ = _ := cell_of_heap hln1 3; have m4 : w1.cell? ⟨wr.heap.size, 4, none⟩ = _ := cell_of_heap hln1 4; have m5 : w1.cell? ⟨wr.heap.size, 5, none⟩ = _ := cell_of_heap hln1 5; simp at m0 m1 m2 m3 m4 m5; obtain ⟨q0, q1, q2, q3⟩ := PC.out _ hO1.old; obtain ⟨-, y1, -⟩ := hO1.yat.facts)
                apply wp_goto
                refine hJ _ _ _ _ rfl ?_
                go_wp2_with (go_at_call 66; go_fit (KR _ hO1); rintro e wz ⟨rfl, hbz⟩; have hRz := HR1.out _ _ hO1.old hbz; obtain ⟨z0, z1, z2, z3, rf0, rf1, rf2, rf3⟩ := res_facts hRz)
                try rw [Exit.noGoto_ret]
                obtain ⟨e4, hB4⟩ := res_put hRz (.int .i64 3) (.int .i64 0) (.string (bs b.yd.text)) (.int .i64 b.yd.live)
                refine bodyPost_ret (results_cell Tryz.results49 _ _ _ w.heap.size [.int .i64 3, .int .i64 0, .string (bs b.yd.text), .int .i64 b.yd.live] _ rfl (fun j u hu => by rw [Nat.zero_add, cell_of_heap e4]; simpa using hu) Tryz.underlying47 rfl info_result) rfl ?_
                exact ⟨by rw [HA.out]; rfl, HB4.out _ _ _ hO1.old hbz hB4⟩
              · rw [if_neg hz] at HR2
                have hzI : ¬ ((room : Nat) : Int) ≤ b.yd.live := hz
                have HRn : Hid (runB q (room : Nat) f (blk.drop (k + 1)) (({ b with yd := b.yd.build n1 } : Br).write q p0 ((b.yd.made.length + 1 : Nat) : Int)) = some ans) := HR2
                clear HR HR2 hz
                go_upto_region 18 with (go_at_call 73; go_fit KB; rintro e w1 ⟨rfl, h1⟩; have hO1 := hOL.below h1; have hln1 := (h1.block _ (lt_of_heap hlnL)).trans hlnL; have m0 : w1.cell? ⟨wr.heap.size, 0, none⟩ = _ := cell_of_heap hln1 0; have m1 : w1.cell? ⟨wr.heap.size, 1, none⟩ = _ := cell_of_heap hln1 1; have m2 : w1.cell? ⟨wr.heap.size, 2, none⟩ = _ := cell_of_heap hln1 2; have m3 : w1.cell? ⟨wr.heap.size, 3, none⟩ = _ := cell_of_heap hln1 3; have m4 : w1.cell? ⟨wr.heap.size, 4, none⟩ = _ := cell_of_heap hln1 4; have m5 : w1.cell? ⟨wr.heap.size, 5, none⟩ = _ := cell_of_heap hln1 5; simp at m0 m1 m2 m3 m4 m5; obtain ⟨q0, q1, q2, q3⟩ := PC.out _ hO1.old; obtain ⟨-, y1, -⟩ := hO1.yat.facts)
                have hdr : Below w1.heap.size w1 w1.drew := (Below.refl _ _).drew
                go_region_held3 (fun W' => W'.cell? ⟨g, 0, none⟩ = some (.int .i64 (p0.1 : Nat)) ∧ W'.cell? ⟨g, 1, none⟩ = some (.int .i64 (p0.2 : Nat)) ∧ W'.cell? ⟨g, 2, none⟩ = some (.int .i64 (p1.1 : Nat)) ∧ W'.cell? ⟨g, 3, none⟩ = some (.int .i64 (p1.2 : Nat))) (go_keep)
                  (first
                  | (go_at_call 74; go_fit (KV _ (hO1.below hdr)); rintro e w3 ⟨rfl, h3⟩; have hO3 := (hO1.below hdr).below h3; obtain ⟨s0, s1, s2, s3⟩ := PC.out _ hO3.old)
                  | (go_at_call 61; go_fit (KU _ hO3); rintro e w4 ⟨rfl, vm4, vt4, y4, r4⟩; have hO4 := hO3.yard y4 r4; obtain ⟨t0, t1, t2, t3⟩ := PC.out _ hO4.old)
                  | (go_at_call 76; go_fit (KW _ _ _ hO4); rintro e w5 ⟨rfl, hO2, r5⟩; obtain ⟨u0, u1, u2, u3⟩ := PC.out _ hO2.old))
                generalize (({ b with yd := b.yd.build n1 } : Br).write q p0 ((b.yd.made.length + 1 : Nat) : Int)) = b2 at *
                all_goals go_wp2_with fail
                all_goals
                  go_roundg (blk.length - (k + 1))
                  case measure => omega
                  case rel => exact ⟨k + 1, f, b', by omega, by omega, by go_num, rfl, by go_num, b2, vi, vm4, vt4, hO2, hI2, hH2, .inl ⟨HN.out _ HRn.out, HRn.out⟩⟩
          -->9
            ·
          --<T
              rw [if_neg (by omega), if_neg (by omega), if_pos hop] at HR2
              have hnil : blk.drop (k + 1) = [] := by
                by_cases hnl : blk.drop (k + 1) = []
                · exact hnl
                · rw [if_neg hnl] at HR2; cases HR2
              have hk1 : k + 1 = blk.length := by have := List.drop_eq_nil_iff.mp hnil; omega
              rw [if_pos hnil] at HR2
              have hnx : (if b.other q l then 1 else 0) < l.next.length := by
                have hnl : l.next.length = if l.op = 18 then 1 else 2 := by
                  rw [hl.nlen]
                  rcases hop with e | e | e | e <;> rw [e] <;> rfl
                rw [hnl]
                by_cases e : l.op = 18
                · have : b.other q l = false := by rw [Br.other, if_neg (by omega), if_neg (by omega), if_neg (by omega)]
                  rw [this, if_pos e]; decide
                · rw [if_neg e]; split <;> omega
              have KX := fun (W : World) (hW : BAt w0 (w.heap.size + 1) a W b vi vm vt) => next_any hW hPQ hls hLL hl hop (fun e => hr.flag (.inr e)) hnx
              have hbn : l.next.getD (if b.other q l then 1 else 0) 0 < q.blocks.length := hl.next _ (by rw [List.getD_eq_getElem?_getD, List.getElem?_eq_getElem hnx]; exact List.getElem_mem _)
              have HRn : Hid (runB q (room : Nat) f (q.blocks.getD (l.next.getD (if b.other q l then 1 else 0) 0) []) b = some ans) := HR2
              have hI2 := hI.mono (show 200000 - (f + 1) ≤ 200000 - f by omega)
              have b6 : (((l.op : Nat) : Int) == 6) = false := by rw [beq_eq_false_iff_ne]; omega
              have b9 : (((l.op : Nat) : Int) == 9) = false := by rw [beq_eq_false_iff_ne]; omega
              have hfs : ((((l.op : Nat) : Int) == 18) = true) ∨ ((((l.op : Nat) : Int) == 18) = false ∧ (((l.op : Nat) : Int) == 19) = true) ∨ ((((l.op : Nat) : Int) == 18) = false ∧ (((l.op : Nat) : Int) == 19) = false ∧ (((l.op : Nat) : Int) == 20) = true) ∨ ((((l.op : Nat) : Int) == 18) = false ∧ (((l.op : Nat) : Int) == 19) = false ∧ (((l.op : Nat) : Int) == 20) = false ∧ (((l.op : Nat) : Int) == 21) = true) := by
                rcases hop with e | e | e | e <;> rw [e] <;> simp
              clear HR HR2 hnil hnx hop hbr
              generalize l.next.getD (if b.other q l then 1 else 0) 0 = bn at *
              rcases hfs with b18 | ⟨b18, b19⟩ | ⟨b18, b19, b20⟩ | ⟨b18, b19, b20, b21⟩
              all_goals
                go_wp2_with (first
                  | (go_at_call 73; go_fit KB; rintro e w1 ⟨rfl, h1⟩; have hO1 := hOL.below h1; have hln1 := (h1.block _ (lt_of_heap hlnL)).trans hlnL; have m0 : w1.cell? ⟨wr.heap.size, 0, none⟩ = _ := cell_of_heap hln1 0; have m1 : w1.cell? ⟨wr.heap.size, 1, none⟩ = _ := cell_of_heap hln1 1; have m2 : w1.cell? ⟨wr.heap.size, 2, none⟩ = _ := cell_of_heap hln1 2; have m3 : w1.cell? ⟨wr.heap.size, 3, none⟩ = _ := cell_of_heap hln1 3; have m4 : w1.cell? ⟨wr.heap.size, 4, none⟩ = _ := cell_of_heap hln1 4; have m5 : w1.cell? ⟨wr.heap.size, 5, none⟩ = _ := cell_of_heap hln1 5; simp at m0 m1 m2 m3 m4 m5)
                  | (go_at_call 77; go_fit (KX _ hO1); rintro e w3 ⟨rfl, h3⟩))
                go_roundg (blk.length - (k + 1))
                case measure => omega
                case rel => exact ⟨k + 1, f, bn, by omega, by omega, by go_num, rfl, by go_num, b, vi, vm, vt, hO1.below h3, hI2, hH, .inr ⟨hk1, hbn, HRn.out⟩⟩
          -->T
            ·
          --<22
              have hlen : l.places.length = 1 := by rw [hl.plen, hop]; rfl
              obtain ⟨g, rfl, hcp, hg, c0, c1⟩ := place_at hLL hlen 0 (by omega)
              have hx0 := (hl.places (l.places.getD 0 (0, 0)) (by simp [hlen])).1
              have PC : Hid (∀ W, Below w0.heap.size w0 W → W.cell? ⟨g, 0, none⟩ = some (.int .i64 ((l.places.getD 0 (0, 0)).1 : Nat)) ∧ W.cell? ⟨g, 1, none⟩ = some (.int .i64 ((l.places.getD 0 (0, 0)).2 : Nat))) := fun W hW => ⟨(hW.cell (p := ⟨g, 0, none⟩) hg).trans c0, (hW.cell (p := ⟨g, 1, none⟩) hg).trans c1⟩
              have KV := fun (W : World) (hW : BAt w0 (w.heap.size + 1) a W b vi vm vt) => value_any hW hPQ hls (l.places.getD 0 (0, 0)) hx0
              rw [if_neg (by omega), if_neg (by omega), if_neg (by omega), if_pos hop] at HR2
              have HA : Hid (ans = (1, b.val q (l.places.getD 0 (0, 0)), b)) := (Option.some.inj HR2).symm
              have KR := fun (n : Int) (W : World) (hW : BAt w0 (w.heap.size + 1) a W b vi vm vt) => result_any hW.yat 1 n (hI.ok (by omega))
              have b6 : (((l.op : Nat) : Int) == 6) = false := by rw [beq_eq_false_iff_ne]; omega
              have b9 : (((l.op : Nat) : Int) == 9) = false := by rw [beq_eq_false_iff_ne]; omega
              have b18 : (((l.op : Nat) : Int) == 18) = false := by rw [beq_eq_false_iff_ne]; omega
              have b19 : (((l.op : Nat) : Int) == 19) = false := by rw [beq_eq_false_iff_ne]; omega
              have b20 : (((l.op : Nat) : Int) == 20) = false := by rw [beq_eq_false_iff_ne]; omega
              have b21 : (((l.op : Nat) : Int) == 21) = false := by rw [beq_eq_false_iff_ne]; omega
              have b22 : (((l.op : Nat) : Int) == 22) = true := by rw [beq_iff_eq]; omega
              rw [hlen] at hOL hlnL KB k2
              generalize l.places.getD 0 (0, 0) = p0 at *
              clear HR HR2 hlen hop hbr
              generalize b.val q p0 = n0 at *
              go_wp2_with (first
                | (go_at_call 73; go_fit KB; rintro e w1 ⟨rfl, h1⟩; have hO1 := hOL.below h1; have hln1 := (h1.block _ (lt_of_heap hlnL)).trans hlnL; have m0 : w1.cell? ⟨wr.heap.size, 0, none⟩ = _ := cell_of_heap hln1 0; have m1 : w1.cell? ⟨wr.heap.size, 1, none⟩ = _ := cell_of_heap hln1 1; have m2 : w1.cell? ⟨wr.heap.size, 2, none⟩ = _ := cell_of_heap hln1 2; have m3 : w1.cell? ⟨wr.heap.size, 3, none⟩ = _ := cell_of_heap hln1 3; have m4 : w1.cell? ⟨wr.heap.size, 4, none⟩ = _ := cell_of_heap hln1 4; have m5 : w1.cell? ⟨wr.heap.size, 5, none⟩ = _ := cell_of_heap hln1 5; simp at m0 m1 m2 m3 m4 m5; obtain ⟨q0, q1⟩ := PC.out _ hO1.old)
                | (go_at_call 74; go_fit (KV _ hO1); rintro e w3 ⟨rfl, h3⟩; have hO3 := hO1.below h3))
              apply wp_goto
              refine hJ _ _ _ _ rfl ?_
              go_wp2_with (go_at_call 66; go_fit (KR _ _ hO3); rintro e wz ⟨rfl, hbz⟩; have hRz := HR1.out _ _ hO3.old hbz; obtain ⟨z0, z1, z2, z3, rf0, rf1, rf2, rf3⟩ := res_facts hRz)
              try rw [Exit.noGoto_ret]
              obtain ⟨e4, hB4⟩ := res_put hRz (.int .i64 1) (.int .i64 n0) (.string (bs b.yd.text)) (.int .i64 b.yd.live)
              refine bodyPost_ret (results_cell Tryz.results49 _ _ _ w.heap.size [.int .i64 1, .int .i64 n0, .string (bs b.yd.text), .int .i64 b.yd.live] _ rfl (fun j u hu => by rw [Nat.zero_add, cell_of_heap e4]; simpa using hu) Tryz.underlying47 rfl info_result) rfl ?_
              exact ⟨by rw [HA.out]; rfl, HB4.out _ _ _ hO3.old hbz hB4⟩
          -->22
          · rw [hbr] at KB
            have HR2 := HR.out
            rw [runB, if_pos hbr] at HR2
            have HA : Hid (ans = (5, 0, b)) := (Option.some.inj HR2).symm
            have KR := fun (W : World) (hW : BAt w0 (w.heap.size + 1) a W b vi vm vt) => result_any hW.yat 5 0 (hI.ok (by omega))
            clear HR HR2 hbr
          --<B
            go_wp2_with (go_at_call 73; go_fit KB; rintro e w1 ⟨rfl, h1⟩; have hO1 := hOL.below h1; have hln1 := (h1.block _ (lt_of_heap hlnL)).trans hlnL; have m0 : w1.cell? ⟨wr.heap.size, 0, none⟩ = _ := cell_of_heap hln1 0; have m1 : w1.cell? ⟨wr.heap.size, 1, none⟩ = _ := cell_of_heap hln1 1; have m2 : w1.cell? ⟨wr.heap.size, 2, none⟩ = _ := cell_of_heap hln1 2; have m3 : w1.cell? ⟨wr.heap.size, 3, none⟩ = _ := cell_of_heap hln1 3; have m4 : w1.cell? ⟨wr.heap.size, 4, none⟩ = _ := cell_of_heap hln1 4; have m5 : w1.cell? ⟨wr.heap.size, 5, none⟩ = _ := cell_of_heap hln1 5; simp at m0 m1 m2 m3 m4 m5)
            apply wp_goto
            refine hJ _ _ _ _ rfl ?_
            go_wp2_with (go_at_call 66; go_fit (KR _ hO1); rintro e wz ⟨rfl, hbz⟩; have hRz := HR1.out _ _ hO1.old hbz; obtain ⟨z0, z1, z2, z3, rf0, rf1, rf2, rf3⟩ := res_facts hRz)
            try rw [Exit.noGoto_ret]
            obtain ⟨e4, hB4⟩ := res_put hRz (.int .i64 5) (.int .i64 0) (.string (bs b.yd.text)) (.int .i64 b.yd.live)
            refine bodyPost_ret (results_cell Tryz.results49 _ _ _ w.heap.size [.int .i64 5, .int .i64 0, .string (bs b.yd.text), .int .i64 b.yd.live] _ rfl (fun j u hu => by rw [Nat.zero_add, cell_of_heap e4]; simpa using hu) Tryz.underlying47 rfl info_result) rfl ?_
            exact ⟨by rw [HA.out]; rfl, HB4.out _ _ _ hO1.old hbz hB4⟩
          -->B
      · have hk : k = blk.length := by omega
        subst hk
        obtain ⟨b, vi, vm, vt, hO, hI, hH, hcs⟩ := hst.out
        have hcs2 : b' < q.blocks.length ∧ Hid (runB q (room : Nat) f (q.blocks.getD b' []) b = some ans) := by
          rcases hcs with ⟨h, -⟩ | ⟨-, h1, h2⟩
          · omega
          · exact ⟨h1, h2⟩
        clear hst hcs
        go_wp2
        go_roundg (f + 1)
        case measure => omega
        case rel => exact ⟨f, b', rfl, by omega, rfl, rfl, hcs2.1, b, vi, vm, vt, hO, hI, hH, hcs2.2.out⟩
end
end Go.Proofs.YtmlgajhhnojdjaaGreatDoor.Ex
