/- What the document's own reader answers on a whole text. Condition: the text has at most 2^40 bytes. -/
import Derived.Test.YtmlgajhhnojdjaaGreatDoorSAT
import Derived.Test.YtmlgajhhnojdjaaGreatDoorSAH
import Derived.Test.YtmlgajhhnojdjaaGreatDoorSAC
import Derived.Deep.DeepCutAuto
import Derived.Deep.LoopGhost
import Derived.Deep.RegionLaw
import Derived.Test.YtmlgajhhnojdjaaGreatDoorSAS
import Derived.Test.YtmlgajhhnojdjaaGreatDoorSAP
import Derived.Test.YtmlgajhhnojdjaaGreatDoorSAR
import Derived.Test.YtmlgajhhnojdjaaGreatDoorSAQ
import Derived.Laws.MakeOwn
namespace Go.Proofs.YtmlgajhhnojdjaaGreatDoor.RefM
open Go.RowKit Go.Proofs.YtmlgajhhnojdjaaGreatDoor.Spec Go.Proofs.YtmlgajhhnojdjaaGreatDoor.RefA Go.Proofs.YtmlgajhhnojdjaaGreatDoor.RefE Go.Proofs.YtmlgajhhnojdjaaGreatDoor.RefF Go.Proofs.YtmlgajhhnojdjaaGreatDoor.RefL Go.Proofs.YtmlgajhhnojdjaaGreatDoor.RefN Go.Proofs.YtmlgajhhnojdjaaGreatDoor.Aux

theorem split_row (l : B) (c : UInt8) (w : World) (h : l.length ≤ 1099511627776) :
    Calls Tryz.prog 67 #[.string (bs l), .int .u8 c.toNat] w fun e w' => ∃ g cap, e = .returned (.slice (some ⟨g, 0, none⟩) (split c l).length cap) ∧ w'.ownsRow w.heap.size 9 1 (.slice (some ⟨g, 0, none⟩) (split c l).length cap) (split c l).length (cellsOf (split c l)) ∧ Below w.heap.size w w' := by
  refine (split_bs l c w h).mono ?_
  rintro e w' ⟨v, rfl, ho, hb⟩
  have hl : 1 ≤ (split c l).length := by
    have := split_ne c l
    cases hs : split c l with
    | nil => exact absurd hs this
    | cons a b => simp
  obtain ⟨g, cap, rfl, -⟩ := strRow_of ho hl
  exact ⟨g, cap, rfl, ho, hb⟩
theorem split_row10 (l : B) (w : World) (h : l.length ≤ 1099511627776) :
    Calls Tryz.prog 67 #[.string (bs l), .int .u8 10] w fun e w' => ∃ g cap, e = .returned (.slice (some ⟨g, 0, none⟩) (split 10 l).length cap) ∧ w'.ownsRow w.heap.size 9 1 (.slice (some ⟨g, 0, none⟩) (split 10 l).length cap) (split 10 l).length (cellsOf (split 10 l)) ∧ Below w.heap.size w w' := split_row l 10 w h
theorem split_row32 (l : B) (w : World) (h : l.length ≤ 1099511627776) :
    Calls Tryz.prog 67 #[.string (bs l), .int .u8 32] w fun e w' => ∃ g cap, e = .returned (.slice (some ⟨g, 0, none⟩) (split 32 l).length cap) ∧ w'.ownsRow w.heap.size 9 1 (.slice (some ⟨g, 0, none⟩) (split 32 l).length cap) (split 32 l).length (cellsOf (split 32 l)) ∧ Below w.heap.size w w' := split_row l 32 w h

theorem info_strs : (Tryz.prog.info? 34).map (fun i => (i.zero, i.size, i.bytes)) = some (some (.slice none 0 0), 1, 24) := by kernel_rfl
theorem info_int : (Tryz.prog.info? 3).map (fun i => (i.zero, i.size, i.bytes)) = some (some (.int .i64 0), 1, 8) := by kernel_rfl

theorem rinv_start (z : Nat) (w : World) (raw : Bool) (hz : z ≤ w.heap.size) : RInv z w.heap.size (w.alloc (.cells #[.slice none 0 0, .slice none 0 0, .slice none 0 0, .bool raw] 128)) (Spec.start raw) (.slice none 0 0) (.slice none 0 0) (.slice none 0 0) [] :=
  ⟨hz, by show (w.heap.push _)[w.heap.size]? = _; simp [Spec.start], World.ownsRow_nil _ _ _ _, fun j hj => by simp at hj, World.ownsRow_nil _ _ _ _, World.ownsRow_nil _ _ _ _, .inl rfl⟩
/-- what Read leaves -/
def ReadPost (text : B) (raw : Bool) (w : World) (e : Ending) (w' : World) : Prop :=
  Below w.heap.size w w' ∧ ∃ v, e = .returned (.tuple #[v, .int .i64 ((refRead text raw).2.1 : Int), .int .i64 ((refRead text raw).2.2 : Int)]) ∧
    ((refRead text raw).1 = none ∧ v = .pointer none ∨ ∃ p a, (refRead text raw).1 = some p ∧ v = .pointer (some ⟨a, 0, none⟩) ∧ p.Ok ∧ ∃ vl vt vb us, RInv w.heap.size a w' p vl vt vb us)
theorem post_bad {text : B} {raw : Bool} {w w' : World} {c k : Nat} (hb : Below w.heap.size w w') (h : refRead text raw = (none, c, k)) : ReadPost text raw w (.returned (.tuple #[.pointer none, .int .i64 (c : Int), .int .i64 (k : Int)])) w' :=
  ⟨hb, .pointer none, by rw [h], .inl ⟨by rw [h], rfl⟩⟩
theorem post_good {text : B} {raw : Bool} {w w' : World} {L : List B} {a : Nat} {v0 : Value} {p : RP} (hh : Held L w a v0 w' p) (hok : p.Ok) (h : refRead text raw = (some p, 0, 0)) : ReadPost text raw w (.returned (.tuple #[.pointer (some ⟨a, 0, none⟩), .int .i64 0, .int .i64 0])) w' :=
  ⟨hh.old, .pointer (some ⟨a, 0, none⟩), by rw [h]; rfl, .inr ⟨p, a, by rw [h], rfl, hok, hh.inv⟩⟩
theorem refRead_form {text : B} {raw : Bool} {k : Nat} {q : RP} (h1 : (split 10 text).length ≤ 4000) (h2 : raw = false → (split 10 text).length ≤ 120) (h : readForm (wordsOf text) (Spec.start raw) 0 = (q, some k)) : refRead text raw = (none, 2, k) := by
  rw [refRead, if_neg, h]
  rintro (h' | ⟨h', h''⟩)
  · omega
  · have := h2 h'; omega

set_option maxRecDepth 20000 in
set_option maxHeartbeats 4000000 in
theorem read_fits (text : B) (raw : Bool) (w : World) (h : text.length ≤ 1099511627776) (h1 : (split 10 text).length ≤ 4000) (h2 : raw = false → (split 10 text).length ≤ 120) :
    Calls Tryz.prog 46 #[.string (bs text), .bool raw] w (ReadPost text raw w) := by
  have H2 : Hid (raw = false → (split 10 text).length ≤ 120) := h2
  have hlong : Hid (∀ j, (word (split 10 text) j).length ≤ 1099511627776) := fun j => Nat.le_trans (word_split_le 10 text j) h
  obtain ⟨i34, hi34, hz34a, hz34b, hz34c⟩ := info_parts info_strs
  obtain ⟨i3, hi3, hz3a, hz3b, hz3c⟩ := info_parts info_int
  go_enter Tryz.func46, Tryz.ntmps46
  go_upto_region 2 with (go_at_call 67; refine (split_row10 text _ h).mono ?_; rintro e w1 ⟨g0, c0, rfl, ho0, hb0⟩)
  go_cut [29] (fun b wc => wc = w1 ∧ b = .bool false)
  case first =>
    cases raw
    · have h3 := h2 rfl
      clear h2
      go_wp2
      go_meet
      case rel => exact ⟨rfl, by congr 1; simp; omega⟩
    · clear h2
      go_wp2
      go_meet
      case rel => exact ⟨rfl, by congr 1; simp; omega⟩
  case rest =>
    obtain ⟨rfl, rfl⟩ := hcut
    clear h2
    go_wp2
    have hsz0 := hb0.size
    have hstart : Held (split 10 text) w wc.heap.size (.slice (some ⟨g0, 0, none⟩) (split 10 text).length c0) (wc.alloc (.cells #[.slice none 0 0, .slice none 0 0, .slice none 0 0, .bool raw] 128)) (Spec.start raw) :=
      ⟨⟨_, _, _, _, rinv_start w.heap.size wc raw hsz0⟩, hb0.alloc hsz0 _, ho0.alloc _⟩
    generalize hA : wc.heap.size = a at *
    clear hA
    go_loopw [9] (fun i wr => ∃ (k : Nat) (p : RP), k ≤ (split 10 text).length ∧ i = .int .i64 k ∧ Held (split 10 text) w a (.slice (some ⟨g0, 0, none⟩) (split 10 text).length c0) wr p ∧ Hid (PureR text raw k p)) (fun i _ => (split 10 text).length - (intOf i).toNat)
    case atStart => exact ⟨0, Spec.start raw, Nat.zero_le _, rfl, hstart, PureR.start text raw⟩
    case round =>
      obtain ⟨k, p, hk, rfl, hH, HP⟩ := hrel
      clear hstart ho0 hb0 hsz0
      by_cases hlt : k < (split 10 text).length
      · have hHH := hH
        obtain ⟨⟨vl, vt, vb, us, hinv⟩, hold, hrow⟩ := hH
        have hcl : wr.cell? ⟨a, 0, none⟩ = some vl := by rw [cell_of_heap hinv.blk]; rfl
        have hfl : wr.frozen? ⟨a, 0, none⟩ = false := frozen_of_heap hinv.blk 0
        obtain ⟨g, cap, e, hcap, hg0, hcell⟩ := strRow_of hrow (by omega)
        simp only [Value.slice.injEq, Option.some.injEq, Addr.mk.injEq, and_true, true_and] at e
        obtain ⟨rfl, rfl⟩ := e
        have hcx := hcell k hlt
        have hk3 : (k : Int) < (split 10 text).length := by omega
        have hbase : w.heap.size ≤ wr.heap.size := hold.size
        have halt := hinv.lt
        have hps := HP.out.ok.size
        have hneA : some a ≠ vl.ownBlock := (own_at_ne hinv.lines hinv.blk (by decide)).symm
        have HPK : Hid (p.lines.length = k) := HP.out.length (by omega)
        clear hcell
        go_upto_region 8 with fail
        go_cut [] (fun wc' => Held (split 10 text) w a (.slice (some ⟨g0, 0, none⟩) (split 10 text).length c0) wc' (p.addLine (split 32 (word (split 10 text) k))))
        case first =>
          go_region_law (first
              | (refine step_lies (by rfl) _ _ _ (by rfl) w.heap.size 34 i34 (.slice none 0 0) 24 Tryz.underlying126 hi34 hz34a hz34b hz34c (by rfl) _ _ _ (by rfl) (own_below hinv.lines hb1) _ (by rfl) (by rfl) (by decide) (by omega) (by have := hb1.size; omega) ?_; intro g2 c2 w2 hown2 hgrow2 hat2 hlt2; have hfz : w2.frozen? ⟨a, 0, none⟩ = false := (by rw [World.frozen?_of_block (hgrow2.block a (by have := hb1.size; simp; omega) hneA), (below_alloc _ _).frozen (by exact hsz1), hb1.frozen (by exact halt)]; exact hfl); have hcl2 : w2.cell? ⟨a, 0, none⟩ = some vl := (hgrow2.cell (by rw [(below_alloc _ _).cell (by exact hsz1)]; exact hcl1) hneA))
              | (go_simp; go_at_call 67; refine (split_row32 _ _ (hlong.out k)).mono ?_; rintro e w1 ⟨g1, c1, rfl, ho1, hb1'⟩; have hb1 : Below wr.heap.size wr w1 := below_drew hb1'; have hcl1 : w1.cell? ⟨a, 0, none⟩ = some vl := (by rw [hb1.cell (by exact halt)]; exact hcl); have hsz1 : a < w1.heap.size := (by have := hb1.size; omega)))
          all_goals go_wp2_with fail
          all_goals
            go_meet
            case rel => exact hHH.line hinv hb1 ho1 hown2 hgrow2
        case rest =>
          have HBAD : Hid ((p.addLine (split 32 (word (split 10 text) k))).form k = false → refRead text raw = (none, 2, k)) := fun hf => by
            obtain ⟨q, hq⟩ := HP.out.bad hlt hf
            exact refRead_form h1 H2.out hq
          have HSTEP : Hid ((p.addLine (split 32 (word (split 10 text) k))).form k = true → PureR text raw (k + 1) ((p.addLine (split 32 (word (split 10 text) k))).mark k)) := fun hf => HP.out.step h hlt h1 hf
          have hok1 := HP.out.okLine h hlt h1
          have hl1 : k < (p.addLine (split 32 (word (split 10 text) k))).lines.length := by have := HPK.out; simp [RP.addLine]; omega
          have hfew : (p.addLine (split 32 (word (split 10 text) k))).lets.length < 4000 ∧ (p.addLine (split 32 (word (split 10 text) k))).blocks.length < 4000 := by have := HP.out.few; simp [RP.addLine]; omega
          clear hcl hfl hcx hneA HPK HP hinv hrow hold hHH hps halt hbase hg0 hcap
          generalize p.addLine (split 32 (word (split 10 text) k)) = p1 at *
          obtain ⟨hfew1, hfew2⟩ := hfew
          have hPA := hcut.progAt hok1
          have HFm := form_any p1 a k _ hPA hok1 hl1
          obtain ⟨gL, capL, gl, capl, hc1, hc1', hc2, hc2', hw⟩ := hPA.line_at k hl1
          have hwn := hok1.words k hl1
          have hw0 := hw 0 (by omega)
          have hi30 : (0 : Int) < (p1.line k).length := by omega
          have hi31 : (k : Int) < p1.lines.length := by omega
          have hsz1 := hok1.size
          cases hf : p1.form k
          · rw [hf] at HFm
            have hx := HBAD.out hf
            clear HBAD HSTEP hf
            go_wp2_with (go_at_call 68; refine HFm.mono ?_; rintro e w' ⟨rfl, n, rfl⟩)
            go_ret3
            exact post_bad (hcut.drewN n).old hx
          · rw [hf] at HFm
            have HM := HSTEP.out hf
            have hokm := hok1.mark1 hl1 hf hfew1
            have HST : Hid (PureR text raw (k + 1) (p1.mark k)) := HM
            clear HBAD HSTEP HM hf
            go_upto_if 68 with (go_at_call 68; refine HFm.mono ?_; rintro e w' ⟨rfl, n, rfl⟩)
            clear HFm
            have hcn := hcut.drewN n
            go_cut [] (fun wc2 => Held (split 10 text) w a (.slice (some ⟨g0, 0, none⟩) (split 10 text).length c0) wc2 (p1.mark1 k))
            case first =>
              have hcn' := hcn
              obtain ⟨⟨vl1, vt1, vb1, us1, hinv1⟩, hold1, hrow1⟩ := hcn
              have hct : wc.cell? ⟨a, 1, none⟩ = some vt1 := by have := cell_of_heap hinv1.blk 1; exact this
              have hft : wc.frozen? ⟨a, 1, none⟩ = false := by have := frozen_of_heap hinv1.blk 1; exact this
              have hbase1 := hold1.size
              have halt1 : a < wc.heap.size := hinv1.lt
              have hneT : some a ≠ vt1.ownBlock := (own_at_ne hinv1.lets hinv1.blk (by decide)).symm
              go_wp2_with (at_builtin; refine append_lies rfl _ _ 113 rfl w.heap.size 3 i3 (.int .i64 0) 8 Tryz.underlying113 hi3 hz3a hz3b hz3c rfl vt1 _ _ rfl hinv1.lets _ rfl rfl (by decide) (by omega) hbase1 ?_; intro g2 c2 w2 hown2 hgrow2 hat2 hlt2; have hfz : w2.frozen? ⟨a, 1, none⟩ = false := (by rw [World.frozen?_of_block (hgrow2.block a (by simp; omega) hneT), (below_alloc _ _).frozen (by exact halt1)]; exact hft); have hcl2 : w2.cell? ⟨a, 1, none⟩ = some vt1 := (hgrow2.cell (by rw [(below_alloc _ _).cell (by exact halt1)]; exact hct) hneT))
              · go_meet
                case rel =>
                  have hm1 : p1.mark1 k = p1.addLet k := by rw [RP.mark1, if_pos (by simpa [wLet] using ‹(word (p1.line k) 0 == _) = true›)]
                  rw [hm1]
                  exact hcn'.addLet hinv1 hown2 hgrow2 (fun g hg => by
                    simp only [Value.ownBlock, Option.some.injEq] at hg
                    subst hg
                    simpa using hat2)
              · go_meet
                case rel =>
                  have hm1 : p1.mark1 k = p1 := by rw [RP.mark1, if_neg (by simpa [wLet] using ‹(word (p1.line k) 0 == _) = false›)]
                  rw [hm1]
                  exact hcn'
            case rest =>
              have hmb : Hid (word (p1.line k) 0 = wBlock → p1.mark k = (p1.mark1 k).addBlock k) := fun e => RP.mark_block e
              have hmn : Hid (¬ word (p1.line k) 0 = wBlock → p1.mark k = p1.mark1 k) := fun e => RP.mark_none e
              have hl2 : k < (p1.mark1 k).lines.length := by rw [RP.mark1_lines]; exact hl1
              have hlk : (p1.mark1 k).line k = p1.line k := RP.mark1_line _ _ _
              have hfew3 : (p1.mark1 k).blocks.length < 4000 := by unfold RP.mark1; split <;> exact hfew2
              clear hc1 hc1' hc2 hc2' hw hw0 hPA hcn
              generalize p1.mark1 k = p2 at *
              have hPA := hcut.progAt hokm
              obtain ⟨gL, capL, gl, capl, hc1, hc1', hc2, hc2', hw⟩ := hPA.line_at k hl2
              rw [hlk] at hc2 hc2' hw
              have hw0 := hw 0 (by omega)
              have hi32 : (k : Int) < p2.lines.length := by omega
              have hsz2 := hokm.size
              have hcut' := hcut
              obtain ⟨⟨vl1, vt1, vb1, us1, hinv1⟩, hold1, hrow1⟩ := hcut
              have hct : wc.cell? ⟨a, 2, none⟩ = some vb1 := by have := cell_of_heap hinv1.blk 2; exact this
              have hft : wc.frozen? ⟨a, 2, none⟩ = false := by have := frozen_of_heap hinv1.blk 2; exact this
              have hbase1 := hold1.size
              have halt1 : a < wc.heap.size := hinv1.lt
              have hneT : some a ≠ vb1.ownBlock := (own_at_ne hinv1.blocks hinv1.blk (by decide)).symm
              clear hw hlk hPA
              go_wp2_with (at_builtin; refine append_lies rfl _ _ 113 rfl w.heap.size 3 i3 (.int .i64 0) 8 Tryz.underlying113 hi3 hz3a hz3b hz3c rfl vb1 _ _ rfl hinv1.blocks _ rfl rfl (by decide) (by omega) hbase1 ?_; intro g2 c2 w2 hown2 hgrow2 hat2 hlt2; have hfz : w2.frozen? ⟨a, 2, none⟩ = false := (by rw [World.frozen?_of_block (hgrow2.block a (by simp; omega) hneT), (below_alloc _ _).frozen (by exact halt1)]; exact hft); have hcl2 : w2.cell? ⟨a, 2, none⟩ = some vb1 := (hgrow2.cell (by rw [(below_alloc _ _).cell (by exact halt1)]; exact hct) hneT))
              · go_roundw
                case rel =>
                  refine ⟨k + 1, p1.mark k, by omega, by go_num, ?_, HST⟩
                  rw [hmb.out (by simpa [wBlock] using ‹(word (p1.line k) 0 == _) = true›)]
                  exact hcut'.addBlock hinv1 hown2 hgrow2 (fun g hg => by
                    simp only [Value.ownBlock, Option.some.injEq] at hg
                    subst hg
                    simpa using hat2)
                case measure => simp [intOf]; omega
              · go_roundw
                case rel =>
                  refine ⟨k + 1, p1.mark k, by omega, by go_num, ?_, HST⟩
                  rw [hmn.out (by simpa [wBlock] using ‹(word (p1.line k) 0 == _) = false›)]
                  exact hcut'
                case measure => simp [intOf]; omega
      · obtain rfl : k = (split 10 text).length := by omega
        have HR : Hid (_ = _) := refRead_fit h1 H2.out HP.out.read
        have hok := HP.out.ok
        have HLO : Hid (∀ j, j < (split 10 text).length → p.LineOk j) := HP.out.lineOk
        have HN : Hid (p.lines.length = (split 10 text).length) := HP.out.length (Nat.le_refl _)
        have hPA := hH.progAt hok
        have hbn := hok.blockn
        obtain ⟨bb, cb, hlenb⟩ := hPA.blocks_len
        have HIN := inside_any p a (split 10 text).length wr hPA hok (by rw [HN.out]; omega)
        clear HP hlong hlt H2 hk
        by_cases hin : p.inside (split 10 text).length = true
        · have hx : refRead text raw = (none, 2, (split 10 text).length) := by rw [HR.out, if_pos (.inl hin)]
          rw [hin] at HIN
          clear HR hin
          go_wp2_with (go_at_call 69; refine HIN.mono ?_; rintro e w' ⟨rfl, n, rfl⟩)
          go_ret3
          exact post_bad (hH.drewN n).old hx
        · by_cases hb0 : p.blocks.length = 0
          · have hx : refRead text raw = (none, 2, (split 10 text).length) := by rw [HR.out, if_pos (.inr hb0)]
            rw [Bool.not_eq_true] at hin
            rw [hin] at HIN
            clear HR hin
            go_wp2_with (go_at_call 69; refine HIN.mono ?_; rintro e w' ⟨rfl, n, rfl⟩)
            go_ret3
            exact post_bad (hH.drewN n).old hx
          · have HR2 : Hid (refRead text raw = match firstNot p.names ((split 10 text).length - 0) 0 with
                | some i => (none, 3, i)
                | none => match firstNot p.typesOk ((split 10 text).length - 0) 0 with
                  | some i => (none, 4, i)
                  | none => (some p, 0, 0)) := by rw [HR.out, if_neg (not_or.mpr ⟨hin, hb0⟩)]; rfl
            rw [Bool.not_eq_true] at hin
            rw [hin] at HIN
            have hb1 : ((p.blocks.length : Int) == 0) = false := by rw [beq_eq_false_iff_ne]; omega
            clear HR hin hb0
            go_wp2_with (go_at_call 69; refine HIN.mono ?_; rintro e w' ⟨rfl, n, rfl⟩)
            obtain ⟨wo, hwo⟩ : ∃ wo : World, wo = wr := ⟨_, rfl⟩
            subst hwo
            go_loopg [12] ((split 10 text).length) (fun gk i wn => ∃ (k m : Nat), k ≤ (split 10 text).length ∧ gk + k = (split 10 text).length ∧ i = .int .i64 k ∧ wn = wo.drewN m ∧ Hid (firstNot p.names ((split 10 text).length - 0) 0 = firstNot p.names ((split 10 text).length - k) k))
            case atStart => exact ⟨0, n, Nat.zero_le _, rfl, rfl, rfl, rfl⟩
            case round =>
              obtain ⟨k, m, hk, hgk, rfl, rfl, HI⟩ := hrel
              by_cases hlt : k < (split 10 text).length
              · have HS : Hid (_ = _) := firstNot_step p.names _ k hlt
                have HNm := names_ok p a k (wo.drewN m) (hPA.drewN m) hok (by rw [HN.out]; exact hlt) (HLO.out k hlt)
                clear HIN
                cases hnm : p.names k
                · have hx : refRead text raw = (none, 3, k) := by rw [HR2.out, HI.out, HS.out, hnm]; rfl
                  rw [hnm] at HNm
                  clear hnm
                  go_wp2_with (go_at_call 70; refine HNm.mono ?_; rintro e w' ⟨rfl, nn, rfl⟩)
                  go_ret3
                  exact post_bad (hH.drewN (m + nn)).old hx
                · have hx : Hid (firstNot p.names ((split 10 text).length - k) k = firstNot p.names ((split 10 text).length - (k + 1)) (k + 1)) := by unfold Hid; rw [HS.out, hnm]; rfl
                  rw [hnm] at HNm
                  clear hnm
                  go_wp2_with (go_at_call 70; refine HNm.mono ?_; rintro e w' ⟨rfl, nn, rfl⟩)
                  go_roundg ((split 10 text).length - (k + 1))
                  case rel => exact ⟨k + 1, m + nn, by omega, by omega, by go_num, by simp, by rw [HI.out, hx.out]; rfl⟩
                  case measure => omega
              · have HA : Hid (∀ j, j < (split 10 text).length → p.names j = true) := fun j hj => firstNot_all p.names _ 0 (by rw [HI.out, show (split 10 text).length - k = 0 by omega]; rfl) j (by omega) (by omega)
                have HR3 : Hid (refRead text raw = match firstNot p.typesOk ((split 10 text).length - 0) 0 with
                  | some i => (none, 4, i)
                  | none => (some p, 0, 0)) := by
                  unfold Hid
                  rw [HR2.out, HI.out, show (split 10 text).length - k = 0 by omega]; rfl
                clear HR2 HI HIN
                go_wp2
                clear hlt hk
                go_loopg [14] ((split 10 text).length) (fun gk i wn => ∃ (k m : Nat), k ≤ (split 10 text).length ∧ gk + k = (split 10 text).length ∧ i = .int .i64 k ∧ wn = wo.drewN m ∧ Hid (firstNot p.typesOk ((split 10 text).length - 0) 0 = firstNot p.typesOk ((split 10 text).length - k) k))
                case atStart => exact ⟨0, m, Nat.zero_le _, rfl, rfl, rfl, rfl⟩
                case round =>
                  obtain ⟨k, m, hk, hgk, rfl, rfl, HI⟩ := hrel
                  by_cases hlt : k < (split 10 text).length
                  · have HS : Hid (_ = _) := firstNot_step p.typesOk _ k hlt
                    have hkl : k < p.lines.length := by rw [HN.out]; exact hlt
                    obtain ⟨gL, capL, gl, capl, hc1, hc1', hc2, hc2', hw⟩ := hPA.line_at k hkl
                    have hwn := hok.words k hkl
                    have hw0 := hw 0 (by omega)
                    have hi30 : (0 : Int) < (p.line k).length := by omega
                    have hi31 : (k : Int) < p.lines.length := by omega
                    have hszp := hok.size
                    clear hw
                    by_cases hlet : word (p.line k) 0 = wLet
                    · have hbl : (word (p.line k) 0 == [108, 101, 116]) = true := by rw [hlet]; rfl
                      have hx : Hid (firstNot p.typesOk ((split 10 text).length - k) k = firstNot p.typesOk ((split 10 text).length - (k + 1)) (k + 1)) := by unfold Hid; rw [HS.out, if_pos (by simp [RP.typesOk, hlet])]
                      clear hlet
                      go_wp2
                      go_roundg ((split 10 text).length - (k + 1))
                      case rel => exact ⟨k + 1, m, by omega, by omega, by go_num, rfl, by rw [HI.out, hx.out]; rfl⟩
                      case measure => omega
                    · have hbl : (word (p.line k) 0 == [108, 101, 116]) = false := by simpa [wLet] using hlet
                      by_cases hblk : word (p.line k) 0 = wBlock
                      · have hbb : (word (p.line k) 0 == [98, 108, 111, 99, 107]) = true := by rw [hblk]; rfl
                        have hx : Hid (firstNot p.typesOk ((split 10 text).length - k) k = firstNot p.typesOk ((split 10 text).length - (k + 1)) (k + 1)) := by unfold Hid; rw [HS.out, if_pos (by simp [RP.typesOk, hblk])]
                        clear hlet hblk
                        go_wp2
                        go_roundg ((split 10 text).length - (k + 1))
                        case rel => exact ⟨k + 1, m, by omega, by omega, by go_num, rfl, by rw [HI.out, hx.out]; rfl⟩
                        case measure => omega
                      · have hbb : (word (p.line k) 0 == [98, 108, 111, 99, 107]) = false := by simpa [wBlock] using hblk
                        have hto : Hid (p.typesOk k = p.types k) := by unfold Hid RP.typesOk; rw [show (word (p.line k) 0 == wLet) = false from hbl, show (word (p.line k) 0 == wBlock) = false from hbb]; rfl
                        have HTm := types_ok p a k (wo.drewN m) (hPA.drewN m) hok hkl (HLO.out k hlt) hlet (HA.out k hlt)
                        clear hlet hblk
                        cases hty : p.types k
                        · have hx : refRead text raw = (none, 4, k) := by rw [HR3.out, HI.out, HS.out, hto.out, hty]; rfl
                          rw [hty] at HTm
                          clear hty
                          go_wp2_with (go_at_call 71; refine HTm.mono ?_; rintro e w' ⟨rfl, nn, rfl⟩)
                          go_ret3
                          exact post_bad (hH.drewN (m + nn)).old hx
                        · have hx : Hid (firstNot p.typesOk ((split 10 text).length - k) k = firstNot p.typesOk ((split 10 text).length - (k + 1)) (k + 1)) := by unfold Hid; rw [HS.out, hto.out, hty]; rfl
                          rw [hty] at HTm
                          clear hty
                          go_wp2_with (go_at_call 71; refine HTm.mono ?_; rintro e w' ⟨rfl, nn, rfl⟩)
                          go_roundg ((split 10 text).length - (k + 1))
                          case rel => exact ⟨k + 1, m + nn, by omega, by omega, by go_num, by simp, by rw [HI.out, hx.out]; rfl⟩
                          case measure => omega
                  · have hx : refRead text raw = (some p, 0, 0) := by rw [HR3.out, HI.out, show (split 10 text).length - k = 0 by omega]; rfl
                    clear HR3 HI
                    go_wp2
                    go_ret3
                    exact post_good (hH.drewN m) hok hx

set_option maxRecDepth 20000 in
set_option maxHeartbeats 1000000 in
theorem read_long (text : B) (raw : Bool) (w : World) (h : text.length ≤ 1099511627776) (h1 : 4000 < (split 10 text).length ∨ (raw = false ∧ 120 < (split 10 text).length)) :
    Calls Tryz.prog 46 #[.string (bs text), .bool raw] w (ReadPost text raw w) := by
  have hx : refRead text raw = (none, 1, 0) := by rw [refRead, if_pos h1]
  have hlen := split_length 10 text
  by_cases h4 : 4000 < (split 10 text).length
  · clear h1
    go_enter Tryz.func46, Tryz.ntmps46
    go_wp2_with (go_at_call 67; refine (split_row10 text _ h).mono ?_; rintro e w1 ⟨g0, c0, rfl, ho0, hb0⟩)
    go_ret3
    exact post_bad hb0 hx
  · obtain ⟨rfl, h5⟩ : raw = false ∧ 120 < (split 10 text).length := h1.resolve_left h4
    clear h1
    go_enter Tryz.func46, Tryz.ntmps46
    go_wp2_with (go_at_call 67; refine (split_row10 text _ h).mono ?_; rintro e w1 ⟨g0, c0, rfl, ho0, hb0⟩)
    go_ret3
    exact post_bad hb0 hx
theorem read_any (text : B) (raw : Bool) (w : World) (h : text.length ≤ 1099511627776) : Calls Tryz.prog 46 #[.string (bs text), .bool raw] w (ReadPost text raw w) := by
  by_cases hl : 4000 < (split 10 text).length ∨ (raw = false ∧ 120 < (split 10 text).length)
  · exact read_long text raw w h hl
  · simp only [not_or, not_and] at hl
    exact read_fits text raw w h (by omega) (fun e => by have := hl.2 e; omega)
end Go.Proofs.YtmlgajhhnojdjaaGreatDoor.RefM
/- The law Looked, walked: for texts of at most 2^20 letters, in every world that holds the tables. -/
namespace Go.Proofs.YtmlgajhhnojdjaaGreatDoor.PrjX
open Go Go.RowKit Go.Proofs.YtmlgajhhnojdjaaGreatDoor.Spec Go.Proofs.YtmlgajhhnojdjaaGreatDoor.Aux Go.Proofs.YtmlgajhhnojdjaaGreatDoor.PrjF Go.Proofs.YtmlgajhhnojdjaaGreatDoor.PrjG Go.Proofs.YtmlgajhhnojdjaaGreatDoor.PrjJ Go.Proofs.YtmlgajhhnojdjaaGreatDoor.PrjK Go.Proofs.YtmlgajhhnojdjaaGreatDoor.PrjW Go.Proofs.YtmlgajhhnojdjaaGreatDoor.RefM

set_option maxRecDepth 20000 in
theorem readRaw_any (text : B) (w : World) (h : text.length ≤ 1048576) (E : Env w) : Calls Tryz.prog 48 #[.string (bs text)] w (PReadPost text true w) := by
  have K := pread_any text true w h E
  replace K := K.mono (R' := fun e w' => ∃ v, e = .returned (.tuple #[v, .int .i64 ((prjRead text true).2.1 : Nat), .int .i64 ((prjRead text true).2.2 : Nat)]) ∧ PReadPost text true w (.returned (.tuple #[v, .int .i64 ((prjRead text true).2.1 : Nat), .int .i64 ((prjRead text true).2.2 : Nat)])) w') fun e w' hp => by
    have hp' := hp
    obtain ⟨-, v, rfl, -⟩ := hp'
    exact ⟨v, rfl, hp⟩
  generalize (prjRead text true).2.1 = c1 at K
  generalize (prjRead text true).2.2 = c2 at K
  have K2 : Calls Tryz.prog 72 #[.agg #[.bool true, .int .i64 4000, .int .i64 2000], .string (bs text)] w _ := K
  go_enter Tryz.func48, Tryz.ntmps48
  go_wp2_with (go_at_call 72; refine K2.mono ?_; rintro e w1 ⟨v, rfl, hp⟩)
  go_ret3
  exact hp
theorem num_any (n : Int) (w : World) : Calls Tryz.prog 35 #[.int .i64 n] w fun e w' => e = .returned (.int .i64 n) ∧ w' = w := by
  go_enter Tryz.func35, Tryz.ntmps35
  go_wp2
  go_ret
  exact ⟨rfl, rfl⟩
end Go.Proofs.YtmlgajhhnojdjaaGreatDoor.PrjX
/- What the project's reader and its flow make of a text, told by the document's own words: plain facts, and the flow's contract. -/
namespace Go.Proofs.YtmlgajhhnojdjaaGreatDoor.FlwZ
open Go Go.RowKit Go.Proofs.YtmlgajhhnojdjaaGreatDoor.Spec Go.Proofs.YtmlgajhhnojdjaaGreatDoor.Aux Go.Proofs.YtmlgajhhnojdjaaGreatDoor.PrjF Go.Proofs.YtmlgajhhnojdjaaGreatDoor.PrjG Go.Proofs.YtmlgajhhnojdjaaGreatDoor.PrjJ Go.Proofs.YtmlgajhhnojdjaaGreatDoor.PrjK Go.Proofs.YtmlgajhhnojdjaaGreatDoor.PrjM Go.Proofs.YtmlgajhhnojdjaaGreatDoor.PrjS Go.Proofs.YtmlgajhhnojdjaaGreatDoor.PrjW Go.Proofs.YtmlgajhhnojdjaaGreatDoor.PrjX Go.Proofs.YtmlgajhhnojdjaaGreatDoor.RefM Go.Proofs.YtmlgajhhnojdjaaGreatDoor.FlwF Go.Proofs.YtmlgajhhnojdjaaGreatDoor.FlwI Go.Proofs.YtmlgajhhnojdjaaGreatDoor.FlwK Go.Proofs.YtmlgajhhnojdjaaGreatDoor.FlwM Go.Proofs.YtmlgajhhnojdjaaGreatDoor.FlwO Go.Proofs.YtmlgajhhnojdjaaGreatDoor.FlwP Go.Proofs.YtmlgajhhnojdjaaGreatDoor.FlwQ Go.Proofs.YtmlgajhhnojdjaaGreatDoor.FlwR Go.Proofs.YtmlgajhhnojdjaaGreatDoor.FlwV Go.Proofs.YtmlgajhhnojdjaaGreatDoor.FlwX Go.Proofs.YtmlgajhhnojdjaaGreatDoor.FlwY

theorem prjRead_bad {text : B} {raw : Bool} {c k : Nat} (h : prjRead text raw = (none, c, k)) : 1 ≤ c ∧ refRead text raw = (none, c, k) := by
  have hc : 1 ≤ c := by
    by_cases hlong : (split 10 text).length > (if raw then 4000 else 120)
    · rw [prjRead, if_pos hlong] at h; simp only [Prod.mk.injEq] at h; omega
    · rw [prjRead, if_neg hlong] at h
      split at h
      · simp only [Prod.mk.injEq] at h; omega
      · split at h
        · simp only [Prod.mk.injEq] at h; omega
        · split at h
          · simp only [Prod.mk.injEq] at h; omega
          · split at h
            · simp only [Prod.mk.injEq] at h; omega
            · cases h
  refine ⟨hc, ?_⟩
  have h2 := (read_same text raw).1
  rw [h] at h2
  simp only at h2
  cases hr : refRead text raw with
  | mk op ck =>
    rw [hr] at h2
    simp only at h2
    subst h2
    cases op with
    | none => rfl
    | some p => have := (refRead_good hr).2.1; omega
theorem prjRead_good {text : B} {raw : Bool} {q : QP} {c k : Nat} (h : prjRead text raw = (some q, c, k)) : c = 0 ∧ k = 0 ∧ ∃ p, refRead text raw = (some p, 0, 0) ∧ Both text raw p q := by
  obtain ⟨p, hb⟩ := read_more (text := text) (raw := raw) (q := q) (by rw [h])
  have h2 := (read_same text raw).1
  have e : refRead text raw = (some p, (refRead text raw).2.1, (refRead text raw).2.2) := by rw [← hb.ref]
  obtain ⟨-, e1, e2, -⟩ := refRead_good e
  have e3 : refRead text raw = (some p, 0, 0) := by rw [e, e1, e2]
  rw [h, e3] at h2
  simp only [Prod.mk.injEq] at h2
  exact ⟨h2.1, h2.2, p, e3, hb⟩
end Go.Proofs.YtmlgajhhnojdjaaGreatDoor.FlwZ
/- Check, walked: for texts of at most 2^20 letters, in every world that holds the tables. -/
namespace Go.Proofs.YtmlgajhhnojdjaaGreatDoor.FlwZa
theorem hereFlwZa : True := trivial
end Go.Proofs.YtmlgajhhnojdjaaGreatDoor.FlwZa
/- The same rules for an operation that isn't written out. -/
namespace Go.Proofs.YtmlgajhhnojdjaaGreatDoor.Aux
open Go Go.RowKit Go.Proofs.YtmlgajhhnojdjaaGreatDoor.Spec Go.Proofs.YtmlgajhhnojdjaaGreatDoor.RefR
def loadArg (o : Oper) : Operand := match o.op with | .load _ x => x | _ => .tmp 0
def loadsWays (o : Oper) : Bool := match o.op with | .load t _ => t == 155 | _ => false
def storeTo (o : Oper) : Operand := match o.op with | .store _ x _ => x | _ => .tmp 0
def storeWhat (o : Oper) : Operand := match o.op with | .store _ _ y => y | _ => .tmp 0
def storesWays (o : Oper) : Bool := match o.op with | .store t _ _ => t == 155 | _ => false
section
variable (o : Oper) (a : Act) (w : World) (K : Act → World → Prop) (Q : Exit → Act → World → Prop)
end
end Go.Proofs.YtmlgajhhnojdjaaGreatDoor.Aux
/- A row of ways in a block of its own: read, written, one of them at a time. -/
namespace Go.Proofs.YtmlgajhhnojdjaaGreatDoor.Aux
theorem hereAuxI : True := trivial
end Go.Proofs.YtmlgajhhnojdjaaGreatDoor.Aux
/- A row of ways is made. -/
namespace Go.Proofs.YtmlgajhhnojdjaaGreatDoor.Aux
theorem hereAuxJ : True := trivial
end Go.Proofs.YtmlgajhhnojdjaaGreatDoor.Aux
/- What the document's own ways make of a set, an in, a none, and of a line that needs nothing. Conditions: the program lies in memory as it is kept; the locals are twelve at most; the place's local is there. -/
namespace Go.Proofs.YtmlgajhhnojdjaaGreatDoor.RefU
theorem hereRefU : True := trivial
end Go.Proofs.YtmlgajhhnojdjaaGreatDoor.RefU
/- What the document's own ways make of the other lines. Conditions: as for a set. -/
namespace Go.Proofs.YtmlgajhhnojdjaaGreatDoor.RefV
theorem hereRefV : True := trivial
end Go.Proofs.YtmlgajhhnojdjaaGreatDoor.RefV
/- What the document's own ways make of the other lines. Conditions: as for a set. -/
namespace Go.Proofs.YtmlgajhhnojdjaaGreatDoor.RefW
theorem hereRefW : True := trivial
end Go.Proofs.YtmlgajhhnojdjaaGreatDoor.RefW
/- What the document's own ways make of the other lines. Conditions: as for a set. -/
namespace Go.Proofs.YtmlgajhhnojdjaaGreatDoor.RefX
theorem hereRefX : True := trivial
end Go.Proofs.YtmlgajhhnojdjaaGreatDoor.RefX
/- What the document's own ways make of the other lines. Conditions: as for a set. -/
namespace Go.Proofs.YtmlgajhhnojdjaaGreatDoor.RefY
theorem hereRefY : True := trivial
end Go.Proofs.YtmlgajhhnojdjaaGreatDoor.RefY
/- What the document's own ways make of the other lines. Conditions: as for a set. -/
namespace Go.Proofs.YtmlgajhhnojdjaaGreatDoor.RefZ
theorem hereRefZ : True := trivial
end Go.Proofs.YtmlgajhhnojdjaaGreatDoor.RefZ
