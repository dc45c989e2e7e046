/- Names and types of a line whose form is right. Condition: the program lies in memory as it is kept. -/
import Derived.Test.YtmlgajhhnojdjaaGreatDoorPAT
import Derived.Test.YtmlgajhhnojdjaaGreatDoorPAB
import Derived.Test.YtmlgajhhnojdjaaGreatDoorPAE
import Derived.Deep.DeepCutAuto
import Derived.Deep.LoopGhost
import Derived.Deep.RegionLaw
import Derived.Test.YtmlgajhhnojdjaaGreatDoorPAP
import Derived.Laws.MakeOwn
namespace Go.Proofs.YtmlgajhhnojdjaaGreatDoor.RefN
open Go.RowKit Go.Proofs.YtmlgajhhnojdjaaGreatDoor.Spec Go.Proofs.YtmlgajhhnojdjaaGreatDoor.RefA Go.Proofs.YtmlgajhhnojdjaaGreatDoor.RefI Go.Proofs.YtmlgajhhnojdjaaGreatDoor.RefJ Go.Proofs.YtmlgajhhnojdjaaGreatDoor.Aux
theorem names_ok (p : RP) (a i : Nat) (w : World) (hp : ProgAt w a p) (hok : p.Ok) (hi : i < p.lines.length) (hl : p.LineOk i) :
    Calls Tryz.prog 70 #[.pointer (some ⟨a, 0, none⟩), .int .i64 i] w fun e w' => e = .returned (.bool (p.names i)) ∧ ∃ n, w' = w.drewN n := by
  unfold RP.LineOk at hl
  by_cases hlet : word (p.line i) 0 = wLet
  · rw [if_pos hlet] at hl
    exact names_let p a i w hp hok hi hlet hl.1 (RP.find_mem hl.2)
  · rw [if_neg hlet] at hl
    exact names_line p a i w hp hok hi hlet hl
theorem types_ok (p : RP) (a i : Nat) (w : World) (hp : ProgAt w a p) (hok : p.Ok) (hi : i < p.lines.length) (hl : p.LineOk i) (hlet : ¬ word (p.line i) 0 = wLet) (hn : p.names i = true) :
    Calls Tryz.prog 71 #[.pointer (some ⟨a, 0, none⟩), .int .i64 i] w fun e w' => e = .returned (.bool (p.types i)) ∧ ∃ n, w' = w.drewN n := by
  unfold RP.LineOk at hl
  rw [if_neg hlet] at hl
  exact types_any p a i w hp hok hi hl (fun k hk hc => RP.names_find hn hlet k hk hc) (fun hm => RP.names_m hn hlet hm)
end Go.Proofs.YtmlgajhhnojdjaaGreatDoor.RefN
/- What the document's own reader answers on a whole text. Condition: the text has at most 2^40 bytes. -/
namespace Go.Proofs.YtmlgajhhnojdjaaGreatDoor.RefM
open Go.RowKit Go.Proofs.YtmlgajhhnojdjaaGreatDoor.Spec Go.Proofs.YtmlgajhhnojdjaaGreatDoor.RefA Go.Proofs.YtmlgajhhnojdjaaGreatDoor.RefE Go.Proofs.YtmlgajhhnojdjaaGreatDoor.RefF Go.Proofs.YtmlgajhhnojdjaaGreatDoor.RefL Go.Proofs.YtmlgajhhnojdjaaGreatDoor.RefN Go.Proofs.YtmlgajhhnojdjaaGreatDoor.Aux

theorem split_row (l : B) (c : UInt8) (w : World) (h : l.length ≤ 1099511627776) :
    Calls Tryz.prog 67 #[.string (bs l), .int .u8 c.toNat] w fun e w' => ∃ g cap, e = .returned (.slice (some ⟨g, 0, none⟩) (split c l).length cap) ∧ w'.ownsRow w.heap.size 9 1 (.slice (some ⟨g, 0, none⟩) (split c l).length cap) (split c l).length (cellsOf (split c l)) ∧ Below w.heap.size w w' := by
  refine (split_bs l c w h).mono ?_
  rintro e w' ⟨v, rfl, ho, hb⟩
  have hl : 1 ≤ (split c l).length := by
    have := split_ne c l
    cases hs : split c l with
    | nil => exact absurd hs this
    | cons a b => simp
  obtain ⟨g, cap, rfl, -⟩ := strRow_of ho hl
  exact ⟨g, cap, rfl, ho, hb⟩
theorem split_row10 (l : B) (w : World) (h : l.length ≤ 1099511627776) :
    Calls Tryz.prog 67 #[.string (bs l), .int .u8 10] w fun e w' => ∃ g cap, e = .returned (.slice (some ⟨g, 0, none⟩) (split 10 l).length cap) ∧ w'.ownsRow w.heap.size 9 1 (.slice (some ⟨g, 0, none⟩) (split 10 l).length cap) (split 10 l).length (cellsOf (split 10 l)) ∧ Below w.heap.size w w' := split_row l 10 w h
theorem split_row32 (l : B) (w : World) (h : l.length ≤ 1099511627776) :
    Calls Tryz.prog 67 #[.string (bs l), .int .u8 32] w fun e w' => ∃ g cap, e = .returned (.slice (some ⟨g, 0, none⟩) (split 32 l).length cap) ∧ w'.ownsRow w.heap.size 9 1 (.slice (some ⟨g, 0, none⟩) (split 32 l).length cap) (split 32 l).length (cellsOf (split 32 l)) ∧ Below w.heap.size w w' := split_row l 32 w h

theorem info_strs : (Tryz.prog.info? 34).map (fun i => (i.zero, i.size, i.bytes)) = some (some (.slice none 0 0), 1, 24) := by kernel_rfl
theorem info_int : (Tryz.prog.info? 3).map (fun i => (i.zero, i.size, i.bytes)) = some (some (.int .i64 0), 1, 8) := by kernel_rfl

theorem rinv_start (z : Nat) (w : World) (raw : Bool) (hz : z ≤ w.heap.size) : RInv z w.heap.size (w.alloc (.cells #[.slice none 0 0, .slice none 0 0, .slice none 0 0, .bool raw] 128)) (Spec.start raw) (.slice none 0 0) (.slice none 0 0) (.slice none 0 0) [] :=
  ⟨hz, by show (w.heap.push _)[w.heap.size]? = _; simp [Spec.start], World.ownsRow_nil _ _ _ _, fun j hj => by simp at hj, World.ownsRow_nil _ _ _ _, World.ownsRow_nil _ _ _ _, .inl rfl⟩
/-- what Read leaves -/
def ReadPost (text : B) (raw : Bool) (w : World) (e : Ending) (w' : World) : Prop :=
  Below w.heap.size w w' ∧ ∃ v, e = .returned (.tuple #[v, .int .i64 ((refRead text raw).2.1 : Int), .int .i64 ((refRead text raw).2.2 : Int)]) ∧
    ((refRead text raw).1 = none ∧ v = .pointer none ∨ ∃ p a, (refRead text raw).1 = some p ∧ v = .pointer (some ⟨a, 0, none⟩) ∧ p.Ok ∧ ∃ vl vt vb us, RInv w.heap.size a w' p vl vt vb us)
theorem post_bad {text : B} {raw : Bool} {w w' : World} {c k : Nat} (hb : Below w.heap.size w w') (h : refRead text raw = (none, c, k)) : ReadPost text raw w (.returned (.tuple #[.pointer none, .int .i64 (c : Int), .int .i64 (k : Int)])) w' :=
  ⟨hb, .pointer none, by rw [h], .inl ⟨by rw [h], rfl⟩⟩
theorem post_good {text : B} {raw : Bool} {w w' : World} {L : List B} {a : Nat} {v0 : Value} {p : RP} (hh : Held L w a v0 w' p) (hok : p.Ok) (h : refRead text raw = (some p, 0, 0)) : ReadPost text raw w (.returned (.tuple #[.pointer (some ⟨a, 0, none⟩), .int .i64 0, .int .i64 0])) w' :=
  ⟨hh.old, .pointer (some ⟨a, 0, none⟩), by rw [h]; rfl, .inr ⟨p, a, by rw [h], rfl, hok, hh.inv⟩⟩
theorem refRead_form {text : B} {raw : Bool} {k : Nat} {q : RP} (h1 : (split 10 text).length ≤ 4000) (h2 : raw = false → (split 10 text).length ≤ 120) (h : readForm (wordsOf text) (Spec.start raw) 0 = (q, some k)) : refRead text raw = (none, 2, k) := by
  rw [refRead, if_neg, h]
  rintro (h' | ⟨h', h''⟩)
  · omega
  · have := h2 h'; omega

set_option maxRecDepth 20000 in
set_option maxHeartbeats 4000000 in
theorem read_fits (text : B) (raw : Bool) (w : World) (h : text.length ≤ 1099511627776) (h1 : (split 10 text).length ≤ 4000) (h2 : raw = false → (split 10 text).length ≤ 120) :
    Calls Tryz.prog 46 #[.string (bs text), .bool raw] w (ReadPost text raw w) := by
  have H2 : Hid (raw = false → (split 10 text).length ≤ 120) := h2
  have hlong : Hid (∀ j, (word (split 10 text) j).length ≤ 1099511627776) := fun j => Nat.le_trans (word_split_le 10 text j) h
  obtain ⟨i34, hi34, hz34a, hz34b, hz34c⟩ := info_parts info_strs
  obtain ⟨i3, hi3, hz3a, hz3b, hz3c⟩ := info_parts info_int
  go_enter Tryz.func46, Tryz.ntmps46
  go_upto_region 2 with (go_at_call 67; refine (split_row10 text _ h).mono ?_; rintro e w1 ⟨g0, c0, rfl, ho0, hb0⟩)
  go_cut [29] (fun b wc => wc = w1 ∧ b = .bool false)
  case first =>
    cases raw
    · have h3 := h2 rfl
      clear h2
      go_wp2
      go_meet
      case rel => exact ⟨rfl, by congr 1; simp; omega⟩
    · clear h2
      go_wp2
      go_meet
      case rel => exact ⟨rfl, by congr 1; simp; omega⟩
  case rest =>
    obtain ⟨rfl, rfl⟩ := hcut
    clear h2
    go_wp2
    have hsz0 := hb0.size
    have hstart : Held (split 10 text) w wc.heap.size (.slice (some ⟨g0, 0, none⟩) (split 10 text).length c0) (wc.alloc (.cells #[.slice none 0 0, .slice none 0 0, .slice none 0 0, .bool raw] 128)) (Spec.start raw) :=
      ⟨⟨_, _, _, _, rinv_start w.heap.size wc raw hsz0⟩, hb0.alloc hsz0 _, ho0.alloc _⟩
    generalize hA : wc.heap.size = a at *
    clear hA
    go_loopw [9] (fun i wr => ∃ (k : Nat) (p : RP), k ≤ (split 10 text).length ∧ i = .int .i64 k ∧ Held (split 10 text) w a (.slice (some ⟨g0, 0, none⟩) (split 10 text).length c0) wr p ∧ Hid (PureR text raw k p)) (fun i _ => (split 10 text).length - (intOf i).toNat)
    case atStart => exact ⟨0, Spec.start raw, Nat.zero_le _, rfl, hstart, PureR.start text raw⟩
    case round =>
      obtain ⟨k, p, hk, rfl, hH, HP⟩ := hrel
      clear hstart ho0 hb0 hsz0
      by_cases hlt : k < (split 10 text).length
      · have hHH := hH
        obtain ⟨⟨vl, vt, vb, us, hinv⟩, hold, hrow⟩ := hH
        have hcl : wr.cell? ⟨a, 0, none⟩ = some vl := by rw [cell_of_heap hinv.blk]; rfl
        have hfl : wr.frozen? ⟨a, 0, none⟩ = false := frozen_of_heap hinv.blk 0
        obtain ⟨g, cap, e, hcap, hg0, hcell⟩ := strRow_of hrow (by omega)
        simp only [Value.slice.injEq, Option.some.injEq, Addr.mk.injEq, and_true, true_and] at e
        obtain ⟨rfl, rfl⟩ := e
        have hcx := hcell k hlt
        have hk3 : (k : Int) < (split 10 text).length := by omega
        have hbase : w.heap.size ≤ wr.heap.size := hold.size
        have halt := hinv.lt
        have hps := HP.out.ok.size
        have hneA : some a ≠ vl.ownBlock := (own_at_ne hinv.lines hinv.blk (by decide)).symm
        have HPK : Hid (p.lines.length = k) := HP.out.length (by omega)
        clear hcell
        go_upto_region 8 with fail
        go_cut [] (fun wc' => Held (split 10 text) w a (.slice (some ⟨g0, 0, none⟩) (split 10 text).length c0) wc' (p.addLine (split 32 (word (split 10 text) k))))
        case first =>
          go_region_law (first
              | (refine step_lies (by rfl) _ _ _ (by rfl) w.heap.size 34 i34 (.slice none 0 0) 24 Tryz.underlying126 hi34 hz34a hz34b hz34c (by rfl) _ _ _ (by rfl) (own_below hinv.lines hb1) _ (by rfl) (by rfl) (by decide) (by omega) (by have := hb1.size; omega) ?_; intro g2 c2 w2 hown2 hgrow2 hat2 hlt2; have hfz : w2.frozen? ⟨a, 0, none⟩ = false := (by rw [World.frozen?_of_block (hgrow2.block a (by have := hb1.size; simp; omega) hneA), (below_alloc _ _).frozen (by exact hsz1), hb1.frozen (by exact halt)]; exact hfl); have hcl2 : w2.cell? ⟨a, 0, none⟩ = some vl := (hgrow2.cell (by rw [(below_alloc _ _).cell (by exact hsz1)]; exact hcl1) hneA))
              | (go_simp; go_at_call 67; refine (split_row32 _ _ (hlong.out k)).mono ?_; rintro e w1 ⟨g1, c1, rfl, ho1, hb1'⟩; have hb1 : Below wr.heap.size wr w1 := below_drew hb1'; have hcl1 : w1.cell? ⟨a, 0, none⟩ = some vl := (by rw [hb1.cell (by exact halt)]; exact hcl); have hsz1 : a < w1.heap.size := (by have := hb1.size; omega)))
          all_goals go_wp2_with fail
          all_goals
            go_meet
            case rel => exact hHH.line hinv hb1 ho1 hown2 hgrow2
        case rest =>
          have HBAD : Hid ((p.addLine (split 32 (word (split 10 text) k))).form k = false → refRead text raw = (none, 2, k)) := fun hf => by
            obtain ⟨q, hq⟩ := HP.out.bad hlt hf
            exact refRead_form h1 H2.out hq
          have HSTEP : Hid ((p.addLine (split 32 (word (split 10 text) k))).form k = true → PureR text raw (k + 1) ((p.addLine (split 32 (word (split 10 text) k))).mark k)) := fun hf => HP.out.step h hlt h1 hf
          have hok1 := HP.out.okLine h hlt h1
          have hl1 : k < (p.addLine (split 32 (word (split 10 text) k))).lines.length := by have := HPK.out; simp [RP.addLine]; omega
          have hfew : (p.addLine (split 32 (word (split 10 text) k))).lets.length < 4000 ∧ (p.addLine (split 32 (word (split 10 text) k))).blocks.length < 4000 := by have := HP.out.few; simp [RP.addLine]; omega
          clear hcl hfl hcx hneA HPK HP hinv hrow hold hHH hps halt hbase hg0 hcap
          generalize p.addLine (split 32 (word (split 10 text) k)) = p1 at *
          obtain ⟨hfew1, hfew2⟩ := hfew
          have hPA := hcut.progAt hok1
          have HFm := form_any p1 a k _ hPA hok1 hl1
          obtain ⟨gL, capL, gl, capl, hc1, hc1', hc2, hc2', hw⟩ := hPA.line_at k hl1
          have hwn := hok1.words k hl1
          have hw0 := hw 0 (by omega)
          have hi30 : (0 : Int) < (p1.line k).length := by omega
          have hi31 : (k : Int) < p1.lines.length := by omega
          have hsz1 := hok1.size
          cases hf : p1.form k
          · rw [hf] at HFm
            have hx := HBAD.out hf
            clear HBAD HSTEP hf
            go_wp2_with (go_at_call 68; refine HFm.mono ?_; rintro e w' ⟨rfl, n, rfl⟩)
            go_ret3
            exact post_bad (hcut.drewN n).old hx
          · rw [hf] at HFm
            have HM := HSTEP.out hf
            have hokm := hok1.mark1 hl1 hf hfew1
            have HST : Hid (PureR text raw (k + 1) (p1.mark k)) := HM
            clear HBAD HSTEP HM hf
            go_upto_if 68 with (go_at_call 68; refine HFm.mono ?_; rintro e w' ⟨rfl, n, rfl⟩)
            clear HFm
            have hcn := hcut.drewN n
            go_cut [] (fun wc2 => Held (split 10 text) w a (.slice (some ⟨g0, 0, none⟩) (split 10 text).length c0) wc2 (p1.mark1 k))
            case first =>
              have hcn' := hcn
              obtain ⟨⟨vl1, vt1, vb1, us1, hinv1⟩, hold1, hrow1⟩ := hcn
              have hct : wc.cell? ⟨a, 1, none⟩ = some vt1 := by have := cell_of_heap hinv1.blk 1; exact this
              have hft : wc.frozen? ⟨a, 1, none⟩ = false := by have := frozen_of_heap hinv1.blk 1; exact this
              have hbase1 := hold1.size
              have halt1 : a < wc.heap.size := hinv1.lt
              have hneT : some a ≠ vt1.ownBlock := (own_at_ne hinv1.lets hinv1.blk (by decide)).symm
              go_wp2_with (at_builtin; refine append_lies rfl _ _ 113 rfl w.heap.size 3 i3 (.int .i64 0) 8 Tryz.underlying113 hi3 hz3a hz3b hz3c rfl vt1 _ _ rfl hinv1.lets _ rfl rfl (by decide) (by omega) hbase1 ?_; intro g2 c2 w2 hown2 hgrow2 hat2 hlt2; have hfz : w2.frozen? ⟨a, 1, none⟩ = false := (by rw [World.frozen?_of_block (hgrow2.block a (by simp; omega) hneT), (below_alloc _ _).frozen (by exact halt1)]; exact hft); have hcl2 : w2.cell? ⟨a, 1, none⟩ = some vt1 := (hgrow2.cell (by rw [(below_alloc _ _).cell (by exact halt1)]; exact hct) hneT))
              · go_meet
                case rel =>
                  have hm1 : p1.mark1 k = p1.addLet k := by rw [RP.mark1, if_pos (by simpa [wLet] using ‹(word (p1.line k) 0 == _) = true›)]
                  rw [hm1]
                  exact hcn'.addLet hinv1 hown2 hgrow2 (fun g hg => by
                    simp only [Value.ownBlock, Option.some.injEq] at hg
                    subst hg
                    simpa using hat2)
              · go_meet
                case rel =>
                  have hm1 : p1.mark1 k = p1 := by rw [RP.mark1, if_neg (by simpa [wLet] using ‹(word (p1.line k) 0 == _) = false›)]
                  rw [hm1]
                  exact hcn'
            case rest =>
              have hmb : Hid (word (p1.line k) 0 = wBlock → p1.mark k = (p1.mark1 k).addBlock k) := fun e => RP.mark_block e
              have hmn : Hid (¬ word (p1.line k) 0 = wBlock → p1.mark k = p1.mark1 k) := fun e => RP.mark_none e
              have hl2 : k < (p1.mark1 k).lines.length := by rw [RP.mark1_lines]; exact hl1
              have hlk : (p1.mark1 k).line k = p1.line k := RP.mark1_line _ _ _
              have hfew3 : (p1.mark1 k).blocks.length < 4000 := by unfold RP.mark1; split <;> exact hfew2
              clear hc1 hc1' hc2 hc2' hw hw0 hPA hcn
              generalize p1.mark1 k = p2 at *
              have hPA := hcut.progAt hokm
              obtain ⟨gL, capL, gl, capl, hc1, hc1', hc2, hc2', hw⟩ := hPA.line_at k hl2
              rw [hlk] at hc2 hc2' hw
              have hw0 := hw 0 (by omega)
              have hi32 : (k : Int) < p2.lines.length := by omega
              have hsz2 := hokm.size
              have hcut' := hcut
              obtain ⟨⟨vl1, vt1, vb1, us1, hinv1⟩, hold1, hrow1⟩ := hcut
              have hct : wc.cell? ⟨a, 2, none⟩ = some vb1 := by have := cell_of_heap hinv1.blk 2; exact this
              have hft : wc.frozen? ⟨a, 2, none⟩ = false := by have := frozen_of_heap hinv1.blk 2; exact this
              have hbase1 := hold1.size
              have halt1 : a < wc.heap.size := hinv1.lt
              have hneT : some a ≠ vb1.ownBlock := (own_at_ne hinv1.blocks hinv1.blk (by decide)).symm
              clear hw hlk hPA
              go_wp2_with (at_builtin; refine append_lies rfl _ _ 113 rfl w.heap.size 3 i3 (.int .i64 0) 8 Tryz.underlying113 hi3 hz3a hz3b hz3c rfl vb1 _ _ rfl hinv1.blocks _ rfl rfl (by decide) (by omega) hbase1 ?_; intro g2 c2 w2 hown2 hgrow2 hat2 hlt2; have hfz : w2.frozen? ⟨a, 2, none⟩ = false := (by rw [World.frozen?_of_block (hgrow2.block a (by simp; omega) hneT), (below_alloc _ _).frozen (by exact halt1)]; exact hft); have hcl2 : w2.cell? ⟨a, 2, none⟩ = some vb1 := (hgrow2.cell (by rw [(below_alloc _ _).cell (by exact halt1)]; exact hct) hneT))
              · go_roundw
                case rel =>
                  refine ⟨k + 1, p1.mark k, by omega, by go_num, ?_, HST⟩
                  rw [hmb.out (by simpa [wBlock] using ‹(word (p1.line k) 0 == _) = true›)]
                  exact hcut'.addBlock hinv1 hown2 hgrow2 (fun g hg => by
                    simp only [Value.ownBlock, Option.some.injEq] at hg
                    subst hg
                    simpa using hat2)
                case measure => simp [intOf]; omega
              · go_roundw
                case rel =>
                  refine ⟨k + 1, p1.mark k, by omega, by go_num, ?_, HST⟩
                  rw [hmn.out (by simpa [wBlock] using ‹(word (p1.line k) 0 == _) = false›)]
                  exact hcut'
                case measure => simp [intOf]; omega
      · obtain rfl : k = (split 10 text).length := by omega
        have HR : Hid (_ = _) := refRead_fit h1 H2.out HP.out.read
        have hok := HP.out.ok
        have HLO : Hid (∀ j, j < (split 10 text).length → p.LineOk j) := HP.out.lineOk
        have HN : Hid (p.lines.length = (split 10 text).length) := HP.out.length (Nat.le_refl _)
        have hPA := hH.progAt hok
        have hbn := hok.blockn
        obtain ⟨bb, cb, hlenb⟩ := hPA.blocks_len
        have HIN := inside_any p a (split 10 text).length wr hPA hok (by rw [HN.out]; omega)
        clear HP hlong hlt H2 hk
        by_cases hin : p.inside (split 10 text).length = true
        · have hx : refRead text raw = (none, 2, (split 10 text).length) := by rw [HR.out, if_pos (.inl hin)]
          rw [hin] at HIN
          clear HR hin
          go_wp2_with (go_at_call 69; refine HIN.mono ?_; rintro e w' ⟨rfl, n, rfl⟩)
          go_ret3
          exact post_bad (hH.drewN n).old hx
        · by_cases hb0 : p.blocks.length = 0
          · have hx : refRead text raw = (none, 2, (split 10 text).length) := by rw [HR.out, if_pos (.inr hb0)]
            rw [Bool.not_eq_true] at hin
            rw [hin] at HIN
            clear HR hin
            go_wp2_with (go_at_call 69; refine HIN.mono ?_; rintro e w' ⟨rfl, n, rfl⟩)
            go_ret3
            exact post_bad (hH.drewN n).old hx
          · have HR2 : Hid (refRead text raw = match firstNot p.names ((split 10 text).length - 0) 0 with
                | some i => (none, 3, i)
                | none => match firstNot p.typesOk ((split 10 text).length - 0) 0 with
                  | some i => (none, 4, i)
                  | none => (some p, 0, 0)) := by rw [HR.out, if_neg (not_or.mpr ⟨hin, hb0⟩)]; rfl
            rw [Bool.not_eq_true] at hin
            rw [hin] at HIN
            have hb1 : ((p.blocks.length : Int) == 0) = false := by rw [beq_eq_false_iff_ne]; omega
            clear HR hin hb0
            go_wp2_with (go_at_call 69; refine HIN.mono ?_; rintro e w' ⟨rfl, n, rfl⟩)
            obtain ⟨wo, hwo⟩ : ∃ wo : World, wo = wr := ⟨_, rfl⟩
            subst hwo
            go_loopg [12] ((split 10 text).length) (fun gk i wn => ∃ (k m : Nat), k ≤ (split 10 text).length ∧ gk + k = (split 10 text).length ∧ i = .int .i64 k ∧ wn = wo.drewN m ∧ Hid (firstNot p.names ((split 10 text).length - 0) 0 = firstNot p.names ((split 10 text).length - k) k))
            case atStart => exact ⟨0, n, Nat.zero_le _, rfl, rfl, rfl, rfl⟩
            case round =>
              obtain ⟨k, m, hk, hgk, rfl, rfl, HI⟩ := hrel
              by_cases hlt : k < (split 10 text).length
              · have HS : Hid (_ = _) := firstNot_step p.names _ k hlt
                have HNm := names_ok p a k (wo.drewN m) (hPA.drewN m) hok (by rw [HN.out]; exact hlt) (HLO.out k hlt)
                clear HIN
                cases hnm : p.names k
                · have hx : refRead text raw = (none, 3, k) := by rw [HR2.out, HI.out, HS.out, hnm]; rfl
                  rw [hnm] at HNm
                  clear hnm
                  go_wp2_with (go_at_call 70; refine HNm.mono ?_; rintro e w' ⟨rfl, nn, rfl⟩)
                  go_ret3
                  exact post_bad (hH.drewN (m + nn)).old hx
                · have hx : Hid (firstNot p.names ((split 10 text).length - k) k = firstNot p.names ((split 10 text).length - (k + 1)) (k + 1)) := by unfold Hid; rw [HS.out, hnm]; rfl
                  rw [hnm] at HNm
                  clear hnm
                  go_wp2_with (go_at_call 70; refine HNm.mono ?_; rintro e w' ⟨rfl, nn, rfl⟩)
                  go_roundg ((split 10 text).length - (k + 1))
                  case rel => exact ⟨k + 1, m + nn, by omega, by omega, by go_num, by simp, by rw [HI.out, hx.out]; rfl⟩
                  case measure => omega
              · have HA : Hid (∀ j, j < (split 10 text).length → p.names j = true) := fun j hj => firstNot_all p.names _ 0 (by rw [HI.out, show (split 10 text).length - k = 0 by omega]; rfl) j (by omega) (by omega)
                have HR3 : Hid (refRead text raw = match firstNot p.typesOk ((split 10 text).length - 0) 0 with
                  | some i => (none, 4, i)
                  | none => (some p, 0, 0)) := by
                  unfold Hid
                  rw [HR2.out, HI.out, show (split 10 text).length - k = 0 by omega]; rfl
                clear HR2 HI HIN
                go_wp2
                clear hlt hk
                go_loopg [14] ((split 10 text).length) (fun gk i wn => ∃ (k m : Nat), k ≤ (split 10 text).length ∧ gk + k = (split 10 text).length ∧ i = .int .i64 k ∧ wn = wo.drewN m ∧ Hid (firstNot p.typesOk ((split 10 text).length - 0) 0 = firstNot p.typesOk ((split 10 text).length - k) k))
                case atStart => exact ⟨0, m, Nat.zero_le _, rfl, rfl, rfl, rfl⟩
                case round =>
                  obtain ⟨k, m, hk, hgk, rfl, rfl, HI⟩ := hrel
                  by_cases hlt : k < (split 10 text).length
                  · have HS : Hid (_ = _) := firstNot_step p.typesOk _ k hlt
                    have hkl : k < p.lines.length := by rw [HN.out]; exact hlt
                    obtain ⟨gL, capL, gl, capl, hc1, hc1', hc2, hc2', hw⟩ := hPA.line_at k hkl
                    have hwn := hok.words k hkl
                    have hw0 := hw 0 (by omega)
                    have hi30 : (0 : Int) < (p.line k).length := by omega
                    have hi31 : (k : Int) < p.lines.length := by omega
                    have hszp := hok.size
                    clear hw
                    by_cases hlet : word (p.line k) 0 = wLet
                    · have hbl : (word (p.line k) 0 == [108, 101, 116]) = true := by rw [hlet]; rfl
                      have hx : Hid (firstNot p.typesOk ((split 10 text).length - k) k = firstNot p.typesOk ((split 10 text).length - (k + 1)) (k + 1)) := by unfold Hid; rw [HS.out, if_pos (by simp [RP.typesOk, hlet])]
                      clear hlet
                      go_wp2
                      go_roundg ((split 10 text).length - (k + 1))
                      case rel => exact ⟨k + 1, m, by omega, by omega, by go_num, rfl, by rw [HI.out, hx.out]; rfl⟩
                      case measure => omega
                    · have hbl : (word (p.line k) 0 == [108, 101, 116]) = false := by simpa [wLet] using hlet
                      by_cases hblk : word (p.line k) 0 = wBlock
                      · have hbb : (word (p.line k) 0 == [98, 108, 111, 99, 107]) = true := by rw [hblk]; rfl
                        have hx : Hid (firstNot p.typesOk ((split 10 text).length - k) k = firstNot p.typesOk ((split 10 text).length - (k + 1)) (k + 1)) := by unfold Hid; rw [HS.out, if_pos (by simp [RP.typesOk, hblk])]
                        clear hlet hblk
                        go_wp2
                        go_roundg ((split 10 text).length - (k + 1))
                        case rel => exact ⟨k + 1, m, by omega, by omega, by go_num, rfl, by rw [HI.out, hx.out]; rfl⟩
                        case measure => omega
                      · have hbb : (word (p.line k) 0 == [98, 108, 111, 99, 107]) = false := by simpa [wBlock] using hblk
                        have hto : Hid (p.typesOk k = p.types k) := by unfold Hid RP.typesOk; rw [show (word (p.line k) 0 == wLet) = false from hbl, show (word (p.line k) 0 == wBlock) = false from hbb]; rfl
                        have HTm := types_ok p a k (wo.drewN m) (hPA.drewN m) hok hkl (HLO.out k hlt) hlet (HA.out k hlt)
                        clear hlet hblk
                        cases hty : p.types k
                        · have hx : refRead text raw = (none, 4, k) := by rw [HR3.out, HI.out, HS.out, hto.out, hty]; rfl
                          rw [hty] at HTm
                          clear hty
                          go_wp2_with (go_at_call 71; refine HTm.mono ?_; rintro e w' ⟨rfl, nn, rfl⟩)
                          go_ret3
                          exact post_bad (hH.drewN (m + nn)).old hx
                        · have hx : Hid (firstNot p.typesOk ((split 10 text).length - k) k = firstNot p.typesOk ((split 10 text).length - (k + 1)) (k + 1)) := by unfold Hid; rw [HS.out, hto.out, hty]; rfl
                          rw [hty] at HTm
                          clear hty
                          go_wp2_with (go_at_call 71; refine HTm.mono ?_; rintro e w' ⟨rfl, nn, rfl⟩)
                          go_roundg ((split 10 text).length - (k + 1))
                          case rel => exact ⟨k + 1, m + nn, by omega, by omega, by go_num, by simp, by rw [HI.out, hx.out]; rfl⟩
                          case measure => omega
                  · have hx : refRead text raw = (some p, 0, 0) := by rw [HR3.out, HI.out, show (split 10 text).length - k = 0 by omega]; rfl
                    clear HR3 HI
                    go_wp2
                    go_ret3
                    exact post_good (hH.drewN m) hok hx

set_option maxRecDepth 20000 in
set_option maxHeartbeats 1000000 in
theorem read_long (text : B) (raw : Bool) (w : World) (h : text.length ≤ 1099511627776) (h1 : 4000 < (split 10 text).length ∨ (raw = false ∧ 120 < (split 10 text).length)) :
    Calls Tryz.prog 46 #[.string (bs text), .bool raw] w (ReadPost text raw w) := by
  have hx : refRead text raw = (none, 1, 0) := by rw [refRead, if_pos h1]
  have hlen := split_length 10 text
  by_cases h4 : 4000 < (split 10 text).length
  · clear h1
    go_enter Tryz.func46, Tryz.ntmps46
    go_wp2_with (go_at_call 67; refine (split_row10 text _ h).mono ?_; rintro e w1 ⟨g0, c0, rfl, ho0, hb0⟩)
    go_ret3
    exact post_bad hb0 hx
  · obtain ⟨rfl, h5⟩ : raw = false ∧ 120 < (split 10 text).length := h1.resolve_left h4
    clear h1
    go_enter Tryz.func46, Tryz.ntmps46
    go_wp2_with (go_at_call 67; refine (split_row10 text _ h).mono ?_; rintro e w1 ⟨g0, c0, rfl, ho0, hb0⟩)
    go_ret3
    exact post_bad hb0 hx
theorem read_any (text : B) (raw : Bool) (w : World) (h : text.length ≤ 1099511627776) : Calls Tryz.prog 46 #[.string (bs text), .bool raw] w (ReadPost text raw w) := by
  by_cases hl : 4000 < (split 10 text).length ∨ (raw = false ∧ 120 < (split 10 text).length)
  · exact read_long text raw w h hl
  · simp only [not_or, not_and] at hl
    exact read_fits text raw w h (by omega) (fun e => by have := hl.2 e; omega)
end Go.Proofs.YtmlgajhhnojdjaaGreatDoor.RefM
/- The law Looked, walked: for texts of at most 2^20 letters, in every world that holds the tables. -/
namespace Go.Proofs.YtmlgajhhnojdjaaGreatDoor.PrjX
open Go Go.RowKit Go.Proofs.YtmlgajhhnojdjaaGreatDoor.Spec Go.Proofs.YtmlgajhhnojdjaaGreatDoor.Aux Go.Proofs.YtmlgajhhnojdjaaGreatDoor.PrjF Go.Proofs.YtmlgajhhnojdjaaGreatDoor.PrjG Go.Proofs.YtmlgajhhnojdjaaGreatDoor.PrjJ Go.Proofs.YtmlgajhhnojdjaaGreatDoor.PrjK Go.Proofs.YtmlgajhhnojdjaaGreatDoor.PrjW Go.Proofs.YtmlgajhhnojdjaaGreatDoor.RefM

set_option maxRecDepth 20000 in
theorem readRaw_any (text : B) (w : World) (h : text.length ≤ 1048576) (E : Env w) : Calls Tryz.prog 48 #[.string (bs text)] w (PReadPost text true w) := by
  have K := pread_any text true w h E
  replace K := K.mono (R' := fun e w' => ∃ v, e = .returned (.tuple #[v, .int .i64 ((prjRead text true).2.1 : Nat), .int .i64 ((prjRead text true).2.2 : Nat)]) ∧ PReadPost text true w (.returned (.tuple #[v, .int .i64 ((prjRead text true).2.1 : Nat), .int .i64 ((prjRead text true).2.2 : Nat)])) w') fun e w' hp => by
    have hp' := hp
    obtain ⟨-, v, rfl, -⟩ := hp'
    exact ⟨v, rfl, hp⟩
  generalize (prjRead text true).2.1 = c1 at K
  generalize (prjRead text true).2.2 = c2 at K
  have K2 : Calls Tryz.prog 72 #[.agg #[.bool true, .int .i64 4000, .int .i64 2000], .string (bs text)] w _ := K
  go_enter Tryz.func48, Tryz.ntmps48
  go_wp2_with (go_at_call 72; refine K2.mono ?_; rintro e w1 ⟨v, rfl, hp⟩)
  go_ret3
  exact hp
set_option maxRecDepth 20000 in
theorem read_any' (text : B) (w : World) (h : text.length ≤ 1048576) (E : Env w) : Calls Tryz.prog 53 #[.string (bs text)] w (PReadPost text false w) := by
  have K := pread_any text false w h E
  replace K := K.mono (R' := fun e w' => ∃ v, e = .returned (.tuple #[v, .int .i64 ((prjRead text false).2.1 : Nat), .int .i64 ((prjRead text false).2.2 : Nat)]) ∧ PReadPost text false w (.returned (.tuple #[v, .int .i64 ((prjRead text false).2.1 : Nat), .int .i64 ((prjRead text false).2.2 : Nat)])) w') fun e w' hp => by
    have hp' := hp
    obtain ⟨-, v, rfl, -⟩ := hp'
    exact ⟨v, rfl, hp⟩
  generalize (prjRead text false).2.1 = c1 at K
  generalize (prjRead text false).2.2 = c2 at K
  have K2 : Calls Tryz.prog 72 #[.agg #[.bool false, .int .i64 120, .int .i64 20], .string (bs text)] w _ := K
  go_enter Tryz.func53, Tryz.ntmps53
  go_wp2_with (go_at_call 72; refine K2.mono ?_; rintro e w1 ⟨v, rfl, hp⟩)
  go_ret3
  exact hp
set_option maxRecDepth 20000 in
theorem Look_any (text : B) (w : World) (h : text.length ≤ 1048576) (E : Env w) : Calls Tryz.prog 30 #[.string (bs text)] w fun e w' => e = .returned (.tuple #[.int .i64 ((refRead text true).2.1 : Nat), .int .i64 ((refRead text true).2.2 : Nat)]) ∧ Below w.heap.size w w' := by
  have K := (readRaw_any text w h E).mono (R' := fun e w' => ∃ v, e = .returned (.tuple #[v, .int .i64 ((refRead text true).2.1 : Nat), .int .i64 ((refRead text true).2.2 : Nat)]) ∧ Below w.heap.size w w') fun e w' hp => by
    obtain ⟨hb, v, rfl, -⟩ := hp
    rw [(read_same text true).1]
    exact ⟨v, rfl, hb⟩
  generalize (refRead text true).2.1 = c1 at *
  generalize (refRead text true).2.2 = c2 at *
  go_enter Tryz.func30, Tryz.ntmps30
  go_wp2_with (go_at_call 48; refine K.mono ?_; rintro e w1 ⟨v, rfl, hb⟩)
  go_ret2
  exact ⟨rfl, hb⟩
theorem num_any (n : Int) (w : World) : Calls Tryz.prog 35 #[.int .i64 n] w fun e w' => e = .returned (.int .i64 n) ∧ w' = w := by
  go_enter Tryz.func35, Tryz.ntmps35
  go_wp2
  go_ret
  exact ⟨rfl, rfl⟩
set_option maxRecDepth 20000 in
theorem look_any (text : B) (w : World) (h : text.length ≤ 1048576) (E : Env w) : Calls Tryz.prog 28 #[.string (bs text)] w fun e w' => e = .returned (.bool true) ∧ Below w.heap.size w w' := by
  have K1 := Look_any text w h E
  have K2 := fun w' => (read_any text true w' (by omega)).mono (R' := fun e w'' => ∃ v, e = .returned (.tuple #[v, .int .i64 ((refRead text true).2.1 : Nat), .int .i64 ((refRead text true).2.2 : Nat)]) ∧ Below w'.heap.size w' w'') fun e w'' hp => by
    obtain ⟨hb, v, rfl, -⟩ := hp
    exact ⟨v, rfl, hb⟩
  have KN := fun n w' => num_any n w'
  generalize (refRead text true).2.1 = c1 at *
  generalize (refRead text true).2.2 = c2 at *
  have b1 : ((c1 : Int) == (c1 : Int)) = true := by simp
  have b2 : ((c2 : Int) == (c2 : Int)) = true := by simp
  go_enter Tryz.func28, Tryz.ntmps28
  go_wp2_with (first
    | (go_at_call 30; refine K1.mono ?_; rintro e w1 ⟨rfl, hb1⟩)
    | (go_at_call 46; refine (K2 _).mono ?_; rintro e w2 ⟨v, rfl, hb2⟩)
    | (go_at_call 35; refine (KN _ _).mono ?_; rintro e w3 ⟨rfl, rfl⟩))
  go_ret
  exact ⟨rfl, hb1.trans (hb2.mono hb1.size)⟩
def rawText : B := [108, 101, 116, 32, 110, 32, 105, 110, 116, 10, 108, 101, 116, 32, 112, 32, 98, 111, 120, 10, 98, 108, 111, 99, 107, 10, 115, 101, 116, 32, 110, 32, 53, 10, 110, 101, 119, 32, 112, 32, 110, 10, 102, 114, 101, 101, 32, 112, 10, 102, 114, 101, 101, 32, 112, 10, 101, 110, 100, 32, 110]
def badText : B := [108, 101, 116, 32, 110, 32, 105, 110, 116, 10, 108, 101, 116, 32, 112, 32, 98, 111, 120, 10, 98, 108, 111, 99, 107, 10, 115, 101, 116, 32, 110, 32, 53, 10, 110, 101, 119, 32, 112, 32, 110, 10, 100, 114, 111, 112, 32, 112, 10, 108, 111, 97, 100, 32, 110, 32, 112, 10, 101, 110, 100, 32, 110]
set_option maxRecDepth 20000 in
set_option maxHeartbeats 1000000 in
theorem Looked_any (one other : B) (w : World) (h1 : one.length ≤ 1048576) (h2 : other.length ≤ 1048576) (E : Env w) : Calls Tryz.prog 9 #[.string (bs one), .string (bs other)] w fun e w' => e = .returned (.bool true) ∧ Below w.heap.size w w' := by
  have K := fun (t : B) (ht : t.length ≤ 1048576) (w' : World) (hb : Below w.heap.size w w') => (look_any t w' ht (E.on hb)).mono (R' := fun e w'' => e = .returned (.bool true) ∧ Below w.heap.size w w'') fun e w'' ⟨h1, h2⟩ => ⟨h1, hb.trans (h2.mono hb.size)⟩
  have K1 := K one h1
  have K2 := K other h2
  have K4 : ∀ w', Below w.heap.size w w' → Calls Tryz.prog 28 #[.string ⟨#[108, 101, 116, 32, 110, 32, 105, 110, 116, 10, 108, 101, 116, 32, 112, 32, 98, 111, 120, 10, 98, 108, 111, 99, 107, 10, 115, 101, 116, 32, 110, 32, 53, 10, 110, 101, 119, 32, 112, 32, 110, 10, 102, 114, 101, 101, 32, 112, 10, 102, 114, 101, 101, 32, 112, 10, 101, 110, 100, 32, 110]⟩] w' _ := K rawText (by decide)
  have K5 : ∀ w', Below w.heap.size w w' → Calls Tryz.prog 28 #[.string ⟨#[108, 101, 116, 32, 110, 32, 105, 110, 116, 10, 108, 101, 116, 32, 112, 32, 98, 111, 120, 10, 98, 108, 111, 99, 107, 10, 115, 101, 116, 32, 110, 32, 53, 10, 110, 101, 119, 32, 112, 32, 110, 10, 100, 114, 111, 112, 32, 112, 10, 108, 111, 97, 100, 32, 110, 32, 112, 10, 101, 110, 100, 32, 110]⟩] w' _ := K badText (by decide)
  clear K
  have K0 := K1 w (Below.refl _ _)
  go_enter Tryz.func9, Tryz.ntmps9
  go_wp2_with (first
    | (go_at_call 28; refine (K5 _ hb4).mono ?_; rintro e w5 ⟨rfl, hb5⟩)
    | (go_at_call 28; refine (K4 _ hb3).mono ?_; rintro e w4 ⟨rfl, hb4⟩)
    | (go_at_call 28; refine (K1 _ hb2).mono ?_; rintro e w3 ⟨rfl, hb3⟩)
    | (go_at_call 28; refine (K2 _ hb1).mono ?_; rintro e w2 ⟨rfl, hb2⟩)
    | (go_at_call 28; refine K0.mono ?_; rintro e w1 ⟨rfl, hb1⟩))
  go_ret
  exact ⟨rfl, hb5⟩
end Go.Proofs.YtmlgajhhnojdjaaGreatDoor.PrjX
/- The same rules for an operation that isn't written out. -/
namespace Go.Proofs.YtmlgajhhnojdjaaGreatDoor.Aux
open Go Go.RowKit Go.Proofs.YtmlgajhhnojdjaaGreatDoor.Spec Go.Proofs.YtmlgajhhnojdjaaGreatDoor.RefR
def loadArg (o : Oper) : Operand := match o.op with | .load _ x => x | _ => .tmp 0
def loadsWays (o : Oper) : Bool := match o.op with | .load t _ => t == 155 | _ => false
def storeTo (o : Oper) : Operand := match o.op with | .store _ x _ => x | _ => .tmp 0
def storeWhat (o : Oper) : Operand := match o.op with | .store _ _ y => y | _ => .tmp 0
def storesWays (o : Oper) : Bool := match o.op with | .store t _ _ => t == 155 | _ => false
section
variable (o : Oper) (a : Act) (w : World) (K : Act → World → Prop) (Q : Exit → Act → World → Prop)
theorem wp_load_open (hl : loadsWays o = true) (h : PtrWays w (a.eval (loadArg o))) : Oper.wp Tryz.prog o a w K Q = K (a.put o.dst (.agg (waysOf w (ptrBlock (a.eval (loadArg o)))))) w := by
  obtain ⟨d, op, t, ps, af, g⟩ := o
  unfold loadsWays at hl
  split at hl
  · rename_i t' x heq
    simp only at heq
    subst heq
    obtain rfl : t' = 155 := by simpa using hl
    exact wp_load_ways d x t ps af g a w K Q h
  · cases hl
theorem wp_store_open (hl : storesWays o = true) (h : PtrWays w (a.eval (storeTo o))) (h' : AggWays (a.eval (storeWhat o))) : Oper.wp Tryz.prog o a w K Q = K (a.put o.dst undef) (w.setCells (ptrBlock (a.eval (storeTo o))) 0 (aggCells (a.eval (storeWhat o))).toList) := by
  obtain ⟨d, op, t, ps, af, g⟩ := o
  unfold storesWays at hl
  split at hl
  · rename_i t' x y heq
    simp only at heq
    subst heq
    obtain rfl : t' = 155 := by simpa using hl
    exact wp_store_ways d x y t ps af g a w K Q h h'
  · cases hl
end
end Go.Proofs.YtmlgajhhnojdjaaGreatDoor.Aux
/- A row of ways in a block of its own: read, written, one of them at a time. -/
namespace Go.Proofs.YtmlgajhhnojdjaaGreatDoor.Aux
open Go Go.RowKit Go.Proofs.YtmlgajhhnojdjaaGreatDoor.Spec Go.Proofs.YtmlgajhhnojdjaaGreatDoor.RefR

/-- the ways of all lines in block g -/
def RowAt (w : World) (g : Nat) (L : List WS) : Prop :=
  ∃ cs, w.heap[g]? = some (.cells cs 155 (0, 0)) ∧ cs.size = 25 * L.length ∧ ∀ i j, i < L.length → j < 25 → cs[i * 25 + j]? = (lw L i).cells[j]?
section
variable {w w' : World} {g : Nat} {L : List WS}
theorem RowAt.lt (h : RowAt w g L) : g < w.heap.size := by
  obtain ⟨cs, h, -⟩ := h; rw [Array.getElem?_eq_some_iff] at h; exact h.1
theorem RowAt.below (h : RowAt w g L) (hb : Below w.heap.size w w') : RowAt w' g L := by
  have hl := h.lt
  obtain ⟨cs, h, h'⟩ := h
  exact ⟨cs, by rw [hb.block g hl]; exact h, h'⟩
theorem RowAt.drew (h : RowAt w g L) : RowAt w.drew g L := h
theorem RowAt.drewN (h : RowAt w g L) (n : Nat) : RowAt (w.drewN n) g L := h
theorem RowAt.range (h : RowAt w g L) (hr : RowsOk L) (i : Nat) (hi : i < L.length) : w.rangeAt g (i * 25) (lw L i).cells := fun j v hv => by
  obtain ⟨cs, h, -, h'⟩ := h
  have hj : j < 25 := by
    rw [← WS.cells_length (hr.few i).ok]
    exact (List.getElem?_eq_some_iff.mp hv).1
  rw [cell_of_heap h, h' i j hi hj]; exact hv
theorem RowAt.there (h : RowAt w g L) (i : Nat) (hi : i < L.length) : w.there g (i * 25) 25 := fun j hj => by
  obtain ⟨cs, h, hs, h'⟩ := h
  rw [cell_of_heap h, frozen_of_heap h]
  have : i * 25 + j < cs.size := by rw [hs]; omega
  simp [this]
theorem RowAt.known (h : RowAt w g L) (i : Nat) (hi : i < L.length) : w.cell? ⟨g, i * 25, none⟩ = some (.bool (lw L i).known) := by
  obtain ⟨cs, h, -, h'⟩ := h
  rw [cell_of_heap h, show i * 25 = i * 25 + 0 by omega, h' i 0 hi (by omega)]; rfl
theorem RowAt.spot (h : RowAt w g L) (hr : RowsOk L) (i k : Nat) (hi : i < L.length) (hk : k < 24) : w.cell? ⟨g, i * 25 + 1 + k, none⟩ = some (.string (bs ((lw L i).at k))) := by
  obtain ⟨cs, h, -, h'⟩ := h
  rw [cell_of_heap h, Nat.add_assoc, h' i (1 + k) hi (by omega)]
  exact WS.cells_at (hr.few i).ok k hk
theorem RowAt.frozen (h : RowAt w g L) (o : Nat) : w.frozen? ⟨g, o, none⟩ = false := by
  obtain ⟨cs, h, -⟩ := h; exact frozen_of_heap h o
/-- one of them written whole -/
theorem RowAt.store (h : RowAt w g L) (i : Nat) (hi : i < L.length) {t : WS} (ht : t.Ok) : RowAt (w.setCells g (i * 25) t.cells) g (L.set i t) := by
  obtain ⟨cs, h, hs, h'⟩ := h
  obtain ⟨cs', h1, h2, h3⟩ := heap_setCells g t.cells (i * 25) w _ _ _ h
  have hl := WS.cells_length ht
  refine ⟨cs', h1, by rw [h2, hs]; simp, fun a j ha hj => ?_⟩
  rw [List.length_set] at ha
  rw [h3, lw_set L i t hi, hl]
  by_cases hai : a = i
  · subst hai
    rw [if_pos (by omega), if_pos rfl, show a * 25 + j - a * 25 = j by omega]
  · rw [if_neg (by omega), if_neg hai]
    exact h' a j ha hj
theorem RowAt.other {b : Nat} (h : RowAt w g L) (hne : g ≠ b) (o : Nat) (vs : List Value) : RowAt (w.setCells b o vs) g L := by
  obtain ⟨cs, h, h'⟩ := h
  exact ⟨cs, by rw [heap_setCells_other b vs o w g hne]; exact h, h'⟩
theorem RowAt.setOther {a : Addr} (h : RowAt w g L) (hne : g ≠ a.block) (v : Value) : RowAt (w.setCell a v) g L := by
  obtain ⟨cs, h, h'⟩ := h
  exact ⟨cs, by rw [Below.heap_setCell _ _ _ _ hne]; exact h, h'⟩
/-- one cell of one of them written -/
theorem RowAt.setCell (h : RowAt w g L) (i j : Nat) (hi : i < L.length) (hj : j < 25) (v : Value) {t : WS} (ht : t.Ok) (he : t.cells = (lw L i).cells.set j v) : RowAt (w.setCell ⟨g, i * 25 + j, none⟩ v) g (L.set i t) := by
  obtain ⟨cs, h, hs, h'⟩ := h
  refine ⟨_, heap_setCell_same h _ v, by simp [hs], fun a k ha hk => ?_⟩
  rw [List.length_set] at ha
  rw [Array.getElem?_setIfInBounds, lw_set L i t hi]
  by_cases hai : a = i
  · subst hai
    rw [if_pos rfl, he, List.getElem?_set]
    by_cases hjk : j = k
    · subst hjk
      have hl := WS.cells_length ht
      rw [he, List.length_set] at hl
      rw [if_pos rfl, if_pos (by rw [hs]; omega), if_pos rfl, if_pos (by omega)]
    · rw [if_neg (by omega), if_neg hjk]; exact h' a k ha hk
  · rw [if_neg (by omega), if_neg hai]; exact h' a k ha hk
end
/-- read and written at any place of a block -/
def waysIn (w : World) (b o : Nat) : Array Value := ((List.range 25).map fun j => (w.cell? ⟨b, o + j, none⟩).getD undef).toArray
def HasAt (w : World) (b o : Nat) : Prop := ∃ s : WS, s.Ok ∧ w.rangeAt b o s.cells ∧ w.there b o 25
theorem waysIn_eq {w : World} {b o : Nat} {s : WS} (hs : s.Ok) (h : w.rangeAt b o s.cells) : waysIn w b o = s.cells.toArray := by
  unfold waysIn
  congr 1
  apply List.ext_getElem?
  intro j
  rw [List.getElem?_map]
  have hl := WS.cells_length hs
  by_cases hj : j < 25
  · rw [List.getElem?_range hj, Option.map_some]
    have hv : s.cells[j]? = some s.cells[j] := List.getElem?_eq_getElem _
    rw [h j _ hv, hv]; rfl
  · rw [List.getElem?_eq_none (by simp; omega), List.getElem?_eq_none (by rw [hl]; omega)]; rfl
def ptrOff : Value → Nat
  | .pointer (some ad) => ad.off
  | _ => 0
def PtrHas (w : World) (v : Value) : Prop := ∃ b o, v = .pointer (some ⟨b, o, none⟩) ∧ HasAt w b o
@[simp] theorem ptrOff_ptr (ad : Addr) : ptrOff (.pointer (some ad)) = ad.off := rfl
@[simp] theorem ptrHas_ptr (w : World) (b o : Nat) : PtrHas w (.pointer (some ⟨b, o, none⟩)) = HasAt w b o := by
  simp only [PtrHas, Value.pointer.injEq, Option.some.injEq, Addr.mk.injEq, and_true, eq_iff_iff]
  exact ⟨fun ⟨b', o', ⟨h1, h2⟩, h⟩ => by rw [h1, h2]; exact h, fun h => ⟨b, o, ⟨rfl, rfl⟩, h⟩⟩
theorem loadVar_in (w : World) (b o : Nat) (h : HasAt w b o) : (loadVar 155 ⟨b, o, none⟩).run Tryz.prog w = .ok (.agg (waysIn w b o)) w := by
  obtain ⟨s, hs, hr, ht⟩ := h
  rw [waysIn_eq hs hr]
  exact run_loadVar_mid w b o 155 s.cells _ hr Tryz.underlying155 rfl (info_ways_of hs)
theorem storeVar_in (w : World) (b o : Nat) (xs : Array Value) (h : HasAt w b o) (hx : IsWays xs) : (storeVar 155 ⟨b, o, none⟩ (.agg xs)).run Tryz.prog w = .ok () (w.setCells b o xs.toList) := by
  obtain ⟨s, hs, hr, ht⟩ := h
  obtain ⟨t, ht', rfl⟩ := hx
  refine run_storeVar_mid w b o 155 t.cells.toArray ?_ (info_ways_arr ht') (all_oneCell_toArray (WS.cells_one t))
  rwa [← WS.cells_length ht', ← List.size_toArray] at ht
section
variable (d : Option Tmp) (x y : Operand) (t : TypeId) (ps : String) (af : Array Edge) (g : Option (Nat × Bool)) (a : Act) (w : World) (K : Act → World → Prop) (Q : Exit → Act → World → Prop)
theorem wp_load_in (h : PtrHas w (a.eval x)) : Oper.wp Tryz.prog { dst := d, op := Op.load 155 x, type := t, pos := ps, after := af, guard := g } a w K Q = K (a.put d (.agg (waysIn w (ptrBlock (a.eval x)) (ptrOff (a.eval x))))) w := by
  obtain ⟨b, o, hb, hh⟩ := h
  have := loadVar_in w b o hh
  unfold Oper.wp execOp
  simp only [hb, Instr.loadAt, Instr.sureAddr, Sem.run_bind, Sem.run_pure, Result.andThen_ok, this, ptrBlock_ptr, ptrOff_ptr]
  rfl
theorem wp_store_in (h : PtrHas w (a.eval x)) (h' : AggWays (a.eval y)) : Oper.wp Tryz.prog { dst := d, op := Op.store 155 x y, type := t, pos := ps, after := af, guard := g } a w K Q = K (a.put d undef) (w.setCells (ptrBlock (a.eval x)) (ptrOff (a.eval x)) (aggCells (a.eval y)).toList) := by
  obtain ⟨b, o, hb, hh⟩ := h
  obtain ⟨xs, hy, hx⟩ := h'
  have := storeVar_in w b o xs hh hx
  unfold Oper.wp execOp
  simp only [hb, hy, Instr.storeAt, Instr.sureAddr, Sem.run_bind, Sem.run_pure, Result.andThen_ok, this, ptrBlock_ptr, ptrOff_ptr, aggCells_agg]
  rfl
end
section
variable (o : Oper) (a : Act) (w : World) (K : Act → World → Prop) (Q : Exit → Act → World → Prop)
theorem wp_load_in_open (hl : loadsWays o = true) (h : PtrHas w (a.eval (loadArg o))) : Oper.wp Tryz.prog o a w K Q = K (a.put o.dst (.agg (waysIn w (ptrBlock (a.eval (loadArg o))) (ptrOff (a.eval (loadArg o)))))) w := by
  obtain ⟨d, op, t, ps, af, g⟩ := o
  unfold loadsWays at hl
  split at hl
  · rename_i t' x heq
    simp only at heq
    subst heq
    obtain rfl : t' = 155 := by simpa using hl
    exact wp_load_in d x t ps af g a w K Q h
  · cases hl
theorem wp_store_in_open (hl : storesWays o = true) (h : PtrHas w (a.eval (storeTo o))) (h' : AggWays (a.eval (storeWhat o))) : Oper.wp Tryz.prog o a w K Q = K (a.put o.dst undef) (w.setCells (ptrBlock (a.eval (storeTo o))) (ptrOff (a.eval (storeTo o))) (aggCells (a.eval (storeWhat o))).toList) := by
  obtain ⟨d, op, t, ps, af, g⟩ := o
  unfold storesWays at hl
  split at hl
  · rename_i t' x y heq
    simp only at heq
    subst heq
    obtain rfl : t' = 155 := by simpa using hl
    exact wp_store_in d x y t ps af g a w K Q h h'
  · cases hl
end
theorem WayAt.hasAt {w : World} {b : Nat} {s : WS} (h : WayAt w b s) (hs : s.Ok) : HasAt w b 0 := ⟨s, hs, h.range, h.there hs⟩
theorem RowAt.hasAt {w : World} {g : Nat} {L : List WS} (h : RowAt w g L) (hr : RowsOk L) (i : Nat) (hi : i < L.length) : HasAt w g (i * 25) := ⟨_, (hr.few i).ok, h.range hr i hi, h.there i hi⟩
theorem WayAt.waysIn {w : World} {b : Nat} {s : WS} (h : WayAt w b s) (hs : s.Ok) : Aux.waysIn w b 0 = s.cells.toArray := waysIn_eq hs h.range
theorem RowAt.waysIn {w : World} {g : Nat} {L : List WS} (h : RowAt w g L) (hr : RowsOk L) (i : Nat) (hi : i < L.length) : Aux.waysIn w g (i * 25) = (lw L i).cells.toArray := waysIn_eq (hr.few i).ok (h.range hr i hi)
end Go.Proofs.YtmlgajhhnojdjaaGreatDoor.Aux
/- A row of ways is made. -/
namespace Go.Proofs.YtmlgajhhnojdjaaGreatDoor.Aux
open Go Go.RowKit Go.Proofs.YtmlgajhhnojdjaaGreatDoor.Spec Go.Proofs.YtmlgajhhnojdjaaGreatDoor.RefR

theorem info_ways3 : (Tryz.prog.info? 155).map (fun i => (i.zero.map Value.cells, i.size, i.bytes)) = some (some zeroWS.cells.toArray, 25, 392) := by kernel_rfl
theorem under_ways : Tryz.prog.underlying 152 = some (.slice 155) := by kernel_rfl
theorem made_row (w : World) (n : Nat) : RowAt (w.alloc (.cells (madeCells zeroWS.cells.toArray (n * 25)) 155)) w.heap.size (List.replicate n zeroWS) := by
  refine ⟨madeCells zeroWS.cells.toArray (n * 25), by show (w.heap.push _)[w.heap.size]? = _; simp, by rw [size_madeCells]; simp; omega, fun i j hi hj => ?_⟩
  rw [List.length_replicate] at hi
  rw [lw_zero]
  have hs : zeroWS.cells.toArray.size = 25 := by decide
  have hj' : j < zeroWS.cells.toArray.size := by rw [hs]; exact hj
  have e : (i * 25 + j) % zeroWS.cells.toArray.size = j := by rw [hs]; omega
  unfold madeCells
  rw [Array.getElem?_map, Array.getElem?_range, if_pos (by omega), Option.map_some, e]
  rw [getElem!_pos _ j hj']
  have : zeroWS.cells[j]? = some zeroWS.cells[j] := List.getElem?_eq_getElem _
  rw [this]
  simp
theorem run_make_ways (n : Nat) (hn : n ≤ 4000) (w : World) : (Instr.makeSlice 152 (.int .i64 (n : Int)) (.int .i64 (n : Int))).run Tryz.prog w = .ok (.slice (some ⟨w.heap.size, 0, none⟩) n n) (w.alloc (.cells (madeCells zeroWS.cells.toArray (n * 25)) 155)) := by
  obtain ⟨i, hi, hx⟩ := Option.map_eq_some_iff.1 info_ways3
  simp only [Prod.mk.injEq] at hx
  obtain ⟨hz, hs, hb⟩ := hx
  obtain ⟨z, hz, hc⟩ := Option.map_eq_some_iff.1 hz
  have := run_make (P := Tryz.prog) w 152 155 i z under_ways hi hz .i64 .i64 n n (by omega) (Int.le_refl _) (by rw [hb]; omega) (by omega)
  rw [hs, hc] at this
  simpa using this
/-- a new place for ways, as the walk spells it -/
theorem has_new (w : World) : HasAt (w.alloc (.cells #[.bool false, .string ⟨#[]⟩, .string ⟨#[]⟩, .string ⟨#[]⟩, .string ⟨#[]⟩, .string ⟨#[]⟩, .string ⟨#[]⟩, .string ⟨#[]⟩, .string ⟨#[]⟩, .string ⟨#[]⟩, .string ⟨#[]⟩, .string ⟨#[]⟩, .string ⟨#[]⟩, .string ⟨#[]⟩, .string ⟨#[]⟩, .string ⟨#[]⟩, .string ⟨#[]⟩, .string ⟨#[]⟩, .string ⟨#[]⟩, .string ⟨#[]⟩, .string ⟨#[]⟩, .string ⟨#[]⟩, .string ⟨#[]⟩, .string ⟨#[]⟩, .string ⟨#[]⟩] 155)) w.heap.size 0 := WayAt.hasAt (WayAt.new w zeroWS) zeroWS_ok
theorem way_new (w : World) {t : WS} (ht : t.Ok) : WayAt ((w.alloc (.cells #[.bool false, .string ⟨#[]⟩, .string ⟨#[]⟩, .string ⟨#[]⟩, .string ⟨#[]⟩, .string ⟨#[]⟩, .string ⟨#[]⟩, .string ⟨#[]⟩, .string ⟨#[]⟩, .string ⟨#[]⟩, .string ⟨#[]⟩, .string ⟨#[]⟩, .string ⟨#[]⟩, .string ⟨#[]⟩, .string ⟨#[]⟩, .string ⟨#[]⟩, .string ⟨#[]⟩, .string ⟨#[]⟩, .string ⟨#[]⟩, .string ⟨#[]⟩, .string ⟨#[]⟩, .string ⟨#[]⟩, .string ⟨#[]⟩, .string ⟨#[]⟩, .string ⟨#[]⟩] 155)).setCells w.heap.size 0 t.cells) w.heap.size t := (WayAt.new w zeroWS).store zeroWS_ok ht
theorem below_new {w0 w : World} {B : Nat} (h : Below B w0 w) (hB : B ≤ w.heap.size) (cs : List Value) : Below B w0 ((w.alloc (.cells #[.bool false, .string ⟨#[]⟩, .string ⟨#[]⟩, .string ⟨#[]⟩, .string ⟨#[]⟩, .string ⟨#[]⟩, .string ⟨#[]⟩, .string ⟨#[]⟩, .string ⟨#[]⟩, .string ⟨#[]⟩, .string ⟨#[]⟩, .string ⟨#[]⟩, .string ⟨#[]⟩, .string ⟨#[]⟩, .string ⟨#[]⟩, .string ⟨#[]⟩, .string ⟨#[]⟩, .string ⟨#[]⟩, .string ⟨#[]⟩, .string ⟨#[]⟩, .string ⟨#[]⟩, .string ⟨#[]⟩, .string ⟨#[]⟩, .string ⟨#[]⟩, .string ⟨#[]⟩] 155)).setCells w.heap.size 0 cs) := below_setCells (h.alloc hB _) hB 0 cs
end Go.Proofs.YtmlgajhhnojdjaaGreatDoor.Aux
/- What the document's own ways make of a set, an in, a none, and of a line that needs nothing. Conditions: the program lies in memory as it is kept; the locals are twelve at most; the place's local is there. -/
namespace Go.Proofs.YtmlgajhhnojdjaaGreatDoor.RefU
open Go.RowKit Go.Proofs.YtmlgajhhnojdjaaGreatDoor.Spec Go.Proofs.YtmlgajhhnojdjaaGreatDoor.RefA Go.Proofs.YtmlgajhhnojdjaaGreatDoor.RefO Go.Proofs.YtmlgajhhnojdjaaGreatDoor.RefP Go.Proofs.YtmlgajhhnojdjaaGreatDoor.RefQ Go.Proofs.YtmlgajhhnojdjaaGreatDoor.RefR Go.Proofs.YtmlgajhhnojdjaaGreatDoor.RefS Go.Proofs.YtmlgajhhnojdjaaGreatDoor.RefT Go.Proofs.YtmlgajhhnojdjaaGreatDoor.Aux
attribute [local go_sem ↓] wp_load_ways wp_store_ways

/-- what a line's words and the memory are, for one step -/
structure StepIn (p : RP) (a : Nat) (s : WS) (ws : List B) (gw : Nat) (w : World) : Prop where
  prog : ProgAt w a p
  ok : p.Ok
  ways : s.Ok
  twelve : p.lets.length ≤ 12
  row : gw < w.heap.size
  one : 1 ≤ ws.length
  cells : ∀ j, j < ws.length → w.cell? ⟨gw, j, none⟩ = some (.string (bs (word ws j)))
  long : ∀ j, (word ws j).length ≤ maxLen
  wide : ws.length ≤ 1099511627777
theorem StepIn.cell {p : RP} {a : Nat} {s : WS} {ws : List B} {gw : Nat} {w : World} (h : StepIn p a s ws gw w) {wr : World} (hb : Below w.heap.size w wr) (j : Nat) (hj : j < ws.length) : wr.cell? ⟨gw, j, none⟩ = some (.string (bs (word ws j))) :=
  (hb.cell (p := ⟨gw, j, none⟩) h.row).trans (h.cells j hj)
/-- the end of a step: the result lies in memory -/
theorem stepEnds {tmps : Array Value} {w wr : World} {t : WS} {b : Bool} {R : Ending → World → Prop} (hK : WayAt wr (w.heap.size + 1) zeroWS) (ht : t.Ok) (h6 : tmps.getD 6 undef = .pointer (some ⟨w.heap.size + 1, 0, none⟩)) (h7 : tmps.getD 7 undef = .bool b)
    (h : R (.returned (.tuple #[t.val, .bool b])) (wr.setCells (w.heap.size + 1) 0 t.cells)) : bodyPost Tryz.prog Tryz.f84 R Exit.ret { tmps := tmps, defers := [] } (wr.setCells (w.heap.size + 1) 0 t.cells) := by
  refine bodyPost_ret (results_cell_bool Tryz.results84 tmps _ _ (w.heap.size + 1) t.cells _ h6 (hK.store zeroWS_ok ht).range Tryz.underlying155 rfl (info_ways_of ht)) rfl ?_
  rw [h7]
  exact h

set_option maxRecDepth 20000 in
set_option maxHeartbeats 2000000 in
theorem step_set (p : RP) (a : Nat) (s : WS) (ws : List B) (gw cw : Nat) (w : World) (H : StepIn p a s ws gw w) (hlen : 2 ≤ ws.length) (hf1 : 0 ≤ p.find (localOf (word ws 1))) (h0 : word ws 0 = [115, 101, 116] ∨ word ws 0 = [105, 110]) :
    Calls Tryz.prog 84 #[.pointer (some ⟨a, 0, none⟩), .slice (some ⟨gw, 0, none⟩) ws.length cw, s.val] w fun e w' => e = .returned (.tuple #[(p.step ws s).1.val, .bool (p.step ws s).2]) ∧ Below w.heap.size w w' := by
  have HR : Hid (p.step ws s = (p.now s (word ws 1) [119], true)) := by unfold Hid RP.step; rw [if_pos h0]
  have hs1 := p.now_ok H.ways (word ws 1) (c := [119]) (by simp)
  have hln : (1 : Int) < ws.length := by omega
  have hwd := H.wide
  rw [HR.out]
  unfold WS.val
  rcases h0 with h0 | h0
  all_goals
    go_enter Tryz.func84, Tryz.ntmps84
    go_upto_region 0 with fail
    go_cut [5, 6, 7] (fun v5 v6 v7 wc => Kept w wc s ∧ v5 = .pointer (some ⟨w.heap.size, 0, none⟩) ∧ v6 = .pointer (some ⟨w.heap.size + 1, 0, none⟩) ∧ v7 = .bool false)
    case first =>
      go_wp2
      go_meet
      case rel => exact ⟨kept_start w s, rfl, rfl, rfl⟩
    case rest =>
      obtain ⟨hK, rfl, rfl, rfl⟩ := hcut
      have hc0 := H.cell hK.old 0 (by omega)
      rw [h0] at hc0
      have hc1 := H.cell hK.old 1 (by omega)
      have H0 : Hid (_ = _) := h0
      clear h0
      have hKd : Kept w wc.drew s := hK.below ((Below.refl _ _).drew)
      have hh : HasWays wc.drew w.heap.size := ⟨s, H.ways, hKd.here⟩
      have hv := waysOf_eq hKd.here
      have HNw := now_any p a s (word ws 1) [119] wc.drew (H.prog.below hKd.old) H.ok H.ways (H.long 1) (by simp) hf1 H.twelve
      unfold WS.val at HNw
      go_wp2_with fail
      go_region_law (go_simp; go_at_call 88; refine HNw.mono ?_; rintro e w1 ⟨rfl, hb1⟩; have hh1 : HasWays w1 (w.heap.size + 1) := ⟨zeroWS, zeroWS_ok, (hKd.below hb1).zero⟩; have hi1 : IsWays (p.now s (word ws 1) [119]).cells.toArray := ⟨_, hs1, rfl⟩)
      all_goals go_wp2_with fail
      all_goals exact stepEnds (hKd.below hb1).zero hs1 rfl rfl ⟨rfl, below_setCells (hKd.below hb1).old (by omega) _ _⟩
end Go.Proofs.YtmlgajhhnojdjaaGreatDoor.RefU
