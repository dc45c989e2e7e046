/- The document's own answer to which line needs what may not be there first: the row of ways ahead of the loop. Conditions: the program was read whole and lies in memory. -/
import Derived.Test.YtmlgajhhnojdjaaGreatDoorPAU
import Derived.Test.YtmlgajhhnojdjaaGreatDoorPAV
import Derived.Test.YtmlgajhhnojdjaaGreatDoorPAW
namespace Go.Proofs.YtmlgajhhnojdjaaGreatDoor.RefZe
open Go.RowKit Go.Proofs.YtmlgajhhnojdjaaGreatDoor.Spec Go.Proofs.YtmlgajhhnojdjaaGreatDoor.RefA Go.Proofs.YtmlgajhhnojdjaaGreatDoor.RefD Go.Proofs.YtmlgajhhnojdjaaGreatDoor.RefP Go.Proofs.YtmlgajhhnojdjaaGreatDoor.RefR Go.Proofs.YtmlgajhhnojdjaaGreatDoor.RefT Go.Proofs.YtmlgajhhnojdjaaGreatDoor.RefU Go.Proofs.YtmlgajhhnojdjaaGreatDoor.RefZc Go.Proofs.YtmlgajhhnojdjaaGreatDoor.RefZd Go.Proofs.YtmlgajhhnojdjaaGreatDoor.Aux
attribute [local go_sem ↓] wp_load_in wp_store_in
attribute [local go_sem] has_new
attribute [local go_sem ↓] wp_load_in_open wp_store_in_open
attribute [local go_sem] loadsWays storesWays loadArg storeTo storeWhat

/-- a program that was read whole, behind a pointer -/
structure UseIn (text : B) (p : RP) (a : Nat) (w : World) : Prop where
  prog : ProgAt w a p
  ok : p.Ok
  good : ReadOk text false p

theorem line_row {w : World} {a : Nat} {p : RP} (h : ProgAt w a p) (i : Nat) (hi : i < p.lines.length) :
    ∃ (g cap gl capl : Nat), w.cell? ⟨a, 0, none⟩ = some (.slice (some ⟨g, 0, none⟩) p.lines.length cap) ∧ p.lines.length ≤ cap ∧ g < w.heap.size ∧ gl < w.heap.size ∧ w.cell? ⟨g, i, none⟩ = some (.slice (some ⟨gl, 0, none⟩) (p.line i).length capl) ∧ (p.line i).length ≤ capl ∧
      ∀ j, j < (p.line i).length → w.cell? ⟨gl, j, none⟩ = some (.string (bs (word (p.line i) j))) := by
  obtain ⟨v, hv, hr⟩ := h.lines
  rcases hr with ⟨he, _⟩ | ⟨g, cap, rfl, hc, hg, hcell⟩
  · rw [he] at hi; simp at hi
  · obtain ⟨u, hu, gl, capl, rfl, hcl, hgl, hw⟩ := hcell i hi
    exact ⟨g, cap, gl, capl, hv, hc, hg, hgl, hu, hcl, hw⟩
/-- line i, as the walk asks for it in a later world -/
structure LineIn (p : RP) (a i g cap gl capl : Nat) (w : World) : Prop where
  all : w.cell? ⟨a, 0, none⟩ = some (.slice (some ⟨g, 0, none⟩) p.lines.length cap)
  cap : p.lines.length ≤ cap
  alt : a < w.heap.size
  glt : g < w.heap.size
  row : gl < w.heap.size
  line : w.cell? ⟨g, i, none⟩ = some (.slice (some ⟨gl, 0, none⟩) (p.line i).length capl)
  capl : (p.line i).length ≤ capl
  words : ∀ j, j < (p.line i).length → w.cell? ⟨gl, j, none⟩ = some (.string (bs (word (p.line i) j)))
theorem LineIn.below {p : RP} {a i g cap gl capl : Nat} {w w' : World} {n : Nat} (h : LineIn p a i g cap gl capl w) (hn : n = w.heap.size) (hb : Below n w w') : LineIn p a i g cap gl capl w' := by
  subst hn
  have hs := hb.size
  exact ⟨(hb.cell (p := ⟨a, 0, none⟩) h.alt).trans h.all, h.cap, by have := h.alt; omega, by have := h.glt; omega, by have := h.row; omega, (hb.cell (p := ⟨g, i, none⟩) h.glt).trans h.line, h.capl, fun j hj => (hb.cell (p := ⟨gl, j, none⟩) h.row).trans (h.words j hj)⟩
theorem line_in {w : World} {a : Nat} {p : RP} (h : ProgAt w a p) (i : Nat) (hi : i < p.lines.length) : ∃ g cap gl capl, LineIn p a i g cap gl capl w := by
  obtain ⟨g, cap, gl, capl, h1, h2, h3, h4, h5, h6, h7⟩ := line_row h i hi
  exact ⟨g, cap, gl, capl, h1, h2, h.lt, h3, h4, h5, h6, h7⟩
theorem step_in {text : B} {p : RP} {a : Nat} {w : World} (H : UseIn text p a w) {i g cap gl capl : Nat} {wr : World} (hB : Below w.heap.size w wr) (hl : LineIn p a i g cap gl capl wr) (hi : i < p.lines.length) {s : WS} (hs : s.Few) :
    Calls Tryz.prog 84 #[.pointer (some ⟨a, 0, none⟩), .slice (some ⟨gl, 0, none⟩) (p.line i).length capl, .agg s.cells.toArray] wr fun e w' => e = .returned (.tuple #[.agg (p.step (p.line i) s).1.cells.toArray, .bool (p.step (p.line i) s).2]) ∧ Below wr.heap.size wr w' := by
  have SI : StepIn p a s (p.line i) gl wr := ⟨H.prog.below hB, H.ok, hs.ok, H.good.pre.twelve, hl.row, H.ok.words i hi, hl.words, fun j => by have := H.ok.long i j; unfold maxLen; omega, H.ok.wide i⟩
  exact step_any p a s i gl capl wr SI (by have := H.good.pre.form i hi; rwa [H.good.raw] at this) (H.good.names i hi) H.good.raw hs
theorem added_in (s o : WS) (w : World) (hs : s.Few) (ho : o.Few) :
    Calls Tryz.prog 86 #[.agg s.cells.toArray, .agg o.cells.toArray] w fun e w' => e = .returned (.tuple #[.agg (s.add o).1.cells.toArray, .bool (s.add o).2]) ∧ Below w.heap.size w w' := added_any s o w hs ho
theorem now_in {text : B} {p : RP} {a : Nat} {w : World} (H : UseIn text p a w) {wr : World} (hB : Below w.heap.size w wr) {i : Nat} {s : WS} (hs : s.Few) (l c : B) (hl : l = word (p.line i) 1) (hc : c.length ≤ 1000) (hf : 0 ≤ p.find (localOf l)) :
    Calls Tryz.prog 88 #[.pointer (some ⟨a, 0, none⟩), .agg s.cells.toArray, .string (bs l), .string (bs c)] wr fun e w' => e = .returned (.agg (p.now s l c).cells.toArray) ∧ Below wr.heap.size wr w' :=
  now_any p a s l c wr (H.prog.below hB) H.ok hs.ok (by rw [hl]; have := H.ok.long i 1; unfold maxLen; omega) hc hf H.good.pre.twelve
theorem ends_not {w : B} (h : ends w = true) : ¬ w = wLet ∧ ¬ w = wBlock := by
  constructor
  · intro e; rw [e] at h; exact absurd h (by decide)
  · intro e; rw [e] at h; exact absurd h (by decide)
def partWS (i : Nat) : WS := ⟨false, List.replicate i [45] ++ List.replicate (24 - i) []⟩
theorem part_ok (i : Nat) (hi : i ≤ 24) : (partWS i).Ok := by
  refine ⟨by simp [partWS]; omega, fun k => ?_⟩
  unfold WS.at partWS
  simp only [List.getD_eq_getElem?_getD, List.getElem?_append, List.getElem?_replicate]
  repeat' split
  all_goals simp
theorem part_cells (i : Nat) (hi : i < 24) : (partWS (i + 1)).cells = (partWS i).cells.set (1 + i) (.string (bs [45])) := by
  unfold partWS WS.cells
  rw [Nat.add_comm 1 i, List.set_cons_succ, ← List.map_set]
  congr 2
  rw [List.set_append_right _ _ (by simp), List.length_replicate, Nat.sub_self, show 24 - i = (24 - (i + 1)) + 1 by omega, List.replicate_succ' (n := i), List.append_assoc, List.replicate_succ (n := 24 - (i + 1)), List.set_cons_zero]
  rfl
theorem part_end : (startWS).cells = (partWS 24).cells.set 0 (.bool true) := rfl

set_option maxRecDepth 20000 in
set_option maxHeartbeats 80000000 in
theorem use_any (text : B) (p : RP) (a : Nat) (w : World) (H : UseIn text p a w) :
    Calls Tryz.prog 52 #[.pointer (some ⟨a, 0, none⟩)] w fun e w' => (∃ L, p.Settled L ∧ e = .returned (.int .i64 (p.faultGo L p.lines.length 0))) ∧ Below w.heap.size w w' := by
  have hn := H.ok.size
  have HP := H.good.pos
  have hb1 : p.blocks.getD 0 0 < p.lines.length := H.good.first.2
  obtain ⟨g0, cap0, gl0, capl0, hl0⟩ := line_in H.prog 0 H.good.pos
  have hc0 := hl0.all
  have hmk := run_make_ways p.lines.length hn
  go_enter Tryz.func52, Tryz.ntmps52
  go_upto_region 1 with fail
  go_cut [3] (fun v3 wc => v3 = .slice (some ⟨w.heap.size, 0, none⟩) p.lines.length p.lines.length ∧ RowAt wc w.heap.size (List.replicate p.lines.length zeroWS) ∧ Below w.heap.size w wc)
  case first =>
    go_wp2
    go_meet
    case rel => exact ⟨rfl, made_row w _, below_alloc _ _⟩
  case rest =>
    clear hmk hc0
    obtain ⟨rfl, hR, hB⟩ := hcut
    go_wp2
    go_loopg [4] (24) (fun g v4 wr => ∃ i : Nat, i ≤ 24 ∧ g + i = 24 ∧ v4 = .int .i64 i ∧ RowAt wr w.heap.size ((List.replicate p.lines.length zeroWS).set (p.blocks.getD 0 0) (partWS i)) ∧ Below w.heap.size w wr)
    case atStart =>
      refine ⟨0, by omega, rfl, rfl, ?_, hB⟩
      have : (List.replicate p.lines.length zeroWS).set (p.blocks.getD 0 0) (partWS 0) = List.replicate p.lines.length zeroWS := by
        apply List.ext_getElem?
        intro j
        rw [List.getElem?_set]
        split
        · rename_i hj; rw [← hj, if_pos (by simpa using hb1), List.getElem?_replicate, if_pos hb1]; rfl
        · rfl
      rw [this]; exact hR
    case round =>
      clear hR hB
      obtain ⟨i, hi, hgi, rfl, hR, hB⟩ := hrel
      obtain ⟨gb, capb, hcb, hcapb, hb0⟩ := (H.prog.below hB).block_at 0 H.good.first.1
      have hbl : (0 : Int) < p.blocks.length := by have := H.good.first.1; omega
      obtain ⟨b0, hb0e⟩ : ∃ b0, p.blocks.getD 0 0 = b0 := ⟨_, rfl⟩
      rw [hb0e] at hb1 hb0 hR
      have HB0 : Hid (p.blocks.getD 0 0 = b0) := hb0e
      clear hb0e
      by_cases hlt : i < 24
      · have hlen : b0 < ((List.replicate p.lines.length zeroWS).set b0 (partWS i)).length := by simpa using hb1
        as_aux_lemma => --<L1
          have hfr := hR.frozen (b0 * 25 + 1 + i)
          have hth := hR.there b0 hlen (1 + i) (by omega)
          rw [← Nat.add_assoc] at hth
          obtain ⟨hth, -⟩ := hth
          obtain ⟨v0, hv0⟩ := Option.isSome_iff_exists.mp hth
          clear hth
          go_wp2
          go_roundg (24 - (i + 1))
          case rel =>
            refine ⟨i + 1, by omega, by omega, by go_num, ?_, hB.setCell (Nat.le_refl _) _⟩
            have := hR.setCell b0 (1 + i) hlen (by omega) (.string (bs [45])) (part_ok (i + 1) (by omega)) (by rw [lw_set _ _ _ (by simpa using hb1), if_pos rfl]; exact part_cells i hlt)
            rw [List.set_set, ← Nat.add_assoc] at this
            rw [HB0.out]
            exact this
          case measure => omega
          -->L1
      · obtain rfl : i = 24 := by omega
        have hlen : b0 < ((List.replicate p.lines.length zeroWS).set b0 (partWS 24)).length := by simpa using hb1
        have hfr := hR.frozen (b0 * 25)
        have hkn := hR.known b0 hlen
        go_upto_region 6 with fail
        go_cut [44] (fun v44 wc => RowAt wc w.heap.size p.start0 ∧ Below w.heap.size w wc)
        case first =>
          as_aux_lemma => --<R6
            go_wp2
            go_meet
            case rel =>
              refine ⟨?_, hB.setCell (Nat.le_refl _) _⟩
              have := hR.setCell b0 0 hlen (by omega) (.bool true) startWS_few.ok (by rw [lw_set _ _ _ (by simpa using hb1), if_pos rfl]; exact part_end)
              rw [List.set_set] at this
              unfold RP.start0
              rw [HB0.out]
              exact this
            -->R6
        case rest =>
          clear hR hB hfr hkn hcb hcapb hb0 hbl hlen
          obtain ⟨hR, hB⟩ := hcut
          have HS : Hid (RowsOk p.start0 ∧ p.start0.length = p.lines.length) := rows_start (by rw [HB0.out]; exact hb1)
          clear HB0 hb1
          go_wp2
          go_loopg [5] (97 * p.lines.length + 1) (fun g v5 wr => ∃ (L : List WS) (m : Bool), v5 = .bool m ∧ Hid ((if m then 97 * p.lines.length - total L + 1 else 0) ≤ g) ∧ RowAt wr w.heap.size L ∧ Below w.heap.size w wr ∧ L.length = p.lines.length ∧ Hid (RowsOk L) ∧ Hid ((m = true → p.Reach L) ∧ (m = false → p.Settled L)))
          case atStart => exact ⟨p.start0, true, rfl, by unfold Hid; simp, hR, hB, HS.out.2, HS.out.1, ⟨fun _ => .start, fun h => by cases h⟩⟩
          case round =>
            clear hR hB HS
            obtain ⟨L, m, rfl, HG, hR, hB, hL, HO, HQ⟩ := hrel
            cases m
            · --<D
              have HSet : Hid (p.Settled L) := HQ.out.2 rfl
              clear HQ HG
              go_wp2
              go_loopg [20] (p.lines.length) (fun g v20 wr => ∃ i : Nat, i ≤ p.lines.length ∧ g + i = p.lines.length ∧ v20 = .int .i64 i ∧ RowAt wr w.heap.size L ∧ Below w.heap.size w wr ∧ Hid (p.faultGo L p.lines.length 0 = p.faultGo L (p.lines.length - i) i))
              case atStart => exact ⟨0, by omega, by omega, rfl, hR, hB, rfl⟩
              case round =>
                clear hR hB
                obtain ⟨i, hi, hgi, rfl, hR, hB, HI⟩ := hrel
                by_cases hlt : i < p.lines.length
                · obtain ⟨g0, cap0, gl, capl, hli⟩ := line_in H.prog i hlt
                  have hlr := hli.below rfl hB
                  have hc0 := hlr.all
                  have hcl := hlr.line
                  have hiL : i < L.length := by omega
                  have hltI : (i : Int) < p.lines.length := by omega
                  have HS : Hid (_ = _) := p.faultGo_step L p.lines.length i hlt
                  have HF : Hid ((p.step (p.line i) (lw L i)).1.Few) := p.step_few (HO.out.few i) _
                  obtain ⟨t, htt⟩ : ∃ t, p.step (p.line i) (lw L i) = t := ⟨_, rfl⟩
                  rw [htt] at HF HS
                  have HTT : Hid (p.step (p.line i) (lw L i) = t) := htt
                  clear htt
                  go_upto_region 38 with fail
                  go_cut [22] (fun v22 wc => v22 = .bool t.2 ∧ RowAt wc w.heap.size L ∧ Below w.heap.size w wc)
                  case first =>
                    refine RefZeR.reg38 a w.heap.size p.lines.length i g0 cap0 gl capl (p.line i).length t (lw L i) L wr _ _ _ _ _ hlt hiL HO.out rfl HF.out hR (fun W hW => (hlr.below rfl hW).all) (fun W hW => (hlr.below rfl hW).line) (fun W hW => by have := step_in H (hB.trans (hW.mono hB.size)) (hlr.below rfl hW) hlt (HO.out.few i); rw [HTT.out] at this; exact this) ?_
                    intro x194 x195 x196 x197 x198 x199 x200 x201 x202 x203 x204 x205 x206 x207 x208 x209 x21 w' hR' hB'
                    go_wp2_with fail
                    go_meet
                    case rel => exact ⟨rfl, hR', hB.trans (hB'.mono hB.size)⟩
                  case rest =>
                    as_aux_lemma => --<D2
                      clear hR hB hlr hc0 hcl HTT
                      obtain ⟨rfl, hR, hB⟩ := hcut
                      have hkn := hR.known i hiL
                      cases hk : (lw L i).known
                      · rw [hk] at hkn
                        have HX : Hid (p.faultGo L p.lines.length 0 = p.faultGo L (p.lines.length - (i + 1)) (i + 1)) := by
                          unfold Hid; rw [HI.out, HS.out, hk]; rfl
                        clear hk
                        go_wp2
                        go_roundg (p.lines.length - (i + 1))
                        case rel => exact ⟨i + 1, by omega, by omega, by go_num, hR, hB, HX⟩
                        case measure => omega
                      · rw [hk] at hkn
                        cases ht : t.2
                        · have HX : Hid (p.faultGo L p.lines.length 0 = (i : Int)) := by
                            unfold Hid; rw [HI.out, HS.out, hk, ht]; rfl
                          clear hk
                          go_wp2
                          go_ret
                          exact ⟨⟨L, HSet.out, by rw [HX.out]; rfl⟩, hB⟩
                        · have HX : Hid (p.faultGo L p.lines.length 0 = p.faultGo L (p.lines.length - (i + 1)) (i + 1)) := by
                            unfold Hid; rw [HI.out, HS.out, hk, ht]; rfl
                          clear hk
                          go_wp2
                          go_roundg (p.lines.length - (i + 1))
                          case rel => exact ⟨i + 1, by omega, by omega, by go_num, hR, hB, HX⟩
                          case measure => omega
                      -->D2
                · as_aux_lemma => --<D3
                    have hc0 := (hl0.below rfl hB).all
                    have hltI : ¬ (i : Int) < p.lines.length := by omega
                    have HX : Hid (p.faultGo L p.lines.length 0 = -1) := by unfold Hid; rw [HI.out, show p.lines.length - i = 0 by omega]; rfl
                    go_wp2
                    go_ret
                    exact ⟨⟨L, HSet.out, by rw [HX.out]; rfl⟩, hB⟩
                    -->D3
              -->D
            · go_wp2
              go_loopg [5, 6] (p.lines.length) (fun g v5 v6 wr => ∃ (i : Nat) (L' : List WS) (m : Bool), i ≤ p.lines.length ∧ g + i = p.lines.length ∧ v6 = .int .i64 i ∧ v5 = .bool m ∧ RowAt wr w.heap.size L' ∧ Below w.heap.size w wr ∧ L'.length = p.lines.length ∧ Hid (Grows (L, false) (L', m)) ∧ Hid (p.pass L = p.passGo (p.lines.length - i) i (L', m)))
              case atStart => exact ⟨0, L, false, by omega, by omega, rfl, rfl, hR, hB, hL, Grows.refl HO.out, rfl⟩
              case round =>
                clear hR hB hL
                obtain ⟨i, L', m, hi, hgi, rfl, rfl, hR, hB, hL, HGr, HPs⟩ := hrel
                by_cases hlt : i < p.lines.length
                · obtain ⟨g0, cap0, gl, capl, hli⟩ := line_in H.prog i hlt
                  have hlr := hli.below rfl hB
                  have hc0 := hlr.all
                  have hcl := hlr.line
                  have hiL : i < L'.length := by omega
                  have hkn := hR.known i hiL
                  have HS : Hid (_ = _) := p.passGo_step p.lines.length i (L', m) hlt
                  have hltI : (i : Int) < p.lines.length := by omega
                  cases hkw : (lw L' i).known
                  · rw [hkw] at hkn
                    have HT : Hid (p.through i (L', m) = (L', m)) := by unfold Hid RP.through; simp only; rw [hkw]; rfl
                    clear hkw
                    as_aux_lemma => --<U
                      go_wp2
                      go_roundg (p.lines.length - (i + 1))
                      case rel => exact ⟨i + 1, L', m, by omega, by omega, by go_num, rfl, hR, hB, hL, HGr, by unfold Hid; rw [HPs.out, HS.out, HT.out]⟩
                      case measure => omega
                      -->U
                  · rw [hkw] at hkn
                    have hh := hR.hasAt HGr.out.rows i hiL
                    have hv := hR.waysIn HGr.out.rows i hiL
                    have HST := step_in H hB hlr hlt (HGr.out.rows.few i)
                    have HF : Hid ((p.step (p.line i) (lw L' i)).1.Few) := p.step_few (HGr.out.rows.few i) _
                    have HT : Hid (p.through i (L', m) = if ends (word (p.line i) 0) then p.lead (p.line i) (p.step (p.line i) (lw L' i)).1 (L', m) else addTo (i + 1) (p.step (p.line i) (lw L' i)).1 (L', m)) := by
                      unfold Hid RP.through; simp only; rw [hkw]; rfl
                    obtain ⟨t, htt⟩ : ∃ t, p.step (p.line i) (lw L' i) = t := ⟨_, rfl⟩
                    rw [htt] at HST HF HT
                    clear htt hkw
                    have hi1 : IsWays t.1.cells.toArray := ⟨_, HF.out.ok, rfl⟩
                    go_upto_region 15 with fail
                    go_cut [8] (fun v8 wc => ∃ S, v8 = .pointer (some ⟨S, 0, none⟩) ∧ WayAt wc S t.1 ∧ Hid (wr.heap.size ≤ S) ∧ Below wr.heap.size wr wc)
                    case first =>
                      as_aux_lemma => --<S15
                        go_wp2_with (go_at_call 84; refine HST.mono ?_; rintro e w1 ⟨rfl, hb1⟩)
                        go_meet
                        case rel => exact ⟨_, rfl, way_new w1 HF.out.ok, hb1.size, below_new hb1 hb1.size _⟩
                        -->S15
                    case rest =>
                      obtain ⟨S, rfl, hS, HSz, hB1⟩ := hcut
                      have HSG : Hid (w.heap.size < S) := by have := HSz.out; have := hR.lt; unfold Hid; omega
                      replace hR := hR.below hB1
                      have hB0 := hB.size
                      replace hB := hB.trans (hB1.mono hB0)
                      replace hlr := hlr.below rfl hB1
                      have hcw0 := hlr.words 0 (H.ok.words i hlt)
                      have hln1 : (0 : Int) < (p.line i).length := by have := H.ok.words i hlt; omega
                      clear HST hh hv hkn hc0 hcl hB1 HSz hB0
                      have HEN := ends_bs (word (p.line i) 0) wc
                      cases he : ends (word (p.line i) 0)
                      · rw [he] at HEN HT
                        have hnx : i + 1 < L'.length := by have := H.good.next i hlt he; omega
                        clear he
                        as_aux_lemma => --<A
                          have HAD := fun W => added_in (lw L' (i + 1)) t.1 W (HGr.out.rows.few (i + 1)) HF.out
                          have HRF : Hid (((lw L' (i + 1)).add t.1).1.Few) := WS.add_few (HGr.out.rows.few (i + 1)) HF.out
                          have HGr2 : Hid (Grows (L, false) (addTo (i + 1) t.1 (L', m))) := HGr.out.trans (addTo_grows HGr.out.rows hnx HF.out)
                          have HAT : Hid (addTo (i + 1) t.1 (L', m) = (L'.set (i + 1) ((lw L' (i + 1)).add t.1).1, m || ((lw L' (i + 1)).add t.1).2)) := rfl
                          obtain ⟨r, hrr⟩ : ∃ r, (lw L' (i + 1)).add t.1 = r := ⟨_, rfl⟩
                          simp only [hrr] at HAD
                          rw [hrr] at HRF HAT
                          clear hrr
                          have hr1 : IsWays r.1.cells.toArray := ⟨_, HRF.out.ok, rfl⟩
                          have hnx1 : (i : Int) + 1 < p.lines.length := by omega
                          have hnx0 : (0 : Int) ≤ (i : Int) + 1 := by omega
                          have hwr : IntKind.i64.wrap ((i : Int) + 1) = (i : Int) + 1 := by rw [IntKind.wrap_i64]; omega
                          have htn : ((i : Int) + 1).toNat = i + 1 := by omega
                          go_upto_region 18 with (go_at_call 85; refine HEN.mono ?_; rintro e wc ⟨rfl, rfl⟩)
                          go_cut [11, 12] (fun v11 v12 wc' => ∃ T, v11 = .pointer (some ⟨T, 0, none⟩) ∧ v12 = .bool r.2 ∧ WayAt wc' T r.1 ∧ Hid (w.heap.size < T) ∧ RowAt wc' w.heap.size L' ∧ Below w.heap.size w wc')
                          case first =>
                            refine RefZeS.reg18 w.heap.size p.lines.length i S r t.1 L' wc _ _ _ _ _ _ _ (by omega) hn hL HGr.out.rows HF.out HRF.out hS hR HAD ?_
                            intro x92 x93 x94 x95 x96 x97 x98 x99 x100 x101 T w' hT' hGT hR' hB'
                            go_wp2_with fail
                            go_meet
                            case rel => exact ⟨T, rfl, rfl, hT', hGT, hR', hB.trans (hB'.mono hB.size)⟩
                          case rest =>
                            clear HAD hR hB hS hlr hcw0 HEN
                            obtain ⟨T, rfl, rfl, hT, HTG, hR, hB⟩ := hcut
                            have hhT := hT.hasAt HRF.out.ok
                            have hvT := hT.waysIn HRF.out.ok
                            have hhR := hR.hasAt HGr.out.rows (i + 1) hnx
                            cases m
                            all_goals
                              go_wp2
                              go_roundg (p.lines.length - (i + 1))
                              case rel => exact ⟨i + 1, L'.set (i + 1) r.1, _, by omega, by omega, by go_num, rfl, hR.store (i + 1) hnx HRF.out.ok, below_setCells hB (Nat.le_refl _) _ _, by rw [List.length_set]; exact hL, by have := HGr2.out; rw [HAT.out] at this; exact this, by unfold Hid; rw [HPs.out, HS.out, HT.out, if_neg (by decide), HAT.out]; rfl⟩
                              case measure => omega
                          -->A
                      · rw [he] at HEN HT
                        have HEE : Hid (ends (word (p.line i) 0) = true) := he
                        clear he
                        as_aux_lemma => --<B
                          have hraw := (H.prog.below hB).raw
                          obtain ⟨hnl, hnb⟩ := ends_not HEE.out
                          obtain ⟨-, hlen⟩ := len_of (H.good.pre.form i hlt) hnl hnb
                          have HINT : Hid (∀ k, (behind (word (p.line i) 0) p.raw).1.getD k 0 = 78 → ∃ n : Nat, number (word (p.line i) (k + 1)) = some (n : Int) ∧ n < p.blocks.length ∧ p.blockOf (word (p.line i) (k + 1)) = p.blocks.getD n 0 ∧ p.blocks.getD n 0 < p.lines.length) := H.good.into i hlt
                          have HM1 : Hid (word (p.line i) 0 = wMatch → 0 ≤ p.find (localOf (word (p.line i) 1))) := fun hm => find_at (f := [111, 78, 78]) (H.good.names i hlt) hnl (by rw [hm]; cases p.raw <;> rfl) 0 (by simp) (by simp)
                          have HB : ∀ W, Calls Tryz.prog 87 #[.string (bs (word (p.line i) 0)), .bool p.raw] W fun e w' => e = .returned (.tuple #[.string (bs (behind (word (p.line i) 0) p.raw).1), .bool (behind (word (p.line i) 0) p.raw).2]) ∧ w' = W := fun W => behind_bs _ _ _
                          have hf3 := behind_len (word (p.line i) 0) p.raw
                          have HT2 : Hid (p.through i (L', m) = p.leadGo (p.line i) t.1 (behind (word (p.line i) 0) p.raw).1 ((behind (word (p.line i) 0) p.raw).1.length - 0) 0 (L', m)) := by unfold Hid; rw [HT.out, if_pos rfl]; rfl
                          obtain ⟨f, hff⟩ : ∃ f, (behind (word (p.line i) 0) p.raw).1 = f := ⟨_, rfl⟩
                          rw [hff] at hlen HINT hf3 HT2
                          simp only [hff] at HB
                          have HLEN : Hid ((p.line i).length = f.length + 1) := hlen
                          clear hff HT hnl hnb hlen
                          generalize (behind (word (p.line i) 0) p.raw).2 = ok at HB
                          go_upto_region 21 with (go_at_call 85; refine HEN.mono ?_; rintro e wc ⟨rfl, rfl⟩)
                          go_quiet ((go_at_call 87; exact (HB _).mono fun _ _ ⟨he, hm⟩ => ⟨he, _, hm⟩))
                          go_wp2
                          clear HB HEN hcw0
                          go_loopg [5, 15] (f.length) (fun g v5 v15 wr => ∃ (k : Nat) (L2 : List WS) (m2 : Bool), k ≤ f.length ∧ g + k = f.length ∧ v15 = .int .i64 k ∧ v5 = .bool m2 ∧ RowAt wr w.heap.size L2 ∧ WayAt wr S t.1 ∧ Below w.heap.size w wr ∧ L2.length = p.lines.length ∧ Hid (Grows (L, false) (L2, m2)) ∧ Hid (p.through i (L', m) = p.leadGo (p.line i) t.1 f (f.length - k) k (L2, m2)))
                          case atStart => exact ⟨0, L', m, by omega, by omega, rfl, rfl, hR.drewN _, hS.drewN _, below_drewN hB _, hL, HGr, HT2⟩
                          case round =>
                            clear hR hS hB hL HT2 hraw hlr
                            obtain ⟨k, L2, m2, hk, hgk, rfl, rfl, hR, hS, hB, hL, HGr2, HI2⟩ := hrel
                            by_cases hkl : k < f.length
                            · have HSk : Hid (_ = _) := p.leadGo_step (p.line i) t.1 f f.length k (L2, m2) hkl
                              have hkI : (k : Int) < f.length := by omega
                              have hgD : f.getD k 0 = f[k] := by simp [hkl]
                              by_cases hN : f.getD k 0 = 78
                              · have hfb : ((f[k].toNat : Int) == 78) = true := by rw [← hgD, hN]; rfl
                                obtain ⟨nb, hnum, hnb, hbo, hbl⟩ := HINT.out k hN
                                have hlr := hli.below rfl hB
                                have hcw0 := hlr.words 0 (by have := HLEN.out; omega)
                                have hcw1 := hlr.words 1 (by have := HLEN.out; omega)
                                have hcwk := hlr.words (k + 1) (by have := HLEN.out; omega)
                                have hln2 : (1 : Int) < (p.line i).length := by have := HLEN.out; omega
                                have hlnk : (k : Int) + 1 < (p.line i).length := by have := HLEN.out; omega
                                have HNx : Hid (p.leadGo (p.line i) t.1 f (f.length - k) k (L2, m2) = p.leadGo (p.line i) t.1 f (f.length - (k + 1)) (k + 1) (addTo (p.blockOf (word (p.line i) (k + 1))) (p.outOf (p.line i) t.1 k) (L2, m2))) := by unfold Hid; rw [HSk.out, if_pos hN]
                                clear HSk hN hgD
                                have hhS := hS.hasAt HF.out.ok
                                have hvS := hS.waysIn HF.out.ok
                                go_upto_region 26 with fail
                                go_cut [16] (fun v16 wc => ∃ O, v16 = .pointer (some ⟨O, 0, none⟩) ∧ WayAt wc O t.1 ∧ Hid (w.heap.size < O ∧ S ≠ O) ∧ RowAt wc w.heap.size L2 ∧ WayAt wc S t.1 ∧ Below w.heap.size w wc)
                                case first =>
                                  as_aux_lemma => --<B1
                                    go_wp2
                                    go_meet
                                    case rel => exact ⟨_, rfl, way_new wr HF.out.ok, ⟨hR.lt, Nat.ne_of_lt hS.lt⟩, hR.below (below_new (Below.refl _ _) (Nat.le_refl _) _), hS.below (below_new (Below.refl _ _) (Nat.le_refl _) _), below_new hB hB.size _⟩
                                    -->B1
                                case rest =>
                                  clear hR hS hB hhS hvS hlr hcw0 hcw1 hcwk
                                  obtain ⟨O, rfl, hO, HOS, hR, hS, hB⟩ := hcut
                                  have hlr := hli.below rfl hB
                                  have hcw0 := hlr.words 0 (by have := HLEN.out; omega)
                                  have hcw1 := hlr.words 1 (by have := HLEN.out; omega)
                                  go_upto_region 27 with fail
                                  go_cut [140] (fun v wc' => ∃ b : Bool, v = .bool b ∧ Hid (b = decide (word (p.line i) 0 = wMatch ∧ k = 1)) ∧ wc' = wc)
                                  case first =>
                                    by_cases hmt : word (p.line i) 0 = wMatch
                                    · have hmb : (word (p.line i) 0 == [109, 97, 116, 99, 104]) = true := by rw [hmt]; rfl
                                      by_cases hk1 : k = 1
                                      · have hk1b : ((k : Int) == 1) = true := by simp; omega
                                        have HD : Hid (decide (word (p.line i) 0 = wMatch ∧ k = 1) = true) := by unfold Hid; simp [hmt, hk1]
                                        clear hmt
                                        go_wp2
                                        go_meet
                                        case rel => exact ⟨_, rfl, HD.out.symm, rfl⟩
                                      · have hk1b : ((k : Int) == 1) = false := by simp; omega
                                        have HD : Hid (decide (word (p.line i) 0 = wMatch ∧ k = 1) = false) := by unfold Hid; simp [hk1]
                                        clear hmt
                                        go_wp2
                                        go_meet
                                        case rel => exact ⟨_, rfl, HD.out.symm, rfl⟩
                                    · have hmb : (word (p.line i) 0 == [109, 97, 116, 99, 104]) = false := by simpa [wMatch] using hmt
                                      have HD : Hid (decide (word (p.line i) 0 = wMatch ∧ k = 1) = false) := by unfold Hid; simp [hmt]
                                      clear hmt
                                      go_wp2
                                      go_meet
                                      case rel => exact ⟨_, rfl, HD.out.symm, rfl⟩
                                  case rest =>
                                    obtain ⟨b, rfl, Hb, rfl⟩ := hcut
                                    go_upto_if 140 with fail
                                    go_cut [] (fun wc' => WayAt wc' O (if word (p.line i) 0 = wMatch ∧ k = 1 then p.now t.1 (word (p.line i) 1) [110] else t.1) ∧ RowAt wc' w.heap.size L2 ∧ WayAt wc' S t.1 ∧ Below w.heap.size w wc')
                                    case first =>
                                      cases b
                                      · have hd : ¬ (word (p.line i) 0 = wMatch ∧ k = 1) := of_decide_eq_false Hb.out.symm
                                        have HY : Hid ((if word (p.line i) 0 = wMatch ∧ k = 1 then p.now t.1 (word (p.line i) 1) [110] else t.1) = t.1) := by unfold Hid; rw [if_neg hd]
                                        clear hd
                                        go_wp2
                                        go_meet
                                        case rel => exact ⟨by rw [HY.out]; exact hO, hR, hS, hB⟩
                                      · have hd : word (p.line i) 0 = wMatch ∧ k = 1 := of_decide_eq_true Hb.out.symm
                                        have HY : Hid ((if word (p.line i) 0 = wMatch ∧ k = 1 then p.now t.1 (word (p.line i) 1) [110] else t.1) = p.now t.1 (word (p.line i) 1) [110]) := by unfold Hid; rw [if_pos hd]
                                        have hSd : WayAt wc.drew S t.1 := hS
                                        have hhS := hSd.hasAt HF.out.ok
                                        have hvS := hSd.waysIn HF.out.ok
                                        have HNw := now_in H (below_drewN hB 1) (i := i) HF.out (word (p.line i) 1) [110] rfl (by simp) (HM1.out hd.1)
                                        have HNF : Hid ((p.now t.1 (word (p.line i) 1) [110]).Few) := p.now_few HF.out _ few_n
                                        obtain ⟨u, huu⟩ : ∃ u, p.now t.1 (word (p.line i) 1) [110] = u := ⟨_, rfl⟩
                                        rw [huu] at HNw HNF
                                        have HUU : Hid (_ = u) := huu
                                        have hu1 : IsWays u.cells.toArray := ⟨_, HNF.out.ok, rfl⟩
                                        clear huu hd
                                        go_wp2_with fail
                                        go_region_law (go_simp; go_at_call 88; refine HNw.mono ?_; rintro e w2 ⟨rfl, hb2⟩; have hhO : HasAt w2 O 0 := ((hO.drew).below hb2).hasAt HF.out.ok)
                                        all_goals go_wp2_with fail
                                        all_goals
                                          go_meet
                                          case rel => exact ⟨by rw [HY.out, HUU.out]; exact (hO.drew.below hb2).store HF.out.ok HNF.out.ok, (hR.drew.below hb2).other (Nat.ne_of_lt HOS.out.1) 0 _, (hS.drew.below hb2).other HOS.out.2 0 _, below_setCells ((below_drewN hB 1).trans (hb2.mono hB.size)) (Nat.le_of_lt HOS.out.1) 0 _⟩
                                    case rest =>
                                      clear hO hR hS hB hlr hcw0 hcw1 Hb
                                      obtain ⟨hO, hR, hS, hB⟩ := hcut
                                      have hlr := hli.below rfl hB
                                      have hcw0 := hlr.words 0 (by have := HLEN.out; omega)
                                      have hcw1 := hlr.words 1 (by have := HLEN.out; omega)
                                      go_upto_region 29 with fail
                                      go_cut [154] (fun v wc' => ∃ b : Bool, v = .bool b ∧ Hid (b = decide (word (p.line i) 0 = wMatch ∧ k = 2)) ∧ wc' = wc)
                                      case first =>
                                        by_cases hmt : word (p.line i) 0 = wMatch
                                        · have hmb : (word (p.line i) 0 == [109, 97, 116, 99, 104]) = true := by rw [hmt]; rfl
                                          by_cases hk1 : k = 2
                                          · have hk1b : ((k : Int) == 2) = true := by simp; omega
                                            have HD : Hid (decide (word (p.line i) 0 = wMatch ∧ k = 2) = true) := by unfold Hid; simp [hmt, hk1]
                                            clear hmt
                                            go_wp2
                                            go_meet
                                            case rel => exact ⟨_, rfl, HD.out.symm, rfl⟩
                                          · have hk1b : ((k : Int) == 2) = false := by simp; omega
                                            have HD : Hid (decide (word (p.line i) 0 = wMatch ∧ k = 2) = false) := by unfold Hid; simp [hk1]
                                            clear hmt
                                            go_wp2
                                            go_meet
                                            case rel => exact ⟨_, rfl, HD.out.symm, rfl⟩
                                        · have hmb : (word (p.line i) 0 == [109, 97, 116, 99, 104]) = false := by simpa [wMatch] using hmt
                                          have HD : Hid (decide (word (p.line i) 0 = wMatch ∧ k = 2) = false) := by unfold Hid; simp [hmt]
                                          clear hmt
                                          go_wp2
                                          go_meet
                                          case rel => exact ⟨_, rfl, HD.out.symm, rfl⟩
                                      case rest =>
                                        obtain ⟨b, rfl, Hb, rfl⟩ := hcut
                                        go_upto_if 154 with fail
                                        go_cut [] (fun wc' => WayAt wc' O (p.outOf (p.line i) t.1 k) ∧ RowAt wc' w.heap.size L2 ∧ WayAt wc' S t.1 ∧ Below w.heap.size w wc')
                                        case first =>
                                          cases b
                                          · have hd : ¬ (word (p.line i) 0 = wMatch ∧ k = 2) := of_decide_eq_false Hb.out.symm
                                            have HY : Hid (p.outOf (p.line i) t.1 k = (if word (p.line i) 0 = wMatch ∧ k = 1 then p.now t.1 (word (p.line i) 1) [110] else t.1)) := by unfold Hid; unfold RP.outOf; rw [if_neg hd]
                                            clear hd
                                            go_wp2
                                            go_meet
                                            case rel => exact ⟨by rw [HY.out]; exact hO, hR, hS, hB⟩
                                          · have hd : word (p.line i) 0 = wMatch ∧ k = 2 := of_decide_eq_true Hb.out.symm
                                            have HY : Hid (p.outOf (p.line i) t.1 k = p.now t.1 (word (p.line i) 1) [119]) := by unfold Hid; unfold RP.outOf; rw [if_pos hd]
                                            rw [if_neg (fun h => by omega)] at hO
                                            have hSd : WayAt wc.drew S t.1 := hS
                                            have hhS := hSd.hasAt HF.out.ok
                                            have hvS := hSd.waysIn HF.out.ok
                                            have HNw := now_in H (below_drewN hB 1) (i := i) HF.out (word (p.line i) 1) [119] rfl (by simp) (HM1.out hd.1)
                                            have HNF : Hid ((p.now t.1 (word (p.line i) 1) [119]).Few) := p.now_few HF.out _ few_w
                                            obtain ⟨u, huu⟩ : ∃ u, p.now t.1 (word (p.line i) 1) [119] = u := ⟨_, rfl⟩
                                            rw [huu] at HNw HNF
                                            have HUU : Hid (_ = u) := huu
                                            have hu1 : IsWays u.cells.toArray := ⟨_, HNF.out.ok, rfl⟩
                                            clear huu hd
                                            go_wp2_with fail
                                            go_region_law (go_simp; go_at_call 88; refine HNw.mono ?_; rintro e w2 ⟨rfl, hb2⟩; have hhO : HasAt w2 O 0 := ((hO.drew).below hb2).hasAt HF.out.ok)
                                            all_goals go_wp2_with fail
                                            all_goals
                                              go_meet
                                              case rel => exact ⟨by rw [HY.out, HUU.out]; exact (hO.drew.below hb2).store HF.out.ok HNF.out.ok, (hR.drew.below hb2).other (Nat.ne_of_lt HOS.out.1) 0 _, (hS.drew.below hb2).other HOS.out.2 0 _, below_setCells ((below_drewN hB 1).trans (hb2.mono hB.size)) (Nat.le_of_lt HOS.out.1) 0 _⟩
                                        case rest =>
                                          clear hO hR hS hB hlr hcw0 hcw1 Hb
                                          obtain ⟨hO, hR, hS, hB⟩ := hcut
                                          have HOF : Hid ((p.outOf (p.line i) t.1 k).Few) := p.out_few HF.out _ _
                                          obtain ⟨o, hoo⟩ : ∃ o, p.outOf (p.line i) t.1 k = o := ⟨_, rfl⟩
                                          rw [hoo] at hO HOF HNx
                                          rw [hbo] at HNx
                                          have hlr := hli.below rfl hB
                                          have hcwk := hlr.words (k + 1) (by have := HLEN.out; omega)
                                          have HBL := block_any p a (word (p.line i) (k + 1)) nb wc (H.prog.below hB) H.ok (by have := H.ok.long i (k + 1); unfold maxLen; omega) hnum hnb
                                          clear hoo hbo hnum
                                          have hnbL : p.blocks.getD nb 0 < L2.length := by omega
                                          obtain ⟨bb, hbb⟩ : ∃ bb, p.blocks.getD nb 0 = bb := ⟨_, rfl⟩
                                          rw [hbb] at HBL HNx hnbL hbl
                                          clear hbb
                                          have hbbI : (bb : Int) < p.lines.length := by omega
                                          as_aux_lemma => --<B4
                                            have hGb := addTo_grows HGr2.out.rows hnbL HOF.out
                                            have HGr3 : Hid (Grows (L, false) (addTo bb o (L2, m2))) := HGr2.out.trans hGb
                                            have HAT : Hid (addTo bb o (L2, m2) = (L2.set bb ((lw L2 bb).add o).1, m2 || ((lw L2 bb).add o).2)) := rfl
                                            have HRF : Hid (((lw L2 bb).add o).1.Few) := WS.add_few (HGr2.out.rows.few bb) HOF.out
                                            have HAD := fun W => added_in (lw L2 bb) o W (HGr2.out.rows.few bb) HOF.out
                                            obtain ⟨r, hrr⟩ : ∃ r, (lw L2 bb).add o = r := ⟨_, rfl⟩
                                            simp only [hrr] at HAD
                                            rw [hrr] at HRF HAT
                                            clear hrr hGb
                                            have hr1 : IsWays r.1.cells.toArray := ⟨_, HRF.out.ok, rfl⟩
                                            go_upto_region 32 with (go_at_call 89; refine HBL.mono ?_; rintro e wd ⟨rfl, hwd⟩; have HWD : Hid (∃ nd, wd = wc.drewN nd) := hwd; clear hwd)
                                            obtain ⟨nd, hwd⟩ := HWD.out
                                            clear HWD
                                            replace hO : WayAt wd O o := by rw [hwd]; exact hO.drewN nd
                                            replace hR : RowAt wd w.heap.size L2 := by rw [hwd]; exact hR.drewN nd
                                            replace hS : WayAt wd S t.1 := by rw [hwd]; exact hS.drewN nd
                                            replace hB : Below w.heap.size w wd := by rw [hwd]; exact below_drewN hB nd
                                            clear hwd hlr hcwk
                                            go_cut [18, 19] (fun v18 v19 wc' => ∃ T, v18 = .pointer (some ⟨T, 0, none⟩) ∧ v19 = .bool r.2 ∧ WayAt wc' T r.1 ∧ Hid (w.heap.size < T) ∧ RowAt wc' w.heap.size L2 ∧ WayAt wc' S t.1 ∧ Below w.heap.size w wc')
                                            case first =>
                                              refine RefZeT.reg32 w.heap.size p.lines.length bb O r o L2 wd _ _ _ _ _ _ _ _ (by omega) hL HGr2.out.rows HOF.out HRF.out hO hR HAD ?_
                                              intro x168 x169 x170 x171 x172 x173 x174 x175 x176 T w' hT' hGT hR' hB'
                                              go_wp2_with fail
                                              go_meet
                                              case rel => exact ⟨T, rfl, rfl, hT', hGT, hR', hS.below hB', hB.trans (hB'.mono hB.size)⟩
                                            case rest =>
                                              clear HAD hR hB hS hO
                                              obtain ⟨T, rfl, rfl, hT, HTG, hR, hS, hB⟩ := hcut
                                              have hhT := hT.hasAt HRF.out.ok
                                              have hvT := hT.waysIn HRF.out.ok
                                              have hhR := hR.hasAt HGr2.out.rows bb hnbL
                                              cases m2
                                              all_goals
                                                go_wp2
                                                go_roundg (f.length - (k + 1))
                                                case rel => exact ⟨k + 1, L2.set bb r.1, _, by omega, by omega, by go_num, rfl, hR.store bb hnbL HRF.out.ok, hS.other (Nat.ne_of_gt HSG.out) _ _, below_setCells hB (Nat.le_refl _) _ _, by rw [List.length_set]; exact hL, by have := HGr3.out; rw [HAT.out] at this; exact this, by unfold Hid; rw [HI2.out, HNx.out, HAT.out]; rfl⟩
                                                case measure => omega
                                            -->B4
                              · have hfb : ((f[k].toNat : Int) == 78) = false := by
                                  rw [← hgD]
                                  have : ¬ (f.getD k 0).toNat = 78 := fun h => hN ((u8_eq (f.getD k 0) 78 (by omega)).mpr h)
                                  rw [beq_eq_false_iff_ne]; omega
                                have HNx : Hid (p.leadGo (p.line i) t.1 f (f.length - k) k (L2, m2) = p.leadGo (p.line i) t.1 f (f.length - (k + 1)) (k + 1) (L2, m2)) := by unfold Hid; rw [HSk.out, if_neg hN]
                                clear HSk hN hgD
                                as_aux_lemma => --<B5
                                  go_wp2
                                  go_roundg (f.length - (k + 1))
                                  case rel => exact ⟨k + 1, L2, m2, by omega, by omega, by go_num, rfl, hR, hS, hB, hL, HGr2, by unfold Hid; rw [HI2.out, HNx.out]⟩
                                  case measure => omega
                                  -->B5
                            · as_aux_lemma => --<B6
                                have hkI : ¬ (k : Int) < f.length := by omega
                                have HX : Hid (p.through i (L', m) = (L2, m2)) := by unfold Hid; rw [HI2.out, show f.length - k = 0 by omega]; rfl
                                go_wp2
                                go_roundg (p.lines.length - (i + 1))
                                case rel => exact ⟨i + 1, L2, m2, by omega, by omega, by go_num, rfl, hR, hB, hL, HGr2, by unfold Hid; rw [HPs.out, HS.out, HX.out]⟩
                                case measure => omega
                                -->B6
                          -->B
                · as_aux_lemma => --<C
                    have hc0 := (hl0.below rfl hB).all
                    have hltI : ¬ (i : Int) < p.lines.length := by omega
                    have HX : Hid (p.pass L = (L', m)) := by unfold Hid; rw [HPs.out, show p.lines.length - i = 0 by omega]; rfl
                    go_wp2
                    go_roundg (if m then 97 * p.lines.length - total L' + 1 else 0)
                    case rel => exact ⟨L', m, rfl, Nat.le_refl _, hR, hB, hL, HGr.out.rows, ⟨fun hm => by have := RP.Reach.pass L (HQ.out.1 (by first | trivial | rfl)) (by rw [HX.out]; exact hm); rwa [HX.out] at this, fun hm => ⟨L, HQ.out.1 (by first | trivial | rfl), by rw [HX.out, hm]⟩⟩⟩
                    case measure =>
                      have h1 := HG.out
                      have h3 := total_le HGr.out.rows
                      have h4 := HGr.out.told
                      go_light
                      simp only [if_true] at h1 h3 h4
                      rw [hL] at h3
                      cases m
                      · simp; omega
                      · have := h4 rfl
                        simp at this ⊢; omega
                    -->C
end Go.Proofs.YtmlgajhhnojdjaaGreatDoor.RefZe
/- The document's own answer to Check: the first error of a text, and its line. Conditions: the text is not longer than 2^40 bytes. -/
namespace Go.Proofs.YtmlgajhhnojdjaaGreatDoor.RefZf
open Go.RowKit Go.Proofs.YtmlgajhhnojdjaaGreatDoor.Spec Go.Proofs.YtmlgajhhnojdjaaGreatDoor.RefM Go.Proofs.YtmlgajhhnojdjaaGreatDoor.RefZe Go.Proofs.YtmlgajhhnojdjaaGreatDoor.Aux

theorem refRead_bad {text : B} {raw : Bool} {c k : Nat} (h : refRead text raw = (none, c, k)) : 1 ≤ c ∧ c ≤ 4 := by
  unfold refRead at h
  split at h
  · simp only [Prod.mk.injEq] at h; omega
  · split at h
    · simp only [Prod.mk.injEq] at h; omega
    · split at h
      · simp only [Prod.mk.injEq] at h; omega
      · split at h
        · simp only [Prod.mk.injEq] at h; omega
        · split at h
          · simp only [Prod.mk.injEq] at h; omega
          · cases h
/-- what Checked leaves -/
def CheckedPost (text : B) (w : World) (e : Ending) (w' : World) : Prop :=
  Below w.heap.size w w' ∧ ((∃ c k : Nat, refRead text false = (none, c, k) ∧ e = .returned (.tuple #[.pointer none, .int .i64 (c : Int), .int .i64 (k : Int)])) ∨
    ∃ p L, refRead text false = (some p, 0, 0) ∧ p.Settled L ∧ ((0 ≤ p.faultGo L p.lines.length 0 ∧ e = .returned (.tuple #[.pointer none, .int .i64 5, .int .i64 (p.faultGo L p.lines.length 0)])) ∨
      (p.faultGo L p.lines.length 0 < 0 ∧ ∃ a, e = .returned (.tuple #[.pointer (some ⟨a, 0, none⟩), .int .i64 0, .int .i64 0]) ∧ ProgAt w' a p ∧ p.Ok ∧ w.heap.size ≤ a)))
set_option maxRecDepth 20000 in
set_option maxHeartbeats 1000000 in
theorem checked_any (text : B) (w : World) (h : text.length ≤ 1099511627776) : Calls Tryz.prog 34 #[.string (bs text)] w (CheckedPost text w) := by
  have HRD := read_any text false w h
  go_enter Tryz.func34, Tryz.ntmps34
  cases hr : refRead text false with
  | mk op ck =>
    obtain ⟨c, k⟩ := ck
    cases op with
    | none =>
      obtain ⟨hc1, hc2⟩ := refRead_bad hr
      have hcb : ((c : Int) == 0) = false := by simp; omega
      have HR : Hid (_ = _) := hr
      go_wp2_with (go_at_call 46; refine HRD.mono ?_; rintro e w1 ⟨hb1, v, rfl, hv⟩; rw [HR.out] at hv; obtain ⟨-, rfl⟩ : True ∧ v = .pointer none := (by rcases hv with ⟨-, hv⟩ | ⟨p, a, hp, -⟩; exact ⟨trivial, hv⟩; cases hp); have hw1 : Hid (Below w.heap.size w w1) := hb1; simp only [HR.out])
      go_ret3
      exact ⟨hw1.out, .inl ⟨c, k, HR.out, rfl⟩⟩
    | some p =>
      obtain ⟨hg, rfl, rfl, -⟩ := refRead_good hr
      have HR : Hid (_ = _) := hr
      have HG : Hid (_) := hg
      clear hr hg
      go_upto_region 4 with (go_at_call 46; refine HRD.mono ?_; rintro e w1 ⟨hb1, v, rfl, hv⟩; rw [HR.out] at hv; obtain ⟨a, rfl, hok, hinv⟩ : ∃ a, v = .pointer (some ⟨a, 0, none⟩) ∧ Hid p.Ok ∧ Hid (∃ vl vt vb us, RInv w.heap.size a w1 p vl vt vb us) := (by rcases hv with ⟨hv, -⟩ | ⟨p', a, hp, hv, ho, hi⟩; (cases hv); (cases hp; exact ⟨a, hv, ho, hi⟩)); have hw1 : Hid (Below w.heap.size w w1) := hb1; clear hv hb1; simp only [HR.out])
      have hA : Hid (ProgAt w1 a p ∧ w.heap.size ≤ a) := by obtain ⟨vl, vt, vb, us, hi⟩ := hinv.out; exact ⟨hi.progAt hok.out.words, hi.base⟩
      have HU := use_any text p a w1 ⟨hA.out.1, hok.out, HG.out⟩
      go_cut [8] (fun v8 wc => (∃ L, Hid (p.Settled L) ∧ v8 = .int .i64 (p.faultGo L p.lines.length 0)) ∧ Hid (Below w1.heap.size w1 wc))
      case first =>
        go_wp2_with (go_at_call 52; refine HU.mono ?_; rintro e w2 ⟨⟨L, hL, rfl⟩, hb2⟩; have HL : Hid (_) := hL; have HB : Hid (_) := hb2; clear hL hb2)
        go_meet
        case rel => exact ⟨⟨L, HL, rfl⟩, HB⟩
      case rest =>
        obtain ⟨⟨L, HL, rfl⟩, HB⟩ := hcut
        clear HU HRD
        obtain ⟨fa, hfa⟩ : ∃ fa, p.faultGo L p.lines.length 0 = fa := ⟨_, rfl⟩
        rw [hfa]
        have HFA : Hid (_ = _) := hfa
        clear hfa
        have HBB : Hid (Below w.heap.size w wc) := hw1.out.trans (HB.out.mono hw1.out.size)
        by_cases h0 : 0 ≤ fa
        · go_wp2
          go_ret3
          exact ⟨HBB.out, .inr ⟨p, L, HR.out, HL.out, .inl ⟨by rw [HFA.out]; exact h0, by rw [HFA.out]; rfl⟩⟩⟩
        · go_wp2
          go_ret3
          exact ⟨HBB.out, .inr ⟨p, L, HR.out, HL.out, .inr ⟨by rw [HFA.out]; omega, a, rfl, hA.out.1.below HB.out, hok.out, hA.out.2⟩⟩⟩
end Go.Proofs.YtmlgajhhnojdjaaGreatDoor.RefZf
