/- The document's own bare machine: any statement, way on and end of a raw program that was read, walked. -/
import Derived.Test.YtmlgajhhnojdjaaGreatDoorSBQ
import Derived.Test.YtmlgajhhnojdjaaGreatDoorSBR
import Derived.Test.YtmlgajhhnojdjaaGreatDoorSBN
import Derived.Test.YtmlgajhhnojdjaaGreatDoorSAQ
import Derived.Test.YtmlgajhhnojdjaaGreatDoorSAE
import Derived.Test.YtmlgajhhnojdjaaGreatDoorSAR
import Derived.Test.YtmlgajhhnojdjaaGreatDoorSAJ
import Derived.Deep.DeepCutAuto
import Derived.Test.YtmlgajhhnojdjaaGreatDoorSAU
import Derived.Test.YtmlgajhhnojdjaaGreatDoorSBL
import Derived.Deep.QuietTactic
import Derived.Test.YtmlgajhhnojdjaaGreatDoorSBP
namespace Go.Proofs.YtmlgajhhnojdjaaGreatDoor.Mac
open Go Go.RowKit Go.Proofs.YtmlgajhhnojdjaaGreatDoor.Spec Go.Proofs.YtmlgajhhnojdjaaGreatDoor.Aux Go.Proofs.YtmlgajhhnojdjaaGreatDoor.Own Go.Proofs.YtmlgajhhnojdjaaGreatDoor.RefRa Go.Proofs.YtmlgajhhnojdjaaGreatDoor.RefZd Go.Proofs.YtmlgajhhnojdjaaGreatDoor.PrjS Go.Proofs.YtmlgajhhnojdjaaGreatDoor.Sim

def rawWords : List B := [[115, 101, 116], [105, 110], [97, 100, 100], [115, 117, 98], [109, 117, 108], [100, 105, 118], [111, 117, 116], [105, 102], [101, 110, 100], [109, 97, 116, 99, 104], [110, 101, 119], [108, 111, 97, 100], [115, 116, 111, 114, 101], [110, 111, 110, 101], [109, 111, 118, 101], [115, 111, 109, 101], [103, 111, 116, 111], [102, 114, 101, 101], [102, 108, 97, 103], [116, 101, 115, 116]]
theorem raw_words (w : B) (h : (behind w true).2 = true) : w ∈ rawWords := by
  by_cases hn : w ∈ rawWords
  · exact hn
  · exfalso
    simp only [rawWords, List.mem_cons, List.not_mem_nil, or_false, not_or] at hn
    obtain ⟨h1, h2, h3, h4, h5, h6, h7, h8, h9, h10, h11, h12, h13, h14, h15, h16, h17, h18, h19, h20⟩ := hn
    unfold behind at h
    simp only [h1, h2, h3, h4, h5, h6, h7, h8, h9, h10, h11, h12, h13, h14, h15, h16, h17, h18, h19, h20, or_self, if_false] at h
    repeat (split at h <;> first | (cases h; done) | skip)
section
variable {w0 w : World} {x gw cw : Nat} {f : Fx} {m : RM} {p : RP} {ws : List B} {t i : Nat} {inp : List Int} {text : B}
theorem RM.Ok.goes (j i : Nat) : ∀ (n k : Nat) (m : RM), m.Ok t → (RM.bareGo j i n k m).1.Ok t
  | 0, _, _, h => h
  | n + 1, k, m, h => by
    rw [RM.bareGo]
    split
    · exact h.outs 5
    · refine RM.Ok.goes j i n (k + 1) _ ⟨h.ints, fun q => ?_, h.vals, h.boxes, h.trace, h.count, h.used⟩
      show (m.held.set (j + k) (m.held.getD (i + k) 0)).getD q 0 ≤ m.boxes.length
      rw [List.getD_eq_getElem?_getD, List.getElem?_set]
      split
      · split
        · exact h.held _
        · exact Nat.zero_le _
      · rw [← List.getD_eq_getElem?_getD]; exact h.held q
theorem RM.Ok.bareB (h : m.Ok t) (ws : List B) : (m.bareB p ws).Ok t := by
  unfold RM.bareB
  simp only
  have h1 := RM.Ok.goes (sp p (word ws 1)) (sp p (word ws 2)) (p.spots (word ws 2)).2 0 m h
  split
  · exact h1
  · split
    · exact h1.how _
    · exact h1
theorem RM.Ok.bare (h : m.Ok t) (ws : List B) : (m.bare p ws).Ok t := by
  unfold RM.bare
  simp only
  split
  · split
    · exact h.outs 5
    · split
      · exact h.how _
      · exact (h.how _).bareB ws
  · exact h.bareB ws
theorem flag_of (hC : Ctx w0 p f) (hR : ReadOk text true p) (hb : p.body i) (k : Nat) (hk : k < (behind (word (p.line i) 0) true).1.length) (hc : (behind (word (p.line i) 0) true).1.getD k 0 = 102) : 0 ≤ valW (word (p.line i) (k + 1)) ∧ valW (word (p.line i) (k + 1)) < 50 ∧ (word (p.line i) (k + 1)).length ≤ maxLen := by
  have h := @lineForm_word true (p.line i) (by have := hR.pre.form i hb.1; rw [hR.raw] at this; exact this) (body_not hb).1 k hk
  rw [List.getD_eq_getElem?_getD, List.getElem?_eq_getElem hk] at hc
  have hc : (behind (word (p.line i) 0) true).1[k] = 102 := hc
  rw [hc, wordOf, if_neg (by decide), if_neg (by decide), if_neg (by decide), if_neg (by decide), if_pos rfl] at h
  unfold valW
  cases hn : number (word (p.line i) (k + 1)) with
  | none => rw [hn] at h; cases h
  | some n =>
    rw [hn] at h
    simp only [Bool.and_eq_true, decide_eq_true_eq] at h
    exact ⟨h.1, h.2, hC.long _ _⟩
theorem does_bare (hC : Ctx w0 p f) (hR : ReadOk text true p) (hb : p.body i) (hrow : Row w0 (p.line i) gw) (hf : f.owns = false) (hfe : FeedAt w0 f.vi inp) (hi : ∀ n ∈ inp, isI64 n) (h : MAt w0 x f w m) (he : ends (word (p.line i) 0) = false) (h0 : m.out = 0) (hO : m.Ok t) (ht : t ≤ 2000000) :
    Calls Tryz.prog 94 #[.pointer (some ⟨x, 0, none⟩), .slice (some ⟨gw, 0, none⟩) (p.line i).length cw] w (fun e w' => e = .returned (.tuple #[]) ∧ MAt w0 x f w' (m.does f p inp (p.line i))) ∧ (m.does f p inp (p.line i)).Ok (t + 3) := by
  have h12 := hC.twelve
  obtain ⟨g1, g2⟩ := body_form hR hb
  have W : ∀ {fm : B} (_ : (behind (word (p.line i) 0) true).1 = fm) (k : Nat) (_ : k < fm.length) (_ : fm.getD k 0 ∈ [(105 : UInt8), 112, 109, 111, 100]), Wd p (word (p.line i) (k + 1)) := fun hfm k hk hc => wd_of hC hR hb k (by rw [hfm]; exact hk) (by rw [hfm]; exact hc)
  have hfit := body_fit hR hb
  have hm := raw_words _ g1
  have hfl := flag_of hC hR hb
  have hlong := hC.long i
  generalize p.line i = ws at *
  simp only [rawWords, List.mem_cons, List.not_mem_nil, or_false] at hm
  rcases hm with e | e | e | e | e | e | e | e | e | e | e | e | e | e | e | e | e | e | e | e
  · have hq : (behind (word ws 0) true).1 = [105, 110] := by rw [e]; rfl
    have hn : ws.length = 3 := by rw [g2, hq]; rfl
    refine ⟨does_set hC h hrow hn e (W hq 0 (by simp) (by simp)) (hlong _), ?_⟩
    have : m.does f p inp ws = m.be (sp p (word ws 1)) (valW (word ws 2)) := by unfold RM.does; simp only [e]; rfl
    rw [this]; exact (hO.be _ (val_i64 _)).mono (by omega)
  · have hq : (behind (word ws 0) true).1 = [105] := by rw [e]; rfl
    have hn : ws.length = 2 := by rw [g2, hq]; rfl
    have h1 := W hq 0 (by simp) (by simp)
    have hres : m.does f p inp ws = m.input p inp ws := by unfold RM.does; simp only [e]; rfl
    refine ⟨?_, by rw [hres]; exact (hO.input hi).mono (by omega)⟩
    by_cases hu : m.used < inp.length
    · exact does_in hC h hrow hn e h1 hfe hu hO ht
    · exact does_inE hC h hrow hn e h1 hfe hu hO ht
  · have hq : (behind (word ws 0) true).1 = [105, 105, 105] := by rw [e]; rfl
    have hn : ws.length = 4 := by rw [g2, hq]; rfl
    have hres : m.does f p inp ws = m.arith p ws := by unfold RM.does; simp only [e]; rfl
    exact ⟨does_add hC h hrow hn e (W hq 0 (by simp) (by simp)) (W hq 1 (by simp) (by simp)) (W hq 2 (by simp) (by simp)), by rw [hres]; exact hO.arith.mono (by omega)⟩
  · have hq : (behind (word ws 0) true).1 = [105, 105, 105] := by rw [e]; rfl
    have hn : ws.length = 4 := by rw [g2, hq]; rfl
    have hres : m.does f p inp ws = m.arith p ws := by unfold RM.does; simp only [e]; rfl
    exact ⟨does_sub hC h hrow hn e (W hq 0 (by simp) (by simp)) (W hq 1 (by simp) (by simp)) (W hq 2 (by simp) (by simp)), by rw [hres]; exact hO.arith.mono (by omega)⟩
  · have hq : (behind (word ws 0) true).1 = [105, 105, 105] := by rw [e]; rfl
    have hn : ws.length = 4 := by rw [g2, hq]; rfl
    have hres : m.does f p inp ws = m.arith p ws := by unfold RM.does; simp only [e]; rfl
    exact ⟨does_mul hC h hrow hn e (W hq 0 (by simp) (by simp)) (W hq 1 (by simp) (by simp)) (W hq 2 (by simp) (by simp)), by rw [hres]; exact hO.arith.mono (by omega)⟩
  · have hq : (behind (word ws 0) true).1 = [105, 105, 105] := by rw [e]; rfl
    have hn : ws.length = 4 := by rw [g2, hq]; rfl
    have hres : m.does f p inp ws = m.arith p ws := by unfold RM.does; simp only [e]; rfl
    exact ⟨does_div hC h hrow hn e (W hq 0 (by simp) (by simp)) (W hq 1 (by simp) (by simp)) (W hq 2 (by simp) (by simp)), by rw [hres]; exact hO.arith.mono (by omega)⟩
  · have hq : (behind (word ws 0) true).1 = [105] := by rw [e]; rfl
    have hn : ws.length = 2 := by rw [g2, hq]; rfl
    have h1 := W hq 0 (by simp) (by simp)
    have hres : m.does f p inp ws = m.tell p ws := by unfold RM.does; simp only [e]; rfl
    refine ⟨?_, by rw [hres]; exact hO.tell.mono (by omega)⟩
    by_cases hh : m.has.getD (sp p (word ws 1)) false = true
    · exact does_out hC h hrow hn e h1 h0 hh hO ht
    · exact does_outN hC h hrow hn e h1 hh
  · rw [e] at he; exact absurd he (by decide)
  · rw [e] at he; exact absurd he (by decide)
  · rw [e] at he; exact absurd he (by decide)
  · have hq : (behind (word ws 0) true).1 = [112, 105] := by rw [e]; rfl
    have hn : ws.length = 3 := by rw [g2, hq]; rfl
    have h1 := W hq 0 (by simp) (by simp)
    have hres : m.does f p inp ws = m.new f p ws := by unfold RM.does; simp only [e]; rfl
    exact ⟨does_new hC h hrow hn e h1 (W hq 1 (by simp) (by simp)) h0 hO ht, by rw [hres]; exact hO.new (by omega) h1 h12⟩
  · have hq : (behind (word ws 0) true).1 = [105, 112] := by rw [e]; rfl
    have hn : ws.length = 3 := by rw [g2, hq]; rfl
    have hres : m.does f p inp ws = m.load p ws := by unfold RM.does; simp only [e]; rfl
    exact ⟨does_load hC h hrow hn e (W hq 0 (by simp) (by simp)) (W hq 1 (by simp) (by simp)) h0 hO ht, by rw [hres]; exact (hO.load (by omega)).mono (by omega)⟩
  · have hq : (behind (word ws 0) true).1 = [112, 105] := by rw [e]; rfl
    have hn : ws.length = 3 := by rw [g2, hq]; rfl
    have hres : m.does f p inp ws = m.store p ws := by unfold RM.does; simp only [e]; rfl
    exact ⟨does_store hC h hrow hn e (W hq 0 (by simp) (by simp)) (W hq 1 (by simp) (by simp)) h0 hO ht, by rw [hres]; exact (hO.store (by omega)).mono (by omega)⟩
  · have hq : (behind (word ws 0) true).1 = [111] := by rw [e]; rfl
    have hn : ws.length = 2 := by rw [g2, hq]; rfl
    have h1 := W hq 0 (by simp) (by simp)
    have hres : m.does f p inp ws = m.none f p ws := by unfold RM.does; simp only [e]; rfl
    exact ⟨does_noneB hC h hrow hn e h1 hf, by rw [hres]; exact (hO.none (by omega) h1 h12).mono (by omega)⟩
  · have hq : (behind (word ws 0) true).1 = [109, 109] := by rw [e]; rfl
    have hn : ws.length = 3 := by rw [g2, hq]; rfl
    have hres : m.does f p inp ws = m.bare p ws := by unfold RM.does; simp only [e, hf]; rfl
    exact ⟨does_moveB hC h hrow hn e (W hq 0 (by simp) (by simp)) (W hq 1 (by simp) (by simp)) (hfit (.inl e)) hf, by rw [hres]; exact (hO.bare ws).mono (by omega)⟩
  · have hq : (behind (word ws 0) true).1 = [111, 112] := by rw [e]; rfl
    have hn : ws.length = 3 := by rw [g2, hq]; rfl
    have hres : m.does f p inp ws = m.bare p ws := by unfold RM.does; simp only [e, hf]; rfl
    exact ⟨does_someB hC h hrow hn e (W hq 0 (by simp) (by simp)) (W hq 1 (by simp) (by simp)) (hfit (.inr e)) hf, by rw [hres]; exact (hO.bare ws).mono (by omega)⟩
  · rw [e] at he; exact absurd he (by decide)
  · have hq : (behind (word ws 0) true).1 = [112] := by rw [e]; rfl
    have hn : ws.length = 2 := by rw [g2, hq]; rfl
    have hres : m.does f p inp ws = m.free (sp p (word ws 1)) := by unfold RM.does; simp only [e]; rfl
    exact ⟨does_free hC h hrow hn e (W hq 0 (by simp) (by simp)) hO ht, by rw [hres]; exact (hO.free (by omega) _).mono (by omega)⟩
  · have hq : (behind (word ws 0) true).1 = [102, 118] := by rw [e]; rfl
    have hn : ws.length = 3 := by rw [g2, hq]; rfl
    obtain ⟨k1, k2, k3⟩ := hfl 0 (by rw [hq]; simp) (by rw [hq]; rfl)
    have hres : m.does f p inp ws = { m with flags := m.flags.set (valW (word ws 1)).toNat (word ws 2 == [49]) } := by unfold RM.does; simp only [e]; rfl
    refine ⟨does_flag h hrow hn e k3 ⟨k1, k2⟩, ?_⟩
    rw [hres]
    have hO3 := hO.mono (show t ≤ t + 3 by omega)
    exact ⟨hO3.ints, hO3.held, hO3.vals, hO3.boxes, hO3.trace, hO3.count, hO3.used⟩
  · rw [e] at he; exact absurd he (by decide)
end
end Go.Proofs.YtmlgajhhnojdjaaGreatDoor.Mac
/- The document's own bare machine: any way on and any end of a raw program that was read, walked: its moves. -/
namespace Go.Proofs.YtmlgajhhnojdjaaGreatDoor.Mac
open Go Go.RowKit Go.Proofs.YtmlgajhhnojdjaaGreatDoor.Spec Go.Proofs.YtmlgajhhnojdjaaGreatDoor.Aux Go.Proofs.YtmlgajhhnojdjaaGreatDoor.Own Go.Proofs.YtmlgajhhnojdjaaGreatDoor.RefRa Go.Proofs.YtmlgajhhnojdjaaGreatDoor.RefZd Go.Proofs.YtmlgajhhnojdjaaGreatDoor.PrjS Go.Proofs.YtmlgajhhnojdjaaGreatDoor.Sim

section
variable {w0 w : World} {x gw cw : Nat} {f : Fx} {m : RM} {p : RP} {t i : Nat} {inp : List Int} {text : B}
theorem ends_raw {w : B} (h : (behind w true).2 = true) (he : ends w = true) (hn : ¬ w = [101, 110, 100]) : w = [103, 111, 116, 111] ∨ w = [105, 102] ∨ w = [109, 97, 116, 99, 104] ∨ w = [116, 101, 115, 116] := by
  have hm := raw_words w h
  simp only [rawWords, List.mem_cons, List.not_mem_nil, or_false] at hm
  rcases hm with rfl | rfl | rfl | rfl | rfl | rfl | rfl | rfl | rfl | rfl | rfl | rfl | rfl | rfl | rfl | rfl | rfl | rfl | rfl | rfl
  all_goals first
    | exact absurd he (by decide)
    | exact absurd rfl hn
    | exact .inl rfl
    | exact .inr (.inl rfl)
    | exact .inr (.inr (.inl rfl))
    | exact .inr (.inr (.inr rfl))
theorem next_raw (hC : Ctx w0 p f) (hR : ReadOk text true p) (hb : p.body i) (hrow : Row w0 (p.line i) gw) (h : MAt w0 x f w m) (he : ends (word (p.line i) 0) = true) (hn : ¬ word (p.line i) 0 = [101, 110, 100]) :
    Calls Tryz.prog 93 #[.pointer (some ⟨x, 0, none⟩), .slice (some ⟨gw, 0, none⟩) (p.line i).length cw] w fun e w' => e = .returned (.int .i64 ((blockW p (m.next p (p.line i)).2 : Nat) : Int)) ∧ MAt w0 x f w' (m.next p (p.line i)).1 := by
  obtain ⟨h1, h2⟩ := body_form hR hb
  rcases ends_raw h1 he hn with e | e | e | e
  · have hf : (behind (word (p.line i) 0) true).1 = [78] := by rw [e]; rfl
    exact next_goto hC h hrow (by rw [h2, hf]; rfl) (bw_of hC hR hb 0 (by rw [hf]; rfl)) e
  · have hf : (behind (word (p.line i) 0) true).1 = [105, 78, 78] := by rw [e]; rfl
    have hl : (p.line i).length = 4 := by rw [h2, hf]; rfl
    have hw := wd_of hC hR hb 0 (by rw [hf]; simp) (by rw [hf]; simp)
    by_cases hz : m.int (sp p (word (p.line i) 1)) = 0
    · exact next_if0 hC h hrow hl hw (bw_of hC hR hb 2 (by rw [hf]; rfl)) e hz
    · exact next_if1 hC h hrow hl hw (bw_of hC hR hb 1 (by rw [hf]; rfl)) e hz
  · have hf : (behind (word (p.line i) 0) true).1 = [111, 78, 78] := by rw [e]; rfl
    have hl : (p.line i).length = 4 := by rw [h2, hf]; rfl
    have hw := wd_of hC hR hb 0 (by rw [hf]; simp) (by rw [hf]; simp)
    by_cases hz : m.how.getD (sp p (word (p.line i) 1)) 0 = 0
    · exact next_match0 hC h hrow hl hw (bw_of hC hR hb 2 (by rw [hf]; rfl)) e hz
    · by_cases hz2 : m.how.getD (sp p (word (p.line i) 1)) 0 = 110
      · exact next_match1 hC h hrow hl hw (bw_of hC hR hb 1 (by rw [hf]; rfl)) e hz2
      · exact next_match2 hC h hrow hl hw (bw_of hC hR hb 2 (by rw [hf]; rfl)) e hz hz2
  · have hf : (behind (word (p.line i) 0) true).1 = [102, 78, 78] := by rw [e]; rfl
    have hl : (p.line i).length = 4 := by rw [h2, hf]; rfl
    obtain ⟨k1, k2, k3⟩ := flag_of hC hR hb 0 (by rw [hf]; simp) (by rw [hf]; rfl)
    cases hz : m.flags.getD (valW (word (p.line i) 1)).toNat false
    · exact next_test0 hC h hrow hl k3 (bw_of hC hR hb 2 (by rw [hf]; rfl)) e ⟨k1, k2⟩ hz
    · exact next_test1 hC h hrow hl k3 (bw_of hC hR hb 1 (by rw [hf]; rfl)) e ⟨k1, k2⟩ hz
theorem next_bwR (hC : Ctx w0 p f) (hR : ReadOk text true p) (hb : p.body i) (he : ends (word (p.line i) 0) = true) (hn : ¬ word (p.line i) 0 = [101, 110, 100]) : Bw p (m.next p (p.line i)).2 := by
  obtain ⟨h1, h2⟩ := body_form hR hb
  rcases ends_raw h1 he hn with e | e | e | e
  · have hf : (behind (word (p.line i) 0) true).1 = [78] := by rw [e]; rfl
    have hd : m.next p (p.line i) = (m, word (p.line i) 1) := by unfold RM.next; simp [e]
    rw [hd]; exact bw_of hC hR hb 0 (by rw [hf]; rfl)
  · have hf : (behind (word (p.line i) 0) true).1 = [105, 78, 78] := by rw [e]; rfl
    have hd : (m.next p (p.line i)).2 = if m.int (sp p (word (p.line i) 1)) = 0 then word (p.line i) 3 else word (p.line i) 2 := by unfold RM.next; simp [e]
    rw [hd]
    split
    · exact bw_of hC hR hb 2 (by rw [hf]; rfl)
    · exact bw_of hC hR hb 1 (by rw [hf]; rfl)
  · have hf : (behind (word (p.line i) 0) true).1 = [111, 78, 78] := by rw [e]; rfl
    have hd : (m.next p (p.line i)).2 = if m.how.getD (sp p (word (p.line i) 1)) 0 = 110 then word (p.line i) 2 else word (p.line i) 3 := by unfold RM.next; simp [e, wMatch]
    rw [hd]
    split
    · exact bw_of hC hR hb 1 (by rw [hf]; rfl)
    · exact bw_of hC hR hb 2 (by rw [hf]; rfl)
  · have hf : (behind (word (p.line i) 0) true).1 = [102, 78, 78] := by rw [e]; rfl
    have hd : (m.next p (p.line i)).2 = if m.flags.getD (valW (word (p.line i) 1)).toNat false = true then word (p.line i) 2 else word (p.line i) 3 := by unfold RM.next; simp [e, wMatch]
    rw [hd]
    split
    · exact bw_of hC hR hb 1 (by rw [hf]; rfl)
    · exact bw_of hC hR hb 2 (by rw [hf]; rfl)
theorem finish_raw (hC : Ctx w0 p f) (hR : ReadOk text true p) (hb : p.body i) (hrow : Row w0 (p.line i) gw) (h : MAt w0 x f w m) (hw : word (p.line i) 0 = [101, 110, 100]) (h0 : m.out = 0) (hf : f.owns = false) :
    Calls Tryz.prog 92 #[.pointer (some ⟨x, 0, none⟩), .slice (some ⟨gw, 0, none⟩) (p.line i).length cw] w fun e w' => e = .returned (.tuple #[]) ∧ MAt w0 x f w' (m.finish f p (p.line i)) := by
  obtain ⟨h1, h2⟩ := body_form hR hb
  have hfm : (behind (word (p.line i) 0) true).1 = [105] := by rw [hw]; rfl
  have hl : (p.line i).length = 2 := by rw [h2, hfm]; rfl
  have hwd := wd_of hC hR hb 0 (by rw [hfm]; simp) (by rw [hfm]; simp)
  by_cases hh : m.has.getD (sp p (word (p.line i) 1)) false = true
  · exact finish_bare hC h hrow hl hwd hh h0 hf
  · exact finish_none hC h hrow hl hwd hh
theorem moves_bare (hC : Ctx w0 p f) (hR : ReadOk text true p) (hf : f.owns = false) (hfe : FeedAt w0 f.vi inp) (hn : ∀ n ∈ inp, isI64 n) : Moves w0 x f p inp :=
  ⟨fun kp i gw cw w m t hb hrow h h0 hO ht he => does_bare (f := { f with kept := kp }) ⟨hC.prog, hC.ok, hC.twelve⟩ hR hb hrow hf hfe hn h he h0 hO (by omega),
    fun kp i gw cw w m t hb hrow h hO he hn => ⟨next_raw (f := { f with kept := kp }) ⟨hC.prog, hC.ok, hC.twelve⟩ hR hb hrow h he hn, hO.next _, stands_bw hR (next_bwR hC hR hb he hn)⟩,
    fun kp i gw cw w m t hb hrow h h0 hO ht hw => finish_raw (f := { f with kept := kp }) ⟨hC.prog, hC.ok, hC.twelve⟩ hR hb hrow h hw h0 hf⟩
end
end Go.Proofs.YtmlgajhhnojdjaaGreatDoor.Mac
/- stowkeep's Story, walked: a word of a trace. -/
namespace Go.Proofs.YtmlgajhhnojdjaaGreatDoor.Bal
open Go Go.RowKit Go.Proofs.YtmlgajhhnojdjaaGreatDoor.Spec Go.Proofs.YtmlgajhhnojdjaaGreatDoor.Aux Go.Proofs.YtmlgajhhnojdjaaGreatDoor.PrjJ Go.Proofs.YtmlgajhhnojdjaaGreatDoor.PrjK Go.Proofs.YtmlgajhhnojdjaaGreatDoor.PrjL Go.Proofs.YtmlgajhhnojdjaaGreatDoor.PrjM Go.Proofs.YtmlgajhhnojdjaaGreatDoor.Own

section
variable {z x : Nat} {w w1 w2 w3 : World} {s : Sty} {vl v' : Value}
theorem below_cell (hz : z ≤ x) (hs : z ≤ w.heap.size) (o : Nat) (u : Value) : Below z w (w.setCell ⟨x, o, none⟩ u) := ((Turn.refl x w).setCell o u).below hz hs
end
/-! the number of a word -/
end Go.Proofs.YtmlgajhhnojdjaaGreatDoor.Bal
/- stowkeep's told, walked: what a trace says, whatever text it is. Condition: it has at most 2^29 bytes. -/
namespace Go.Proofs.YtmlgajhhnojdjaaGreatDoor.Bal
open Go Go.RowKit Go.Proofs.YtmlgajhhnojdjaaGreatDoor.Spec Go.Proofs.YtmlgajhhnojdjaaGreatDoor.Aux Go.Proofs.YtmlgajhhnojdjaaGreatDoor.PrjJ Go.Proofs.YtmlgajhhnojdjaaGreatDoor.PrjK Go.Proofs.YtmlgajhhnojdjaaGreatDoor.PrjL Go.Proofs.YtmlgajhhnojdjaaGreatDoor.PrjM Go.Proofs.YtmlgajhhnojdjaaGreatDoor.Own Go.Proofs.YtmlgajhhnojdjaaGreatDoor.RefE

theorem getD_byte {s : ByteArray} {k : Nat} (hk : k < s.size) : s.toList.getD k 0 = s[k] := by
  have hl : k < s.toList.length := by rw [length_toList]; exact hk
  rw [List.getD_eq_getElem?_getD, List.getElem?_eq_getElem hl, ← getElem_toList s k hk]; rfl
end Go.Proofs.YtmlgajhhnojdjaaGreatDoor.Bal
/- Plain facts: programs of one block that are made line by line, and what the project's reader makes of them. -/
namespace Go.Proofs.YtmlgajhhnojdjaaGreatDoor.MadA
open Go Go.Proofs.YtmlgajhhnojdjaaGreatDoor.Spec

/-- the five places: p, q, x.a, x.b, o.s -/
def plc (i : Fin 5) : B := match i with
  | 0 => [112] | 1 => [113] | 2 => [120, 46, 97] | 3 => [120, 46, 98] | 4 => [111, 46, 115]
def plq (i : Fin 5) : Nat × Nat := match i with
  | 0 => (1, 0) | 1 => (2, 0) | 2 => (3, 1) | 3 => (3, 2) | 4 => (4, 3)
inductive ML where
  | new (i : Fin 5)
  | load (i : Fin 5)
  | store (i : Fin 5)
  | move (i k : Fin 5)
  | drop (i : Fin 5)
  | some (k : Fin 5)
def ML.text : ML → B
  | new i => [110, 101, 119, 32] ++ plc i ++ [32, 110]
  | load i => [108, 111, 97, 100, 32, 110, 32] ++ plc i
  | store i => [115, 116, 111, 114, 101, 32] ++ plc i ++ [32, 110]
  | move i k => [109, 111, 118, 101, 32] ++ plc i ++ ([32] ++ plc k)
  | drop i => [100, 114, 111, 112, 32] ++ plc i
  | some k => [115, 111, 109, 101, 32, 111, 32] ++ plc k
def ML.q (n : Nat) : ML → QLine
  | new i => ⟨n, 9, [plq i, (0, 0)], 0, 0, []⟩
  | load i => ⟨n, 10, [(0, 0), plq i], 0, 0, []⟩
  | store i => ⟨n, 11, [plq i, (0, 0)], 0, 0, []⟩
  | move i k => ⟨n, 12, [plq i, plq k], 0, 0, []⟩
  | drop i => ⟨n, 15, [plq i], 0, 0, []⟩
  | some k => ⟨n, 14, [(4, 0), plq k], 0, 0, []⟩
instance : DecidableEq QLine := fun x y => decidable_of_iff (x.num = y.num ∧ x.op = y.op ∧ x.places = y.places ∧ x.number = y.number ∧ x.flag = y.flag ∧ x.next = y.next)
  ⟨fun ⟨h1, h2, h3, h4, h5, h6⟩ => by cases x; cases y; simp only at h1 h2 h3 h4 h5 h6; subst h1 h2 h3 h4 h5 h6; rfl, fun h => by subst h; exact ⟨rfl, rfl, rfl, rfl, rfl, rfl⟩⟩
end Go.Proofs.YtmlgajhhnojdjaaGreatDoor.MadA
/- Plain definitions: which places of a program that is made line by line have a box. -/
namespace Go.Proofs.YtmlgajhhnojdjaaGreatDoor.MadM
open Go Go.Proofs.YtmlgajhhnojdjaaGreatDoor.Spec Go.Proofs.YtmlgajhhnojdjaaGreatDoor.MadA

/-- which places have a box; the opt: 0 nothing, 1 whole, 2 hollow -/
structure MM where
  p : Bool
  q : Bool
  a : Bool
  b : Bool
  o : Fin 3
def MM.has (m : MM) (k : Fin 5) : Bool := match k with | 0 => m.p | 1 => m.q | 2 => m.a | 3 => m.b | 4 => m.o == 1
end Go.Proofs.YtmlgajhhnojdjaaGreatDoor.MadM
/- Plain facts: which places of a program that is made line by line have a box, and where its first fault is. -/
namespace Go.Proofs.YtmlgajhhnojdjaaGreatDoor.MadB
theorem hereMadB : True := trivial
end Go.Proofs.YtmlgajhhnojdjaaGreatDoor.MadB
/- Programs that are made line by line: the maker's steps, walked. -/
namespace Go.Proofs.YtmlgajhhnojdjaaGreatDoor.MadC
theorem hereMadC : True := trivial
end Go.Proofs.YtmlgajhhnojdjaaGreatDoor.MadC
/- Programs that are made line by line: a line out of raw numbers, walked. -/
namespace Go.Proofs.YtmlgajhhnojdjaaGreatDoor.MadD
theorem hereMadD : True := trivial
end Go.Proofs.YtmlgajhhnojdjaaGreatDoor.MadD
/- Programs that are made line by line: what Check says of them; their beginning, walked. -/
namespace Go.Proofs.YtmlgajhhnojdjaaGreatDoor.MadE
theorem hereMadE : True := trivial
end Go.Proofs.YtmlgajhhnojdjaaGreatDoor.MadE
/- stowkeep's small functions, walked: awake, some, starts. -/
namespace Go.Proofs.YtmlgajhhnojdjaaGreatDoor.RunB
open Go Go.RowKit Go.Proofs.YtmlgajhhnojdjaaGreatDoor.Spec Go.Proofs.YtmlgajhhnojdjaaGreatDoor.Aux Go.Proofs.YtmlgajhhnojdjaaGreatDoor.Own Go.Proofs.YtmlgajhhnojdjaaGreatDoor.RunA Go.Proofs.YtmlgajhhnojdjaaGreatDoor.PrjG Go.Proofs.YtmlgajhhnojdjaaGreatDoor.PrjJ Go.Proofs.YtmlgajhhnojdjaaGreatDoor.PrjK Go.Proofs.YtmlgajhhnojdjaaGreatDoor.PrjM Go.Proofs.YtmlgajhhnojdjaaGreatDoor.PrjS Go.Proofs.YtmlgajhhnojdjaaGreatDoor.FlwZ Go.Proofs.YtmlgajhhnojdjaaGreatDoor.FlwZa Go.Proofs.YtmlgajhhnojdjaaGreatDoor.MadE

theorem feed_nil (w : World) : FeedAt w (.slice none 0 0) [] := ⟨none, 0, rfl, Nat.le_refl _, Nat.zero_le _, fun _j hj => absurd hj (Nat.not_lt_zero _)⟩
end Go.Proofs.YtmlgajhhnojdjaaGreatDoor.RunB
/- The law Fueled, walked: more fuel goes on where less has stopped. For texts of at most 2^20 letters, in every world that holds the tables. -/
namespace Go.Proofs.YtmlgajhhnojdjaaGreatDoor.RunB
open Go Go.RowKit Go.Proofs.YtmlgajhhnojdjaaGreatDoor.Spec Go.Proofs.YtmlgajhhnojdjaaGreatDoor.Aux Go.Proofs.YtmlgajhhnojdjaaGreatDoor.Own Go.Proofs.YtmlgajhhnojdjaaGreatDoor.RunA Go.Proofs.YtmlgajhhnojdjaaGreatDoor.PrjG Go.Proofs.YtmlgajhhnojdjaaGreatDoor.PrjJ Go.Proofs.YtmlgajhhnojdjaaGreatDoor.PrjK Go.Proofs.YtmlgajhhnojdjaaGreatDoor.PrjM Go.Proofs.YtmlgajhhnojdjaaGreatDoor.PrjS Go.Proofs.YtmlgajhhnojdjaaGreatDoor.FlwZ Go.Proofs.YtmlgajhhnojdjaaGreatDoor.FlwZa Go.Proofs.YtmlgajhhnojdjaaGreatDoor.MadC Go.Proofs.YtmlgajhhnojdjaaGreatDoor.MadE

theorem laid_one {w4 w6 : World} {x : Obj} (hb : Below (w4.alloc x).heap.size (w4.alloc x) w6) : w6.heap[w4.heap.size]? = some x ∧ w4.heap.size < w6.heap.size := by
  have h : (w4.alloc x).heap[w4.heap.size]? = some x := Array.getElem?_push_size
  have hs := hb.size
  have e : (w4.alloc x).heap.size = w4.heap.size + 1 := by simp
  exact ⟨by rw [hb.block _ (by omega)]; exact h, by omega⟩
theorem laid_two {w4 w6 : World} {x y : Obj} (hb : Below (w4.alloc x).heap.size (w4.alloc x) w6) : (w6.alloc y).heap[w4.heap.size]? = some x := by
  have h : (w4.alloc x).heap[w4.heap.size]? = some x := Array.getElem?_push_size
  have hs := hb.size
  have e : (w4.alloc x).heap.size = w4.heap.size + 1 := by simp
  show (w6.heap.push y)[w4.heap.size]? = _
  rw [Array.getElem?_push_lt (by omega)]
  rw [← h, ← hb.block _ (by omega), Array.getElem?_eq_getElem (by omega)]
end Go.Proofs.YtmlgajhhnojdjaaGreatDoor.RunB
/- The law Calm, walked: a raw program, whatever it does, is stopped ahead of any use of a box that is not live: what its trace says is right, also where it is broken. For texts of at most 2^20 letters, in every world that holds the tables. -/
namespace Go.Proofs.YtmlgajhhnojdjaaGreatDoor.Ex
open Go Go.RowKit Go.Proofs.YtmlgajhhnojdjaaGreatDoor.Spec Go.Proofs.YtmlgajhhnojdjaaGreatDoor.Aux Go.Proofs.YtmlgajhhnojdjaaGreatDoor.Own Go.Proofs.YtmlgajhhnojdjaaGreatDoor.RunA Go.Proofs.YtmlgajhhnojdjaaGreatDoor.RunB Go.Proofs.YtmlgajhhnojdjaaGreatDoor.RefM Go.Proofs.YtmlgajhhnojdjaaGreatDoor.PrjG Go.Proofs.YtmlgajhhnojdjaaGreatDoor.PrjJ Go.Proofs.YtmlgajhhnojdjaaGreatDoor.PrjK Go.Proofs.YtmlgajhhnojdjaaGreatDoor.PrjM Go.Proofs.YtmlgajhhnojdjaaGreatDoor.PrjS Go.Proofs.YtmlgajhhnojdjaaGreatDoor.PrjX Go.Proofs.YtmlgajhhnojdjaaGreatDoor.FlwZ Go.Proofs.YtmlgajhhnojdjaaGreatDoor.MadC Go.Proofs.YtmlgajhhnojdjaaGreatDoor.Bal

theorem ExecIs.form {text : B} {inp : List Int} {fuel room : Int} {v : Value} {c k : Int} (h : ExecIs text inp fuel room v c k) : ∃ (o x : Int) (t : B) (l : Int), v = .agg #[.int .i64 o, .int .i64 x, .string (bs t), .int .i64 l] := by
  rcases h with ⟨-, -, -, -, -, -, rfl⟩ | ⟨-, -, rfl, -⟩ | ⟨-, -, -, q, ans, -, -, rfl⟩
  · exact ⟨0, 0, [], 0, rfl⟩
  · exact ⟨0, 0, [], 0, rfl⟩
  · exact ⟨_, _, _, _, rfl⟩
/-! the document's example -/
end Go.Proofs.YtmlgajhhnojdjaaGreatDoor.Ex
/- Plain facts: what the project's Exec answers is what the document's own Exec answers. -/
namespace Go.Proofs.YtmlgajhhnojdjaaGreatDoor.Ran
open Go Go.RowKit Go.Proofs.YtmlgajhhnojdjaaGreatDoor.Spec Go.Proofs.YtmlgajhhnojdjaaGreatDoor.Aux Go.Proofs.YtmlgajhhnojdjaaGreatDoor.Own Go.Proofs.YtmlgajhhnojdjaaGreatDoor.Mac Go.Proofs.YtmlgajhhnojdjaaGreatDoor.Sim Go.Proofs.YtmlgajhhnojdjaaGreatDoor.Ex Go.Proofs.YtmlgajhhnojdjaaGreatDoor.RunA Go.Proofs.YtmlgajhhnojdjaaGreatDoor.RunB Go.Proofs.YtmlgajhhnojdjaaGreatDoor.RefM Go.Proofs.YtmlgajhhnojdjaaGreatDoor.PrjS Go.Proofs.YtmlgajhhnojdjaaGreatDoor.FlwA Go.Proofs.YtmlgajhhnojdjaaGreatDoor.FlwV Go.Proofs.YtmlgajhhnojdjaaGreatDoor.FlwZ

/-- of a raw program that was read both machines come to the same -/
theorem exec_ref {text : B} {q : QP} (hq : prjRead text true = (some q, 0, 0)) {p : RP} (hp : refRead text true = (some p, 0, 0)) {inp : List Int} {n : Nat} {f : Fx} (hf : f.owns = false) {ans : Nat × Int × Br} (hr : runB q f.room n (q.blocks.getD 0 []) (Br.start inp) = some ans) :
    resR (runR f p inp n (p.blocks.getD 0 0) RM.start) = resB ans := by
  obtain ⟨p', hB⟩ := read_more (text := text) (raw := true) (q := q) (by rw [hq])
  have e := hB.ref
  rw [hp] at e
  simp only [Option.some.injEq] at e
  subst e
  have hS := raw_shape hq
  have hpos : 0 < q.blocks.length := by rw [hB.len]; exact hB.ok.first.1
  obtain ⟨b1, b2⟩ := block_stands hB hpos
  obtain ⟨e1, e2, e3, e4⟩ := run_bare hB hS hf n (p.blocks.getD 0 0) (Br.start inp) RM.start ans b1 (start_held q inp) (Rb.start q inp) rfl (by rw [← b2]; exact hr)
  unfold resR resB
  rw [e1, e2, e3, e4]
/-- what the document's own Exec answers -/
def RefEx (text : B) (inp : List Int) (fuel room : Int) (v : Value) (c k : Int) : Prop :=
  (∃ c' k' : Nat, 1 ≤ c' ∧ refRead text true = (none, c', k') ∧ c = c' ∧ k = k' ∧ v = zeroRes) ∨ ((∃ p, refRead text true = (some p, 0, 0)) ∧ ¬ mayExec inp fuel room ∧ v = zeroRes ∧ c = 6 ∧ k = 0) ∨
    (mayExec inp fuel room ∧ c = 0 ∧ k = 0 ∧ ∃ (p : RP) (f : Fx), refRead text true = (some p, 0, 0) ∧ f.owns = false ∧ f.room = room ∧ v = resR (runR f p inp fuel.toNat (p.blocks.getD 0 0) RM.start))
theorem exec_same {text : B} {inp : List Int} {fuel room : Int} {v v' : Value} {c k c' k' : Int} (h : ExecIs text inp fuel room v c k) (h' : RefEx text inp fuel room v' c' k') : v = v' ∧ c = c' ∧ k = k' := by
  have hs := (Go.Proofs.YtmlgajhhnojdjaaGreatDoor.Spec.read_same text true).1
  rcases h with ⟨c1, k1, h1, h2, rfl, rfl, rfl⟩ | ⟨⟨q, h1⟩, h2, rfl, rfl, rfl⟩ | ⟨h1, rfl, rfl, q, ans, h2, h3, rfl⟩
  · rw [h2] at hs
    rcases h' with ⟨c2, k2, g1, g2, rfl, rfl, rfl⟩ | ⟨⟨p, g1⟩, -⟩ | ⟨-, -, -, p, f, g1, -⟩
    · rw [g2] at hs
      simp only [Prod.mk.injEq] at hs
      obtain ⟨rfl, rfl⟩ := hs
      exact ⟨rfl, rfl, rfl⟩
    · rw [g1] at hs; simp only [Prod.mk.injEq] at hs; omega
    · rw [g1] at hs; simp only [Prod.mk.injEq] at hs; omega
  · rw [h1] at hs
    rcases h' with ⟨c2, k2, g1, g2, -⟩ | ⟨-, -, rfl, rfl, rfl⟩ | ⟨g1, -⟩
    · rw [g2] at hs; simp only [Prod.mk.injEq] at hs; omega
    · exact ⟨rfl, rfl, rfl⟩
    · exact absurd g1 h2
  · rw [h2] at hs
    rcases h' with ⟨c2, k2, g1, g2, -⟩ | ⟨-, g1, -⟩ | ⟨-, rfl, rfl, p, f, g1, g2, rfl, rfl⟩
    · rw [g2] at hs; simp only [Prod.mk.injEq] at hs; omega
    · exact absurd h1 g1
    · exact ⟨(exec_ref h2 g1 g2 h3).symm, rfl, rfl⟩
theorem RefEx.form {text : B} {inp : List Int} {fuel room : Int} {v : Value} {c k : Int} (h : RefEx text inp fuel room v c k) : ∃ (o x : Int) (t : B) (l : Int), v = .agg #[.int .i64 o, .int .i64 x, .string (bs t), .int .i64 l] := by
  rcases h with ⟨-, -, -, -, -, -, rfl⟩ | ⟨-, -, rfl, -⟩ | ⟨-, -, -, p, f, -, -, -, rfl⟩
  · exact ⟨0, 0, [], 0, rfl⟩
  · exact ⟨0, 0, [], 0, rfl⟩
  · exact ⟨_, _, _, _, rfl⟩
end Go.Proofs.YtmlgajhhnojdjaaGreatDoor.Ran
