/- Plain facts: what a raw program has that was read. -/
import Derived.Test.YtmlgajhhnojdjaaGreatDoorSBK
import Derived.Test.YtmlgajhhnojdjaaGreatDoorSBM
import Derived.Test.YtmlgajhhnojdjaaGreatDoorSBL
import Derived.Test.YtmlgajhhnojdjaaGreatDoorSAY
import Derived.Test.YtmlgajhhnojdjaaGreatDoorSBE
namespace Go.Proofs.YtmlgajhhnojdjaaGreatDoor.Ex
open Go Go.Proofs.YtmlgajhhnojdjaaGreatDoor.Spec Go.Proofs.YtmlgajhhnojdjaaGreatDoor.Aux Go.Proofs.YtmlgajhhnojdjaaGreatDoor.Own Go.Proofs.YtmlgajhhnojdjaaGreatDoor.RunA Go.Proofs.YtmlgajhhnojdjaaGreatDoor.RunB Go.Proofs.YtmlgajhhnojdjaaGreatDoor.PrjQ Go.Proofs.YtmlgajhhnojdjaaGreatDoor.PrjS Go.Proofs.YtmlgajhhnojdjaaGreatDoor.FlwA Go.Proofs.YtmlgajhhnojdjaaGreatDoor.PrjH

def Fl (l : QLine) : Prop := l.op = 17 ∨ l.op = 21 → 0 ≤ l.flag ∧ l.flag < 50
theorem lineGo_keep (ls : List (B × Nat)) (nb : Nat) : ∀ (f : B) (ws : List B) (l0 l : QLine), (∀ c ∈ f, ¬ c = 102) → lineGo ls nb f ws l0 = some l → l.flag = l0.flag
  | [], ws, l0, l, _, h => by simp only [lineGo, Option.some.injEq] at h; rw [h]
  | c :: f, ws, l0, l, hc, h => by
    have h1 := hc c (List.mem_cons_self ..)
    have h2 : ∀ d ∈ f, ¬ d = 102 := fun d hd => hc d (List.mem_cons_of_mem _ hd)
    rw [lineGo] at h
    by_cases c1 : c = 35 ∨ c = 118
    · rw [if_pos c1] at h
      have e := lineGo_keep ls nb f (ws.drop 1) _ l h2 h
      exact e
    · rw [if_neg c1, if_neg h1] at h
      by_cases c3 : c = 98
      · rw [if_pos c3] at h
        split at h
        · cases h
        · have e := lineGo_keep ls nb f (ws.drop 1) _ l h2 h
          exact e
      · rw [if_neg c3] at h
        split at h
        · cases h
        · have e := lineGo_keep ls nb f (ws.drop 1) _ l h2 h
          exact e
theorem line_fl {ls : List (B × Nat)} {nb : Nat} {ws : List B} {x : Nat × List B} {l : QLine} (hs : sentP ws = some x) (h : lineP ls nb x = some l) : Fl l := fun ho => by
  have hop := lineP_op h
  unfold sentP at hs
  split at hs
  · cases hs
  · rename_i op _
    split at hs
    · rename_i hf
      cases hs
      simp only at hop
      unfold lineP at h
      simp only at h
      have key : ∀ r : B, (∀ c ∈ r, ¬ c = 102) → wantsOf op = 102 :: r → 0 ≤ l.flag ∧ l.flag < 50 := fun r hr e => by
        rw [e] at h hf
        rw [lineGo, if_neg (by decide), if_pos rfl] at h
        have e2 := lineGo_keep ls nb r _ _ l hr h
        simp only at e2
        obtain ⟨hlen, hfm⟩ := hf
        have h3 : formedP (word (ws.drop 1) 0) 102 = true := by
          simp only [formedGo, Bool.and_eq_true] at hfm
          exact hfm.1
        have h4 : formedP (word (ws.drop 1) 0) 102 = (match digitsP (word (ws.drop 1) 0) with | some n => decide (n < 50) | none => false) := rfl
        rw [h4] at h3
        have h5 := digitsD_le (word (ws.drop 1) 0)
        cases hd : digitsP (word (ws.drop 1) 0) with
        | none => rw [hd] at h3; cases h3
        | some n =>
          rw [hd] at h3 e2 h5
          have hn : n < 50 := of_decide_eq_true h3
          rw [e2]
          exact ⟨h5.1, hn⟩
      rcases ho with e | e
      · rw [hop] at e; subst e; exact key [118] (by decide) rfl
      · rw [hop] at e; subst e; exact key [98, 98] (by decide) rfl
    · cases hs
theorem fl_go (raw : Bool) (nb : Nat) : ∀ (ls : List (List B)) (o : OrdP) (i j : Nat) (q0 q : QP), (splitGo raw ls o i).2.2 = none → lookGo nb (splitGo raw ls o i).1 j q0 = (q, none) → (∀ b ∈ q0.blocks, ∀ l ∈ b, Fl l) → ∀ b ∈ q.blocks, ∀ l ∈ b, Fl l
  | [], o, i, j, q0, q, _, h, hs => by
    simp only [splitGo, lookGo, Prod.mk.injEq, and_true] at h
    rw [← h]; exact hs
  | ws :: r, o, i, j, q0, q, hn, h, hs => by
    rw [splitGo] at hn h
    cases hx : sentP ws with
    | none => rw [hx] at hn; cases hn
    | some x =>
      rw [hx] at hn h
      simp only at hn h
      by_cases ha : (admitsP raw o x.1).2 = true
      · rw [if_pos ha] at hn h
        have ih := fun q1 hl hs1 => fl_go raw nb r (admitsP raw o x.1).1 (i + 1) (j + 1) q1 q hn hl hs1
        simp only at h
        rw [lookGo] at h
        by_cases e0 : x.1 = 0
        · rw [if_pos e0] at h
          split at h
          · simp at h
          · exact ih _ h hs
        · rw [if_neg e0] at h
          by_cases e1 : x.1 = 1
          · rw [if_pos e1] at h
            refine ih _ h fun b hb l hl => ?_
            simp only [QP.addBlock, List.mem_append, List.mem_singleton] at hb
            rcases hb with hb | rfl
            · exact hs b hb l hl
            · cases hl
          · rw [if_neg e1] at h
            cases hl : lineP q0.locals nb x with
            | none => rw [hl] at h; simp at h
            | some l =>
              rw [hl] at h
              refine ih _ h fun b hb m hm => ?_
              have hfl := line_fl hx hl
              simp only [QP.addLine, List.mem_append, List.mem_singleton] at hb
              rcases hb with hb | rfl
              · exact hs b ((List.dropLast_sublist _).subset hb) m hm
              · rcases List.mem_append.1 hm with hm | hm
                · rw [List.getLastD_eq_getLast?] at hm
                  cases hq : q0.blocks.getLast? with
                  | none => rw [hq] at hm; cases hm
                  | some c => rw [hq] at hm; exact hs c (List.mem_of_getLast? hq) m hm
                · rw [List.mem_singleton.1 hm]; exact hfl
      · rw [if_neg ha] at hn; cases hn
structure ShapeR (q : QP) : Prop where
  whole : ∀ b, b < q.blocks.length → Whole (q.blocks.getD b [])
  lines : ∀ b, ∀ l ∈ q.blocks.getD b [], hasP true l.op = true ∧ q.fits l = true ∧ Fl l
theorem raw_shape {text : B} {q : QP} (h : prjRead text true = (some q, 0, 0)) : ShapeR q := by
  by_cases hlong : (split 10 text).length > (if true = true then 4000 else 120)
  · rw [prjRead, if_pos hlong] at h; cases h
  · rw [prjRead, if_neg hlong] at h
    split at h
    · cases h
    · rename_i hsp
      split at h
      · cases h
      · rename_i hsec
        split at h
        · cases h
        · rename_i hlook
          split at h
          · cases h
          · rename_i hmis
            simp only [Prod.mk.injEq, Option.some.injEq, and_true] at h
            have hs := shp_go true (countB (splitGo true (wordsOf text) ⟨0, 0, 0⟩ 0).1) (wordsOf text) ⟨0, 0, 0⟩ 0 0 QP.empty q hsp (by rw [← h, ← hlook]) ⟨fun _ => rfl, fun h => (by cases h), fun h => (by cases h), fun b hb => by simp [QP.empty] at hb, by simp⟩
            have hg := fl_go true (countB (splitGo true (wordsOf text) ⟨0, 0, 0⟩ 0).1) (wordsOf text) ⟨0, 0, 0⟩ 0 0 QP.empty q hsp (by rw [← h, ← hlook]) (fun b hb => by simp [QP.empty] at hb)
            rw [h] at hmis
            refine ⟨fun b hb => hs.whl (by simpa using hsec) _ (by simp [hb]), fun b l hl => ⟨hs.has _ (getD_memB hl) l hl, ?_, hg _ (getD_memB hl) l hl⟩⟩
            simp only [QP.misfit, Option.map_eq_none_iff, List.find?_eq_none, Bool.not_eq_true', Bool.not_eq_false] at hmis
            exact hmis l (List.mem_flatten.mpr ⟨_, getD_memB hl, hl⟩)
theorem rln_of {q : QP} {l : QLine} (hk : LOk q.locals.length q.blocks.length l) (h : hasP true l.op = true ∧ q.fits l = true ∧ Fl l) : RLn q l :=
  ⟨hk, fun e => by rw [e] at h; exact absurd h.1 (by decide), h.2.1, h.2.2⟩
end Go.Proofs.YtmlgajhhnojdjaaGreatDoor.Ex
/- The project's Exec, walked: for texts of at most 2^20 letters, in every world that holds the tables. -/
namespace Go.Proofs.YtmlgajhhnojdjaaGreatDoor.Ex
open Go Go.RowKit Go.Proofs.YtmlgajhhnojdjaaGreatDoor.Spec Go.Proofs.YtmlgajhhnojdjaaGreatDoor.Aux Go.Proofs.YtmlgajhhnojdjaaGreatDoor.Own Go.Proofs.YtmlgajhhnojdjaaGreatDoor.RunA Go.Proofs.YtmlgajhhnojdjaaGreatDoor.RunB Go.Proofs.YtmlgajhhnojdjaaGreatDoor.RefM Go.Proofs.YtmlgajhhnojdjaaGreatDoor.PrjG Go.Proofs.YtmlgajhhnojdjaaGreatDoor.PrjJ Go.Proofs.YtmlgajhhnojdjaaGreatDoor.PrjK Go.Proofs.YtmlgajhhnojdjaaGreatDoor.PrjM Go.Proofs.YtmlgajhhnojdjaaGreatDoor.PrjS Go.Proofs.YtmlgajhhnojdjaaGreatDoor.PrjW Go.Proofs.YtmlgajhhnojdjaaGreatDoor.PrjX Go.Proofs.YtmlgajhhnojdjaaGreatDoor.FlwA Go.Proofs.YtmlgajhhnojdjaaGreatDoor.FlwP Go.Proofs.YtmlgajhhnojdjaaGreatDoor.FlwQ Go.Proofs.YtmlgajhhnojdjaaGreatDoor.FlwV Go.Proofs.YtmlgajhhnojdjaaGreatDoor.FlwY Go.Proofs.YtmlgajhhnojdjaaGreatDoor.FlwZ Go.Proofs.YtmlgajhhnojdjaaGreatDoor.FlwZa

def mayExec (inp : List Int) (fuel room : Int) : Prop := inp.length ≤ 100 ∧ 0 ≤ fuel ∧ fuel ≤ 200000 ∧ 0 ≤ room ∧ room ≤ 50
/-- what Exec answers -/
def ExecIs (text : B) (inp : List Int) (fuel room : Int) (v : Value) (c k : Int) : Prop :=
  (∃ c' k' : Nat, 1 ≤ c' ∧ prjRead text true = (none, c', k') ∧ c = c' ∧ k = k' ∧ v = zeroRes) ∨ ((∃ q, prjRead text true = (some q, 0, 0)) ∧ ¬ mayExec inp fuel room ∧ v = zeroRes ∧ c = 6 ∧ k = 0) ∨
    (mayExec inp fuel room ∧ c = 0 ∧ k = 0 ∧ ∃ q ans, prjRead text true = (some q, 0, 0) ∧ runB q room fuel.toNat (q.blocks.getD 0 []) (Br.start inp) = some ans ∧ v = resB ans)
/-- a raw program that was read runs -/
theorem raw_run {text : B} {q : QP} (h : prjRead text true = (some q, 0, 0)) (inp : List Int) (room : Int) (f : Nat) : ∃ ans, runB q room f (q.blocks.getD 0 []) (Br.start inp) = some ans ∧ Held q ans.2.2 ∧ (ans.1 = 1 ∨ ans.1 = 2 ∨ ans.1 = 3 ∨ ans.1 = 4 ∨ ans.1 = 5) ∧ ans.2.2.yd.made.length ≤ 0 + f := by
  obtain ⟨-, -, p, hp, hB⟩ := prjRead_good h
  have hS := raw_shape h
  have hpos : 0 < q.blocks.length := by rw [hB.len]; exact hB.ok.first.1
  have hln : ∀ j, ∀ l ∈ q.blocks.getD j [], RLn q l := fun j l hl => rln_of (hB.qok.lines _ (getD_memB hl) l hl) (hS.lines j l hl)
  exact run_held hB.twelve room hS.whole hln f _ _ (hS.whole 0 hpos) (hln 0) (start_held q inp)
theorem mexec_any {text : B} {q : QP} (hg : prjRead text true = (some q, 0, 0)) {z a : Nat} {w : World} (hG : Got z a w q) (vi : Value) (inp : List Int) (hf : FeedAt w vi inp) (hinp : ∀ n ∈ inp, isI64 n) (fuel room : Int) (hm : mayExec inp fuel room) (hpw : Pow w) (h11 : 11 ≤ w.heap.size) :
    Calls Tryz.prog 49 #[.pointer (some ⟨a, 0, none⟩), vi, .int .i64 fuel, .int .i64 room] w fun e w' => (∃ ans, e = .returned (resB ans) ∧ Hid (runB q room fuel.toNat (q.blocks.getD 0 []) (Br.start inp) = some ans)) ∧ Below w.heap.size w w' := by
  obtain ⟨-, h0, h1, h2, h3⟩ := hm
  obtain ⟨f, rfl⟩ : ∃ f : Nat, fuel = f := ⟨fuel.toNat, by omega⟩
  obtain ⟨r, rfl⟩ : ∃ r : Nat, room = r := ⟨room.toNat, by omega⟩
  obtain ⟨-, -, p, hp, hB⟩ := prjRead_good hg
  have hS := raw_shape hg
  have hpos : 0 < q.blocks.length := by rw [hB.len]; exact hB.ok.first.1
  have hln : ∀ j, ∀ l ∈ q.blocks.getD j [], RLn q l := fun j l hl => rln_of (hB.qok.lines _ (getD_memB hl) l hl) (hS.lines j l hl)
  obtain ⟨ans, ha, -⟩ := raw_run hg inp (r : Nat) f
  obtain ⟨vl, vb, us, vss, hP⟩ := hG.at_
  refine (Exec_any hP vi inp hf hinp f r (by omega) hpos hB.twelve hB.qok hG.lines hln hpw h11 ha).mono ?_
  rintro e w' ⟨rfl, hb⟩
  exact ⟨⟨ans, rfl, ha⟩, hb⟩
theorem read_good {text : B} {w w' : World} {e : Ending} (h : PReadPost text true w e w') : Below w.heap.size w w' ∧ ∃ v c k, e = .returned (.tuple #[v, .int .i64 c, .int .i64 k]) ∧ ((¬ c = 0 ∧ ∃ c' k' : Nat, 1 ≤ c' ∧ prjRead text true = (none, c', k') ∧ c = c' ∧ k = k') ∨ (c = 0 ∧ k = 0 ∧ ∃ q a z, v = .pointer (some ⟨a, 0, none⟩) ∧ prjRead text true = (some q, 0, 0) ∧ Got z a w' q)) := by
  obtain ⟨hb, v, rfl, hv⟩ := h
  refine ⟨hb, v, _, _, rfl, ?_⟩
  cases hr : prjRead text true with
  | mk op ck =>
    obtain ⟨c, k⟩ := ck
    rw [hr] at hv
    cases op with
    | none =>
      obtain ⟨h1, -⟩ := prjRead_bad hr
      exact .inl ⟨by show ¬ ((c : Nat) : Int) = 0; omega, c, k, h1, rfl, rfl, rfl⟩
    | some q =>
      obtain ⟨rfl, rfl, -⟩ := prjRead_good hr
      rcases hv with ⟨h1, -⟩ | ⟨q', a, z, h1, rfl, -, hG⟩
      · cases h1
      · cases h1
        exact .inr ⟨rfl, rfl, q, a, z, rfl, rfl, hG⟩
set_option maxRecDepth 20000 in
set_option maxHeartbeats 2000000 in
theorem SExec_any (text : B) (vi : Value) (inp : List Int) (fuel room : Int) (w : World) (hf : FeedAt w vi inp) (hinp : ∀ n ∈ inp, isI64 n) (h : text.length ≤ 1048576) (E : Env w) (hp : Pow w) :
    Calls Tryz.prog 31 #[.string (bs text), vi, .int .i64 fuel, .int .i64 room] w fun e w' => (∃ v c k, Hid (ExecIs text inp fuel room v c k) ∧ e = .returned (.tuple #[v, .int .i64 c, .int .i64 k])) ∧ Below w.heap.size w w' := by
  obtain ⟨w0, hw0⟩ : ∃ w0, w.alloc (.cells #[.int .i64 0, .int .i64 0, .string ⟨#[]⟩, .int .i64 0] 47) = w0 := ⟨_, rfl⟩
  have hb0 : Below w.heap.size w w0 := by rw [← hw0]; exact (Below.refl _ _).alloc (Nat.le_refl _) _
  have hs0 : w0.heap.size = w.heap.size + 1 := by rw [← hw0]; simp
  have hR0 : w0.heap[w.heap.size]? = some (.cells #[.int .i64 0, .int .i64 0, .string ⟨#[]⟩, .int .i64 0] 47 (0, 0)) := by rw [← hw0]; exact Array.getElem?_push_size
  have K := readRaw_any text w0 h (E.on hb0)
  go_enter Tryz.func31, Tryz.ntmps31
  go_upto_region 1 with fail
  try rw [hw0]
  clear hw0
  have hR : ∀ W, Below w0.heap.size w0 W → W.heap[w.heap.size]? = some (.cells #[.int .i64 0, .int .i64 0, .string ⟨#[]⟩, .int .i64 0] 47 (0, 0)) := fun W hW => by rw [hW.block _ (by omega)]; exact hR0
  have HR : Hid (∀ W, Below w0.heap.size w0 W → W.heap[w.heap.size]? = some (.cells #[.int .i64 0, .int .i64 0, .string ⟨#[]⟩, .int .i64 0] 47 (0, 0))) := hR
  clear hR hR0
  go_upto_region 2 with (go_at_call 48; refine K.mono ?_; rintro e w1 ⟨hb1, hpost⟩; have HB1 : Hid (Below w0.heap.size w0 w1) := hb1; obtain ⟨-, v, c, k, rfl, hgd⟩ := read_good ⟨hb1, hpost⟩; have HP : Hid _ := hgd; clear hpost hb1 hgd)
  rcases HP.out with ⟨hc, hck⟩ | ⟨rfl, rfl, q, a, z, rfl, hgood, hG⟩
  · have cb : (c == 0) = false := by rw [beq_eq_false_iff_ne]; exact hc
    have HC : Hid (¬ c = 0 ∧ ∃ c' k' : Nat, 1 ≤ c' ∧ prjRead text true = (none, c', k') ∧ c = c' ∧ k = k') := ⟨hc, hck⟩
    clear hc hck HP
    have hr1 := HR.out w1 HB1.out
    obtain ⟨d0, d1, d2, d3, f0, f1, f2, f3⟩ := res_facts hr1
    obtain ⟨e4, hB4⟩ := res_put hr1 (.int .i64 0) (.int .i64 0) (.string ⟨#[]⟩) (.int .i64 0)
    go_wp2
    refine bodyPost_ret (results_cell_two Tryz.results31 _ _ _ w.heap.size [.int .i64 0, .int .i64 0, .string ⟨#[]⟩, .int .i64 0] _ rfl (fun j u hu => by rw [Nat.zero_add, cell_of_heap e4]; simpa using hu) Tryz.underlying47 rfl info_result) rfl ?_
    refine ⟨⟨_, _, _, .inl (by obtain ⟨c', k', a1, a2, a3, a4⟩ := HC.out.2; exact ⟨c', k', a1, a2, a3, a4, rfl⟩), rfl⟩, (hb0.trans (HB1.out.mono (by omega))).trans hB4⟩
  · clear HP
    have hpw := hp.below hb0 E.size
    have hpw1 := hpw.below HB1.out (by have := E.size; omega)
    have h11 : 11 ≤ w1.heap.size := by have := E.size; have := HB1.out.size; omega
    have hf1 : FeedAt w1 vi inp := feed_below (feed_below hf hb0 (Nat.le_refl _)) HB1.out (Nat.le_refl _)
    obtain ⟨ad, cap, rfl, -⟩ := id hf
    have KM := fun W => mayRun_any ad inp.length cap fuel 200000 room W
    have HGD : Hid (prjRead text true = (some q, 0, 0)) := hgood
    clear hgood
    by_cases hm : mayExec inp fuel room
    · have hd : decide (inp.length ≤ 100 ∧ 0 ≤ fuel ∧ fuel ≤ 200000 ∧ 0 ≤ room ∧ room ≤ 50) = true := decide_eq_true hm
      simp only [hd] at KM
      have KR := mexec_any HGD.out hG (.slice ad inp.length cap) inp hf1 hinp fuel room hm hpw1 h11
      have HM : Hid (mayExec inp fuel room) := hm
      clear hm hd hpw hpw1 hf hf1 hinp hG K
      go_wp2_with (first
        | (go_at_call 43; refine (KM _).mono ?_; rintro e w2 ⟨rfl, rfl⟩)
        | (go_at_call 49; refine KR.mono ?_; rintro e w3 ⟨⟨ans, rfl, HA⟩, hb3⟩; have hr3 := HR.out w3 (HB1.out.trans (hb3.mono HB1.out.size)); obtain ⟨d0, d1, d2, d3, f0, f1, f2, f3⟩ := res_facts hr3; obtain ⟨e4, hB4⟩ := res_put hr3 (.int .i64 ((ans.1 : Nat) : Int)) (.int .i64 ans.2.1) (.string (bs ans.2.2.yd.text)) (.int .i64 ans.2.2.yd.live); simp only [resB]))
      refine bodyPost_ret (results_cell_two Tryz.results31 _ _ _ w.heap.size [.int .i64 ((ans.1 : Nat) : Int), .int .i64 ans.2.1, .string (bs ans.2.2.yd.text), .int .i64 ans.2.2.yd.live] _ rfl (fun j u hu => by rw [Nat.zero_add, cell_of_heap e4]; simpa using hu) Tryz.underlying47 rfl info_result) rfl ?_
      refine ⟨⟨_, _, _, .inr (.inr ⟨HM.out, rfl, rfl, q, ans, HGD.out, HA.out, rfl⟩), rfl⟩, ((hb0.trans (HB1.out.mono (by omega))).trans (hb3.mono (by have := HB1.out.size; omega))).trans hB4⟩
    · have hd : decide (inp.length ≤ 100 ∧ 0 ≤ fuel ∧ fuel ≤ 200000 ∧ 0 ≤ room ∧ room ≤ 50) = false := decide_eq_false hm
      simp only [hd] at KM
      have HM : Hid (¬ mayExec inp fuel room) := hm
      clear hm hd hpw hpw1 hf hf1 hinp hG K
      have hr1 := HR.out w1 HB1.out
      obtain ⟨d0, d1, d2, d3, f0, f1, f2, f3⟩ := res_facts hr1
      obtain ⟨e4, hB4⟩ := res_put hr1 (.int .i64 0) (.int .i64 0) (.string ⟨#[]⟩) (.int .i64 0)
      go_wp2_with (go_at_call 43; refine (KM _).mono ?_; rintro e w2 ⟨rfl, rfl⟩)
      refine bodyPost_ret (results_cell_two Tryz.results31 _ _ _ w.heap.size [.int .i64 0, .int .i64 0, .string ⟨#[]⟩, .int .i64 0] _ rfl (fun j u hu => by rw [Nat.zero_add, cell_of_heap e4]; simpa using hu) Tryz.underlying47 rfl info_result) rfl ?_
      refine ⟨⟨_, _, _, .inr (.inl ⟨⟨q, HGD.out⟩, HM.out, rfl, rfl, rfl⟩), rfl⟩, (hb0.trans (HB1.out.mono (by omega))).trans hB4⟩
end Go.Proofs.YtmlgajhhnojdjaaGreatDoor.Ex
/- Plain facts: a trace as one text, told word by word. -/
namespace Go.Proofs.YtmlgajhhnojdjaaGreatDoor.Bal
open Go Go.Proofs.YtmlgajhhnojdjaaGreatDoor.Spec Go.Proofs.YtmlgajhhnojdjaaGreatDoor.Own

/-- a text, cut at its blanks -/
def splitW : B → List B
  | [] => [[]]
  | c :: r => if c = 32 then [] :: splitW r else match splitW r with
    | [] => [[c]]
    | w :: ws => (c :: w) :: ws
theorem split_one : ∀ {a : B}, (32 : UInt8) ∉ a → splitW a = [a]
  | [], _ => rfl
  | c :: r, h => by
    rw [splitW, if_neg (show ¬ c = 32 from fun e => h (by rw [e]; exact List.mem_cons_self ..)), split_one (a := r) (fun hm => h (List.mem_cons_of_mem _ hm))]
theorem split_cons : ∀ {a : B} (r : B), (32 : UInt8) ∉ a → splitW (a ++ 32 :: r) = a :: splitW r
  | [], r, _ => by rw [List.nil_append, splitW, if_pos rfl]
  | c :: a, r, h => by
    rw [List.cons_append, splitW, if_neg (show ¬ c = 32 from fun e => h (by rw [e]; exact List.mem_cons_self ..)), split_cons (a := a) r (fun hm => h (List.mem_cons_of_mem _ hm))]
theorem join_ne : ∀ (ws : List B), ws ≠ [] → (∀ b ∈ ws, b ≠ []) → Lib.join ws [32] ≠ []
  | [], h, _ => absurd rfl h
  | [a], _, h => by rw [Lib.join_one]; exact h a (List.mem_cons_self ..)
  | a :: b :: l, _, _ => by
    have e1 : Lib.join (a :: b :: l) [32] = a ++ 32 :: Lib.join (b :: l) [32] := by simp [Lib.join, List.intercalate, List.intersperse]
    rw [e1]; simp
/-! word by word -/
theorem split_at {t : B} {from_ i : Nat} (h1 : from_ ≤ i) (h2 : i ≤ t.length) (hn : ∀ j, from_ ≤ j → j < i → t.getD j 0 ≠ 32) (he : i = t.length ∨ t.getD i 0 = 32) :
    splitW (t.drop from_) = (t.drop from_).take (i - from_) :: (if i = t.length then [] else splitW (t.drop (i + 1))) := by
  have hm : (32 : UInt8) ∉ (t.drop from_).take (i - from_) := fun hm => by
    obtain ⟨k, hk, e⟩ := List.mem_iff_getElem.1 hm
    simp only [List.length_take, List.length_drop] at hk
    refine hn (from_ + k) (by omega) (by omega) ?_
    rw [List.getD_eq_getElem?_getD, List.getElem?_eq_getElem (by omega)]
    simpa using e
  by_cases hl : i = t.length
  · rw [if_pos hl]
    have e : (t.drop from_).take (i - from_) = t.drop from_ := List.take_of_length_le (by rw [List.length_drop]; omega)
    rw [e] at hm ⊢
    exact split_one hm
  · rw [if_neg hl]
    have h32 := he.resolve_left hl
    have e : t.drop from_ = (t.drop from_).take (i - from_) ++ 32 :: t.drop (i + 1) := by
      have e1 : t.drop i = 32 :: t.drop (i + 1) := by
        rw [List.drop_eq_getElem_cons (by omega)]
        rw [List.getD_eq_getElem?_getD, List.getElem?_eq_getElem (by omega)] at h32
        rw [← h32]; rfl
      rw [← e1]
      have : t.drop i = (t.drop from_).drop (i - from_) := by rw [List.drop_drop]; congr 1; omega
      rw [this, List.take_append_drop]
    conv => lhs; rw [e]
    exact split_cons _ hm
end Go.Proofs.YtmlgajhhnojdjaaGreatDoor.Bal
/- Plain facts: the trace of both machines; what the bare machines keep, side by side. -/
namespace Go.Proofs.YtmlgajhhnojdjaaGreatDoor.Sim
open Go Go.Proofs.YtmlgajhhnojdjaaGreatDoor.Spec Go.Proofs.YtmlgajhhnojdjaaGreatDoor.Aux Go.Proofs.YtmlgajhhnojdjaaGreatDoor.Own Go.Proofs.YtmlgajhhnojdjaaGreatDoor.Mac Go.Proofs.YtmlgajhhnojdjaaGreatDoor.Ex Go.Proofs.YtmlgajhhnojdjaaGreatDoor.RefRa Go.Proofs.YtmlgajhhnojdjaaGreatDoor.PrjS Go.Proofs.YtmlgajhhnojdjaaGreatDoor.FlwA Go.Proofs.YtmlgajhhnojdjaaGreatDoor.FlwU Go.Proofs.YtmlgajhhnojdjaaGreatDoor.FlwV Go.Proofs.YtmlgajhhnojdjaaGreatDoor.FlwX Go.Proofs.YtmlgajhhnojdjaaGreatDoor.FlwT

theorem dec_same (n : Nat) : decN n = Lib.decDigits n := by
  induction n using Nat.strongRecOn with
  | ind n ih =>
    rw [decN, Lib.decDigits]
    by_cases h : n ≤ 9
    · rw [dif_pos h, dif_pos (by omega)]; rfl
    · rw [dif_neg h, dif_neg (by omega), ih (n / 10) (by omega)]; rfl
theorem itoa_same (n : Int) : decI n = Lib.itoa n := by
  unfold decI Lib.itoa
  split
  · rw [dec_same]
  · rw [dec_same, show n.natAbs = n.toNat by omega]
theorem join_add : ∀ (l : List B) (w : B), Lib.join (l ++ [w]) [32] = if l = [] then w else Lib.join l [32] ++ 32 :: w
  | [], w => by rw [List.nil_append, Lib.join_one, if_pos rfl]
  | [a], w => by rw [if_neg (by simp), Lib.join_one]; simp [Lib.join, List.intercalate, List.intersperse]
  | a :: b :: l, w => by
    have ih := join_add (b :: l) w
    rw [if_neg (by simp)] at ih ⊢
    have e1 : ∀ r : List B, Lib.join (a :: b :: r) [32] = a ++ 32 :: Lib.join (b :: r) [32] := fun r => by simp [Lib.join, List.intercalate, List.intersperse]
    rw [List.cons_append, List.cons_append, e1, ← List.cons_append, ih, e1]
    simp
/-- both yards are one -/
structure Ry (y : Yd) (m : RM) : Prop where
  made : y.made = m.boxes
  live : y.live = m.count
  text : m.trace = y.text
  words : ∀ b ∈ y.trace, b ≠ []
section
variable {y : Yd} {m : RM}
theorem Ry.nil (h : Ry y m) : m.trace = [] ↔ y.trace = [] := by
  rw [h.text, Yd.text]
  constructor
  · intro e
    by_cases hn : y.trace = []
    · exact hn
    · exact absurd e (Bal.join_ne _ hn h.words)
  · intro e; rw [e]; rfl
theorem Ry.note (h : Ry y m) (c : UInt8) (n : Int) : Ry (y.note c n) (m.note c n) := by
  refine ⟨h.made, h.live, ?_, fun b hb => ?_⟩
  · show m.trace ++ wordT m c n = Lib.join (y.trace ++ [c :: Lib.itoa n]) [32]
    rw [join_add, wordT, itoa_same]
    by_cases e : y.trace = []
    · rw [if_pos e, if_pos (h.nil.2 e), h.nil.2 e]; rfl
    · rw [if_neg e, if_neg (fun x => e (h.nil.1 x)), h.text]; rfl
  · rcases List.mem_append.1 hb with hb | hb
    · exact h.words b hb
    · rw [List.mem_singleton.1 hb]; simp
theorem Ry.at (h : Ry y m) (n : Nat) : y.at n = m.box n := by rw [Yd.at, RM.box, h.made]
theorem Ry.free (h : Ry y m) (n : Nat) : Ry (y.free n) (RM.note { m with boxes := m.boxes.set (n - 1) ((m.box n).1, false), count := m.count - 1 } 45 ((n : Nat) : Int)) := by
  have h1 : Ry { y with made := y.made.set (n - 1) ((y.at n).1, false), live := y.live - 1 } { m with boxes := m.boxes.set (n - 1) ((m.box n).1, false), count := m.count - 1 } := ⟨by rw [h.made, h.at], by rw [h.live], h.text, h.words⟩
  exact h1.note 45 _
theorem Ry.build (h : Ry y m) (v : Int) : Ry (y.build v) (RM.note { m with boxes := m.boxes ++ [(v, true)], count := m.count + 1 } 43 ((m.boxes.length + 1 : Nat) : Int)) := by
  have h1 : Ry { y with made := y.made ++ [(v, true)], live := y.live + 1 } { m with boxes := m.boxes ++ [(v, true)], count := m.count + 1 } := ⟨by rw [h.made], by rw [h.live], h.text, h.words⟩
  have h2 := h1.note 43 ((m.boxes.length + 1 : Nat) : Int)
  rw [Yd.build, h.made]
  rw [h.made] at h2
  exact h2
theorem Ry.load (h : Ry y m) (n : Nat) : Ry (y.load n) (m.note 60 ((n : Nat) : Int)) := h.note 60 _
theorem Ry.store (h : Ry y m) (n : Nat) (v : Int) : Ry (y.store n v) { m.note 62 ((n : Nat) : Int) with boxes := m.boxes.set (n - 1) (v, (m.box n).2) } := by
  have h1 := h.note 62 ((n : Nat) : Int)
  exact ⟨by show y.made.set _ _ = _; rw [h.made, h.at], h1.live, h1.text, h1.words⟩
/-- what a yard is, whatever else the machine has -/
theorem Ry.of (h : Ry y m) {m' : RM} (h1 : m'.boxes = m.boxes) (h2 : m'.count = m.count) (h3 : m'.trace = m.trace) : Ry y m' := ⟨by rw [h1]; exact h.made, by rw [h2]; exact h.live, by rw [h3]; exact h.text, h.words⟩
end
def tagF (c : UInt8) : Bool × Int := (!(c == 0), if c = 119 then 1 else 0)
/-- what a cell of the project's machine keeps -/
def cellF (q : QP) (m : RM) (k : Nat) : Bool × Int :=
  if k < 24 then (if q.tyOf (k / 2) = 0 then (m.has.getD k false, m.ints.getD k 0) else (!(m.held.getD k 0 == 0), ((m.held.getD k 0 : Nat) : Int)))
  else if q.tyOf (k - 24) = 3 then tagF (m.how.getD (2 * (k - 24)) 0) else (false, 0)
structure Rb (q : QP) (inp : List Int) (b : Br) (m : RM) : Prop where
  y : Ry b.yd m
  len : m.Len
  cslen : b.cs.length = 36
  cs : ∀ k, k < 36 → b.cs.getD k (false, 0) = cellF q m k
  hows : ∀ k, m.how.getD k 0 = 0 ∨ m.how.getD k 0 = 110 ∨ m.how.getD k 0 = 119
  flags : b.flags = m.flags
  inp : b.inp = inp.drop m.used
  value : m.value = 0
theorem getD_setX {α : Type} (s : List α) (i : Nat) (y d : α) (k : Nat) : (s.set i y).getD k d = if i = k ∧ k < s.length then y else s.getD k d := by
  rw [List.getD_eq_getElem?_getD, List.getElem?_set, List.getD_eq_getElem?_getD]
  by_cases h : i = k
  · subst h
    by_cases h2 : i < s.length
    · rw [if_pos rfl, if_pos h2, if_pos ⟨rfl, h2⟩]; rfl
    · rw [if_pos rfl, if_neg h2, if_neg (fun e => h2 e.2), List.getElem?_eq_none (by omega)]
  · rw [if_neg h, if_neg (fun e => h e.1)]
section
variable {q : QP} {inp : List Int} {b : Br} {m : RM} {pl : Nat × Nat}
theorem Rb.be (h : Rb q inp b m) {c : Nat} (hc : c < 24) (ht : q.tyOf (c / 2) = 0) (hp : cellOf q pl = c) (v : Int) : Rb q inp (b.write q pl v) (m.be c v) := by
  refine ⟨h.y.of rfl rfl rfl, ⟨by simpa [RM.be] using h.len.ints, by simpa [RM.be] using h.len.has, h.len.held, h.len.how, h.len.flags⟩, by simpa [Br.write] using h.cslen, fun k hk => ?_, h.hows, h.flags, h.inp, h.value⟩
  show (b.cs.set (cellOf q pl) (true, v)).getD k (false, 0) = _
  rw [getD_setX, hp, h.cslen]
  unfold cellF
  simp only [RM.be, getD_setX, h.len.ints, h.len.has]
  by_cases e : c = k
  · subst e
    rw [if_pos ⟨rfl, hk⟩, if_pos hc, if_pos ht, if_pos ⟨rfl, hc⟩, if_pos ⟨rfl, hc⟩]
  · have e2 : ¬ (c = k ∧ k < 24) := fun x => e x.1
    rw [if_neg (fun x => e x.1), h.cs k hk]
    unfold cellF
    simp only [if_neg e2]
theorem Rb.hold (h : Rb q inp b m) {c n : Nat} (hc : c < 24) (ht : ¬ q.tyOf (c / 2) = 0) (hp : cellOf q pl = c) (hn : 1 ≤ n) : Rb q inp (b.write q pl ((n : Nat) : Int)) { m with held := m.held.set c n } := by
  refine ⟨h.y.of rfl rfl rfl, ⟨h.len.ints, h.len.has, by simpa using h.len.held, h.len.how, h.len.flags⟩, by simpa [Br.write] using h.cslen, fun k hk => ?_, h.hows, h.flags, h.inp, h.value⟩
  show (b.cs.set (cellOf q pl) (true, ((n : Nat) : Int))).getD k (false, 0) = _
  rw [getD_setX, hp, h.cslen]
  unfold cellF
  simp only [getD_setX, h.len.held]
  by_cases e : c = k
  · subst e
    rw [if_pos ⟨rfl, hk⟩, if_pos hc, if_neg ht, if_pos ⟨rfl, hc⟩]
    have : (n == 0) = false := by rw [beq_eq_false_iff_ne]; omega
    rw [this]; rfl
  · have e2 : ¬ (c = k ∧ k < 24) := fun x => e x.1
    rw [if_neg (fun x => e x.1), h.cs k hk]
    unfold cellF
    simp only [if_neg e2]
theorem Rb.tag (h : Rb q inp b m) {i : Nat} (hi : i < 12) (ht : q.tyOf i = 3) (hp : cellOf q pl = 24 + i) {c : UInt8} {v : Int} (hv : (c = 110 ∧ v = 0) ∨ (c = 119 ∧ v = 1)) : Rb q inp (b.write q pl v) { m with how := m.how.set (2 * i) c } := by
  refine ⟨h.y.of rfl rfl rfl, ⟨h.len.ints, h.len.has, h.len.held, by simpa using h.len.how, h.len.flags⟩, by simpa [Br.write] using h.cslen, fun k hk => ?_, fun k => ?_, h.flags, h.inp, h.value⟩
  · show (b.cs.set (cellOf q pl) (true, v)).getD k (false, 0) = _
    rw [getD_setX, hp, h.cslen]
    unfold cellF
    simp only [getD_setX, h.len.how]
    by_cases e : 24 + i = k
    · subst e
      rw [if_pos ⟨rfl, hk⟩, if_neg (by omega), show 24 + i - 24 = i by omega, if_pos ht, if_pos ⟨rfl, by omega⟩]
      rcases hv with ⟨rfl, rfl⟩ | ⟨rfl, rfl⟩ <;> rfl
    · rw [if_neg (fun x => e x.1), h.cs k hk]
      unfold cellF
      by_cases h24 : k < 24
      · rw [if_pos h24, if_pos h24]
      · have e2 : ¬ (2 * i = 2 * (k - 24) ∧ 2 * (k - 24) < 24) := fun x => e (by omega)
        simp only [if_neg h24, if_neg e2]
  · show (m.how.set (2 * i) c).getD k 0 = 0 ∨ _
    rw [getD_setX]
    split
    · rcases hv with ⟨rfl, -⟩ | ⟨rfl, -⟩
      · exact .inr (.inl rfl)
      · exact .inr (.inr rfl)
    · exact h.hows k
/-- a yard and a machine that differ in the yard alone -/
theorem Rb.yard (h : Rb q inp b m) {y : Yd} {m' : RM} (hy : Ry y m') (h1 : m'.ints = m.ints) (h2 : m'.has = m.has) (h3 : m'.held = m.held) (h4 : m'.how = m.how) (h5 : m'.flags = m.flags) (h6 : m'.used = m.used) (h7 : m'.value = m.value) : Rb q inp { b with yd := y } m' := by
  refine ⟨hy, ⟨by rw [h1]; exact h.len.ints, by rw [h2]; exact h.len.has, by rw [h3]; exact h.len.held, by rw [h4]; exact h.len.how, by rw [h5]; exact h.len.flags⟩, h.cslen, fun k hk => ?_, fun k => by rw [h4]; exact h.hows k, by rw [h5]; exact h.flags, by rw [h6]; exact h.inp, by rw [h7]; exact h.value⟩
  show b.cs.getD k (false, 0) = _
  rw [h.cs k hk]
  unfold cellF
  rw [h1, h2, h3, h4]
theorem Rb.readInt (h : Rb q inp b m) {c : Nat} (hc : c < 24) (ht : q.tyOf (c / 2) = 0) (hp : cellOf q pl = c) : b.cell q pl = (m.has.getD c false, m.int c) := by
  unfold Br.cell RM.int; rw [hp, h.cs c (by omega), cellF, if_pos hc, if_pos ht]
theorem Rb.readBox (h : Rb q inp b m) {c : Nat} (hc : c < 24) (ht : ¬ q.tyOf (c / 2) = 0) (hp : cellOf q pl = c) : b.cell q pl = (!(m.held.getD c 0 == 0), ((m.held.getD c 0 : Nat) : Int)) := by
  unfold Br.cell; rw [hp, h.cs c (by omega), cellF, if_pos hc, if_neg ht]
theorem Rb.readTag (h : Rb q inp b m) {i : Nat} (hi : i < 12) (ht : q.tyOf i = 3) (hp : cellOf q pl = 24 + i) : b.cell q pl = tagF (m.how.getD (2 * i) 0) := by
  unfold Br.cell; rw [hp, h.cs _ (by omega), cellF, if_neg (by omega), show 24 + i - 24 = i by omega, if_pos ht]
theorem Rb.dead (h : Rb q inp b m) {c : Nat} (hc : c < 24) (ht : ¬ q.tyOf (c / 2) = 0) (hp : cellOf q pl = c) : (b.dead q pl = true ↔ m.named c = 0) ∧ (b.dead q pl = false → m.named c = m.held.getD c 0 ∧ (b.val q pl).toNat = m.held.getD c 0 ∧ ¬ m.named c = 0) := by
  have hr := h.readBox hc ht hp
  have hv : (b.val q pl).toNat = m.held.getD c 0 := by rw [Br.val, hr]; rfl
  unfold Br.dead RM.named
  rw [hv, hr, h.y.at]
  generalize m.held.getD c 0 = n
  by_cases hn : n = 0
  · subst hn; simp
  · have e : (n == 0) = false := by rw [beq_eq_false_iff_ne]; exact hn
    rw [e]
    cases hb : (m.box n).2
    · simp
    · simp [hn]
theorem Rb.start (q : QP) (inp : List Int) : Rb q inp (Br.start inp) RM.start := by
  have z : ∀ {α : Type} (n : Nat) (d : α) (k : Nat), (List.replicate n d).getD k d = d := fun n d k => by
    rw [List.getD_eq_getElem?_getD, List.getElem?_replicate]; split <;> rfl
  refine ⟨⟨rfl, rfl, rfl, fun b hb => by cases hb⟩, ⟨rfl, rfl, rfl, rfl, rfl⟩, rfl, fun k _ => ?_, fun k => .inl (z 24 0 k), rfl, rfl, rfl⟩
  show (List.replicate 36 (false, (0 : Int))).getD k (false, 0) = _
  rw [z]
  unfold cellF RM.start
  simp only [z]
  split
  · split <;> rfl
  · split <;> rfl
end
end Go.Proofs.YtmlgajhhnojdjaaGreatDoor.Sim
