/- What the project's reader makes of all lines: the form. -/
import Derived.Test.YtmlgajhhnojdjaaGreatDoorSAJ
import Derived.Deep.DeepMust
namespace Go.Proofs.YtmlgajhhnojdjaaGreatDoor.PrjN
open Go Go.RowKit Go.Proofs.YtmlgajhhnojdjaaGreatDoor.Spec Go.Proofs.YtmlgajhhnojdjaaGreatDoor.Aux Go.Proofs.YtmlgajhhnojdjaaGreatDoor.PrjF Go.Proofs.YtmlgajhhnojdjaaGreatDoor.PrjG Go.Proofs.YtmlgajhhnojdjaaGreatDoor.PrjH Go.Proofs.YtmlgajhhnojdjaaGreatDoor.PrjI Go.Proofs.YtmlgajhhnojdjaaGreatDoor.PrjJ Go.Proofs.YtmlgajhhnojdjaaGreatDoor.PrjK Go.Proofs.YtmlgajhhnojdjaaGreatDoor.PrjL

def SplitPost (raw : Bool) (L : List B) (w : World) (e : Ending) (w' : World) : Prop :=
  Below w.heap.size w w' ∧ match splitGo raw (L.map (split 32)) ⟨0, 0, 0⟩ 0 with
    | (_, _, some k) => e = .returned (.tuple #[.slice none 0 0, .int .i64 (k : Nat), .bool false])
    | (S, o, none) => ∃ v vs, e = .returned (.tuple #[v, .int .i64 (L.length : Nat), .bool (decide (o.sec = 2))]) ∧ SentsAt w.heap.size w' v S vs
theorem SplitPost.bad {raw : Bool} {L : List B} {w w' : World} {k : Nat} (hb : Below w.heap.size w w') (h : (splitGo raw (L.map (split 32)) ⟨0, 0, 0⟩ 0).2.2 = some k) : SplitPost raw L w (.returned (.tuple #[.slice none 0 0, .int .i64 (k : Nat), .bool false])) w' := by
  refine ⟨hb, ?_⟩
  generalize splitGo raw (L.map (split 32)) ⟨0, 0, 0⟩ 0 = R at h
  obtain ⟨S, o, x⟩ := R
  simp only at h
  subst h
  rfl
theorem SplitPost.good {raw : Bool} {L : List B} {w w' : World} {S : List (Nat × List B)} {o : OrdP} {v : Value} {vs : List Value} (hb : Below w.heap.size w w') (h : splitGo raw (L.map (split 32)) ⟨0, 0, 0⟩ 0 = (S, o, none)) (hs : SentsAt w.heap.size w' v S vs) : SplitPost raw L w (.returned (.tuple #[v, .int .i64 (L.length : Nat), .bool (decide (o.sec = 2))])) w' := by
  refine ⟨hb, ?_⟩
  rw [h]
  exact ⟨v, vs, rfl, hs⟩
theorem words_one {w : World} {u : Value} {L : List B} (h : WordsAt w u L) : u.oneCell' = true := by
  obtain ⟨g, o, cap, rfl, -⟩ := h; rfl
theorem one_two {n : Int} {u : Value} (h : u.oneCell' = true) : ∀ u' ∈ [Value.int .i64 n, u], u'.oneCell' = true := by
  intro u' hu; simp at hu; rcases hu with rfl | rfl
  · rfl
  · exact h
theorem words_turn {b : Nat} {w w' : World} {v : Value} {L : List B} (h : WordsAt w v L) (hb : Turn b w w') {raw : Bool} {ln mb : Nat} {o : OrdP} (ho : OrdAt w b raw ln mb o) : WordsAt w' v L :=
  words_heap h fun g cs f hg => hb.block g (lt_of_heap hg) (fun x => by
    subst x; unfold OrdAt at ho; rw [ho] at hg; simp only [Option.some.injEq, Obj.cells.injEq] at hg; exact absurd hg.2.1 (by decide))
theorem sent_block {b : Nat} {w w' : World} {x y : Value} (hb : Turn b (w.alloc (.cells #[x, y] 240)) w') (hne : b < w.heap.size) : w'.cell? ⟨w.heap.size, 0, none⟩ = some x ∧ w'.cell? ⟨w.heap.size, 1, none⟩ = some y := by
  have h0 : (w.alloc (.cells #[x, y] 240)).heap[w.heap.size]? = some (.cells #[x, y] 240 (0, 0)) := Array.getElem?_push_size
  have h1 : w'.heap[w.heap.size]? = some (.cells #[x, y] 240 (0, 0)) := (hb.block _ (lt_of_heap h0) (by omega)).trans h0
  exact ⟨by rw [cell_of_heap h1]; rfl, by rw [cell_of_heap h1]; rfl⟩
theorem info_sent : (Tryz.prog.info? 240).map (fun i => (i.zero, i.size, i.bytes)) = some (some (.agg #[.int .i64 0, .slice none 0 0]), 2, 32) := by kernel_rfl
set_option maxRecDepth 20000 in
set_option maxHeartbeats 1000000 in
theorem split_any (raw : Bool) (ln g cap : Nat) (L : List B) (w : World) (hL : L.length ≤ 4000) (_hcap : L.length ≤ cap) (hg : g < w.heap.size) (hcell : ∀ j, j < L.length → w.cell? ⟨g, j, none⟩ = some (.string (bs (word L j)))) (hlen : ∀ j, (word L j).length ≤ 1048576) (E : Env w) :
    Calls Tryz.prog 115 #[.agg #[.bool raw, .int .i64 ln, .int .i64 (if raw then 2000 else 20 : Nat)], .slice (some ⟨g, 0, none⟩) L.length cap] w (SplitPost raw L w) := by
  obtain ⟨i0, hi0, hz0, hz1, hz2⟩ := info_parts info_sent
  have KA := fun (op : Nat) (o : OrdP) (w' : World) => admits_any raw ln (w.heap.size + 1) op o w'
  generalize (if raw then 2000 else 20 : Nat) = mb at KA ⊢
  have hb0 : Below w.heap.size w ((w.alloc (.cells #[.bool raw, .int .i64 ln, .int .i64 mb] 130)).alloc (.cells #[.bool raw, .int .i64 ln, .int .i64 mb, .int .i64 0, .int .i64 0, .int .i64 0] 238)) := ((Below.refl _ _).alloc (Nat.le_refl _) _).alloc (by simp) _
  have hO0 : OrdAt ((w.alloc (.cells #[.bool raw, .int .i64 ln, .int .i64 mb] 130)).alloc (.cells #[.bool raw, .int .i64 ln, .int .i64 mb, .int .i64 0, .int .i64 0, .int .i64 0] 238)) (w.heap.size + 1) raw ln mb ⟨0, 0, 0⟩ := by
    unfold OrdAt
    rw [show w.heap.size + 1 = (w.alloc (.cells #[.bool raw, .int .i64 ln, .int .i64 mb] 130)).heap.size by simp]
    exact Array.getElem?_push_size
  go_enter Tryz.func115, Tryz.ntmps115
  go_wp2
  go_loopw [4, 16] (fun v i wr => ∃ (k : Nat) (done : List (Nat × List B)) (o : OrdP) (vs : List Value), k ≤ L.length ∧ i = .int .i64 k ∧ OrdAt wr (w.heap.size + 1) raw ln mb o ∧ SentsAt w.heap.size wr v done vs ∧ Below w.heap.size w wr ∧ Hid (Along raw (L.map (split 32)) k done o)) (fun _ i _ => L.length - (intOf i).toNat)
  case atStart => exact ⟨0, [], ⟨0, 0, 0⟩, [], Nat.zero_le _, rfl, hO0, SentsAt.nil _ _, hb0, Along.start raw _⟩
  case round =>
    obtain ⟨k, done, o, vs, hk, rfl, hO, hS, hB, HA⟩ := hrel
    clear hb0 hO0
    by_cases hlt : k < L.length
    · have hck : wr.cell? ⟨g, k, none⟩ = some (.string (bs (word L k))) := (hB.cell (p := ⟨g, k, none⟩) hg).trans (hcell k hlt)
      have KS := sentenceOf_any (word L k) wr (hlen k) (E.on hB)
      have hlk : k < (L.map (split 32)).length := by simpa using hlt
      have hword : Hid ((L.map (split 32))[k] = split 32 (word L k)) := by
        unfold Hid; simp [word, hlt]
      have hsz : w.heap.size + 1 < wr.heap.size := lt_of_heap hO
      cases hx : sentP (split 32 (word L k)) with
      | none =>
        have hbad := HA.out.bad hlk (by rw [hword.out]; exact hx)
        unfold SentPost at KS
        rw [hx] at KS
        clear hx
        go_wp2_with (go_at_call 163; refine KS.mono ?_; rintro e w1 ⟨hb1, rfl⟩)
        go_ret3
        exact SplitPost.bad ((hB.trans (hb1.mono hB.size)).alloc (Nat.le_trans hB.size hb1.size) _) hbad
      | some x =>
        obtain ⟨-, hopx⟩ := sentP_sent hx
        have hop := opIdx_lt hopx
        have hfew := HA.out.few
        have hlen2 := HA.out.len
        unfold SentPost at KS
        rw [hx] at KS
        replace KS : Calls Tryz.prog 163 #[.string (bs (word L k))] wr fun e w' => Below wr.heap.size wr w' ∧ ∃ gw ow cw, e = .returned (.tuple #[.agg #[.int .i64 (x.1 : Nat), .slice (some ⟨gw, ow, none⟩) x.2.length cw], .bool true]) ∧ WordsAt w' (.slice (some ⟨gw, ow, none⟩) x.2.length cw) x.2 :=
          KS.mono fun e w' ⟨h1, v, h2, h3⟩ => by
            have h3' := h3
            obtain ⟨gw, ow, cw, rfl, -⟩ := h3'
            exact ⟨h1, gw, ow, cw, h2, h3⟩
        cases ha : (admitsP raw o x.1).2 with
        | false =>
          have hbad := HA.out.out hlk (by rw [hword.out]; exact hx) ha
          have KB : ∀ w', OrdAt w' (w.heap.size + 1) raw ln mb o → w.heap.size + 1 < w'.heap.size → Calls Tryz.prog 164 #[.pointer (some ⟨w.heap.size + 1, 0, none⟩), .int .i64 x.1] w' fun e w'' => e = .returned (.bool false) ∧ OrdAt w'' (w.heap.size + 1) raw ln mb (admitsP raw o x.1).1 ∧ Turn (w.heap.size + 1) w' w'' := fun w' h1 h2 => by
            have := KA x.1 o w' h1 hop (by omega) (by omega) h2
            unfold AdmitsPost at this
            rwa [ha] at this
          clear hx ha hopx hlen2 hfew KA
          go_wp2_with (first
            | (go_at_call 163; refine KS.mono ?_; rintro e w1 ⟨hb1, gw, ow, cw, rfl, hu⟩; have hsA : w.heap.size + 1 < (w1.alloc (.cells #[.int .i64 (x.1 : Nat), .slice (some ⟨gw, ow, none⟩) x.2.length cw] 240)).heap.size := (by have := hb1.size; simp; omega); have hOA := hO.below (hb1.alloc hb1.size (.cells #[.int .i64 (x.1 : Nat), .slice (some ⟨gw, ow, none⟩) x.2.length cw] 240)) hsz)
            | (go_at_call 164; refine (KB _ hOA hsA).mono ?_; rintro e w2 ⟨rfl, hO2, hT2⟩))
          go_ret3
          exact SplitPost.bad ((hB.trans ((hb1.alloc hb1.size _).mono hB.size)).trans (hT2.below (by omega) (by omega))) hbad
        | true =>
          have HA2 : Hid (Along raw (L.map (split 32)) (k + 1) (done ++ [x]) (admitsP raw o x.1).1) := HA.out.on hlk (by rw [hword.out]; exact hx) ha
          have KB : ∀ w', OrdAt w' (w.heap.size + 1) raw ln mb o → w.heap.size + 1 < w'.heap.size → Calls Tryz.prog 164 #[.pointer (some ⟨w.heap.size + 1, 0, none⟩), .int .i64 x.1] w' fun e w'' => e = .returned (.bool true) ∧ OrdAt w'' (w.heap.size + 1) raw ln mb (admitsP raw o x.1).1 ∧ Turn (w.heap.size + 1) w' w'' := fun w' h1 h2 => by
            have := KA x.1 o w' h1 hop (by omega) (by omega) h2
            unfold AdmitsPost at this
            rwa [ha] at this
          clear hx ha hopx hfew KA
          go_wp2_with (first
            | (go_at_call 163; refine KS.mono ?_; rintro e w1 ⟨hb1, gw, ow, cw, rfl, hu⟩; have hsA : w.heap.size + 1 < (w1.alloc (.cells #[.int .i64 (x.1 : Nat), .slice (some ⟨gw, ow, none⟩) x.2.length cw] 240)).heap.size := (by have := hb1.size; simp; omega); have hOA := hO.below (hb1.alloc hb1.size (.cells #[.int .i64 (x.1 : Nat), .slice (some ⟨gw, ow, none⟩) x.2.length cw] 240)) hsz)
            | (go_at_call 164; refine (KB _ hOA hsA).mono ?_; rintro e w2 ⟨rfl, hO2, hT2⟩; have hsb := sent_block hT2 (by have := hb1.size; omega); obtain ⟨hs0, hs1⟩ := hsb; have hS2 := (hS.below (hb1.alloc hb1.size (.cells #[.int .i64 (x.1 : Nat), .slice (some ⟨gw, ow, none⟩) x.2.length cw] 240))).turn hT2 hOA; have hu1 := words_one hu; have hbs : w.heap.size ≤ w2.heap.size := (by have := hT2.size; omega))
            | (at_builtin; go_must (refine append_blk rfl _ _ 193 rfl w.heap.size 240 i0 (.agg #[.int .i64 0, .slice none 0 0]) 2 32 Tryz.underlying193 hi0 hz0 hz1 hz2 rfl (by decide) _ _ _ rfl (own_below hS2.row ((Below.refl _ _).alloc (Nat.le_refl _) (.cells #[.int .i64 (x.1 : Nat), .slice (some ⟨gw, ow, none⟩) x.2.length cw] 240))) w2.heap.size [.int .i64 (x.1 : Nat), .slice (some ⟨gw, ow, none⟩) x.2.length cw] rfl Array.getElem?_push_size rfl (one_two hu1) (by decide) (by omega) (by simp; omega) ?_); intro g3 c3 w3 hown3 hgrow3 hat3 hlt3))
          go_roundw
          case rel =>
            have hbe : Below w2.heap.size w2 (w2.alloc (.cells #[.int .i64 (x.1 : Nat), .slice (some ⟨gw, ow, none⟩) x.2.length cw] 240)) := (Below.refl _ _).alloc (Nat.le_refl _) _
            have hB2 : Below w.heap.size w w2 := (hB.trans ((hb1.alloc hb1.size _).mono hB.size)).trans (hT2.below (by omega) (by omega))
            have hu2 := words_turn (hu.below ((Below.refl _ _).alloc (Nat.le_refl _) (.cells #[.int .i64 (x.1 : Nat), .slice (some ⟨gw, ow, none⟩) x.2.length cw] 240))) hT2 hOA
            have hOE := hO2.below hbe (lt_of_heap hO2)
            have hmore := hS2.more x hu2 hbe hown3 hgrow3
            rw [hlen2] at hmore
            refine ⟨k + 1, done ++ [x], (admitsP raw o x.1).1, vs ++ [.slice (some ⟨gw, ow, none⟩) x.2.length cw], by omega, by go_num, ?_, hmore, below_append hB2 (Nat.le_refl _) hB2.size hS2.row hgrow3, HA2⟩
            unfold OrdAt at hOE ⊢
            rw [hgrow3.block _ (lt_of_heap hOE) (own_type_ne (own_below hS2.row hbe) hOE (by decide))]
            exact hOE
          case measure => simp [intOf]; omega
    · have hw := HA.out.whole (by simpa using hlt)
      have KD := fun w' (h : OrdAt w' (w.heap.size + 1) raw ln mb o) => done_any raw ln mb (w.heap.size + 1) o w' h
      go_wp2_with (go_at_call 165; refine (KD _ hO).mono ?_; rintro e wd ⟨rfl, rfl⟩)
      go_ret3
      exact SplitPost.good hB hw hS
end Go.Proofs.YtmlgajhhnojdjaaGreatDoor.PrjN
/- How a program of the project's reader lies in memory, while it is made and behind it. -/
namespace Go.Proofs.YtmlgajhhnojdjaaGreatDoor.PrjM
open Go Go.RowKit Go.Proofs.YtmlgajhhnojdjaaGreatDoor.Spec Go.Proofs.YtmlgajhhnojdjaaGreatDoor.Aux Go.Proofs.YtmlgajhhnojdjaaGreatDoor.PrjF Go.Proofs.YtmlgajhhnojdjaaGreatDoor.PrjG Go.Proofs.YtmlgajhhnojdjaaGreatDoor.PrjH Go.Proofs.YtmlgajhhnojdjaaGreatDoor.PrjI Go.Proofs.YtmlgajhhnojdjaaGreatDoor.PrjJ Go.Proofs.YtmlgajhhnojdjaaGreatDoor.PrjK Go.Proofs.YtmlgajhhnojdjaaGreatDoor.PrjL

def locCell (x : B × Nat) : List Value := [.string (bs x.1), .int .i64 (x.2 : Nat)]
def locCells (ls : List (B × Nat)) : List Value := ls.flatMap locCell
def plCell (x : Nat × Nat) : List Value := [.int .i64 (x.1 : Nat), .int .i64 (x.2 : Nat)]
def plCells (ls : List (Nat × Nat)) : List Value := ls.flatMap plCell
def lineCell (x : QLine × Value × Value) : List Value := [.int .i64 (x.1.num : Nat), .int .i64 (x.1.op : Nat), x.2.1, .int .i64 x.1.number, .int .i64 x.1.flag, x.2.2]
def lineCells (ls : List QLine) (vs : List (Value × Value)) : List Value := (ls.zip vs).flatMap lineCell
def QLine.nil : QLine := ⟨0, 0, [], 0, 0, []⟩
/-- a line's places and ways on -/
structure LineAt (z : Nat) (w : World) (l : QLine) (vp vn : Value) : Prop where
  places : w.ownsRow z 119 2 vp l.places.length (plCells l.places)
  next : w.ownsRow z 3 1 vn l.next.length (intCells l.next)
structure BlockAt (z : Nat) (w : World) (v : Value) (ls : List QLine) (vs : List (Value × Value)) : Prop where
  len : vs.length = ls.length
  row : w.ownsRow z 115 6 v ls.length (lineCells ls vs)
  each : ∀ j, j < ls.length → LineAt z w (ls.getD j QLine.nil) (vs.getD j (undef, undef)).1 (vs.getD j (undef, undef)).2
structure PAt (z a : Nat) (w : World) (q : QP) (vl vb : Value) (us : List Value) (vss : List (List (Value × Value))) : Prop where
  base : z ≤ a
  blk : w.heap[a]? = some (.cells #[vl, vb] 110 (0, 0))
  locals : w.ownsRow z 146 2 vl q.locals.length (locCells q.locals)
  blocks : w.ownsRow z 106 1 vb q.blocks.length us
  each : ∀ j, j < q.blocks.length → BlockAt z w (us.getD j undef) (q.blocks.getD j []) (vss.getD j [])
  apart : ∀ i j, i < j → j < q.blocks.length → (us.getD i undef).ownBlock = none ∨ (us.getD i undef).ownBlock ≠ (us.getD j undef).ownBlock
section
variable {z a : Nat} {w w' w2 w3 : World} {q : QP} {vl vb v' : Value} {us : List Value} {vss : List (List (Value × Value))}
theorem PAt.usl (h : PAt z a w q vl vb us vss) : us.length = q.blocks.length := by have := h.blocks.1; omega
theorem PAt.lt (h : PAt z a w q vl vb us vss) : a < w.heap.size := lt_of_heap h.blk
theorem LineAt.keep {l : QLine} {vp vn : Value} (h : LineAt z w l vp vn) (k : ∀ {e : TypeId} {s : Nat} {v : Value} {n : Nat} {xs : List Value}, e = 119 ∨ e = 3 → w.ownsRow z e s v n xs → w'.ownsRow z e s v n xs) : LineAt z w' l vp vn :=
  ⟨k (.inl rfl) h.places, k (.inr rfl) h.next⟩
theorem BlockAt.keep {v : Value} {ls : List QLine} {vs : List (Value × Value)} (h : BlockAt z w v ls vs) (hr : w'.ownsRow z 115 6 v ls.length (lineCells ls vs))
    (k : ∀ {e : TypeId} {s : Nat} {v : Value} {n : Nat} {xs : List Value}, e = 119 ∨ e = 3 → w.ownsRow z e s v n xs → w'.ownsRow z e s v n xs) : BlockAt z w' v ls vs :=
  ⟨h.len, hr, fun j hj => (h.each j hj).keep k⟩
theorem LineAt.below {l : QLine} {vp vn : Value} (h : LineAt z w l vp vn) (hb : Below w.heap.size w w') : LineAt z w' l vp vn := h.keep fun _ h => own_below h hb
theorem BlockAt.below {v : Value} {ls : List QLine} {vs : List (Value × Value)} (h : BlockAt z w v ls vs) (hb : Below w.heap.size w w') : BlockAt z w' v ls vs := h.keep (own_below h.row hb) fun _ h => own_below h hb
theorem PAt.below (h : PAt z a w q vl vb us vss) (hb : Below w.heap.size w w') : PAt z a w' q vl vb us vss :=
  ⟨h.base, by rw [hb.block a h.lt]; exact h.blk, own_below h.locals hb, own_below h.blocks hb, fun j hj => (h.each j hj).below hb, h.apart⟩
theorem PAt.start (z : Nat) (w : World) (hz : z ≤ w.heap.size) : PAt z w.heap.size (w.alloc (.cells #[.slice none 0 0, .slice none 0 0] 110)) QP.empty (.slice none 0 0) (.slice none 0 0) [] [] :=
  ⟨hz, by show (w.heap.push _)[w.heap.size]? = _; simp, World.ownsRow_nil _ _ _ _, World.ownsRow_nil _ _ _ _, fun j hj => by simp [QP.empty] at hj, fun i j _ hj => by simp [QP.empty] at hj⟩

/-- a local more -/
theorem PAt.addLocal (h : PAt z a w q vl vb us vss) (x : B × Nat) (h2 : Below w.heap.size w w2)
    (h3 : w3.ownsRow z 146 2 v' (q.locals.length + 1) (locCells q.locals ++ locCell x)) (hg : w2.grownBy w3 vl.ownBlock) :
    PAt z a (w3.setCell ⟨a, 0, none⟩ v') (q.addLocal x) v' vb us vss := by
  have H := h.below h2
  have hne : some a ≠ vl.ownBlock := own_type_ne H.locals H.blk (by decide)
  have hblk : w3.heap[a]? = some (.cells #[vl, vb] 110 (0, 0)) := by rw [hg.block a H.lt hne]; exact H.blk
  have keep : ∀ {e : TypeId} {s : Nat} {v : Value} {n : Nat} {xs : List Value}, w2.ownsRow z e s v n xs → e ≠ 146 → e ≠ 110 → (w3.setCell ⟨a, 0, none⟩ v').ownsRow z e s v n xs := by
    intro e s v n xs hv he he'
    have hk := hv.kept hg (own_ne hv H.locals he)
    exact own_setCell hk _ (own_at_ne hk hblk he')
  refine ⟨h.base, ?_, ?_, keep H.blocks (by decide) (by decide), fun j hj => (H.each j hj).keep (keep (H.each j hj).row (by decide) (by decide)) (fun he hv => keep hv ?_ ?_), h.apart⟩
  · rw [Go.Proofs.YtmlgajhhnojdjaaGreatDoor.Aux.heap_setCell_same hblk]; rfl
  · have := own_setCell h3 (a := ⟨a, 0, none⟩) v' (own_at_ne h3 hblk (by decide))
    simpa [QP.addLocal, locCells] using this
  · rcases he with rfl | rfl <;> decide
  · rcases he with rfl | rfl <;> decide
/-- a block more -/
theorem PAt.addBlock (h : PAt z a w q vl vb us vss) (hl : vss.length = q.blocks.length) (h2 : Below w.heap.size w w2)
    (h3 : w3.ownsRow z 106 1 v' (q.blocks.length + 1) (us ++ [.slice none 0 0])) (hg : w2.grownBy w3 vb.ownBlock) :
    PAt z a (w3.setCell ⟨a, 1, none⟩ v') q.addBlock vl v' (us ++ [.slice none 0 0]) (vss ++ [[]]) := by
  have H := h.below h2
  have hu := h.usl
  have hne : some a ≠ vb.ownBlock := own_type_ne H.blocks H.blk (by decide)
  have hblk : w3.heap[a]? = some (.cells #[vl, vb] 110 (0, 0)) := by rw [hg.block a H.lt hne]; exact H.blk
  have keep : ∀ {e : TypeId} {s : Nat} {v : Value} {n : Nat} {xs : List Value}, w2.ownsRow z e s v n xs → e ≠ 106 → e ≠ 110 → (w3.setCell ⟨a, 1, none⟩ v').ownsRow z e s v n xs := by
    intro e s v n xs hv he he'
    have hk := hv.kept hg (own_ne hv H.blocks he)
    exact own_setCell hk _ (own_at_ne hk hblk he')
  have eu : ∀ j, j < q.blocks.length → (us ++ [Value.slice none 0 0]).getD j undef = us.getD j undef := fun j hj => by simp [List.getD_eq_getElem?_getD, List.getElem?_append, hu, hj]
  have el : (us ++ [Value.slice none 0 0]).getD q.blocks.length undef = .slice none 0 0 := by simp [List.getD_eq_getElem?_getD, ← hu]
  refine ⟨h.base, ?_, keep H.locals (by decide) (by decide), ?_, fun j hj => ?_, fun i j hij hj => ?_⟩
  · rw [Go.Proofs.YtmlgajhhnojdjaaGreatDoor.Aux.heap_setCell_same hblk]; rfl
  · have := own_setCell h3 (a := ⟨a, 1, none⟩) v' (own_at_ne h3 hblk (by decide))
    simpa [QP.addBlock] using this
  · simp only [QP.addBlock, List.length_append, List.length_singleton] at hj
    by_cases hlt : j < q.blocks.length
    · have e2 : q.addBlock.blocks.getD j [] = q.blocks.getD j [] := by simp [QP.addBlock, List.getD_eq_getElem?_getD, List.getElem?_append, hlt]
      have e3 : (vss ++ [[]]).getD j [] = vss.getD j [] := by simp [List.getD_eq_getElem?_getD, List.getElem?_append, hl, hlt]
      rw [eu j hlt, e2, e3]
      refine (H.each j hlt).keep (keep (H.each j hlt).row (by decide) (by decide)) (fun he hv => keep hv ?_ ?_)
      · rcases he with rfl | rfl <;> decide
      · rcases he with rfl | rfl <;> decide
    · obtain rfl : j = q.blocks.length := by omega
      have e2 : q.addBlock.blocks.getD q.blocks.length [] = [] := by simp [QP.addBlock, List.getD_eq_getElem?_getD]
      have e3 : (vss ++ [[]]).getD q.blocks.length [] = [] := by simp [List.getD_eq_getElem?_getD, ← hl]
      rw [el, e2, e3]
      exact ⟨rfl, World.ownsRow_nil _ _ _ _, fun j hj => by simp at hj⟩
  · simp only [QP.addBlock, List.length_append, List.length_singleton] at hj
    by_cases hlt : j < q.blocks.length
    · rw [eu j hlt, eu i (by omega)]; exact h.apart i j hij hlt
    · obtain rfl : j = q.blocks.length := by omega
      rw [eu i (by omega), el]
      cases hx : (us.getD i undef).ownBlock with
      | none => exact .inl rfl
      | some g => exact .inr (by simp [Value.ownBlock])
/-- a line more, of the last block -/
theorem PAt.addLine (h : PAt z a w q vl vb us vss) (hl : vss.length = q.blocks.length) (n : Nat) (hn : q.blocks.length = n + 1) (l : QLine) (vp vn : Value) (hL : LineAt z w l vp vn) (h2 : Below w.heap.size w w2)
    {gb cb : Nat} (hvb : vb = .slice (some ⟨gb, 0, none⟩) (n + 1) cb) {g : Nat} (hv' : v'.ownBlock = some g) (hat : (us.getD n undef).ownBlock = some g ∨ w2.heap.size ≤ g)
    (h3 : w3.ownsRow z 115 6 v' ((q.blocks.getD n []).length + 1) (lineCells (q.blocks.getD n []) (vss.getD n []) ++ lineCell (l, vp, vn))) (hg : w2.grownBy w3 (us.getD n undef).ownBlock) :
    PAt z a (w3.setCell ⟨gb, n, none⟩ v') (q.addLine l) vl vb (us.set n v') (vss.set n (vss.getD n [] ++ [(vp, vn)])) := by
  have H := h.below h2
  have HL := hL.below h2
  have hu := h.usl
  have hlast : n < q.blocks.length := by omega
  have HN := H.each n hlast
  have hne : some a ≠ (us.getD n undef).ownBlock := own_type_ne HN.row H.blk (by decide)
  have hblk : w3.heap[a]? = some (.cells #[vl, vb] 110 (0, 0)) := by rw [hg.block a H.lt hne]; exact H.blk
  have HB3 : w3.ownsRow z 106 1 vb q.blocks.length us := H.blocks.kept hg (own_ne H.blocks HN.row (by decide))
  obtain ⟨g', cap, cur, e, hzg, hcur, hcap, hmax, hsz, htk⟩ : ∃ g' cap cur, vb = .slice (some ⟨g', 0, none⟩) q.blocks.length cap ∧ z ≤ g' ∧ w3.heap[g']? = some (.cells cur 106 (0, 0)) ∧ q.blocks.length ≤ cap ∧ cap ≤ maxLen ∧ cur.size = cap * 1 ∧ cur.toList.take (q.blocks.length * 1) = us := by
    rcases HB3.2 with ⟨e, -⟩ | ⟨g', cap, cur, e, r⟩
    · rw [hvb] at e; cases e
    · exact ⟨g', cap, cur, e, r⟩
  have : g' = gb := by rw [hvb] at e; simp only [Value.slice.injEq, Option.some.injEq, Addr.mk.injEq] at e; exact e.1.1.symm
  subst this
  have keep : ∀ {e : TypeId} {s : Nat} {v : Value} {n' : Nat} {xs : List Value}, w2.ownsRow z e s v n' xs → (v.ownBlock = none ∨ v.ownBlock ≠ (us.getD n undef).ownBlock) → e ≠ 106 → (w3.setCell ⟨g', n, none⟩ v').ownsRow z e s v n' xs := by
    intro e s v n' xs hv hnn he'
    have hk := hv.kept hg hnn
    exact own_setCell hk _ (own_at_ne hk hcur he')
  have eu : ∀ j, ¬ j = n → (us.set n v').getD j undef = us.getD j undef := fun j hj => by simp [List.getD_eq_getElem?_getD, List.getElem?_set_ne (Ne.symm hj)]
  have eun : (us.set n v').getD n undef = v' := by simp [List.getD_eq_getElem?_getD, hu, hlast]
  have hB : q.blocks = q.blocks.dropLast ++ [q.blocks.getD n []] := by
    have hne : q.blocks ≠ [] := by intro e; rw [e] at hlast; simp at hlast
    conv => lhs; rw [← List.dropLast_concat_getLast hne]
    congr 2
    rw [List.getLast_eq_getElem]
    simp [List.getD_eq_getElem?_getD, hn]
  have hD : q.blocks.dropLast.length = n := by simp [hn]
  have hlB : (q.addLine l).blocks = q.blocks.dropLast ++ [q.blocks.getD n [] ++ [l]] := by
    have : q.blocks.getLastD [] = q.blocks.getD n [] := by rw [hB]; simp [List.getD_eq_getElem?_getD, hD]
    simp only [QP.addLine, this]
  have ebn : (q.addLine l).blocks.getD n [] = q.blocks.getD n [] ++ [l] := by rw [hlB]; simp [List.getD_eq_getElem?_getD, hD]
  have eb : ∀ j, j < n → (q.addLine l).blocks.getD j [] = q.blocks.getD j [] := fun j hj => by
    rw [hlB, hB]; simp [List.getD_eq_getElem?_getD, List.getElem?_append, hD, hj]
  have elen : (q.addLine l).blocks.length = n + 1 := by rw [hlB]; simp [hD]
  have ev : ∀ j, ¬ j = n → (vss.set n (vss.getD n [] ++ [(vp, vn)])).getD j [] = vss.getD j [] := fun j hj => by simp [List.getD_eq_getElem?_getD, List.getElem?_set_ne (Ne.symm hj)]
  have evn : (vss.set n (vss.getD n [] ++ [(vp, vn)])).getD n [] = vss.getD n [] ++ [(vp, vn)] := by simp [List.getD_eq_getElem?_getD, hl, hlast]
  have ne2 : ∀ {e : TypeId} {s : Nat} {v : Value} {n' : Nat} {xs : List Value}, e = 119 ∨ e = 3 → w2.ownsRow z e s v n' xs → (w3.setCell ⟨g', n, none⟩ v').ownsRow z e s v n' xs := fun he hv =>
    keep hv (own_ne hv HN.row (by rcases he with rfl | rfl <;> decide)) (by rcases he with rfl | rfl <;> decide)
  refine ⟨h.base, ?_, keep H.locals (own_ne H.locals HN.row (by decide)) (by decide), ?_, fun j hj => ?_, fun i j hij hj => ?_⟩
  · rw [Below.heap_setCell _ _ _ _ (by show a ≠ g'; intro e; rw [e, hcur] at hblk; simp only [Option.some.injEq, Obj.cells.injEq] at hblk; exact absurd hblk.2.1 (by decide))]; exact hblk
  · rw [elen]
    refine ⟨by simp [hu, hn], .inr ⟨g', cap, cur.setIfInBounds n v', by rw [e, hn], hzg, Go.Proofs.YtmlgajhhnojdjaaGreatDoor.Aux.heap_setCell_same hcur n v', by omega, hmax, by simpa using hsz, ?_⟩⟩
    rw [Array.toList_setIfInBounds, ← htk, hn, List.take_set]
  · rw [elen] at hj
    by_cases hjn : j = n
    · subst hjn
      rw [eun, ebn, evn]
      refine ⟨by rw [List.length_append, List.length_append, HN.len]; rfl, ?_, fun i hi => ?_⟩
      · have := own_setCell h3 (a := ⟨g', j, none⟩) v' (own_at_ne h3 hcur (by decide))
        have e2 : lineCells (q.blocks.getD j [] ++ [l]) (vss.getD j [] ++ [(vp, vn)]) = lineCells (q.blocks.getD j []) (vss.getD j []) ++ lineCell (l, vp, vn) := by
          unfold lineCells
          rw [List.zip_append HN.len.symm]; simp
        rw [e2]
        simpa using this
      · simp at hi
        by_cases hlt : i < (q.blocks.getD j []).length
        · have e1 : (q.blocks.getD j [] ++ [l]).getD i QLine.nil = (q.blocks.getD j []).getD i QLine.nil := by rw [List.getD_eq_getElem?_getD, List.getElem?_append_left hlt, ← List.getD_eq_getElem?_getD]
          have e2 : (vss.getD j [] ++ [(vp, vn)]).getD i (undef, undef) = (vss.getD j []).getD i (undef, undef) := by rw [List.getD_eq_getElem?_getD, List.getElem?_append_left (by rw [HN.len]; exact hlt), ← List.getD_eq_getElem?_getD]
          rw [e1, e2]
          exact (HN.each i hlt).keep ne2
        · have hi' : i = (q.blocks.getD j []).length := by simp only [List.getD_eq_getElem?_getD] at hlt hi ⊢; omega
          have e1 : (q.blocks.getD j [] ++ [l]).getD i QLine.nil = l := by rw [hi', List.getD_eq_getElem?_getD, List.getElem?_append_right (Nat.le_refl _)]; simp
          have e2 : (vss.getD j [] ++ [(vp, vn)]).getD i (undef, undef) = (vp, vn) := by rw [hi', ← HN.len, List.getD_eq_getElem?_getD, List.getElem?_append_right (Nat.le_refl _)]; simp
          rw [e1, e2]
          exact HL.keep ne2
    · have hjl : j < n := by omega
      rw [eu j hjn, eb j hjl, ev j hjn]
      refine (H.each j (by omega)).keep (keep (H.each j (by omega)).row (h.apart j n hjl hlast) (by decide)) ne2
  · rw [elen] at hj
    by_cases hjn : j = n
    · subst hjn
      rw [eu i (by omega), eun, hv']
      cases hx : (us.getD i undef).ownBlock with
      | none => exact .inl rfl
      | some g0 =>
        refine .inr fun hc => ?_
        simp only [Option.some.injEq] at hc
        subst hc
        rcases hat with hat | hat
        · rcases h.apart i j hij hlast with h0 | h0
          · rw [hx] at h0; cases h0
          · rw [hx, hat] at h0; exact h0 rfl
        · have := own_lt (H.each i (by omega)).row g0 hx
          omega
    · rw [eu i (by omega), eu j hjn]; exact h.apart i j hij (by omega)
end
end Go.Proofs.YtmlgajhhnojdjaaGreatDoor.PrjM
