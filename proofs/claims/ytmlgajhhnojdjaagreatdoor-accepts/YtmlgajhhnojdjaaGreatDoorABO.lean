/- Plain facts: which places of a program that is made line by line have a box, and where its first fault is. -/
import Derived.Test.YtmlgajhhnojdjaaGreatDoorABN
import Derived.Test.YtmlgajhhnojdjaaGreatDoorABF
import Derived.Test.YtmlgajhhnojdjaaGreatDoorAAJ
import Derived.Deep.DeepCutAuto
namespace Go.Proofs.YtmlgajhhnojdjaaGreatDoor.MadB
open Go Go.Proofs.YtmlgajhhnojdjaaGreatDoor.Spec Go.Proofs.YtmlgajhhnojdjaaGreatDoor.Aux Go.Proofs.YtmlgajhhnojdjaaGreatDoor.FlwF Go.Proofs.YtmlgajhhnojdjaaGreatDoor.FlwG Go.Proofs.YtmlgajhhnojdjaaGreatDoor.FlwH Go.Proofs.YtmlgajhhnojdjaaGreatDoor.FlwI Go.Proofs.YtmlgajhhnojdjaaGreatDoor.FlwJ Go.Proofs.YtmlgajhhnojdjaaGreatDoor.FlwM Go.Proofs.YtmlgajhhnojdjaaGreatDoor.FlwO Go.Proofs.YtmlgajhhnojdjaaGreatDoor.FlwP Go.Proofs.YtmlgajhhnojdjaaGreatDoor.FlwQ Go.Proofs.YtmlgajhhnojdjaaGreatDoor.FlwS Go.Proofs.YtmlgajhhnojdjaaGreatDoor.FlwX Go.Proofs.YtmlgajhhnojdjaaGreatDoor.FlwY Go.Proofs.YtmlgajhhnojdjaaGreatDoor.MadA Go.Proofs.YtmlgajhhnojdjaaGreatDoor.MadM

def Q0 : QP := ⟨locs, []⟩
def Right (l : ML) (m m' : MM) : Prop := faultyQ Q0 (l.q 0) m.st = false ∧ passQ Q0 (l.q 0) m.st = m'.st
instance (l : ML) (m m' : MM) : Decidable (Right l m m') := inferInstanceAs (Decidable (_ ∧ _))
set_option maxRecDepth 20000 in
theorem new_right : ∀ (p q a b : Bool) (o : Fin 3) (i : Fin 5), (⟨p, q, a, b, o⟩ : MM).can i = true → Right (.new i) ⟨p, q, a, b, o⟩ ((⟨p, q, a, b, o⟩ : MM).now i true) := by decide
set_option maxRecDepth 20000 in
theorem load_right : ∀ (p q a b : Bool) (o : Fin 3) (i : Fin 5), (⟨p, q, a, b, o⟩ : MM).has i = true → Right (.load i) ⟨p, q, a, b, o⟩ ⟨p, q, a, b, o⟩ := by decide
set_option maxRecDepth 20000 in
theorem store_right : ∀ (p q a b : Bool) (o : Fin 3) (i : Fin 5), (⟨p, q, a, b, o⟩ : MM).has i = true → Right (.store i) ⟨p, q, a, b, o⟩ ⟨p, q, a, b, o⟩ := by decide
set_option maxRecDepth 40000 in
theorem move_right : ∀ (p q a b : Bool) (o : Fin 3) (i k : Fin 5), ((⟨p, q, a, b, o⟩ : MM).has k && ((⟨p, q, a, b, o⟩ : MM).can i || i == k)) = true → Right (.move i k) ⟨p, q, a, b, o⟩ (((⟨p, q, a, b, o⟩ : MM).now k false).now i true) := by decide
set_option maxRecDepth 20000 in
theorem drop_right : ∀ (p q a b : Bool) (o : Fin 3) (i : Fin 5), (⟨p, q, a, b, o⟩ : MM).can i = true → Right (.drop i) ⟨p, q, a, b, o⟩ ((⟨p, q, a, b, o⟩ : MM).now i false) := by decide
set_option maxRecDepth 20000 in
theorem some_right : ∀ (p q a b : Bool) (o : Fin 3) (k : Fin 5), (⟨p, q, a, b, o⟩ : MM).has k = true → Right (.some k) ⟨p, q, a, b, o⟩ (((⟨p, q, a, b, o⟩ : MM).now k false).now 4 true) := by decide
theorem step_right {m m' : MM} {kind : Nat} {i k : Fin 5} {l : ML} (h : m.step kind i k = some (l, m')) : Right l m m' := by
  obtain ⟨p, q, a, b, o⟩ := m
  unfold MM.step at h
  split at h
  · split at h
    · rename_i hc; cases h; exact new_right p q a b o i hc
    · cases h
  · split at h
    · split at h
      · rename_i hc; cases h; exact load_right p q a b o i hc
      · cases h
    · split at h
      · split at h
        · rename_i hc; cases h; exact store_right p q a b o i hc
        · cases h
      · split at h
        · split at h
          · rename_i hc; cases h; exact move_right p q a b o i k hc
          · cases h
        · split at h
          · split at h
            · rename_i hc; cases h; exact drop_right p q a b o i hc
            · cases h
          · split at h
            · rename_i hc; cases h; exact some_right p q a b o k hc
            · cases h
/-- lines that were made: none is wrong, and this comes of them -/
inductive Made : List ML → MM → Prop
  | start : Made [] ⟨false, false, false, false, 0⟩
  | line {L : List ML} {m m' : MM} {l : ML} : Made L m → Right l m m' → Made (L ++ [l]) m'
theorem fault_num (bl : List (List QLine)) (l : ML) (n : Nat) (s : List Nat) : faultyQ ⟨locs, bl⟩ (l.q n) s = faultyQ Q0 (l.q 0) s ∧ passQ ⟨locs, bl⟩ (l.q n) s = passQ Q0 (l.q 0) s := by
  cases l <;> exact ⟨rfl, rfl⟩
theorem qlines_app : ∀ (L M : List ML) (n : Nat), qlines (L ++ M) n = qlines L n ++ qlines M (n + L.length)
  | [], _, _ => by simp [qlines]
  | l :: L, M, n => by
    rw [List.cons_append, qlines, qlines, qlines_app L M (n + 1), List.length_cons, show n + 1 + L.length = n + (L.length + 1) by omega]; rfl
theorem made_quiet {L : List ML} {m : MM} (h : Made L m) (bl : List (List QLine)) : faultL ⟨locs, bl⟩ (headQ ++ qlines L 8) startSt = none ∧ endG (passQ ⟨locs, bl⟩) (headQ ++ qlines L 8) startSt = m.st := by
  induction h with
  | start =>
    have h : faultL Q0 headQ startSt = none ∧ endG (passQ Q0) headQ startSt = stM false false false false 0 := by decide
    exact h
  | @line L m m' l hM hr ih =>
    obtain ⟨i1, i2⟩ := ih
    obtain ⟨f1, f2⟩ := fault_num bl l (8 + L.length) m.st
    have e : headQ ++ qlines (L ++ [l]) 8 = (headQ ++ qlines L 8) ++ [l.q (8 + L.length)] := by rw [qlines_app, List.append_assoc]; rfl
    constructor
    · rw [e, faultL_app, i1, i2, faultL, f1, hr.1]; rfl
    · rw [e, endG, List.foldl_append]
      show passQ ⟨locs, bl⟩ (l.q (8 + L.length)) (endG (passQ ⟨locs, bl⟩) (headQ ++ qlines L 8) startSt) = _
      rw [i2, f2, hr.2]
/-- none wrong, to the end -/
theorem made_right {L : List ML} {m : MM} (h : Made L m) (bl : List (List QLine)) : faultL ⟨locs, bl⟩ (headQ ++ qlines L 8 ++ [endQ (8 + L.length)]) startSt = none := by
  obtain ⟨i1, i2⟩ := made_quiet h bl
  have he : ∀ (p q a b : Bool) (o : Fin 3), faultyQ Q0 (endQ 0) (stM p q a b o) = false := by decide
  have he' : faultyQ ⟨locs, bl⟩ (endQ (8 + L.length)) m.st = false := he m.p m.q m.a m.b m.o
  rw [faultL_app, i1, i2, faultL, he']; rfl
theorem made_next (L : List ML) : ∀ l ∈ headQ ++ qlines L 8 ++ [endQ (8 + L.length)], l.next = [] := by
  intro l hl
  simp only [List.mem_append, List.mem_singleton] at hl
  rcases hl with (hl | hl) | rfl
  · revert l; decide
  · obtain ⟨m, n, rfl⟩ := qlines_mem _ _ _ hl; cases m <;> rfl
  · rfl
theorem outsL_none (q : QP) : ∀ (ls : List QLine) (s : List Nat), (∀ l ∈ ls, l.next = []) → outsL q ls s = []
  | [], _, _ => rfl
  | l :: ls, s, h => by
    rw [outsL, h l (List.mem_cons_self ..)]
    exact outsL_none q ls _ fun x hx => h x (List.mem_cons_of_mem _ hx)
/-- of one block that leads nowhere the ways are those it starts with -/
theorem one_block {q : QP} {E : List (List Nat)} {O : Nat → Bool} {ls : List QLine} (hq : q.blocks = [ls]) (hn : ∀ l ∈ ls, l.next = []) (h : InvF q E O) : firstSome (faultB q E) q.blocks.length 0 = faultL q ls startSt := by
  have hl : q.blocks.length = 1 := by rw [hq]; rfl
  have hb : q.blocks.getD 0 [] = ls := by rw [hq]; rfl
  have hU : QClosed q (fun _ => startSt) := ⟨fun _ _ => startSt_ok, leS_refl _, fun b hb' _ x hx => by
    have : b = 0 := by omega
    subst this
    rw [hb, outsL_none q ls _ hn] at hx; cases hx⟩
  have h1 := h.inv.least _ hU 0 (by omega)
  have h2 := h.inv.start
  have hs := h.inv.ok.at (i := 0) (by rw [h.inv.len]; omega)
  have he : E.getD 0 [] = startSt := by
    refine ext24 hs.len (by decide) fun k hk => ?_
    have a1 := h1 k hk
    have a2 := h2 k hk
    unfold le1 at a1 a2
    rw [Nat.or_comm, a2] at a1
    exact a1
  rw [hl]
  show (faultB q E 0).or none = _
  unfold faultB
  rw [he, if_neg startSt_ne, hb, Option.or_none]
end Go.Proofs.YtmlgajhhnojdjaaGreatDoor.MadB
/- Programs that are made line by line: the maker's steps, walked. -/
namespace Go.Proofs.YtmlgajhhnojdjaaGreatDoor.MadC
open Go Go.RowKit Go.Proofs.YtmlgajhhnojdjaaGreatDoor.Spec Go.Proofs.YtmlgajhhnojdjaaGreatDoor.Aux Go.Proofs.YtmlgajhhnojdjaaGreatDoor.PrjJ Go.Proofs.YtmlgajhhnojdjaaGreatDoor.PrjK Go.Proofs.YtmlgajhhnojdjaaGreatDoor.MadA Go.Proofs.YtmlgajhhnojdjaaGreatDoor.MadM

def obyte (o : Fin 3) : Nat := match o with | 0 => 110 | 1 => 119 | 2 => 104
/-- the maker in memory -/
def MakAt (w : World) (a : Nat) (T : ByteArray) (n : Nat) (m : MM) : Prop :=
  w.heap[a]? = some (.cells #[.string T, .int .i64 n, .bool m.p, .bool m.q, .bool m.a, .bool m.b, .bool (m.o == 1), .int .u8 (obyte m.o : Nat)] 30 (0, 0))
section
variable {w w' : World} {a : Nat} {T : ByteArray} {n : Nat} {m : MM}
theorem MakAt.facts (h : MakAt w a T n m) : w.cell? ⟨a, 0, none⟩ = some (.string T) ∧ w.cell? ⟨a, 1, none⟩ = some (.int .i64 n) ∧ w.cell? ⟨a, 7, none⟩ = some (.int .u8 (obyte m.o : Nat)) ∧ w.frozen? ⟨a, 0, none⟩ = false ∧ w.frozen? ⟨a, 1, none⟩ = false ∧ w.frozen? ⟨a, 7, none⟩ = false := by
  unfold MakAt at h
  exact ⟨by rw [cell_of_heap h]; rfl, by rw [cell_of_heap h]; rfl, by rw [cell_of_heap h]; rfl, frozen_of_heap h 0, frozen_of_heap h 1, frozen_of_heap h 7⟩
theorem MakAt.has (h : MakAt w a T n m) (k : Fin 5) : w.cell? ⟨a, 2 + k.val, none⟩ = some (.bool (m.has k)) := by
  unfold MakAt at h
  rw [cell_of_heap h]
  match k with | 0 => rfl | 1 => rfl | 2 => rfl | 3 => rfl | 4 => rfl
theorem MakAt.lt (h : MakAt w a T n m) : a < w.heap.size := lt_of_heap h
theorem MakAt.below (h : MakAt w a T n m) (hb : Below w.heap.size w w') : MakAt w' a T n m := by
  unfold MakAt; rw [hb.block a h.lt]; exact h
theorem MakAt.line (h : MakAt w a T n m) (T' : ByteArray) (n' : Nat) : MakAt ((w.setCell ⟨a, 0, none⟩ (.string T')).setCell ⟨a, 1, none⟩ (.int .i64 n')) a T' n' m := by
  unfold MakAt at h ⊢
  have h1 := Aux.heap_setCell_same h 0 (.string T')
  rw [Aux.heap_setCell_same h1 1]; rfl
def pickN (c : Int) (n : Nat) : Nat := ((if c < 0 then -(c + 1) else c) % n).toNat
theorem pickN_lt (c : Int) {n : Nat} (hn : 0 < n) : pickN c n < n := by
  unfold pickN
  have h1 := Int.emod_nonneg (if c < 0 then -(c + 1) else c) (b := (n : Int)) (by omega)
  have h2 := Int.emod_lt_of_pos (if c < 0 then -(c + 1) else c) (b := (n : Int)) (by omega)
  omega
end
theorem pick_any (c : Int) (n : Nat) (w : World) (hc : -9223372036854775808 ≤ c ∧ c ≤ 9223372036854775807) (hn : 0 < n ∧ n ≤ 10000000) : Calls Tryz.prog 16 #[.int .i64 c, .int .i64 n] w fun e w' => e = .returned (.int .i64 (pickN c n : Nat)) ∧ w' = w := by
  have hz : ((n : Int) == 0) = false := by rw [beq_eq_false_iff_ne]; omega
  by_cases h : c < 0
  · go_enter Tryz.func16, Tryz.ntmps16
    go_wp2
    go_ret
    refine ⟨?_, rfl⟩
    have e : -((c + 1).tmod (n : Int)) = ((pickN c n : Nat) : Int) := by
      unfold pickN
      rw [if_pos h, ← Int.neg_tmod, Int.tmod_eq_emod_of_nonneg (by omega), Int.toNat_of_nonneg (Int.emod_nonneg _ (by omega))]
    show Ending.returned (Value.int .i64 (-((c + 1).tmod (n : Int)))) = _
    rw [e]
  · go_enter Tryz.func16, Tryz.ntmps16
    go_wp2
    go_ret
    refine ⟨?_, rfl⟩
    have e : c % (n : Int) = ((pickN c n : Nat) : Int) := by
      unfold pickN
      rw [if_neg (by omega), Int.toNat_of_nonneg (Int.emod_nonneg _ (by omega))]
    show Ending.returned (Value.int .i64 (c % (n : Int))) = _
    rw [e]
set_option maxRecDepth 20000 in
theorem place_any (k : Fin 5) (w : World) : Calls Tryz.prog 18 #[.int .i64 (k.val : Nat)] w fun e w' => e = .returned (.string (bs (plc k))) ∧ Below w.heap.size w w' := by
  have hb : ∀ b, Below w.heap.size w (w.alloc b) := fun b => (Below.refl _ _).alloc (Nat.le_refl _) _
  match k with
  | 0 => go_enter Tryz.func18, Tryz.ntmps18; go_wp2; go_ret; exact ⟨rfl, hb _⟩
  | 1 => go_enter Tryz.func18, Tryz.ntmps18; go_wp2; go_ret; exact ⟨rfl, hb _⟩
  | 2 => go_enter Tryz.func18, Tryz.ntmps18; go_wp2; go_ret; exact ⟨rfl, hb _⟩
  | 3 => go_enter Tryz.func18, Tryz.ntmps18; go_wp2; go_ret; exact ⟨rfl, hb _⟩
  | 4 => go_enter Tryz.func18, Tryz.ntmps18; go_wp2; go_ret; exact ⟨rfl, hb _⟩
section
variable {w : World} {a : Nat} {T : ByteArray} {n : Nat} {m : MM}
set_option maxRecDepth 20000 in
theorem line_any (h : MakAt w a T n m) (s : ByteArray) (hT : T.size ≤ 1000000) (hs : s.size ≤ 1000) (hn : n ≤ 1000) : Calls Tryz.prog 17 #[.pointer (some ⟨a, 0, none⟩), .string s] w fun e w' => e = .returned (.tuple #[]) ∧ MakAt w' a (T ++ ⟨#[10]⟩ ++ s) (n + 1) m ∧ Turn a w w' := by
  obtain ⟨c0, c1, -, f0, f1, -⟩ := h.facts
  go_enter Tryz.func17, Tryz.ntmps17
  go_wp2
  go_end0
  exact ⟨rfl, h.line _ _, ((Turn.refl _ _).setCell 0 _).setCell 1 _⟩
theorem can_any (h : MakAt w a T n m) (k : Fin 5) : Calls Tryz.prog 37 #[.pointer (some ⟨a, 0, none⟩), .int .i64 (k.val : Nat)] w fun e w' => e = .returned (.bool (m.can k)) ∧ w' = w := by
  obtain ⟨-, -, c7, -⟩ := h.facts
  by_cases hk : k.val < 4
  · have hm : m.can k = true := by simp [MM.can, hk]
    rw [hm]
    go_enter Tryz.func37, Tryz.ntmps37
    go_wp2
    go_ret
    exact ⟨rfl, rfl⟩
  · have hm : m.can k = !(m.o == 0) := by simp [MM.can, hk]
    have hki : decide ((k.val : Int) < 4) = false := by rw [decide_eq_false_iff_not]; omega
    rw [hm]
    obtain ⟨p, q, a', b, o⟩ := m
    match o with
    | 0 =>
      go_enter Tryz.func37, Tryz.ntmps37
      go_wp2
      go_ret
      exact ⟨by simp only [obyte]; rfl, rfl⟩
    | 1 =>
      go_enter Tryz.func37, Tryz.ntmps37
      go_wp2
      go_ret
      exact ⟨rfl, rfl⟩
    | 2 =>
      go_enter Tryz.func37, Tryz.ntmps37
      go_wp2
      go_ret
      exact ⟨by simp only [obyte]; rfl, rfl⟩
set_option maxRecDepth 20000 in
theorem now_any (h : MakAt w a T n m) (k : Fin 5) (v : Bool) : Calls Tryz.prog 19 #[.pointer (some ⟨a, 0, none⟩), .int .i64 (k.val : Nat), .bool v] w fun e w' => e = .returned (.tuple #[]) ∧ MakAt w' a T n (m.now k v) ∧ Turn a w w' := by
  obtain ⟨-, -, c7, -, -, f7⟩ := h.facts
  have ck := h.has k
  have fk : w.frozen? ⟨a, 2 + k.val, none⟩ = false := by unfold MakAt at h; exact frozen_of_heap h _
  have hh := h
  unfold MakAt at hh
  match k with
  | 0 =>
    have h1 : MakAt (w.setCell ⟨a, 2, none⟩ (.bool v)) a T n (m.now 0 v) := by unfold MakAt; rw [Aux.heap_setCell_same hh 2]; rfl
    have ck' : w.cell? ⟨a, 2, none⟩ = some (.bool (m.has 0)) := ck
    have fk' : w.frozen? ⟨a, 2, none⟩ = false := fk
    have K : Calls Tryz.prog 19 #[.pointer (some ⟨a, 0, none⟩), .int .i64 0, .bool v] w fun e w' => e = .returned (.tuple #[]) ∧ MakAt w' a T n (m.now 0 v) ∧ Turn a w w' := by
      go_enter Tryz.func19, Tryz.ntmps19
      go_wp2
      go_end0
      exact ⟨rfl, h1, (Turn.refl _ _).setCell _ _⟩
    exact K
  | 1 =>
    have h1 : MakAt (w.setCell ⟨a, 3, none⟩ (.bool v)) a T n (m.now 1 v) := by unfold MakAt; rw [Aux.heap_setCell_same hh 3]; rfl
    have ck' : w.cell? ⟨a, 3, none⟩ = some (.bool (m.has 1)) := ck
    have fk' : w.frozen? ⟨a, 3, none⟩ = false := fk
    have K : Calls Tryz.prog 19 #[.pointer (some ⟨a, 0, none⟩), .int .i64 1, .bool v] w fun e w' => e = .returned (.tuple #[]) ∧ MakAt w' a T n (m.now 1 v) ∧ Turn a w w' := by
      go_enter Tryz.func19, Tryz.ntmps19
      go_wp2
      go_end0
      exact ⟨rfl, h1, (Turn.refl _ _).setCell _ _⟩
    exact K
  | 2 =>
    have h1 : MakAt (w.setCell ⟨a, 4, none⟩ (.bool v)) a T n (m.now 2 v) := by unfold MakAt; rw [Aux.heap_setCell_same hh 4]; rfl
    have ck' : w.cell? ⟨a, 4, none⟩ = some (.bool (m.has 2)) := ck
    have fk' : w.frozen? ⟨a, 4, none⟩ = false := fk
    have K : Calls Tryz.prog 19 #[.pointer (some ⟨a, 0, none⟩), .int .i64 2, .bool v] w fun e w' => e = .returned (.tuple #[]) ∧ MakAt w' a T n (m.now 2 v) ∧ Turn a w w' := by
      go_enter Tryz.func19, Tryz.ntmps19
      go_wp2
      go_end0
      exact ⟨rfl, h1, (Turn.refl _ _).setCell _ _⟩
    exact K
  | 3 =>
    have h1 : MakAt (w.setCell ⟨a, 5, none⟩ (.bool v)) a T n (m.now 3 v) := by unfold MakAt; rw [Aux.heap_setCell_same hh 5]; rfl
    have ck' : w.cell? ⟨a, 5, none⟩ = some (.bool (m.has 3)) := ck
    have fk' : w.frozen? ⟨a, 5, none⟩ = false := fk
    have K : Calls Tryz.prog 19 #[.pointer (some ⟨a, 0, none⟩), .int .i64 3, .bool v] w fun e w' => e = .returned (.tuple #[]) ∧ MakAt w' a T n (m.now 3 v) ∧ Turn a w w' := by
      go_enter Tryz.func19, Tryz.ntmps19
      go_wp2
      go_end0
      exact ⟨rfl, h1, (Turn.refl _ _).setCell _ _⟩
    exact K
  | 4 =>
    have h1 := Aux.heap_setCell_same hh 6 (.bool v)
    cases v
    · have h2 : MakAt ((w.setCell ⟨a, 6, none⟩ (.bool false)).setCell ⟨a, 7, none⟩ (.int .u8 104)) a T n (m.now 4 false) := by unfold MakAt; rw [Aux.heap_setCell_same h1 7]; rfl
      go_enter Tryz.func19, Tryz.ntmps19
      go_wp2
      go_end0
      exact ⟨rfl, h2, ((Turn.refl _ _).setCell _ _).setCell _ _⟩
    · have h2 : MakAt ((w.setCell ⟨a, 6, none⟩ (.bool true)).setCell ⟨a, 7, none⟩ (.int .u8 119)) a T n (m.now 4 true) := by unfold MakAt; rw [Aux.heap_setCell_same h1 7]; rfl
      go_enter Tryz.func19, Tryz.ntmps19
      go_wp2
      go_end0
      exact ⟨rfl, h2, ((Turn.refl _ _).setCell _ _).setCell _ _⟩
end
end Go.Proofs.YtmlgajhhnojdjaaGreatDoor.MadC
