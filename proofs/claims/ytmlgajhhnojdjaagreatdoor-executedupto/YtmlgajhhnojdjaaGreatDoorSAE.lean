/- Plain facts: the types of all lines, both ways; and the whole of both readers. -/
import Derived.Test.YtmlgajhhnojdjaaGreatDoorSAD
import Derived.Test.YtmlgajhhnojdjaaGreatDoorProg
import Derived.Deep.Light
import Derived.Deep.MidRow
namespace Go.Proofs.YtmlgajhhnojdjaaGreatDoor.Spec
open Go

def isPl (c : UInt8) : Bool := c == 105 || c == 111 || c == 112 || c == 109
def RP.plQ (p : RP) (w : B) : Nat × Nat := ((p.find (localOf w)).toNat, pidx (partOf w))
def RP.placesQ (p : RP) : B → List B → List (Nat × Nat)
  | [], _ => []
  | c :: f, ws => if isPl c then p.plQ (word ws 0) :: RP.placesQ p f (ws.drop 1) else RP.placesQ p f (ws.drop 1)
def nextQ : B → List B → List Nat
  | [], _ => []
  | c :: f, ws => if c = 98 then ((digitsP (word ws 0)).getD 0).toNat :: nextQ f (ws.drop 1) else nextQ f (ws.drop 1)
theorem formed_place {w : B} {c : UInt8} (hc : isPl c = true) (h : formedP w c = true) : isPlace w = true := by
  simp only [isPl, Bool.or_eq_true, beq_iff_eq] at hc
  rcases hc with ((rfl | rfl) | rfl) | rfl
  · exact (isName_place h).1
  · exact (isName_place h).1
  · rw [← place_eq]; exact h
  · rw [← place_eq]; exact h
/-- a line that was looked up: its op, places and blocks -/
theorem lineGo_some {p : RP} {nb : Nat} : ∀ (f : B) (_ : ∀ c ∈ f, c ∈ ([105, 111, 112, 109, 35, 98, 102, 118] : List UInt8)) (ws : List B) (_ : formedGo f ws = true) (l l' : QLine), lineGo p.locQ nb f ws l = some l' →
    l'.op = l.op ∧ l'.places = l.places ++ p.placesQ f ws ∧ l'.next = l.next ++ nextQ f ws ∧ l'.num = l.num
  | [], _, ws, _, l, l', h => by simp only [lineGo, Option.some.injEq] at h; subst h; simp [RP.placesQ, nextQ]
  | c :: f, hc, ws, hf, l, l', h => by
    rw [formedGo, Bool.and_eq_true] at hf
    have hc0 := hc c (List.mem_cons_self ..)
    have ih := lineGo_some (p := p) (nb := nb) f (fun x hx => hc x (List.mem_cons_of_mem _ hx)) (ws.drop 1) hf.2
    have hw := hf.1
    rw [lineGo] at h
    rw [RP.placesQ, nextQ]
    have place : isPl c = true → (¬ c = 98) → (if findQ p.locQ ((splitPl (word ws 0)).getD ([], 0)).1 < 0 then none
       else lineGo p.locQ nb f (ws.drop 1) { l with places := l.places ++ [((findQ p.locQ ((splitPl (word ws 0)).getD ([], 0)).1).toNat, ((splitPl (word ws 0)).getD ([], 0)).2)] }) = some l' →
       l'.op = l.op ∧ l'.places = l.places ++ (if isPl c then p.plQ (word ws 0) :: RP.placesQ p f (ws.drop 1) else RP.placesQ p f (ws.drop 1)) ∧ l'.next = l.next ++ (if c = 98 then ((digitsP (word ws 0)).getD 0).toNat :: nextQ f (ws.drop 1) else nextQ f (ws.drop 1)) ∧ l'.num = l.num := by
      intro hp h98 h
      have hpl := splitPl_place (formed_place hp hw)
      rw [hpl] at h
      simp only [Option.getD_some] at h
      rw [find_eq] at h
      split at h
      · cases h
      · obtain ⟨a, b, d, e⟩ := ih _ _ h
        rw [if_pos hp, if_neg h98]
        exact ⟨a, by rw [b]; simp [RP.plQ], d, e⟩
    simp only [List.mem_cons, List.not_mem_nil, or_false] at hc0
    rcases hc0 with rfl | rfl | rfl | rfl | rfl | rfl | rfl | rfl
    · exact place rfl (by decide) h
    · exact place rfl (by decide) h
    · exact place rfl (by decide) h
    · exact place rfl (by decide) h
    · rw [if_pos (.inl rfl)] at h; have hh := ih _ _ h; exact hh
    · rw [if_neg (by decide), if_neg (by decide), if_pos rfl] at h
      rw [if_pos rfl]
      split at h
      · cases h
      · obtain ⟨a, b, d, e⟩ := ih _ _ h
        exact ⟨a, b, by rw [d]; simp, e⟩
    · rw [if_neg (by decide), if_pos rfl] at h; have hh := ih _ _ h; exact hh
    · rw [if_pos (.inr rfl)] at h; have hh := ih _ _ h; exact hh
theorem noPl : ∀ (f : B) (_ : ∀ c ∈ f, isPl c = false ∧ c ∈ ([35, 98, 102, 118] : List UInt8)) (p : RP) (w1 : B) (ws : List B), p.placesQ f ws = [] ∧ p.typesGo w1 (f.map letter) ws = true
  | [], _, _, _, _ => ⟨rfl, rfl⟩
  | c :: f, hc, p, w1, ws => by
    obtain ⟨h1, h2⟩ := noPl f (fun x hx => hc x (List.mem_cons_of_mem _ hx)) p w1 (ws.drop 1)
    obtain ⟨hp, hk⟩ := hc c (List.mem_cons_self ..)
    rw [RP.placesQ, List.map_cons, RP.typesGo, hp, h1, h2]
    refine ⟨rfl, ?_⟩
    simp only [List.mem_cons, List.not_mem_nil, or_false] at hk
    rcases hk with rfl | rfl | rfl | rfl <;> rfl
theorem types_go {p : RP} (H : Pre p) {q : QP} (hq : q.locals = p.locQ) (w1 : B) (C : B) (hC : ∀ c ∈ C, isPl c = false ∧ c ∈ ([35, 98, 102, 118] : List UInt8)) (F : B) :
    ∀ (A : B) (_ : ∀ c ∈ A, c ∈ ([105, 111, 112] : List UInt8)) (ws : List B) (k : Nat) (_ : F.drop k = A ++ C) (_ : formedGo (A ++ C) ws = true) (_ : p.namesGo ((A ++ C).map letter) ws = true),
      p.typesGo w1 ((A ++ C).map letter) ws = q.fitsGo F (p.placesQ (A ++ C) ws) k
  | [], _, ws, k, _, _, _ => by
    obtain ⟨h1, h2⟩ := noPl C hC p w1 ws
    rw [List.nil_append, h1, h2]; rfl
  | c :: A, hA, ws, k, hF, hf, hn => by
    have hc := hA c (List.mem_cons_self ..)
    have hpl : isPl c = true := by
      simp only [List.mem_cons, List.not_mem_nil, or_false] at hc
      rcases hc with rfl | rfl | rfl <;> rfl
    have hlet : letter c = c := by
      simp only [List.mem_cons, List.not_mem_nil, or_false] at hc
      rcases hc with rfl | rfl | rfl <;> rfl
    rw [List.cons_append, formedGo, Bool.and_eq_true] at hf
    rw [List.cons_append, List.map_cons, RP.namesGo, Bool.and_eq_true, hlet] at hn
    have hfind : 0 ≤ p.find (localOf (word ws 0)) := RP.nameOk_find hn.1 (by
      simp only [List.mem_cons, List.not_mem_nil, or_false] at hc ⊢
      rcases hc with h | h | h <;> simp [h])
    have hFk : F.getD k 0 = c := by
      have : F[k]? = (F.drop k)[0]? := by simp
      rw [List.getD_eq_getElem?_getD, this, hF]; rfl
    have ih := types_go H hq w1 C hC F A (fun x hx => hA x (List.mem_cons_of_mem _ hx)) (ws.drop 1) (k + 1) (by rw [← List.drop_drop, hF]; rfl) hf.2 hn.2
    rw [List.cons_append, List.map_cons, RP.typesGo, RP.placesQ, hpl, if_pos rfl, QP.fitsGo, hFk, ih, hlet, typeOk_eq H hq hfind (formed_place hpl hf.1) hc]
    rfl
theorem wants_parts {op : Nat} (h : op < 23) (h2 : 2 ≤ op) (h12 : ¬ op = 12) (h15 : ¬ op = 15) :
    (∀ c ∈ (wantsOf op).takeWhile isPl, c ∈ ([105, 111, 112] : List UInt8)) ∧ (∀ c ∈ (wantsOf op).dropWhile isPl, isPl c = false ∧ c ∈ ([35, 98, 102, 118] : List UInt8)) := by
  have : ∀ op : Fin 23, 2 ≤ op.val → ¬ op.val = 12 → ¬ op.val = 15 →
    (∀ c ∈ (wantsOf op.val).takeWhile isPl, c ∈ ([105, 111, 112] : List UInt8)) ∧ (∀ c ∈ (wantsOf op.val).dropWhile isPl, isPl c = false ∧ c ∈ ([35, 98, 102, 118] : List UInt8)) := by decide
  exact this ⟨op, h⟩ h2 h12 h15
theorem qline_parts {p : RP} (H : Pre p) {j : Nat} (hj : j < p.lines.length) (hp : p.plain j = true) (hn : p.names j = true) : ∃ op, opIdx (word (p.line j) 0) = some op ∧ op < 23 ∧ 2 ≤ op ∧ (p.qline j).op = op ∧ (p.qline j).num = j ∧
    (p.qline j).places = p.placesQ (wantsOf op) ((p.line j).drop 1) ∧ (p.qline j).next = nextQ (wantsOf op) ((p.line j).drop 1) ∧ formedGo (wantsOf op) ((p.line j).drop 1) = true ∧ (behind (word (p.line j) 0) p.raw).1 = behindOf op ∧
    p.namesGo (behindOf op) ((p.line j).drop 1) = true := by
  obtain ⟨op, ho, hl, h⟩ := line_op H hj
  obtain ⟨h2, hf, hb, -⟩ := h hp
  have hs : p.sent j = (op, (p.line j).drop 1) := by rw [RP.sent, ho]; rfl
  have hsome := line_names H hj hp
  rw [hn] at hsome
  obtain ⟨l, hlp⟩ := Option.isSome_iff_exists.mp hsome
  have hq : p.qline j = { l with num := j } := by rw [RP.qline, hlp]; rfl
  rw [hs, lineP] at hlp
  obtain ⟨a, b, c, -⟩ := lineGo_some _ (wants_kinds hl h2) _ hf _ _ hlp
  have hlet : ¬ word (p.line j) 0 = wLet := by
    simp only [RP.plain, isLet, Bool.and_eq_true, Bool.not_eq_true', beq_eq_false_iff_ne, ne_eq] at hp; exact hp.1
  have hng := RP.names_go hn hlet
  rw [hb] at hng
  refine ⟨op, ho, hl, h2, by rw [hq]; exact a, by rw [hq], ?_, ?_, hf, hb, hng⟩
  · rw [hq]; simpa using b
  · rw [hq]; simpa using c
theorem line_types {p : RP} (H : Pre p) {q : QP} (hq : q.locals = p.locQ) {j : Nat} (hj : j < p.lines.length) (hp : p.plain j = true) (hn : p.names j = true) : q.fits (p.qline j) = p.types j := by
  obtain ⟨op, ho, hl, h2, hop, -, hpl, -, hf, hb, hng⟩ := qline_parts H hj hp hn
  rw [QP.fits, hop, hpl, RP.types, hb]
  generalize hW : (p.line j).drop 1 = ws at hf hng ⊢
  by_cases h12 : op = 12
  · subst h12
    have hwa : wantsOf 12 = [109, 109] := rfl
    have hbe : behindOf 12 = [109, 109] := rfl
    rw [hbe] at hng ⊢
    rw [hwa] at hf ⊢
    simp only [formedGo, Bool.and_eq_true, Bool.and_true] at hf
    simp only [RP.namesGo, Bool.and_eq_true, Bool.and_true] at hng
    have f1 := RP.nameOk_find hng.1 (by simp)
    have f2 := RP.nameOk_find hng.2 (by simp)
    have p1 := formed_place (c := 109) rfl hf.1
    have p2 := formed_place (c := 109) rfl hf.2
    have w1 : word (p.line j) 1 = word ws 0 := by rw [← hW]; simp [word]
    simp only [RP.typesGo, RP.placesQ, Bool.and_true, w1]
    have e1 : isPl 109 = true := rfl
    simp only [e1, if_true, QP.fitsGo, Bool.and_true, List.getD_cons_zero, List.getD_cons_succ]
    by_cases hk : q.okPlace (p.plQ (word ws 0)) 109 = true
    · rw [typeOk_move H hq f1 p1 f1 p1 hk, typeOk_move H hq f2 p2 f1 p1 hk]
      have hk' : q.okPlace ((p.find (localOf (word ws 0))).toNat, pidx (partOf (word ws 0))) 109 = true := hk
      rw [hk, hk']
      simp [RP.plQ]
    · rw [Bool.not_eq_true] at hk
      have : p.typeOk 109 (word ws 0) (word ws 0) = false := by
        rcases kind_eq H hq f1 p1 with ⟨g1, g2⟩ | ⟨t, ht, g1, g2, g3⟩
        · rw [RP.typeOk, g2]; rfl
        · rw [RP.plQ, QP.okPlace, g1] at hk
          have ht0 : t = 0 := by
            have hk' : (!(t == 0)) = false := hk
            simpa using hk'
          rw [RP.typeOk, g2, ht0]; rfl
      rw [hk, this]; simp
  · by_cases h15 : op = 15
    · subst h15
      have hwa : wantsOf 15 = [109] := rfl
      have hbe : behindOf 15 = [100] := rfl
      rw [hbe] at hng ⊢
      rw [hwa] at hf ⊢
      simp only [formedGo, Bool.and_true] at hf
      simp only [RP.namesGo, Bool.and_true] at hng
      have f1 := RP.nameOk_find hng (by simp)
      have p1 := formed_place (c := 109) rfl hf
      simp only [RP.typesGo, Bool.and_true, RP.placesQ]
      rw [typeOk_drop H hq f1 p1]
      have e1 : isPl 109 = true := rfl
      simp [e1, QP.fitsGo, RP.plQ]
    · have hbe : behindOf op = (wantsOf op).map letter := by rw [behindOf, if_neg h15]
      rw [hbe] at hng ⊢
      obtain ⟨hA, hC⟩ := wants_parts hl h2 h12 h15
      have hsp : (wantsOf op).takeWhile isPl ++ (wantsOf op).dropWhile isPl = wantsOf op := List.takeWhile_append_dropWhile
      have := types_go H hq (word (p.line j) 1) _ hC (wantsOf op) _ hA ws 0 (by rw [List.drop_zero, hsp]) (by rw [hsp]; exact hf) (by rw [hsp]; exact hng)
      rw [hsp] at this
      rw [this]
      have : (op == 12) = false := by simp [h12]
      rw [this]; simp
/-- the types of all lines, both ways -/
theorem types_all {p : RP} (H : Pre p) {q : QP} (R : LR p q p.lines.length) (hn : ∀ j, j < p.lines.length → p.names j = true) : q.misfit = firstNot p.typesOk p.lines.length 0 := by
  have hlocal : q.locals = p.locQ := by
    rw [R.locals, RP.locQ, List.filter_eq_self.mpr]
    intro t ht
    rw [H.lets] at ht
    simp [(mem_whichAre ht).1]
  have key : ∀ (m k : Nat), k + m = p.lines.length → (((((List.range p.lines.length).drop k).filter p.plain).map p.qline).find? fun l => !q.fits l).map (·.num) = firstNot p.typesOk m k := by
    intro m
    induction m with
    | zero => intro k hk; rw [List.drop_eq_nil_of_le (by simp; omega)]; rfl
    | succ m ih =>
      intro k hk
      have hkl : k < p.lines.length := by omega
      rw [List.drop_eq_getElem_cons (by simpa using hkl), List.getElem_range, List.filter_cons, firstNot]
      cases hp : p.plain k
      · have hto : p.typesOk k = true := by
          simp only [RP.plain, isLet, isBlock, Bool.and_eq_false_iff, Bool.not_eq_false'] at hp
          rw [RP.typesOk]
          rcases hp with h | h <;> simp [h]
        rw [if_neg (by simp), hto, if_pos rfl]
        exact ih (k + 1) (by omega)
      · have hto : p.typesOk k = p.types k := by
          simp only [RP.plain, isLet, isBlock, Bool.and_eq_true, Bool.not_eq_true'] at hp
          rw [RP.typesOk, hp.1, hp.2]; rfl
        have hf := line_types H hlocal hkl hp (hn k hkl)
        rw [if_pos rfl, List.map_cons, List.find?_cons, hto, hf]
        cases ht : p.types k
        · simp [RP.qline]
        · simpa using ih (k + 1) (by omega)
  rw [QP.misfit, R.flat]
  have := key p.lines.length 0 (by omega)
  rw [List.drop_zero] at this
  exact this

/-- the whole of the project's reader -/
def prjRead (text : B) (raw : Bool) : Option QP × Nat × Nat :=
  if (split 10 text).length > (if raw then 4000 else 120) then (none, 1, 0)
  else match (splitGo raw (wordsOf text) ⟨0, 0, 0⟩ 0).2.2 with
    | some k => (none, 2, k)
    | none =>
      if ¬ (splitGo raw (wordsOf text) ⟨0, 0, 0⟩ 0).2.1.sec = 2 then (none, 2, (split 10 text).length)
      else match (lookGo (countB (splitGo raw (wordsOf text) ⟨0, 0, 0⟩ 0).1) (splitGo raw (wordsOf text) ⟨0, 0, 0⟩ 0).1 0 QP.empty).2 with
        | some k => (none, 3, k)
        | none => match (lookGo (countB (splitGo raw (wordsOf text) ⟨0, 0, 0⟩ 0).1) (splitGo raw (wordsOf text) ⟨0, 0, 0⟩ 0).1 0 QP.empty).1.misfit with
          | some k => (none, 4, k)
          | none => (some (lookGo (countB (splitGo raw (wordsOf text) ⟨0, 0, 0⟩ 0).1) (splitGo raw (wordsOf text) ⟨0, 0, 0⟩ 0).1 0 QP.empty).1, 0, 0)
/-- both readers are one: the same error, the same line; and where there is none the one's program is made of the other's -/
theorem read_same (text : B) (raw : Bool) : (prjRead text raw).2 = (refRead text raw).2 ∧ ∀ q, (prjRead text raw).1 = some q → ∃ p, (refRead text raw).1 = some p ∧ LR p q p.lines.length := by
  by_cases hlong : (split 10 text).length > (if raw then 4000 else 120)
  · have h' : 4000 < (split 10 text).length ∨ (raw = false ∧ 120 < (split 10 text).length) := by
      cases raw
      · exact .inr ⟨rfl, by simpa using hlong⟩
      · exact .inl (by simpa using hlong)
    rw [prjRead, if_pos hlong, refRead, if_pos h']
    exact ⟨rfl, fun q h => by cases h⟩
  · have h' : ¬ (4000 < (split 10 text).length ∨ (raw = false ∧ 120 < (split 10 text).length)) := by
      cases raw
      · simp at hlong ⊢; omega
      · simp at hlong ⊢; omega
    obtain ⟨hs, hn⟩ := split_read raw (wordsOf text) (Spec.start raw) ⟨0, 0, 0⟩ rfl (OrdRel.start raw) (by simp) (fun ws hw => by
      simp only [wordsOf, List.mem_map] at hw
      obtain ⟨a, -, rfl⟩ := hw
      exact one_le_split _ _)
    have hl0 : (Spec.start raw).lines.length = 0 := rfl
    rw [hl0] at hs hn
    rw [prjRead, if_neg hlong, refRead, if_neg h']
    cases hsp : (splitGo raw (wordsOf text) ⟨0, 0, 0⟩ 0).2.2 with
    | some k =>
      obtain ⟨q, hq⟩ := hs k hsp
      rw [hq]
      exact ⟨rfl, fun q h => by cases h⟩
    | none =>
      obtain ⟨p, hp, R, hsec, hsents⟩ := hn hsp
      rw [hp]
      obtain ⟨H, hraw, hlines⟩ := Pre.read (wordsOf text) (Spec.start raw) p (Pre.start raw) hp
      have hlines' : p.lines = wordsOf text := by rw [hlines]; rfl
      have hlen : p.lines.length = (split 10 text).length := by rw [hlines', wordsOf_length]
      have hR1 := R.inb
      have hR2 := R.outb
      simp only
      rw [hlen] at hR1
      by_cases hd : (splitGo raw (wordsOf text) ⟨0, 0, 0⟩ 0).2.1.sec = 2
      · have hx : ¬ (p.inside (split 10 text).length = true ∨ p.blocks.length = 0) := by
          rintro (h | h)
          · have := hR1.mpr h; omega
          · have := hR2.mpr h; omega
        rw [if_neg (by simp [hd]), if_neg hx]
        have hS : (splitGo raw (wordsOf text) ⟨0, 0, 0⟩ 0).1 = (List.range p.lines.length).map p.sent := by
          rw [hsents]
          apply List.ext_getElem
          · simp [hlines']
          · intro i h1 h2
            simp only [List.length_map] at h1
            rw [List.getElem_map, List.getElem_map, List.getElem_range, RP.sent]
            have : p.line i = (wordsOf text)[i] := by rw [RP.line, hlines', List.getD_eq_getElem?_getD, List.getElem?_eq_getElem h1]; rfl
            rw [this]
        have hcount : countB (splitGo raw (wordsOf text) ⟨0, 0, 0⟩ 0).1 = p.blocks.length := by
          rw [hS, countB, H.blocks, RP.whichAre, List.filter_map, List.length_map]
          congr 1
          apply List.filter_congr
          intro j hj
          have hj' : j < p.lines.length := by simpa using hj
          obtain ⟨op, ho, -, -⟩ := line_op H hj'
          have hb := block_op ho
          simp only [Function.comp, RP.sent, ho, Option.getD_some]
          rw [Bool.eq_iff_iff]
          simp only [beq_iff_eq, isBlock]
          exact hb.symm
        have hlook := look_names H p.lines.length 0 QP.empty (by omega) (LR.start p)
        rw [List.drop_zero] at hlook
        rw [hcount, hS, hlook.1, hlen]
        cases hfn : firstNot p.names (split 10 text).length 0 with
        | some k => exact ⟨rfl, fun q h => by cases h⟩
        | none =>
          have hR := hlook.2 (by rw [hlen]; exact hfn)
          have hnames : ∀ j, j < p.lines.length → p.names j = true := fun j hj => firstNot_none p.names _ 0 hfn j (by omega) (by omega)
          have hty := types_all H hR hnames
          simp only
          rw [hlen] at hty
          rw [← hlen] at hty ⊢
          rw [hty]
          cases firstNot p.typesOk p.lines.length 0 with
          | some k => exact ⟨rfl, fun q h => by cases h⟩
          | none => exact ⟨rfl, fun q h => by cases h; exact ⟨p, rfl, hR⟩⟩
      · have hx : p.inside (split 10 text).length = true ∨ p.blocks.length = 0 := by
          rcases Nat.lt_or_ge (splitGo raw (wordsOf text) ⟨0, 0, 0⟩ 0).2.1.sec 1 with h | h
          · exact .inr (hR2.mp (by omega))
          · exact .inl (hR1.mp (by omega))
        rw [if_pos hd, if_pos hx]
        exact ⟨rfl, fun q h => by cases h⟩
end Go.Proofs.YtmlgajhhnojdjaaGreatDoor.Spec
/- What the project's reader answers on single words: which line's word it is, which type's. -/
namespace Go.Proofs.YtmlgajhhnojdjaaGreatDoor.PrjF
open Go Go.RowKit Go.Proofs.YtmlgajhhnojdjaaGreatDoor.Spec

/-- the two tables of the project, as they lie in memory -/
def shapeCells : List Value := shapeTab.flatMap fun x => [.string (bs x.1), .string (bs x.2)]
def typeCells : List Value := typeTab.map fun x => .string (bs x)
def HasShapes (w : World) : Prop := w.rangeAt 0 0 shapeCells
def HasTypes (w : World) : Prop := w.rangeAt 1 0 typeCells
theorem info_shapes : (Tryz.prog.info? 148).map (·.size) = some shapeCells.length := by kernel_rfl
theorem info_types : (Tryz.prog.info? 149).map (·.size) = some typeCells.length := by kernel_rfl
theorem loadVar_shapes (w : World) (h : HasShapes w) : (loadVar 148 ⟨0, 0, none⟩).run Tryz.prog w = .ok (.agg shapeCells.toArray) w :=
  run_loadVar_mid w 0 0 148 shapeCells _ h Tryz.underlying148 rfl info_shapes
theorem loadVar_types (w : World) (h : HasTypes w) : (loadVar 149 ⟨1, 0, none⟩).run Tryz.prog w = .ok (.agg typeCells.toArray) w :=
  run_loadVar_mid w 1 0 149 typeCells _ h Tryz.underlying149 rfl info_types
section
variable (d : Option Tmp) (t : TypeId) (ps : String) (af : Array Edge) (g : Option (Nat × Bool)) (a : Act) (w : World) (K : Act → World → Prop) (Q : Exit → Act → World → Prop)
theorem wp_load_shapes (h : HasShapes w) : Oper.wp Tryz.prog { dst := d, op := Op.load 148 (Operand.global 0), type := t, pos := ps, after := af, guard := g } a w K Q = K (a.put d (.agg shapeCells.toArray)) w := by
  have := loadVar_shapes w h
  have he : a.eval (Operand.global 0) = .pointer (some ⟨0, 0, none⟩) := rfl
  unfold Oper.wp execOp
  simp only [he, Instr.loadAt, Instr.sureAddr, Sem.run_bind, Sem.run_pure, Result.andThen_ok, this]
  rfl
theorem wp_load_types (h : HasTypes w) : Oper.wp Tryz.prog { dst := d, op := Op.load 149 (Operand.global 1), type := t, pos := ps, after := af, guard := g } a w K Q = K (a.put d (.agg typeCells.toArray)) w := by
  have := loadVar_types w h
  have he : a.eval (Operand.global 1) = .pointer (some ⟨1, 0, none⟩) := rfl
  unfold Oper.wp execOp
  simp only [he, Instr.loadAt, Instr.sureAddr, Sem.run_bind, Sem.run_pure, Result.andThen_ok, this]
  rfl
end
theorem index_shapes (k : Nat) (hk : k < 23) (w : World) : Sem.run Tryz.prog (Instr.index 148 (.agg shapeCells.toArray) (.int .i64 k)) w = .ok (.agg #[.string (bs (opWord k)), .string (bs (wantsOf k))]) w := by
  have h : k = 0 ∨ k = 1 ∨ k = 2 ∨ k = 3 ∨ k = 4 ∨ k = 5 ∨ k = 6 ∨ k = 7 ∨ k = 8 ∨ k = 9 ∨ k = 10 ∨ k = 11 ∨ k = 12 ∨ k = 13 ∨ k = 14 ∨ k = 15 ∨ k = 16 ∨ k = 17 ∨ k = 18 ∨ k = 19 ∨ k = 20 ∨ k = 21 ∨ k = 22 := by omega
  rcases h with rfl | rfl | rfl | rfl | rfl | rfl | rfl | rfl | rfl | rfl | rfl | rfl | rfl | rfl | rfl | rfl | rfl | rfl | rfl | rfl | rfl | rfl | rfl <;> (refine Eq.trans ?_ rfl; kernel_rfl)
theorem index_types (k : Nat) (hk : k < 4) (w : World) : Sem.run Tryz.prog (Instr.index 149 (.agg typeCells.toArray) (.int .i64 k)) w = .ok (.string (bs (kindWord k))) w := by
  have h : k = 0 ∨ k = 1 ∨ k = 2 ∨ k = 3 := by omega
  rcases h with rfl | rfl | rfl | rfl <;> (refine Eq.trans ?_ rfl; kernel_rfl)
theorem idx_step (tab : List B) (l : B) (k : Nat) (hk : k < tab.length) : idxGo (tab.drop k) l k = if tab.getD k [] = l then some k else idxGo (tab.drop (k + 1)) l (k + 1) := by
  rw [List.drop_eq_getElem_cons hk, idxGo, List.getD_eq_getElem?_getD, List.getElem?_eq_getElem hk]; rfl
attribute [local go_sem ↓] wp_load_shapes wp_load_types

set_option maxRecDepth 20000 in
theorem opOf_any (l : B) (w : World) (hs : HasShapes w) :
    Calls Tryz.prog 196 #[.string (bs l)] w fun e w' => e = .returned (.tuple #[.int .i64 ((opIdx l).getD 0 : Nat), .bool (opIdx l).isSome]) ∧ Below w.heap.size w w' := by
  have ht := toList_bs l
  go_enter Tryz.func196, Tryz.ntmps196
  go_wp2
  go_loopw [7] (fun i wr => ∃ k : Nat, k ≤ 23 ∧ i = .int .i64 k ∧ Hid (opIdx l = idxGo ((shapeTab.map (·.1)).drop k) l k) ∧ Below w.heap.size w wr) (fun i _ => 23 - (intOf i).toNat)
  case atStart => exact ⟨0, by omega, rfl, rfl, Below.refl _ _⟩
  case round =>
    obtain ⟨k, hk, rfl, HI, hb⟩ := hrel
    by_cases hlt : k < 23
    · have hix := index_shapes k hlt wr
      have HS : Hid (_ = _) := idx_step (shapeTab.map (·.1)) l k hlt
      have hg : Hid ((shapeTab.map (·.1)).getD k [] = opWord k) := by
        unfold Hid opWord
        have hl : k < shapeTab.length := hlt
        simp [List.getD_eq_getElem?_getD, hl]
      have ht2 := toList_bs (opWord k)
      by_cases hq : opWord k = l
      · have hqb : (opWord k == l) = true := by simp [hq]
        have HQ : Hid (opWord k = l) := hq
        clear hq
        go_wp2
        go_ret2
        have e : opIdx l = some k := by rw [HI.out, HS.out, if_pos (by rw [hg.out]; exact HQ.out)]
        exact ⟨by rw [e]; rfl, hb.alloc hb.size _⟩
      · have hqb : (opWord k == l) = false := by simp [hq]
        have HQ : Hid (¬ opWord k = l) := hq
        clear hq
        go_wp2
        go_roundw
        case rel => exact ⟨k + 1, by omega, by go_num, by unfold Hid; rw [HI.out, HS.out, if_neg (by rw [hg.out]; exact HQ.out)], hb.alloc hb.size _⟩
        case measure => simp [intOf]; omega
    · obtain rfl : k = 23 := by omega
      go_wp2
      go_ret2
      have e : opIdx l = none := by rw [HI.out]; rfl
      exact ⟨by rw [e]; rfl, hb⟩
set_option maxRecDepth 20000 in
theorem typeOf_any (l : B) (w : World) (hs : HasTypes w) :
    Calls Tryz.prog 169 #[.string (bs l)] w fun e w' => e = .returned (.tuple #[.int .i64 ((tyIdx l).getD 0 : Nat), .bool (tyIdx l).isSome]) ∧ Below w.heap.size w w' := by
  have ht := toList_bs l
  go_enter Tryz.func169, Tryz.ntmps169
  go_wp2
  go_loopw [7] (fun i wr => ∃ k : Nat, k ≤ 4 ∧ i = .int .i64 k ∧ Hid (tyIdx l = idxGo (typeTab.drop k) l k) ∧ Below w.heap.size w wr) (fun i _ => 4 - (intOf i).toNat)
  case atStart => exact ⟨0, by omega, rfl, rfl, Below.refl _ _⟩
  case round =>
    obtain ⟨k, hk, rfl, HI, hb⟩ := hrel
    by_cases hlt : k < 4
    · have hix := index_types k hlt wr
      have HS : Hid (_ = _) := idx_step typeTab l k hlt
      have hg : Hid (typeTab.getD k [] = kindWord k) := rfl
      have ht2 := toList_bs (kindWord k)
      by_cases hq : kindWord k = l
      · have hqb : (kindWord k == l) = true := by simp [hq]
        have HQ : Hid (kindWord k = l) := hq
        clear hq
        go_wp2
        go_ret2
        have e : tyIdx l = some k := by rw [HI.out, HS.out, if_pos (by rw [hg.out]; exact HQ.out)]
        exact ⟨by rw [e]; rfl, hb⟩
      · have hqb : (kindWord k == l) = false := by simp [hq]
        have HQ : Hid (¬ kindWord k = l) := hq
        clear hq
        go_wp2
        go_roundw
        case rel => exact ⟨k + 1, by omega, by go_num, by unfold Hid; rw [HI.out, HS.out, if_neg (by rw [hg.out]; exact HQ.out)], hb⟩
        case measure => simp [intOf]; omega
    · obtain rfl : k = 4 := by omega
      go_wp2
      go_ret2
      have e : tyIdx l = none := by rw [HI.out]; rfl
      exact ⟨by rw [e]; rfl, hb⟩
end Go.Proofs.YtmlgajhhnojdjaaGreatDoor.PrjF
