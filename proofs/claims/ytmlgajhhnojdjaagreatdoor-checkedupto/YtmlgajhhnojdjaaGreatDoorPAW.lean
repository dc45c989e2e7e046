/- A drawn region of the document's own Use, by itself: what a line needs is asked once more. -/
import Derived.Test.YtmlgajhhnojdjaaGreatDoorPAV
import Derived.Test.YtmlgajhhnojdjaaGreatDoorPAU
namespace Go.Proofs.YtmlgajhhnojdjaaGreatDoor.RefZeR
open Go.RowKit Go.Proofs.YtmlgajhhnojdjaaGreatDoor.Spec Go.Proofs.YtmlgajhhnojdjaaGreatDoor.RefA Go.Proofs.YtmlgajhhnojdjaaGreatDoor.RefR Go.Proofs.YtmlgajhhnojdjaaGreatDoor.RefT Go.Proofs.YtmlgajhhnojdjaaGreatDoor.RefU Go.Proofs.YtmlgajhhnojdjaaGreatDoor.RefZc Go.Proofs.YtmlgajhhnojdjaaGreatDoor.RefZd Go.Proofs.YtmlgajhhnojdjaaGreatDoor.Aux
attribute [local go_sem ↓] wp_load_in wp_store_in
attribute [local go_sem] has_new

/-- a region of a function's text, by its number -/
def findRegion (n : Nat) : Code → Option Code
  | .region k ops d => if k = n then some (.region k ops d) else none
  | .seq a b => match findRegion n a with
    | some c => some c
    | none => findRegion n b
  | .block _ c => findRegion n c
  | .loop c => findRegion n c
  | .scope c => findRegion n c
  | .cond _ a b => match findRegion n a with
    | some c => some c
    | none => findRegion n b
  | _ => none
noncomputable def code38 : Code := ((Tryz.f52.body.bind (findRegion 38)).getD .skip)
theorem new_at (w : World) : WayAt (w.alloc (.cells #[.bool false, .string ⟨#[]⟩, .string ⟨#[]⟩, .string ⟨#[]⟩, .string ⟨#[]⟩, .string ⟨#[]⟩, .string ⟨#[]⟩, .string ⟨#[]⟩, .string ⟨#[]⟩, .string ⟨#[]⟩, .string ⟨#[]⟩, .string ⟨#[]⟩, .string ⟨#[]⟩, .string ⟨#[]⟩, .string ⟨#[]⟩, .string ⟨#[]⟩, .string ⟨#[]⟩, .string ⟨#[]⟩, .string ⟨#[]⟩, .string ⟨#[]⟩, .string ⟨#[]⟩, .string ⟨#[]⟩, .string ⟨#[]⟩, .string ⟨#[]⟩, .string ⟨#[]⟩] 155)).drew w.heap.size zeroWS := WayAt.new w zeroWS
theorem below_one {B : Nat} {w0 w : World} (h : Below B w0 w) (hB : B ≤ w.heap.size) : Below B w0 (w.alloc (.cells #[.bool false, .string ⟨#[]⟩, .string ⟨#[]⟩, .string ⟨#[]⟩, .string ⟨#[]⟩, .string ⟨#[]⟩, .string ⟨#[]⟩, .string ⟨#[]⟩, .string ⟨#[]⟩, .string ⟨#[]⟩, .string ⟨#[]⟩, .string ⟨#[]⟩, .string ⟨#[]⟩, .string ⟨#[]⟩, .string ⟨#[]⟩, .string ⟨#[]⟩, .string ⟨#[]⟩, .string ⟨#[]⟩, .string ⟨#[]⟩, .string ⟨#[]⟩, .string ⟨#[]⟩, .string ⟨#[]⟩, .string ⟨#[]⟩, .string ⟨#[]⟩, .string ⟨#[]⟩] 155)).drew := below_drewN (h.alloc hB _) 1

set_option maxRecDepth 100000 in
set_option maxHeartbeats 8000000 in
theorem reg38 (a G n i g0 cap0 gl capl m : Nat) (t : WS × Bool) (s : WS) (L : List WS) (wr : World) (K : Act → World → Prop) (K1 K2 K3 : Act → World → Prop) (P : Ending → World → Prop) {u1 u2 u4 u5 u6 u7 u8 u9 u10 u11 u12 u13 u14 u15 u16 u17 u18 u19 u21 u22 u23 u24 u25 u26 u27 u28 u29 u30 u31 u32 u33 u34 u35 u36 u37 u38 u39 u40 u41 u42 u43 u44 u45 u46 u47 u48 u49 u50 u51 u52 u53 u54 u55 u56 u57 u58 u59 u60 u61 u62 u63 u64 u65 u66 u67 u68 u69 u70 u71 u72 u73 u74 u75 u76 u77 u78 u79 u80 u81 u82 u83 u84 u85 u86 u87 u88 u89 u90 u91 u92 u93 u94 u95 u96 u97 u98 u99 u100 u101 u102 u103 u104 u105 u106 u107 u108 u109 u110 u111 u112 u113 u114 u115 u116 u117 u118 u119 u120 u121 u122 u123 u124 u125 u126 u127 u128 u129 u130 u131 u132 u133 u134 u135 u136 u137 u138 u139 u140 u141 u142 u143 u144 u145 u146 u147 u148 u149 u150 u151 u152 u153 u154 u155 u156 u157 u158 u159 u160 u161 u162 u163 u164 u165 u166 u167 u168 u169 u170 u171 u172 u173 u174 u175 u176 u177 u178 u179 u180 u181 u182 u183 u184 u185 u186 u187 u188 u189 u190 u191 u192 u193 u194 u195 u196 u197 u198 u199 u200 u201 u202 u203 u204 u205 u206 u207 u208 u209 u210 u211 u212 u213 u214 u215 u216 u217 u218 u219 : Value}
    (hin : i < n) (hiL : i < L.length) (hO : RowsOk L) (hs : lw L i = s) (hF : t.1.Few) (hR : RowAt wr G L)
    (hall : ∀ W, Below wr.heap.size wr W → W.cell? ⟨a, 0, none⟩ = some (.slice (some ⟨g0, 0, none⟩) n cap0))
    (hline : ∀ W, Below wr.heap.size wr W → W.cell? ⟨g0, i, none⟩ = some (.slice (some ⟨gl, 0, none⟩) m capl))

    (HST : ∀ W, Below wr.heap.size wr W → Calls Tryz.prog 84 #[.pointer (some ⟨a, 0, none⟩), .slice (some ⟨gl, 0, none⟩) m capl, .agg s.cells.toArray] W fun e w' => e = .returned (.tuple #[.agg t.1.cells.toArray, .bool t.2]) ∧ Below W.heap.size W w')
    (hK : ∀ (x194 x195 x196 x197 x198 x199 x200 x201 x202 x203 x204 x205 x206 x207 x208 x209 x21 : Value) (w' : World), RowAt w' G L → Below wr.heap.size wr w' → K ⟨(List.toArray ((.pointer (some ⟨a, 0, none⟩)) :: u1 :: u2 :: (.slice (some ⟨G, 0, none⟩) n n) :: u4 :: u5 :: u6 :: u7 :: u8 :: u9 :: u10 :: u11 :: u12 :: u13 :: u14 :: u15 :: u16 :: u17 :: u18 :: u19 :: (.int .i64 i) :: x21 :: (.bool t.2) :: u23 :: u24 :: u25 :: u26 :: u27 :: u28 :: u29 :: u30 :: u31 :: u32 :: u33 :: u34 :: u35 :: u36 :: u37 :: u38 :: u39 :: u40 :: u41 :: u42 :: u43 :: u44 :: u45 :: u46 :: u47 :: u48 :: u49 :: u50 :: u51 :: u52 :: u53 :: u54 :: u55 :: u56 :: u57 :: u58 :: u59 :: u60 :: u61 :: u62 :: u63 :: u64 :: u65 :: u66 :: u67 :: u68 :: u69 :: u70 :: u71 :: u72 :: u73 :: u74 :: u75 :: u76 :: u77 :: u78 :: u79 :: u80 :: u81 :: u82 :: u83 :: u84 :: u85 :: u86 :: u87 :: u88 :: u89 :: u90 :: u91 :: u92 :: u93 :: u94 :: u95 :: u96 :: u97 :: u98 :: u99 :: u100 :: u101 :: u102 :: u103 :: u104 :: u105 :: u106 :: u107 :: u108 :: u109 :: u110 :: u111 :: u112 :: u113 :: u114 :: u115 :: u116 :: u117 :: u118 :: u119 :: u120 :: u121 :: u122 :: u123 :: u124 :: u125 :: u126 :: u127 :: u128 :: u129 :: u130 :: u131 :: u132 :: u133 :: u134 :: u135 :: u136 :: u137 :: u138 :: u139 :: u140 :: u141 :: u142 :: u143 :: u144 :: u145 :: u146 :: u147 :: u148 :: u149 :: u150 :: u151 :: u152 :: u153 :: u154 :: u155 :: u156 :: u157 :: u158 :: u159 :: u160 :: u161 :: u162 :: u163 :: u164 :: u165 :: u166 :: u167 :: u168 :: u169 :: u170 :: u171 :: u172 :: u173 :: u174 :: u175 :: u176 :: u177 :: u178 :: u179 :: u180 :: u181 :: u182 :: u183 :: u184 :: u185 :: u186 :: u187 :: u188 :: u189 :: u190 :: u191 :: u192 :: u193 :: x194 :: x195 :: x196 :: x197 :: x198 :: x199 :: x200 :: x201 :: x202 :: x203 :: x204 :: x205 :: x206 :: x207 :: x208 :: x209 :: u210 :: u211 :: u212 :: u213 :: u214 :: u215 :: u216 :: u217 :: u218 :: u219 :: [])), []⟩ w') :
    Code.wp Tryz.prog code38 (Exit.then K (Exit.inBlock 9 (Exit.then K1 (Exit.then K2 (Exit.inBlock 8 (Exit.then K3 (bodyPost Tryz.prog Tryz.f52 P))))))) ⟨(List.toArray ((.pointer (some ⟨a, 0, none⟩)) :: u1 :: u2 :: (.slice (some ⟨G, 0, none⟩) n n) :: u4 :: u5 :: u6 :: u7 :: u8 :: u9 :: u10 :: u11 :: u12 :: u13 :: u14 :: u15 :: u16 :: u17 :: u18 :: u19 :: (.int .i64 i) :: u21 :: u22 :: u23 :: u24 :: u25 :: u26 :: u27 :: u28 :: u29 :: u30 :: u31 :: u32 :: u33 :: u34 :: u35 :: u36 :: u37 :: u38 :: u39 :: u40 :: u41 :: u42 :: u43 :: u44 :: u45 :: u46 :: u47 :: u48 :: u49 :: u50 :: u51 :: u52 :: u53 :: u54 :: u55 :: u56 :: u57 :: u58 :: u59 :: u60 :: u61 :: u62 :: u63 :: u64 :: u65 :: u66 :: u67 :: u68 :: u69 :: u70 :: u71 :: u72 :: u73 :: u74 :: u75 :: u76 :: u77 :: u78 :: u79 :: u80 :: u81 :: u82 :: u83 :: u84 :: u85 :: u86 :: u87 :: u88 :: u89 :: u90 :: u91 :: u92 :: u93 :: u94 :: u95 :: u96 :: u97 :: u98 :: u99 :: u100 :: u101 :: u102 :: u103 :: u104 :: u105 :: u106 :: u107 :: u108 :: u109 :: u110 :: u111 :: u112 :: u113 :: u114 :: u115 :: u116 :: u117 :: u118 :: u119 :: u120 :: u121 :: u122 :: u123 :: u124 :: u125 :: u126 :: u127 :: u128 :: u129 :: u130 :: u131 :: u132 :: u133 :: u134 :: u135 :: u136 :: u137 :: u138 :: u139 :: u140 :: u141 :: u142 :: u143 :: u144 :: u145 :: u146 :: u147 :: u148 :: u149 :: u150 :: u151 :: u152 :: u153 :: u154 :: u155 :: u156 :: u157 :: u158 :: u159 :: u160 :: u161 :: u162 :: u163 :: u164 :: u165 :: u166 :: u167 :: u168 :: u169 :: u170 :: u171 :: u172 :: u173 :: u174 :: u175 :: u176 :: u177 :: u178 :: u179 :: u180 :: u181 :: u182 :: u183 :: u184 :: u185 :: u186 :: u187 :: u188 :: u189 :: u190 :: u191 :: u192 :: u193 :: u194 :: u195 :: u196 :: u197 :: u198 :: u199 :: u200 :: u201 :: u202 :: u203 :: u204 :: u205 :: u206 :: u207 :: u208 :: u209 :: u210 :: u211 :: u212 :: u213 :: u214 :: u215 :: u216 :: u217 :: u218 :: u219 :: [])), []⟩ wr := by
  subst hs
  have hltI : (i : Int) < n := by omega
  have hi1 : IsWays t.1.cells.toArray := ⟨_, hF.ok, rfl⟩
  have hRd : RowAt wr.drew G L := hR
  have hc0 := hall wr (Below.refl _ _)
  have hcl := hline wr (Below.refl _ _)
  have hz0 := new_at wr
  have hb0 := below_one (Below.refl wr.heap.size wr) (Nat.le_refl _)
  have hbd : Below wr.heap.size wr wr.drew := below_drewN (Below.refl _ _) 1
  have hh := hRd.hasAt hO i hiL
  have hv := hRd.waysIn hO i hiL
  have hh2 := (hR.below hb0).hasAt hO i hiL
  have hv2 := (hR.below hb0).waysIn hO i hiL
  have hcA : ∀ o, (wr.alloc o).cell? ⟨a, 0, none⟩ = some (.slice (some ⟨g0, 0, none⟩) n cap0) := fun o => hall _ (below_alloc wr o)
  have hclA : ∀ o, (wr.alloc o).cell? ⟨g0, i, none⟩ = some (.slice (some ⟨gl, 0, none⟩) m capl) := fun o => hline _ (below_alloc wr o)
  have HSA := HST _ hb0
  have HSB := HST _ hbd
  conv => arg 2; whnf
  go_region_law (first
    | (go_simp; go_at_call 84; refine HSA.mono ?_; rintro e w1 ⟨rfl, hb1⟩; have hz1 : HasAt w1 wr.heap.size 0 := (hz0.below hb1).hasAt zeroWS_ok)
    | (go_simp; go_at_call 84; refine HSB.mono ?_; rintro e w1 ⟨rfl, hb1⟩))
  all_goals go_wp2_with fail
  all_goals first
    | exact hK _ _ _ _ _ _ _ _ _ _ _ _ _ _ _ _ _ _ (((hR.below hb0).below hb1).other (Nat.ne_of_lt hR.lt) 0 _) (below_setCells (hb0.trans (hb1.mono hb0.size)) (Nat.le_refl _) 0 _)
    | exact hK _ _ _ _ _ _ _ _ _ _ _ _ _ _ _ _ _ _ ((hRd.below hb1).below (below_new (Below.refl _ _) (Nat.le_refl _) _)) (hbd.trans ((below_new hb1 hb1.size _).mono (Nat.le_refl _)))
end Go.Proofs.YtmlgajhhnojdjaaGreatDoor.RefZeR
namespace Go.Proofs.YtmlgajhhnojdjaaGreatDoor.RefZeS
open Go.RowKit Go.Proofs.YtmlgajhhnojdjaaGreatDoor.Spec Go.Proofs.YtmlgajhhnojdjaaGreatDoor.RefA Go.Proofs.YtmlgajhhnojdjaaGreatDoor.RefR Go.Proofs.YtmlgajhhnojdjaaGreatDoor.RefT Go.Proofs.YtmlgajhhnojdjaaGreatDoor.RefU Go.Proofs.YtmlgajhhnojdjaaGreatDoor.RefZc Go.Proofs.YtmlgajhhnojdjaaGreatDoor.RefZd Go.Proofs.YtmlgajhhnojdjaaGreatDoor.Aux
attribute [local go_sem ↓] wp_load_in wp_store_in
attribute [local go_sem] has_new

/-- a region of a function's text, by its number -/
def findRegion (n : Nat) : Code → Option Code
  | .region k ops d => if k = n then some (.region k ops d) else none
  | .seq a b => match findRegion n a with
    | some c => some c
    | none => findRegion n b
  | .block _ c => findRegion n c
  | .loop c => findRegion n c
  | .scope c => findRegion n c
  | .cond _ a b => match findRegion n a with
    | some c => some c
    | none => findRegion n b
  | _ => none
noncomputable def code18 : Code := ((Tryz.f52.body.bind (findRegion 18)).getD .skip)
theorem new_at (w : World) : WayAt (w.alloc (.cells #[.bool false, .string ⟨#[]⟩, .string ⟨#[]⟩, .string ⟨#[]⟩, .string ⟨#[]⟩, .string ⟨#[]⟩, .string ⟨#[]⟩, .string ⟨#[]⟩, .string ⟨#[]⟩, .string ⟨#[]⟩, .string ⟨#[]⟩, .string ⟨#[]⟩, .string ⟨#[]⟩, .string ⟨#[]⟩, .string ⟨#[]⟩, .string ⟨#[]⟩, .string ⟨#[]⟩, .string ⟨#[]⟩, .string ⟨#[]⟩, .string ⟨#[]⟩, .string ⟨#[]⟩, .string ⟨#[]⟩, .string ⟨#[]⟩, .string ⟨#[]⟩, .string ⟨#[]⟩] 155)).drew w.heap.size zeroWS := WayAt.new w zeroWS
theorem below_one {B : Nat} {w0 w : World} (h : Below B w0 w) (hB : B ≤ w.heap.size) : Below B w0 (w.alloc (.cells #[.bool false, .string ⟨#[]⟩, .string ⟨#[]⟩, .string ⟨#[]⟩, .string ⟨#[]⟩, .string ⟨#[]⟩, .string ⟨#[]⟩, .string ⟨#[]⟩, .string ⟨#[]⟩, .string ⟨#[]⟩, .string ⟨#[]⟩, .string ⟨#[]⟩, .string ⟨#[]⟩, .string ⟨#[]⟩, .string ⟨#[]⟩, .string ⟨#[]⟩, .string ⟨#[]⟩, .string ⟨#[]⟩, .string ⟨#[]⟩, .string ⟨#[]⟩, .string ⟨#[]⟩, .string ⟨#[]⟩, .string ⟨#[]⟩, .string ⟨#[]⟩, .string ⟨#[]⟩] 155)).drew := below_drewN (h.alloc hB _) 1

set_option maxRecDepth 100000 in
set_option maxHeartbeats 8000000 in
theorem reg18 (G n i S : Nat) (r : WS × Bool) (o : WS) (L : List WS) (wr : World) (K K1 K2 K3 K4 K5 : Act → World → Prop) (P : Ending → World → Prop) {u0 u1 u2 u4 u5 u7 u9 u10 u11 u12 u13 u14 u15 u16 u17 u18 u19 u20 u21 u22 u23 u24 u25 u26 u27 u28 u29 u30 u31 u32 u33 u34 u35 u36 u37 u38 u39 u40 u41 u42 u43 u44 u45 u46 u47 u48 u49 u50 u51 u52 u53 u54 u55 u56 u57 u58 u59 u60 u61 u62 u63 u64 u65 u66 u67 u68 u69 u70 u71 u72 u73 u74 u75 u76 u77 u78 u79 u80 u81 u82 u83 u84 u85 u86 u87 u88 u89 u90 u91 u92 u93 u94 u95 u96 u97 u98 u99 u100 u101 u102 u103 u104 u105 u106 u107 u108 u109 u110 u111 u112 u113 u114 u115 u116 u117 u118 u119 u120 u121 u122 u123 u124 u125 u126 u127 u128 u129 u130 u131 u132 u133 u134 u135 u136 u137 u138 u139 u140 u141 u142 u143 u144 u145 u146 u147 u148 u149 u150 u151 u152 u153 u154 u155 u156 u157 u158 u159 u160 u161 u162 u163 u164 u165 u166 u167 u168 u169 u170 u171 u172 u173 u174 u175 u176 u177 u178 u179 u180 u181 u182 u183 u184 u185 u186 u187 u188 u189 u190 u191 u192 u193 u194 u195 u196 u197 u198 u199 u200 u201 u202 u203 u204 u205 u206 u207 u208 u209 u210 u211 u212 u213 u214 u215 u216 u217 u218 u219 : Value}
    (hin : i + 1 < n) (hn : n ≤ 4000) (hnL : L.length = n) (hO : RowsOk L) (hF : o.Few) (hRF : r.1.Few) (hS : WayAt wr S o) (hR : RowAt wr G L)
    (HAD : ∀ W, Calls Tryz.prog 86 #[.agg (lw L (i + 1)).cells.toArray, .agg o.cells.toArray] W fun e w' => e = .returned (.tuple #[.agg r.1.cells.toArray, .bool r.2]) ∧ Below W.heap.size W w')
    (hK : ∀ (x92 x93 x94 x95 x96 x97 x98 x99 x100 x101 : Value) (T : Nat) (w' : World), WayAt w' T r.1 → G < T → RowAt w' G L → Below wr.heap.size wr w' → K ⟨(List.toArray (u0 :: u1 :: u2 :: (.slice (some ⟨G, 0, none⟩) n n) :: u4 :: u5 :: (.int .i64 i) :: u7 :: (.pointer (some ⟨S, 0, none⟩)) :: u9 :: u10 :: (.pointer (some ⟨T, 0, none⟩)) :: (.bool r.2) :: u13 :: u14 :: u15 :: u16 :: u17 :: u18 :: u19 :: u20 :: u21 :: u22 :: u23 :: u24 :: u25 :: u26 :: u27 :: u28 :: u29 :: u30 :: u31 :: u32 :: u33 :: u34 :: u35 :: u36 :: u37 :: u38 :: u39 :: u40 :: u41 :: u42 :: u43 :: u44 :: u45 :: u46 :: u47 :: u48 :: u49 :: u50 :: u51 :: u52 :: u53 :: u54 :: u55 :: u56 :: u57 :: u58 :: u59 :: u60 :: u61 :: u62 :: u63 :: u64 :: u65 :: u66 :: u67 :: u68 :: u69 :: u70 :: u71 :: u72 :: u73 :: u74 :: u75 :: u76 :: u77 :: u78 :: u79 :: u80 :: u81 :: u82 :: u83 :: u84 :: u85 :: u86 :: u87 :: u88 :: u89 :: u90 :: u91 :: x92 :: x93 :: x94 :: x95 :: x96 :: x97 :: x98 :: x99 :: x100 :: x101 :: u102 :: u103 :: u104 :: u105 :: u106 :: u107 :: u108 :: u109 :: u110 :: u111 :: u112 :: u113 :: u114 :: u115 :: u116 :: u117 :: u118 :: u119 :: u120 :: u121 :: u122 :: u123 :: u124 :: u125 :: u126 :: u127 :: u128 :: u129 :: u130 :: u131 :: u132 :: u133 :: u134 :: u135 :: u136 :: u137 :: u138 :: u139 :: u140 :: u141 :: u142 :: u143 :: u144 :: u145 :: u146 :: u147 :: u148 :: u149 :: u150 :: u151 :: u152 :: u153 :: u154 :: u155 :: u156 :: u157 :: u158 :: u159 :: u160 :: u161 :: u162 :: u163 :: u164 :: u165 :: u166 :: u167 :: u168 :: u169 :: u170 :: u171 :: u172 :: u173 :: u174 :: u175 :: u176 :: u177 :: u178 :: u179 :: u180 :: u181 :: u182 :: u183 :: u184 :: u185 :: u186 :: u187 :: u188 :: u189 :: u190 :: u191 :: u192 :: u193 :: u194 :: u195 :: u196 :: u197 :: u198 :: u199 :: u200 :: u201 :: u202 :: u203 :: u204 :: u205 :: u206 :: u207 :: u208 :: u209 :: u210 :: u211 :: u212 :: u213 :: u214 :: u215 :: u216 :: u217 :: u218 :: u219 :: [])), []⟩ w') :
    Code.wp Tryz.prog code18 (Exit.then K (Exit.then K1 (Exit.inBlock 5 (Exit.then K2 (Exit.then K3 (Exit.inBlock 4 (Exit.inBlock 3 (Exit.then K4 (Exit.inBlock 2 (Exit.then K5 (bodyPost Tryz.prog Tryz.f52 P))))))))))) ⟨(List.toArray (u0 :: u1 :: u2 :: (.slice (some ⟨G, 0, none⟩) n n) :: u4 :: u5 :: (.int .i64 i) :: u7 :: (.pointer (some ⟨S, 0, none⟩)) :: u9 :: u10 :: u11 :: u12 :: u13 :: u14 :: u15 :: u16 :: u17 :: u18 :: u19 :: u20 :: u21 :: u22 :: u23 :: u24 :: u25 :: u26 :: u27 :: u28 :: u29 :: u30 :: u31 :: u32 :: u33 :: u34 :: u35 :: u36 :: u37 :: u38 :: u39 :: u40 :: u41 :: u42 :: u43 :: u44 :: u45 :: u46 :: u47 :: u48 :: u49 :: u50 :: u51 :: u52 :: u53 :: u54 :: u55 :: u56 :: u57 :: u58 :: u59 :: u60 :: u61 :: u62 :: u63 :: u64 :: u65 :: u66 :: u67 :: u68 :: u69 :: u70 :: u71 :: u72 :: u73 :: u74 :: u75 :: u76 :: u77 :: u78 :: u79 :: u80 :: u81 :: u82 :: u83 :: u84 :: u85 :: u86 :: u87 :: u88 :: u89 :: u90 :: u91 :: u92 :: u93 :: u94 :: u95 :: u96 :: u97 :: u98 :: u99 :: u100 :: u101 :: u102 :: u103 :: u104 :: u105 :: u106 :: u107 :: u108 :: u109 :: u110 :: u111 :: u112 :: u113 :: u114 :: u115 :: u116 :: u117 :: u118 :: u119 :: u120 :: u121 :: u122 :: u123 :: u124 :: u125 :: u126 :: u127 :: u128 :: u129 :: u130 :: u131 :: u132 :: u133 :: u134 :: u135 :: u136 :: u137 :: u138 :: u139 :: u140 :: u141 :: u142 :: u143 :: u144 :: u145 :: u146 :: u147 :: u148 :: u149 :: u150 :: u151 :: u152 :: u153 :: u154 :: u155 :: u156 :: u157 :: u158 :: u159 :: u160 :: u161 :: u162 :: u163 :: u164 :: u165 :: u166 :: u167 :: u168 :: u169 :: u170 :: u171 :: u172 :: u173 :: u174 :: u175 :: u176 :: u177 :: u178 :: u179 :: u180 :: u181 :: u182 :: u183 :: u184 :: u185 :: u186 :: u187 :: u188 :: u189 :: u190 :: u191 :: u192 :: u193 :: u194 :: u195 :: u196 :: u197 :: u198 :: u199 :: u200 :: u201 :: u202 :: u203 :: u204 :: u205 :: u206 :: u207 :: u208 :: u209 :: u210 :: u211 :: u212 :: u213 :: u214 :: u215 :: u216 :: u217 :: u218 :: u219 :: [])), []⟩ wr := by
  have hiL : i + 1 < L.length := by omega
  have hnx1 : (i : Int) + 1 < n := by omega
  have hnx0 : (0 : Int) ≤ (i : Int) + 1 := by omega
  have hwr : IntKind.i64.wrap ((i : Int) + 1) = (i : Int) + 1 := by rw [IntKind.wrap_i64]; omega
  have htn : ((i : Int) + 1).toNat = i + 1 := by omega
  have hr1 : IsWays r.1.cells.toArray := ⟨_, hRF.ok, rfl⟩
  have hRd : RowAt wr.drew G L := hR
  have hSd : WayAt wr.drew S o := hS
  have hz0 := new_at wr
  have hb0 := below_one (Below.refl wr.heap.size wr) (Nat.le_refl _)
  have hbd : Below wr.heap.size wr wr.drew := below_drewN (Below.refl _ _) 1
  have hhR := hRd.hasAt hO (i + 1) hiL
  have hvR := hRd.waysIn hO (i + 1) hiL
  have hhR2 := (hR.below hb0).hasAt hO (i + 1) hiL
  have hvR2 := (hR.below hb0).waysIn hO (i + 1) hiL
  have hhS := hSd.hasAt hF.ok
  have hvS := hSd.waysIn hF.ok
  have hhS2 := (hS.below hb0).hasAt hF.ok
  have hvS2 := (hS.below hb0).waysIn hF.ok
  conv => arg 2; whnf
  go_region_law (first
    | (go_simp; go_at_call 86; refine (HAD wr.drew).mono ?_; rintro e w2 ⟨rfl, hb2⟩)
    | (go_simp; go_at_call 86; refine (HAD (wr.alloc (.cells #[.bool false, .string ⟨#[]⟩, .string ⟨#[]⟩, .string ⟨#[]⟩, .string ⟨#[]⟩, .string ⟨#[]⟩, .string ⟨#[]⟩, .string ⟨#[]⟩, .string ⟨#[]⟩, .string ⟨#[]⟩, .string ⟨#[]⟩, .string ⟨#[]⟩, .string ⟨#[]⟩, .string ⟨#[]⟩, .string ⟨#[]⟩, .string ⟨#[]⟩, .string ⟨#[]⟩, .string ⟨#[]⟩, .string ⟨#[]⟩, .string ⟨#[]⟩, .string ⟨#[]⟩, .string ⟨#[]⟩, .string ⟨#[]⟩, .string ⟨#[]⟩, .string ⟨#[]⟩] 155)).drew).mono ?_; rintro e w2 ⟨rfl, hb2⟩; have hz1 : HasAt w2 wr.heap.size 0 := (hz0.below hb2).hasAt zeroWS_ok))
  all_goals go_wp2_with fail
  all_goals first
    | exact hK _ _ _ _ _ _ _ _ _ _ _ _ (way_new w2 hRF.ok) (Nat.lt_of_lt_of_le hR.lt hb2.size) ((hRd.below hb2).below (below_new (Below.refl _ _) (Nat.le_refl _) _)) (hbd.trans ((below_new hb2 hb2.size _).mono (Nat.le_refl _)))
    | exact hK _ _ _ _ _ _ _ _ _ _ _ _ ((hz0.below hb2).store zeroWS_ok hRF.ok) hR.lt (((hR.below hb0).below hb2).other (Nat.ne_of_lt hR.lt) 0 _) (below_setCells (hb0.trans (hb2.mono hb0.size)) (Nat.le_refl _) 0 _)
end Go.Proofs.YtmlgajhhnojdjaaGreatDoor.RefZeS
namespace Go.Proofs.YtmlgajhhnojdjaaGreatDoor.RefZeT
open Go.RowKit Go.Proofs.YtmlgajhhnojdjaaGreatDoor.Spec Go.Proofs.YtmlgajhhnojdjaaGreatDoor.RefA Go.Proofs.YtmlgajhhnojdjaaGreatDoor.RefR Go.Proofs.YtmlgajhhnojdjaaGreatDoor.RefT Go.Proofs.YtmlgajhhnojdjaaGreatDoor.RefU Go.Proofs.YtmlgajhhnojdjaaGreatDoor.RefZc Go.Proofs.YtmlgajhhnojdjaaGreatDoor.RefZd Go.Proofs.YtmlgajhhnojdjaaGreatDoor.Aux
attribute [local go_sem ↓] wp_load_in wp_store_in
attribute [local go_sem] has_new

/-- a region of a function's text, by its number -/
def findRegion (n : Nat) : Code → Option Code
  | .region k ops d => if k = n then some (.region k ops d) else none
  | .seq a b => match findRegion n a with
    | some c => some c
    | none => findRegion n b
  | .block _ c => findRegion n c
  | .loop c => findRegion n c
  | .scope c => findRegion n c
  | .cond _ a b => match findRegion n a with
    | some c => some c
    | none => findRegion n b
  | _ => none
noncomputable def code32 : Code := ((Tryz.f52.body.bind (findRegion 32)).getD .skip)
theorem new_at (w : World) : WayAt (w.alloc (.cells #[.bool false, .string ⟨#[]⟩, .string ⟨#[]⟩, .string ⟨#[]⟩, .string ⟨#[]⟩, .string ⟨#[]⟩, .string ⟨#[]⟩, .string ⟨#[]⟩, .string ⟨#[]⟩, .string ⟨#[]⟩, .string ⟨#[]⟩, .string ⟨#[]⟩, .string ⟨#[]⟩, .string ⟨#[]⟩, .string ⟨#[]⟩, .string ⟨#[]⟩, .string ⟨#[]⟩, .string ⟨#[]⟩, .string ⟨#[]⟩, .string ⟨#[]⟩, .string ⟨#[]⟩, .string ⟨#[]⟩, .string ⟨#[]⟩, .string ⟨#[]⟩, .string ⟨#[]⟩] 155)).drew w.heap.size zeroWS := WayAt.new w zeroWS
theorem below_one {B : Nat} {w0 w : World} (h : Below B w0 w) (hB : B ≤ w.heap.size) : Below B w0 (w.alloc (.cells #[.bool false, .string ⟨#[]⟩, .string ⟨#[]⟩, .string ⟨#[]⟩, .string ⟨#[]⟩, .string ⟨#[]⟩, .string ⟨#[]⟩, .string ⟨#[]⟩, .string ⟨#[]⟩, .string ⟨#[]⟩, .string ⟨#[]⟩, .string ⟨#[]⟩, .string ⟨#[]⟩, .string ⟨#[]⟩, .string ⟨#[]⟩, .string ⟨#[]⟩, .string ⟨#[]⟩, .string ⟨#[]⟩, .string ⟨#[]⟩, .string ⟨#[]⟩, .string ⟨#[]⟩, .string ⟨#[]⟩, .string ⟨#[]⟩, .string ⟨#[]⟩, .string ⟨#[]⟩] 155)).drew := below_drewN (h.alloc hB _) 1

set_option maxRecDepth 100000 in
set_option maxHeartbeats 8000000 in
theorem reg32 (G n i S : Nat) (r : WS × Bool) (o : WS) (L : List WS) (wr : World) (K K1 K2 K3 K4 K5 K6 : Act → World → Prop) (P : Ending → World → Prop) {u0 u1 u2 u4 u5 u6 u7 u8 u9 u10 u11 u12 u13 u14 u15 u18 u19 u20 u21 u22 u23 u24 u25 u26 u27 u28 u29 u30 u31 u32 u33 u34 u35 u36 u37 u38 u39 u40 u41 u42 u43 u44 u45 u46 u47 u48 u49 u50 u51 u52 u53 u54 u55 u56 u57 u58 u59 u60 u61 u62 u63 u64 u65 u66 u67 u68 u69 u70 u71 u72 u73 u74 u75 u76 u77 u78 u79 u80 u81 u82 u83 u84 u85 u86 u87 u88 u89 u90 u91 u92 u93 u94 u95 u96 u97 u98 u99 u100 u101 u102 u103 u104 u105 u106 u107 u108 u109 u110 u111 u112 u113 u114 u115 u116 u117 u118 u119 u120 u121 u122 u123 u124 u125 u126 u127 u128 u129 u130 u131 u132 u133 u134 u135 u136 u137 u138 u139 u140 u141 u142 u143 u144 u145 u146 u147 u148 u149 u150 u151 u152 u153 u154 u155 u156 u157 u158 u159 u160 u161 u162 u163 u164 u165 u166 u167 u168 u169 u170 u171 u172 u173 u174 u175 u176 u177 u178 u179 u180 u181 u182 u183 u184 u185 u186 u187 u188 u189 u190 u191 u192 u193 u194 u195 u196 u197 u198 u199 u200 u201 u202 u203 u204 u205 u206 u207 u208 u209 u210 u211 u212 u213 u214 u215 u216 u217 u218 u219 : Value}
    (hin : i < n) (hnL : L.length = n) (hO : RowsOk L) (hF : o.Few) (hRF : r.1.Few) (hS : WayAt wr S o) (hR : RowAt wr G L)
    (HAD : ∀ W, Calls Tryz.prog 86 #[.agg (lw L (i)).cells.toArray, .agg o.cells.toArray] W fun e w' => e = .returned (.tuple #[.agg r.1.cells.toArray, .bool r.2]) ∧ Below W.heap.size W w')
    (hK : ∀ (x168 x169 x170 x171 x172 x173 x174 x175 x176 : Value) (T : Nat) (w' : World), WayAt w' T r.1 → G < T → RowAt w' G L → Below wr.heap.size wr w' → K ⟨(List.toArray (u0 :: u1 :: u2 :: (.slice (some ⟨G, 0, none⟩) n n) :: u4 :: u5 :: u6 :: u7 :: u8 :: u9 :: u10 :: u11 :: u12 :: u13 :: u14 :: u15 :: (.pointer (some ⟨S, 0, none⟩)) :: (.int .i64 i) :: (.pointer (some ⟨T, 0, none⟩)) :: (.bool r.2) :: u20 :: u21 :: u22 :: u23 :: u24 :: u25 :: u26 :: u27 :: u28 :: u29 :: u30 :: u31 :: u32 :: u33 :: u34 :: u35 :: u36 :: u37 :: u38 :: u39 :: u40 :: u41 :: u42 :: u43 :: u44 :: u45 :: u46 :: u47 :: u48 :: u49 :: u50 :: u51 :: u52 :: u53 :: u54 :: u55 :: u56 :: u57 :: u58 :: u59 :: u60 :: u61 :: u62 :: u63 :: u64 :: u65 :: u66 :: u67 :: u68 :: u69 :: u70 :: u71 :: u72 :: u73 :: u74 :: u75 :: u76 :: u77 :: u78 :: u79 :: u80 :: u81 :: u82 :: u83 :: u84 :: u85 :: u86 :: u87 :: u88 :: u89 :: u90 :: u91 :: u92 :: u93 :: u94 :: u95 :: u96 :: u97 :: u98 :: u99 :: u100 :: u101 :: u102 :: u103 :: u104 :: u105 :: u106 :: u107 :: u108 :: u109 :: u110 :: u111 :: u112 :: u113 :: u114 :: u115 :: u116 :: u117 :: u118 :: u119 :: u120 :: u121 :: u122 :: u123 :: u124 :: u125 :: u126 :: u127 :: u128 :: u129 :: u130 :: u131 :: u132 :: u133 :: u134 :: u135 :: u136 :: u137 :: u138 :: u139 :: u140 :: u141 :: u142 :: u143 :: u144 :: u145 :: u146 :: u147 :: u148 :: u149 :: u150 :: u151 :: u152 :: u153 :: u154 :: u155 :: u156 :: u157 :: u158 :: u159 :: u160 :: u161 :: u162 :: u163 :: u164 :: u165 :: u166 :: u167 :: x168 :: x169 :: x170 :: x171 :: x172 :: x173 :: x174 :: x175 :: x176 :: u177 :: u178 :: u179 :: u180 :: u181 :: u182 :: u183 :: u184 :: u185 :: u186 :: u187 :: u188 :: u189 :: u190 :: u191 :: u192 :: u193 :: u194 :: u195 :: u196 :: u197 :: u198 :: u199 :: u200 :: u201 :: u202 :: u203 :: u204 :: u205 :: u206 :: u207 :: u208 :: u209 :: u210 :: u211 :: u212 :: u213 :: u214 :: u215 :: u216 :: u217 :: u218 :: u219 :: [])), []⟩ w') :
    Code.wp Tryz.prog code32 (Exit.then K (Exit.inBlock 7 (Exit.then K1 (Exit.then K2 (Exit.inBlock 6 (Exit.inBlock 5 (Exit.then K3 (Exit.then K4 (Exit.inBlock 4 (Exit.inBlock 3 (Exit.then K5 (Exit.inBlock 2 (Exit.then K6 (bodyPost Tryz.prog Tryz.f52 P)))))))))))))) ⟨(List.toArray (u0 :: u1 :: u2 :: (.slice (some ⟨G, 0, none⟩) n n) :: u4 :: u5 :: u6 :: u7 :: u8 :: u9 :: u10 :: u11 :: u12 :: u13 :: u14 :: u15 :: (.pointer (some ⟨S, 0, none⟩)) :: (.int .i64 i) :: u18 :: u19 :: u20 :: u21 :: u22 :: u23 :: u24 :: u25 :: u26 :: u27 :: u28 :: u29 :: u30 :: u31 :: u32 :: u33 :: u34 :: u35 :: u36 :: u37 :: u38 :: u39 :: u40 :: u41 :: u42 :: u43 :: u44 :: u45 :: u46 :: u47 :: u48 :: u49 :: u50 :: u51 :: u52 :: u53 :: u54 :: u55 :: u56 :: u57 :: u58 :: u59 :: u60 :: u61 :: u62 :: u63 :: u64 :: u65 :: u66 :: u67 :: u68 :: u69 :: u70 :: u71 :: u72 :: u73 :: u74 :: u75 :: u76 :: u77 :: u78 :: u79 :: u80 :: u81 :: u82 :: u83 :: u84 :: u85 :: u86 :: u87 :: u88 :: u89 :: u90 :: u91 :: u92 :: u93 :: u94 :: u95 :: u96 :: u97 :: u98 :: u99 :: u100 :: u101 :: u102 :: u103 :: u104 :: u105 :: u106 :: u107 :: u108 :: u109 :: u110 :: u111 :: u112 :: u113 :: u114 :: u115 :: u116 :: u117 :: u118 :: u119 :: u120 :: u121 :: u122 :: u123 :: u124 :: u125 :: u126 :: u127 :: u128 :: u129 :: u130 :: u131 :: u132 :: u133 :: u134 :: u135 :: u136 :: u137 :: u138 :: u139 :: u140 :: u141 :: u142 :: u143 :: u144 :: u145 :: u146 :: u147 :: u148 :: u149 :: u150 :: u151 :: u152 :: u153 :: u154 :: u155 :: u156 :: u157 :: u158 :: u159 :: u160 :: u161 :: u162 :: u163 :: u164 :: u165 :: u166 :: u167 :: u168 :: u169 :: u170 :: u171 :: u172 :: u173 :: u174 :: u175 :: u176 :: u177 :: u178 :: u179 :: u180 :: u181 :: u182 :: u183 :: u184 :: u185 :: u186 :: u187 :: u188 :: u189 :: u190 :: u191 :: u192 :: u193 :: u194 :: u195 :: u196 :: u197 :: u198 :: u199 :: u200 :: u201 :: u202 :: u203 :: u204 :: u205 :: u206 :: u207 :: u208 :: u209 :: u210 :: u211 :: u212 :: u213 :: u214 :: u215 :: u216 :: u217 :: u218 :: u219 :: [])), []⟩ wr := by
  have hiL : i < L.length := by omega
  have hbbI : (i : Int) < n := by omega
  have hr1 : IsWays r.1.cells.toArray := ⟨_, hRF.ok, rfl⟩
  have hRd : RowAt wr.drew G L := hR
  have hSd : WayAt wr.drew S o := hS
  have hz0 := new_at wr
  have hb0 := below_one (Below.refl wr.heap.size wr) (Nat.le_refl _)
  have hbd : Below wr.heap.size wr wr.drew := below_drewN (Below.refl _ _) 1
  have hhR := hRd.hasAt hO (i) hiL
  have hvR := hRd.waysIn hO (i) hiL
  have hhR2 := (hR.below hb0).hasAt hO (i) hiL
  have hvR2 := (hR.below hb0).waysIn hO (i) hiL
  have hhS := hSd.hasAt hF.ok
  have hvS := hSd.waysIn hF.ok
  have hhS2 := (hS.below hb0).hasAt hF.ok
  have hvS2 := (hS.below hb0).waysIn hF.ok
  conv => arg 2; whnf
  go_region_law (first
    | (go_simp; go_at_call 86; refine (HAD wr.drew).mono ?_; rintro e w2 ⟨rfl, hb2⟩)
    | (go_simp; go_at_call 86; refine (HAD (wr.alloc (.cells #[.bool false, .string ⟨#[]⟩, .string ⟨#[]⟩, .string ⟨#[]⟩, .string ⟨#[]⟩, .string ⟨#[]⟩, .string ⟨#[]⟩, .string ⟨#[]⟩, .string ⟨#[]⟩, .string ⟨#[]⟩, .string ⟨#[]⟩, .string ⟨#[]⟩, .string ⟨#[]⟩, .string ⟨#[]⟩, .string ⟨#[]⟩, .string ⟨#[]⟩, .string ⟨#[]⟩, .string ⟨#[]⟩, .string ⟨#[]⟩, .string ⟨#[]⟩, .string ⟨#[]⟩, .string ⟨#[]⟩, .string ⟨#[]⟩, .string ⟨#[]⟩, .string ⟨#[]⟩] 155)).drew).mono ?_; rintro e w2 ⟨rfl, hb2⟩; have hz1 : HasAt w2 wr.heap.size 0 := (hz0.below hb2).hasAt zeroWS_ok))
  all_goals go_wp2_with fail
  all_goals first
    | exact hK _ _ _ _ _ _ _ _ _ _ _ (way_new w2 hRF.ok) (Nat.lt_of_lt_of_le hR.lt hb2.size) ((hRd.below hb2).below (below_new (Below.refl _ _) (Nat.le_refl _) _)) (hbd.trans ((below_new hb2 hb2.size _).mono (Nat.le_refl _)))
    | exact hK _ _ _ _ _ _ _ _ _ _ _ ((hz0.below hb2).store zeroWS_ok hRF.ok) hR.lt (((hR.below hb0).below hb2).other (Nat.ne_of_lt hR.lt) 0 _) (below_setCells (hb0.trans (hb2.mono hb0.size)) (Nat.le_refl _) 0 _)
end Go.Proofs.YtmlgajhhnojdjaaGreatDoor.RefZeT
