import Derived.Test.YtmlgajhhnojdjaaGreatDoorRBA
namespace Go.Proofs.YtmlgajhhnojdjaaGreatDoor
namespace RefZeT
open Go.RowKit Sq RefA RefR RefT RefU RefZc RefZd Aux
attribute [local go_sem ↓] mO kY
attribute [local go_sem] zI
def bg (n:Nat):Code->Option Code
 | .region k ops d=>if k=n then some (.region k ops d)else none
 | .seq a b=>match bg n a with
  |some c=>some c
  |none=>bg n b
 | .block _ c=>bg n c
 | .loop c=>bg n c
 | .scope c=>bg n c
 | .cond _ a b=>match bg n a with
  |some c=>some c
  |none=>bg n b
 |_=>none
noncomputable def W5:Code:=((Tryz.f52.body.bind (bg 32)).getD .skip)
theorem Bq (w:World):aB (w.alloc (.cells #[.bool false,.string ⟨#[]⟩,.string ⟨#[]⟩,.string ⟨#[]⟩,.string ⟨#[]⟩,.string ⟨#[]⟩,.string ⟨#[]⟩,.string ⟨#[]⟩,.string ⟨#[]⟩,.string ⟨#[]⟩,.string ⟨#[]⟩,.string ⟨#[]⟩,.string ⟨#[]⟩,.string ⟨#[]⟩,.string ⟨#[]⟩,.string ⟨#[]⟩,.string ⟨#[]⟩,.string ⟨#[]⟩,.string ⟨#[]⟩,.string ⟨#[]⟩,.string ⟨#[]⟩,.string ⟨#[]⟩,.string ⟨#[]⟩,.string ⟨#[]⟩,.string ⟨#[]⟩] 155)).drew w.heap.size aI:=aB.new w aI
theorem oE {B:Nat}{w0 w:World}(h:Below B w0 w)(hB:B<=w.heap.size):Below B w0 (w.alloc (.cells #[.bool false,.string ⟨#[]⟩,.string ⟨#[]⟩,.string ⟨#[]⟩,.string ⟨#[]⟩,.string ⟨#[]⟩,.string ⟨#[]⟩,.string ⟨#[]⟩,.string ⟨#[]⟩,.string ⟨#[]⟩,.string ⟨#[]⟩,.string ⟨#[]⟩,.string ⟨#[]⟩,.string ⟨#[]⟩,.string ⟨#[]⟩,.string ⟨#[]⟩,.string ⟨#[]⟩,.string ⟨#[]⟩,.string ⟨#[]⟩,.string ⟨#[]⟩,.string ⟨#[]⟩,.string ⟨#[]⟩,.string ⟨#[]⟩,.string ⟨#[]⟩,.string ⟨#[]⟩] 155)).drew:=below_drewN (h.alloc hB _) 1
set_option maxRecDepth 100000 in
set_option maxHeartbeats 8000000 in
theorem reg32 (G n i S:Nat)(r:WS×Bool)(o:WS)(L:List WS)(wr:World)(K K1 K2 K3 K4 K5 K6:Act->World->Prop)(P:Ending->World->Prop){u0 u1 u2 u4 u5 u6 u7 u8 u9 u10 u11 u12 u13 u14 u15 u18 u19 u20 u21 u22 u23 u24 u25 u26 u27 u28 u29 u30 u31 u32 u33 u34 u35 u36 u37 u38 u39 u40 u41 u42 u43 u44 u45 u46 u47 u48 u49 u50 u51 u52 u53 u54 u55 u56 u57 u58 u59 u60 u61 u62 u63 u64 u65 u66 u67 u68 u69 u70 u71 u72 u73 u74 u75 u76 u77 u78 u79 u80 u81 u82 u83 u84 u85 u86 u87 u88 u89 u90 u91 u92 u93 u94 u95 u96 u97 u98 u99 u100 u101 u102 u103 u104 u105 u106 u107 u108 u109 u110 u111 u112 u113 u114 u115 u116 u117 u118 u119 u120 u121 u122 u123 u124 u125 u126 u127 u128 u129 u130 u131 u132 u133 u134 u135 u136 u137 u138 u139 u140 u141 u142 u143 u144 u145 u146 u147 u148 u149 u150 u151 u152 u153 u154 u155 u156 u157 u158 u159 u160 u161 u162 u163 u164 u165 u166 u167 u168 u169 u170 u171 u172 u173 u174 u175 u176 u177 u178 u179 u180 u181 u182 u183 u184 u185 u186 u187 u188 u189 u190 u191 u192 u193 u194 u195 u196 u197 u198 u199 u200 u201 u202 u203 u204 u205 u206 u207 u208 u209 u210 u211 u212 u213 u214 u215 u216 u217 u218 u219:Value}
  (lg:i<n) (hnL:L.length=n) (hO:cP L) (hF:o.dT) (hRF:r.1.dT) (hS:aB wr S o) (hR:aT wr G L)
  (Nq:∀W,Calls Tryz.prog 86 #[.agg (lw L (i)).cells.toArray,.agg o.cells.toArray] W fun e w'=>e=.returned (.tuple #[.agg r.1.cells.toArray,.bool r.2])/\Below W.heap.size W w')
  (hK:∀(x168 x169 x170 x171 x172 x173 x174 x175 x176:Value) (T:Nat) (w':World),aB w' T r.1->G<T->aT w' G L->Below wr.heap.size wr w'->K ⟨(List.toArray (u0::u1::u2::(.slice (some ⟨G,0,none⟩) n n)::u4::u5::u6::u7::u8::u9::u10::u11::u12::u13::u14::u15::(.pointer (some ⟨S,0,none⟩))::(.int .i64 i)::(.pointer (some ⟨T,0,none⟩))::(.bool r.2)::u20::u21::u22::u23::u24::u25::u26::u27::u28::u29::u30::u31::u32::u33::u34::u35::u36::u37::u38::u39::u40::u41::u42::u43::u44::u45::u46::u47::u48::u49::u50::u51::u52::u53::u54::u55::u56::u57::u58::u59::u60::u61::u62::u63::u64::u65::u66::u67::u68::u69::u70::u71::u72::u73::u74::u75::u76::u77::u78::u79::u80::u81::u82::u83::u84::u85::u86::u87::u88::u89::u90::u91::u92::u93::u94::u95::u96::u97::u98::u99::u100::u101::u102::u103::u104::u105::u106::u107::u108::u109::u110::u111::u112::u113::u114::u115::u116::u117::u118::u119::u120::u121::u122::u123::u124::u125::u126::u127::u128::u129::u130::u131::u132::u133::u134::u135::u136::u137::u138::u139::u140::u141::u142::u143::u144::u145::u146::u147::u148::u149::u150::u151::u152::u153::u154::u155::u156::u157::u158::u159::u160::u161::u162::u163::u164::u165::u166::u167::x168::x169::x170::x171::x172::x173::x174::x175::x176::u177::u178::u179::u180::u181::u182::u183::u184::u185::u186::u187::u188::u189::u190::u191::u192::u193::u194::u195::u196::u197::u198::u199::u200::u201::u202::u203::u204::u205::u206::u207::u208::u209::u210::u211::u212::u213::u214::u215::u216::u217::u218::u219::[])),[]⟩ w'):
  Code.wp Tryz.prog W5 (Exit.then K (Exit.inBlock 7 (Exit.then K1 (Exit.then K2 (Exit.inBlock 6 (Exit.inBlock 5 (Exit.then K3 (Exit.then K4 (Exit.inBlock 4 (Exit.inBlock 3 (Exit.then K5 (Exit.inBlock 2 (Exit.then K6 (bodyPost Tryz.prog Tryz.f52 P)))))))))))))) ⟨(List.toArray (u0::u1::u2::(.slice (some ⟨G,0,none⟩) n n)::u4::u5::u6::u7::u8::u9::u10::u11::u12::u13::u14::u15::(.pointer (some ⟨S,0,none⟩))::(.int .i64 i)::u18::u19::u20::u21::u22::u23::u24::u25::u26::u27::u28::u29::u30::u31::u32::u33::u34::u35::u36::u37::u38::u39::u40::u41::u42::u43::u44::u45::u46::u47::u48::u49::u50::u51::u52::u53::u54::u55::u56::u57::u58::u59::u60::u61::u62::u63::u64::u65::u66::u67::u68::u69::u70::u71::u72::u73::u74::u75::u76::u77::u78::u79::u80::u81::u82::u83::u84::u85::u86::u87::u88::u89::u90::u91::u92::u93::u94::u95::u96::u97::u98::u99::u100::u101::u102::u103::u104::u105::u106::u107::u108::u109::u110::u111::u112::u113::u114::u115::u116::u117::u118::u119::u120::u121::u122::u123::u124::u125::u126::u127::u128::u129::u130::u131::u132::u133::u134::u135::u136::u137::u138::u139::u140::u141::u142::u143::u144::u145::u146::u147::u148::u149::u150::u151::u152::u153::u154::u155::u156::u157::u158::u159::u160::u161::u162::u163::u164::u165::u166::u167::u168::u169::u170::u171::u172::u173::u174::u175::u176::u177::u178::u179::u180::u181::u182::u183::u184::u185::u186::u187::u188::u189::u190::u191::u192::u193::u194::u195::u196::u197::u198::u199::u200::u201::u202::u203::u204::u205::u206::u207::u208::u209::u210::u211::u212::u213::u214::u215::u216::u217::u218::u219::[])),[]⟩ wr:=by
 have Co:i<L.length:=by omega
 have hbbI:(i:Int)<n:=by omega
 have oD:dh r.1.cells.toArray:=⟨_,hRF.ok,rfl⟩;have GA:aT wr.drew G L:=hR;have Re:aB wr.drew S o:=hS;have A1:=Bq wr;have fC:=oE (Below.refl wr.heap.size wr) (jC _);have sb:Below wr.heap.size wr wr.drew:=below_drewN (Below.refl _ _) 1;have hhR:=GA.eC hO (i) Co;have hvR:=GA.dE hO (i) Co;have hhR2:=(hR.below fC).eC hO (i) Co;have hvR2:=(hR.below fC).dE hO (i) Co;have Z0:=Re.eC hF.ok;have hvS:=Re.dE hF.ok;have hhS2:=(hS.below fC).eC hF.ok;have hvS2:=(hS.below fC).dE hF.ok
 conv=>arg 2;whnf
 go_region_law (first
  |(go_simp;go_at_call 86;refine(Nq wr.drew).mono ?_;rintro e w2 ⟨rfl,bU⟩)
  |(go_simp;go_at_call 86;refine(Nq (wr.alloc (.cells #[.bool false,.string ⟨#[]⟩,.string ⟨#[]⟩,.string ⟨#[]⟩,.string ⟨#[]⟩,.string ⟨#[]⟩,.string ⟨#[]⟩,.string ⟨#[]⟩,.string ⟨#[]⟩,.string ⟨#[]⟩,.string ⟨#[]⟩,.string ⟨#[]⟩,.string ⟨#[]⟩,.string ⟨#[]⟩,.string ⟨#[]⟩,.string ⟨#[]⟩,.string ⟨#[]⟩,.string ⟨#[]⟩,.string ⟨#[]⟩,.string ⟨#[]⟩,.string ⟨#[]⟩,.string ⟨#[]⟩,.string ⟨#[]⟩,.string ⟨#[]⟩,.string ⟨#[]⟩] 155)).drew).mono ?_;rintro e w2 ⟨rfl,bU⟩;have Ez:qh w2 wr.heap.size 0:=(A1.below bU).eC bF))
 all_goals go_wp2_with fail
 all_goals first
  |exact hK _ _ _ _ _ _ _ _ _ _ _ (z6 w2 hRF.ok) (jK hR.lt bU.size) ((GA.below bU).below (fH (Below.refl _ _) (jC _) _)) (sb.trans ((fH bU bU.size _).mono (jC _)))
  |exact hK _ _ _ _ _ _ _ _ _ _ _ ((A1.below bU).store bF hRF.ok) hR.lt (((hR.below fC).below bU).other (Nat.ne_of_lt hR.lt) 0 _) (az (fC.trans (bU.mono fC.size)) (jC _) 0 _)
end RefZeT
end Go.Proofs.YtmlgajhhnojdjaaGreatDoor
