import Derived.Shelf.Strconv.ParseIntPublic10
import Derived.Shelf.Strings.Cut
import Derived.Shelf.Strings.Split
import Derived.Test.YtmlgajhhnojdjaaGreatDoorRAA
import Derived.WalkSmall
import Derived.Deep.AppendLies
namespace Go.Proofs
open Go.Shelf
def Tryz.Hj:Go.Shelf.Ren:=⟨fun|103=>228|210=>239|206=>244|n=>n,fun|9=>9|4=>4|24=>159|3=>3|n=>n,fun|n=>n⟩
theorem Tryz.Vf:Go.Proofs.Lays.n103 Tryz.prog Tryz.Hj:={
 mixed:=by kernel_rfl
 f103:=Tryz.func228.trans (congrArg some (by kernel_rfl))
 f206:=Tryz.func244.trans (congrArg some (by kernel_rfl))
 f210:=Tryz.func239.trans (congrArg some (by kernel_rfl))
 t3:=Tryz.underlying3
 a3:=Tryz.isAgg3
 z3:=Tryz.sizeOf3
 v3:=Tryz.zeroValue3
 t4:=Tryz.underlying4
 a4:=Tryz.isAgg4
 z4:=Tryz.sizeOf4
 v4:=Tryz.zeroValue4
 t9:=Tryz.underlying9
 a9:=Tryz.isAgg9
 z9:=Tryz.sizeOf9
 v9:=Tryz.zeroValue9
 t24:=Tryz.underlying159
 a24:=Tryz.isAgg159
 z24:=Tryz.sizeOf159
 v24:=Tryz.zeroValue159}
open Go.RowKit in
theorem Tryz.strings_CutPrefix (s p:ByteArray)(w:World):
  Calls Tryz.prog 228 #[.string s,.string p] w fun e w'=>e=.returned (.tuple #[.string ⟨(Lib.trimPrefix s.data.toList p.data.toList).toArray⟩,.bool (Lib.hasPrefix s.data.toList p.data.toList)])/\w'=w:=Any.strings_CutPrefix Tryz.Vf s p w
def Tryz.EG:Go.Shelf.Ren:=⟨fun|174=>240|247=>245|245=>246|287=>247|279=>248|280=>249|281=>250|282=>251|321=>252|322=>253|316=>254|171=>134|205=>255|243=>183|246=>182|283=>212|284=>213|285=>214|286=>215|129=>232|317=>231|318=>233|319=>234|320=>235|337=>242|338=>243|n=>n,fun|9=>9|3=>3|2=>2|75=>221|85=>305|4=>4|167=>315|5=>5|53=>281|175=>316|46=>292|168=>318|37=>93|0=>0|210=>323|21=>21|127=>257|145=>327|143=>325|171=>90|173=>284|212=>299|51=>300|20=>20|213=>301|232=>313|233=>314|80=>82|n=>n,fun|15=>9|16=>10|17=>4|18=>7|19=>8|n=>n⟩
theorem Tryz.A6:Go.Proofs.LaysC.n174 Tryz.prog Tryz.EG:={
 mixed:=by kernel_rfl
 f129:=Tryz.func232.trans (congrArg some (by kernel_rfl))
 f171:=Tryz.func134.trans (congrArg some (by kernel_rfl))
 f174:=Tryz.func240.trans (congrArg some (by kernel_rfl))
 f205:=Tryz.func255.trans (congrArg some (by kernel_rfl))
 f243:=Tryz.func183.trans (congrArg some (by kernel_rfl))
 f245:=Tryz.func246.trans (congrArg some (by kernel_rfl))
 f246:=Tryz.func182.trans (congrArg some (by kernel_rfl))
 f247:=Tryz.func245.trans (congrArg some (by kernel_rfl))
 f279:=Tryz.func248.trans (congrArg some (by kernel_rfl))
 f280:=Tryz.func249.trans (congrArg some (by kernel_rfl))
 f281:=Tryz.func250.trans (congrArg some (by kernel_rfl))
 f282:=Tryz.func251.trans (congrArg some (by kernel_rfl))
 f283:=Tryz.func212.trans (congrArg some (by kernel_rfl))
 f284:=Tryz.func213.trans (congrArg some (by kernel_rfl))
 f285:=Tryz.func214.trans (congrArg some (by kernel_rfl))
 f286:=Tryz.func215.trans (congrArg some (by kernel_rfl))
 f287:=Tryz.func247.trans (congrArg some (by kernel_rfl))
 f316:=Tryz.func254.trans (congrArg some (by kernel_rfl))
 f317:=Tryz.func231.trans (congrArg some (by kernel_rfl))
 f318:=Tryz.func233.trans (congrArg some (by kernel_rfl))
 f319:=Tryz.func234.trans (congrArg some (by kernel_rfl))
 f320:=Tryz.func235.trans (congrArg some (by kernel_rfl))
 f321:=Tryz.func252.trans (congrArg some (by kernel_rfl))
 f322:=Tryz.func253.trans (congrArg some (by kernel_rfl))
 f337:=Tryz.func242.trans (congrArg some (by kernel_rfl))
 f338:=Tryz.func243.trans (congrArg some (by kernel_rfl))
 t0:=Tryz.underlying0
 a0:=Tryz.isAgg0
 z0:=Tryz.sizeOf0
 v0:=Tryz.zeroValue0
 t2:=Tryz.underlying2
 a2:=Tryz.isAgg2
 z2:=Tryz.sizeOf2
 v2:=Tryz.zeroValue2
 t3:=Tryz.underlying3
 a3:=Tryz.isAgg3
 z3:=Tryz.sizeOf3
 v3:=Tryz.zeroValue3
 t4:=Tryz.underlying4
 a4:=Tryz.isAgg4
 z4:=Tryz.sizeOf4
 v4:=Tryz.zeroValue4
 t5:=Tryz.underlying5
 a5:=Tryz.isAgg5
 z5:=Tryz.sizeOf5
 v5:=Tryz.zeroValue5
 t9:=Tryz.underlying9
 a9:=Tryz.isAgg9
 z9:=Tryz.sizeOf9
 v9:=Tryz.zeroValue9
 t20:=Tryz.underlying20
 a20:=Tryz.isAgg20
 z20:=Tryz.sizeOf20
 v20:=Tryz.zeroValue20
 t21:=Tryz.underlying21
 a21:=Tryz.isAgg21
 z21:=Tryz.sizeOf21
 v21:=Tryz.zeroValue21
 t37:=Tryz.underlying93
 a37:=Tryz.isAgg93
 z37:=Tryz.sizeOf93
 v37:=Tryz.zeroValue93
 t46:=Tryz.underlying292
 a46:=Tryz.isAgg292
 z46:=Tryz.sizeOf292
 v46:=Tryz.zeroValue292
 t51:=Tryz.underlying300
 a51:=Tryz.isAgg300
 z51:=Tryz.sizeOf300
 v51:=Tryz.zeroValue300
 t53:=Tryz.underlying281
 a53:=Tryz.isAgg281
 z53:=Tryz.sizeOf281
 v53:=Tryz.zeroValue281
 t75:=Tryz.underlying221
 a75:=Tryz.isAgg221
 z75:=Tryz.sizeOf221
 v75:=Tryz.zeroValue221
 t85:=Tryz.underlying305
 a85:=Tryz.isAgg305
 z85:=Tryz.sizeOf305
 v85:=Tryz.zeroValue305
 t127:=Tryz.underlying257
 a127:=Tryz.isAgg257
 z127:=Tryz.sizeOf257
 v127:=Tryz.zeroValue257
 t143:=Tryz.underlying325
 a143:=Tryz.isAgg325
 z143:=Tryz.sizeOf325
 v143:=Tryz.zeroValue325
 t145:=Tryz.underlying327
 a145:=Tryz.isAgg327
 z145:=Tryz.sizeOf327
 v145:=Tryz.zeroValue327
 t167:=Tryz.underlying315
 a167:=Tryz.isAgg315
 z167:=Tryz.sizeOf315
 v167:=Tryz.zeroValue315
 t168:=Tryz.underlying318
 a168:=Tryz.isAgg318
 z168:=Tryz.sizeOf318
 v168:=Tryz.zeroValue318
 t171:=Tryz.underlying90
 a171:=Tryz.isAgg90
 z171:=Tryz.sizeOf90
 v171:=Tryz.zeroValue90
 t173:=Tryz.underlying284
 a173:=Tryz.isAgg284
 z173:=Tryz.sizeOf284
 v173:=Tryz.zeroValue284
 t175:=Tryz.underlying316
 a175:=Tryz.isAgg316
 z175:=Tryz.sizeOf316
 v175:=Tryz.zeroValue316
 t210:=Tryz.underlying323
 a210:=Tryz.isAgg323
 z210:=Tryz.sizeOf323
 v210:=Tryz.zeroValue323
 t212:=Tryz.underlying299
 a212:=Tryz.isAgg299
 z212:=Tryz.sizeOf299
 v212:=Tryz.zeroValue299
 t213:=Tryz.underlying301
 a213:=Tryz.isAgg301
 z213:=Tryz.sizeOf301
 t232:=Tryz.underlying313
 a232:=Tryz.isAgg313
 z232:=Tryz.sizeOf313
 v232:=Tryz.zeroValue313
 t233:=Tryz.underlying314
 a233:=Tryz.isAgg314
 z233:=Tryz.sizeOf314
 v233:=Tryz.zeroValue314
 g15:=by kernel_rfl
 g16:=by kernel_rfl
 g17:=by kernel_rfl
 g18:=by kernel_rfl
 g19:=by kernel_rfl
 t80:=Tryz.underlying82
 a80:=Tryz.isAgg82
 z80:=Tryz.sizeOf82
 v80:=Tryz.zeroValue82
 i0:=by kernel_rfl
 i2:=by kernel_rfl
 i3:=by kernel_rfl
 i4:=by kernel_rfl
 i5:=by kernel_rfl
 i9:=by kernel_rfl
 i20:=by kernel_rfl
 i21:=by kernel_rfl
 i37:=by kernel_rfl
 i46:=by kernel_rfl
 i51:=by kernel_rfl
 i53:=by kernel_rfl
 i75:=by kernel_rfl
 i80:=by kernel_rfl
 i85:=by kernel_rfl
 i127:=by kernel_rfl
 i143:=by kernel_rfl
 i145:=by kernel_rfl
 i167:=by kernel_rfl
 i168:=by kernel_rfl
 i171:=by kernel_rfl
 i173:=by kernel_rfl
 i175:=by kernel_rfl
 i210:=by kernel_rfl
 i212:=by kernel_rfl
 i232:=by kernel_rfl
 i233:=by kernel_rfl
 m15:=by kernel_rfl
 m16:=by kernel_rfl
 m17:=by kernel_rfl
 m18:=by kernel_rfl
 m19:=by kernel_rfl
 c0:=by kernel_rfl
 c2:=by kernel_rfl
 c3:=by kernel_rfl
 c4:=by kernel_rfl
 c5:=by kernel_rfl
 c9:=by kernel_rfl
 c20:=by kernel_rfl
 c21:=by kernel_rfl
 c37:=by kernel_rfl
 c46:=by kernel_rfl
 c51:=by kernel_rfl
 c53:=by kernel_rfl
 c75:=by kernel_rfl
 c80:=by kernel_rfl
 c85:=by kernel_rfl
 c127:=by kernel_rfl
 c143:=by kernel_rfl
 c145:=by kernel_rfl
 c167:=by kernel_rfl
 c168:=by kernel_rfl
 c171:=by kernel_rfl
 c173:=by kernel_rfl
 c175:=by kernel_rfl
 c210:=by kernel_rfl
 c212:=by kernel_rfl
 c213:=by kernel_rfl
 c232:=by kernel_rfl
 c233:=by kernel_rfl}
open Go.RowKit in
theorem Tryz.strconv_ParseInt_10_at64_ok (s:ByteArray)(XK:s.size<=9223372036854775806)(v:Int)(h:Lib.parseIntB 64 s.data.toList=.ok v)(w:World):
  Calls Tryz.prog 240 #[.string s,.int .i64 10,.int .i64 64] w fun e w'=>e=.returned (.tuple #[.int .i64 v,.nilIface])/\(w'=w\/∃t,w'=Lib.bytesWorld w 5 t):=Any.strconv_ParseInt_10_at64_ok Tryz.A6 s XK v h w
open Go.RowKit in
theorem Tryz.strconv_ParseInt_10_at64_syntax (s:ByteArray)(hlim:s.size<=281474976710656)(h:Lib.parseIntB 64 s.data.toList=.«syntax»)(ev:Value)(w:World)(hv:w.cell? ⟨9,0,none⟩=some ev)(hev:ev=.nilIface\/∃te pe,ev=.iface te pe):
  Calls Tryz.prog 240 #[.string s,.int .i64 10,.int .i64 64] w fun e w'=>∃N,e=.returned (.tuple #[.int .i64 (0),.iface 318 (.pointer (some ⟨N,0,none⟩))])/\w.heap.size<=N/\w'.heap[N]?=some (.cells #[.string ⟨#[80,97,114,115,101,73,110,116]⟩,.string s,ev] 323 (0,0))/\Below w.heap.size w w':=Any.strconv_ParseInt_10_at64_syntax Tryz.A6 s hlim h ev w hv hev
open Go.RowKit in
theorem Tryz.strconv_ParseInt_10_at64_range (s:ByteArray)(hlim:s.size<=281474976710656)(h:Lib.parseIntB 64 s.data.toList=.range)(ev:Value)(w:World)(hv:w.cell? ⟨10,0,none⟩=some ev)(hev:ev=.nilIface\/∃te pe,ev=.iface te pe):
  Calls Tryz.prog 240 #[.string s,.int .i64 10,.int .i64 64] w fun e w'=>∃N,e=.returned (.tuple #[.int .i64 (Lib.intSat 64 s.data.toList),.iface 318 (.pointer (some ⟨N,0,none⟩))])/\w.heap.size<=N/\w'.heap[N]?=some (.cells #[.string ⟨#[80,97,114,115,101,73,110,116]⟩,.string s,ev] 323 (0,0))/\Below w.heap.size w w':=Any.strconv_ParseInt_10_at64_range Tryz.A6 s hlim h ev w hv hev
def Tryz.Ho:Go.Shelf.Ren:=⟨fun|145=>230|220=>241|219=>194|217=>222|225=>223|224=>224|267=>225|266=>236|314=>237|n=>n,fun|9=>9|4=>4|59=>296|3=>3|5=>5|46=>292|146=>303|51=>300|n=>n,fun|1=>3|n=>n⟩
theorem Tryz.Vh:Go.Proofs.Lays.n145 Tryz.prog Tryz.Ho:={
 mixed:=by kernel_rfl
 f145:=Tryz.func230.trans (congrArg some (by kernel_rfl))
 f217:=Tryz.func222.trans (congrArg some (by kernel_rfl))
 f219:=Tryz.func194.trans (congrArg some (by kernel_rfl))
 f220:=Tryz.func241.trans (congrArg some (by kernel_rfl))
 f224:=Tryz.func224.trans (congrArg some (by kernel_rfl))
 f225:=Tryz.func223.trans (congrArg some (by kernel_rfl))
 f266:=Tryz.func236.trans (congrArg some (by kernel_rfl))
 f267:=Tryz.func225.trans (congrArg some (by kernel_rfl))
 f314:=Tryz.func237.trans (congrArg some (by kernel_rfl))
 t3:=Tryz.underlying3
 a3:=Tryz.isAgg3
 z3:=Tryz.sizeOf3
 v3:=Tryz.zeroValue3
 t4:=Tryz.underlying4
 a4:=Tryz.isAgg4
 z4:=Tryz.sizeOf4
 v4:=Tryz.zeroValue4
 t5:=Tryz.underlying5
 a5:=Tryz.isAgg5
 z5:=Tryz.sizeOf5
 v5:=Tryz.zeroValue5
 t9:=Tryz.underlying9
 a9:=Tryz.isAgg9
 z9:=Tryz.sizeOf9
 v9:=Tryz.zeroValue9
 t46:=Tryz.underlying292
 a46:=Tryz.isAgg292
 z46:=Tryz.sizeOf292
 v46:=Tryz.zeroValue292
 t51:=Tryz.underlying300
 a51:=Tryz.isAgg300
 z51:=Tryz.sizeOf300
 v51:=Tryz.zeroValue300
 t59:=Tryz.underlying296
 a59:=Tryz.isAgg296
 z59:=Tryz.sizeOf296
 v59:=Tryz.zeroValue296
 t146:=Tryz.underlying303
 a146:=Tryz.isAgg303
 z146:=Tryz.sizeOf303
 v146:=Tryz.zeroValue303
 g1:=by kernel_rfl}
open Go.RowKit Go.Lib in
theorem Tryz.strings_Cut (s sep:ByteArray)(m:Int)(w:World)(hs:s.size<4294967281)(hm:w.cell? ⟨3,0,none⟩=some (.int .i64 m)):
  Calls Tryz.prog 230 #[.string s,.string sep] w fun e w'=>e=.returned (.tuple #[.string ⟨(Lib.cut s.data.toList sep.data.toList).1.toArray⟩,.string ⟨(Lib.cut s.data.toList sep.data.toList).2.1.toArray⟩,.bool (Lib.cut s.data.toList sep.data.toList).2.2])/\∃n,w'=w.drewN n:=Any.strings_Cut Tryz.Vh s sep m w hs hm
def Tryz.Hl:Go.Shelf.Ren:=⟨fun|138=>114|195=>160|218=>161|143=>162|219=>194|217=>222|225=>223|224=>224|267=>225|266=>236|314=>237|n=>n,fun|9=>9|3=>3|4=>4|5=>5|0=>0|46=>292|146=>303|51=>300|n=>n,fun|1=>3|n=>n⟩
theorem Tryz.Vg:Go.Proofs.Lays.n138 Tryz.prog Tryz.Hl:={
 mixed:=by kernel_rfl
 f138:=Tryz.func114.trans (congrArg some (by kernel_rfl))
 f143:=Tryz.func162.trans (congrArg some (by kernel_rfl))
 f195:=Tryz.func160.trans (congrArg some (by kernel_rfl))
 f217:=Tryz.func222.trans (congrArg some (by kernel_rfl))
 f218:=Tryz.func161.trans (congrArg some (by kernel_rfl))
 f219:=Tryz.func194.trans (congrArg some (by kernel_rfl))
 f224:=Tryz.func224.trans (congrArg some (by kernel_rfl))
 f225:=Tryz.func223.trans (congrArg some (by kernel_rfl))
 f266:=Tryz.func236.trans (congrArg some (by kernel_rfl))
 f267:=Tryz.func225.trans (congrArg some (by kernel_rfl))
 f314:=Tryz.func237.trans (congrArg some (by kernel_rfl))
 t0:=Tryz.underlying0
 a0:=Tryz.isAgg0
 z0:=Tryz.sizeOf0
 v0:=Tryz.zeroValue0
 t3:=Tryz.underlying3
 a3:=Tryz.isAgg3
 z3:=Tryz.sizeOf3
 v3:=Tryz.zeroValue3
 t4:=Tryz.underlying4
 a4:=Tryz.isAgg4
 z4:=Tryz.sizeOf4
 v4:=Tryz.zeroValue4
 t5:=Tryz.underlying5
 a5:=Tryz.isAgg5
 z5:=Tryz.sizeOf5
 v5:=Tryz.zeroValue5
 t9:=Tryz.underlying9
 a9:=Tryz.isAgg9
 z9:=Tryz.sizeOf9
 v9:=Tryz.zeroValue9
 t46:=Tryz.underlying292
 a46:=Tryz.isAgg292
 z46:=Tryz.sizeOf292
 v46:=Tryz.zeroValue292
 t51:=Tryz.underlying300
 a51:=Tryz.isAgg300
 z51:=Tryz.sizeOf300
 v51:=Tryz.zeroValue300
 t146:=Tryz.underlying303
 a146:=Tryz.isAgg303
 z146:=Tryz.sizeOf303
 v146:=Tryz.zeroValue303
 g1:=by kernel_rfl}
open Go.RowKit Go.Lib in
theorem Tryz.strings_Count_one (s:ByteArray)(c:UInt8)(w:World):
  Calls Tryz.prog 114 #[.string s,.string ⟨#[c]⟩] w fun e w'=>e=.returned (.int .i64 (Lib.countByte s.data.toList c))/\w'=w:=Any.strings_Count_one Tryz.Vg s c w
def Tryz.Hp:Go.Shelf.Ren:=⟨fun|146=>116|221=>166|268=>200|138=>114|143=>162|195=>160|197=>227|218=>161|219=>194|260=>238|217=>222|225=>223|224=>224|267=>225|266=>236|314=>237|n=>n,fun|9=>9|31=>34|3=>3|4=>4|0=>0|105=>293|21=>21|5=>5|46=>292|119=>308|139=>311|138=>310|146=>303|51=>300|n=>n,fun|1=>3|3=>5|4=>6|n=>n⟩
theorem Tryz.Vi:Go.Proofs.Lays.n146 Tryz.prog Tryz.Hp:={
 mixed:=by kernel_rfl
 f138:=Tryz.func114.trans (congrArg some (by kernel_rfl))
 f143:=Tryz.func162.trans (congrArg some (by kernel_rfl))
 f146:=Tryz.func116.trans (congrArg some (by kernel_rfl))
 f195:=Tryz.func160.trans (congrArg some (by kernel_rfl))
 f197:=Tryz.func227.trans (congrArg some (by kernel_rfl))
 f217:=Tryz.func222.trans (congrArg some (by kernel_rfl))
 f218:=Tryz.func161.trans (congrArg some (by kernel_rfl))
 f219:=Tryz.func194.trans (congrArg some (by kernel_rfl))
 f221:=Tryz.func166.trans (congrArg some (by kernel_rfl))
 f224:=Tryz.func224.trans (congrArg some (by kernel_rfl))
 f225:=Tryz.func223.trans (congrArg some (by kernel_rfl))
 f260:=Tryz.func238.trans (congrArg some (by kernel_rfl))
 f266:=Tryz.func236.trans (congrArg some (by kernel_rfl))
 f267:=Tryz.func225.trans (congrArg some (by kernel_rfl))
 f268:=Tryz.func200.trans (congrArg some (by kernel_rfl))
 f314:=Tryz.func237.trans (congrArg some (by kernel_rfl))
 t0:=Tryz.underlying0
 a0:=Tryz.isAgg0
 z0:=Tryz.sizeOf0
 v0:=Tryz.zeroValue0
 t3:=Tryz.underlying3
 a3:=Tryz.isAgg3
 z3:=Tryz.sizeOf3
 v3:=Tryz.zeroValue3
 t4:=Tryz.underlying4
 a4:=Tryz.isAgg4
 z4:=Tryz.sizeOf4
 v4:=Tryz.zeroValue4
 t5:=Tryz.underlying5
 a5:=Tryz.isAgg5
 z5:=Tryz.sizeOf5
 v5:=Tryz.zeroValue5
 t9:=Tryz.underlying9
 a9:=Tryz.isAgg9
 z9:=Tryz.sizeOf9
 v9:=Tryz.zeroValue9
 t21:=Tryz.underlying21
 a21:=Tryz.isAgg21
 z21:=Tryz.sizeOf21
 v21:=Tryz.zeroValue21
 t31:=Tryz.underlying34
 a31:=Tryz.isAgg34
 z31:=Tryz.sizeOf34
 v31:=Tryz.zeroValue34
 t46:=Tryz.underlying292
 a46:=Tryz.isAgg292
 z46:=Tryz.sizeOf292
 v46:=Tryz.zeroValue292
 t51:=Tryz.underlying300
 a51:=Tryz.isAgg300
 z51:=Tryz.sizeOf300
 v51:=Tryz.zeroValue300
 t105:=Tryz.underlying293
 a105:=Tryz.isAgg293
 z105:=Tryz.sizeOf293
 v105:=Tryz.zeroValue293
 t119:=Tryz.underlying308
 a119:=Tryz.isAgg308
 z119:=Tryz.sizeOf308
 t138:=Tryz.underlying310
 a138:=Tryz.isAgg310
 z138:=Tryz.sizeOf310
 v138:=Tryz.zeroValue310
 t139:=Tryz.underlying311
 a139:=Tryz.isAgg311
 z139:=Tryz.sizeOf311
 v139:=Tryz.zeroValue311
 t146:=Tryz.underlying303
 a146:=Tryz.isAgg303
 z146:=Tryz.sizeOf303
 v146:=Tryz.zeroValue303
 g1:=by kernel_rfl
 g3:=by kernel_rfl
 g4:=by kernel_rfl}
open Go.RowKit Go.Lib in
theorem Tryz.strings_Split (s sep:ByteArray)(m:Int)(w:World)(hs:s.size<4294967281)(hm:w.cell? ⟨3,0,none⟩=some (.int .i64 m))(h1:1<=sep.size):
  Calls Tryz.prog 116 #[.string s,.string sep] w fun e w'=>
   e=.returned (.slice (some ⟨w.heap.size,0,none⟩) (Lib.countB s sep+1) (Lib.countB s sep+1))/\w'=w.alloc (.cells ((Lib.splitB sep 0 (Lib.countB s sep) s).map Value.string).toArray 9):=Any.strings_Split Tryz.Vi (by kernel_rfl) s sep m w hs hm h1
def Tryz.Hs:Go.Shelf.Ren:=⟨fun|147=>195|221=>166|268=>200|138=>114|143=>162|195=>160|197=>227|218=>161|219=>194|260=>238|217=>222|225=>223|224=>224|267=>225|266=>236|314=>237|n=>n,fun|9=>9|3=>3|31=>34|4=>4|0=>0|105=>293|21=>21|5=>5|46=>292|119=>308|139=>311|138=>310|146=>303|51=>300|n=>n,fun|1=>3|3=>5|4=>6|n=>n⟩
theorem Tryz.Vj:Go.Proofs.Lays.n147 Tryz.prog Tryz.Hs:={
 mixed:=by kernel_rfl
 f138:=Tryz.func114.trans (congrArg some (by kernel_rfl))
 f143:=Tryz.func162.trans (congrArg some (by kernel_rfl))
 f147:=Tryz.func195.trans (congrArg some (by kernel_rfl))
 f195:=Tryz.func160.trans (congrArg some (by kernel_rfl))
 f197:=Tryz.func227.trans (congrArg some (by kernel_rfl))
 f217:=Tryz.func222.trans (congrArg some (by kernel_rfl))
 f218:=Tryz.func161.trans (congrArg some (by kernel_rfl))
 f219:=Tryz.func194.trans (congrArg some (by kernel_rfl))
 f221:=Tryz.func166.trans (congrArg some (by kernel_rfl))
 f224:=Tryz.func224.trans (congrArg some (by kernel_rfl))
 f225:=Tryz.func223.trans (congrArg some (by kernel_rfl))
 f260:=Tryz.func238.trans (congrArg some (by kernel_rfl))
 f266:=Tryz.func236.trans (congrArg some (by kernel_rfl))
 f267:=Tryz.func225.trans (congrArg some (by kernel_rfl))
 f268:=Tryz.func200.trans (congrArg some (by kernel_rfl))
 f314:=Tryz.func237.trans (congrArg some (by kernel_rfl))
 t0:=Tryz.underlying0
 a0:=Tryz.isAgg0
 z0:=Tryz.sizeOf0
 v0:=Tryz.zeroValue0
 t3:=Tryz.underlying3
 a3:=Tryz.isAgg3
 z3:=Tryz.sizeOf3
 v3:=Tryz.zeroValue3
 t4:=Tryz.underlying4
 a4:=Tryz.isAgg4
 z4:=Tryz.sizeOf4
 v4:=Tryz.zeroValue4
 t5:=Tryz.underlying5
 a5:=Tryz.isAgg5
 z5:=Tryz.sizeOf5
 v5:=Tryz.zeroValue5
 t9:=Tryz.underlying9
 a9:=Tryz.isAgg9
 z9:=Tryz.sizeOf9
 v9:=Tryz.zeroValue9
 t21:=Tryz.underlying21
 a21:=Tryz.isAgg21
 z21:=Tryz.sizeOf21
 v21:=Tryz.zeroValue21
 t31:=Tryz.underlying34
 a31:=Tryz.isAgg34
 z31:=Tryz.sizeOf34
 v31:=Tryz.zeroValue34
 t46:=Tryz.underlying292
 a46:=Tryz.isAgg292
 z46:=Tryz.sizeOf292
 v46:=Tryz.zeroValue292
 t51:=Tryz.underlying300
 a51:=Tryz.isAgg300
 z51:=Tryz.sizeOf300
 v51:=Tryz.zeroValue300
 t105:=Tryz.underlying293
 a105:=Tryz.isAgg293
 z105:=Tryz.sizeOf293
 v105:=Tryz.zeroValue293
 t119:=Tryz.underlying308
 a119:=Tryz.isAgg308
 z119:=Tryz.sizeOf308
 t138:=Tryz.underlying310
 a138:=Tryz.isAgg310
 z138:=Tryz.sizeOf310
 v138:=Tryz.zeroValue310
 t139:=Tryz.underlying311
 a139:=Tryz.isAgg311
 z139:=Tryz.sizeOf311
 v139:=Tryz.zeroValue311
 t146:=Tryz.underlying303
 a146:=Tryz.isAgg303
 z146:=Tryz.sizeOf303
 v146:=Tryz.zeroValue303
 g1:=by kernel_rfl
 g3:=by kernel_rfl
 g4:=by kernel_rfl}
open Go.RowKit Go.Lib in
theorem Tryz.strings_SplitN (s sep:ByteArray)(n:Nat)(m:Int)(w:World)(hs:s.size<4294967281)(hm:w.cell? ⟨3,0,none⟩=some (.int .i64 m))(h1:1<=sep.size)(hn:1<=n)(hn63:n<=9223372036854775807):
  Calls Tryz.prog 195 #[.string s,.string sep,.int .i64 n] w fun e w'=>
   e=.returned (.slice (some ⟨w.heap.size,0,none⟩) (Lib.splitB sep 0 (min n (s.size+1)-1) s).length (min n (s.size+1)))/\w'=w.alloc (.cells (Lib.cellsOf (Lib.splitB sep 0 (min n (s.size+1)-1) s) (min n (s.size+1))) 9):=Any.strings_SplitN Tryz.Vj (by kernel_rfl) s sep n m w hs hm h1 hn hn63
end Go.Proofs
namespace Go.Proofs.YtmlgajhhnojdjaaGreatDoor
namespace Aux
open Go Go.RowKit Sq
def Ac (w:World)(v:Value)(L:List B):Prop:=
 ∃g cap,v=.slice (some ⟨g,0,none⟩) L.length cap/\L.length<=cap/\g<w.heap.size/\∀j,j<L.length->w.cell? ⟨g,j,none⟩=some (.string (bs (word L j)))
def xt (w:World)(v:Value)(L:List Nat):Prop:=
 (L=[]/\v=.slice none 0 0)\/∃g cap,v=.slice (some ⟨g,0,none⟩) L.length cap/\L.length<=cap/\g<w.heap.size/\∀j,j<L.length->w.cell? ⟨g,j,none⟩=some (.int .i64 (L.getD j 0))
def zw (w:World)(v:Value)(L:List (List B)):Prop:=
 (L=[]/\v=.slice none 0 0)\/∃g cap,v=.slice (some ⟨g,0,none⟩) L.length cap/\L.length<=cap/\g<w.heap.size/\∀j,j<L.length->∃u,w.cell? ⟨g,j,none⟩=some u/\Ac w u (L.getD j [])
structure bd (w:World)(a:Nat)(p:RP):Prop where
 lt:a<w.heap.size
 lines:∃v,w.cell? ⟨a,0,none⟩=some v/\zw w v p.lines
 lets:∃v,w.cell? ⟨a,1,none⟩=some v/\xt w v p.lets
 blocks:∃v,w.cell? ⟨a,2,none⟩=some v/\xt w v p.blocks
 raw:w.cell? ⟨a,3,none⟩=some (.bool p.raw)
theorem Ac.below {w w':World}{v:Value}{L:List B}(h:Ac w v L)(hb:Below w.heap.size w w'):Ac w' v L:=by
 obtain⟨g,cap,rfl,hc,hg,aC⟩:=h;exact⟨g,cap,rfl,hc,jK hg hb.size,fun j hj=>(hb.cell (p:=⟨g,j,none⟩) hg).trans (aC j hj)⟩
theorem xt.below {w w':World}{v:Value}{L:List Nat}(h:xt w v L)(hb:Below w.heap.size w w'):xt w' v L:=by
 rcases h with h|⟨g,cap,rfl,hc,hg,aC⟩
 ·exact .inl h
 ·exact .inr ⟨g,cap,rfl,hc,jK hg hb.size,fun j hj=>(hb.cell (p:=⟨g,j,none⟩) hg).trans (aC j hj)⟩
theorem zw.below {w w':World}{v:Value}{L:List (List B)}(h:zw w v L)(hb:Below w.heap.size w w'):zw w' v L:=by
 rcases h with h|⟨g,cap,rfl,hc,hg,aC⟩
 ·exact .inl h
 ·exact .inr ⟨g,cap,rfl,hc,jK hg hb.size,fun j hj=>by
   obtain⟨u,hu,hr⟩:=aC j hj;exact⟨u,(hb.cell (p:=⟨g,j,none⟩) hg).trans hu,hr.below hb⟩⟩
theorem bd.below {w w':World}{a:Nat}{p:RP}(h:bd w a p)(hb:Below w.heap.size w w'):bd w' a p:=by
 obtain⟨aK,⟨v1,h1,r1⟩,⟨v2,h2,r2⟩,⟨v3,h3,r3⟩,h4⟩:=h;exact⟨jK aK hb.size,⟨v1,(hb.cell (p:=⟨a,0,none⟩) aK).trans h1,r1.below hb⟩,⟨v2,(hb.cell (p:=⟨a,1,none⟩) aK).trans h2,r2.below hb⟩,
  ⟨v3,(hb.cell (p:=⟨a,2,none⟩) aK).trans h3,r3.below hb⟩,(hb.cell (p:=⟨a,3,none⟩) aK).trans h4⟩
theorem bd.drewN {w:World}{a:Nat}{p:RP}(h:bd w a p)(n:Nat):bd (w.drewN n) a p:=h.below (below_drewN (Below.refl _ _) n)
theorem bd.gG {w:World}{a:Nat}{p:RP}(h:bd w a p)(i:Nat)(hi:i<p.lines.length):
  ∃(g cap gl dr:Nat),w.cell? ⟨a,0,none⟩=some (.slice (some ⟨g,0,none⟩) p.lines.length cap)/\p.lines.length<=cap/\w.cell? ⟨g,i,none⟩=some (.slice (some ⟨gl,0,none⟩) (p.line i).length dr)/\(p.line i).length<=dr/\
   ∀j,j<(p.line i).length->w.cell? ⟨gl,j,none⟩=some (.string (bs (word (p.line i) j))):=by
 obtain⟨v,hv,hr⟩:=h.lines;rcases hr with⟨he,_⟩|⟨g,cap,rfl,hc,hg,aC⟩
 ·rw[he]at hi;simp at hi
 ·obtain⟨u,hu,gl,dr,rfl,AV,Wg,hw⟩:=aC i hi;exact⟨g,cap,gl,dr,hv,hc,hu,AV,hw⟩
theorem bd.M0 {w:World}{a:Nat}{p:RP}(h:bd w a p):
  ∃v,w.cell? ⟨a,1,none⟩=some v/\((p.lets=[]/\v=.slice none 0 0)\/∃g cap,v=.slice (some ⟨g,0,none⟩) p.lets.length cap/\p.lets.length<=cap/\∀j,j<p.lets.length->w.cell? ⟨g,j,none⟩=some (.int .i64 (p.lets.getD j 0))):=by
 obtain⟨v,hv,hr⟩:=h.lets;rcases hr with hr|⟨g,cap,e,hc,_,aC⟩
 ·exact⟨v,hv,.inl hr⟩
 ·exact⟨v,hv,.inr ⟨g,cap,e,hc,aC⟩⟩
theorem bd.oH {w:World}{a:Nat}{p:RP}(h:bd w a p):
  ∃v,w.cell? ⟨a,2,none⟩=some v/\((p.blocks=[]/\v=.slice none 0 0)\/∃g cap,v=.slice (some ⟨g,0,none⟩) p.blocks.length cap/\p.blocks.length<=cap/\∀j,j<p.blocks.length->w.cell? ⟨g,j,none⟩=some (.int .i64 (p.blocks.getD j 0))):=by
 obtain⟨v,hv,hr⟩:=h.blocks;rcases hr with hr|⟨g,cap,e,hc,_,aC⟩
 ·exact⟨v,hv,.inl hr⟩
 ·exact⟨v,hv,.inr ⟨g,cap,e,hc,aC⟩⟩
theorem bd.EJ {w:World}{a:Nat}{p:RP}(h:bd w a p)(j:Nat)(hj:j<p.lets.length):
  ∃g cap,w.cell? ⟨a,1,none⟩=some (.slice (some ⟨g,0,none⟩) p.lets.length cap)/\p.lets.length<=cap/\w.cell? ⟨g,j,none⟩=some (.int .i64 (p.lets.getD j 0)):=by
 obtain⟨v,hv,hr⟩:=h.M0;rcases hr with⟨he,_⟩|⟨g,cap,rfl,hc,aC⟩
 ·rw[he]at hj;simp at hj
 ·exact⟨g,cap,hv,hc,aC j hj⟩
theorem bd.An {w:World}{a:Nat}{p:RP}(h:bd w a p)(j:Nat)(hj:j<p.blocks.length):
  ∃g cap,w.cell? ⟨a,2,none⟩=some (.slice (some ⟨g,0,none⟩) p.blocks.length cap)/\p.blocks.length<=cap/\w.cell? ⟨g,j,none⟩=some (.int .i64 (p.blocks.getD j 0)):=by
 obtain⟨v,hv,hr⟩:=h.oH;rcases hr with⟨he,_⟩|⟨g,cap,rfl,hc,aC⟩
 ·rw[he]at hj;simp at hj
 ·exact⟨g,cap,hv,hc,aC j hj⟩
theorem bd.q8 {w:World}{a:Nat}{p:RP}(h:bd w a p):∃b cap,w.cell? ⟨a,1,none⟩=some (.slice b p.lets.length cap):=by
 obtain⟨v,hv,hr⟩:=h.M0;rcases hr with⟨he,rfl⟩|⟨g,cap,rfl,hc,aC⟩
 ·exact⟨none,0,by rw[he];exact hv⟩
 ·exact⟨_,cap,hv⟩
theorem bd.pw {w:World}{a:Nat}{p:RP}(h:bd w a p):∃b cap,w.cell? ⟨a,2,none⟩=some (.slice b p.blocks.length cap):=by
 obtain⟨v,hv,hr⟩:=h.oH;rcases hr with⟨he,rfl⟩|⟨g,cap,rfl,hc,aC⟩
 ·exact⟨none,0,by rw[he];exact hv⟩
 ·exact⟨_,cap,hv⟩
end Aux
namespace Aux
open Go Go.RowKit
theorem Ai {P:Program}{w:World}{ops:Array Oper}{rest:List Oper}{o:Oper}{a:Act}{Q:Exit->Act->World->Prop}(Kj:o.guard=none)(s x:Operand)(t:TypeId)
  (ho:o.op=.call {callee:=.builtin .append,args:= #[s,x],argTypes:= #[t,t]})
  (base:Nat) (e:TypeId) (i:TypeInfo) (z:Value) (bytes:Nat) (ht:P.underlying t=some (.slice e)) (hi:P.info? e=some i) (hz:i.zero=some z)
  (hsize:i.size=1) (hby:i.bytes=bytes) (hzs:z.cells.size=1)
  (v:Value) (n:Nat) (xs:List Value) (hs:a.eval s=v) (jr:w.ownsRow base e 1 v n xs)
  (u:Value) (hx:a.eval x=.slice (some ⟨w.heap.size,0,none⟩) 1 1) (h1:u.oneCell'=true)
  (av:1<=bytes) (hbytes:(n+1)*bytes<=140737488355328) (qO:base<=w.heap.size)
  (h:∀v' w',w'.ownsRow base e 1 v' (n+1) (xs++[u])->(w.alloc (.cells #[u] e)).grownBy w' v.ownBlock->wpList P ops Q rest (a.put o.dst v') w'):wpList P ops Q (o::rest) a (w.alloc (.cells #[u] e)):=by
 refine wpList_append_own _ Kj s x t ho base e i z 1 bytes ht hi hz hsize hby hzs (by decide) v n xs hs (jr.alloc _) ⟨w.heap.size,0,none⟩ 1 1 [u] hx rfl ?_ ?_ ?_ hbytes ?_ (fun v' w' a b _=>h v' w' a b)
 ·intro j u' hj
  match j,hj with
  |0,hj=>simp at hj;subst hj;simp[Addr.add]
 ·intro u' hu;simp at hu;subst hu;exact h1
 ·have:n+1<=(n+1)*bytes:=Nat.le_mul_of_pos_right _ av;unfold maxLen;omega
 ·simp;omega
theorem fp {B:Nat}{w0 w w':World}{o:Obj}{base:Nat}{e:TypeId}{size:Nat}{v:Value}{n:Nat}{xs:List Value}(hb:Below B w0 w)(hB:B<=base)(qO:base<=w.heap.size)
  (jr:w.ownsRow base e size v n xs) (hg:(w.alloc o).grownBy w' v.ownBlock):Below B w0 w':=by
 refine(hb.alloc (by omega) o).grown hg (by simp;omega) fun k hk=> ?_
 have:=jr.lt k hk;omega
end Aux
namespace Aux
open Go Go.RowKit Sq
section
variable {w w':World} {b1 b2:Nat} {e1 e2:TypeId} {s1 s2:Nat} {v1 v2:Value} {n1 n2:Nat} {x1 x2:List Value}
theorem cZ (h1:w.ownsRow b1 e1 s1 v1 n1 x1)(h2:w.ownsRow b2 e2 s2 v2 n2 x2)(he:e1≠e2):v1.ownBlock=none\/v1.ownBlock≠v2.ownBlock:=by
 obtain⟨-,h1⟩:=h1;obtain⟨-,h2⟩:=h2;rcases h1 with⟨rfl,-⟩|⟨g,cap,cur,rfl,-,hg,-⟩
 ·exact .inl rfl
 ·refine .inr ?_;rcases h2 with⟨rfl,-⟩|⟨g',cap',cur',rfl,-,Rv,-⟩
  ·simp[Value.ownBlock]
  ·simp only[Value.ownBlock,ne_eq,Option.some.injEq];intro e;rw[e,Rv]at hg;simp only[Option.some.injEq,Obj.cells.injEq]at hg;exact he hg.2.1.symm
theorem ar (h1:w.ownsRow b1 e1 s1 v1 n1 x1){a:Nat}{cs:Array Value}{f:Nat×Nat}(ha:w.heap[a]?=some (.cells cs e2 f))(he:e1≠e2):v1.ownBlock≠some a:=by
 obtain⟨-,h1⟩:=h1;rcases h1 with⟨rfl,-⟩|⟨g,cap,cur,rfl,-,hg,-⟩
 ·simp[Value.ownBlock]
 ·simp only[Value.ownBlock,ne_eq,Option.some.injEq];intro e;rw[e,ha]at hg;simp only[Option.some.injEq,Obj.cells.injEq]at hg;exact he hg.2.1.symm
theorem gh (h:w.ownsRow b1 e1 s1 v1 n1 x1)(hw:∀g,v1.ownBlock=some g->w'.heap[g]?=w.heap[g]?):w'.ownsRow b1 e1 s1 v1 n1 x1:=by
 obtain⟨h0,h⟩:=h;refine⟨h0,?_⟩;rcases h with h|⟨g,cap,cur,rfl,hb,hg,r⟩
 ·exact .inl h
 ·exact .inr ⟨g,cap,cur,rfl,hb,by rw[hw g rfl];exact hg,r⟩
theorem ax (h:w.ownsRow b1 e1 s1 v1 n1 x1)(hb:Below w.heap.size w w'):w'.ownsRow b1 e1 s1 v1 n1 x1:=
 gh h fun g hg=>hb.block g (h.lt g hg).2
theorem au (h:w.ownsRow b1 e1 s1 v1 n1 x1){a:Addr}(u:Value)(ea:v1.ownBlock≠some a.block):(w.setCell a u).ownsRow b1 e1 s1 v1 n1 x1:=
 gh h fun g hg=>Below.heap_setCell _ _ _ _ (fun e=>ea (by rw[hg,e]))
theorem oX (h:w.ownsRow b1 e1 s1 v1 n1 x1)(hb:b2<=b1):w.ownsRow b2 e1 s1 v1 n1 x1:=by
 obtain⟨h0,h⟩:=h;refine⟨h0,?_⟩;rcases h with h|⟨g,cap,cur,rfl,Fz,r⟩
 ·exact .inl h
 ·exact .inr ⟨g,cap,cur,rfl,by omega,r⟩
theorem LF (h:w.ownsRow b1 e1 s1 v1 n1 x1):∀g,v1.ownBlock=some g->g<w.heap.size:=fun g hg=>(h.lt g hg).2
end
theorem heap_setCell_same {w:World}{a:Nat}{cs:Array Value}{e:TypeId}{f:Nat×Nat}(h:w.heap[a]?=some (.cells cs e f))(o:Nat)(u:Value):(w.setCell ⟨a,o,none⟩ u).heap[a]?=some (.cells (cs.setIfInBounds o u) e f):=by
 simp[World.setCell,Array.getElem?_modify,h]
theorem cell_of_heap {w:World}{a:Nat}{cs:Array Value}{e:TypeId}{f:Nat×Nat}(h:w.heap[a]?=some (.cells cs e f))(o:Nat):w.cell? ⟨a,o,none⟩=cs[o]?:=by
 simp[World.cell?,h]
theorem frozen_of_heap {w:World}{a:Nat}{cs:Array Value}{e:TypeId}(h:w.heap[a]?=some (.cells cs e (0,0)))(o:Nat):w.frozen? ⟨a,o,none⟩=false:=by
 simp[World.frozen?,h]
def dG (l:List Nat):List Value:=l.map fun(n:Nat)=> .int .i64 (n:Int)
structure j8 (z a:Nat)(w:World)(p:RP)(vl vt vb:Value)(us:List Value):Prop where
 base:z<=a
 aI:w.heap[a]?=some (.cells #[vl,vt,vb,.bool p.raw] 128 (0,0))
 lines:w.ownsRow z 34 1 vl p.lines.length us
 each:∀j,j<us.length->w.ownsRow z 9 1 (us.getD j undef) (p.line j).length (cellsOf (p.line j))
 lets:w.ownsRow z 3 1 vt p.lets.length (dG p.lets)
 blocks:w.ownsRow z 3 1 vb p.blocks.length (dG p.blocks)
 apart:vt.ownBlock=none\/vb.ownBlock=none\/vt.ownBlock≠vb.ownBlock
theorem j8.WK {z a:Nat}{w:World}{p:RP}{vl vt vb:Value}{us:List Value}(h:j8 z a w p vl vt vb us):us.length=p.lines.length:=by
 have:=h.lines.1;omega
theorem j8.lt {z a:Nat}{w:World}{p:RP}{vl vt vb:Value}{us:List Value}(h:j8 z a w p vl vt vb us):a<w.heap.size:=by
 have:=h.aI;rw[Array.getElem?_eq_some_iff]at this;exact this.1
theorem yl {w:World}{z:Nat}{v:Value}{L:List B}(h:w.ownsRow z 9 1 v L.length (cellsOf L))(hL:1<=L.length):Ac w v L:=by
 have hl:=h.lt;obtain⟨h0,h⟩:=h;rcases h with⟨-,h⟩|⟨g,cap,cur,rfl,hb,hg,hc,hm,hs,ht⟩
 ·omega
 ·refine⟨g,cap,rfl,hc,(hl g rfl).2,fun j hj=> ?_⟩;rw[cell_of_heap hg];have:(cur.toList.take (L.length*1))[j]?=cur[j]?:=by
   rw[List.getElem?_take,jb (by omega)];simp
  rw[<-this,ht,cellsOf,jJ];simp[word,hj]
theorem Dj {w:World}{z:Nat}{v:Value}{L:List Nat}(h:w.ownsRow z 3 1 v L.length (dG L)):xt w v L:=by
 have hl:=h.lt;obtain⟨h0,h⟩:=h;rcases h with⟨h,h'⟩|⟨g,cap,cur,rfl,hb,hg,hc,hm,hs,ht⟩
 ·exact .inl ⟨List.eq_nil_of_length_eq_zero h',h⟩
 ·refine .inr ⟨g,cap,rfl,hc,(hl g rfl).2,fun j hj=> ?_⟩;rw[cell_of_heap hg];have:(cur.toList.take (L.length*1))[j]?=cur[j]?:=by
   rw[List.getElem?_take,jb (by omega)];simp
  rw[<-this,ht,dG,jJ];simp[hj]
theorem j8.yb {z a:Nat}{w:World}{p:RP}{vl vt vb:Value}{us:List Value}(h:j8 z a w p vl vt vb us)(hw:∀i,i<p.lines.length->1<=(p.line i).length):bd w a p:=by
 have hu:=h.WK;refine⟨h.lt,⟨vl,by rw[cell_of_heap h.aI];rfl,?_⟩,⟨vt,by rw[cell_of_heap h.aI];rfl,Dj h.lets⟩,⟨vb,by rw[cell_of_heap h.aI];rfl,Dj h.blocks⟩,by rw[cell_of_heap h.aI];rfl⟩;have hl:=h.lines.lt;obtain⟨h0,hh⟩:=h.lines;rcases hh with⟨hh,h'⟩|⟨g,cap,cur,rfl,hb,hg,hc,hm,hs,ht⟩
 ·exact .inl ⟨List.eq_nil_of_length_eq_zero h',hh⟩
 ·refine .inr ⟨g,cap,rfl,hc,(hl g rfl).2,fun j hj=> ?_⟩;rw[cell_of_heap hg];have:(cur.toList.take (p.lines.length*1))[j]?=cur[j]?:=by
   rw[List.getElem?_take,jb (by omega)];simp
  rw[<-this,ht];refine⟨us.getD j undef,by simp[hu,hj],?_⟩;have he:=h.each j (by omega);exact yl he (hw j hj)
theorem j8.below {z a:Nat}{w w':World}{p:RP}{vl vt vb:Value}{us:List Value}(h:j8 z a w p vl vt vb us)(hb:Below w.heap.size w w'):j8 z a w' p vl vt vb us:=
 ⟨h.base,by rw[hb.block a h.lt];exact h.aI,ax h.lines hb,fun j hj=>ax (h.each j hj) hb,ax h.lets hb,ax h.blocks hb,h.apart⟩
theorem j8.addLine {z a:Nat}{w w2 w3:World}{p:RP}{vl vt vb vl' u:Value}{us:List Value}{L:List B}{o:Obj}(h:j8 z a w p vl vt vb us)
  (hu:w.ownsRow z 9 1 u L.length (cellsOf L)) (h2:w2=w.alloc o) (h3:w3.ownsRow z 34 1 vl' (p.lines.length+1) (us++[u])) (hg:w2.grownBy w3 vl.ownBlock):
  j8 z a (w3.setCell ⟨a,0,none⟩ vl') {p with lines:=p.lines++[L]} vl' vt vb (us++[u]):=by
 subst h2;have lH:Below w.heap.size w (w.alloc o):=(Below.refl _ _).alloc (jC _) o;have H:=h.below lH;have hua:=ax hu lH;have ea:some a≠vl.ownBlock:=(ar H.lines H.aI (by decide)).symm;have bU:w3.heap[a]?=some (.cells #[vl,vt,vb,.bool p.raw] 128 (0,0)):=by rw[hg.block a H.lt ea];exact H.aI
 have de:∀{e:TypeId} {v:Value} {n:Nat} {xs:List Value},(w.alloc o).ownsRow z e 1 v n xs->e≠34->e≠128->(w3.setCell ⟨a,0,none⟩ vl').ownsRow z e 1 v n xs:=by
  intro e v n xs hv he Jp;have hk:=hv.kept hg (cZ hv H.lines he);exact au hk _ (ar hk bU Jp)
 have hlen:=h.WK;refine⟨h.base,?_,?_,fun j hj=> ?_,de H.lets (by decide) (by decide),de H.blocks (by decide) (by decide),h.apart⟩
 ·rw[heap_setCell_same bU];rfl
 ·have:=au h3 (a:=⟨a,0,none⟩) vl' (ar h3 bU (by decide));simpa using this
 ·simp at hj;have vC:∀j,RP.line {p with lines:=p.lines++[L]} j=if j<p.lines.length then p.line j else if j=p.lines.length then L else []:=by
   intro j;simp only[RP.line,List.getD_eq_getElem?_getD,List.getElem?_append];split
   ·rfl
   ·split
    ·rename_i h1 h2;subst h2;simp
    ·rw[jG (by simp;omega)];rfl
  rw[vC];by_cases aK:j<us.length
  ·rw[jb (by omega)];have:(us++[u]).getD j undef=us.getD j undef:=by simp[List.getD_eq_getElem?_getD,List.getElem?_append,aK]
   rw[this];exact de (H.each j aK) (by decide) (by decide)
  ·obtain rfl:j=us.length:=by omega
   rw[ja (by omega),jb hlen];have:(us++[u]).getD us.length undef=u:=by simp[List.getD_eq_getElem?_getD]
   rw[this];exact de hua (by decide) (by decide)
end Aux
namespace Aux
open Go Go.RowKit Sq
section
variable {P:Program} {w:World} {ops:Array Oper} {rest:List Oper} {o:Oper} {a:Act} {Q:Exit->Act->World->Prop}
theorem qC (Kj:o.guard=none)(s x:Operand)(t:TypeId)
  (ho:o.op=.call {callee:=.builtin .append,args:= #[s,x],argTypes:= #[t,t]})
  (base:Nat) (e:TypeId) (i:TypeInfo) (z:Value) (bytes:Nat) (ht:P.underlying t=some (.slice e)) (hi:P.info? e=some i) (hz:i.zero=some z)
  (hsize:i.size=1) (hby:i.bytes=bytes) (hzs:z.cells.size=1)
  (v:Value) (n:Nat) (xs:List Value) (hs:a.eval s=v) (jr:w.ownsRow base e 1 v n xs)
  (u:Value) (hx:a.eval x=.slice (some ⟨w.heap.size,0,none⟩) 1 1) (h1:u.oneCell'=true)
  (av:1<=bytes) (hbytes:(n+1)*bytes<=140737488355328) (qO:base<=w.heap.size)
  (h:∀g cap w',w'.ownsRow base e 1 (.slice (some ⟨g,0,none⟩) (n+1) cap) (n+1) (xs++[u])->(w.alloc (.cells #[u] e)).grownBy w' v.ownBlock->(v.ownBlock=some g\/g=w.heap.size+1)->g<w'.heap.size->wpList P ops Q rest (a.put o.dst (.slice (some ⟨g,0,none⟩) (n+1) cap)) w'):wpList P ops Q (o::rest) a (w.alloc (.cells #[u] e)):=by
 refine wpList_append_lies _ Kj s x t ho base e i z 1 bytes ht hi hz hsize hby hzs (by decide) v n xs hs (jr.alloc _) ⟨w.heap.size,0,none⟩ 1 1 [u] hx rfl ?_ ?_ (by decide) ?_ hbytes ?_ (w.heap.size+1) (by simp) h
 ·intro j u' hj
  match j,hj with
  |0,hj=>simp at hj;subst hj;simp[Addr.add]
 ·intro u' hu;simp at hu;subst hu;exact h1
 ·have:n+1<=(n+1)*bytes:=Nat.le_mul_of_pos_right _ av;unfold maxLen;omega
 ·simp;omega
theorem PL {K:Act->World->Prop}{E:Prop}(Kj:o.guard=none)(s x:Operand)(t:TypeId)
  (ho:o.op=.call {callee:=.builtin .append,args:= #[s,x],argTypes:= #[t,t]})
  (base:Nat) (e:TypeId) (i:TypeInfo) (z:Value) (bytes:Nat) (ht:P.underlying t=some (.slice e)) (hi:P.info? e=some i) (hz:i.zero=some z)
  (hsize:i.size=1) (hby:i.bytes=bytes) (hzs:z.cells.size=1)
  (v:Value) (n:Nat) (xs:List Value) (hs:a.eval s=v) (jr:w.ownsRow base e 1 v n xs)
  (u:Value) (hx:a.eval x=.slice (some ⟨w.heap.size,0,none⟩) 1 1) (h1:u.oneCell'=true)
  (av:1<=bytes) (hbytes:(n+1)*bytes<=140737488355328) (qO:base<=w.heap.size)
  (h:∀g cap w',w'.ownsRow base e 1 (.slice (some ⟨g,0,none⟩) (n+1) cap) (n+1) (xs++[u])->(w.alloc (.cells #[u] e)).grownBy w' v.ownBlock->(v.ownBlock=some g\/g=w.heap.size+1)->g<w'.heap.size->K (a.put o.dst (.slice (some ⟨g,0,none⟩) (n+1) cap)) w'):
  if Region.wanted o (yielded ops a.tmps)=true then Oper.wp P o a (w.alloc (.cells #[u] e)) K Q else E:=by
 refine step_append_lies _ Kj s x t ho base e i z 1 bytes ht hi hz hsize hby hzs (by decide) v n xs hs (jr.alloc _) ⟨w.heap.size,0,none⟩ 1 1 [u] hx rfl ?_ ?_ (by decide) ?_ hbytes ?_ (w.heap.size+1) (by simp) h
 ·intro j u' hj
  match j,hj with
  |0,hj=>simp at hj;subst hj;simp[Addr.add]
 ·intro u' hu;simp at hu;subst hu;exact h1
 ·have:n+1<=(n+1)*bytes:=Nat.le_mul_of_pos_right _ av;unfold maxLen;omega
 ·simp;omega
end
section
variable {z a:Nat} {w w3:World} {p:RP} {vl vt vb v':Value} {us:List Value} {o:Obj}
theorem j8.dC (h:j8 z a w p vl vt vb us)(k:Nat)(h3:w3.ownsRow z 3 1 v' (p.lets.length+1) (dG p.lets++[.int .i64 (k:Int)]))(hg:(w.alloc o).grownBy w3 vt.ownBlock)
  (Ep:∀g,v'.ownBlock=some g->vt.ownBlock=some g\/g=w.heap.size+1):
  j8 z a (w3.setCell ⟨a,1,none⟩ v') {p with lets:=p.lets++[k]} vl v' vb us:=by
 have lH:Below w.heap.size w (w.alloc o):=(Below.refl _ _).alloc (jC _) o;have H:=h.below lH;have ea:some a≠vt.ownBlock:=(ar H.lets H.aI (by decide)).symm;have bU:w3.heap[a]?=some (.cells #[vl,vt,vb,.bool p.raw] 128 (0,0)):=by rw[hg.block a H.lt ea];exact H.aI
 have de:∀{e:TypeId} {v:Value} {n:Nat} {xs:List Value},(w.alloc o).ownsRow z e 1 v n xs->(v.ownBlock=none\/v.ownBlock≠vt.ownBlock)->e≠128->(w3.setCell ⟨a,1,none⟩ v').ownsRow z e 1 v n xs:=by
  intro e v n xs hv hn Jp;have hk:=hv.kept hg hn;exact au hk _ (ar hk bU Jp)
 refine⟨h.base,?_,de H.lines (cZ H.lines H.lets (by decide)) (by decide),fun j hj=>de (H.each j hj) (cZ (H.each j hj) H.lets (by decide)) (by decide),?_,de H.blocks ?_ (by decide),?_⟩
 ·rw[heap_setCell_same bU];rfl
 ·have:=au h3 (a:=⟨a,1,none⟩) v' (ar h3 bU (by decide));simpa [dG]using this
 ·rcases h.apart with hx|hx|hx
  ·cases hb:vb.ownBlock with
   |none=>exact .inl rfl
   |some g=>exact .inr (by rw[hx];simp)
  ·exact .inl hx
  ·exact .inr (Ne.symm hx)
 ·cases hv':v'.ownBlock with
  |none=>exact .inl rfl
  |some g=>
   cases hb:vb.ownBlock with
   |none=>exact .inr (.inl rfl)
   |some g'=>
    refine .inr (.inr ?_);rcases Ep g hv' with hx|hx
    ·rcases h.apart with hy|hy|hy
     ·rw[hx]at hy;cases hy
     ·rw[hb]at hy;cases hy
     ·rw[hx,hb]at hy;exact hy
    ·have:=LF h.blocks g' hb;simp;omega
theorem j8.addBlock (h:j8 z a w p vl vt vb us)(k:Nat)(h3:w3.ownsRow z 3 1 v' (p.blocks.length+1) (dG p.blocks++[.int .i64 (k:Int)]))(hg:(w.alloc o).grownBy w3 vb.ownBlock)
  (Ep:∀g,v'.ownBlock=some g->vb.ownBlock=some g\/g=w.heap.size+1):
  j8 z a (w3.setCell ⟨a,2,none⟩ v') {p with blocks:=p.blocks++[k]} vl vt v' us:=by
 have lH:Below w.heap.size w (w.alloc o):=(Below.refl _ _).alloc (jC _) o;have H:=h.below lH;have ea:some a≠vb.ownBlock:=(ar H.blocks H.aI (by decide)).symm;have bU:w3.heap[a]?=some (.cells #[vl,vt,vb,.bool p.raw] 128 (0,0)):=by rw[hg.block a H.lt ea];exact H.aI
 have de:∀{e:TypeId} {v:Value} {n:Nat} {xs:List Value},(w.alloc o).ownsRow z e 1 v n xs->(v.ownBlock=none\/v.ownBlock≠vb.ownBlock)->e≠128->(w3.setCell ⟨a,2,none⟩ v').ownsRow z e 1 v n xs:=by
  intro e v n xs hv hn Jp;have hk:=hv.kept hg hn;exact au hk _ (ar hk bU Jp)
 refine⟨h.base,?_,de H.lines (cZ H.lines H.blocks (by decide)) (by decide),fun j hj=>de (H.each j hj) (cZ (H.each j hj) H.blocks (by decide)) (by decide),de H.lets ?_ (by decide),?_,?_⟩
 ·rw[heap_setCell_same bU];rfl
 ·rcases h.apart with hx|hx|hx
  ·exact .inl hx
  ·cases hb:vt.ownBlock with
   |none=>exact .inl rfl
   |some g=>exact .inr (by rw[hx];simp)
  ·exact .inr hx
 ·have:=au h3 (a:=⟨a,2,none⟩) v' (ar h3 bU (by decide));simpa [dG]using this
 ·cases hb:vt.ownBlock with
  |none=>exact .inl rfl
  |some g'=>
   cases hv':v'.ownBlock with
   |none=>exact .inr (.inl rfl)
   |some g=>
    refine .inr (.inr ?_);rcases Ep g hv' with hx|hx
    ·rcases h.apart with hy|hy|hy
     ·rw[hb]at hy;cases hy
     ·rw[hx]at hy;cases hy
     ·rw[hx,hb]at hy;exact hy
    ·have:=LF h.lets g' hb;simp;omega
end
end Aux
namespace Aux
open Go Go.RowKit Sq
structure lC (L:List B)(w:World)(a:Nat)(v0:Value)(wr:World)(p:RP):Prop where
 inv:∃vl vt vb us,j8 w.heap.size a wr p vl vt vb us
 bq:Below w.heap.size w wr
 row:wr.ownsRow w.heap.size 9 1 v0 L.length (cellsOf L)
theorem JJ {B:Nat}{w w':World}(h:Below B w.drew w'):Below B w w':=⟨h.os,h.tape,h.output,h.size,h.block⟩
theorem bF (w:World)(o:Obj):Below w.heap.size w (w.alloc o):=(Below.refl _ _).alloc (jC _) o
section
variable {L:List B} {w:World} {a:Nat} {v0:Value} {wr:World} {p:RP}
theorem lC.below {w':World}(h:lC L w a v0 wr p)(hb:Below wr.heap.size wr w'):lC L w a v0 w' p:=by
 obtain⟨⟨vl,vt,vb,us,hi⟩,ho,hr⟩:=h;exact⟨⟨vl,vt,vb,us,hi.below hb⟩,ho.trans (hb.mono ho.size),ax hr hb⟩
theorem lC.drewN (h:lC L w a v0 wr p)(n:Nat):lC L w a v0 (wr.drewN n) p:=h.below (below_drewN (Below.refl _ _) n)
theorem lC.base (h:lC L w a v0 wr p):w.heap.size<=a:=by obtain⟨⟨vl,vt,vb,us,hi⟩,-,-⟩:=h;exact hi.base
theorem lC.yb (h:lC L w a v0 wr p)(cd:p.Ok):bd wr a p:=by obtain⟨⟨vl,vt,vb,us,hi⟩,-,-⟩:=h;exact hi.yb cd.words
theorem lC.line {w1 w2:World}{vl vt vb u v2:Value}{us:List Value}{ws:List B}{o:Obj}(h:lC L w a v0 wr p)(hinv:j8 w.heap.size a wr p vl vt vb us)(av:Below wr.heap.size wr w1)
  (YT:w1.ownsRow wr.heap.size 9 1 u ws.length (cellsOf ws)) (hown2:w2.ownsRow w.heap.size 34 1 v2 (p.lines.length+1) (us++[u])) (hgrow2:(w1.alloc o).grownBy w2 vl.ownBlock):
  lC L w a v0 (w2.setCell ⟨a,0,none⟩ v2) (p.addLine ws):=by
 have h1:=h.below av;have xS:=hinv.below av;have ha:=h.base;refine⟨⟨v2,vt,vb,us++[u],j8.addLine xS (oX YT h.bq.size) rfl hown2 hgrow2⟩,?_,?_⟩
 ·refine((h1.bq.alloc h1.bq.size o).grown hgrow2 (by have:=h1.bq.size;simp;omega) fun k hk=>(xS.lines.lt k hk).1).setCell ha v2
 ·have lH:=bF w1 o;have Qb:=ax h1.row lH;have hk:=Qb.kept hgrow2 (cZ Qb (xS.below lH).lines (by decide));have bU:w2.heap[a]?=some (.cells #[vl,vt,vb,.bool p.raw] 128 (0,0)):=by
   rw[hgrow2.block a (xS.below lH).lt (ar (xS.below lH).lines (xS.below lH).aI (by decide)).symm];exact(xS.below lH).aI
  exact au hk _ (ar hk bU (by decide))
theorem lC.dC {w2:World}{vl vt vb v2:Value}{us:List Value}{o:Obj}{k:Nat}(h:lC L w a v0 wr p)(hinv:j8 w.heap.size a wr p vl vt vb us)
  (hown2:w2.ownsRow w.heap.size 3 1 v2 (p.lets.length+1) (dG p.lets++[.int .i64 (k:Int)])) (hgrow2:(wr.alloc o).grownBy w2 vt.ownBlock)
  (Ep:∀g,v2.ownBlock=some g->vt.ownBlock=some g\/g=wr.heap.size+1):lC L w a v0 (w2.setCell ⟨a,1,none⟩ v2) (p.dC k):=by
 have ha:=h.base;refine⟨⟨vl,v2,vb,us,j8.dC hinv k hown2 hgrow2 Ep⟩,?_,?_⟩
 ·refine((h.bq.alloc h.bq.size o).grown hgrow2 (by have:=h.bq.size;simp;omega) fun k hk=>(hinv.lets.lt k hk).1).setCell ha v2
 ·have lH:=bF wr o;have Qb:=ax h.row lH;have hk:=Qb.kept hgrow2 (cZ Qb (hinv.below lH).lets (by decide));have bU:w2.heap[a]?=some (.cells #[vl,vt,vb,.bool p.raw] 128 (0,0)):=by
   rw[hgrow2.block a (hinv.below lH).lt (ar (hinv.below lH).lets (hinv.below lH).aI (by decide)).symm];exact(hinv.below lH).aI
  exact au hk _ (ar hk bU (by decide))
theorem lC.addBlock {w2:World}{vl vt vb v2:Value}{us:List Value}{o:Obj}{k:Nat}(h:lC L w a v0 wr p)(hinv:j8 w.heap.size a wr p vl vt vb us)
  (hown2:w2.ownsRow w.heap.size 3 1 v2 (p.blocks.length+1) (dG p.blocks++[.int .i64 (k:Int)])) (hgrow2:(wr.alloc o).grownBy w2 vb.ownBlock)
  (Ep:∀g,v2.ownBlock=some g->vb.ownBlock=some g\/g=wr.heap.size+1):lC L w a v0 (w2.setCell ⟨a,2,none⟩ v2) (p.addBlock k):=by
 have ha:=h.base;refine⟨⟨vl,vt,v2,us,j8.addBlock hinv k hown2 hgrow2 Ep⟩,?_,?_⟩
 ·refine((h.bq.alloc h.bq.size o).grown hgrow2 (by have:=h.bq.size;simp;omega) fun k hk=>(hinv.blocks.lt k hk).1).setCell ha v2
 ·have lH:=bF wr o;have Qb:=ax h.row lH;have hk:=Qb.kept hgrow2 (cZ Qb (hinv.below lH).blocks (by decide));have bU:w2.heap[a]?=some (.cells #[vl,vt,vb,.bool p.raw] 128 (0,0)):=by
   rw[hgrow2.block a (hinv.below lH).lt (ar (hinv.below lH).blocks (hinv.below lH).aI (by decide)).symm];exact(hinv.below lH).aI
  exact au hk _ (ar hk bU (by decide))
end
end Aux
namespace Sq
open Go
theorem eI (a b:ByteArray):(a++b).toList=a.toList++b.toList:=by
 simp only[ByteArray.toList_eq];simp
def fS (s:B)(c:UInt8):B:=if c∈s then s else s++[c]
def has (s:B)(c:UInt8):Bool:=s.contains c
def only (s some:B):Bool:=s.all fun c=>has some c
def left (w:B):B:=if partOf w=115 then [104]else [45]
def RP.aj (p:RP)(w:B):Nat×Nat:=
 if partOf w=98 then(2*(p.find (ai w)).toNat+1,1)
 else if p.typeOf w=cj then(2*(p.find (ai w)).toNat,2)else(2*(p.find (ai w)).toNat,1)
end Sq
end Go.Proofs.YtmlgajhhnojdjaaGreatDoor
